import PyProof.Rows.All
import Wide.All
import OpenK.AllK
import Wide.FinOn
import Lean
import PyProof.EqAt
import PyProof.EqKinds
import PyProof.TupleCall
import PyProof.ListRange
import PyProof.P3In
import PyProof.NeData
import PyProof.NsDelKeeps
import PyProof.SliceList
import KE.KLam
import PySem.Challenge.RW_spanmap_k86_refused_wheels
set_option Elab.async false
set_option linter.all false
set_option maxRecDepth 100000
namespace HT
def sIx (n d:Nat):Option Int->Nat
 | none=>d
 | some v=>if v < 0 then (v+(n:Int)).toNat else min v.toNat n
end HT
namespace L2
open PySem
abbrev Key:=Sum Int Str
def ixN (n:Nat) (i:Int):Option Nat:=if 0<=i then (if i < n then some i.toNat else none) else if -(n:Int)<=i then some (i+n).toNat else none
def atI {α : Type} (xs:List α) (i:Int):Option α:=(ixN xs.length i).bind fun j=>xs[j]?
end L2
namespace FL
open PySem PySem.Spec PyProof.Rows L2
def clsName:Nat->Str
 | 0=>"Put" | 1=>"Widen" | 2=>"Narrow" | 3=>"Move" | 4=>"Stretch" | 5=>"Mirror" | 6=>"Deed" | 7=>"Shut" | 8=>"Open" | 9=>"Endless" | 10=>"End" | _=>""
def clsFlds:Nat->List Str
 | 0=>["span","fill"] | 1=>["fill","at","many"] | 2=>["fill","at","many"] | 3=>["fill","far"] | 4=>["fill","top","bottom"] | 5=>["fill"] | 6=>["fill"] | 7=>["place"] | 8=>["place"] | _=>[]
def fnName:Nat->Str
 | 0=>"either" | 1=>"if_both" | 2=>"if_alone" | 3=>"summed" | 4=>"_law_first" | 5=>"_law_both" | 6=>"_law_left" | 7=>"_law_sum" | 8=>"_law_none" | _=>""
inductive D where
 | non | bl (b:Bool) | int (i:Int) | str (x:Str) | tup (ds:List D) | lst (ds:List D)
 | dct (ks:List Key) (ds:List D) | ins (t:Nat) (ds:List D) | clo (m n:Nat) (ds:List D)
mutual
def flat:D->Bool
 | .non | .bl _ | .int _ | .str _=>true
 | .tup ds=>flats ds
 | _=>false
def flats:List D->Bool
 | []=>true
 | d::r=>flat d && flats r
end
def xName:Nat->Str
 | 0=>"SpanError" | 1=>"Empty" | 2=>"NoEnd" | 3=>"Clash" | 4=>"NoCount" | 5=>"NoShare" | 6=>"NoName" | 7=>"NoMark" | 8=>"NoDeed" | 9=>"NoRule" | 10=>"TooMuch" | 11=>"NoText" | _=>"NoRow"
inductive Sl where
 | no | v (d:D) | own (l:List D) | exc (t:Nat) | fr (l:List D)
abbrev FE:=List Sl->Option D
abbrev FT:=List Sl->Option Bool
abbrev FA:=List Sl->Option (List D)
def mkL (f:FA):FE:=fun ds=>(f ds).map D.lst
def qY (i:Nat):FE:=fun ds=>match ds[i]? with | some (.v d)=>some d | _=>none
def zL (i:Nat):FE:=fun ds=>match ds[i]? with | some (.v d)=>some d | some (.own l)=>some (.lst l) | _=>none
def zF (d:D):FE:=fun _=>some d
def zN (op:D->D->Option D) (fa fb:FE):FE:=fun ds=>(fa ds).bind fun x=>(fb ds).bind fun y=>op x y
def isB:D->Option Bool
 | .bl b=>some b
 | _=>none
def qA (f:FE):FT:=fun ds=>(f ds).bind isB
def xP:D->D->Option D
 | .int i,.int j=>some (.int (i+j))
 | .str x,.str y=>if x.length+y.length<=sizeLine then some (.str (x++y)) else none
 | _,_=>none
def subD:D->D->Option D
 | .int i,.int j=>some (.int (i - j))
 | _,_=>none
def divOk (j:Int):Prop:=0 < j/\j.natAbs.log2 < 9000
noncomputable instance divOkD (j:Int):Decidable (divOk j):=Classical.propDecidable _
noncomputable def jC:D->D->Option D
 | .int i,.int j=>if divOk j then some (.int (i / j)) else none
 | _,_=>none
def xV:D->D->Option D
 | .int i,.int j=>if 0 < j then some (.int (i % j)) else none
 | _,_=>none
def cmpI (p:Int->Int->Bool):D->D->Option D
 | .int i,.int j=>some (.bl (p i j))
 | _,_=>none
def andT (c d:FT):FT:=fun ds=>(c ds).bind fun b=>if b=true then d ds else some false
def orT (c d:FT):FT:=fun ds=>(c ds).bind fun b=>if b=true then some true else d ds
def notT (c:FT):FT:=fun ds=>(c ds).map not
def andV (f g:FE):FE:=fun ds=>(f ds).bind fun d=>match d with | .bl true=>g ds | .bl false=>some (.bl false) | _=>none
def orV (f g:FE):FE:=fun ds=>(f ds).bind fun d=>match d with | .bl true=>some (.bl true) | .bl false=>g ds | _=>none
def notV (f:FE):FE:=fun ds=>(f ds).bind fun d=>match d with | .bl b=>some (.bl (!b)) | _=>none
def ifV (c:FT) (f g:FE):FE:=fun ds=>(c ds).bind fun b=>if b=true then f ds else g ds
def chain (op op':D->D->Option D) (fa fb fc:FE):FE:=fun ds=>(fa ds).bind fun x=>(fb ds).bind fun y=>(op x y).bind fun z=>match z with
 | .bl true=>(fc ds).bind fun w=>op' y w
 | .bl false=>some (.bl false)
 | _=>none
def zD (f:FE) (g:FA):FA:=fun ds=>(f ds).bind fun x=>(g ds).map fun r=>x::r
def zS:FA:=fun _=>some []
def qE (f:FA):FA:=fun ds=>(f ds).bind fun l=>if l.length<=sizeLine then some l else none
def mkT (f:FA):FE:=fun ds=>(f ds).map D.tup
def ixD:D->D->Option D
 | .lst l,.int i=>atI l i
 | .tup l,.int i=>atI l i
 | .str x,.int i=>if x.length<=sizeLine then (atI x.cps.toList i).map fun c=>.str ⟨#[c]⟩ else none
 | _,_=>none
inductive Ret where
 | val (d:D) | fresh (l:List D) | any (d:D)
def retV:Ret->Option D
 | .val d=>some d
 | .fresh l=>some (.lst l)
 | .any _=>none
def retF:Ret->Option (List D)
 | .fresh l=>some l
 | _=>none
def retA:Ret->Option D
 | .any d=>some d
 | _=>none
def callA (n:Nat) (F:List D->Option Ret) (g:List Sl->Option (List D)):List Sl->Option D:=fun ds=>(g ds).bind fun l=>if l.length=n then (F l).bind retA else none
def zX (n:Nat) (F:List D->Option Ret) (g:FA):FE:=fun ds=>(g ds).bind fun l=>if l.length=n then (F l).bind retV else none
def wY (n:Nat) (F:List D->Option Ret) (g:FA):FA:=fun ds=>(g ds).bind fun l=>if l.length=n then (F l).bind retF else none
def callB (F:List D->Option D) (g:FA):FE:=fun ds=>(g ds).bind F
def lenD:List D->Option D
 | [.lst l]=>some (.int l.length)
 | [.tup l]=>some (.int l.length)
 | [.str x]=>if x.length<=sizeLine then some (.int x.length) else none
 | _=>none
inductive Out where
 | nx (ds:List Sl) | rt (r:Ret) | bk (ds:List Sl) | ct (ds:List Sl)
abbrev FS:=List Sl->Option Out
def qR:FS:=fun ds=>some (.nx ds)
def qW (f g:FS):FS:=fun ds=>(f ds).bind fun o=>match o with | .nx ds'=>g ds' | o=>some o
def ifG (c:FT) (f g:FS):FS:=fun ds=>(c ds).bind fun b=>if b=true then f ds else g ds
def jT (i:Nat) (f:FE):FS:=fun ds=>(f ds).map fun d=>.nx (ds.set i (.v d))
def setOG (i:Nat) (f:FA):FS:=fun ds=>(f ds).map fun l=>.nx (ds.set i (.own l))
def flatR (d:D):Option Out:=if flat d=true then some (.rt (.val d)) else none
def retG (f:FE):FS:=fun ds=>(f ds).bind flatR
def flatF (l:List D):Option Out:=if flats l=true then some (.rt (.fresh l)) else none
def retOG (f:FA):FS:=fun ds=>(f ds).bind flatF
def retXG (i:Nat):FS:=fun ds=>match ds[i]? with | some (.own l)=>flatF l | _=>none
def putG (i:Nat) (fk fe:FE):FS:=fun ds=>match ds[i]? with
 | some (.own l) => (fe ds).bind fun d => (fk ds).bind fun k => match k with
   | .int n=>(ixN l.length n).map fun j=>.nx (ds.set i (.own (l.set j d)))
   | _=>none
 | _=>none
def appG (i:Nat) (fe:FE):FS:=fun ds=>match ds[i]? with
 | some (.own l)=>(fe ds).bind fun d=>if l.length < sizeLine then some (.nx (ds.set i (.own (l++[d])))) else none
 | _=>none
def args (n:Nat) (ds:List D):List Sl:=ds.map Sl.v++List.replicate (n - ds.length) Sl.no
def viaA (f:FE) (k:D->Option (List D)):FA:=fun ds=>(f ds).bind k
def rangeD (lo:Int) (n:Nat):List D:=(List.range n).map fun (k:Nat)=>D.int (lo+(k:Int))
def okR (j:Int):Prop:=-(2 ^ 62)<=j/\j < 2 ^ 62
noncomputable instance okRD (j:Int):Decidable (okR j):=Classical.propDecidable _
noncomputable def rng1 (f:FE):FA:=fun ds=>(f ds).bind fun d=>match d with | .int j=>if okR j then some (rangeD 0 j.toNat) else none | _=>none
def zV (i:Nat):D->List Sl->Option (List Sl):=fun d ds=>some (ds.set i (.v d))
def tgNil:List D->List Sl->Option (List Sl)
 | [],ds=>some ds
 | _,_=>none
def zO (g:D->List Sl->Option (List Sl)) (h:List D->List Sl->Option (List Sl)):List D->List Sl->Option (List Sl)
 | d::r,ds=>(g d ds).bind fun ds'=>h r ds'
 | _,_=>none
def tupG (n:Nat) (h:List D->List Sl->Option (List Sl)):D->List Sl->Option (List Sl)
 | .tup l,ds=>if l.length=n then h l ds else none
 | _,_=>none
def jK (ga:D->List Sl->Option (List Sl)) (body:FS):List D->List Sl->Option Out
 | [],ds=>some (.nx ds)
 | d :: r, ds => (ga d ds).bind fun ds1 => (body ds1).bind fun o => match o with
   | .nx ds2=>jK ga body r ds2
   | .ct ds2=>jK ga body r ds2
   | .bk ds2=>some (.nx ds2)
   | .rt r=>some (.rt r)
def forG (fi:FA) (ga:D->List Sl->Option (List Sl)) (body:FS):FS:=fun ds=>(fi ds).bind fun items=>jK ga body items ds
def compL (ga:D->List Sl->Option (List Sl)) (tt:FT) (fe:FE) (s0:List Sl):List D->Option (List D)
 | []=>some []
 | d::r=>(ga d s0).bind fun ds1=>(tt ds1).bind fun b=>if b=true then (fe ds1).bind fun y=>(compL ga tt fe s0 r).map fun ys=>y::ys else compL ga tt fe s0 r
def yB (mp:List (Option Nat)) (ds:List Sl):List Sl:=mp.map fun o=>match o with
 | some j=>(match ds[j]? with | some (.v d)=>.v d | _=>.no)
 | none=>.no
def compG (fi:FA) (mp:List (Option Nat)) (ga:D->List Sl->Option (List Sl)) (tt:FT) (fe:FE):FA:=fun ds=>(fi ds).bind fun items=>if items.length<=sizeLine then compL ga tt fe (yB mp ds) items else none
def tyD:D->Option String
 | .non=>some "NoneType"
 | .bl _=>some "bool"
 | .int _=>some "int"
 | .str _=>some "str"
 | .tup _=>some "tuple"
 | .lst _=>some "list"
 | .dct _ _=>some "dict"
 | .ins _ _=>none
 | .clo _ _ _=>none
def kitN:List String:=["NoneType","bool","int","str","tuple","list","dict"]
def kitT:List String:=["bool","int","str","tuple","list","dict"]
def kitF (t T:String):Option Bool:=if t∈kitN/\T∈kitT then some (t == T || (t == "bool" && T == "int")) else none
def isiD (T:String) (d:D):Option D:=(tyD d).bind fun t=>(kitF t T).map D.bl
def isiG (T:String) (f:FE):FE:=fun ds=>(f ds).bind (isiD T)
def blsD:List D->Option (List Bool)
 | []=>some []
 | .bl b::r=>(blsD r).map fun bs=>b::bs
 | _=>none
def allD:List D->Option D
 | [.lst l]=>(blsD l).map fun bs=>.bl (bs.all id)
 | _=>none
def negD:D->Option D
 | .int i=>some (.int (-i))
 | _=>none
def un1 (op:D->Option D) (f:FE):FE:=fun ds=>(f ds).bind op
def flV (f:FE):FE:=fun ds=>(f ds).bind fun d=>if flat d=true then some d else none
def retDG (f:FE):FS:=fun ds=>(f ds).map fun d=>.rt (.val d)
def retAG (f:FE):FS:=fun ds=>(f ds).map fun d=>.rt (.any d)
def runG (g:FS) (n:Nat):List D->Option Ret:=fun ds=>match g (args n ds) with
 | some (.rt r)=>some r
 | some (.nx _)=>some (.val .non)
 | _=>none
def CPowB (i j:Int):Prop:=0<=j/\(Builtin.Int.intBits i:Int) * j<=2 ^ 27
mutual
def toPy:D->PyData
 | .non=>.none
 | .bl b=>.bool b
 | .int i=>.int i
 | .str x=>.str x
 | .tup ds=>.tuple (toPys ds)
 | .lst ds=>.list (toPys ds)
 | .dct _ _=>.none
 | .ins _ _=>.none
 | .clo _ _ _=>.none
def toPys:List D->List PyData
 | []=>[]
 | d::r=>toPy d::toPys r
end
mutual
def shal:Nat->D->Bool
 | _,.non=>true
 | _,.bl _=>true
 | _,.int _=>true
 | _,.str x=>PyData.strOk x
 | n,.tup ds=>shals n ds
 | n,.lst ds=>shals n ds
 | _,.dct _ _=>false
 | _,.ins _ _=>false
 | _,.clo _ _ _=>false
def shals:Nat->List D->Bool
 | _,[]=>true
 | 0,_::_=>false
 | n+1,d::r=>shal n d && shals (n+1) r
end
def eqvD (x y:D):Bool:=PyData.eqv (toPy x) (toPy y)
def eqvs (x y:List D):Bool:=PyData.eqvAll (toPys x) (toPys y)
def eqD (x y:D):Option D:=if shal 40 x=true/\shal 40 y=true then some (.bl (eqvD x y)) else none
def neD (x y:D):Option D:=if shal 40 x=true/\shal 40 y=true then some (.bl (!eqvD x y)) else none
def isD:D->D->Option D
 | .non,.non=>some (.bl true)
 | _,.non=>some (.bl false)
 | _,_=>none
def notD:D->D->Option D
 | .non,.non=>some (.bl false)
 | _,.non=>some (.bl true)
 | _,_=>none
def asLT:D->Option (List D)
 | .lst l=>some l
 | .tup l=>some l
 | _=>none
noncomputable instance mulOkD (i j:Int):Decidable (IntMulOk i j):=Classical.propDecidable _
noncomputable instance powOkD (i j:Int):Decidable (CPowB i j):=Classical.propDecidable _
noncomputable def yF:D->D->Option D
 | .int i,.int j=>if IntMulOk i j then some (.int (i * j)) else none
 | _,_=>none
noncomputable def powD:D->D->Option D
 | .int i,.int j=>if CPowB i j then some (.int (i ^ j.toNat)) else none
 | _,_=>none
def catA (fa fb:FE):FA:=fun ds=>(fa ds).bind fun x=>(fb ds).bind fun y=>match x,y with
 | .lst a,.lst b=>if a.length+b.length<=sizeLine then some (a++b) else none
 | _,_=>none
def noP:List Sl->Option (Option Int):=fun _=>some none
def soP (f:FE):List Sl->Option (Option Int):=fun ds=>(f ds).bind fun d=>match d with | .int i=>some (some i) | _=>none
def cutD (l:List D) (lo hi:Option Int):List D:=(l.drop (HT.sIx l.length 0 lo)).take (HT.sIx l.length l.length hi - HT.sIx l.length 0 lo)
def sliA (f:FE) (lo hi:List Sl->Option (Option Int)):FA:=fun ds=>(f ds).bind fun d=>(lo ds).bind fun a=>(hi ds).bind fun b=>match d with
 | .lst l=>some (cutD l a b)
 | _=>none
def lisA (f:FE):FA:=fun ds=>(f ds).bind asLT
def mxD:List D->Option D
 | [.int i,.int j]=>some (.int (if j > i then j else i))
 | _=>none
def mnD:List D->Option D
 | [.int i,.int j]=>some (.int (if j < i then j else i))
 | _=>none
def absD:List D->Option D
 | [.int i]=>some (.int (if i < 0 then -i else i))
 | _=>none
def truD:D->Option Bool
 | .non=>some false
 | .bl b=>some b
 | .int i=>some (i != 0)
 | .str x=>if x.length<=sizeLine then some ((x.length:Int) != 0) else none
 | .tup l=>some (!l.isEmpty)
 | .lst l=>some (!l.isEmpty)
 | _=>none
def testT (f:FE):FT:=fun ds=>(f ds).bind truD
def relS (i:Nat) (ds:List Sl):List Sl:=match ds[i]? with | some (.own l)=>ds.set i (.v (.lst l)) | _=>ds
def whileN (c:FT) (b:FS):Nat->FS
 | 0,_=>none
 | n + 1, ds => (c ds).bind fun k => if k = true then (b ds).bind fun o => match o with
   | .nx ds2=>whileN c b n ds2
   | .ct ds2=>whileN c b n ds2
   | .bk ds2=>some (.nx ds2)
   | .rt r=>some (.rt r) else some (.nx ds)
def asgG (ga:D->List Sl->Option (List Sl)) (f:FE):FS:=fun ds=>(f ds).bind fun d=>(ga d ds).map .nx
def extG (i:Nat) (fe:FA):FS:=fun ds=>match ds[i]? with
 | some (.own l)=>(fe ds).bind fun d=>if l.length+d.length<=sizeLine then some (.nx (ds.set i (.own (l++d)))) else none
 | _=>none
def clrG (i:Nat):FS:=fun ds=>match ds[i]? with
 | some (.own l)=>some (.nx (ds.set i (.own [])))
 | _=>none
def anyD:List D->Option D
 | [.lst l]=>(blsD l).map fun bs=>.bl (bs.any id)
 | _=>none
def ltD:D->D->Option D:=cmpI fun i j=>decide (i < j)
def leD:D->D->Option D:=cmpI fun i j=>decide (i<=j)
def gtD:D->D->Option D:=cmpI fun i j=>decide (j < i)
def geD:D->D->Option D:=cmpI fun i j=>decide (j<=i)
noncomputable def rng2 (fa fb:FE):FA:=fun ds=>(fa ds).bind fun x=>(fb ds).bind fun y=>match x,y with
 | .int i,.int j=>if okR i/\okR j then some (rangeD i (j - i).toNat) else none
 | _,_=>none
def range3D (lo c:Int) (n:Nat):List D:=(List.range n).map fun (k:Nat)=>D.int (lo+(k:Int) * c)
def steps3 (i j c:Int):Nat:=if i < j then ((j - i - 1) / c+1).toNat else 0
def okR3 (i j c:Int):Prop:=-(2 ^ 61)<=i/\i < 2 ^ 61/\-(2 ^ 61)<=j/\j < 2 ^ 61/\0 < c/\c < 1000000
noncomputable instance okR3D (i j c:Int):Decidable (okR3 i j c):=Classical.propDecidable _
noncomputable def rng3 (fa fb fc:FE):FA:=fun ds=>(fa ds).bind fun x=>(fb ds).bind fun y=>(fc ds).bind fun z=>match x,y,z with
 | .int i,.int j,.int c=>if okR3 i j c then some (range3D i c (steps3 i j c)) else none
 | _,_,_=>none
def revA (f:FE):FA:=fun ds=>(f ds).bind fun d=>match d with
 | .lst l=>some l.reverse
 | _=>none
def augA (i:Nat) (f:FE):FS:=fun ds=>(qY i ds).bind fun x=>(f ds).bind fun y=>match x,y with
 | .int a,.int b=>some (.nx (ds.set i (.v (.int (a+b)))))
 | _,_=>none
def parG (i j:Nat) (f:FA):FS:=fun ds=>(f ds).bind fun l=>match l with
 | [a,b]=>some (.nx ((ds.set i (.v a)).set j (.v b)))
 | _=>none
def int1D:List D->Option D
 | [.int i]=>some (.int i)
 | [.bl b]=>some (.int (if b then 1 else 0))
 | _=>none
abbrev Fun2:=D->List D->Option Ret
mutual
def noclo:D->Bool
 | .tup ds=>noclos ds
 | .lst ds=>noclos ds
 | .dct _ ds=>noclos ds
 | .ins _ ds=>noclos ds
 | .clo _ _ _=>false
 | _=>true
def noclos:List D->Bool
 | []=>true
 | d::r=>noclo d && noclos r
end
def capsA:List Nat->FA
 | []=>fun _=>some []
 | i::r=>fun ds=>(qY i ds).bind fun d=>(capsA r ds).map fun l=>d::l
def lamA (m n:Nat) (is:List Nat) (g:FA):FA:=fun ds=>(g ds).bind fun l=>(capsA is ds).map fun cs=>l++[.clo m n cs]
def callW (Φ : Fun2) (i:Nat) (g:FA):FE:=fun ds=>(qY i ds).bind fun f=>(g ds).bind fun l=>(Φ f l).bind retV
def lamR (g:FE) (caps as:List D):Option Ret:=(g ((as++caps).map Sl.v)).bind fun d=>if flat d=true then some (.val d) else none
def ncR:Ret->Bool
 | .val d=>noclo d
 | .fresh l=>noclos l
 | .any d=>noclo d
def ncF (F:List D->Option Ret):List D->Option Ret:=fun l=>(F l).bind fun r=>if ncR r=true then some r else none
end FL
namespace FL
open PySem PyProof.Rows L2
def fldD (ix:List (Nat×Nat)):D->Option D
 | .ins t ds=>(ix.lookup t).bind fun i=>ds[i]?
 | _=>none
def fldG (ix:List (Nat×Nat)) (f:FE):FE:=fun ds=>(f ds).bind (fldD ix)
def methR (n:Nat) (cs:List Nat) (F:Nat->List D->Option Ret) (o:D) (l:List D):Option Ret:=match o with
 | .ins t es=>if t∈cs/\l.length=n then F t (.ins t es::l) else none
 | _=>none
def methV (n:Nat) (cs:List Nat) (F:Nat->List D->Option Ret) (fo:FE) (g:FA):FE:=fun ds=>(fo ds).bind fun o=>(g ds).bind fun l=>(methR n cs F o l).bind retV
def methF (n:Nat) (cs:List Nat) (F:Nat->List D->Option Ret) (fo:FE) (g:FA):FA:=fun ds=>(fo ds).bind fun o=>(g ds).bind fun l=>(methR n cs F o l).bind retF
def makeG (t n:Nat) (G:List D->Option (List D)) (g:FA):FE:=fun ds=>(g ds).bind fun l=>if l.length=n/\flats l=true then (G l).map (D.ins t) else none
end FL
namespace FL
open PySem
def ifX (c:FT) (a b:List Sl->Bool):List Sl->Bool:=fun ds=>match c ds with
 | some true=>a ds
 | some false=>b ds
 | none=>false
def neverX:List Sl->Bool:=fun _=>false
def alwaysX:List Sl->Bool:=fun _=>true
def seqX (f:FS) (x:List Sl->Bool):List Sl->Bool:=fun ds=>match f ds with
 | some (.nx ds')=>x ds'
 | _=>false
def callX (n:Nat) (R:List D->Bool) (g:FA):List Sl->Bool:=fun ds=>match g ds with
 | some l=>decide (l.length=n) && R l
 | none=>false
def runX (x:List Sl->Bool) (n:Nat):List D->Bool:=fun ds=>x (args n ds)
def dropG (f:FE):FS:=fun ds=>(f ds).map fun _=>.nx ds
def goneO (i:Nat):Out->Out
 | .nx ds=>.nx (ds.set i .no)
 | .bk ds=>.bk (ds.set i .no)
 | .ct ds=>.ct (ds.set i .no)
 | .rt r=>.rt r
def isxG (i:Nat) (tb:List (Nat×Bool)):FE:=fun ds=>match ds[i]? with
 | some (.exc t)=>(tb.lookup t).map D.bl
 | _=>none
def enumD (l:List D):List D:=l.mapIdx fun i d=>.tup [.int (i:Int),d]
def enuA (f:FE):FA:=fun ds=>(f ds).bind fun d=>match d with
 | .lst l=>some (enumD l)
 | _=>none
def orX (a b:List Sl->Bool):List Sl->Bool:=fun ds=>a ds || b ds
def argsE (n t:Nat):List Sl:=.exc t::List.replicate (n - 1) .no
def runH (g:FS) (n:Nat):Nat->Option Ret:=fun t=>match g (argsE n t) with
 | some (.rt r)=>some r
 | _=>none
def callHF (i:Nat) (F:Nat->Option Ret):List Sl->Option (List D):=fun ds=>match ds[i]? with
 | some (.exc t)=>(F t).bind retF
 | _=>none
def okRB (i j:Int):Prop:=-(2 ^ 61)<=i/\i < 2 ^ 61/\-(2 ^ 61)<=j/\j < 2 ^ 61
noncomputable instance okRBD (i j:Int):Decidable (okRB i j):=Classical.propDecidable _
noncomputable def rngB (fa fb fc:FE):FA:=fun ds=>(fa ds).bind fun x=>(fb ds).bind fun y=>(fc ds).bind fun z=>match x,y,z with
 | .int i,.int j,.int c=>if c = -1/\okRB i j then some (range3D i (-1) (i - j).toNat) else none
 | _,_,_=>none
def flA (f:FA):FA:=fun ds=>(f ds).bind fun l=>if flats l=true then some l else none
def getO (i:Nat):FE:=fun ds=>match ds[i]? with
 | some (.own l)=>if flats l=true then some (.lst l) else none
 | _=>none
end FL
namespace FL
def sltW (f:FE) (lo hi:List Sl->Option (Option Int)):FE:=fun ds=>(f ds).bind fun d=>(lo ds).bind fun a=>(hi ds).bind fun b=>match d with
 | .tup l=>some (.tup (cutD l a b))
 | _=>none
end FL
namespace FL
open PySem PyProof.Rows L2
def lamF (n:Nat) (g:FE) (caps as:List D):Option Ret:=if as.length=n then lamR g caps as else none
def fnF (n:Nat) (F:List D->Option Ret) (_ as:List D):Option Ret:=if as.length=n then F as else none
def phiOf (l:List ((Nat×Nat)×(List D->List D->Option Ret))):Fun2:=fun f as=>match f with
 | .clo m n caps=>(l.lookup (m,n)).bind fun F=>F caps as
 | _=>none
def rngL (fa fb:FE):FA:=fun ds=>(fa ds).bind fun x=>(fb ds).bind fun y=>match x,y with
 | .int i,.int j=>some (rangeD i (j - i).toNat)
 | _,_=>none
@[simp] theorem rngL_eq (fa fb:FE) (ds:List Sl):rngL fa fb ds=(fa ds).bind fun x=>(fb ds).bind fun y=>match x,y with
 | .int i,.int j=>some (rangeD i (j - i).toNat)
 | _,_=>none:=rfl
def tryG3 (i t u v:Nat) (g:FS) (x y z:List Sl->Bool) (h:FS):FS:=fun ds=>if x ds=true then (h (ds.set i (.exc t))).map (goneO i) else if y ds=true then (h (ds.set i (.exc u))).map (goneO i) else if z ds=true then (h (ds.set i (.exc v))).map (goneO i) else g ds
end FL
namespace L2
open PySem PySem.Spec PyProof.Rows
def keyIs:Key->Value->Bool
 | .inl k,v=>Value.isInt k v
 | .inr x,v=>Value.isStrOf x v
def keyH (w:World):Key->Int
 | .inl k=>hashInt k
 | .inr x=>hashStr w x
theorem jL:∀ {k:Key} {v:Value},keyIs k v=true->(∃ i t,k=Sum.inl i/\v=Value.int i t) \/ (∃ x t,k=Sum.inr x/\v=Value.str x t)
 | .inl i, v, h => by
   obtain ⟨t,e⟩:=Value.isInt_shape (k:=i) (v:=v) h
   exact .inl ⟨i,t,rfl,e⟩
 | .inr x, v, h => by
   obtain ⟨t,e⟩:=Value.isStrOf_shape (x:=x) (v:=v) h
   exact .inr ⟨x,t,rfl,e⟩
theorem key_ll (a b:Int):decide ((Sum.inl a:Key)=Sum.inl b)=(a == b):=by
 by_cases e:a=b
 · subst e; simp
 · have h : ¬ (Sum.inl a : Key) = Sum.inl b := fun q => e (Sum.inl.inj q)
   rw [decide_eq_false h]
   exact (beq_eq_false_iff_ne.mpr e).symm
theorem key_rr (a b:Str):decide ((Sum.inr a:Key)=Sum.inr b)=decide (a=b):=by
 by_cases e:a=b
 · subst e; simp
 · have h : ¬ (Sum.inr a : Key) = Sum.inr b := fun q => e (Sum.inr.inj q)
   rw [decide_eq_false h,decide_eq_false e]
theorem key_lr (a:Int) (b:Str):decide ((Sum.inl a:Key)=Sum.inr b)=false:=decide_eq_false (fun q=>nomatch q)
theorem key_rl (a:Str) (b:Int):decide ((Sum.inr a:Key)=Sum.inl b)=false:=decide_eq_false (fun q=>nomatch q)
def mixKind (prog:Program) (w:World):PySem.KeyKind prog w Key where
 is:=keyIs
 hash:=keyH w
 inj:=fun v a b ha hb=>by
  rcases jL ha with ⟨i,t,rfl,rfl⟩ | ⟨x,t,rfl,rfl⟩
  · rcases jL hb with ⟨j, u, rfl, e⟩ | ⟨y, u, rfl, e⟩
    · injection e with e1 _; rw [e1]
    · exact nomatch e
  · rcases jL hb with ⟨j, u, rfl, e⟩ | ⟨y, u, rfl, e⟩
    · exact nomatch e
    · injection e with e1 _; rw [e1]
 byValue:=fun k v h=>by
  rcases jL h with ⟨i,t,rfl,rfl⟩ | ⟨x,t,rfl,rfl⟩ <;> rfl
 pyHash:=fun hv h=>by
  rcases jL hv with ⟨i,t,rfl,rfl⟩ | ⟨x,t,rfl,rfl⟩
  · exact wpAny_pyHash_int h
  · exact wpAny_pyHash_str h
 eqBool:=fun hu hv h=>by
  rcases jL hu with ⟨i,t,rfl,rfl⟩ | ⟨x,t,rfl,rfl⟩
  · rcases jL hv with ⟨j, u, rfl, rfl⟩ | ⟨y, u, rfl, rfl⟩
    · rw [key_ll] at h; exact wpAny_eqBool_int h
    · rw [key_lr] at h; exact SeqAt.EqAt.int_str i t y u _ _ _ _ h
  · rcases jL hv with ⟨j, u, rfl, rfl⟩ | ⟨y, u, rfl, rfl⟩
    · rw [key_rl] at h; exact SeqAt.EqAt.str_int x t j u _ _ _ _ h
    · rw [key_rr] at h; exact wpAny_eqBool_str h
 «strs»:=fun k x t v h=>by
  rcases jL h with ⟨i,u,rfl,e⟩ | ⟨y,u,rfl,e⟩
  · exact nomatch e
  · injection e with e1 _
    subst e1
    cases v <;> rfl
end L2
namespace L2
open PySem PySem.Spec PyProof.Rows
inductive V where
 | non | bl (b:Bool) | int (i:Int) | str (x:Str) | byt (b:Array UInt8) | flt (b:UInt64) | ref (a:Addr) | ty (n:String)
 deriving DecidableEq
def RelV:V->Value->Prop
 | .non,u=>u=Value.none
 | .bl b,u=>u=Value.bool b
 | .int i,u=>∃ t,u=Value.int i t
 | .str x,u=>∃ t,u=Value.str x t
 | .byt b,u=>∃ t,u=Value.bytes b t
 | .flt b,u=>∃ t,u=Value.float b t
 | .ref a,u=>u=Value.ref a
 | .ty n,u=>u=Value.type n
abbrev Vals:List V->List Value->Prop:=Paired RelV
theorem Vals.length {xs:List V} {us:List Value} (r:Vals xs us):xs.length=us.length:=Paired.length r
theorem Vals.get:∀ {xs:List V} {us:List Value} {i:Nat} {x:V},Vals xs us->xs[i]? = some x->∃ u,us[i]? = some u/\RelV x u
 | _,_,_,_,.nil,e=>by simp at e
 | _,_,0,_,.cons r _,e=>by simp at e; subst e; exact ⟨_,rfl,r⟩
 | _, _, i + 1, x, .cons _ t, e => by
   obtain ⟨u,h1,h2⟩:=Vals.get (i:=i) (x:=x) t (by simpa using e)
   exact ⟨u,by simpa using h1,h2⟩
theorem Vals.set {x:V} {u:Value} (r:RelV x u):∀ {xs:List V} {us:List Value} (i:Nat),Vals xs us->Vals (xs.set i x) (us.set i u)
 | _,_,_,.nil=>.nil
 | _,_,0,.cons _ t=>.cons r t
 | _,_,i+1,.cons q t=>.cons q (Vals.set r i t)
theorem Vals.append:∀ {xs ys:List V} {us ws:List Value},Vals xs us->Vals ys ws->Vals (xs++ys) (us++ws)
 | _,_,_,_,.nil,s=>s
 | _,_,_,_,.cons r t,s=>.cons r (Vals.append t s)
theorem Vals.take:∀ {xs:List V} {us:List Value} (n:Nat),Vals xs us->Vals (xs.take n) (us.take n)
 | _,_,0,_=>.nil
 | _,_,_+1,.nil=>.nil
 | _,_,n+1,.cons r t=>.cons r (Vals.take n t)
theorem Vals.drop:∀ {xs:List V} {us:List Value} (n:Nat),Vals xs us->Vals (xs.drop n) (us.drop n)
 | _,_,0,r=>r
 | _,_,_+1,.nil=>.nil
 | _,_,n+1,.cons _ t=>Vals.drop n t
def RelO:Option V->Option Value->Prop
 | some v,some u=>RelV v u
 | none,none=>True
 | _,_=>False
def KV {κ : Type} : List (κ×V)->List (κ×Value)->Prop:=Paired fun (p : κ×V) (q : κ×Value)=>p.1=q.1/\RelV p.2 q.2
def kV:Key->V
 | .inl i=>.int i
 | .inr x=>.str x
inductive HO where
 | lst (xs:List V)
 | tup (xs:List V)
 | dK (kvs:List (Key×V)) | dT (kvs:List (List Key×V))
 | set (S:Int->Bool) (n:Nat)
 | ins (C dx:Addr) (fs:List (Str×V))
 | own (x:Addr)
 | xd (fs:List (Str×V))
 | met (f x:Addr)
 | rng (lo hi:Int)
 | frz (o:Obj) (u:HO)
 | tbl (q:Nat->Nat->Str)
 | ext (φ : Heap->Prop)
abbrev Hp:=Addr->Option HO
def upd (H:Hp) (a:Addr) (o:HO):Hp:=fun b=>if b=a then some o else H b
theorem qS {H:Hp} {a:Addr} {o:HO} : upd H a o a=some o:=by unfold upd; rw [if_pos rfl]
theorem qC {H:Hp} {a b:Addr} {o:HO} (h:b≠a):upd H a o b=H b:=by unfold upd; rw [if_neg h]
theorem jS {H:Hp} {a b:Addr} {o:HO} (h:H a=some o) (h':H b=none):a≠b:=by
 intro e; subst e; rw [h] at h'; cases h'
def TblOk (H:Hp) (q:Nat->Nat->Str) (ps:Array Value):Prop:=TriplesOk ps.toList/\∀ pos v,codeAmong pos ps.toList=some v->∃ c o u vs t,v = .ref c/\H c=some (.frz o u)/\o.data = .fields vs/\vs[1]? = some (.str (q pos.line pos.col) t)
def Fixed:HO->Prop
 | .tup _=>True
 | .frz o _=>∃ vs,o.data = .fields vs
 | _=>False
def Fx:={ u:HO // Fixed u }
section
variable (P:Program) (w:World)
def ObjOk (H:Hp) (h:Heap) (a:Addr):HO->Prop
 | .lst xs=>xs.length<=sizeLine/\∃ (its:List Value) (n:Nat),Vals xs its/\h.get? a=some { cls:=.type "list",data:=.seq its.toArray n }
 | .tup xs=>xs.length<=sizeLine/\∃ its:List Value,Vals xs its/\IsTup h a its.toArray
 | .dK kvs=>kvs.length<=sizeLine/\(a == sysModules)=false/\∃ vs,KV kvs vs/\h.DictOf (mixKind P w) a vs
 | .dT kvs=>kvs.length<=sizeLine/\(a == sysModules)=false/\∃ xs:List (List Key×Addr×Value),
    Paired (fun (p:List Key×V) (q:List Key×Addr×Value)=>p.1=q.1/\H q.2.1=some (.tup (p.1.map kV))/\RelV p.2 q.2.2) kvs xs ∧
    ∃ o es ep,h.get? a=some o/\o.ExactDict/\o.data = .dict es ep/\es.toList=xs.map (entryOfKey (tupleKind (mixKind P w)))/\(xs.map (·.1)).Nodup
 | .set S n=>h.SetOf (intKind P w) a S n
 | .ins C dx fs=>H dx=some (.own a)/\fs.length<=1000/\dx≠a/\h.get? a=some (PySem.W.instObj C dx) ∧
    ∃ mA,h.Ns1 dx mA/\(∀ f,RelO (fs.lookup f) (mA f))/\PySem.Within mA (fs.map (·.1))
 | .own _=>∃ o,h.get? a=some o
 | .xd fs=>∃ mA,h.Ns1 a mA/\∀ f,RelO (fs.lookup f) (mA f)
 | .rng lo hi=>∃ t u v,h.get? a=some { cls:=.type "range",data:=.fields #[.int lo t,.int hi u,.int 1 v] }
 | .frz o u=>h.get? a=some o/\ObjOk H h a u
 | .tbl q=>∃ ps,h.get? a=some (PySem.W.tabObj ps)/\TblOk H q ps
 | .met f x=>h.get? a=some (PySem.W.methodObj (.ref f) (.ref x))
 | .ext φ=>φ h/\(∃ o,h.get? a=some o)/\∀ h1 h2:Heap,φ h1->(∀ o,h1.get? a=some o->h2.get? a=some o)->φ h2
def HOk (H:Hp) (h:Heap):Prop:=∀ a o,H a=some o->ObjOk P w H h a o
end
section
variable {P:Program} {w:World} {H H':Hp} {h h':Heap} {a:Addr} {o:HO}
theorem ObjOk.lt (x:ObjOk P w H h a o):a < h.objs.size:=by
 cases o with
 | lst xs=>obtain ⟨_,_,_,_,e⟩:=x; exact Heap.lt_size e
 | tup xs=>obtain ⟨_,_,_,p⟩:=x; exact p.lt
 | dK kvs=>obtain ⟨_,_,_,_,o,_,_,e,_⟩:=x; exact Heap.lt_size e
 | dT kvs=>obtain ⟨_,_,_,_,o,_,_,e,_⟩:=x; exact Heap.lt_size e
 | set S n=>obtain ⟨o,_,_,_,e,_⟩:=x; exact Heap.lt_size e
 | ins C dx fs=>obtain ⟨_,_,_,e,_⟩:=x; exact Heap.lt_size e
 | own y=>obtain ⟨_,e⟩:=x; exact Heap.lt_size e
 | xd fs=>obtain ⟨_,⟨_,_,_,e,_⟩,_⟩:=x; exact Heap.lt_size e
 | rng lo hi=>obtain ⟨_,_,_,e⟩:=x; exact Heap.lt_size e
 | frz ob u=>obtain ⟨e,_⟩:=x; exact Heap.lt_size e
 | tbl q=>obtain ⟨_,e,_⟩:=x; exact Heap.lt_size e
 | met f y=>exact Heap.lt_size (show h.get? a=some _ from x)
 | ext φ=>obtain ⟨_,⟨_,e⟩,_⟩:=x; exact Heap.lt_size e
theorem Paired.mapP {α β : Type} {F G : α->β->Prop} : ∀ {l₁ : List α} {l₂ : List β},Paired F l₁ l₂->(∀ a b,F a b->G a b)->Paired G l₁ l₂
 | _,_,.nil,_=>.nil
 | _,_,.cons r t,f=>.cons (f _ _ r) (Paired.mapP t f)
theorem ObjOk.stay (x:ObjOk P w H h a o) (k:∀ b u,(b=a \/ H b=some (.own a))->h.get? b=some u->h'.get? b=some u)
  (ho:∀ b,H b=some (.own a)->H' b=some (.own a)) (ht:∀ b (xs:Fx),H b=some xs.1->H' b=some xs.1):ObjOk P w H' h' a o:=by
 induction o with
 | lst xs=>obtain ⟨z,its,n,r,e⟩:=x; exact ⟨z,its,n,r,k _ _ (.inl rfl) e⟩
 | tup xs=>obtain ⟨z,its,r,ob,e,c⟩:=x; exact ⟨z,its,r,ob,k _ _ (.inl rfl) e,c⟩
 | dK kvs=>obtain ⟨z,y,vs,r,ob,es,ep,e,c⟩:=x; exact ⟨z,y,vs,r,ob,es,ep,k _ _ (.inl rfl) e,c⟩
 | dT kvs =>
   obtain ⟨z,y,xs,r,ob,es,ep,e,c⟩:=x
   exact ⟨z,y,xs,Paired.mapP r fun p q z=>⟨z.1,ht _ ⟨.tup _,trivial⟩ z.2.1,z.2.2⟩,ob,es,ep,k _ _ (.inl rfl) e,c⟩
 | set S n=>obtain ⟨ob,es,ep,t,e,c⟩:=x; exact ⟨ob,es,ep,t,k _ _ (.inl rfl) e,c⟩
 | ins C dx fs =>
   obtain ⟨d,z,ne,e,mA,⟨od,es,ep,e2,c⟩,r⟩:=x
   exact ⟨ho _ d,z,ne,k _ _ (.inl rfl) e,mA,⟨od,es,ep,k _ _ (.inr d) e2,c⟩,r⟩
 | own y=>obtain ⟨ob,e⟩:=x; exact ⟨ob,k _ _ (.inl rfl) e⟩
 | xd fs=>obtain ⟨mA,⟨od,es,ep,e,c⟩,r⟩:=x; exact ⟨mA,⟨od,es,ep,k _ _ (.inl rfl) e,c⟩,r⟩
 | rng lo hi=>obtain ⟨t,u,v,e⟩:=x; exact ⟨t,u,v,k _ _ (.inl rfl) e⟩
 | frz ob u ih=>obtain ⟨e,q⟩:=x; exact ⟨k _ _ (.inl rfl) e,ih q⟩
 | tbl q =>
   obtain ⟨ps,e,t1,t2⟩:=x
   refine ⟨ps,k a _ (.inl rfl) e,t1,fun pos v z=>?_⟩
   obtain ⟨c,o,u,vs,t,h1,h2,h3,h4⟩:=t2 pos v z
   exact ⟨c,o,u,vs,t,h1,ht c ⟨.frz o u,vs,h3⟩ h2,h3,h4⟩
 | met f y =>
   have e:h.get? a=some (PySem.W.methodObj (.ref f) (.ref y)):=x
   show h'.get? a=some (PySem.W.methodObj (.ref f) (.ref y))
   exact k a _ (.inl rfl) e
 | ext φ=>obtain ⟨p,⟨o,e⟩,st⟩:=x; exact ⟨st _ _ p fun o q=>k _ _ (.inl rfl) q,⟨o,k _ _ (.inl rfl) e⟩,st⟩
theorem HOk.lt (x:HOk P w H h) (e:H a=some o):a < h.objs.size:=(x a o e).lt
theorem HOk.fresh (x:HOk P w H h) (e:h.objs.size<=a):H a=none:=by
 cases q:H a with
 | none=>rfl
 | some u=>exact absurd (Nat.lt_of_lt_of_le (x.lt q) e) (Nat.lt_irrefl _)
theorem HOk.kept (x:HOk P w H h) (k:∀ b u,h.get? b=some u->h'.get? b=some u):HOk P w H h':=fun a o e =>
 (x a o e).stay (fun b u _ q=>k b u q) (fun _ q=>q) fun _ _ q=>q
theorem HOk.laid (x:HOk P w H h) (k:∀ b u,h.get? b=some u->h'.get? b=some u) (hp:h.objs.size<=a) (new:ObjOk P w (upd H a o) h' a o):HOk P w (upd H a o) h':=fun b u e=>by
 have hn:=x.fresh hp
 by_cases hb:b=a
 · subst hb; rw [qS] at e; cases e; exact new
 · rw [qC hb] at e
   exact (x b u e).stay (fun c v _ q=>k c v q) (fun c q=>by rw [qC (jS q hn)]; exact q) fun c xs q=>by rw [qC (jS q hn)]; exact q
end
def Rd (H:Hp) (a:Addr) (u:HO):Prop:=H a=some u \/ ∃ o,H a=some (.frz o u)
theorem Rd.of {H:Hp} {a:Addr} {u:HO} (h:H a=some u):Rd H a u:=.inl h
theorem Rd.ok {P:Program} {w:World} {H:Hp} {h:Heap} {a:Addr} {u:HO} (r:Rd H a u) (x:HOk P w H h):ObjOk P w H h a u:=by
 rcases r with r | ⟨o,r⟩
 · exact x a u r
 · obtain ⟨_, q⟩ := x a _ r
   exact q
def Mut:Option HO->Prop
 | some (.lst _)=>True
 | some (.dK _)=>True
 | some (.dT _)=>True
 | some (.set _ _)=>True
 | some (.ins _ _ _)=>True
 | some (.ext _)=>True
 | _=>False
section
variable {P:Program} {w:World} {H:Hp} {h h':Heap} {x e:Addr} {o':HO}
theorem HOk.write (ok:HOk P w H h) (mu:Mut (H x)) (he:e=x \/ H e=some (.own x)) (k:∀ b u,b≠e->h.get? b=some u->h'.get? b=some u) (heo:∃ u,h'.get? e=some u)
  (new:ObjOk P w (upd H x o') h' x o'):HOk P w (upd H x o') h':=fun b u q=>by
 have nown:∀ c y,H c=some (.own y)->c≠x:=fun c y r z=>by subst z; rw [r] at mu; exact mu
 have ntup:∀ c (xs:Fx),H c=some xs.1->c≠x:=fun c xs r z=>by
  subst z; rw [r] at mu; obtain ⟨u,hu⟩:=xs
  cases u <;> first | exact False.elim mu | exact False.elim hu
 by_cases hb:b=x
 · subst hb; rw [qS] at q; cases q; exact new
 · rw [qC hb] at q
   by_cases hbe:b=e
   · have q':H b=some (.own x):=by
      rcases he with z | z
      · exact absurd (hbe.trans z) hb
      · rw [hbe]; exact z
     rw [q] at q'; cases q'
     obtain ⟨v,hv⟩:=heo
     exact ⟨v,by rw [hbe]; exact hv⟩
   · refine (ok b u q).stay (fun c v hc r => k c v ?_ r) (fun c r => by rw [qC (nown c b r)]; exact r) fun c xs r => by rw [qC (ntup c xs r)]; exact r
     rcases hc with rfl | hc
     · exact hbe
     · rintro rfl
       rcases he with z | z
       · exact nown c b hc z
       · rw [hc] at z; cases z; exact hb rfl
end
structure Un (fs ex:List Addr) (H H':Hp) (h h':Heap):Prop where
 keep:∀ b o,h.get? b=some o->H b=none->b ∉ fs->b ∉ ex->h'.get? b=some o
 slot:∀ b o,h.get? b=some o->H b=none->b∈fs->b ∉ ex->∃ sl,h'.get? b=some { o with slots:=sl }
 free:∀ b o,h.get? b=some o->H b=none->b ∉ ex->H' b=none
 there:∀ b o,h.get? b=some o->b ∉ ex->∃ o',h'.get? b=some o'
 tups:∀ b xs,H b=some (.tup xs)->H' b=some (.tup xs)
 frzs:∀ b o u,H b=some (.frz o u)->H' b=some (.frz o u)
 tbls:∀ b ps,H b=some (.tbl ps)->H' b=some (.tbl ps)
section
variable {fs fs' ex ex':List Addr} {H H1 H2:Hp} {h h1 h2 h':Heap} {a x e:Addr} {o:HO}
theorem Un.any (u:Un fs ex H H1 h h1) {b:Addr} {ob:Obj} (q:h.get? b=some ob) (n:H b=none) (hx:b ∉ ex):∃ sl,h1.get? b=some { ob with slots:=sl }:=by
 by_cases hb:b∈fs
 · exact u.slot b ob q n hb hx
 · exact ⟨ob.slots,u.keep b ob q n hb hx⟩
theorem Un.trans (a:Un fs ex H H1 h h1) (b:Un fs ex H1 H2 h1 h2):Un fs ex H H2 h h2 where
 keep:=fun c ob q n hc hx=>b.keep c ob (a.keep c ob q n hc hx) (a.free c ob q n hx) hc hx
 slot:=fun c ob q n hc hx=>by
  obtain ⟨sl,e1⟩:=a.slot c ob q n hc hx
  obtain ⟨sl',e2⟩:=b.slot c _ e1 (a.free c ob q n hx) hc hx
  exact ⟨sl',e2⟩
 free:=fun c ob q n hx=>by
  obtain ⟨o',e1⟩:=a.there c ob q hx
  exact b.free c o' e1 (a.free c ob q n hx) hx
 there:=fun c ob q hx=>by
  obtain ⟨o',e1⟩:=a.there c ob q hx
  exact b.there c o' e1 hx
 tups:=fun c xs q=>b.tups c xs (a.tups c xs q)
 frzs:=fun c ob xs q=>b.frzs c ob xs (a.frzs c ob xs q)
 tbls:=fun c ps q=>b.tbls c ps (a.tbls c ps q)
theorem Un.kept (k:∀ b u,h.get? b=some u->h'.get? b=some u):Un fs ex H H h h' :=
 ⟨fun b ob q _ _ _=>k b ob q,fun b ob q _ _ _=>⟨ob.slots,k b ob q⟩,fun _ _ _ n _=>n,fun b ob q _=>⟨ob,k b ob q⟩,fun _ _ q=>q,fun _ _ _ q=>q,fun _ _ q=>q⟩
theorem Un.refl:Un fs ex H H h h:=Un.kept fun _ _ q=>q
theorem Un.laid (k:∀ b u,h.get? b=some u->h'.get? b=some u) (hp:h.objs.size<=a) (hn:H a=none):Un fs ex H (upd H a o) h h' where
 keep:=fun b u q _ _ _=>k b u q
 slot:=fun b u q _ _ _=>⟨u.slots,k b u q⟩
 free:=fun b u q n _=>by rw [qC (Nat.ne_of_lt (Nat.lt_of_lt_of_le (Heap.lt_size q) hp))]; exact n
 there:=fun b u q _=>⟨u,k b u q⟩
 tups:=fun b xs q=>by rw [qC (jS q hn)]; exact q
 frzs:=fun b u xs q=>by rw [qC (jS q hn)]; exact q
 tbls:=fun b ps q=>by rw [qC (jS q hn)]; exact q
theorem Un.write (mu:Mut (H x)) (he:e=x \/ H e=some (.own x)) (k:∀ b u,b≠e->h.get? b=some u->h'.get? b=some u) (heo:∃ u,h'.get? e=some u):Un fs ex H (upd H x o) h h':=by
 have hx:∀ b,H b=none->b≠x:=fun b n z=>by subst z; rw [n] at mu; exact mu
 have hb:∀ b,H b=none->b≠e:=fun b n z=>by
  subst z
  rcases he with r | r
  · exact hx b n r
  · rw [n] at r; cases r
 have hm:∀ b u,H b=some u->¬ Mut (some u)->b≠x:=fun b u q nm z=>by subst z; rw [q] at mu; exact nm mu
 refine ⟨fun b u q n _ _=>k b u (hb b n) q,fun b u q n _ _=>⟨u.slots,k b u (hb b n) q⟩,fun b u q n _=>by rw [qC (hx b n)]; exact n,fun b u q _=>?_,
  fun b xs q=>by rw [qC (hm b _ q fun z=>z)]; exact q,fun b u xs q=>by rw [qC (hm b _ q fun z=>z)]; exact q,fun b ps q=>by rw [qC (hm b _ q fun z=>z)]; exact q⟩
 by_cases hbe:b=e
 · subst hbe; exact heo
 · exact ⟨u,k b u hbe q⟩
theorem Un.mono (u:Un fs ex H H1 h h1) (hs:∀ b∈fs,b∈fs') (hx:∀ b∈ex,b∈ex'):Un fs' ex' H H1 h h1 :=
 ⟨fun b ob q n hb he=>u.keep b ob q n (fun z=>hb (hs b z)) fun z=>he (hx b z),fun _ _ q n _ he=>u.any q n fun z=>he (hx _ z),fun b ob q n he=>u.free b ob q n fun z=>he (hx b z),fun b ob q he=>u.there b ob q fun z=>he (hx b z),u.tups,u.frzs,u.tbls⟩
end
def trk (h:Heap) (H:Hp):List Addr:=(List.range h.objs.size).filter fun a=>(H a).isSome
def hidT (h:Heap) (H:Hp):Heap:=PySem.W.hideAll h (trk h H)
theorem hidT_size (h:Heap) (H:Hp):(hidT h H).objs.size=h.objs.size:=PySem.W.hideAll_size _ _
theorem hidT_get {h:Heap} {H:Hp} {b:Addr} {o:Obj} (e:h.get? b=some o) (n:H b=none):(hidT h H).get? b=some o :=
 PySem.W.hideAll_get _ e fun hm=>by
  have q:(H b).isSome=true:=(List.mem_filter.mp hm).2
  rw [n] at q; simp at q
theorem of_hidT {h:Heap} {H:Hp} {b:Addr} {o:Obj} (e:(hidT h H).get? b=some o):h.get? b=some o/\H b=none:=by
 have e':h.get? b=some o:=PySem.W.of_hideAll (trk h H) e
 refine ⟨e',?_⟩
 cases q:H b with
 | none=>rfl
 | some x =>
   have hm:b∈trk h H:=List.mem_filter.mpr ⟨List.mem_range.mpr (Heap.lt_size e'),by simp [q]⟩
   have z:(hidT h H).get? b=none:=PySem.W.hideAll_none (trk h H) hm
   rw [z] at e; cases e
def allNews (g h:Heap) (L:Addr):List (Addr×Obj):=(List.range h.objs.size).filterMap fun a=>if a=L \/ (g.get? a).isSome=true then none else (h.get? a).map fun o=>(a,o)
def rest (g h:Heap) (L d:Addr):List (Addr×Obj):=(allNews g h L).filter fun p=>decide (p.1≠d)
end L2
namespace L2
open PySem PySem.Spec PyProof.Rows
structure Mod (K:PySem.W.Frag) (mg:Str->Option Value) (base:Heap):Prop where
 kin:K.In base
 glob:base.Ns mainGlobals mg
 blt:∃ mb,base.Ns builtinsNs mb/\∀ x:Str,x≠"__name__"->mb x=bootBuiltins x
 nolimit:base.NoLimit
structure Cx where
 prog:Program
 w:World
 K:PySem.W.Frag
 mg:Str->Option Value
 base:Heap
 A:Around
 N:List Str
 s₀ : Shared
 H₀ : Hp
 env:Env
 outer:List Env
 stack:List Env
 ex:List Addr
 fn:Str->Bool
 calm:Bool
 pn:List (Addr×Obj)
 xe:Value->Shared->Prop
def frs (l:List Env):List Addr:=l.filterMap (·.frame)
abbrev Cx.fs (X:Cx):List Addr:=frs X.outer
def Vis (sc:Scope) (x:Str):Prop:=sc.names.lookup x=some .local \/ sc.names.lookup x=some .cell \/ sc.names.lookup x=some .free
def Loc (sc:Scope) (x:Str):Prop:=sc.names.lookup x=some .local \/ sc.names.lookup x=some .cell
def Look (env:Env) (h:Heap) (m:Str->Option Value) (x:Str) (u:Value):Prop :=
 (env.kindOf x=some .local/\m x=some u) \/ ((env.kindOf x=some .cell \/ env.kindOf x=some .free)/\∃ c,env.cells.lookup x=some c/\h.IsCell c (some u))
def makers:List Str:=["law","_law_with_itself","_law_ways","_law_way","holding","_law_any_test","_law_test","_law_turned","_law_right","wheel_run","answer_run"]
def innerN:List Stmt->Nat->Nat->Str
 | [],_,_=>"<lambda>"
 | .FunctionDef n _ _ _ _ _ _ _ _ pos::r,l,c=>if pos.line=l/\pos.col=c then n else innerN r l c
 | _::r,l,c=>innerN r l c
def innerQ (K:PySem.W.Frag) (x:Str) (l c:Nat):Str:=match PySem.W.nsIn K mainGlobals x with
 | some (some (.ref f)) => (match K.lookup f with
   | some ⟨_, _, .func fd, _⟩ => (match fd.body with
     | .stmts b=>x++".<locals>."++innerN b l c
     | _=>x)
   | _=>x)
 | _=>x
structure TabsK (K:PySem.W.Frag) (mg:Str->Option Value) (base:Heap) (H:Hp):Prop where
 bm:∃ bm ob,mg "__builtins__" = some (.ref bm)/\bm≠builtinsNs/\base.get? bm=some ob/\ob.cls = .type "module"/\ob.dict=some builtinsNs/\ob.data = .plain
 tab:∀ x c P,x∈makers->PySem.W.tabIn K x=some (c,P)->PySem.W.CodeHd base c P/\H P=some (.tbl (innerQ K x))
def Bsz (K:PySem.W.Frag) (mg:Str->Option Value) (base h:Heap) (H:Hp):Prop:=base.objs.size<=h.objs.size/\TabsK K mg base H
def FreeC (X:Cx) (H:Hp) (x:Str) (c:Addr):Prop:=H c=none \/ (X.fn x=false/\∃ o u,H c=some (.frz o u))
theorem FreeC.now {X:Cx} {H:Hp} {x:Str} {c:Addr} (h:FreeC X H x c) (hf:X.fn x=true):H c=none:=h.elim id fun z=>by rw [hf] at z; cases z.1
structure Cx.Ok (X:Cx):Prop where
 mod:Mod X.K X.mg X.base
 kind:X.env.scope.kind = .function
 glob:X.env.globals=mainGlobals
 blt:X.env.builtins=builtinsNs
 above:X.s₀.heap.objs.size<=X.env.locals
 inj:∀ x y c,X.env.cells.lookup x=some c->X.env.cells.lookup y=some c->x=y
 has:∀ x,(X.env.kindOf x=some .cell \/ X.env.kindOf x=some .free)->∃ c,X.env.cells.lookup x=some c
 cab:∀ x c,X.fn x=true->X.env.cells.lookup x=some c->X.s₀.heap.objs.size<=c
 hd:X.calm=true->X.A.handled=none
 frames:X.A.frames=some X.stack
 stk:X.stack=X.outer \/ (X.stack=X.env::X.outer/\X.env.frame=some X.env.locals)
 exf:∀ b∈X.ex,b≠X.env.locals/\∀ x c,X.env.cells.lookup x=some c->c≠b
 bs:∀ b o,X.base.get? b=some o->X.s₀.heap.get? b=some o/\X.H₀ b=none
 bsz:Bsz X.K X.mg X.base X.s₀.heap X.H₀
 noex:∀ b o,X.base.get? b=some o->b ∉ X.ex
 exfs:∀ b∈X.ex,b ∉ X.fs
 funs:X.s₀.heap.FunFrames X.base X.outer
 frf:∀ b∈X.fs,X.H₀ b=none
structure Inv (X:Cx) (pins:List (Addr×Obj)) (σ : List (Option V)) (H:Hp) (s:Shared):Prop where
 ok:X.Ok
 os:s.os=X.s₀.os
 bare:AllBare s.gens
 base:Un X.fs X.ex X.H₀ H X.s₀.heap s.heap
 loc:∃ m,s.heap.Ns X.env.locals m/\∀ (i:Nat) (x:Str) (v:V),X.N[i]? = some x->σ[i]? = some (some v)->Vis X.env.scope x->∃ u,RelV v u/\Look X.env s.heap m x u
 cell:∀ x c,X.env.cells.lookup x=some c->∃ v,s.heap.IsCell c v
 free:H X.env.locals=none
 freeC:∀ x c,X.env.cells.lookup x=some c->FreeC X H x c
 pin:∀ p∈X.pn++pins,s.heap.get? p.1=some p.2/\H p.1=none/\p.1≠X.env.locals/\p.1 ∉ X.fs/\∀ v,p.2.data≠.cell v
 hok:HOk X.prog X.w H s.heap
 len : σ.length=X.N.length
section
variable {X:Cx} {pins:List (Addr×Obj)} {σ : List (Option V)} {H H':Hp} {s:Shared} {h':Heap}
theorem Cx.Ok.nofr (ok:X.Ok) {b:Addr} {o:Obj} (e:X.base.get? b=some o):b ∉ X.fs:=fun hb=>by
 have:=(ok.funs.mem hb).1
 rw [e] at this; cases this
theorem Inv.bs (I:Inv X pins σ H s):∀ b o,X.base.get? b=some o->s.heap.get? b=some o/\H b=none:=fun b o e =>
 ⟨I.base.keep b o (I.ok.bs b o e).1 (I.ok.bs b o e).2 (I.ok.nofr e) (I.ok.noex b o e),I.base.free b o (I.ok.bs b o e).1 (I.ok.bs b o e).2 (I.ok.noex b o e)⟩
theorem Inv.bk (I:Inv X pins σ H s):∀ b o,X.base.get? b=some o->s.heap.get? b=some o:=fun b o e=>(I.bs b o e).1
theorem Inv.mod (I:Inv X pins σ H s):Mod X.K X.mg X.base:=I.ok.mod
theorem Inv.kIn (I:Inv X pins σ H s):X.K.In s.heap:=I.ok.mod.kin.keeps I.bk
theorem Inv.lt (I:Inv X pins σ H s):X.env.locals < s.heap.objs.size:=let ⟨_,hn,_⟩:=I.loc; hn.lt
theorem Inv.sz (I:Inv X pins σ H s):X.s₀.heap.objs.size<=s.heap.objs.size:=Nat.le_trans I.ok.above (Nat.le_of_lt I.lt)
theorem Inv.nofs (I:Inv X pins σ H s) {a:Addr} (h:s.heap.objs.size<=a):a ∉ X.fs:=fun hb=>by
 obtain ⟨_,o,ho,_⟩:=I.ok.funs.mem hb
 exact absurd (Nat.lt_of_lt_of_le (Heap.lt_size ho) (Nat.le_trans I.sz h)) (Nat.lt_irrefl _)
theorem Inv.cne (I:Inv X pins σ H s):∀ x c,X.env.cells.lookup x=some c->c≠X.env.locals:=fun x c e z=>by
 obtain ⟨v,o,ho,hd⟩:=I.cell x c e
 obtain ⟨m,⟨o',es,ep,ho',hd',_⟩,_⟩:=I.loc
 rw [z,ho'] at ho; cases ho; rw [hd'] at hd; cases hd
theorem Inv.funs (I:Inv X pins σ H s):s.heap.FunFrames X.base X.outer:=by
 have all:∀ (l:List Env),(∀ b∈frs l,b∈X.fs)->X.s₀.heap.FunFrames X.base l->s.heap.FunFrames X.base l:=by
  intro l
  induction l with
  | nil=>intro _ _; trivial
  | cons env r ih =>
    intro hs hl
    obtain ⟨hk,⟨L,o,hf,hn,ho,hd⟩,hr⟩:=hl
    have hL:L∈X.fs:=hs L (by unfold frs; rw [List.filterMap_cons,hf]; exact List.mem_cons_self)
    obtain ⟨sl,e⟩:=I.base.slot L o ho (I.ok.frf L hL) hL fun z=>I.ok.exfs L z hL
    exact ⟨hk,⟨L,_,hf,hn,e,hd⟩,ih (fun b hb=>hs b (by unfold frs; rw [List.filterMap_cons,hf]; exact List.mem_cons_of_mem _ hb)) hr⟩
 exact all X.outer (fun _ hb=>hb) I.ok.funs
theorem Inv.stack (I:Inv X pins σ H s):s.heap.FunFrames X.base X.stack:=by
 rcases I.ok.stk with e | ⟨e,hf⟩
 · rw [e]; exact I.funs
 · rw [e]
   obtain ⟨m,hn,_⟩:=I.loc
   refine .cons (by rw [I.ok.kind]; decide) hf hn ?_ I.funs
   exact Heap.get?_none_of_le (Nat.le_trans I.ok.bsz.1 I.ok.above)
theorem Inv.stkSub (I:Inv X pins σ H s):∀ b∈frs X.stack,b∈X.env.locals::X.fs:=fun b hb=>by
 rcases I.ok.stk with e | ⟨e,hf⟩
 · rw [e] at hb; exact List.mem_cons_of_mem _ hb
 · rw [e] at hb
   unfold frs at hb
   rw [List.filterMap_cons,hf] at hb
   exact hb
theorem Inv.stkFree (I:Inv X pins σ H s):∀ b∈frs X.stack,H b=none:=fun b hb=>by
 rcases List.mem_cons.mp (I.stkSub b hb) with e | hb
 · rw [e]; exact I.free
 · obtain ⟨_, o, ho, _⟩ := I.ok.funs.mem hb
   exact I.base.free b o ho (I.ok.frf b hb) fun z=>I.ok.exfs b z hb
theorem Inv.step {g':Array GenState} {t':Nat} {d':Drawn} {ch:List Addr} (I:Inv X pins σ H s)
  (hch:∀ b∈ch,(b∈X.ex \/ X.s₀.heap.objs.size<=b)/\b≠X.env.locals/\(∀ x c,X.env.cells.lookup x=some c->c≠b)/\∀ p∈X.pn++pins,p.1≠b)
  (keep:∀ b o,b≠X.env.locals->b ∉ X.fs->b ∉ ch->s.heap.get? b=some o->H b=none->h'.get? b=some o)
  (slot:∀ b o,b≠X.env.locals->b∈X.fs->b ∉ ch->s.heap.get? b=some o->H b=none->∃ sl,h'.get? b=some { o with slots:=sl }) (free:∀ b o,b ∉ ch->s.heap.get? b=some o->H b=none->H' b=none)
  (there:∀ b o,b ∉ ch->s.heap.get? b=some o->∃ o',h'.get? b=some o')
  (tups:∀ b xs,H b=some (.tup xs)->H' b=some (.tup xs)) (frzs:∀ b o u,H b=some (.frz o u)->H' b=some (.frz o u)) (tbls:∀ b ps,H b=some (.tbl ps)->H' b=some (.tbl ps))
  (ns:∀ m,s.heap.Ns X.env.locals m->h'.Ns X.env.locals m) (hok:HOk X.prog X.w H' h') (hg:AllBare g') :
  Inv X pins σ H' { s with heap:=h',gens:=g',drawn:=d',toks:=t' }:=by
 have neL:∀ b o,X.s₀.heap.get? b=some o->b≠X.env.locals:=fun b o e=>Nat.ne_of_lt (Nat.lt_of_lt_of_le (Heap.lt_size e) I.ok.above)
 have neC:∀ b o,X.s₀.heap.get? b=some o->b ∉ X.ex->b ∉ ch:=fun b o e hx hb=>by
  rcases (hch b hb).1 with z | z
  · exact hx z
  · exact absurd (Nat.lt_of_lt_of_le (Heap.lt_size e) z) (Nat.lt_irrefl _)
 have cellK:∀ x c,X.env.cells.lookup x=some c->∀ v,s.heap.IsCell c v->h'.IsCell c v:=fun x c e v ⟨o,ho,hd⟩=>by
  have nch:c ∉ ch:=fun z=>(hch c z).2.2.1 x c e rfl
  rcases I.freeC x c e with fr | ⟨_,of,uf,fr⟩
  · by_cases hc : c ∈ X.fs
    · obtain ⟨sl, q⟩ := slot c o (I.cne x c e) hc nch ho fr
      exact ⟨_,q,hd⟩
    · exact ⟨o,keep c o (I.cne x c e) hc nch ho fr,hd⟩
  · obtain ⟨e1, _⟩ := I.hok c _ fr
    obtain ⟨e2,_⟩:=hok c _ (frzs c of uf fr)
    rw [ho] at e1; cases e1
    exact ⟨o,e2,hd⟩
 refine ⟨I.ok,I.os,hg,⟨fun b o e n hb hx=>?_,fun b o e n hb hx=>?_,fun b o e n hx=>?_,fun b o e hx=>?_,fun b xs e=>tups b xs (I.base.tups b xs e),fun b o xs e=>frzs b o xs (I.base.frzs b o xs e),fun b ps e=>?_⟩,?_,fun x c e=>?_,?_,fun x c e=>?_,fun p hp=>?_,hok,I.len⟩
 · exact keep b o (neL b o e) hb (neC b o e hx) (I.base.keep b o e n hb hx) (I.base.free b o e n hx)
 · obtain ⟨sl, e1⟩ := I.base.slot b o e n hb hx
   obtain ⟨sl',e2⟩:=slot b _ (neL b o e) hb (neC b o e hx) e1 (I.base.free b o e n hx)
   exact ⟨sl',e2⟩
 · obtain ⟨o', e1⟩ := I.base.there b o e hx
   exact free b o' (neC b o e hx) e1 (I.base.free b o e n hx)
 · obtain ⟨o', e1⟩ := I.base.there b o e hx
   exact there b o' (neC b o e hx) e1
 · exact tbls b ps (I.base.tbls b ps e)
 · obtain ⟨m, hn, hl⟩ := I.loc
   refine ⟨m,ns m hn,fun i x v e1 e2 e3=>?_⟩
   obtain ⟨u,r,l⟩:=hl i x v e1 e2 e3
   refine ⟨u,r,?_⟩
   rcases l with l | ⟨k,c,e,z⟩
   · exact .inl l
   · exact .inr ⟨k,c,e,cellK x c e _ z⟩
 · obtain ⟨v, z⟩ := I.cell x c e
   exact ⟨v,cellK x c e v z⟩
 · obtain ⟨m, ⟨o, _, _, ho, _⟩, _⟩ := I.loc
   exact free _ o (fun z=>(hch _ z).2.1 rfl) ho I.free
 · obtain ⟨v, o, ho, hd⟩ := I.cell x c e
   exact (I.freeC x c e).elim (fun fr=>.inl (free c o (fun z=>(hch c z).2.2.1 x c e rfl) ho fr)) fun ⟨h1,of,uf,fr⟩=>.inr ⟨h1,of,uf,frzs c of uf fr⟩
 · obtain ⟨e, n, ne, nf, d⟩ := I.pin p hp
   have nch:p.1 ∉ ch:=fun z=>(hch p.1 z).2.2.2 p hp rfl
   exact ⟨keep p.1 p.2 ne nf nch e n,free p.1 p.2 nch e n,ne,nf,d⟩
theorem Inv.un {t':Nat} (I:Inv X pins σ H s) (u:Un X.fs [] H H' s.heap h') (hok:HOk X.prog X.w H' h'):Inv X pins σ H' { s with heap:=h',toks:=t' }:=by
 obtain ⟨m,⟨o,es,ep,ho,r⟩,_⟩:=id I.loc
 obtain ⟨sl,hL⟩:=u.any ho I.free (by simp)
 exact I.step (g':=s.gens) (d':=s.drawn) (ch:=[]) (fun _ z=>nomatch z) (fun b o _ hb _ e n=>u.keep b o e n hb (by simp)) (fun b o _ hb _ e n=>u.slot b o e n hb (by simp)) (fun b o _ e n=>u.free b o e n (by simp)) (fun b o _ e=>u.there b o e (by simp)) u.tups u.frzs u.tbls (fun m' hm=>by
  obtain ⟨o',es',ep',ho',r'⟩:=hm
  rw [ho] at ho'; cases ho'
  exact ⟨_,es',ep',hL,r'⟩) hok I.bare
theorem Inv.call {g':Array GenState} {t':Nat} {d':Drawn} {ch:List Addr} (I:Inv X pins σ H s) (u:Un (frs X.stack) ch H H' s.heap h') (hok:HOk X.prog X.w H' h') (hg:AllBare g')
  (hch:∀ b∈ch,(b∈X.ex \/ X.s₀.heap.objs.size<=b)/\b≠X.env.locals/\(∀ x c,X.env.cells.lookup x=some c->c≠b)/\∀ p∈X.pn++pins,p.1≠b) :
  Inv X pins σ H' { s with heap:=h',gens:=g',drawn:=d',toks:=t' }:=by
 obtain ⟨m,⟨o,es,ep,ho,r⟩,_⟩:=id I.loc
 obtain ⟨sl,hL⟩:=u.any ho I.free fun z=>(hch _ z).2.1 rfl
 exact I.step (ch:=ch) hch (fun b o hL hb hc e n=>u.keep b o e n (fun z=>(List.mem_cons.mp (I.stkSub b z)).elim hL hb) hc) (fun b o _ _ hc e n=>u.any e n hc) (fun b o hc e n=>u.free b o e n hc) (fun b o hc e=>u.there b o e hc) u.tups u.frzs u.tbls (fun m' hm=>by
  obtain ⟨o',es',ep',ho',r'⟩:=hm
  rw [ho] at ho'; cases ho'
  exact ⟨_,es',ep',hL,r'⟩) hok hg
theorem Inv.turned {t':Nat} {it:Addr} (I:Inv X pins σ H s) (k:∀ b o,b≠it->s.heap.get? b=some o->h'.get? b=some o) (hn:H it=none) (hL:it≠X.env.locals)
  (h1:it∈X.ex \/ X.s₀.heap.objs.size<=it) (h2:∀ x c,X.env.cells.lookup x=some c->c≠it) (h3:∀ p∈X.pn++pins,p.1≠it):Inv X pins σ H { s with heap:=h',toks:=t' }:=by
 have nit:∀ b u,H b=some u->b≠it:=fun b u e z=>by rw [z,hn] at e; cases e
 refine I.step (g':=s.gens) (d':=s.drawn) (ch:=[it]) (fun b hb=>?_) (fun b o _ _ hc e _=>k b o (fun z=>hc (by simp [z])) e) (fun b o _ _ hc e _=>⟨o.slots,k b o (fun z=>hc (by simp [z])) e⟩) (fun _ _ _ _ n=>n)
  (fun b o hc e=>⟨o,k b o (fun z=>hc (by simp [z])) e⟩) (fun _ _ e=>e) (fun _ _ _ e=>e) (fun _ _ e=>e) (fun m hm=>?_) (fun b u e=>?_) I.bare
 · have e : b = it := by simpa using hb
   subst e
   exact ⟨h1,hL,h2,h3⟩
 · obtain ⟨o, es, ep, ho, r⟩ := hm
   exact ⟨o,es,ep,k _ o (Ne.symm hL) ho,r⟩
 · refine (I.hok b u e).stay (fun c v hc q => k c v ?_ q) (fun _ q => q) fun _ _ q => q
   rcases hc with z | z
   · rw [z]; exact nit b u e
   · exact nit c _ z
theorem Inv.tok (I:Inv X pins σ H s) (t:Nat):Inv X pins σ H { s with toks:=t }:=I.un (h':=s.heap) (t':=t) Un.refl I.hok
theorem Inv.kept {t':Nat} (I:Inv X pins σ H s) (k:∀ b u,s.heap.get? b=some u->h'.get? b=some u):Inv X pins σ H { s with heap:=h',toks:=t' }:=I.un (Un.kept k) (I.hok.kept k)
theorem Inv.laid {a:Addr} {o:HO} {t':Nat} (I:Inv X pins σ H s) (k:∀ b u,s.heap.get? b=some u->h'.get? b=some u) (hp:s.heap.objs.size<=a) (new:ObjOk X.prog X.w (upd H a o) h' a o) :
  Inv X pins σ (upd H a o) { s with heap:=h',toks:=t' }:=I.un (Un.laid k hp (I.hok.fresh hp)) (I.hok.laid k hp new)
theorem Inv.write {x e:Addr} {o:HO} {t':Nat} (I:Inv X pins σ H s) (mu:Mut (H x)) (he:e=x \/ H e=some (.own x)) (k:∀ b u,b≠e->s.heap.get? b=some u->h'.get? b=some u) (heo:∃ u,h'.get? e=some u)
  (new:ObjOk X.prog X.w (upd H x o) h' x o):Inv X pins σ (upd H x o) { s with heap:=h',toks:=t' }:=I.un (Un.write mu he k heo) (I.hok.write mu he k heo new)
theorem Inv.pins_of {pins':List (Addr×Obj)} (I:Inv X pins σ H s) (h:∀ p∈pins',s.heap.get? p.1=some p.2/\H p.1=none/\p.1≠X.env.locals/\p.1 ∉ X.fs/\∀ v,p.2.data≠.cell v):Inv X pins' σ H s :=
 ⟨I.ok,I.os,I.bare,I.base,I.loc,I.cell,I.free,I.freeC,fun p hp=>(List.mem_append.mp hp).elim (fun z=>I.pin p (List.mem_append_left _ z)) (h p),I.hok,I.len⟩
theorem nodup_ix {N:List Str} (hN:N.Nodup) {i j:Nat} {x:Str} (a:N[i]? = some x) (b:N[j]? = some x):i=j:=by
 obtain ⟨h1,e1⟩:=List.getElem?_eq_some_iff.mp a
 obtain ⟨h2,e2⟩:=List.getElem?_eq_some_iff.mp b
 exact (List.getElem_inj hN).mp (e1.trans e2.symm)
theorem store_ok2 {M:Model} {A:Around} {E:Value->Shared->Prop} {i:Nat} {x:Str} {v:V} {u:Value} {Q:Unit->Shared->Prop} (I:Inv X pins σ H s) (hN:X.N.Nodup) (hi:X.N[i]? = some x) (hx:Loc X.env.scope x) (r:RelV v u)
  (h:∀ s',Inv X pins (σ.set i (some v)) H s'->(∃ a,Heap.SameBut a s.heap s'.heap/\(a=X.env.locals \/ X.env.cells.lookup x=some a))->Q () s') (hf:X.fn x=true \/ X.env.scope.names.lookup x=some .local:=by first | exact .inl rfl | exact .inr rfl | assumption):wpAny M A (storeName X.env x u) Q E s:=by
 obtain ⟨m,hn,hl⟩:=id I.loc
 have hcls:(X.env.scope.kind == .class || (X.env.scope.kind == .module && X.env.locals != X.env.globals))=false:=by rw [I.ok.kind]; rfl
 have hiσ : i < σ.length:=by rw [I.len]; exact (List.getElem?_eq_some_iff.mp hi).1
 have cne:=I.cne
 have tracked:∀ {a:Addr} {h':Heap},(∃ o,s.heap.get? a=some o/\H a=none)->Heap.SameBut a s.heap h'->HOk X.prog X.w H h':=fun {a h'} ha hs b ob e=>by
  obtain ⟨_,_,hfree⟩:=ha
  refine (I.hok b ob e).stay (fun c w' hc q=>(hs.2 c ?_).trans q) (fun _ q=>q) fun _ _ q=>q
  rintro rfl
  rcases hc with rfl | hc
  · rw [hfree] at e; cases e
  · rw [hfree] at hc; cases hc
 rcases hx with hk | hk
 · refine wpAny_storeName_local hk hn (fun h' hn' hs => ?_) hcls
   obtain ⟨oL,_,_,hoL,_⟩:=id hn
   refine h _ ⟨I.ok,I.os,I.bare,⟨fun b o e n hb hx=>?_,fun b o e n hb hx=>?_,I.base.free,fun b o e hx=>?_,I.base.tups,I.base.frzs,I.base.tbls⟩,⟨_,hn',fun j y v' e1 e2 e3=>?_⟩,fun y c e=>?_,I.free,I.freeC,fun p hp=>?_,tracked ⟨oL,hoL,I.free⟩ hs,by simpa using I.len⟩ ⟨_,hs,.inl rfl⟩
   · exact (hs.2 b (Nat.ne_of_lt (Nat.lt_of_lt_of_le (Heap.lt_size e) I.ok.above))).trans (I.base.keep b o e n hb hx)
   · obtain ⟨sl, e1⟩ := I.base.slot b o e n hb hx
     exact ⟨sl,(hs.2 b (Nat.ne_of_lt (Nat.lt_of_lt_of_le (Heap.lt_size e) I.ok.above))).trans e1⟩
   · obtain ⟨o', e1⟩ := I.base.there b o e hx
     exact ⟨o',(hs.2 b (Nat.ne_of_lt (Nat.lt_of_lt_of_le (Heap.lt_size e) I.ok.above))).trans e1⟩
   · by_cases hj : j = i
     · subst hj
       rw [hi] at e1; cases e1
       rw [List.getElem?_set_self hiσ] at e2
       cases e2
       exact ⟨u,r,.inl ⟨hk,by simp⟩⟩
     · rw [List.getElem?_set_ne (Ne.symm hj)] at e2
       obtain ⟨u',r',q⟩:=hl j y v' e1 e2 e3
       refine ⟨u',r',?_⟩
       rcases q with ⟨k,e⟩ | ⟨k,c,e,z⟩
       · refine .inl ⟨k, ?_⟩
         have:y≠x:=fun e=>hj (nodup_ix hN e1 (e ▸ hi))
         simp [this,e]
       · exact .inr ⟨k,c,e,z.sameBut hs (cne y c e)⟩
   · obtain ⟨w', z⟩ := I.cell y c e
     exact ⟨w',z.sameBut hs (cne y c e)⟩
   · obtain ⟨e, n, ne, nf, d⟩ := I.pin p hp
     exact ⟨(hs.2 p.1 ne).trans e,n,ne,nf,d⟩
 · have hfn:X.fn x=true:=by
    rcases hf with z | z
    · exact z
    · rw [z] at hk; cases hk
   obtain ⟨c,hc⟩:=I.ok.has x (.inl hk)
   obtain ⟨w',z⟩:=I.cell x c hc
   refine wpAny_storeName_cell I.ok.kind hk hc z (fun h' hc' hs=>?_)
   obtain ⟨oc,hoc,hocd⟩:=id z
   refine h { s with heap:=h' } ⟨I.ok,I.os,I.bare,⟨fun b o e n hb hx=>?_,fun b o e n hb hx=>?_,I.base.free,fun b o e hx=>?_,I.base.tups,I.base.frzs,I.base.tbls⟩,⟨m,hn.sameBut hs (Ne.symm (cne x c hc)),fun j y v' e1 e2 e3=>?_⟩,fun y c' e=>?_,I.free,I.freeC,fun p hp=>?_,tracked ⟨oc,hoc,(I.freeC x c hc).now hfn⟩ hs,by simpa using I.len⟩ ⟨c,hs,.inr hc⟩
   · exact (hs.2 b (Nat.ne_of_lt (Nat.lt_of_lt_of_le (Heap.lt_size e) (I.ok.cab x c hfn hc)))).trans (I.base.keep b o e n hb hx)
   · obtain ⟨sl, e1⟩ := I.base.slot b o e n hb hx
     exact ⟨sl,(hs.2 b (Nat.ne_of_lt (Nat.lt_of_lt_of_le (Heap.lt_size e) (I.ok.cab x c hfn hc)))).trans e1⟩
   · obtain ⟨o', e1⟩ := I.base.there b o e hx
     exact ⟨o',(hs.2 b (Nat.ne_of_lt (Nat.lt_of_lt_of_le (Heap.lt_size e) (I.ok.cab x c hfn hc)))).trans e1⟩
   · by_cases hj : j = i
     · subst hj
       rw [hi] at e1; cases e1
       rw [List.getElem?_set_self hiσ] at e2
       cases e2
       exact ⟨u,r,.inr ⟨.inl hk,c,hc,hc'⟩⟩
     · rw [List.getElem?_set_ne (Ne.symm hj)] at e2
       obtain ⟨u',r',q⟩:=hl j y v' e1 e2 e3
       refine ⟨u',r',?_⟩
       rcases q with q | ⟨k,c',e,z'⟩
       · exact .inl q
       · refine .inr ⟨k, c', e, z'.sameBut hs ?_⟩
         rintro rfl
         exact hj (nodup_ix hN e1 (I.ok.inj _ _ _ e hc ▸ hi))
   · by_cases hcc : c' = c
     · subst hcc; exact ⟨_,hc'⟩
     · obtain ⟨w2, z2⟩ := I.cell y c' e
       exact ⟨w2,z2.sameBut hs hcc⟩
   · obtain ⟨e, n, ne, nf, d⟩ := I.pin p hp
     refine ⟨(hs.2 p.1 ?_).trans e,n,ne,nf,d⟩
     intro q
     rw [q,hoc] at e
     have q':oc=p.2:=Option.some.inj e
     exact d w' (by rw [<- q']; exact hocd)
theorem vA {M:Model} {A:Around} {E:Value->Shared->Prop} {i:Nat} {x:Str} {v:V} {u:Value} {Q:Unit->Shared->Prop} (I:Inv X pins σ H s) (hN:X.N.Nodup) (hi:X.N[i]? = some x) (hx:Loc X.env.scope x) (r:RelV v u)
  (h:∀ s',Inv X pins (σ.set i (some v)) H s'->Q () s') (hf:X.fn x=true \/ X.env.scope.names.lookup x=some .local:=by first | exact .inl rfl | exact .inr rfl | assumption):wpAny M A (storeName X.env x u) Q E s :=
 store_ok2 I hN hi hx r (fun s' I' _=>h s' I') hf
theorem Inv.call' {s':Shared} {ch:List Addr} (I:Inv X pins σ H s) (ho:s'.os=s.os) (u:Un (frs X.stack) ch H H' s.heap s'.heap) (hok:HOk X.prog X.w H' s'.heap) (hg:AllBare s'.gens)
  (hch:∀ b∈ch,(b∈X.ex \/ X.s₀.heap.objs.size<=b)/\b≠X.env.locals/\(∀ x c,X.env.cells.lookup x=some c->c≠b)/\∀ p∈X.pn++pins,p.1≠b):Inv X pins σ H' s':=by
 obtain ⟨h',g',d',t',o'⟩:=s'
 have e:o'=s.os:=ho
 subst e
 exact I.call (g':=g') (t':=t') (d':=d') u hok hg hch
end
abbrev XK:=Value->Option Addr->Hp->Prop
abbrev St:=List (Option V)
abbrev VK:=V->Hp->Prop
abbrev TE:=St->Hp->VK->Prop
abbrev TT:=St->Hp->(Bool->Hp->Prop)->Prop
abbrev TA:=St->Hp->(List V->Hp->Prop)->Prop
structure Ends where
 nx:St->Hp->Prop
 rt:VK
 bk:St->Hp->Prop:=fun _ _=>False
 ct:St->Hp->Prop:=fun _ _=>False
abbrev TS:=Ends->St->Hp->Prop
def EP (X:Cx) (pins:List (Addr×Obj)) (σ : St) (Q:VK) (u:Value) (s':Shared):Prop:=∃ v H',Inv X pins σ H' s'/\RelV v u/\Q v H'
def TP (X:Cx) (pins:List (Addr×Obj)) (σ : St) (Q:Bool->Hp->Prop) (b:Bool) (s':Shared):Prop:=∃ H',Inv X pins σ H' s'/\Q b H'
def AP (X:Cx) (pins:List (Addr×Obj)) (σ : St) (Q:List V->Hp->Prop) (us:List Value) (s':Shared):Prop:=∃ vs H',Inv X pins σ H' s'/\Vals vs us/\Q vs H'
def SP (X:Cx) (pins:List (Addr×Obj)) (D:Ends) (f:Flow) (s':Shared):Prop :=
 match f with
 | .next=>∃ σ' H',Inv X pins σ' H' s'/\D.nx σ' H'
 | .brk=>∃ σ' H',Inv X pins σ' H' s'/\D.bk σ' H'
 | .cont=>∃ σ' H',Inv X pins σ' H' s'/\D.ct σ' H'
 | .ret u=>∃ v σ' H',Inv X pins σ' H' s'/\RelV v u/\D.rt v H'
def PE (X:Cx) (e:Expr) (t:TE):Prop :=
 ∀ (pins:List (Addr×Obj)) (s:Shared) (σ : St) (H:Hp) (Q:VK),Inv X pins σ H s->t σ H Q->wpAny (model X.prog X.w) X.A (eval e X.env) (EP X pins σ Q) X.xe s
def PT (X:Cx) (e:Expr) (t:TT):Prop :=
 ∀ (pins:List (Addr×Obj)) (s:Shared) (σ : St) (H:Hp) (Q:Bool->Hp->Prop),Inv X pins σ H s->t σ H Q->wpAny (model X.prog X.w) X.A (isTrue e X.env (eval e X.env)) (TP X pins σ Q) X.xe s
def PW (X:Cx) (e:Expr) (t:TT):Prop :=
 ∀ (whole:Sem Value) (pins:List (Addr×Obj)) (s:Shared) (σ : St) (H:Hp) (Q:Bool->Hp->Prop),Inv X pins σ H s->t σ H Q->wpAny (model X.prog X.w) X.A (isTrue e X.env whole) (TP X pins σ Q) X.xe s
theorem PW.pt {X:Cx} {e:Expr} {t:TT} (h:PW X e t):PT X e t:=h _
def PA (X:Cx) (es:List Expr) (t:TA):Prop :=
 ∀ (pos:Pos) (pins:List (Addr×Obj)) (s:Shared) (σ : St) (H:Hp) (Q:List V->Hp->Prop),Inv X pins σ H s->t σ H Q->wpAny (model X.prog X.w) X.A (spliced (backTo pos (starEach es X.env))) (AP X pins σ Q) X.xe s
def PS (X:Cx) (st:Stmt) (t:TS):Prop :=
 ∀ (pins:List (Addr×Obj)) (s:Shared) (σ : St) (H:Hp) (D:Ends),Inv X pins σ H s->t D σ H->wpAny (model X.prog X.w) X.A (exec st X.env) (SP X pins D) X.xe s
def PSs (X:Cx) (st:List Stmt) (t:TS):Prop :=
 ∀ (pins:List (Addr×Obj)) (s:Shared) (σ : St) (H:Hp) (D:Ends),Inv X pins σ H s->t D σ H->wpAny (model X.prog X.w) X.A (execs st X.env) (SP X pins D) X.xe s
theorem thn {α : Type} {t:Sem α} {Q Q' : α->Shared->Prop} {M:Model} {A:Around} {E:Value->Shared->Prop} {s:Shared} (h:wpAny M A t Q E s) (hQ:∀ a s,Q a s->Q' a s):wpAny M A t Q' E s:=wpAny_mono h hQ fun _ _ x=>x
end L2
namespace L2
open PySem PySem.Spec PyProof.Rows
section
variable {X:Cx}
def tVar (i:Nat):TE:=fun σ H Q=>∃ v,σ[i]? = some (some v)/\Q v H
def tC (v:V):TE:=fun _ H Q=>Q v H
theorem xM {i:Nat} {x:Str} {pos:Pos} (hN:X.N[i]? = some x) (hv:Vis X.env.scope x) (hd:(x == ("__debug__" : Str))=false:=by decide) (hcd:(x == ("__classdict__" : Str))=false:=by decide):PE X (.Name x pos) (tVar i):=by
 intro pins s σ H Q I h
 obtain ⟨v,e,h⟩:=h
 obtain ⟨m,hn,hl⟩:=I.loc
 obtain ⟨u,r,l⟩:=hl i x v hN e hv
 have fin:EP X pins σ Q u s:=⟨v,H,I,r,h⟩
 rcases l with ⟨hk,hm⟩ | ⟨hk,c,hc,hcell⟩
 · exact wpAny_Name (wpAny_loadName_local I.ok.kind hk hn hm fin) hd
 · rcases hk with hk | hk
   · exact wpAny_Name (wpAny_loadName_cell I.ok.kind hk hc hcell fin) hd
   · exact wpAny_Name (wpAny_loadName_free I.ok.kind hk hc hcell fin hcd) hd
theorem pe_int {i j pos} : PE X (.Constant (.int i) j pos) (tC (.int i)):=fun _ _ _ H _ I h=>wpAny_Constant_int ⟨.int i,H,I.tok _,⟨_,rfl⟩,h⟩
theorem pe_bl {b j pos} : PE X (.Constant (.bool b) j pos) (tC (.bl b)):=fun _ _ _ H _ I h=>Constant_bool ⟨.bl b,H,I,rfl,h⟩
theorem pe_non {j pos} : PE X (.Constant .none j pos) (tC .non):=fun _ _ _ H _ I h=>Constant_none ⟨.non,H,I,rfl,h⟩
def Gl (X:Cx) (x:Str):Prop:=X.env.kindOf x=some .globalImplicit
theorem xZ {E:Value->Shared->Prop} {pins:List (Addr×Obj)} {s:Shared} {σ : St} {H:Hp} {x:Str} {u:Value} {pos:Pos} {Q:Value->Shared->Prop} (I:Inv X pins σ H s) (hg:Gl X x) (hm:X.mg x=some u) (h:Q u s)
  (hd:(x == ("__debug__" : Str))=false:=by decide):wpAny (model X.prog X.w) X.A (eval (.Name x pos) X.env) Q E s :=
 Calls.Name_function_global I.ok.kind hg (Calls.loadGlobal_global (by rw [I.ok.glob]; exact I.mod.glob.keeps I.bk) hm h) hd
theorem kB {E:Value->Shared->Prop} {pins:List (Addr×Obj)} {s:Shared} {σ : St} {H:Hp} {x:Str} {u:Value} {pos:Pos} {Q:Value->Shared->Prop} (I:Inv X pins σ H s) (hg:Gl X x) (hm:X.mg x=none) (hv:bootBuiltins x=some u) (h:Q u s)
  (hn:x≠"__name__":=by decide) (hd:(x == ("__debug__" : Str))=false:=by decide):wpAny (model X.prog X.w) X.A (eval (.Name x pos) X.env) Q E s:=by
 obtain ⟨mb,h1,h2⟩:=I.mod.blt
 exact Calls.Name_function_global I.ok.kind hg (Calls.loadGlobal_builtin (by rw [I.ok.glob]; exact I.mod.glob.keeps I.bk) hm (by rw [I.ok.blt]; exact h1.keeps I.bk) ((h2 x hn).trans hv) h) hd
theorem pe_glob {x:Str} {v:V} {u:Value} {pos:Pos} (hg:Gl X x) (hm:X.mg x=some u) (r:RelV v u) (hd:(x == ("__debug__" : Str))=false:=by decide):PE X (.Name x pos) (tC v) :=
 fun _ _ _ H _ I h=>xZ I hg hm ⟨v,H,I,r,h⟩ hd
theorem pe_bltn {x:Str} {v:V} {u:Value} {pos:Pos} (hg:Gl X x) (hm:X.mg x=none) (hv:bootBuiltins x=some u) (r:RelV v u) (hn:x≠"__name__":=by decide) (hd:(x == ("__debug__" : Str))=false:=by decide):PE X (.Name x pos) (tC v) :=
 fun _ _ _ H _ I h=>kB I hg hm hv ⟨v,H,I,r,h⟩ hn hd
variable {a b:Expr} {ta tb:TE} {pos:Pos}
def tB (t:TE):TT:=fun σ H Q=>t σ H fun x H1=>∃ c,x = .bl c/\Q c H1
theorem pt_val {e:Expr} {t:TE} (h:PE X e t) (he:∀ whole,isTrue e X.env whole=(do let v <- whole; standAt e.pos; holding [v] (truthy v)):=by intro _; rfl):PT X e (tB t):=by
 intro pins s σ H Q I hw
 refine isTrue_plain (thn (h pins s σ H _ I hw) fun v s1 ⟨x,H1,I1,r1,q1⟩=>?_) (he _)
 obtain ⟨d,rfl,q⟩:=q1
 cases r1
 exact wpAny_truthy_bool ⟨H1,I1,q⟩
variable {tA tB':TT} {rest:List Expr}
def tAnd (t u:TT):TT:=fun σ H Q=>t σ H fun c H1=>if c=true then u σ H1 Q else Q false H1
def tOr (t u:TT):TT:=fun σ H Q=>t σ H fun c H1=>if c=true then Q true H1 else u σ H1 Q
def tNot (t:TT):TT:=fun σ H Q=>t σ H fun c H1=>Q (!c) H1
theorem pw_and1 (ha:PT X a tA):PW X (.BoolOp .And [a] pos) tA:=by
 intro wh pins s σ H Q I h
 refine isTrue_and (thn (ha pins s σ H Q I h) fun c s1 e=>?_)
 cases c with
 | true=>exact isTrue_and_nil e
 | false=>exact e
theorem pw_or1 (ha:PT X a tA):PW X (.BoolOp .Or [a] pos) tA:=by
 intro wh pins s σ H Q I h
 refine isTrue_or (thn (ha pins s σ H Q I h) fun c s1 e=>?_)
 cases c with
 | false=>exact isTrue_or_nil e
 | true=>exact e
theorem pw_and (ha:PT X a tA) (hb:PW X (.BoolOp .And (b::rest) pos) tB'):PW X (.BoolOp .And (a::b::rest) pos) (tAnd tA tB'):=by
 intro wh pins s σ H Q I h
 refine isTrue_and (thn (ha pins s σ H _ I h) fun c s1 ⟨H1,I1,q1⟩=>?_)
 cases c with
 | true=>exact hb wh pins s1 σ H1 Q I1 q1
 | false=>exact ⟨H1,I1,q1⟩
theorem pw_or (ha:PT X a tA) (hb:PW X (.BoolOp .Or (b::rest) pos) tB'):PW X (.BoolOp .Or (a::b::rest) pos) (tOr tA tB'):=by
 intro wh pins s σ H Q I h
 refine isTrue_or (thn (ha pins s σ H _ I h) fun c s1 ⟨H1,I1,q1⟩=>?_)
 cases c with
 | true=>exact ⟨H1,I1,q1⟩
 | false=>exact hb wh pins s1 σ H1 Q I1 q1
theorem pt_not (ha:PT X a tA):PT X (.UnaryOp .Not a pos) (tNot tA):=by
 intro pins s σ H Q I h
 exact isTrue_not (ha pins s σ H (fun c H1=>Q (!c) H1) I h)
def tAndV (ta tb:TE):TE:=fun σ H Q=>ta σ H fun x H1=>∃ c,x = .bl c/\if c=true then tb σ H1 Q else Q (.bl false) H1
theorem pe_one {op} {t:TE} (h:PE X a t):PE X (.BoolOp op [a] pos) t:=fun pins s σ H Q I hw=>BoolOp_one (h pins s σ H Q I hw)
theorem pe_and (ha:PE X a ta) (hb:PE X (.BoolOp .And (b::rest) pos) tb):PE X (.BoolOp .And (a::b::rest) pos) (tAndV ta tb):=by
 intro pins s σ H Q I h
 refine BoolOp_and (thn (ha pins s σ H _ I h) fun v s1 ⟨x,H1,I1,r1,q1⟩=>?_)
 obtain ⟨c,rfl,q1⟩:=q1
 cases r1
 refine wpAny_truthy_bool ?_
 cases c with
 | true=>exact hb pins s1 σ H1 Q I1 q1
 | false=>exact ⟨.bl false,H1,I1,rfl,q1⟩
def tIf (t:TT) (ta tb:TE):TE:=fun σ H Q=>t σ H fun c H1=>if c=true then ta σ H1 Q else tb σ H1 Q
theorem pe_ifExp {c:Expr} (hc:PT X c tA) (ha:PE X a ta) (hb:PE X b tb):PE X (.IfExp c a b pos) (tIf tA ta tb):=by
 intro pins s σ H Q I h
 refine wpAny_IfExp (thn (hc pins s σ H _ I h) fun d s1 ⟨H1,I1,q1⟩=>?_)
 cases d with
 | true=>exact ha pins s1 σ H1 Q I1 q1
 | false=>exact hb pins s1 σ H1 Q I1 q1
end
end L2
namespace L2
open PySem PySem.Spec PyProof.Rows
def SqL (K:PySem.W.Frag) (H:Hp) (a:Addr) (xs:List V):Prop :=
 Rd H a (.lst xs) ∨
  ∃ (o:Obj) (its:Array Value) (n:Nat),K.lookup a=some o/\o.cls = .type "list"/\o.dict=none/\o.data = .seq its n/\its.size<=sizeLine/\Vals xs its.toList
def SqT (K:PySem.W.Frag) (H:Hp) (a:Addr) (xs:List V):Prop :=
 Rd H a (.tup xs) ∨
  ∃ (o:Obj) (its:Array Value) (n:Nat),K.lookup a=some o/\o.cls = .type "tuple"/\o.data = .seq its n/\its.size<=sizeLine/\Vals xs its.toList
def absV:Value->Option V
 | .none=>some .non
 | .bool b=>some (.bl b)
 | .int i _=>some (.int i)
 | .str x _=>some (.str x)
 | .bytes b _=>some (.byt b)
 | .float b _=>some (.flt b)
 | .ref a=>some (.ref a)
 | .type n=>some (.ty n)
 | _=>none
theorem RelV.abs {x:V} {u:Value} (r:RelV x u):absV u=some x:=by
 cases x with
 | non=>cases r; rfl
 | bl _=>cases r; rfl
 | int _=>obtain ⟨t,rfl⟩:=r; rfl
 | str _=>obtain ⟨t,rfl⟩:=r; rfl
 | byt _=>obtain ⟨t,rfl⟩:=r; rfl
 | flt _=>obtain ⟨t,rfl⟩:=r; rfl
 | ref _=>cases r; rfl
 | ty _=>cases r; rfl
theorem RelV.inj {x y:V} {u:Value} (r:RelV x u) (q:RelV y u):x=y:=Option.some.inj (r.abs.symm.trans q.abs)
theorem Vals.inj:∀ {xs ys:List V} {us:List Value},Vals xs us->Vals ys us->xs=ys
 | _,_,_,.nil,.nil=>rfl
 | _,_,_,.cons r t,.cons r' t'=>by rw [r.inj r',Vals.inj t t']
section
variable {X:Cx} {pins:List (Addr×Obj)} {σ : St} {H:Hp} {s:Shared} {a:Addr} {xs ys:List V}
theorem SqL.of {K:PySem.W.Frag} (h:H a=some (.lst xs)):SqL K H a xs:=.inl (.inl h)
theorem SqT.of {K:PySem.W.Frag} (h:H a=some (.tup xs)):SqT K H a xs:=.inl (.inl h)
theorem Inv.list (I:Inv X pins σ H s) (h:SqL X.K H a xs):∃ its:List Value,Vals xs its/\PlainL s.heap a its.toArray/\xs.length<=sizeLine:=by
 rcases h with h | ⟨o,its,n,hk,hc,hd,hs,hz,r⟩
 · obtain ⟨z, its, n, r, e⟩ := h.ok I.hok
   exact ⟨its,r,⟨_,n,e,rfl,rfl,rfl⟩,z⟩
 · refine ⟨its.toList, r, ⟨o, n, I.kIn a o hk, hc, hd, by simpa using hs⟩, ?_⟩
   have e:=r.length
   simp only [Array.length_toList] at e
   omega
theorem Inv.tuple (I:Inv X pins σ H s) (h:SqT X.K H a xs):∃ its:List Value,Vals xs its/\IsTup s.heap a its.toArray/\xs.length<=sizeLine:=by
 rcases h with h | ⟨o,its,n,hk,hc,hs,hz,r⟩
 · obtain ⟨z, its, r, p⟩ := h.ok I.hok
   exact ⟨its,r,p,z⟩
 · refine ⟨its.toList, r, ⟨o, I.kIn a o hk, hc, n, by simpa using hs⟩, ?_⟩
   have e:=r.length
   simp only [Array.length_toList] at e
   omega
theorem Inv.list_inj (I:Inv X pins σ H s) (h:SqL X.K H a xs) (h':SqL X.K H a ys):xs=ys:=by
 obtain ⟨its,r,⟨o,n,e,_,_,d⟩,_⟩:=I.list h
 obtain ⟨its',r',⟨o',n',e',_,_,d'⟩,_⟩:=I.list h'
 rw [e] at e'; cases e'
 rw [d] at d'
 injection d' with d1 _
 have:its=its':=by simpa using congrArg Array.toList d1
 subst this
 exact r.inj r'
theorem Inv.tuple_inj (I:Inv X pins σ H s) (h:SqT X.K H a xs) (h':SqT X.K H a ys):xs=ys:=by
 obtain ⟨its,r,⟨o,e,_,n,d⟩,_⟩:=I.tuple h
 obtain ⟨its',r',⟨o',e',_,n',d'⟩,_⟩:=I.tuple h'
 rw [e] at e'; cases e'
 rw [d] at d'
 injection d' with d1 _
 have:its=its':=by simpa using congrArg Array.toList d1
 subst this
 exact r.inj r'
end
abbrev Cx.wish (X:Cx) (E:Value->Shared->Prop):Cx:={ X with xe:=E }
abbrev Cx.nox (X:Cx):Cx:=X.wish fun _ _=>False
theorem Cx.Ok.wish {X:Cx} (ok:X.Ok) (E:Value->Shared->Prop):(X.wish E).Ok :=
 ⟨ok.mod,ok.kind,ok.glob,ok.blt,ok.above,ok.inj,ok.has,ok.cab,ok.hd,ok.frames,ok.stk,ok.exf,ok.bs,ok.bsz,ok.noex,ok.exfs,ok.funs,ok.frf⟩
theorem Cx.Ok.unwish {X:Cx} {E:Value->Shared->Prop} (ok:(X.wish E).Ok):X.Ok :=
 ⟨ok.mod,ok.kind,ok.glob,ok.blt,ok.above,ok.inj,ok.has,ok.cab,ok.hd,ok.frames,ok.stk,ok.exf,ok.bs,ok.bsz,ok.noex,ok.exfs,ok.funs,ok.frf⟩
section
variable {X:Cx} {pins:List (Addr×Obj)} {σ : St} {H:Hp} {s:Shared} {E:Value->Shared->Prop}
theorem Inv.wish (I:Inv X pins σ H s) (E:Value->Shared->Prop):Inv (X.wish E) pins σ H s:=⟨I.ok.wish E,I.os,I.bare,I.base,I.loc,I.cell,I.free,I.freeC,I.pin,I.hok,I.len⟩
theorem Inv.unwish (I:Inv (X.wish E) pins σ H s):Inv X pins σ H s:=⟨I.ok.unwish,I.os,I.bare,I.base,I.loc,I.cell,I.free,I.freeC,I.pin,I.hok,I.len⟩
theorem SP.unwish {D:Ends} {f:Flow} {s':Shared} (h:SP (X.wish E) pins D f s'):SP X pins D f s':=by
 cases f with
 | next=>obtain ⟨σ',H',I,q⟩:=h; exact ⟨σ',H',I.unwish,q⟩
 | brk=>obtain ⟨σ',H',I,q⟩:=h; exact ⟨σ',H',I.unwish,q⟩
 | cont=>obtain ⟨σ',H',I,q⟩:=h; exact ⟨σ',H',I.unwish,q⟩
 | ret u=>obtain ⟨v,σ',H',I,r,q⟩:=h; exact ⟨v,σ',H',I.unwish,r,q⟩
theorem PE.nox {e:Expr} {t:TE} (h:PE X.nox e t):PE X e t:=fun pins s σ H Q I hw =>
 wpAny_mono (h pins s σ H Q (I.wish _) hw) (fun _ _ ⟨v,H',I',r,q⟩=>⟨v,H',I'.unwish,r,q⟩) fun _ _ z=>False.elim z
theorem PT.nox {e:Expr} {t:TT} (h:PT X.nox e t):PT X e t:=fun pins s σ H Q I hw =>
 wpAny_mono (h pins s σ H Q (I.wish _) hw) (fun _ _ ⟨H',I',q⟩=>⟨H',I'.unwish,q⟩) fun _ _ z=>False.elim z
theorem PSs.nox {st:List Stmt} {t:TS} (h:PSs X.nox st t):PSs X st t:=fun pins s σ H D I hw =>
 wpAny_mono (h pins s σ H D (I.wish _) hw) (fun _ _ q=>q.unwish) fun _ _ z=>False.elim z
end
section
variable {X:Cx} {st:Stmt} {rest:List Stmt} {t u:TS} {e:Expr} {te:TE} {pos:Pos}
def tNext:TS:=fun D σ H=>D.nx σ H
def tSeq (t u:TS):TS:=fun D σ H=>t { D with nx:=u D } σ H
theorem pss_nil:PSs X [] tNext:=fun _ _ σ H _ I h=>wpAny_execs_nil ⟨σ,H,I,h⟩
theorem wZ (h1:PS X st t) (h2:PSs X rest u):PSs X (st::rest) (tSeq t u):=by
 intro pins s σ H D I h
 refine wpAny_execs_cons (thn (h1 pins s σ H { D with nx:=u D } I h) fun f s1 q=>?_)
 cases f with
 | next =>
   obtain ⟨σ',H',I',q⟩:=q
   exact h2 pins s1 σ' H' D I' q
 | ret v=>exact q
 | brk=>exact q
 | cont=>exact q
theorem pss_one (h1:PS X st t):PSs X [st] t:=by
 intro pins s σ H D I h
 refine wpAny_execs_cons (thn (h1 pins s σ H D I h) fun f s1 q=>?_)
 cases f with
 | next=>exact wpAny_execs_nil q
 | ret v=>exact q
 | brk=>exact q
 | cont=>exact q
def tCont:TS:=fun D σ H=>D.ct σ H
theorem ps_continue:PS X (.Continue pos) tCont:=fun _ _ σ H _ I h=>wpAny_Continue ⟨σ,H,I,h⟩
theorem Inv.quiet {pins:List (Addr×Obj)} {σ : St} {H:Hp} {s:Shared} (I:Inv X pins σ H s):interactive X.env=false:=by simp [interactive,I.ok.kind]
def tDrop (te:TE):TS:=fun D σ H=>te σ H fun _ H1=>D.nx σ H1
theorem ps_expr (he:PE X e te) (hs:swapsWith e none pos.line X.env=pure false:=by rfl):PS X (.Expr e pos) (tDrop te):=by
 intro pins s σ H D I h
 exact wpAny_Expr_any (thn (he pins s σ H _ I h) fun v s1 ⟨x,H1,I1,r1,q1⟩=>⟨σ,H1,I1,q1⟩) I.quiet hs
def tRet (te:TE):TS:=fun D σ H=>te σ H D.rt
theorem vV (he:PE X e te):PS X (.Return (some e) pos) (tRet te):=by
 intro pins s σ H D I h
 exact wpAny_Return_some (thn (he pins s σ H _ I h) fun v s1 ⟨x,H1,I1,r1,q1⟩=>⟨x,σ,H1,I1,r1,q1⟩)
def tIfS (c:TT) (t u:TS):TS:=fun D σ H=>c σ H fun b H1=>if b=true then t D σ H1 else u D σ H1
theorem ps_if {c:Expr} {a b:List Stmt} {tc:TT} (hc:PT X c tc) (ha:PSs X a t) (hb:PSs X b u):PS X (.If c a b pos) (tIfS tc t u):=by
 intro pins s σ H D I h
 refine wpAny_If (thn (hc pins s σ H _ I h) fun d s1 ⟨H1,I1,q1⟩=>?_)
 cases d with
 | true=>exact ha pins s1 σ H1 D I1 q1
 | false=>exact hb pins s1 σ H1 D I1 q1
def tNever:TS:=fun _ _ _=>False
theorem ps_never:PS X st tNever:=fun _ _ _ _ _ _ h=>h.elim
end
abbrev TG:=V->St->Hp->(St->Hp->Prop)->Prop
abbrev TGs:=List V->St->Hp->(St->Hp->Prop)->Prop
def PG (X:Cx) (target:Expr) (t:TG):Prop :=
 ∀ (pins:List (Addr×Obj)) (s:Shared) (σ : St) (H:Hp) (v:V) (u:Value) (Q:St->Hp->Prop),Inv X pins σ H s->RelV v u->t v σ H Q →
  wpAny (model X.prog X.w) X.A (assign target X.env u) (fun _ s'=>∃ σ' H',Inv X pins σ' H' s'/\Q σ' H') X.xe s
def PGs (X:Cx) (ts:List Expr) (t:TGs):Prop :=
 ∀ (pins:List (Addr×Obj)) (s:Shared) (σ : St) (H:Hp) (vs:List V) (us:List Value) (Q:St->Hp->Prop),Inv X pins σ H s->Vals vs us->t vs σ H Q →
  wpAny (model X.prog X.w) X.A (assignInOrder ((assignEach ts X.env).map (·.2)) us) (fun _ s'=>∃ σ' H',Inv X pins σ' H' s'/\Q σ' H') X.xe s
abbrev TSet:=V->V->V->Hp->(Hp->Prop)->Prop
def PSet (X:Cx) (t:TSet):Prop :=
 ∀ (pins:List (Addr×Obj)) (s:Shared) (σ : St) (H:Hp) (o i v:V) (ov iv u:Value) (Q:Hp->Prop),Inv X pins σ H s->RelV o ov->RelV i iv->RelV v u->t o i v H Q →
  wpAny (model X.prog X.w) X.A (setItem ov iv u) (fun _ s'=>∃ H',Inv X pins σ H' s'/\Q H') X.xe s
abbrev TIp:=V->V->Hp->VK->Prop
def PIp (X:Cx) (op:Operator) (t:TIp):Prop :=
 ∀ (pins:List (Addr×Obj)) (s:Shared) (σ : St) (H:Hp) (x y:V) (v u:Value) (Q:VK),Inv X pins σ H s->RelV x v->RelV y u->t x y H Q →
  wpAny (model X.prog X.w) X.A (inplaceOp op v u) (EP X pins σ Q) X.xe s
section
variable {X:Cx} {pos:Pos}
def gName (i:Nat):TG:=fun v σ H Q=>Q (σ.set i (some v)) H
theorem pg_name {i:Nat} {x:Str} (hN:X.N.Nodup) (hi:X.N[i]? = some x) (hx:Loc X.env.scope x) (hf:X.fn x=true \/ X.env.scope.names.lookup x=some .local:=by first | exact .inl rfl | exact .inr rfl | assumption):PG X (.Name x pos) (gName i):=by
 intro pins s σ H v u Q I r h
 exact wpAny_assign_Name (vA I hN hi hx r (fun s' I'=>⟨_,H,I',h⟩) hf)
def gNil:TGs:=fun vs σ H Q=>vs=[]/\Q σ H
def gCons (t:TG) (u:TGs):TGs:=fun vs σ H Q=>∃ v r,vs=v::r/\t v σ H fun σ' H'=>u r σ' H' Q
theorem pgs_nil:PGs X [] gNil:=by
 intro pins s σ H vs us Q I r h
 obtain ⟨e,h⟩:=h
 subst e
 cases r
 exact assignInOrder_nil ⟨σ,H,I,h⟩
theorem pgs_cons {e:Expr} {es:List Expr} {t:TG} {u:TGs} (h1:PG X e t) (h2:PGs X es u)
  (hs:(assignEach (e::es) X.env).map (·.2)=assign e X.env::(assignEach es X.env).map (·.2):=by rfl):PGs X (e::es) (gCons t u):=by
 intro pins s σ H vs us Q I r h
 obtain ⟨v,vr,e1,h⟩:=h
 subst e1
 cases r with
 | cons r rr =>
   rw [hs]
   refine assignInOrder_cons (thn (h1 pins s σ H _ _ _ I r h) fun _ s1 ⟨σ1,H1,I1,q1⟩=>?_)
   exact h2 pins s1 σ1 H1 _ _ Q I1 rr q1
def gTup (K:PySem.W.Frag) (n:Nat) (t:TGs):TG:=fun v σ H Q=>∃ a xs,v = .ref a/\SqT K H a xs/\xs.length=n/\t xs σ H Q
theorem pg_tup {es:List Expr} {k:Nat} {t:TGs} {n:Nat} (hc:X.calm=true) (h:PGs X es t)
  (hn:(assignEach es X.env).length=n:=by rfl) (hst:(assignEach es X.env).findIdx? (·.1)=none:=by rfl):PG X (.Tuple es k pos) (gTup X.K n t):=by
 intro pins s σ H v u Q I r hw
 obtain ⟨a,xs,e1,hq,hl,hw⟩:=hw
 subst e1
 cases r
 obtain ⟨its,rv,ht,hz⟩:=I.tuple hq
 refine assign_Tuple_tuple (I.ok.hd hc) ht (by simp [hn,<- hl,rv.length]) hst fun h' hx=>?_
 have I1:Inv X pins σ H { s with heap:=h' }:=I.kept (t':=s.toks) fun b o e=>hx b o (Nat.ne_of_lt (Heap.lt_size e)) e
 exact h pins _ σ H xs _ Q I1 (by simpa using rv) hw
def gSub (to ti:TE) (t:TSet):TG:=fun v σ H Q=>to σ H fun o H1=>ti σ H1 fun i H2=>t o i v H2 fun H3=>Q σ H3
theorem pg_sub {o i:Expr} {to ti:TE} {t:TSet} (ho:PE X o to) (hi:PE X i ti) (hs:PSet X t)
  (ha:∀ v,assign (.Subscript o i pos) X.env v=(do
    let ov <- holding [v] (eval o X.env)
    let iv <- holding [v,ov] (eval i X.env)
    standAt pos
    holding [v,ov,iv] (setItem ov iv v)
    release [v,ov,iv] []):=by intro _; rfl):PG X (.Subscript o i pos) (gSub to ti t):=by
 intro pins s σ H v u Q I r h
 rw [ha]
 refine wpAny_bind (wpAny_holding (thn (ho pins s σ H _ I h) fun ov s1 ⟨x,H1,I1,r1,q1⟩=>?_))
 refine wpAny_bind (wpAny_holding (thn (hi pins s1 σ H1 _ I1 q1) fun iv s2 ⟨y,H2,I2,r2,q2⟩=>?_))
 refine wpAny_bind (wpAny_standAt (wpAny_bind (wpAny_holding (thn (hs pins s2 σ H2 x y v ov iv u _ I2 r1 r2 r q2) fun _ s3 ⟨H3,I3,q3⟩=>?_))))
 exact wpAny_release ⟨σ,H3,I3,q3⟩
def tAsg (te:TE) (g:TG):TS:=fun D σ H=>te σ H fun x H1=>g x σ H1 D.nx
theorem ps_asg {tg e:Expr} {te:TE} {g:TG} (he:PE X e te) (hg:PG X tg g) (hs:swapsWithSole [tg] e pos.line X.env=pure false:=by rfl) (hw:swappedStores [tg] e X.env=pure none:=by rfl)
  (h1:(assignEach [tg] X.env).map (·.2)=[assign tg X.env]:=by rfl):PS X (.Assign [tg] e pos) (tAsg te g):=by
 intro pins s σ H D I h
 refine wpAny_Assign_stores (thn (he pins s σ H _ I h) fun v s1 ⟨x,H1,I1,r1,q1⟩=>?_) hs hw
 rw [h1]
 exact thn (hg pins s1 σ H1 x v _ I1 r1 q1) fun _ s2 q=>q
theorem ps_set {i:Nat} {x:Str} {e:Expr} {te:TE} {pos':Pos} (hN:X.N.Nodup) (hi:X.N[i]? = some x) (hx:Loc X.env.scope x) (he:PE X e te) (hs:swapsWith e (some (.Name x pos')) pos.line X.env=pure false:=by rfl) (hf:X.fn x=true \/ X.env.scope.names.lookup x=some .local:=by first | exact .inl rfl | exact .inr rfl | assumption) :
  PS X (.Assign [.Name x pos'] e pos) (tAsg te (gName i)):=by
 intro pins s σ H D I h
 refine wpAny_Assign_Name (thn (he pins s σ H _ I h) fun v s1 ⟨y,H1,I1,r1,q1⟩=>?_) hs
 exact vA I1 hN hi hx r1 (fun s2 I2=>⟨_,H1,I2,q1⟩) hf
def tAug (i:Nat) (te:TE) (ti:TIp):TS:=fun D σ H=>∃ x,σ[i]? = some (some x)/\te σ H fun y H1=>ti x y H1 fun z H2=>D.nx (σ.set i (some z)) H2
theorem ps_aug {i:Nat} {x:Str} {e:Expr} {te:TE} {op:Operator} {ti:TIp} {pos':Pos} (hN:X.N.Nodup) (hi:X.N[i]? = some x) (hx:Loc X.env.scope x) (he:PE X e te) (ho:PIp X op ti) (hf:X.fn x=true \/ X.env.scope.names.lookup x=some .local:=by first | exact .inl rfl | exact .inr rfl | assumption) :
  PS X (.AugAssign (.Name x pos') op e pos) (tAug i te ti):=by
 intro pins s σ H D I h
 obtain ⟨v,e1,h⟩:=h
 obtain ⟨m,hn,hl⟩:=I.loc
 have vis:Vis X.env.scope x:=by rcases hx with k | k; exact .inl k; exact .inr (.inl k)
 obtain ⟨u,r,l⟩:=hl i x v hi e1 vis
 refine wpAny_AugAssign_Name ?_
 have go:wpAny (model X.prog X.w) X.A (eval e X.env) (fun w s₂=>wpAny (model X.prog X.w) X.A (inplaceOp op u w) (fun r s₃=>wpAny (model X.prog X.w) X.A (storeName X.env x r) (fun _=>SP X pins D .next) X.xe s₃) X.xe s₂) X.xe s:=by
  refine thn (he pins s σ H _ I h) fun w s1 ⟨y,H1,I1,r1,q1⟩=>?_
  refine thn (ho pins s1 σ H1 v y u w _ I1 r r1 q1) fun z s2 ⟨zv,H2,I2,r2,q2⟩=>?_
  exact vA I2 hN hi hx r2 (fun s3 I3=>⟨_,H2,I3,q2⟩) hf
 rcases l with ⟨hk,hm⟩ | ⟨hk,c,hc,hcell⟩
 · exact wpAny_loadName_local I.ok.kind hk hn hm go
 · rcases hk with hk | hk
   · exact wpAny_loadName_cell I.ok.kind hk hc hcell go
   · rcases hx with k | k
     · have : X.env.scope.names.lookup x = some .free := hk
       rw [k] at this; cases this
     · have : X.env.scope.names.lookup x = some .free := hk
       rw [k] at this; cases this
def ipI (f:Int->Int->Int):TIp:=fun x y H Q=>∃ i j,x = .int i/\y = .int j/\Q (.int (f i j)) H
theorem ip_add:PIp X .Add (ipI fun i j=>i+j):=by
 intro pins s σ H x y v u Q I r1 r2 h
 obtain ⟨i,j,e1,e2,q⟩:=h
 subst e1; subst e2
 obtain ⟨t,rfl⟩:=r1
 obtain ⟨t',rfl⟩:=r2
 exact iadd_int ⟨.int _,H,I.tok _,⟨_,rfl⟩,q⟩
end
section
variable {X:Cx} {pos:Pos}
def tWhile (c:TT) (tb:TS):TS:=fun D σ H=>∃ W:Nat->St->Hp->Prop,(∃ m,W m σ H)/\∀ m σ H,W m σ H →
 c σ H fun b H1=>if b=true then ∃ N:St->Hp->Prop,(∀ σ' H',N σ' H'->∃ m',m' < m/\W m' σ' H')/\tb { D with nx:=N,ct:=N,bk:=D.nx } σ H1 else D.nx σ H1
theorem ps_while {c:Expr} {body:List Stmt} {tc:TT} {tb:TS} (hp:PassesOwn (model X.prog X.w) X.A X.env X.xe) (hc:PT X c tc) (hb:PSs X body tb):PS X (.While c body [] pos) (tWhile tc tb):=by
 intro pins s σ H D I h
 obtain ⟨W,⟨m0,w0⟩,turn⟩:=h
 refine wpAny_While (codeAny_whileLoop (fun n s'=>∃ σ' H',Inv X pins σ' H' s'/\W n σ' H') ?_ m0 ⟨σ,H,I,w0⟩)
 rintro n s1 ⟨σ1,H1,I1,w1⟩
 refine wpAny_passesOwn hp (thn (hc pins s1 σ1 H1 _ I1 (turn n σ1 H1 w1)) fun b s2 ⟨H2,I2,q2⟩=>?_)
 cases b with
 | true =>
   obtain ⟨N,hN,q2⟩:=q2
   rw [if_pos rfl]
   refine wpAny_passesOwn hp (thn (hb pins s2 σ1 H2 _ I2 q2) fun f s3 q3=>?_)
   cases f with
   | next =>
     obtain ⟨σ3,H3,I3,n3⟩:=q3
     obtain ⟨m',hm,w3⟩:=hN σ3 H3 n3
     exact ⟨m',hm,σ3,H3,I3,w3⟩
   | cont =>
     obtain ⟨σ3,H3,I3,n3⟩:=q3
     obtain ⟨m',hm,w3⟩:=hN σ3 H3 n3
     exact ⟨m',hm,σ3,H3,I3,w3⟩
   | brk=>exact q3
   | ret v=>exact q3
 | false =>
   rw [if_neg Bool.false_ne_true]
   exact wpAny_execs_nil ⟨σ1,H2,I2,q2⟩
end
structure It where
 go:Nat->Hp->Prop
 yld:Nat->Hp->V->Hp->Prop
 stop:Nat->Hp->Prop
def FpOk (X:Cx) (pins:List (Addr×Obj)) (H:Hp) (b:Addr):Prop :=
 H b=none/\b≠X.env.locals/\b ∉ X.fs/\(b∈X.ex \/ X.s₀.heap.objs.size<=b)/\(∀ x c,X.env.cells.lookup x=some c->c≠b)/\∀ p∈X.pn++pins,p.1≠b
theorem Inv.fpOk {X:Cx} {pins:List (Addr×Obj)} {σ : St} {H H':Hp} {s:Shared} {b:Addr} (I:Inv X pins σ H s) (hb:s.heap.objs.size<=b) (hn:H' b=none):FpOk X pins H' b:=by
 refine ⟨hn,Nat.ne_of_gt (Nat.lt_of_lt_of_le I.lt hb),I.nofs hb,.inr (Nat.le_trans I.sz hb),fun x c e z=>?_,fun p hp z=>?_⟩
 · obtain ⟨v, q⟩ := I.cell x c e
   exact absurd (Nat.lt_of_lt_of_le q.lt (by rw [z]; exact hb)) (Nat.lt_irrefl _)
 · exact absurd (Nat.lt_of_lt_of_le (Heap.lt_size (I.pin p hp).1) (by rw [z]; exact hb)) (Nat.lt_irrefl _)
structure Turn (P:Program) (w:World) (K:PySem.W.Frag) (tg:Expr) (J:It) (fp:List Addr) (it:Addr) (tn:Nat->Heap->Prop):Prop where
 mem:it∈fp
 obj:∀ i h,tn i h->∀ b∈fp,∃ o,h.get? b=some o/\∀ v,o.data≠.cell v
 keep:∀ i h h',tn i h->(∀ b∈fp,∀ o,h.get? b=some o->h'.get? b=some o)->tn i h'
 item:∀ (X:Cx),X.prog=P->X.w=w->X.K=K->X.calm=true->∀ (i:Nat) (pins:List (Addr×Obj)) (s:Shared) (σ : St) (H:Hp) (E:Value->Shared->Prop),Inv X pins σ H s->(∀ b∈fp,FpOk X pins H b)->tn i s.heap->J.go i H →
  wpAny (model P w) X.A (pyNext (.ref it)) (fun r s1=>∃ u,r=some u ∧
   wpAny (model P w) X.A (letOwnedTupleGo tg (.ref it) u) (fun _ s2=>∃ x H',Inv X pins σ H' s2/\RelV x u/\J.yld i H x H'/\tn (i+1) s2.heap/\∀ b∈fp,H' b=none) E s1) E s
 done:∀ (X:Cx),X.prog=P->X.w=w->X.K=K->X.calm=true->∀ (i:Nat) (pins:List (Addr×Obj)) (s:Shared) (σ : St) (H:Hp) (E:Value->Shared->Prop),Inv X pins σ H s->(∀ b∈fp,FpOk X pins H b)->tn i s.heap->J.stop i H →
  wpAny (model P w) X.A (pyNext (.ref it)) (fun r s1=>r=none/\Inv X pins σ H s1) E s
 self:∀ (A:Around) (i:Nat) (s:Shared) (Q:Value->Shared->Prop) (E:Value->Shared->Prop),tn i s.heap->Q (.ref it) s->wpAny (model P w) A (pyIter (.ref it)) Q E s
abbrev TI:=St->Hp->(It->Hp->Prop)->Prop
def PIE (X:Cx) (pins:List (Addr×Obj)) (σ : St) (tg:Expr) (R:It->Hp->Prop) (itv:Value) (s2:Shared):Prop :=
 ∃ (it:Addr) (fp:List Addr) (tn:Nat->Heap->Prop) (J:It) (H':Hp),itv = .ref it/\Inv X pins σ H' s2/\Turn X.prog X.w X.K tg J fp it tn/\tn 0 s2.heap/\(∀ b∈fp,FpOk X pins H' b)/\R J H'
def PI (X:Cx) (tg iter:Expr) (wi:TI):Prop :=
 ∀ (pins:List (Addr×Obj)) (s:Shared) (σ : St) (H:Hp) (R:It->Hp->Prop),Inv X pins σ H s->wi σ H R →
  wpAny (model X.prog X.w) X.A (eval iter X.env) (fun v s1=>wpAny (model X.prog X.w) X.A (pyIter v) (PIE X pins σ tg R) X.xe s1) X.xe s
theorem go_of {M:Model} {A:Around} {E:Value->Shared->Prop} {s:Shared} {tg:Expr} {it:Addr} {u:Value} {o:Obj} {n:String} {vs:Array Value} {Q:Unit->Shared->Prop} (ho:s.heap.get? it=some o) (hc:o.cls = .type n) (hd:o.data = .fields vs)
  (hn:["enumerate","zip","dict_itemiterator","dict_reverseitemiterator","odict_iterator","itertools.zip_longest","itertools.pairwise"].contains n=false) (hQ:Q () s):wpAny M A (letOwnedTupleGo tg (.ref it) u) Q E s:=by
 unfold letOwnedTupleGo
 cases tg <;> first
  | exact wpAny_pure hQ
  | (cases u <;> first
      | exact wpAny_pure hQ
      | (refine wpAny_bind (wpAny_load ho ?_)
         rw [hc,hd]
         show wpAny M A (if (["enumerate","zip","dict_itemiterator","dict_reverseitemiterator","odict_iterator","itertools.zip_longest","itertools.pairwise"].contains n && vs[0]? == some (rawInt _))=true then _ else _) Q E s
         rw [if_neg (by intro h; rw [hn,Bool.false_and] at h; cases h)]
         exact wpAny_pure hQ))
def Itl (K:PySem.W.Frag) (a:Addr):It :=
 ⟨fun i H=>∃ xs x,SqL K H a xs/\xs[i]? = some x,fun i H x H'=>H'=H/\∀ xs,SqL K H a xs->xs[i]? = some x,fun i H=>∃ xs,SqL K H a xs/\xs.length<=i⟩
def Itt (K:PySem.W.Frag) (a:Addr):It :=
 ⟨fun i H=>∃ xs x,SqT K H a xs/\xs[i]? = some x,fun i H x H'=>H'=H/\∀ xs,SqT K H a xs->xs[i]? = some x,fun i H=>∃ xs,SqT K H a xs/\xs.length<=i⟩
def Itr (lo:Int) (n:Nat):It:=⟨fun i _=>i < n,fun i H x H'=>H'=H/\x = .int (lo+i),fun i _=>n<=i⟩
theorem turn_list {P:Program} {w:World} {K:PySem.W.Frag} {tg:Expr} (a it:Addr):Turn P w K tg (Itl K a) [it] it (fun i h=>h.IsListIter it a i) where
 mem:=by simp
 obj:=fun i h st b hb=>by
  have e:b=it:=by simpa using hb
  subst e
  obtain ⟨o,e,c,d⟩:=st
  exact ⟨o,e,fun v z=>by rw [d] at z; cases z⟩
 keep:=fun i h h' st k=>st.at fun o e=>k it (by simp) o e
 item:=by
  intro X hP hw hK hc i pins s σ H E I hf st hg
  subst hP hw hK
  obtain ⟨xs,x,hq,hx⟩:=hg
  obtain ⟨its,rv,p,hz⟩:=I.list hq
  obtain ⟨u,hu,ru⟩:=rv.get hx
  obtain ⟨f0,f1,f2,f3,f4,f5⟩:=hf it (by simp)
  refine wpAny_pyNext_list_item st p.isList (x:=u) (by simpa using hu) fun h' st' sb=>?_
  have I1:Inv X pins σ H { s with heap:=h' }:=I.turned (t':=s.toks) (fun b o hb e=>(sb.2 b hb).trans e) f0 f1 f3 f4 f5
  obtain ⟨o,e,c,d⟩:=id st'
  exact ⟨u,rfl,go_of (s:={ s with heap:=h' }) e c d (by decide) ⟨x,H,I1,ru,⟨rfl,fun ys hy=>by rw [I.list_inj hy hq]; exact hx⟩,st',fun b hb=>(hf b hb).1⟩⟩
 done:=by
  intro X hP hw hK hc i pins s σ H E I hf st hg
  subst hP hw hK
  obtain ⟨xs,hq,hx⟩:=hg
  obtain ⟨its,rv,p,hz⟩:=I.list hq
  obtain ⟨f0,f1,f2,f3,f4,f5⟩:=hf it (by simp)
  have hl:=rv.length
  exact wpAny_pyNext_list_end (I.ok.hd hc) st p.isList (by simp; omega) fun h' eb=>⟨rfl,I.turned (t':=s.toks) (fun b o hb e=>eb b o hb e) f0 f1 f3 f4 f5⟩
 self:=fun _ _ _ _ _ st h=>wpAny_pyIter_listiter st h
theorem turn_tuple {P:Program} {w:World} {K:PySem.W.Frag} {tg:Expr} (a it:Addr):Turn P w K tg (Itt K a) [it] it (fun i h=>h.IsTupleIter it a i) where
 mem:=by simp
 obj:=fun i h st b hb=>by
  have e:b=it:=by simpa using hb
  subst e
  obtain ⟨o,e,c,d⟩:=st
  exact ⟨o,e,fun v z=>by rw [d] at z; cases z⟩
 keep:=fun i h h' st k=>st.at fun o e=>k it (by simp) o e
 item:=by
  intro X hP hw hK hc i pins s σ H E I hf st hg
  subst hP hw hK
  obtain ⟨xs,x,hq,hx⟩:=hg
  obtain ⟨its,rv,p,hz⟩:=I.tuple hq
  obtain ⟨u,hu,ru⟩:=rv.get hx
  obtain ⟨f0,f1,f2,f3,f4,f5⟩:=hf it (by simp)
  refine wpAny_pyNext_tuple_item st (show s.heap.IsTuple a its.toArray from p) (x:=u) (by simpa using hu) fun h' st' sb=>?_
  have I1:Inv X pins σ H { s with heap:=h' }:=I.turned (t':=s.toks) (fun b o hb e=>(sb.2 b hb).trans e) f0 f1 f3 f4 f5
  obtain ⟨o,e,c,d⟩:=id st'
  exact ⟨u,rfl,go_of (s:={ s with heap:=h' }) e c d (by decide) ⟨x,H,I1,ru,⟨rfl,fun ys hy=>by rw [I.tuple_inj hy hq]; exact hx⟩,st',fun b hb=>(hf b hb).1⟩⟩
 done:=by
  intro X hP hw hK hc i pins s σ H E I hf st hg
  subst hP hw hK
  obtain ⟨xs,hq,hx⟩:=hg
  obtain ⟨its,rv,p,hz⟩:=I.tuple hq
  obtain ⟨f0,f1,f2,f3,f4,f5⟩:=hf it (by simp)
  have hl:=rv.length
  exact wpAny_pyNext_tuple_end (I.ok.hd hc) st (show s.heap.IsTuple a its.toArray from p) (by simp; omega) fun h' eb=>⟨rfl,I.turned (t':=s.toks) (fun b o hb e=>eb b o hb e) f0 f1 f3 f4 f5⟩
 self:=fun _ _ _ _ _ st h=>wpAny_pyIter_tupleiter st h
theorem turn_range {P:Program} {w:World} {K:PySem.W.Frag} {tg:Expr} (it:Addr) (lo:Int) (n:Nat):Turn P w K tg (Itr lo n) [it] it (fun i h=>IsRangeIter h it (lo+(i:Nat) * 1) ((n:Int) - (i:Nat)) 1) where
 mem:=by simp
 obj:=fun i h st b hb=>by
  have e:b=it:=by simpa using hb
  subst e
  exact ⟨_,st,fun v z=>by
   have z':Data.fields _=Data.cell v:=z
   cases z'⟩
 keep:=fun i h h' st k=>k it (by simp) _ st
 item:=by
  intro X hP hw hK hc i pins s σ H E I hf st hg
  subst hP hw hK
  obtain ⟨f0,f1,f2,f3,f4,f5⟩:=hf it (by simp)
  have W:=Walks.range (prog:=X.prog) (w:=X.w) (I.ok.hd hc) it lo 1 n
  refine W.item i s _ _ hg st fun v h' tk hv st' kk=>?_
  obtain ⟨t,rfl⟩:=hv
  have I1:Inv X pins σ H { s with heap:=h',toks:=tk }:=I.turned (fun b o hb e=>kk b o (by simpa using hb) e) f0 f1 f3 f4 f5
  refine ⟨_,rfl,go_of (s:={ s with heap:=h',toks:=tk }) (n:="range_iterator") st' rfl rfl (by decide) ⟨.int (lo+i),H,I1,⟨t,?_⟩,⟨rfl,rfl⟩,st',fun b hb=>(hf b hb).1⟩⟩
  rw [Int.mul_one]
 done:=by
  intro X hP hw hK hc i pins s σ H E I hf st hg
  subst hP hw hK
  obtain ⟨f0,f1,f2,f3,f4,f5⟩:=hf it (by simp)
  exact wpAny_pyNext_range_end (I.ok.hd hc) st (by have:n<=i:=hg; omega) fun h' eb=>⟨rfl,I.turned (t':=s.toks) (fun b o hb e=>eb b o hb e) f0 f1 f3 f4 f5⟩
 self:=fun _ _ _ _ _ st h=>wpAny_pyIter_rangeiter st h
end L2
namespace L2
open PySem PySem.Spec PyProof.Rows
section
variable {X:Cx} {tg:Expr}
def iList (K:PySem.W.Frag) (tl:TE):TI:=fun σ H R=>tl σ H fun x H1=>∃ a,x = .ref a/\(∃ xs,SqL K H1 a xs)/\R (Itl K a) H1
def iTup (K:PySem.W.Frag) (tl:TE):TI:=fun σ H R=>tl σ H fun x H1=>∃ a,x = .ref a/\(∃ xs,SqT K H1 a xs)/\R (Itt K a) H1
theorem pi_list {l:Expr} {tl:TE} (hl:PE X l tl):PI X tg l (iList X.K tl):=by
 intro pins s σ H R I h
 refine thn (hl pins s σ H _ I h) fun v s1 ⟨x,H1,I1,r1,q1⟩=>?_
 obtain ⟨a,e,⟨xs,hq⟩,q⟩:=q1
 subst e
 cases r1
 obtain ⟨its,rv,p,hz⟩:=I1.list hq
 refine wpAny_pyIter_list p.isList ?_
 refine ⟨s1.heap.objs.size,[s1.heap.objs.size],_,_,H1,rfl,I1.kept (t':=s1.toks) fun b o e=>Heap.get?_push_of_some _ e,turn_list a _,⟨_,Heap.get?_push_size _ rfl,rfl,rfl⟩,fun b hb=>?_,q⟩
 have e:b=s1.heap.objs.size:=by simpa using hb
 subst e
 exact I1.fpOk (Nat.le_refl _) (I1.hok.fresh (Nat.le_refl _))
theorem pi_tup {l:Expr} {tl:TE} (hl:PE X l tl):PI X tg l (iTup X.K tl):=by
 intro pins s σ H R I h
 refine thn (hl pins s σ H _ I h) fun v s1 ⟨x,H1,I1,r1,q1⟩=>?_
 obtain ⟨a,e,⟨xs,hq⟩,q⟩:=q1
 subst e
 cases r1
 obtain ⟨its,rv,p,hz⟩:=I1.tuple hq
 refine wpAny_pyIter_tuple (show s1.heap.IsTuple a its.toArray from p) ?_
 refine ⟨s1.heap.objs.size,[s1.heap.objs.size],_,_,H1,rfl,I1.kept (t':=s1.toks) fun b o e=>Heap.get?_push_of_some _ e,turn_tuple a _,⟨_,Heap.get?_push_size _ rfl,rfl,rfl⟩,fun b hb=>?_,q⟩
 have e:b=s1.heap.objs.size:=by simpa using hb
 subst e
 exact I1.fpOk (Nat.le_refl _) (I1.hok.fresh (Nat.le_refl _))
theorem range_it {pins:List (Addr×Obj)} {σ : St} {H:Hp} {s:Shared} {R:It->Hp->Prop} {E:Value->Shared->Prop} {lo hi:Int} {t u v:Tok} {tk:Nat} (I:Inv X pins σ H s) (h1 : -(2 ^ 62)<=lo) (h2:lo < 2 ^ 62) (h3 : -(2 ^ 62)<=hi) (h4:hi < 2 ^ 62)
  (q:R (Itr lo (hi - lo).toNat) H):wpAny (model X.prog X.w) X.A (pyIter (.ref s.heap.objs.size)) (PIE X pins σ tg R) E { s with heap:=s.heap.push { cls:=.type "range",data:=.fields #[.int lo t,.int hi u,.int 1 v] },toks:=tk }:=by
 refine wpAny_pyIter_range (IsRange.new ..) (small_one h1 h2 h3 h4) ?_
 have I1:Inv X pins σ H { s with heap:=s.heap.push { cls:=.type "range",data:=.fields #[.int lo t,.int hi u,.int 1 v] },toks:=tk }:=I.kept fun b o e=>Heap.get?_push_of_some _ e
 refine ⟨(s.heap.push { cls:=.type "range",data:=.fields #[.int lo t,.int hi u,.int 1 v] }).objs.size,[(s.heap.push { cls:=.type "range",data:=.fields #[.int lo t,.int hi u,.int 1 v] }).objs.size],_,_,H,rfl,
  I1.kept (t':=tk) fun b o e=>Heap.get?_push_of_some _ e,turn_range _ lo (hi - lo).toNat,?_,fun b hb=>?_,q⟩
 · have e1 : lo + ((0 : Nat) : Int) * 1 = lo := by simp
   have e2:(((hi - lo).toNat:Nat):Int) - ((0:Nat):Int)=Builtin.Range.rangeSize lo hi 1:=by rw [rangeSize_one]; split <;> omega
   show IsRangeIter _ _ (lo+((0:Nat):Int) * 1) ((((hi - lo).toNat:Nat):Int) - ((0:Nat):Int)) 1
   rw [e1,e2]
   exact Heap.get?_push_size _ rfl
 · have e : b = (s.heap.push { cls := .type "range", data := .fields #[.int lo t, .int hi u, .int 1 v] }).objs.size := by simpa using hb
   subst e
   exact I1.fpOk (Nat.le_refl _) (I1.hok.fresh (Nat.le_refl _))
def iRng1 (ta:TA):TI:=fun σ H R=>ta σ H fun vs H1=>∃ j:Int,vs=[.int j]/\-(2 ^ 62)<=j/\j < 2 ^ 62/\R (Itr 0 j.toNat) H1
theorem pi_range1 {a:Expr} {ta:TA} {p pos:Pos} (hg:Gl X "range") (hm:X.mg "range" = none) (ha:PA X [a] ta) (hs:starEach [a] X.env=[(false,eval a X.env)]:=by rfl):PI X tg (.Call (.Name "range" p) [a] [] pos) (iRng1 ta):=by
 intro pins s σ H R I h
 refine Call_ (kB I hg hm boot_range (PyProof.Rows.callWith_type1 (thn (ha pos pins s σ H _ I h) fun us s1 ⟨vs,H1,I1,r1,q1⟩=>?_) hs rfl))
 obtain ⟨j,e,q1,q2,q⟩:=q1
 subst e
 cases r1 with
 | cons r rr =>
   cases rr
   obtain ⟨t,rfl⟩:=r
   exact call_range_1 (range_it I1 (by omega) (by omega) q1 q2 (by simpa using q))
def tFor (wi:TI) (g:TG) (tb:TS):TS:=fun D σ H=>wi σ H fun J H1=>∃ W:Nat->Nat->St->Hp->Prop,(∃ m,W 0 m σ H1)/\∀ i m σ H,W i m σ H →
 (J.stop i H/\D.nx σ H) \/ (J.go i H/\∃ N:St->Hp->Prop,(∀ σ' H',N σ' H'->∃ m',m' < m/\W (i+1) m' σ' H')/\∀ x H',J.yld i H x H'->g x σ H' fun σ2 H2=>tb { D with nx:=N,ct:=N,bk:=D.nx } σ2 H2)
def pinsAt (fp:List Addr) (h:Heap):List (Addr×Obj):=fp.filterMap fun b=>(h.get? b).map fun o=>(b,o)
theorem xU {fp:List Addr} {h:Heap} {b:Addr} {o:Obj} (hb:b∈fp) (e:h.get? b=some o):(b,o)∈pinsAt fp h:=List.mem_filterMap.mpr ⟨b,hb,by rw [e]; rfl⟩
theorem of_pinsAt {fp:List Addr} {h:Heap} {p:Addr×Obj} (hp:p∈pinsAt fp h):p.1∈fp/\h.get? p.1=some p.2:=by
 obtain ⟨b,hb,e⟩:=List.mem_filterMap.mp hp
 cases q:h.get? b with
 | none=>rw [q] at e; cases e
 | some o =>
   rw [q] at e
   have e':(b,o)=p:=Option.some.inj e
   subst e'
   exact ⟨hb,q⟩
theorem Inv.pinned {pins:List (Addr×Obj)} {σ : St} {H:Hp} {s:Shared} {fp:List Addr} (I:Inv X pins σ H s) (hf:∀ b∈fp,FpOk X pins H b) (ho:∀ b∈fp,∃ o,s.heap.get? b=some o/\∀ v,o.data≠.cell v):Inv X (pins++pinsAt fp s.heap) σ H s :=
 I.pins_of fun p hp=>(List.mem_append.mp hp).elim (fun z=>I.pin p (List.mem_append_right _ z)) fun z=>by
  obtain ⟨hb,e⟩:=of_pinsAt z
  obtain ⟨f0,f1,f2,_⟩:=hf p.1 hb
  obtain ⟨o,e',d⟩:=ho p.1 hb
  rw [e] at e'; cases e'
  exact ⟨e,f0,f1,f2,d⟩
theorem Inv.unpinned {pins pl:List (Addr×Obj)} {σ : St} {H:Hp} {s:Shared} (I:Inv X (pins++pl) σ H s):Inv X pins σ H s:=I.pins_of fun p hp=>I.pin p (List.mem_append_right _ (List.mem_append_left _ hp))
theorem ps_for {iter:Expr} {body:List Stmt} {wi:TI} {g:TG} {tb:TS} {pos:Pos} (hp:PassesOwn (model X.prog X.w) X.A X.env X.xe) (hc:X.calm=true) (hi:PI X tg iter wi) (hg:PG X tg g) (hb:PSs X body tb)
  (hs:∀ x,foldedSetIterable iter X.env x=pure x:=by intro _; rfl):PS X (.For tg iter body [] pos) (tFor wi g tb):=by
 intro pins s σ H D I h
 refine wpAny_For (thn (hi pins s σ H _ I h) fun v s1 h1=>thn h1 fun itv s2 h2=>?_) hs
 obtain ⟨it,fp,tn,J,H2,e,I2,T,st2,f2,W,⟨m0,w0⟩,turn⟩:=h2
 subst e
 have stat:∀ {H':Hp},(∀ b∈fp,H' b=none)->∀ b∈fp,FpOk X pins H' b:=fun hn b hb=>⟨hn b hb,(f2 b hb).2⟩
 refine codeAny_forLoop_any (fun n s'=>∃ i σ' H',Inv X pins σ' H' s'/\tn i s'.heap/\(∀ b∈fp,H' b=none)/\W i n σ' H') ?_ m0 ⟨0,σ,H2,I2,st2,fun b hb=>(f2 b hb).1,w0⟩
 rintro n s3 ⟨i,σ3,H3,I3,st3,fr3,w3⟩
 rcases turn i n σ3 H3 w3 with ⟨stop,qn⟩ | ⟨go,N,hN,step⟩
 · refine wpAny_passesOwn hp (thn (T.done X rfl rfl rfl hc i pins s3 σ3 H3 X.xe I3 (stat fr3) st3 stop) fun r s4 ⟨hr, I4⟩ => ?_)
   subst hr
   exact wpAny_execs_nil ⟨σ3,H3,I4,qn⟩
 · refine wpAny_passesOwn hp (thn (T.item X rfl rfl rfl hc i pins s3 σ3 H3 X.xe I3 (stat fr3) st3 go) fun r s4 ⟨u, hr, h4⟩ => ?_)
   subst hr
   refine wpAny_passesOwn hp (thn h4 fun _ s5 ⟨x,H5,I5,r5,y5,st5,fr5⟩=>?_)
   have I5':=I5.pinned (stat fr5) (T.obj _ _ st5)
   refine wpAny_passesOwn hp (thn (hg _ s5 σ3 H5 x u _ I5' r5 (step x H5 y5)) fun _ s6 ⟨σ6,H6,I6,q6⟩=>?_)
   refine wpAny_passesOwn hp (thn (hb _ s6 σ6 H6 _ I6 q6) fun f s7 q7=>?_)
   have again:∀ {σ7:St} {H7:Hp},Inv X (pins++pinsAt fp s5.heap) σ7 H7 s7->N σ7 H7->∃ m,m < n/\∃ i σ' H',Inv X pins σ' H' s7/\tn i s7.heap/\(∀ b∈fp,H' b=none)/\W i m σ' H':=fun {σ7 H7} I7 n7=>by
    obtain ⟨m',hm,w7⟩:=hN σ7 H7 n7
    refine ⟨m',hm,i+1,σ7,H7,I7.unpinned,T.keep _ _ _ st5 fun b hb o e=>(I7.pin (b,o) (List.mem_append_right _ (List.mem_append_right _ (xU hb e)))).1,fun b hb=>?_,w7⟩
    obtain ⟨o,e,d⟩:=T.obj _ _ st5 b hb
    exact (I7.pin (b,o) (List.mem_append_right _ (List.mem_append_right _ (xU hb e)))).2.1
   cases f with
   | next=>obtain ⟨σ7,H7,I7,n7⟩:=q7; exact again I7 n7
   | cont=>obtain ⟨σ7,H7,I7,n7⟩:=q7; exact again I7 n7
   | brk=>obtain ⟨σ7,H7,I7,q7⟩:=q7; exact ⟨σ7,H7,I7.unpinned,q7⟩
   | ret v=>obtain ⟨x7,σ7,H7,I7,r7,q7⟩:=q7; exact ⟨x7,σ7,H7,I7.unpinned,r7,q7⟩
end
end L2
namespace L2
open PySem PySem.Spec PyProof.Rows
abbrev R2:=V->V->Hp->VK->Prop
def OpR (X:Cx) (f:Value->Value->Sem Value) (r:R2):Prop :=
 ∀ (pins:List (Addr×Obj)) (s:Shared) (σ : St) (H:Hp) (x y:V) (v u:Value) (Q:VK),Inv X pins σ H s->RelV x v->RelV y u->r x y H Q →
  wpAny (model X.prog X.w) X.A (f v u) (EP X pins σ Q) X.xe s
def UnR (X:Cx) (f:Value->Sem Value) (r:V->Hp->VK->Prop):Prop :=
 ∀ (pins:List (Addr×Obj)) (s:Shared) (σ : St) (H:Hp) (x:V) (v:Value) (Q:VK),Inv X pins σ H s->RelV x v->r x H Q →
  wpAny (model X.prog X.w) X.A (f v) (EP X pins σ Q) X.xe s
def CallR (X:Cx) (f:Value) (r:List V->Hp->VK->Prop):Prop :=
 ∀ (pins:List (Addr×Obj)) (s:Shared) (σ : St) (H:Hp) (xs:List V) (us:List Value) (Q:VK),Inv X pins σ H s->Vals xs us->r xs H Q →
  wpAny (model X.prog X.w) X.A (call f us) (EP X pins σ Q) X.xe s
def TruR (X:Cx) (r:V->Hp->(Bool->Hp->Prop)->Prop):Prop :=
 ∀ (pins:List (Addr×Obj)) (s:Shared) (σ : St) (H:Hp) (x:V) (v:Value) (Q:Bool->Hp->Prop),Inv X pins σ H s->RelV x v->r x H Q →
  wpAny (model X.prog X.w) X.A (truthy v) (TP X pins σ Q) X.xe s
def tOp (r:R2) (ta tb:TE):TE:=fun σ H Q=>ta σ H fun x H1=>tb σ H1 fun y H2=>r x y H2 Q
def tUn (r:V->Hp->VK->Prop) (ta:TE):TE:=fun σ H Q=>ta σ H fun x H1=>r x H1 Q
def rI (C:Int->Int->Prop) (g:Int->Int->V):R2:=fun x y H Q=>∃ i j,x = .int i/\y = .int j/\C i j/\Q (g i j) H
def rI0 (g:Int->Int->V):R2:=fun x y H Q=>∃ i j,x = .int i/\y = .int j/\Q (g i j) H
def rU (g:Int->V):V->Hp->VK->Prop:=fun x H Q=>∃ i,x = .int i/\Q (g i) H
section
variable {X:Cx} {a b c:Expr} {ta tb tc:TE} {pos:Pos}
theorem binT (ha:PE X a ta) (hb:PE X b tb) {pins:List (Addr×Obj)} {s:Shared} {σ : St} {H:Hp} {R:V->V->Hp->Prop} (I:Inv X pins σ H s)
  (h:ta σ H fun x H1=>tb σ H1 fun y H2=>R x y H2) {Q:Value->Shared->Prop} {f:Value->Value->Sem Value}
  (hf:∀ v u s2 x y H2,Inv X pins σ H2 s2->RelV x v->RelV y u->R x y H2->wpAny (model X.prog X.w) X.A (f v u) Q X.xe s2) :
  wpAny (model X.prog X.w) X.A (eval a X.env) (fun v s₁=>wpAny (model X.prog X.w) X.A (eval b X.env) (fun u s₂=>wpAny (model X.prog X.w) X.A (f v u) Q X.xe s₂) X.xe s₁) X.xe s:=by
 refine thn (ha pins s σ H _ I h) fun v s1 ⟨x,H1,I1,r1,q1⟩=>?_
 refine thn (hb pins s1 σ H1 _ I1 q1) fun u s2 ⟨y,H2,I2,r2,q2⟩=>?_
 exact hf v u s2 x y H2 I2 r1 r2 q2
theorem pe_op {op:Operator} {r:R2} (ho:OpR X (binaryOp op) r) (ha:PE X a ta) (hb:PE X b tb):PE X (.BinOp a op b pos) (tOp r ta tb):=by
 intro pins s σ H Q I h
 exact wpAny_BinOp (binT ha hb I h fun v u s2 x y H2 I2 rx ry q=>ho pins s2 σ H2 x y v u Q I2 rx ry q)
theorem pe_un {op:UnaryOp} {r:V->Hp->VK->Prop} (ho:UnR X (unaryOp op) r) (ha:PE X a ta):PE X (.UnaryOp op a pos) (tUn r ta):=by
 intro pins s σ H Q I h
 exact UnaryOp_ (thn (ha pins s σ H _ I h) fun v s1 ⟨x,H1,I1,r1,q1⟩=>ho pins s1 σ H1 x v Q I1 r1 q1)
theorem opI {f:Value->Value->Sem Value} {C:Int->Int->Prop} {g:Int->Int->Int}
  (rule:∀ (i j:Int) (t u:Tok) (s:Shared) (Q:Value->Shared->Prop) (E:Value->Shared->Prop),C i j->Q (.int (g i j) s.toks) { s with toks:=s.toks+1 }->wpAny (model X.prog X.w) X.A (f (.int i t) (.int j u)) Q E s) :
  OpR X f (rI C fun i j=>.int (g i j)):=by
 intro pins s σ H x y v u Q I rx ry h
 obtain ⟨i,j,rfl,rfl,hc,q⟩:=h
 obtain ⟨t,rfl⟩:=rx
 obtain ⟨t',rfl⟩:=ry
 exact rule i j t t' s _ _ hc ⟨.int (g i j),H,I.tok _,⟨_,rfl⟩,q⟩
theorem opI0 {f:Value->Value->Sem Value} {g:Int->Int->Int}
  (rule:∀ (i j:Int) (t u:Tok) (s:Shared) (Q:Value->Shared->Prop) (E:Value->Shared->Prop),Q (.int (g i j) s.toks) { s with toks:=s.toks+1 }->wpAny (model X.prog X.w) X.A (f (.int i t) (.int j u)) Q E s) :
  OpR X f (rI0 fun i j=>.int (g i j)):=by
 intro pins s σ H x y v u Q I rx ry h
 obtain ⟨i,j,rfl,rfl,q⟩:=h
 obtain ⟨t,rfl⟩:=rx
 obtain ⟨t',rfl⟩:=ry
 exact rule i j t t' s _ _ ⟨.int (g i j),H,I.tok _,⟨_,rfl⟩,q⟩
theorem opB0 {f:Value->Value->Sem Value} {g:Int->Int->Bool}
  (rule:∀ (i j:Int) (t u:Tok) (s:Shared) (Q:Value->Shared->Prop) (E:Value->Shared->Prop),Q (.bool (g i j)) s->wpAny (model X.prog X.w) X.A (f (.int i t) (.int j u)) Q E s) :
  OpR X f (rI0 fun i j=>.bl (g i j)):=by
 intro pins s σ H x y v u Q I rx ry h
 obtain ⟨i,j,rfl,rfl,q⟩:=h
 obtain ⟨t,rfl⟩:=rx
 obtain ⟨t',rfl⟩:=ry
 exact rule i j t t' s _ _ ⟨.bl (g i j),H,I,rfl,q⟩
theorem op_add:OpR X (binaryOp .Add) (rI0 fun i j=>.int (i+j)):=opI0 fun _ _ _ _ _ _ _ q=>add_int q
theorem op_sub:OpR X (binaryOp .Sub) (rI0 fun i j=>.int (i - j)):=opI0 fun _ _ _ _ _ _ _ q=>sub_int q
theorem op_mod:OpR X (binaryOp .Mod) (rI (fun _ j=>0 < j) fun i j=>.int (i % j)):=opI fun i j _ _ _ _ _ hc q=>by
 have h1:(0:Int) < j:=hc
 exact mod_int' (by omega) (by rw [Int.fmod_eq_emod_of_nonneg i (by omega)]; exact q)
theorem unI {f:Value->Sem Value} {g:Int->Int}
  (rule:∀ (i:Int) (t:Tok) (s:Shared) (Q:Value->Shared->Prop) (E:Value->Shared->Prop),Q (.int (g i) s.toks) { s with toks:=s.toks+1 }->wpAny (model X.prog X.w) X.A (f (.int i t)) Q E s) :
  UnR X f (rU fun i=>.int (g i)):=by
 intro pins s σ H x v Q I rx h
 obtain ⟨i,rfl,q⟩:=h
 obtain ⟨t,rfl⟩:=rx
 exact rule i t s _ _ ⟨.int (g i),H,I.tok _,⟨_,rfl⟩,q⟩
theorem un_neg:UnR X (unaryOp .USub) (rU fun i=>.int (-i)):=unI fun _ _ _ _ _ q=>neg_int q
end
section
variable {X:Cx} {a b c:Expr} {ta tb tc:TE} {pos:Pos}
theorem fin_bl {pins:List (Addr×Obj)} {σ : St} {H:Hp} {s:Shared} {Q:VK} {k k':Bool} (I:Inv X pins σ H s) (q:Q (.bl k) H) (e:k=k'):EP X pins σ Q (.bool k') s:=by
 subst e
 exact ⟨.bl k,H,I,rfl,q⟩
theorem op_lt:OpR X (compareOp .Lt) (rI0 fun i j=>.bl (decide (i < j))):=opB0 fun _ _ _ _ _ _ _ q=>lt_int q
theorem op_le:OpR X (compareOp .LtE) (rI0 fun i j=>.bl (decide (i<=j))):=opB0 fun _ _ _ _ _ _ _ q=>le_int q
theorem op_gt:OpR X (compareOp .Gt) (rI0 fun i j=>.bl (decide (j < i))):=opB0 fun _ _ _ _ _ _ _ q=>gt_int q
theorem op_ge:OpR X (compareOp .GtE) (rI0 fun i j=>.bl (decide (j<=i))):=opB0 fun _ _ _ _ _ _ _ q=>ge_int q
theorem op_isN:OpR X (compareOp .Is) (fun x y H Q=>y = .non/\Q (.bl (decide (x = .non))) H):=by
 intro pins s σ H x y v u Q I rx ry h
 obtain ⟨rfl,q⟩:=h
 cases ry
 refine is_none_gen (fin_bl I q ?_)
 cases x <;> first
  | (cases rx; rfl)
  | (obtain ⟨t,rfl⟩:=rx; rfl)
theorem op_notN:OpR X (compareOp .IsNot) (fun x y H Q=>y = .non/\Q (.bl (!decide (x = .non))) H):=by
 intro pins s σ H x y v u Q I rx ry h
 obtain ⟨rfl,q⟩:=h
 cases ry
 refine isnot_none_gen (fin_bl I q ?_)
 cases x <;> first
  | (cases rx; rfl)
  | (obtain ⟨t,rfl⟩:=rx; rfl)
theorem OpR.or {f:Value->Value->Sem Value} {r r':R2} (h:OpR X f r) (h':OpR X f r'):OpR X f (fun x y H Q=>r x y H Q \/ r' x y H Q):=by
 intro pins s σ H x y v u Q I rx ry q
 rcases q with q | q
 · exact h pins s σ H x y v u Q I rx ry q
 · exact h' pins s σ H x y v u Q I rx ry q
theorem nomark (b:Expr) {op:CmpOp} (h:op≠.In:=by decide) (h2:op≠.NotIn:=by decide):behindInMarks op b=false:=by
 have e1:(op == CmpOp.In)=false:=by cases op <;> first | rfl | exact absurd rfl h
 have e2:(op == CmpOp.NotIn)=false:=by cases op <;> first | rfl | exact absurd rfl h2
 cases b <;> simp [behindInMarks,e1,e2]
theorem pe_cmpR {op:CmpOp} {r:R2} (ho:OpR X (compareOp op) r) (ha:PE X a ta) (hb:PE X b tb) (hm:behindInMarks op b=false):PE X (.Compare a [op] [b] pos) (tOp r ta tb):=by
 intro pins s σ H Q I h
 exact wpAny_Compare1 (binT ha hb I h fun v u s2 x y H2 I2 rx ry q=>ho pins s2 σ H2 x y v u Q I2 rx ry q) hm
def tTest (t:TE):TT:=fun σ H Q=>t σ H fun x H'=>∃ k,x = .bl k/\Q k H'
theorem pt_cmpR {op:CmpOp} {r:R2} (ho:OpR X (compareOp op) r) (ha:PE X a ta) (hb:PE X b tb) (hm:behindInMarks op b=false):PT X (.Compare a [op] [b] pos) (tTest (tOp r ta tb)):=by
 intro pins s σ H Q I h
 refine wpAny_isTrue_Compare1 (thn (ha pins s σ H _ I h) fun v s1 ⟨x,H1,I1,r1,q1⟩=>thn (hb pins s1 σ H1 _ I1 q1) fun u s2 ⟨y,H2,I2,r2,q2⟩ =>
  thn (ho pins s2 σ H2 x y v u _ I2 r1 r2 q2) fun c s3 ⟨z,H3,I3,r3,k,e,q3⟩=>?_) hm
 subst e
 cases r3
 exact wpAny_truthy_bool ⟨H3,I3,q3⟩
def TruV (K:PySem.W.Frag) (x:V) (H:Hp) (k:Bool):Prop :=
 match x with
 | .non=>k=false
 | .bl b=>k=b
 | .int i=>k=(i != 0)
 | .str y=>y.length<=sizeLine/\k=((y.length:Int) != 0)
 | .byt y=>y.size<=sizeLine/\k=((y.size:Int) != 0)
 | .ref p=>(∃ xs,SqL K H p xs/\k = !xs.isEmpty) \/ (∃ xs,SqT K H p xs/\k = !xs.isEmpty) \/ ∃ kvs,H p=some (.dK kvs)/\k = !kvs.isEmpty
 | _=>False
theorem isEmpty_kv {κ : Type} {kvs:List (κ×V)} {vs:List (κ×Value)} (r:KV kvs vs):(!vs.isEmpty) = !kvs.isEmpty:=by
 cases r <;> rfl
theorem isEmpty_of {xs:List V} {its:List Value} (r:Vals xs its):(!its.toArray.isEmpty) = !xs.isEmpty:=by
 cases r <;> simp
theorem line63:(sizeLine:Nat) < 2 ^ 63:=by rw [sizeLine_eq]; decide
theorem tru_ok:TruR X (fun x H Q=>∃ k,TruV X.K x H k/\Q k H):=by
 intro pins s σ H x v Q I rx h
 obtain ⟨k,e,q⟩:=h
 have hl:=line63
 have hs:sizeLine=16777216:=sizeLine_eq
 cases x with
 | non =>
   cases rx
   have e':k=false:=e
   subst e'
   exact truthy_none ⟨H,I,q⟩
 | bl b =>
   cases rx
   have e':k=b:=e
   subst e'
   exact wpAny_truthy_bool ⟨H,I,q⟩
 | int i =>
   obtain ⟨t,rfl⟩:=rx
   have e':k=(i != 0):=e
   subst e'
   exact PySem.P.truthy_int ⟨H,I,q⟩
 | str y =>
   obtain ⟨t,rfl⟩:=rx
   obtain ⟨hy,e'⟩:y.length<=sizeLine/\k=((y.length:Int) != 0):=e
   subst e'
   exact PySem.P.truthy_str (by omega) ⟨H,I.tok _,q⟩
 | byt y =>
   obtain ⟨t,rfl⟩:=rx
   obtain ⟨hy,e'⟩:y.size<=sizeLine/\k=((y.size:Int) != 0):=e
   subst e'
   exact PySem.W.truthy_bytes (by omega) ⟨H,I.tok _,q⟩
 | ref p =>
   cases rx
   have e':(∃ xs,SqL X.K H p xs/\k = !xs.isEmpty) \/ (∃ xs,SqT X.K H p xs/\k = !xs.isEmpty) \/ ∃ kvs,H p=some (.dK kvs)/\k = !kvs.isEmpty:=e
   rcases e' with ⟨xs,hx,e'⟩ | ⟨xs,hx,e'⟩ | ⟨kvs,hx,e'⟩
   · subst e'
     obtain ⟨its,r,pl,hz⟩:=I.list hx
     have hlen:=r.length
     exact wpAny_truthy_list pl.isList (by simp only [List.size_toArray]; omega) ⟨H,I.tok _,by rw [isEmpty_of r]; exact q⟩
   · subst e'
     obtain ⟨its,r,pl,hz⟩:=I.tuple hx
     have hlen:=r.length
     exact truthy_tuple pl (by simp only [List.size_toArray]; omega) ⟨H,I.tok _,by rw [isEmpty_of r]; exact q⟩
   · subst e'
     obtain ⟨hz,hS,vs,r,m⟩:kvs.length<=sizeLine/\(p == sysModules)=false/\∃ vs,KV kvs vs/\s.heap.DictOf (mixKind X.prog X.w) p vs:=I.hok p _ hx
     have hlen:kvs.length=vs.length:=Paired.length r
     exact wpAny_truthy_dict hS m (by omega) ⟨H,I.tok _,by rw [isEmpty_kv r]; exact q⟩
 | _=>exact (show False from e).elim
theorem pt_truth (ha:PE X a ta) (he:∀ whole,isTrue a X.env whole=(do let v <- whole; standAt a.pos; holding [v] (truthy v))) :
  PT X a (fun σ H Q=>ta σ H fun x H'=>∃ k,TruV X.K x H' k/\Q k H'):=by
 intro pins s σ H Q I h
 exact isTrue_plain (thn (ha pins s σ H _ I h) fun v s1 ⟨x,H1,I1,r1,q1⟩=>tru_ok pins s1 σ H1 x v Q I1 r1 q1) (he _)
theorem op_add_str:OpR X (binaryOp .Add) (fun x y H Q=>∃ i j,x = .str i/\y = .str j/\i.length+j.length<=sizeLine/\Q (.str (i++j)) H):=by
 intro pins s σ H x y v u Q I rx ry h
 obtain ⟨i,j,rfl,rfl,hz,q⟩:=h
 obtain ⟨t,rfl⟩:=rx
 obtain ⟨t',rfl⟩:=ry
 exact add_str (fun t' tk=>⟨.str (i++j),H,I.tok _,⟨_,rfl⟩,q⟩) hz
theorem vals1 {x:V} {us:List Value} (r:Vals [x] us):∃ u,us=[u]/\RelV x u:=by
 cases r with
 | cons r1 r2=>cases r2; exact ⟨_,rfl,r1⟩
theorem vals2 {x y:V} {us:List Value} (r:Vals [x,y] us):∃ u w',us=[u,w']/\RelV x u/\RelV y w':=by
 cases r with
 | cons r1 r2 =>
   cases r2 with
   | cons r3 r4=>cases r4; exact ⟨_,_,rfl,r1,r3⟩
theorem call_max2 (hc:X.calm=true):CallR X (.builtin "max") (fun xs H Q=>∃ i j,xs=[.int i,.int j]/\Q (.int (if j > i then j else i)) H):=by
 intro pins s σ H xs us Q I r h
 obtain ⟨i,j,rfl,q⟩:=h
 obtain ⟨u,w',rfl,⟨t,rfl⟩,⟨t',rfl⟩⟩:=vals2 r
 refine max_two_ints (I.ok.hd hc) fun h' tk k=>⟨_,H,I.kept k,?_,q⟩
 by_cases hj:j > i
 · rw [if_pos hj,if_pos hj]; exact ⟨_,rfl⟩
 · rw [if_neg hj,if_neg hj]; exact ⟨_,rfl⟩
theorem call_min2 (hc:X.calm=true):CallR X (.builtin "min") (fun xs H Q=>∃ i j,xs=[.int i,.int j]/\Q (.int (if j < i then j else i)) H):=by
 intro pins s σ H xs us Q I r h
 obtain ⟨i,j,rfl,q⟩:=h
 obtain ⟨u,w',rfl,⟨t,rfl⟩,⟨t',rfl⟩⟩:=vals2 r
 refine min_two_ints (I.ok.hd hc) fun h' tk k=>⟨_,H,I.kept k,?_,q⟩
 by_cases hj:j < i
 · rw [if_pos hj,if_pos hj]; exact ⟨_,rfl⟩
 · rw [if_neg hj,if_neg hj]; exact ⟨_,rfl⟩
end
end L2
namespace L2
open PySem PySem.Spec PyProof.Rows
section
variable {prog:Program} {w:World} {A:Around} {E:Value->Shared->Prop} {s:Shared} {K:PySem.W.Frag} {x dx C f:Addr} {mA:Str->Option Value} {name:Str} {v:Value}
end
section
variable {P:Program} {w:World} {H H':Hp} {h h':Heap} {a C dx:Addr} {fs fs':List (Str×V)}
end
section
variable {X:Cx} {pins:List (Addr×Obj)} {σ : St} {H:Hp} {s:Shared} {a C dx:Addr} {fs:List (Str×V)} {f:Str} {v:V} {A:Around} {E:Value->Shared->Prop}
end
section
variable {X:Cx} {o e value:Expr} {f:Str} {pos pos' tpos:Pos} {ta tv:TE}
end
section
variable {X:Cx} {pins:List (Addr×Obj)} {σ : St} {H:Hp} {s:Shared} {A:Around} {E:Value->Shared->Prop} {Q:Value->Shared->Prop} {c:Value} {b:Bool}
end
end L2
namespace L2
open PySem PySem.Spec PyProof.Rows
structure Room (k:Nat) (A:Around):Prop where
 hd:A.handled=none
 dp:A.depth+3 * k+5 < recursionLimit
 un:A.units+16 * k+200 < cLine
theorem Room.mono {j k:Nat} {A:Around} (r:Room k A) (h:j<=k):Room j A:=⟨r.hd,by have:=r.dp; omega,by have:=r.un; omega⟩
theorem Room.deeper {k:Nat} {A:Around} (r:Room (k+1) A) (env:Env):Room k (A.deeper env) :=
 ⟨r.hd,by have:=r.dp; show A.depth+1+3 * k+5 < _; omega,by have:=r.un; show A.units+3+16 * k+200 < _; omega⟩
theorem Room.depth {k:Nat} {A:Around} (r:Room k A):A.depth < recursionLimit:=by have:=r.dp; omega
def tNil:TA:=fun _ H Q=>Q [] H
def tCons (ta:TE) (tr:TA):TA:=fun σ H Q=>ta σ H fun x H1=>tr σ H1 fun xs H2=>Q (x::xs) H2
section
variable {X:Cx} {e:Expr} {es:List Expr} {te:TE} {t:TA} {pos:Pos}
theorem xK:PA X [] tNil:=fun _ _ _ _ H Q I h=>Calls.spliced_nil ⟨[],H,I,.nil,h⟩
theorem jZ (ha:PE X e te) (hr:PA X es t) (hs:starEach (e::es) X.env=(false,eval e X.env)::starEach es X.env:=by rfl):PA X (e::es) (tCons te t):=by
 intro pos pins s σ H Q I h
 rw [hs]
 show wpAny _ _ (spliced ((false,eval e X.env)::backTo pos (starEach es X.env))) _ _ s
 refine Calls.spliced_cons (thn (ha pins s σ H _ I h) fun u s1 ⟨x,H1,I1,r1,q1⟩=>?_)
 exact thn (hr pos pins s1 σ H1 _ I1 q1) fun us s2 ⟨xs,H2,I2,r2,q2⟩=>⟨x::xs,H2,I2,.cons r1 r2,q2⟩
def tTup (t:TA):TE:=fun σ H Q=>t σ H fun xs H1=>xs.length<=sizeLine/\∀ p,H1 p=none->Q (.ref p) (upd H1 p (.tup xs))
def tLst (t:TA):TE:=fun σ H Q=>t σ H fun xs H1=>xs.length<=sizeLine/\∀ p,H1 p=none->Q (.ref p) (upd H1 p (.lst xs))
theorem pe_tup {x1} (h:PA X es t):PE X (.Tuple es x1 pos) (tTup t):=by
 intro pins s σ H Q I hq
 refine wpAny_Tuple_spliced (thn (h pos pins s σ H _ I hq) fun us s1 ⟨xs,H1,I1,r,z,q⟩=>⟨by rw [<- r.length]; exact z,?_⟩)
 have hf:H1 s1.heap.objs.size=none:=I1.hok.fresh (Nat.le_refl _)
 refine ⟨.ref s1.heap.objs.size,upd H1 s1.heap.objs.size (.tup xs),I1.laid (t':=s1.toks) (fun b u e=>Heap.get?_push_of_some _ e) (Nat.le_refl _) ?_,rfl,q _ hf⟩
 exact ⟨z,us,r,⟨_,Heap.get?_push_size _ rfl,rfl,_,rfl⟩⟩
theorem pe_lst (h:PA X es t):PE X (.List es pos) (tLst t):=by
 intro pins s σ H Q I hq
 refine wpAny_List_spliced (thn (h pos pins s σ H _ I hq) fun us s1 ⟨xs,H1,I1,r,z,q⟩=>⟨by rw [<- r.length]; exact z,?_⟩)
 have hf:H1 s1.heap.objs.size=none:=I1.hok.fresh (Nat.le_refl _)
 refine ⟨.ref s1.heap.objs.size,upd H1 s1.heap.objs.size (.lst xs),I1.laid (t':=s1.toks) (fun b u e=>Heap.get?_push_of_some _ e) (Nat.le_refl _) ?_,rfl,q _ hf⟩
 exact ⟨z,us,0,r,Heap.get?_push_size _ rfl⟩
end
abbrev Sp:=List V->Hp->VK->XK->Prop
abbrev CXT:=List Env->Hp->Shared->XK->Value->Shared->Prop
structure Env0 (P:Program) (w:World) (K:PySem.W.Frag) (mg:Str->Option Value) (base:Heap) (A:Around) (outer:List Env) (s:Shared) (H:Hp):Prop where
 frames:A.frames=some outer
 mod:Mod K mg base
 bs:∀ b o,base.get? b=some o->s.heap.get? b=some o/\H b=none
 bsz:Bsz K mg base s.heap H
 funs:s.heap.FunFrames base outer
 frf:∀ b∈frs outer,H b=none
 hok:HOk P w H s.heap
 bare:AllBare s.gens
def CE (outer:List Env) (P:Program) (w:World) (H:Hp) (s:Shared) (Q:VK) (u:Value) (s':Shared):Prop :=
 ∃ v H',s'.os=s.os/\AllBare s'.gens/\Un (frs outer) [] H H' s.heap s'.heap/\HOk P w H' s'.heap/\RelV v u/\Q v H'
def CR (CX:CXT) (outer:List Env) (P:Program) (w:World) (H:Hp) (s:Shared) (Q:VK) (E:XK) (r:Result) (s':Shared):Prop :=
 match r with
 | .ok (.ret u)=>CE outer P w H s Q u s'
 | .ok _=>False
 | .error e=>CX outer H s E e s'
structure FnOk (P:Program) (w:World) (K:PySem.W.Frag) (mg:Str->Option Value) (base:Heap) (CX:CXT) (k:Nat) (f:Addr) (fd:FuncData) (ps:List Str) (sp:Sp):Prop where
 len:∀ vs H Q E,sp vs H Q E->vs.length=ps.length
 run:∀ (A:Around) (outer:List Env) (s:Shared) (H:Hp) (args:Args) (us:List Value) (vs:List V) (Q:VK) (E:XK),Room k A->Env0 P w K mg base A outer s H->BindsTo s fd args (ps.zip us)->Vals vs us->sp vs H Q E →
  codeAny (model P w) A (.call (.ref f) args) (CR CX outer P w H s Q E) s
theorem FnOk.mono {P:Program} {w:World} {K:PySem.W.Frag} {mg:Str->Option Value} {base:Heap} {CX:CXT} {j k:Nat} {f:Addr} {fd:FuncData} {ps:List Str} {sp:Sp} (F:FnOk P w K mg base CX j f fd ps sp) (h:j<=k) :
  FnOk P w K mg base CX k f fd ps sp:=⟨F.len,fun A outer s H args us vs Q E hr=>F.run A outer s H args us vs Q E (hr.mono h)⟩
theorem FnOk.imp {P:Program} {w:World} {K:PySem.W.Frag} {mg:Str->Option Value} {base:Heap} {CX:CXT} {k:Nat} {f:Addr} {fd:FuncData} {ps:List Str} {sp sp':Sp} (F:FnOk P w K mg base CX k f fd ps sp)
  (h:∀ vs H Q E,sp' vs H Q E->sp vs H Q E):FnOk P w K mg base CX k f fd ps sp' :=
 ⟨fun vs H Q E q=>F.len vs H Q E (h _ _ _ _ q),fun A outer s H args us vs Q E hr he hb hv hs=>F.run A outer s H args us vs Q E hr he hb hv (h _ _ _ _ hs)⟩
section
variable {X:Cx} {pins:List (Addr×Obj)} {σ : St} {H:Hp} {s s':Shared}
theorem Inv.tabsH (I:Inv X pins σ H s):TabsK X.K X.mg X.base H:=⟨I.ok.bsz.2.bm,fun x c P hx ht=>⟨(I.ok.bsz.2.tab x c P hx ht).1,I.base.tbls _ _ (I.ok.bsz.2.tab x c P hx ht).2⟩⟩
theorem Inv.env0 (I:Inv X pins σ H s):Env0 X.prog X.w X.K X.mg X.base X.A X.stack s H :=
 ⟨I.ok.frames,I.ok.mod,I.bs,⟨Nat.le_trans I.ok.bsz.1 I.sz,I.tabsH⟩,I.stack,I.stkFree,I.hok,I.bare⟩
theorem Inv.after {Q:VK} {u:Value} (I:Inv X pins σ H s) (h:CE X.stack X.prog X.w H s Q u s'):EP X pins σ Q u s':=by
 obtain ⟨v,H',os,bare,un,hok,r,q⟩:=h
 obtain ⟨hh,g,d,t,os'⟩:=s'
 obtain rfl:os'=s.os:=os
 exact ⟨v,H',I.call (h':=hh) (g':=g) (d':=d) (t':=t) (ch:=[]) un hok bare (fun b z=>absurd z (by simp)),r,q⟩
end
def tCall (sp:Sp) (dvs:List V) (E:XK) (t:TA):TE:=fun σ H Q=>t σ H fun vs H1=>sp (vs++dvs) H1 Q E
def Binds (K:PySem.W.Frag) (fd:FuncData) (ps:List Str) (ds:List Value):Prop :=
 ∀ (s:Shared) (us:List Value),K.In s.heap->(us++ds).length=ps.length->BindsTo s fd ⟨us,[]⟩ (ps.zip (us++ds))
theorem Binds.all {K:PySem.W.Frag} {fd:FuncData} {ps:List Str} (h:∀ us:List Value,us.length=ps.length->bindArgs fd ⟨us,[]⟩=pure (ps.zip us)):Binds K fd ps []:=fun s us _ hl=>by
 rw [List.append_nil] at hl ⊢
 exact .of_eq (h us hl)
def Passes (CX:CXT) (X:Cx) (E:XK):Prop:=∀ (pins:List (Addr×Obj)) (σ : St) (H:Hp) (s:Shared) (e:Value) (s':Shared),Inv X pins σ H s->CX X.stack H s E e s'->X.xe e s'
section
variable {X:Cx} {CX:CXT} {k:Nat} {f C:Addr} {fd:FuncData} {ps:List Str} {sp:Sp} {dvs:List V} {ds:List Value} {E:XK} {x m:Str} {p pos apos:Pos} {e o:Expr} {es:List Expr} {ta:TE} {t:TA}
theorem run_fn {pins:List (Addr×Obj)} {σ : St} {H:Hp} {s:Shared} {Q:VK} {us:List Value} {vs:List V} (F:FnOk X.prog X.w X.K X.mg X.base CX k f fd ps sp) (hr:Room k X.A) (hb:Binds X.K fd ps ds) (hd:Vals dvs ds) (hx:Passes CX X E)
  (I:Inv X pins σ H s) (r:Vals vs us) (h:sp (vs++dvs) H Q E):wpAny (model X.prog X.w) X.A (call (.ref f) us) (EP X pins σ Q) X.xe s:=by
 have r2:Vals (vs++dvs) (us++ds):=r.append hd
 have hl:(us++ds).length=ps.length:=by rw [<- r2.length]; exact F.len _ _ _ _ h
 refine wpAny_call (codeAny_mono (F.run X.A X.stack s H ⟨us,[]⟩ (us++ds) (vs++dvs) Q E hr I.env0 (hb s us I.kIn hl) r2 h) fun r s' hq=>?_)
 cases r with
 | error e=>exact hx pins σ H s e s' I hq
 | ok fl =>
   cases fl with
   | ret u=>exact I.after hq
   | next=>exact False.elim hq
   | brk=>exact False.elim hq
   | cont=>exact False.elim hq
theorem vD (F:FnOk X.prog X.w X.K X.mg X.base CX k f fd ps sp) (hr:Room k X.A) (hg:Gl X x) (hm:X.mg x=some (.ref f)) (hk:PySem.W.keepIn X.K (.ref f)=true) (hb:Binds X.K fd ps ds) (hd:Vals dvs ds) (hx:Passes CX X E)
  (ha:PA X (e::es) t) (hdb:(x == ("__debug__" : Str))=false:=by decide) (he:starEach (e::es) X.env=(false,eval e X.env)::starEach es X.env:=by rfl) (hpl:(backTo pos (starEach es X.env)).any (·.1)=false:=by rfl) :
  PE X (.Call (.Name x p) (e::es) [] pos) (tCall sp dvs E t):=by
 intro pins s σ H Q I h
 refine wpAny_Call_Name_kw (xZ I hg hm ?_ hdb)
 refine PySem.W.callWith_K (h₀:=X.base) I.ok.mod.kin hk (thn (ha pos pins s σ H _ I h) fun us s1 ⟨vs,H1,I1,r,q⟩=>⟨I1.kIn,?_⟩) he hpl
 exact run_fn F hr hb hd hx I1 r q
end
section
variable {X:Cx} {CX:CXT} {k:Nat} {f C:Addr} {fd:FuncData} {ps ks:List Str} {sp:Sp} {E:XK} {x m:Str} {p pos apos kpos:Pos} {e o:Expr} {es:List Expr} {kws:List Keyword} {te ta:TE} {t tk:TA} {nm:Option Str}
variable {g:List Value->List Value->List Value} {gV:List V->List V->List V}
end
structure FnScope (N P:List Str) (sc:Scope):Prop where
 kind:sc.kind = .function
 co:sc.isCoroutine=false
 gen:sc.isGenerator=false
 nd:N.Nodup
 pre:N.take P.length=P
 par:∀ x∈P,sc.names.lookup x=some .local \/ sc.names.lookup x=some .cell
 nofree:∀ y∈sc.names,y.2≠.free
theorem bindL_out {kindOf:Str->Option NameKind} {x:Str} : ∀ {binds:List (Str×Value)} {m:Str->Option Value},(∀ v,(x,v) ∉ binds)->bindL kindOf binds m x=m x
 | [],_,_=>rfl
 | (n, v) :: r, m, h => by
   unfold bindL
   rw [bindL_out fun w hw=>h w (List.mem_cons_of_mem _ hw)]
   split
   · have : x ≠ n := by rintro rfl; exact h v List.mem_cons_self
     simp [this]
   · rfl
theorem bindC_out {kindOf:Str->Option NameKind} {x:Str} : ∀ {binds:List (Str×Value)} {m:Str->Option Value},(∀ v,(x,v) ∉ binds)->bindC kindOf binds m x=m x
 | [],_,_=>rfl
 | (n, v) :: r, m, h => by
   unfold bindC
   rw [bindC_out fun w hw=>h w (List.mem_cons_of_mem _ hw)]
   split
   · rfl
   · have : x ≠ n := by rintro rfl; exact h v List.mem_cons_self
     simp [this]
theorem bindL_get {kindOf:Str->Option NameKind} {x:Str} {v:Value} : ∀ {P:List Str} {vs:List Value} {i:Nat} {m:Str->Option Value},P.Nodup->P[i]? = some x->vs[i]? = some v->kindOf x=some .local →
  bindL kindOf (P.zip vs) m x=some v
 | [],_,_,_,_,h,_,_=>by simp at h
 | _::_,[],_,_,_,_,h,_=>by simp at h
 | p :: P, w :: vs, 0, m, nd, h1, h2, hk => by
   simp at h1 h2; subst h1; subst h2
   show bindL kindOf ((p,w)::P.zip vs) m p=_
   unfold bindL
   rw [bindL_out fun v hv=>(List.nodup_cons.mp nd).1 (List.of_mem_zip hv).1,if_pos hk]
   simp
 | p :: P, w :: vs, i + 1, m, nd, h1, h2, hk => by
   show bindL kindOf ((p,w)::P.zip vs) m x=_
   unfold bindL
   exact bindL_get (i:=i) (List.nodup_cons.mp nd).2 (by simpa using h1) (by simpa using h2) hk
theorem bindC_get {kindOf:Str->Option NameKind} {x:Str} {v:Value} : ∀ {P:List Str} {vs:List Value} {i:Nat} {m:Str->Option Value},P.Nodup->P[i]? = some x->vs[i]? = some v->kindOf x≠some .local →
  bindC kindOf (P.zip vs) m x=some v
 | [],_,_,_,_,h,_,_=>by simp at h
 | _::_,[],_,_,_,_,h,_=>by simp at h
 | p :: P, w :: vs, 0, m, nd, h1, h2, hk => by
   simp at h1 h2; subst h1; subst h2
   show bindC kindOf ((p,w)::P.zip vs) m p=_
   unfold bindC
   rw [bindC_out fun v hv=>(List.nodup_cons.mp nd).1 (List.of_mem_zip hv).1,if_neg hk]
   simp
 | p :: P, w :: vs, i + 1, m, nd, h1, h2, hk => by
   show bindC kindOf ((p,w)::P.zip vs) m x=_
   unfold bindC
   exact bindC_get (i:=i) (List.nodup_cons.mp nd).2 (by simpa using h1) (by simpa using h2) hk
def start (N:List Str) (vs:List V):St:=vs.map some++List.replicate (N.length - vs.length) none
def cxOf (CX:CXT) (P:Program) (w:World) (K:PySem.W.Frag) (mg:Str->Option Value) (base:Heap) (N:List Str) (qual:Str) (scope:Scope) (f:Addr) (cd:Value) (A:Around) (outer:List Env) (s:Shared) (H:Hp) (E:XK):Cx where
 prog:=P
 w:=w
 K:=K
 mg:=mg
 base:=base
 A:=A.deeper (envOfC qual scope s.heap.objs.size f cd)
 N:=N
 s₀:=s
 H₀:=H
 env:=envOfC qual scope s.heap.objs.size f cd
 outer:=outer
 stack:=envOfC qual scope s.heap.objs.size f cd::outer
 ex:=[]
 calm:=true
 fn:=fun _=>true
 pn:=[]
 xe:=fun e s'=>wpAny (model P w) (A.deeper (envOfC qual scope s.heap.objs.size f cd)) (leaving (envOfC qual scope s.heap.objs.size f cd) e) (fun _ s''=>CX outer H s E e s'') (fun e' s''=>CX outer H s E e' s'') s'
theorem cell_has {sc:Scope} {n:Nat} {x:Str} (h:sc.names.lookup x=some .cell):∃ c,(cellsFrom n sc.names []).lookup x=some c:=by
 have q:=PySem.W.cellsFrom_some sc.names n [] (.inl h)
 exact Option.isSome_iff_exists.mp q
theorem inv_start {CX:CXT} {P:Program} {w:World} {K:PySem.W.Frag} {mg:Str->Option Value} {base:Heap} {N ps:List Str} {qual:Str} {scope:Scope} {f:Addr} {cd:Value} {A:Around} {outer:List Env} {s s1:Shared} {H:Hp} {E:XK} {us:List Value} {vs:List V}
  (S:FnScope N ps scope) (hd:A.handled=none) (e0:Env0 P w K mg base A outer s H) (hl:vs.length=ps.length) (r:Vals vs us)
  (x:InCallC s s.heap.objs.size (bindL (envOfC qual scope s.heap.objs.size f cd).kindOf (ps.zip us) fun _=>none) (cellsFrom (s.heap.objs.size+1) scope.names []) (bindC (envOfC qual scope s.heap.objs.size f cd).kindOf (ps.zip us) fun _=>none) s1) :
  Inv (cxOf CX P w K mg base N qual scope f cd A outer s H E) [] (start N vs) H s1:=by
 have hpl:ps.length<=N.length:=by have:=congrArg List.length S.pre; rw [List.length_take] at this; omega
 obtain ⟨h1,tk,rfl,hk⟩:=x.done
 have noA:∀ b:Addr,b ∉ (cxOf CX P w K mg base N qual scope f cd A outer s H E).ex:=fun b z=>absurd (show b∈([]:List Addr) from z) (by simp)
 refine ⟨⟨e0.mod,S.kind,rfl,rfl,Nat.le_refl _,fun y z c h1 h2=>?_,fun y hy=>?_,fun y c _ h=>?_,fun _=>hd,Around.frames_deeper e0.frames,.inr ⟨rfl,rfl⟩,fun b z=>absurd z (noA b),e0.bs,e0.bsz,fun b _ _=>noA b,fun b z=>absurd z (noA b),e0.funs,e0.frf⟩,
  rfl,e0.bare,Un.kept hk,⟨_,x.toInCall.ns,fun i y v h1 h2 h3=>?_⟩,fun y c h=>⟨_,x.cell y c h⟩,e0.hok.fresh (Nat.le_refl _),fun y c h=>?_,fun p hp=>absurd (show p∈([]:List (Addr×Obj)) from hp) (by simp),e0.hok.kept hk,?_⟩
 · exact name_of_addr x.apart (PySem.mem_of_lookup h1) (PySem.mem_of_lookup h2)
 · have hy : scope.names.lookup y = some .cell \/ scope.names.lookup y = some .free := hy
   rcases hy with hy | hy
   · exact cell_has hy
   · exact absurd rfl (S.nofree _ (PySem.mem_of_lookup hy))
 · exact Nat.le_of_lt (x.above y c (PySem.mem_of_lookup h))
 · have hi:i < vs.length:=by
    unfold start at h2
    by_cases hi:i < vs.length
    · exact hi
    · rw [List.getElem?_append_right (by simpa using hi)] at h2
      rw [List.getElem?_replicate] at h2
      split at h2 <;> cases h2
   have ha:vs[i]? = some v:=by
    unfold start at h2
    rw [List.getElem?_append_left (by simpa using hi),List.getElem?_map] at h2
    cases e:vs[i]? with
    | none=>rw [e] at h2; cases h2
    | some a=>rw [e] at h2; cases h2; rfl
   obtain ⟨u,hu,rv⟩:=r.get ha
   have hp:ps[i]? = some y:=by
    rw [<- S.pre,List.getElem?_take_of_lt (by omega)]; exact h1
   have ndP:ps.Nodup:=by rw [<- S.pre]; exact S.nd.sublist (List.take_sublist _ _)
   refine ⟨u,rv,?_⟩
   rcases S.par y (List.mem_of_getElem? hp) with k | k
   · exact .inl ⟨k,bindL_get ndP hp hu k⟩
   · obtain ⟨c, e⟩ := cell_has (n := s.heap.objs.size + 1) k
     refine .inr ⟨.inl k,c,e,?_⟩
     have q:=x.cell y c e
     rw [bindC_get ndP hp hu (by show scope.names.lookup y≠_; rw [k]; decide)] at q
     exact q
 · exact .inl (e0.hok.fresh (Nat.le_of_lt (x.above y c (PySem.mem_of_lookup h))))
 · unfold start
   show _=N.length
   rw [List.length_append,List.length_map,List.length_replicate]
   omega
theorem fn_of {CX:CXT} {P:Program} {w:World} {K:PySem.W.Frag} {mg:Str->Option Value} {base:Heap} {k:Nat} {f:Addr} {name qual:Str} {params:Arguments} {body:List Stmt} {scope:Scope} {dV kV doc pm cdv ct oc:Value} {an od:Option Addr}
  {osl:Array (Option Value)} {N ps:List Str} {sp:Sp} (lk:K.lookup f=some ⟨oc,od,.func (PySem.W.fnOf name qual params body scope dV kV doc pm an cdv ct),osl⟩) (hcd:PySem.W.codeIn K cdv qual=true) (S:FnScope N ps scope)
  (len:∀ vs H Q E,sp vs H Q E->vs.length=ps.length)
  (hbody:∀ (A:Around) (outer:List Env) (s:Shared) (H:Hp) (vs:List V) (Q:VK) (E:XK),Room k (A.deeper (envOfC qual scope s.heap.objs.size f cdv))->sp vs H Q E →
    ∃ t,PSs (cxOf CX P w K mg base N qual scope f cdv A outer s H E) body t/\t { nx:=fun _ H'=>Q .non H',rt:=Q } (start N vs) H) :
  FnOk P w K mg base CX (k+1) f (PySem.W.fnOf name qual params body scope dV kV doc pm an cdv ct) ps sp:=by
 refine ⟨len,fun A outer s H args us vs Q E hr e0 hb r hsp=>?_⟩
 have hl:=len _ _ _ _ hsp
 have KX:K.In s.heap:=e0.mod.kin.keeps fun b o e=>(e0.bs b o e).1
 have lim:s.heap.NoLimit:=e0.mod.nolimit.keeps fun b o e=>(e0.bs b o e).1
 have hkind:∀ y∈ps.zip us,scope.names.lookup y.1=some .local \/ (scope.names.lookup y.1=some .cell/\((cellsFrom (s.heap.objs.size+1) scope.names []).lookup y.1).isSome=true):=fun ⟨n,v⟩ hy=>by
  rcases S.par n (List.of_mem_zip hy).1 with q | q
  · exact .inl q
  · exact .inr ⟨q,PySem.W.cellsFrom_some _ _ _ (.inl q)⟩
 refine codeAny_call_function hr.depth (KX _ _ lk) rfl S.co S.gen rfl (PySem.W.codeRec_of KX hcd) (hb _ _ _ _ ?_)
 refine wpAny_newFunctionEnv_cells S.kind hkind fun env he s1 x=>?_
 subst he
 refine ⟨lim.keeps x.toInCall.keep,codeAny_func ?_⟩
 obtain ⟨t,ht,hq⟩:=hbody A outer s H vs Q E (hr.deeper _) hsp
 have I:Inv (cxOf CX P w K mg base N qual scope f cdv A outer s H E) [] (start N vs) H s1:=inv_start S hr.hd e0 hl r x
 refine wpAny_mono (ht [] s1 (start N vs) H _ I hq) (fun fl s' hs=>?_) fun e s' hs=>hs
 have fin:∀ {σ':St} {H':Hp} {v:V} {u:Value},Inv (cxOf CX P w K mg base N qual scope f cdv A outer s H E) [] σ' H' s'->RelV v u->Q v H'->CE outer P w H s Q u s' :=
  fun {σ' H' v u} J rv q=>⟨v,H',J.os,J.bare,J.base,J.hok,rv,q⟩
 cases fl with
 | ret u =>
   obtain ⟨v,σ',H',J,rv,q⟩:=hs
   exact fin J rv q
 | next =>
   obtain ⟨σ',H',J,q⟩:=hs
   exact fin (v:=V.non) (u:=Value.none) J rfl q
 | brk =>
   obtain ⟨_,_,_,q⟩:=hs
   exact False.elim q
 | cont =>
   obtain ⟨_,_,_,q⟩:=hs
   exact False.elim q
end L2
namespace L2
open PySem PySem.Spec PyProof.Rows
section
variable {X:Cx} {x:Str} {p pos:Pos} {e:Expr} {es:List Expr} {t:TA} {id T:String} {r:List V->Hp->VK->Prop}
def tCB (r:List V->Hp->VK->Prop) (t:TA):TE:=fun σ H Q=>t σ H fun vs H1=>r vs H1 Q
theorem pe_callB (hc:CallR X (.builtin id) r) (hg:Gl X x) (hm:X.mg x=none) (hv:bootBuiltins x=some (.builtin id)) (ha:PA X (e::es) t) (hn:x≠"__name__":=by decide) (hdb:(x == ("__debug__" : Str))=false:=by decide)
  (he:starEach (e::es) X.env=(false,eval e X.env)::starEach es X.env:=by rfl) (hpl:(backTo pos (starEach es X.env)).any (·.1)=false:=by rfl):PE X (.Call (.Name x p) (e::es) [] pos) (tCB r t):=by
 intro pins s σ H Q I h
 refine wpAny_Call_Name_kw (kB I hg hm hv ?_ hn hdb)
 exact PyProof.Rows.callWith_builtin1 (thn (ha pos pins s σ H _ I h) fun us s1 ⟨vs,H1,I1,r1,q1⟩=>hc pins s1 σ H1 vs us Q I1 r1 q1) he hpl
end
end L2
namespace HT
open PySem PyProof.Rows
section
open PySem.SeqAt
open PySem.AutoSeq1 (wpAny_loadPart')
open PySem.MeetsSeq PySem.MeetsSeq2 PySem.MeetsSeq3
end
section
variable {prog:Program} {w:World} {A:Around} {E:Value->Shared->Prop} {s:Shared}
end
end HT
namespace L2
open PySem PySem.Spec PyProof.Rows
abbrev TO:=St->Hp->(Option Int->Hp->Prop)->Prop
def PO (X:Cx) (e:Option Expr) (t:TO):Prop :=
 ∀ (pins:List (Addr×Obj)) (s:Shared) (σ : St) (H:Hp) (Q:Option Int->Hp->Prop),Inv X pins σ H s->t σ H Q →
  wpAny (model X.prog X.w) X.A (evalPart e X.env) (fun u s'=>∃ o H',Inv X pins σ H' s'/\IsPart u o/\Q o H') X.xe s
def tNoPart:TO:=fun _ H Q=>Q none H
def tPart (t:TE):TO:=fun σ H Q=>t σ H fun x H1=>∃ i,x = .int i/\Q (some i) H1
section
variable {X:Cx} {e:Expr} {te:TE} {lo hi:Option Expr} {tl th:TO} {pos p2:Pos}
theorem po_none:PO X none tNoPart:=by
 intro pins s σ H Q I h
 rw [evalPart_none]
 exact wpAny_pure ⟨none,H,I,.none,h⟩
theorem po_some (h:PE X e te):PO X (some e) (tPart te):=by
 intro pins s σ H Q I hw
 rw [evalPart_some]
 refine thn (h pins s σ H _ I hw) fun u s1 ⟨x,H1,I1,r1,q1⟩=>?_
 obtain ⟨i,rfl,q⟩:=q1
 obtain ⟨t,rfl⟩:=r1
 exact ⟨some i,H1,I1,.int i t,q⟩
def SlR (X:Cx) (r:V->Option Int->Option Int->Hp->VK->Prop):Prop :=
 ∀ (pins:List (Addr×Obj)) (s:Shared) (σ : St) (H:Hp) (x:V) (v vl vu:Value) (lo hi:Option Int) (sl:Addr) (Q:VK),Inv X pins σ H s->RelV x v->s.heap.IsSliceOf sl vl vu .none->IsPart vl lo->IsPart vu hi->r x lo hi H Q →
  ∃ T id,typeLookup (.type T) "__getitem__" = pure (some (.builtin id))/\s.TypeIs v T/\wpAny (model X.prog X.w) X.A (getItem v (.ref sl)) (EP X pins σ Q) X.xe s
def tSl (r:V->Option Int->Option Int->Hp->VK->Prop) (te:TE) (tl th:TO):TE:=fun σ H Q=>te σ H fun x H1=>tl σ H1 fun l H2=>th σ H2 fun u H3=>r x l u H3 Q
theorem pe_slice {r:V->Option Int->Option Int->Hp->VK->Prop} (hr:SlR X r) (he:PE X e te) (hl:PO X lo tl) (hu:PO X hi th):PE X (.Subscript e (.Slice lo hi none p2) pos) (tSl r te tl th):=by
 intro pins s σ H Q I h
 refine Subscript_ (thn (he pins s σ H _ I h) fun v s1 ⟨x,H1,I1,r1,q1⟩=>?_)
 refine wpAny_Slice (thn (hl pins s1 σ H1 _ I1 q1) fun vl s2 ⟨l,H2,I2,pl,q2⟩=>thn (hu pins s2 σ H2 _ I2 q2) fun vu s3 ⟨u,H3,I3,pu,q3⟩=>?_)
 rw [evalPart_none]
 refine wpAny_pure ?_
 have I4:Inv X pins σ H3 { s3 with heap:=s3.heap.push { cls:=.type "slice",data:=.fields #[vl,vu,.none] } }:=I3.kept (t':=s3.toks) fun b ob q=>Heap.get?_push_of_some _ q
 obtain ⟨T,id,hT,ht,hg⟩:=hr pins { s3 with heap:=s3.heap.push { cls:=.type "slice",data:=.fields #[vl,vu,.none] } } σ H3 x v vl vu l u s3.heap.objs.size Q I4 r1 (Heap.IsSliceOf.new ..) pl pu q3
 show wpAny (model X.prog X.w) X.A (subscriptTail e (.Slice lo hi none p2) v (.ref s3.heap.objs.size)) (EP X pins σ Q) X.xe { s3 with heap:=s3.heap.push { cls:=.type "slice",data:=.fields #[vl,vu,.none] } }
 exact tail_any (ops:=[.ref s3.heap.objs.size,v]) ht hT hg (by with_unfolding_all rfl)
def cutV (xs:List V) (lo hi:Option Int):List V:=(xs.drop (HT.sIx xs.length 0 lo)).take (HT.sIx xs.length xs.length hi - HT.sIx xs.length 0 lo)
theorem cutV_length (xs:List V) (lo hi:Option Int):(cutV xs lo hi).length<=xs.length:=by
 unfold cutV
 rw [List.length_take,List.length_drop]
 omega
end
end L2
namespace L2
open PySem PySem.Spec PyProof.Rows
theorem ixN_seq {n:Nat} {i:Int} {j:Nat} (h:ixN n i=some j):seqIndex? i n=some j/\j < n/\-(n:Int)<=i/\i < n:=by
 unfold ixN at h
 by_cases h0:0<=i
 · rw [if_pos h0] at h
   by_cases h1:i < n
   · rw [if_pos h1] at h
     have e:i.toNat=j:=Option.some.inj h
     exact ⟨by rw [seqIndex_of h0 h1,e],by omega,by omega,h1⟩
   · rw [if_neg h1] at h; cases h
 · rw [if_neg h0] at h
   by_cases h1 : -(n:Int)<=i
   · rw [if_pos h1] at h
     have e:(i+n).toNat=j:=Option.some.inj h
     exact ⟨by rw [seqIndex_neg (by omega) h1,e],by omega,h1,by omega⟩
   · rw [if_neg h1] at h; cases h
theorem atI_get {α : Type} {xs:List α} {i:Int} {v : α} (h:atI xs i=some v):∃ j,seqIndex? i xs.length=some j/\xs[j]? = some v/\j < xs.length/\-(xs.length:Int)<=i/\i < xs.length:=by
 unfold atI at h
 cases e:ixN xs.length i with
 | none=>rw [e] at h; cases h
 | some j =>
   rw [e] at h
   obtain ⟨h1,h2,h3,h4⟩:=ixN_seq e
   exact ⟨j,h1,h,h2,h3,h4⟩
def PlainIx (b:Expr):Prop:=∀ o i,subscripted b false o i=operate [o,i] (getItem o i)
def IxR (X:Cx) (r:R2):Prop :=
 ∀ (value slice:Expr) (pins:List (Addr×Obj)) (s:Shared) (σ : St) (H:Hp) (x y:V) (v u:Value) (Q:VK),Inv X pins σ H s->RelV x v->RelV y u->r x y H Q →
  subscripted slice false v u=operate [v,u] (getItem v u)->wpAny (model X.prog X.w) X.A (subscriptTail value slice v u) (EP X pins σ Q) X.xe s
def MtR (X:Cx) (id:String) (r:V->List V->Hp->VK->Prop):Prop :=
 ∀ (pins:List (Addr×Obj)) (s:Shared) (σ : St) (H:Hp) (x:V) (xs:List V) (v:Value) (us:List Value) (Q:VK),Inv X pins σ H s->RelV x v->Vals xs us->r x xs H Q →
  wpAny (model X.prog X.w) X.A (call (.builtin id) (v::us)) (EP X pins σ Q) X.xe s
section
variable {X:Cx} {a b:Expr} {ta tb:TE} {pos:Pos}
theorem IxR.or {r r':R2} (h:IxR X r) (h':IxR X r'):IxR X (fun x y H Q=>r x y H Q \/ r' x y H Q):=by
 intro value slice pins s σ H x y v u Q I rx ry q hs
 rcases q with q | q
 · exact h value slice pins s σ H x y v u Q I rx ry q hs
 · exact h' value slice pins s σ H x y v u Q I rx ry q hs
theorem pe_ix {r:R2} (hr:IxR X r) (ha:PE X a ta) (hb:PE X b tb) (hs:PlainIx b):PE X (.Subscript a b pos) (tOp r ta tb):=by
 intro pins s σ H Q I h
 exact Subscript_ (binT ha hb I h fun v u s2 x y H2 I2 rx ry q=>hr a b pins s2 σ H2 x y v u Q I2 rx ry q (hs _ _))
def rIxL (K:PySem.W.Frag):R2:=fun x y H Q=>∃ p xs i v,x = .ref p/\y = .int i/\SqL K H p xs/\atI xs i=some v/\Q v H
def rIxT (K:PySem.W.Frag):R2:=fun x y H Q=>∃ p xs i v,x = .ref p/\y = .int i/\SqT K H p xs/\atI xs i=some v/\Q v H
def rIxS:R2:=fun x y H Q=>∃ z i c,x = .str z/\y = .int i/\z.length<=sizeLine/\atI z.cps.toList i=some c/\Q (.str ⟨#[c]⟩) H
theorem ix_list:IxR X (rIxL X.K):=by
 intro value slice pins s σ H x y v u Q I rx ry h hs
 obtain ⟨p,xs,i,z,rfl,rfl,hq,he,q⟩:=h
 cases rx
 obtain ⟨t,rfl⟩:=ry
 obtain ⟨its,r,pl,hz⟩:=I.list hq
 obtain ⟨j,h1,h2,h3,h4,h5⟩:=atI_get he
 obtain ⟨w,ew,rw'⟩:=r.get h2
 have hl:=r.length
 have hn:=line63
 have fin:EP X pins σ Q w s:=⟨z,H,I,rw',q⟩
 by_cases h0:0<=i
 · have hj:i.toNat=j:=by
    rw [seqIndex_of h0 h5] at h1
    exact Option.some.inj h1
   exact item_listR pl.isList h0 (by omega) (by rw [hj]; simpa using ew) fin hs
 · have hj:(i+(its.toArray.size:Int)).toNat=j:=by
    rw [seqIndex_neg (by omega) h4] at h1
    rw [List.size_toArray,<- hl]
    exact Option.some.inj h1
   exact subscriptTail_builtinR (x:=w) pl.isList.typeIs slot_list_getitem.lookup
    (wpAny_getItem_list_neg (Q:=fun r s'=>r=w/\EP X pins σ Q r s') pl.isList (by omega) (by rw [List.size_toArray] <;> omega) (by omega) (by rw [hj]; simpa using ew) ⟨rfl,fin⟩) hs
theorem ix_tup:IxR X (rIxT X.K):=by
 intro value slice pins s σ H x y v u Q I rx ry h hs
 obtain ⟨p,xs,i,z,rfl,rfl,hq,he,q⟩:=h
 cases rx
 obtain ⟨t,rfl⟩:=ry
 obtain ⟨its,r,pl,hz⟩:=I.tuple hq
 obtain ⟨j,h1,h2,h3,h4,h5⟩:=atI_get he
 obtain ⟨w,ew,rw'⟩:=r.get h2
 have hl:=r.length
 have hn:=line63
 have fin:EP X pins σ Q w s:=⟨z,H,I,rw',q⟩
 exact subscriptTail_builtinR (x:=w) pl.typeIs slot_tuple_getitem.lookup
  (getItem_tuple (j:=j) (Q:=fun r s'=>r=w/\EP X pins σ Q r s') pl (by omega) (by omega) (by rw [List.size_toArray,<- hl]; exact h1) (by simpa using ew) ⟨rfl,fin⟩) hs
theorem ix_str:IxR X rIxS:=by
 intro value slice pins s σ H x y v u Q I rx ry h hs
 obtain ⟨z,i,c,rfl,rfl,hz,he,q⟩:=h
 obtain ⟨t,rfl⟩:=rx
 obtain ⟨t',rfl⟩:=ry
 obtain ⟨j,h1,h2,h3,h4,h5⟩:=atI_get he
 have hl:z.cps.toList.length=z.length:=by simp [Str.length]
 rw [hl] at h1 h4 h5
 have hn:=line63
 exact tail_any (typeIs_str s z t) slot_str_getitem.lookup (getItem_str (c:=c) (by
  have e1:decide (i < -(2 ^ 63:Int))=false:=decide_eq_false (by omega)
  have e2:decide (i ≥ 2 ^ 63)=false:=decide_eq_false (by omega)
  rw [e1,e2,Bool.or_false]) (by rw [h1]; simpa using h2) ⟨.str ⟨#[c]⟩,H,I.tok _,⟨_,rfl⟩,q⟩) hs
def rIx (K:PySem.W.Frag):R2:=fun x y H Q=>rIxL K x y H Q \/ rIxT K x y H Q \/ rIxS x y H Q
theorem ix_seq:IxR X (rIx X.K):=ix_list.or (ix_tup.or ix_str)
theorem mapSeq_set (its:List Value) (n j:Nat) (u:Value):Obj.mapSeq (·.setIfInBounds j u) { cls:=.type "list",data:=.seq its.toArray n } = { cls:=.type "list",data:=.seq (its.set j u).toArray n }:=by
 simp [Obj.mapSeq]
theorem Inv.lst {pins:List (Addr×Obj)} {σ : St} {H:Hp} {s:Shared} {p:Addr} {xs:List V} (I:Inv X pins σ H s) (h:H p=some (.lst xs)) :
  ∃ (its:List Value) (n:Nat),Vals xs its/\s.heap.get? p=some { cls:=.type "list",data:=.seq its.toArray n }/\xs.length<=sizeLine:=by
 obtain ⟨z,its,n,r,e⟩:=I.hok p _ h
 exact ⟨its,n,r,e,z⟩
theorem Inv.lstUpd {pins:List (Addr×Obj)} {σ : St} {H:Hp} {s:Shared} {p:Addr} {xs ys:List V} {its its':List Value} {n n':Nat} {f:Obj->Obj} (I:Inv X pins σ H s) (h:H p=some (.lst xs))
  (ho:s.heap.get? p=some { cls:=.type "list",data:=.seq its.toArray n }) (hf:f { cls:=.type "list",data:=.seq its.toArray n } = { cls:=.type "list",data:=.seq its'.toArray n' }) (r:Vals ys its') (hz:ys.length<=sizeLine) (t:Nat) :
  Inv X pins σ (upd H p (.lst ys)) { s with heap:=s.heap.update p f,toks:=t }:=by
 have e:(s.heap.update p f).get? p=some { cls:=.type "list",data:=.seq its'.toArray n' }:=by
  rw [Heap.get?_update_self f ho (by rw [hf] <;> rfl),hf]
 refine I.write (x:=p) (e:=p) (by rw [h]; trivial) (.inl rfl) (fun b u hb q=>(Heap.get?_update_other _ _ (Ne.symm hb)).trans q) ⟨_,e⟩ ?_
 exact ⟨hz,its',n',r,e⟩
def rSetL:V->V->V->Hp->(Hp->Prop)->Prop:=fun o i v H Q=>∃ p xs k j,o = .ref p/\i = .int k/\H p=some (.lst xs)/\ixN xs.length k=some j/\Q (upd H p (.lst (xs.set j v)))
theorem set_list:PSet X rSetL:=by
 intro pins s σ H o i v ov iv u Q I ro ri rv h
 obtain ⟨p,xs,k,j,rfl,rfl,hp,hj,q⟩:=h
 cases ro
 obtain ⟨t,rfl⟩:=ri
 obtain ⟨its,n,r,ho,hz⟩:=I.lst hp
 obtain ⟨h1,h2,h3,h4⟩:=ixN_seq hj
 have hl:=r.length
 have hn:=line63
 have I':Inv X pins σ (upd H p (.lst (xs.set j v))) { s with heap:=s.heap.update p (Obj.mapSeq (·.setIfInBounds j u)) } :=
  I.lstUpd hp ho (mapSeq_set its n j u) (r.set rv j) (by rw [List.length_set]; exact hz) s.toks
 by_cases h0:0<=k
 · have hk:k.toNat=j:=by
    rw [seqIndex_of h0 h4] at h1
    exact Option.some.inj h1
   exact PySem.W.ki_setAt ho h0 (by omega) (by rw [List.size_toArray,<- hl]; exact h4) (by rw [hk]; exact ⟨_,I',q⟩)
 · have hk:(k+(its.toArray.size:Int)).toNat=j:=by
    rw [seqIndex_neg (by omega) h3] at h1
    rw [List.size_toArray,<- hl]
    exact Option.some.inj h1
   exact PySem.W.ki_setBack ho (by omega) (by rw [List.size_toArray,<- hl]; exact h3) (by omega) (by rw [hk]; exact ⟨_,I',q⟩)
theorem slice_bounds (lo hi:Option Int) (n:Nat):(sliceBounds lo hi none n).1=((HT.sIx n 0 lo:Nat):Int)/\(sliceBounds lo hi none n).2.1=((HT.sIx n n hi:Nat):Int)/\(sliceBounds lo hi none n).2.2=1:=by
 refine ⟨?_,?_,rfl⟩
 · cases lo with
   | none=>simp [sliceBounds,HT.sIx]
   | some i =>
     simp only [sliceBounds,HT.sIx,Option.getD_none,show (1:Int) > 0 by decide,if_true]
     by_cases h:i < 0
     · simp only [h,if_true] <;> omega
     · simp only [h,if_false] <;> omega
 · cases hi with
   | none=>simp [sliceBounds,HT.sIx]
   | some i =>
     simp only [sliceBounds,HT.sIx,Option.getD_none,show (1:Int) > 0 by decide,if_true]
     by_cases h:i < 0
     · simp only [h,if_true] <;> omega
     · simp only [h,if_false] <;> omega
theorem slicePick_cut (its:List Value) (lo hi:Option Int):slicePick its.toArray lo hi none=((its.drop (HT.sIx its.length 0 lo)).take (HT.sIx its.length its.length hi - HT.sIx its.length 0 lo)).toArray:=by
 obtain ⟨h1,h2,h3⟩:=slice_bounds lo hi its.toArray.size
 unfold slicePick
 rw [h1,h2,h3]
 simp only [sliceRange_one,pick_run,List.size_toArray] <;> rfl
def rSlL (K:PySem.W.Frag):V->Option Int->Option Int->Hp->VK->Prop:=fun x lo hi H Q=>∃ a xs,x = .ref a/\SqL K H a xs/\∀ p,H p=none->Q (.ref p) (upd H p (.lst (cutV xs lo hi)))
theorem sl_list:SlR X (rSlL X.K):=by
 intro pins s σ H x v vl vu lo hi sl Q I rx hs pl pu h
 obtain ⟨a,xs,rfl,hx,q⟩:=h
 cases rx
 obtain ⟨its,r,ht,hz⟩:=I.list hx
 have hlen:=r.length
 refine ⟨"list",_,slot_list_getitem.lookup,ht.isList.typeIs,?_⟩
 refine wpAny_getItem_list_slice ht.isList hs pl pu .none (by simp) ?_ (by rw [List.size_toArray] <;> omega)
 rw [slicePick_cut,<- hlen]
 refine ⟨.ref s.heap.objs.size,_,I.laid (t':=s.toks) (o:=.lst (cutV xs lo hi)) (fun b ob q=>Heap.get?_push_of_some _ q) (Nat.le_refl _) ?_,rfl,q _ (I.hok.fresh (Nat.le_refl _))⟩
 exact ⟨Nat.le_trans (cutV_length xs lo hi) hz,_,0,(r.drop (HT.sIx xs.length 0 lo)).take (HT.sIx xs.length xs.length hi - HT.sIx xs.length 0 lo),Heap.get?_push_size _ rfl⟩
theorem call_len_seq:CallR X (.builtin "len") (fun xs H Q=>∃ p ys,xs=[.ref p]/\(SqL X.K H p ys \/ SqT X.K H p ys)/\Q (.int ys.length) H):=by
 intro pins s σ H xs us Q I r h
 obtain ⟨p,ys,rfl,hq,q⟩:=h
 obtain ⟨u,rfl,rx⟩:=vals1 r
 cases rx
 have hn:=line63
 rcases hq with hq | hq
 · obtain ⟨its, r', pl, hz⟩ := I.list hq
   have hlen:=r'.length
   exact Calls.call_len_list pl.isList (by simp only [List.size_toArray] <;> omega) ⟨.int ys.length,H,I.tok _,⟨s.toks+1,by rw [List.size_toArray,hlen]⟩,q⟩
 · obtain ⟨its, r', pl, hz⟩ := I.tuple hq
   have hlen:=r'.length
   exact len_tuple pl (by simp only [List.size_toArray] <;> omega) ⟨.int ys.length,H,I.tok _,⟨s.toks+1,by rw [List.size_toArray,hlen]⟩,q⟩
theorem call_len_str:CallR X (.builtin "len") (fun xs H Q=>∃ z,xs=[.str z]/\z.length<=sizeLine/\Q (.int z.length) H):=by
 intro pins s σ H xs us Q I r h
 obtain ⟨z,rfl,hz,q⟩:=h
 obtain ⟨u,rfl,t,rfl⟩:=vals1 r
 have hn:=line63
 exact len_str (by omega) ⟨.int z.length,H,I.tok _,⟨_,rfl⟩,q⟩
theorem CallR.or {f:Value} {r r':List V->Hp->VK->Prop} (h:CallR X f r) (h':CallR X f r'):CallR X f (fun xs H Q=>r xs H Q \/ r' xs H Q):=by
 intro pins s σ H xs us Q I rs q
 rcases q with q | q
 · exact h pins s σ H xs us Q I rs q
 · exact h' pins s σ H xs us Q I rs q
def tyV (K:PySem.W.Frag) (T:String) (x:V) (H:Hp):Prop:=match x with
 | .str _=>T = "str"
 | .int _=>T = "int"
 | .ref p=>(T = "list"/\∃ xs,SqL K H p xs) \/ (T = "tuple"/\∃ o,K.lookup p=some o/\o.cls = .type "tuple"/\o.dict=none) ∨
    (T = "dict"/\((∃ kvs,H p=some (.dK kvs)) \/ ∃ kvs,H p=some (.dT kvs))) \/ (T = "set"/\∃ S n,H p=some (.set S n))
 | _=>False
theorem tyV_is {pins:List (Addr×Obj)} {σ : St} {H:Hp} {s:Shared} {T:String} {x:V} {v:Value} (I:Inv X pins σ H s) (r:RelV x v) (ty:tyV X.K T x H) :
  s.TypeIs v T/\∀ a,v = .ref a->∃ ob,s.heap.get? a=some ob/\ob.dict=none:=by
 cases x with
 | str z =>
   obtain ⟨t,rfl⟩:=r
   cases (show T = "str" from ty)
   exact ⟨typeIs_str s z t,fun _ e=>nomatch e⟩
 | int i =>
   obtain ⟨t,rfl⟩:=r
   cases (show T = "int" from ty)
   exact ⟨typeIs_int s i t,fun _ e=>nomatch e⟩
 | ref p =>
   cases r
   rcases ty with ⟨rfl,xs,hq⟩ | ⟨rfl,o,hk,hc,hd⟩ | ⟨rfl,hk⟩ | ⟨rfl,S,n,hk⟩
   · obtain ⟨its, _, pl, _⟩ := I.list hq
     refine ⟨pl.isList.typeIs,fun a e=>?_⟩
     cases e
     obtain ⟨o,n,e,c,hd,_⟩:=pl
     exact ⟨o,e,hd⟩
   · refine ⟨⟨o, I.kIn p o hk, hc⟩, fun a e => ?_⟩
     cases e
     exact ⟨o,I.kIn _ o hk,hd⟩
   · have z:∃ o,s.heap.get? p=some o/\o.ExactDict:=by
      rcases hk with ⟨kvs,hk⟩ | ⟨kvs,hk⟩
      · obtain ⟨_, _, _, _, o, _, _, e, ex, _⟩ := I.hok p _ hk
        exact ⟨o,e,ex⟩
      · obtain ⟨_, _, _, _, o, _, _, e, ex, _⟩ := I.hok p _ hk
        exact ⟨o,e,ex⟩
     obtain ⟨o,e,ex⟩:=z
     refine ⟨⟨o,e,ex.1⟩,fun a e2=>?_⟩
     cases e2
     exact ⟨o,e,ex.2.1⟩
   · obtain ⟨o, _, _, _, e, ex, _⟩ := I.hok p _ hk
     refine ⟨⟨o,e,ex.1⟩,fun a e2=>?_⟩
     cases e2
     exact ⟨o,e,ex.2.1⟩
 | _=>exact False.elim ty
def tBM (K:PySem.W.Frag) (T:String) (r:V->List V->Hp->VK->Prop) (to:TE) (t:TA):TE:=fun σ H Q=>to σ H fun x H1=>tyV K T x H1/\t σ H1 fun xs H2=>r x xs H2 Q
variable {o e:Expr} {es:List Expr} {to:TE} {t:TA} {name:Str} {apos cpos:Pos} {T id:String} {r:V->List V->Hp->VK->Prop}
theorem pe_bm (pa:PlainAttrs T) (slot:Slot T name id) (hty:typeOf (.builtin id)=pure (.type "method_descriptor")) (hm:MtR X id r) (ho:PE X o to) (ha:PA X (e::es) t)
  (hbase:attributeBase o name X.env (eval o X.env)=eval o X.env:=by rfl)
  (hfew:((backTo cpos (starEach (e::es) X.env)).all (fun x=>!x.1) && (backToKw cpos (keywordEach [] X.env)).all (fun x=>x.1.isSome)
    && decide ((e::es).length+([]:List Keyword).length+(if ([]:List Keyword).isEmpty then 0 else 1) < 30))=true:=by rfl)
  (hline:(apos.endLine == cpos.line)=true:=by rfl) (hs:starEach (e::es) X.env=(false,eval e X.env)::starEach es X.env:=by rfl) (hplain:(backTo cpos (starEach es X.env)).any (·.1)=false:=by rfl) :
  PE X (.Call (.Attribute o name apos) (e::es) [] cpos) (tBM X.K T r to t):=by
 intro pins s σ H Q I h
 refine wpAny_Call_method_late hbase hfew hline rfl (thn (ho pins s σ H _ I h) fun v s1 ⟨x,H1,I1,r1,ty,q1⟩=>?_)
 obtain ⟨h1,h2⟩:=tyV_is I1 r1 ty
 refine ⟨T,id,pa,slot,hty,h1,h2,?_⟩
 have hA:=ha cpos pins s1 σ H1 _ I1 q1
 rw [hs] at hA ⊢
 refine Calls.callWith_builtin (by show (false || (backTo cpos (starEach es X.env)).any (·.1))=false; rw [hplain] <;> rfl) (Calls.evalArgs_plain ?_)
 exact thn hA fun us s2 ⟨vs,H2,I2,r2,q2⟩=>hm pins s2 σ H2 x vs v us Q I2 r1 r2 q2
/- xs.append(e),list.index on a module's tuple .. are MtR facts of 06m -/
end
end L2
namespace L2
open PySem PySem.Spec PyProof.Rows
def MtM (X:Cx) (id:String) (r:V->List V->Hp->VK->Prop):Prop :=
 ∀ (pins:List (Addr×Obj)) (s:Shared) (σ : St) (H:Hp) (x:V) (xs:List V) (v:Value) (us:List Value) (Q:VK),Inv X pins σ H s->RelV x v->Vals xs us->r x xs H Q →
  wpAny (model X.prog X.w) X.A (call (.builtin id) (v::us)) (EP X pins σ Q) X.xe s
theorem Vals.one:∀ {x:V} {us:List Value},Vals [x] us->∃ u,us=[u]/\RelV x u
 | _,_,.cons r .nil=>⟨_,rfl,r⟩
theorem Vals.reverse {xs:List V} {us:List Value} (h:Vals xs us):Vals xs.reverse us.reverse:=by
 induction h with
 | nil=>exact .nil
 | cons r t ih=>rw [List.reverse_cons,List.reverse_cons]; exact Vals.append ih (.cons r .nil)
section
variable {X:Cx} {pins:List (Addr×Obj)} {σ : St} {H:Hp} {s:Shared} {l b:Addr} {xs ys zs:List V}
theorem Inv.lset {its its':List Value} {n:Nat} {f:Array Value->Array Value} {t':Nat} (I:Inv X pins σ H s) (hH:H l=some (.lst xs))
  (e:s.heap.get? l=some { cls:=.type "list",data:=.seq its.toArray n }) (hf:f its.toArray=its'.toArray) (hv:Vals ys its') (hz:ys.length<=sizeLine) :
  Inv X pins σ (upd H l (.lst ys)) { s with heap:=s.heap.update l (Obj.mapSeq f),toks:=t' }:=by
 have q:=PySem.IsL.update e f
 rw [hf] at q
 refine I.write (x:=l) (e:=l) (by rw [hH]; exact trivial) (.inl rfl) (fun b' u hb hu=>(Heap.get?_update_other s.heap (Obj.mapSeq f) (Ne.symm hb)).trans hu) ⟨_,q⟩ ?_
 exact ⟨hz,its',_,hv,q⟩
theorem Inv.lnew {its:List Value} {t':Nat} (I:Inv X pins σ H s) (hv:Vals ys its) (hz:ys.length<=sizeLine) :
  Inv X pins σ (upd H s.heap.objs.size (.lst ys)) { s with heap:=s.heap.push { cls:=.type "list",data:=.seq its.toArray },toks:=t' } :=
 I.laid (fun _ _ q=>Heap.get?_push_of_some _ q) (Nat.le_refl _) ⟨hz,its,0,hv,Heap.get?_push_size _ rfl⟩
theorem Inv.fresh (I:Inv X pins σ H s):H s.heap.objs.size=none:=I.hok.fresh (Nat.le_refl _)
theorem Inv.lstM (I:Inv X pins σ H s) (hH:H l=some (.lst xs)):xs.length<=sizeLine/\∃ (its:List Value) (n:Nat),Vals xs its/\xs.length=its.length/\s.heap.get? l=some { cls:=.type "list",data:=.seq its.toArray n }:=by
 obtain ⟨z,its,n,r,e⟩:=I.hok l _ hH
 exact ⟨z,its,n,r,r.length,e⟩
theorem notLongL {n:Nat} (h:n<=sizeLine):Builtin.List.listTooLong n=false:=by
 unfold Builtin.List.listTooLong
 exact decide_eq_false (by omega)
end
section
variable {X:Cx}
def rAppend:V->List V->Hp->VK->Prop:=fun x vs H Q=>∃ l xs y,x = .ref l/\vs=[y]/\H l=some (.lst xs)/\xs.length < sizeLine/\Q .non (upd H l (.lst (xs++[y])))
theorem mt_append:MtM X "list.append" rAppend:=by
 intro pins s σ H x vs v us Q I rx rv h
 obtain ⟨l,xs,y,rfl,rfl,hH,hz,q⟩:=h
 cases rx
 obtain ⟨u,rfl,ru⟩:=rv.one
 obtain ⟨z,its,n,r,hl,e⟩:=I.lstM hH
 refine call_meets F.slot_list_append ⟨_,e,rfl⟩ F.entry_list_append (F.args_list_append_2 _ _) (PySem.list_append l its.toArray n u (by rw [List.size_toArray]; omega)) ⟨e,?_⟩
 refine ⟨.non,_,I.lset (its':=its++[u]) hH e (by simp) (r.append (.cons ru .nil)) ?_,rfl,q⟩
 rw [List.length_append,List.length_singleton]
 omega
def rExtend:V->List V->Hp->VK->Prop:=fun x vs H Q=>∃ l b xs zs,x = .ref l/\vs=[.ref b]/\H l=some (.lst xs)/\H b=some (.lst zs)/\xs.length+zs.length<=sizeLine/\Q .non (upd H l (.lst (xs++zs)))
theorem mt_extend:MtM X "list.extend" rExtend:=by
 intro pins s σ H x vs v us Q I rx rv h
 obtain ⟨l,b,xs,zs,rfl,rfl,hH,hB,hz,q⟩:=h
 cases rx
 obtain ⟨u,rfl,ru⟩:=rv.one
 cases ru
 obtain ⟨z,its,n,r,hl,e⟩:=I.lstM hH
 obtain ⟨z2,its2,n2,r2,hl2,e2⟩:=I.lstM hB
 have hsz:its.toArray.size+its2.toArray.size<=sizeLine:=by rw [List.size_toArray,List.size_toArray]; omega
 have hlong : ¬ (!its.toArray.isEmpty && Builtin.List.listTooLong (its.toArray.size+its2.toArray.size))=true:=by
  rw [notLongL hsz,Bool.and_false]
  exact Bool.false_ne_true
 refine call_meets F.slot_list_extend ⟨_,e,rfl⟩ F.entry_list_extend (F.args_list_extend_2 _ _)
  (AutoSeq1.list_extend_list_list_0 l its.toArray n b its2.toArray n2 hlong (by rw [List.size_toArray]; omega) (by omega)) ⟨e,e2,?_⟩
 refine ⟨.non,_,I.lset (its':=its++its2) hH e (by simp) (r.append r2) ?_,rfl,q⟩
 rw [List.length_append]
 omega
end
section
variable {prog:Program} {w:World} {A:Around} {E:Value->Shared->Prop} {s:Shared}
end
section
variable {X:Cx}
end
end L2
namespace L2
open PySem PySem.Spec PyProof.Rows
section
variable {κ : Type} [DecidableEq κ]
def valV (kvs:List (κ×V)) (k : κ):Option V:=(kvs.find? fun kv=>decide (kv.1=k)).map (·.2)
def putK (kvs:List (κ×V)) (k : κ) (v:V):List (κ×V) :=
 if (kvs.any fun kv=>decide (kv.1=k))=true then kvs.map (fun kv=>if kv.1=k then (kv.1,v) else kv) else kvs++[(k,v)]
def dropK (kvs:List (κ×V)) (k : κ):List (κ×V):=kvs.filter fun kv=>decide (kv.1≠k)
theorem valV_pos {p : κ×V} {r:List (κ×V)} {k : κ} (e:p.1=k):valV (p::r) k=some p.2:=by simp [valV,List.find?_cons,e]
theorem valV_neg {p : κ×V} {r:List (κ×V)} {k : κ} (e : ¬ p.1=k):valV (p::r) k=valV r k:=by simp [valV,List.find?_cons,e]
theorem RelO.getD {o:Option V} {u:Option Value} {d:V} {d':Value} (r:RelO o u) (rd:RelV d d'):RelV (o.getD d) (u.getD d'):=by
 cases o with
 | none => cases u with
   | none=>exact rd
   | some _=>exact (show False from r).elim
 | some _ => cases u with
   | none=>exact (show False from r).elim
   | some _=>exact r
theorem KV.val {kvs:List (κ×V)} {vs:List (κ×Value)} (r:KV kvs vs) (k : κ):RelO (valV kvs k) (valueAt vs k):=by
 unfold KV at r
 induction r with
 | nil=>exact True.intro
 | @cons p q ps qs h t ih =>
   obtain ⟨h1,h2⟩:=h
   by_cases e:p.1=k
   · have e' : q.1 = k := h1.symm.trans e
     have b:valueAt (q::qs) k=some q.2:=by simp [valueAt,List.find?_cons,e']
     rw [valV_pos e,b]; exact h2
   · have e' : ¬ q.1 = k := fun z => e (h1.trans z)
     have b:valueAt (q::qs) k=valueAt qs k:=by simp [valueAt,List.find?_cons,e']
     rw [valV_neg e,b]; exact ih
theorem KV.any {kvs:List (κ×V)} {vs:List (κ×Value)} (r:KV kvs vs) (k : κ):(kvs.any fun kv=>decide (kv.1=k))=vs.any fun kv=>decide (kv.1=k):=by
 unfold KV at r
 induction r with
 | nil=>rfl
 | cons h t ih=>rw [List.any_cons,List.any_cons,ih,h.1]
theorem KV.drop {kvs:List (κ×V)} {vs:List (κ×Value)} (r:KV kvs vs) (k : κ):KV (dropK kvs k) (without vs k):=by
 unfold KV at r ⊢
 unfold dropK without
 induction r with
 | nil=>exact .nil
 | @cons p q ps qs h t ih =>
   obtain ⟨h1,h2⟩:=h
   rw [List.filter_cons,List.filter_cons]
   by_cases e:p.1=k
   · have a : ¬ decide (p.1 ≠ k) = true := by simp [e]
     have b : ¬ decide (q.1≠k)=true:=by simp [h1.symm.trans e]
     rw [if_neg a,if_neg b]; exact ih
   · have e' : ¬ q.1 = k := fun z => e (h1.trans z)
     have a:decide (p.1≠k)=true:=by simp [e]
     have b:decide (q.1≠k)=true:=by simp [e']
     rw [if_pos a,if_pos b]; exact .cons ⟨h1,h2⟩ ih
theorem KV.length {kvs:List (κ×V)} {vs:List (κ×Value)} (r:KV kvs vs):kvs.length=vs.length:=Paired.length r
end
abbrev KT (H:Hp):List (List Key×V)->List (List Key×Addr×Value)->Prop:=Paired fun p q=>p.1=q.1/\H q.2.1=some (.tup (p.1.map kV))/\RelV p.2 q.2.2
theorem KT.val {H:Hp} {kvs:List (List Key×V)} {xs:List (List Key×Addr×Value)} (r:KT H kvs xs) (k:List Key):RelO (valV kvs k) ((atKey xs k).map (·.2)):=by
 induction r with
 | nil=>exact True.intro
 | @cons p q ps qs h t ih =>
   obtain ⟨h1,_,h2⟩:=h
   by_cases e:p.1=k
   · have e' : q.1 = k := h1.symm.trans e
     have b:atKey (q::qs) k=some q.2:=by simp [atKey,List.find?_cons,e']
     rw [valV_pos e,b]; exact h2
   · have e' : ¬ q.1 = k := fun z => e (h1.trans z)
     have b:atKey (q::qs) k=atKey qs k:=by simp [atKey,List.find?_cons,e']
     rw [valV_neg e,b]; exact ih
section
variable {P:Program} {w:World} {H:Hp} {h:Heap} {a:Addr}
end
def DGet (H:Hp) (a:Addr) (y:V) (r:Option V):Prop :=
 (∃ kvs k,Rd H a (.dK kvs)/\y=kV k/\r=valV kvs k) \/ ∃ kvs k b,Rd H a (.dT kvs)/\y = .ref b/\H b=some (.tup (k.map kV))/\r=valV kvs k
def DPut (H:Hp) (a:Addr) (y v:V) (H':Hp):Prop :=
 (∃ kvs k,H a=some (.dK kvs)/\y=kV k/\kvs.length < sizeLine/\H'=upd H a (.dK (putK kvs k v))) ∨
 ∃ kvs k b,H a=some (.dT kvs)/\y = .ref b/\H b=some (.tup (k.map kV))/\kvs.length < sizeLine/\H'=upd H a (.dT (putK kvs k v))
theorem DGet.t {H:Hp} {a b:Addr} {kvs:List (List Key×V)} {k:List Key} (e:H a=some (.dT kvs)) (eb:H b=some (.tup (k.map kV))):DGet H a (.ref b) (valV kvs k):=.inr ⟨kvs,k,b,.inl e,rfl,eb,rfl⟩
theorem DPut.t {H:Hp} {a b:Addr} {kvs:List (List Key×V)} {k:List Key} {v:V} (e:H a=some (.dT kvs)) (eb:H b=some (.tup (k.map kV))) (hl:kvs.length < sizeLine) :
  DPut H a (.ref b) v (upd H a (.dT (putK kvs k v))):=.inr ⟨kvs,k,b,e,rfl,eb,hl,rfl⟩
section
variable {X:Cx} {pins:List (Addr×Obj)} {σ : St} {H:Hp} {s:Shared} {a:Addr} {y v:V} {u r:Value} {o:Option V} {A:Around} {E:Value->Shared->Prop}
end
section
variable {X:Cx} {pins:List (Addr×Obj)} {σ : St} {H:Hp} {s:Shared} {a:Addr} {kvs:List (Key×V)} {k:Key} {u:Value} {A:Around} {E:Value->Shared->Prop}
end
section
variable {X:Cx} {o i e value:Expr} {pos pos' tpos:Pos} {td ty tv:TE}
end
section
variable {X:Cx} {pos:Pos}
end
section
variable {X:Cx} {pins:List (Addr×Obj)} {σ : St} {H:Hp} {s:Shared} {a:Addr} {y d:V} {u r:Value} {o:Option V} {A:Around} {E:Value->Shared->Prop}
end
section
variable {X:Cx} {o e f:Expr} {apos cpos:Pos} {td ty tx:TE}
end
section
variable {X:Cx} {pins:List (Addr×Obj)} {σ : St} {H:Hp} {s:Shared} {a:Addr} {kvs:List (Key×V)} {A:Around} {E:Value->Shared->Prop}
end
section
variable {X:Cx} {pins:List (Addr×Obj)} {σ : St} {H:Hp} {s:Shared} {a:Addr} {y:V} {u:Value} {A:Around} {E:Value->Shared->Prop}
end
end L2
namespace Att
open PySem PySem.W PySem.Calls PyProof.Rows
theorem ints_of_wellAll {P:Params} {h:Heap} : ∀ (ns:List Int) (vs:List Value),WellAll P h vs (ns.map WData.int)->IntsAre vs ns:=by
 intro ns
 induction ns with
 | nil =>
   intro vs w
   rw [List.map_nil] at w
   cases w
   exact .nil
 | cons n ns ih =>
   intro vs w
   rw [List.map_cons] at w
   cases w with
   | cons a b =>
     cases a
     exact .cons _ _ (ih _ b)
theorem script_of {l:OpenLaw} {n:Nat} (hn:l.most=some n) {P:Params} {h:Heap} {args:List WData} {vals:List Value}
  (hpre:l.row.toRowW.claim.pre args=true) (hwl:WellAll P h vals args) :
  ∃ a vs ns,vals=[Value.ref a]/\args=[WData.list (ns.map WData.int)]/\h.get? a=some { cls:=.type "list",data:=.seq vs.toArray }/\IntsAre vs ns/\ns.length<=n:=by
 have hsh:WShape.hasAll [] args [.list .int]=true:=(pre_splitW hpre).1
 have hc:l.pre.holds [] { args:=args } = true:=(pre_splitW hpre).2
 obtain ⟨d,r,rfl,h1,h2⟩:=hasAllW_cons hsh
 obtain rfl:=hasAllW_nil h2
 obtain ⟨xs,rfl,h3⟩:=hasW_list h1
 obtain ⟨ns,rfl⟩:=items_int h3
 have hlen:ns.length<=n:=by
  unfold OpenLaw.pre at hc
  have h4:(WTm.not (.lt (.lit (.int (n:Int))) (.len (.arg 0)))).holds [] { args:=[.list (ns.map .int)] } = true:=by
   have h4:=(holds_andW hc).1
   rw [hn] at h4
   exact h4
  have h5:=condW_of h4 (w_not (w_lt w_lit (w_len_list (w_arg rfl))))
  rw [List.length_map] at h5
  refine Nat.le_of_not_lt fun q=>?_
  have q':(n:Int) < ((ns.length:Nat):Int):=by omega
  first
   | (rw [decide_eq_true q'] at h5; exact absurd h5 (by decide))
   | (simp at h5; omega)
 cases hwl with
 | cons w1 w2 =>
   cases w2
   cases w1 with
   | list ho hall=>exact ⟨_,_,ns,rfl,rfl,ho,ints_of_wellAll ns _ hall,hlen⟩
theorem post_true (l:OpenLaw) (args:List WData):l.row.toRowW.claim.post args (.bool true) args=true :=
 postW_of (r:=l.row.toRowW) (X:=(true == true))
  (show WShape.has [] (.bool true) .bool=true by first | rfl | decide | simp [WShape.has,WShape.arms,WShape.armsAll])
  (show (WTm.eq .res (.lit (.bool true))).value [] { args:=args,res:=some (.bool true),after:=args } = some (.bool (true == true)) from w_eq_bool (w_res rfl) w_lit) rfl
section
variable {prog:Program} {w:World} {A:Around} {E:Value->Shared->Prop} {s:Shared} {K:Frag}
end
end Att
namespace L2
open PySem PySem.Spec PyProof.Rows
theorem vals_ints:∀ {vs:List Value} {ns:List Int},IntsAre vs ns->Vals (ns.map V.int) vs
 | _,_,.nil=>.nil
 | _,_,.cons n t h=>.cons ⟨t,rfl⟩ (vals_ints h)
end L2
namespace L2
open PySem PySem.Spec PyProof.Rows
def qG (s:Stmt):Arguments:=match s with
 | .FunctionDef _ a _ _ _ _ _ _ _ _=>a
 | _=>{ posonlyargs:=[],args:=[],vararg:=none,kwonlyargs:=[],kw_defaults:=[],kwarg:=none,defaults:=[] }
def zJ (s:Stmt):List Stmt:=match s with
 | .FunctionDef _ _ b _ _ _ _ _ _ _=>b
 | _=>[]
def zC (s:Stmt):Scope:=match s with
 | .FunctionDef _ _ _ _ _ _ sc _ _ _=>sc
 | _=>{ kind:=.function,names:=[],isGenerator:=false,isCoroutine:=false }
abbrev CX0:CXT:=fun _ _ _ _ _ _=>False
abbrev E0:XK:=fun _ _ _=>False
theorem pass0 {X:Cx} : Passes CX0 X E0:=fun _ _ _ _ _ _ _ h=>h.elim
structure Fun (K:PySem.W.Frag) (x qual:Str) (st:Stmt) (f:Addr) (fd:FuncData):Prop where
 ex:∃ (oc:Value) (od:Option Addr) (kV doc pm:Value) (an:Option Addr) (cdv ct:Value) (osl:Array (Option Value)),
  fd=PySem.W.fnOf x qual (qG st) (zJ st) (zC st) .none kV doc pm an cdv ct/\K.lookup f=some ⟨oc,od,.func fd,osl⟩/\PySem.W.codeIn K cdv qual=true
 kp:PySem.W.keepIn K (.ref f)=true
section
variable {P:Program} {w:World} {K:PySem.W.Frag} {mg:Str->Option Value} {base:Heap}
theorem Fun.ok {x qual:Str} {st:Stmt} {f:Addr} {fd:FuncData} {N ps:List Str} {k:Nat} {sp:Sp} (F:Fun K x qual st f fd) (S:FnScope N ps (zC st)) (len:∀ vs H Q E,sp vs H Q E->vs.length=ps.length)
  (hbody:∀ (cdv:Value) (A:Around) (outer:List Env) (s:Shared) (H:Hp) (vs:List V) (Q:VK) (E:XK),Room k (A.deeper (envOfC qual (zC st) s.heap.objs.size f cdv))->sp vs H Q E →
    ∃ t,PSs (cxOf CX0 P w K mg base N qual (zC st) f cdv A outer s H E).nox (zJ st) t/\t { nx:=fun _ H'=>Q .non H',rt:=Q } (start N vs) H):FnOk P w K mg base CX0 (k+1) f fd ps sp:=by
 obtain ⟨oc,od,kV,doc,pm,an,cdv,ct,osl,rfl,lk,hcd⟩:=F.ex
 refine fn_of lk hcd S len fun A outer s H vs Q E hr hsp=>?_
 obtain ⟨t,h,q⟩:=hbody cdv A outer s H vs Q E hr hsp
 exact ⟨t,h.nox,q⟩
theorem Fun.binds {x qual:Str} {st:Stmt} {f:Addr} {fd:FuncData} {ps:List Str} (F:Fun K x qual st f fd)
  (h:∀ (kV doc pm:Value) (an:Option Addr) (cdv ct:Value) (us:List Value),us.length=ps.length->bindArgs (PySem.W.fnOf x qual (qG st) (zJ st) (zC st) .none kV doc pm an cdv ct) ⟨us,[]⟩=pure (ps.zip us)):Binds K fd ps []:=by
 obtain ⟨oc,od,kV,doc,pm,an,cdv,ct,osl,rfl,lk,hcd⟩:=F.ex
 exact .all (h kV doc pm an cdv ct)
theorem qX {x qual:Str} {st:Stmt} {f:Addr} {oc:Value} {od an:Option Addr} {osl:Array (Option Value)} {kV doc pm cdv ct:Value} (l:K.lookup f=some ⟨oc,od,.func (PySem.W.fnOf x qual (qG st) (zJ st) (zC st) .none kV doc pm an cdv ct),osl⟩)
  (c:PySem.W.codeIn K cdv qual=true) (k:PySem.W.keepIn K (.ref f)=true):Fun K x qual st f (PySem.W.fnOf x qual (qG st) (zJ st) (zC st) .none kV doc pm an cdv ct):=⟨⟨oc,od,kV,doc,pm,an,cdv,ct,osl,rfl,l,c⟩,k⟩
end
section
variable {X:Cx}
end
theorem iteF {A B:Prop} (h:B):if false=true then A else B:=by
 rw [if_neg Bool.false_ne_true]
 exact h
theorem iteT {A B:Prop} (h:A):if true=true then A else B:=by
 rw [if_pos rfl]
 exact h
def Same (H H':Hp):Prop:=∀ b o,H b=some o->H' b=some o
theorem Same.refl (H:Hp):Same H H:=fun _ _ h=>h
theorem Same.trans {H H1 H2:Hp} (a:Same H H1) (b:Same H1 H2):Same H H2:=fun c o h=>b c o (a c o h)
theorem Same.free {H H':Hp} (e:Same H H') {l:Addr} (h:H' l=Option.none):H l=Option.none:=by
 cases q:H l with
 | none=>rfl
 | some o =>
   rw [e l o q] at h
   cases h
end L2
namespace L2
open PySem PySem.Spec PyProof.Rows
section
variable {X:Cx}
end
section
variable {κ : Type} [DecidableEq κ]
end
end L2
namespace L2
open PySem PySem.Spec PyProof.Rows
def jG (env:Env):List (Str×NameKind)->List (Str×Addr)->List (Str×Addr)
 | [],cs=>cs
 | (n,k)::r,cs=>jG env r (if k == NameKind.free then (match env.cells.lookup n with | some c=>(n,c)::cs | none=>cs) else cs)
theorem xC {scope:Scope} {env:Env} (h:∀ y∈scope.names,y.2=NameKind.free->∃ c,env.cells.lookup y.1=some c):closureFor scope env=pure (jG env scope.names []):=by
 simp only [closureFor]
 generalize ([]:List (Str×Addr))=cs
 revert h cs
 generalize scope.names=l
 intro h
 induction l with
 | nil=>intro cs; rfl
 | cons y r ih =>
   intro cs
   obtain ⟨n,k⟩:=y
   have ihr:=ih fun z hz=>h z (List.mem_cons_of_mem _ hz)
   simp only [List.forIn_cons,jG]
   by_cases hk:k=NameKind.free
   · obtain ⟨c, hc⟩ := h (n, k) List.mem_cons_self hk
     have hc':env.cells.lookup n=some c:=hc
     have hcell:cellOf env n=pure c:=by unfold cellOf; rw [hc']
     subst hk
     simp only [hcell,hc',beq_self_eq_true,if_true,pure_bind,bind_pure_comp,map_pure,bind_assoc]
     first
      | exact ihr _
      | simpa using ihr _
   · have hb : (k == NameKind.free) = false := by simpa using hk
     simp only [hb,Bool.false_eq_true,if_false,pure_bind]
     first
      | exact ihr _
      | simpa using ihr _
theorem closL_from {env:Env} : ∀ (l:List (Str×NameKind)) (cs:List (Str×Addr)),(∀ x c,cs.lookup x=some c->env.cells.lookup x=some c)->∀ x c,(jG env l cs).lookup x=some c->env.cells.lookup x=some c
 | [],_,h=>h
 | (n, k) :: r, cs, h => by
   unfold jG
   refine closL_from r _ fun x c e=>?_
   split at e
   · cases hc : env.cells.lookup n with
     | none=>rw [hc] at e; exact h x c e
     | some c' =>
       rw [hc] at e
       simp only [List.lookup_cons] at e
       by_cases hx:x == n
       · rw [hx] at e
         cases e
         rw [beq_iff_eq] at hx
         rw [hx]
         exact hc
       · have hx' : (x == n) = false := by simpa using hx
         rw [hx'] at e
         exact h x c e
   · exact h x c e
theorem closL_keep {env:Env} : ∀ (l:List (Str×NameKind)) (cs:List (Str×Addr)) (x:Str),(∃ c,cs.lookup x=some c)->∃ c,(jG env l cs).lookup x=some c
 | [],_,_,h=>h
 | (n, k) :: r, cs, x, h => by
   unfold jG
   refine closL_keep r _ x ?_
   split
   · cases hc : env.cells.lookup n with
     | none=>exact h
     | some c' =>
       simp only [List.lookup_cons]
       by_cases hx:x == n
       · rw [hx]; exact ⟨_,rfl⟩
       · have hx' : (x == n) = false := by simpa using hx
         rw [hx']; exact h
   · exact h
theorem vX {env:Env} : ∀ (l:List (Str×NameKind)) (cs:List (Str×Addr)) (x:Str) (c:Addr),(x,NameKind.free)∈l->env.cells.lookup x=some c->∃ c,(jG env l cs).lookup x=some c
 | [],_,_,_,h,_=>nomatch h
 | (n, k) :: r, cs, x, c, h, hc => by
   unfold jG
   rcases List.mem_cons.mp h with e | e
   · cases e
     refine closL_keep r _ _ ?_
     simp only [beq_self_eq_true,if_true,hc,List.lookup_cons]
     exact ⟨_,rfl⟩
   · exact vX r _ x c e hc
theorem lookup_relabel_free {env:Env} : ∀ {names:List (Str×NameKind)} {x:Str},names.lookup x=some NameKind.free →
  (names.map fun (n,k)=>if (k == NameKind.free && env.scope.kind == .function && env.kindOf n == some .cell) then (n,NameKind.cell) else (n,k)).lookup x=some NameKind.cell ∨
  (names.map fun (n,k)=>if (k == NameKind.free && env.scope.kind == .function && env.kindOf n == some .cell) then (n,NameKind.cell) else (n,k)).lookup x=some NameKind.free
 | [],_,h=>by simp at h
 | (n, k) :: r, x, h => by
   have ih:=@lookup_relabel_free env r x
   simp only [List.map_cons]
   cases hx:x == n with
   | true =>
     simp only [List.lookup_cons,hx] at h
     cases h
     by_cases hc:(NameKind.free == NameKind.free && env.scope.kind == .function && env.kindOf n == some .cell)=true
     · rw [if_pos hc]; left; simp only [List.lookup_cons,hx]
     · rw [if_neg hc]; right; simp only [List.lookup_cons,hx]
   | false =>
     simp only [List.lookup_cons,hx] at h
     by_cases hc:(k == NameKind.free && env.scope.kind == .function && env.kindOf n == some .cell)=true
     · rw [if_pos hc]; simp only [List.lookup_cons,hx]; exact ih h
     · rw [if_neg hc]; simp only [List.lookup_cons,hx]; exact ih h
theorem wV {env:Env} : ∀ {names:List (Str×NameKind)} {x:Str} {k':NameKind},(∀ y∈names,y.2≠NameKind.cell) →
  (names.map fun (n,k)=>if (k == NameKind.free && env.scope.kind == .function && env.kindOf n == some .cell) then (n,NameKind.cell) else (n,k)).lookup x=some k'->(k'=NameKind.cell \/ k'=NameKind.free)->(x,NameKind.free)∈names
 | [],_,_,_,h,_=>by simp at h
 | (n, k) :: r, x, k', hn, h, hk => by
   have ih:=@wV env r x k' fun y hy=>hn y (List.mem_cons_of_mem _ hy)
   simp only [List.map_cons] at h
   cases hx:x == n with
   | true =>
     have ex:x=n:=by simpa using hx
     by_cases hc:(k == NameKind.free && env.scope.kind == .function && env.kindOf n == some .cell)=true
     · have:k=NameKind.free:=by
        simp only [Bool.and_eq_true,beq_iff_eq] at hc
        exact hc.1.1
       subst this; subst ex
       exact List.mem_cons_self
     · rw [if_neg hc] at h
       simp only [List.lookup_cons,hx] at h
       cases h
       rcases hk with hk | hk
       · exact absurd hk (hn (n,k) List.mem_cons_self)
       · subst hk; subst ex; exact List.mem_cons_self
   | false =>
     by_cases hc:(k == NameKind.free && env.scope.kind == .function && env.kindOf n == some .cell)=true
     · rw [if_pos hc] at h; simp only [List.lookup_cons,hx] at h; exact List.mem_cons_of_mem _ (ih h hk)
     · rw [if_neg hc] at h; simp only [List.lookup_cons,hx] at h; exact List.mem_cons_of_mem _ (ih h hk)
section
variable {X:Cx}
structure CI where
 C:Addr
 s:Shared
 H:Hp
 ex:List Addr
def jY (X:Cx) (scope:Scope) (NY:List Str) (c:CI):Cx where
 prog:=X.prog
 w:=X.w
 K:=X.K
 mg:=X.mg
 base:=X.base
 A:=X.A
 N:=NY
 s₀:=c.s
 H₀:=c.H
 env:=compEnvC scope (jG X.env scope.names []) c.C X.env
 outer:=X.stack
 stack:=X.stack
 ex:=c.ex
 fn:=fun _=>false
 calm:=X.calm
 pn:=[]
 xe:=fun _ _=>False
theorem Inv.adopt {pins:List (Addr×Obj)} {σ : St} {H:Hp} {s:Shared} {a:Addr} {o:HO} (I:Inv X pins σ H s) (hn:H a=none) (young:X.s₀.heap.objs.size<=a) (hL:a≠X.env.locals)
  (hc:∀ x c,X.env.cells.lookup x=some c->c≠a) (hp:∀ p∈X.pn++pins,p.1≠a) (new:ObjOk X.prog X.w (upd H a o) s.heap a o):Inv X pins σ (upd H a o) s:=by
 have ne:∀ {b:Addr} {u:HO},H b=some u->b≠a:=fun e z=>by rw [z,hn] at e; cases e
 refine ⟨I.ok,I.os,I.bare,⟨I.base.keep,I.base.slot,fun b ob q n hx=>?_,I.base.there,fun b xs q=>?_,fun b ob u q=>?_,fun b ps q=>?_⟩,I.loc,I.cell,?_,fun x c e=>?_,fun p hpm=>?_,fun b u e=>?_,I.len⟩
 · rw [qC (Nat.ne_of_lt (Nat.lt_of_lt_of_le (Heap.lt_size q) young))]
   exact I.base.free b ob q n hx
 · have := I.base.tups b xs q
   rw [qC (ne this)]; exact this
 · have := I.base.frzs b ob u q
   rw [qC (ne this)]; exact this
 · have := I.base.tbls b ps q
   rw [qC (ne this)]; exact this
 · rw [qC (Ne.symm hL)]; exact I.free
 · have := I.freeC x c e
   unfold FreeC at this ⊢
   rw [qC (hc x c e)]; exact this
 · obtain ⟨h1, h2, h3⟩ := I.pin p hpm
   exact ⟨h1,by rw [qC (hp p hpm)]; exact h2,h3⟩
 · by_cases hb : b = a
   · subst hb; rw [qS] at e; cases e; exact new
   · rw [qC hb] at e
     exact (I.hok b u e).stay (fun c v _ q=>q) (fun c q=>by rw [qC (ne q)]; exact q) fun c xs q=>by rw [qC (ne q)]; exact q
def PF (X:Cx) (ifs:List Expr) (t:TT):Prop :=
 ∀ (pins:List (Addr×Obj)) (s:Shared) (σ : St) (H:Hp) (Q:Bool->Hp->Prop),Inv X pins σ H s->t σ H Q →
  wpAny (model X.prog X.w) X.A (forIn ifs true fun c r=>if r=true then do let ok <- isTrue c X.env (eval c X.env); pure (ForInStep.yield ok) else pure (ForInStep.yield r)) (TP X pins σ Q) X.xe s
def tNoIf:TT:=fun _ H Q=>Q true H
theorem pf_nil:PF X [] tNoIf:=fun _ _ _ H _ I h=>wpAny_tests_nil ⟨H,I,h⟩
def slotsY (mp:List (Option Nat)) (σ : St):St:=mp.map fun o=>o.bind fun j=>σ[j]?.join
def tCompK (J:It) (mp:List (Option Nat)) (g:CI->TG) (tt:CI->TT) (te:CI->TE) (σ : St) (H1:Hp) (R:List V->Hp->Prop):Prop :=
 ∀ c:CI,∃ W:Nat->Nat->List V->Hp->Prop,(∃ m,W 0 m [] H1)/\∀ i m ys H,W i m ys H →
  (J.stop i H/\R ys H) ∨
  (J.go i H/\ys.length < sizeLine/\∀ x H',J.yld i H x H'->g c x (slotsY mp σ) H' fun σ2 H2=>tt c σ2 H2 fun b H3 =>
    if b=true then te c σ2 H3 fun y H4=>∃ m',m' < m/\W (i+1) m' (ys++[y]) H4 else ∃ m',m' < m/\W (i+1) m' ys H3)
def tComp (wi:TI) (mp:List (Option Nat)) (g:CI->TG) (tt:CI->TT) (te:CI->TE):TE:=fun σ H Q=>wi σ H fun J H1 =>
 tCompK J mp g tt te σ H1 fun ys H'=>ys.length<=sizeLine/\∀ p,H' p=none->Q (.ref p) (upd H' p (.lst ys))
structure CompScope (X:Cx) (scope:Scope) (NY:List Str) (mp:List (Option Nat)):Prop where
 kind:scope.kind = .function
 nocell:∀ y∈scope.names,y.2≠.cell
 names:∀ y∈scope.names,y.2 = .local->scope.names.lookup y.1=some .local
 free:∀ y∈scope.names,y.2 = .free->(X.env.kindOf y.1=some .cell \/ X.env.kindOf y.1=some .free)
 len:mp.length=NY.length
 map:∀ (i:Nat) (x:Str) (j:Nat),NY[i]? = some x->mp[i]? = some (some j)->X.N[j]? = some x/\scope.names.lookup x=some .free
theorem compLoop_own {prog:Program} {w:World} {A:Around} {R:Result->Shared->Prop} {s:Shared} {elt target iter:Expr} {ifs:List Expr} {scope:Scope} {pos:Pos} {it acc:Value} {env:Env} (I:Nat->Shared->Prop)
  (turn:∀ n s,I n s->wpAny (model prog w) A (pyNext it) (fun r s₁=>match r with
    | none=>R (.ok .next) s₁
    | some v=>wpAny (model prog w) A (letOwnedTupleGo target it v) (fun _ s₁'=>wpAny (model prog w) A (assign target env v) (fun _ s₂ =>
       wpAny (model prog w) A (forIn ifs true fun c r=>if r=true then do let ok <- isTrue c env (eval c env); pure (ForInStep.yield ok) else pure (ForInStep.yield r)) (fun ok s₃ =>
        if ok=true then wpAny (model prog w) A (eval elt env) (fun x s₄ =>
         wpAny (model prog w) A (call (.builtin "list.append") [acc,x]) (fun _ s₅=>∃ m,m < n/\I m s₅) (fun _ _=>False) s₄) (fun _ _=>False) s₃
        else ∃ m,m < n/\I m s₃) (fun _ _=>False) s₂) (fun _ _=>False) s₁') (fun _ _=>False) s₁) (fun _ _=>False) s)
  (n:Nat) (h:I n s) :
  codeAny (model prog w) A (.compLoop (.ListComp elt [⟨target,iter,ifs,0⟩] scope pos) 0 it acc env) R s:=by
 refine codeAny_loop rfl I (fun n s hI=>?_) n h
 show wpAny _ A ((compTurn (.ListComp elt [⟨target,iter,ifs,0⟩] scope pos) 0 it acc env).onRaise (fun x=>do noteFrame x env; theTreesLotGoes x)) _ _ s
 refine wpAny_noted ?_
 rw [compTurn_list]
 refine wpAny_bind (wpAny_standAt (wpAny_bind (wpAny_mono (turn n s hI) (fun r s₁ h₁=>?_) fun _ _ h'=>h'.elim)))
 cases r with
 | none=>exact wpAny_pure h₁
 | some v =>
   refine wpAny_bind (wpAny_mono h₁ (fun _ s₁' h₁'=>?_) fun _ _ h'=>h'.elim)
   refine wpAny_bind (wpAny_mono h₁' (fun _ s₂ h₂=>wpAny_bind (wpAny_mono h₂ (fun ok s₃ h₃=>?_) fun _ _ h'=>h'.elim)) fun _ _ h'=>h'.elim)
   cases ok with
   | false=>exact wpAny_pure ⟨rfl,h₃⟩
   | true =>
     exact wpAny_bind (wpAny_bind (wpAny_mono h₃ (fun x s₄ h₄=>wpAny_bind (wpAny_mono h₄ (fun _ s₅ h₅=>wpAny_pure (wpAny_pure ⟨rfl,h₅⟩)) fun _ _ h'=>h'.elim)) fun _ _ h'=>h'.elim))
theorem comp_block {E:Value->Shared->Prop} {scope:Scope} {NY:List Str} {mp:List (Option Nat)} {tg iter elt:Expr} {ifs:List Expr} {pos:Pos} {g:CI->TG} {tt:CI->TT} {te:CI->TE} {pins:List (Addr×Obj)} {σ : St} {H:Hp} {s₂ : Shared}
  {J:It} {fp:List Addr} {it:Addr} {tn:Nat->Heap->Prop} {R:List V->Hp->Prop} {RR:Value->Addr->Result->Shared->Prop}
  (S:CompScope X scope NY mp) (hc:X.calm=true) (I:Inv X pins σ H s₂) (T:Turn X.prog X.w X.K tg J fp it tn) (st:tn 0 s₂.heap) (hf:∀ b∈fp,FpOk X pins H b)
  (hg:∀ c,PG (jY X scope NY c) tg (g c)) (ht:∀ c,PF (jY X scope NY c) ifs (tt c)) (he:∀ c,PE (jY X scope NY c) elt (te c))
  (h:tCompK J mp g tt te σ H R)
  (fin:∀ (s':Shared) (C:Addr) (m:Str->Option Value) (ys:List V) (H':Hp),R ys H'->H' s₂.heap.objs.size=none->H' C=none->C≠s₂.heap.objs.size->s'.heap.Ns C m →
    (ys.length<=sizeLine->Inv X pins σ (upd H' s₂.heap.objs.size (.lst ys)) s') →
    (C≠X.env.locals/\X.s₀.heap.objs.size<=C/\(∀ x c,X.env.cells.lookup x=some c->c≠C)/\∀ p∈X.pn++pins,p.1≠C)->RR (.ref s₂.heap.objs.size) C (.ok .next) s') :
  wpAny (model X.prog X.w) X.A (newList []) (fun acc s₃=>wpAny (model X.prog X.w) X.A (newFunctionEnv scope X.env.globals (jG X.env scope.names []) [] X.env.qual none .none (some X.env)) (fun cenv s₄ =>
   codeAny (model X.prog X.w) X.A (.compStart (.ListComp elt [⟨tg,iter,ifs,0⟩] scope pos) 0 (.ref it) acc { cenv with scope:=relabel scope X.env }) (RR acc cenv.locals) s₄) E s₃) E s₂:=by
 refine wpAny_newObj_type (wpAny_newFunctionEnv S.nocell (by intro y hy; simp at hy) (fun h₁ hns₁ hsb₁=>?_) S.kind)
 dsimp only at hns₁ hsb₁ ⊢
 generalize hH2:s₂.heap.push { cls:=.type "list",dict:=none,data:=.seq ([]:List Value).toArray } = H2 at hns₁ hsb₁ ⊢
 have hC:(H2.objs.size:Nat)=s₂.heap.objs.size+1:=by rw [<- hH2,Heap.size_push]
 generalize hDd:s₂.heap.objs.size=D at fin hC ⊢
 generalize hCC:H2.objs.size=C at hns₁ hsb₁ hC ⊢
 have hC:(C:Nat)=(D:Nat)+1:=hC
 have hDC:D≠C:=fun z=>absurd (z.trans hC) (Nat.ne_of_lt (Nat.lt_succ_self _))
 have ltC:∀ {b:Addr},b < D->b≠C:=fun {b} h=>Nat.ne_of_lt (Nat.lt_of_lt_of_eq (Nat.lt_succ_of_lt h) hC.symm)
 have ltD:∀ {b:Addr},b < D->b≠D:=fun {b} h=>Nat.ne_of_lt h
 have hlt:∀ {b:Addr} {o:Obj},s₂.heap.get? b=some o->(b:Nat) < D:=fun e=>hDd ▸ Heap.lt_size e
 have k2:∀ b o,s₂.heap.get? b=some o->H2.get? b=some o:=fun b o e=>hH2 ▸ Heap.get?_push_of_some _ e
 have k1:∀ b o,H2.get? b=some o->h₁.get? b=some o:=fun b o e=>by
  have hb:b < C:=hCC ▸ Heap.lt_size e
  exact hsb₁.extBut b o (Nat.ne_of_lt hb) (Heap.get?_push_of_some _ e)
 have fr:∀ a,D<=a->H a=none:=fun a ha=>I.hok.fresh (hDd ▸ ha)
 have accP:h₁.PlainList D #[]:=⟨_,k1 _ _ (by rw [<- hH2,<- hDd]; exact Heap.get?_push_size _ rfl)⟩
 have fpo:∀ b∈fp,(b:Nat) < D:=fun b hb=>let ⟨o,e,_⟩:=T.obj 0 _ st b hb; hlt e
 have clF:∀ x c,(jG X.env scope.names []).lookup x=some c->X.env.cells.lookup x=some c:=closL_from _ _ fun x c e=>nomatch e
 have cellLt:∀ x c,X.env.cells.lookup x=some c->(c:Nat) < D:=fun x c e=>by
  obtain ⟨v,o,ho,_⟩:=I.cell x c e
  exact hlt ho
 have locLt:(X.env.locals:Nat) < D:=hDd ▸ I.lt
 have stkLt:∀ b∈frs X.stack,(b:Nat) < D:=fun b hb=>by
  obtain ⟨_,o,ho,_⟩:=I.stack.mem hb
  exact hlt ho
 have fpStk:∀ b∈fp,b ∉ frs X.stack:=fun b hb z=>by
  obtain ⟨_,f1,f2,_⟩:=hf b hb
  rcases List.mem_cons.mp (I.stkSub b z) with q | q
  · exact f1 q
  · exact f2 q
 have pinLt:∀ p∈X.pn++pins,(p.1:Nat) < D:=fun p hp=>hlt (I.pin p hp).1
 have pinStk:∀ p∈X.pn++pins,p.1 ∉ frs X.stack:=fun p hp z=>by
  obtain ⟨_,_,f1,f2,_⟩:=I.pin p hp
  rcases List.mem_cons.mp (I.stkSub _ z) with q | q
  · exact f1 q
  · exact f2 q
 let Y:Cx:=jY X scope NY ⟨C,{ s₂ with heap:=H2 },H,D::fp⟩
 obtain ⟨W,⟨m0,w0⟩,turn⟩:=h ⟨C,{ s₂ with heap:=H2 },H,D::fp⟩
 have okY:Y.Ok:=by
  refine ⟨I.ok.mod,S.kind,I.ok.glob,I.ok.blt,Nat.le_of_eq hCC,fun x y c h1 h2=>I.ok.inj x y c (clF _ _ h1) (clF _ _ h2),fun x hx=>?_,fun x c hfn=>absurd hfn (by intro z; cases z),I.ok.hd,I.ok.frames,.inl rfl,fun b hb=>?_,fun b o e=>?_,?_,fun b o e=>?_,fun b hb=>?_,?_,I.stkFree⟩
  · have hx':(x,NameKind.free)∈scope.names:=by
     rcases hx with hx | hx
     · exact wV S.nocell hx (.inl rfl)
     · exact wV S.nocell hx (.inr rfl)
    obtain ⟨c,e⟩:=I.ok.has x (S.free _ hx' rfl)
    exact vX _ _ x c hx' e
  · rcases List.mem_cons.mp hb with z | z
    · subst z
      exact ⟨hDC,fun x c e q=>absurd (cellLt x c (clF x c e)) (by rw [q]; exact Nat.lt_irrefl _)⟩
    · have := fpo b z
      exact ⟨ltC this,fun x c e q=>(hf b z).2.2.2.2.1 x c (clF x c e) q⟩
  · have := I.bs b o e
    exact ⟨k2 b o this.1,this.2⟩
  · refine ⟨?_, I.tabsH⟩
    show (X.base.objs.size:Nat)<=H2.objs.size
    have h1:(X.base.objs.size:Nat)<=s₂.heap.objs.size:=Nat.le_trans I.ok.bsz.1 I.sz
    have h2:(H2.objs.size:Nat)=C:=hCC
    have h3:(s₂.heap.objs.size:Nat)=D:=hDd
    omega
  · have hb := I.bs b o e
    have hb':=hlt hb.1
    intro z
    rcases List.mem_cons.mp z with z | z
    · rw [z] at hb'; exact Nat.lt_irrefl _ hb'
    · rcases (hf b z).2.2.2.1 with q | q
      · exact I.ok.noex b o e q
      · exact absurd (Nat.lt_of_lt_of_le (Heap.lt_size (I.ok.bs b o e).1) q) (Nat.lt_irrefl _)
  · rcases List.mem_cons.mp hb with z | z
    · subst z
      exact fun q=>absurd (stkLt _ q) (Nat.lt_irrefl _)
    · exact fpStk b z
  · exact I.stack.of_keeps fun b o e _=>⟨o,k2 b o e,rfl⟩
 have capt:∀ (i:Nat) (x:Str) (v:V),NY[i]? = some x->(slotsY mp σ)[i]? = some (some v)->∃ u c,RelV v u/\(Y.env.kindOf x=some .cell \/ Y.env.kindOf x=some .free)/\Y.env.cells.lookup x=some c/\H2.IsCell c (some u)/\(H c=none \/ ∃ o u,H c=some (.frz o u))/\c ∉ D::fp:=by
  intro i x v e1 e2
  have e2':(mp[i]?.map fun o=>o.bind fun j=>σ[j]?.join)=some (some v):=by
   unfold slotsY at e2
   rwa [List.getElem?_map] at e2
  cases hm:mp[i]? with
  | none=>rw [hm] at e2'; cases e2'
  | some o =>
    rw [hm] at e2'
    cases o with
    | none=>simp at e2'
    | some j =>
      simp only [Option.map_some,Option.bind_some,Option.some.injEq] at e2'
      have e4 : σ[j]? = some (some v):=by
       cases hs : σ[j]? with
       | none=>rw [hs] at e2'; cases e2'
       | some q=>rw [hs] at e2'; simp at e2'; rw [e2']
      obtain ⟨hXj,hfr⟩:=S.map i x j e1 hm
      have hmem:(x,NameKind.free)∈scope.names:=PySem.mem_of_lookup hfr
      have hk:=S.free _ hmem rfl
      obtain ⟨m,hn,hl⟩:=I.loc
      obtain ⟨u,ru,l⟩:=hl j x v hXj e4 (hk.elim (fun z=>.inr (.inl z)) fun z=>.inr (.inr z))
      have hlook:∃ c,X.env.cells.lookup x=some c/\s₂.heap.IsCell c (some u):=by
       rcases l with ⟨kl,_⟩ | ⟨_,c,ec,hcell⟩
       · rcases hk with q | q
         · exact absurd (kl.symm.trans q) (by intro z; cases z)
         · exact absurd (kl.symm.trans q) (by intro z; cases z)
       · exact ⟨c,ec,hcell⟩
      obtain ⟨c,ec,oc,hoc,hocd⟩:=hlook
      obtain ⟨c',ec'⟩:=vX (env:=X.env) scope.names [] x c hmem ec
      have:c'=c:=Option.some.inj ((clF x c' ec').symm.trans ec)
      subst this
      refine ⟨u,c',ru,lookup_relabel_free hfr,ec',⟨oc,k2 _ _ hoc,hocd⟩,(I.freeC x c' ec).imp id And.right,fun z=>?_⟩
      rcases List.mem_cons.mp z with z | z
      · have:=cellLt x c' ec; rw [z] at this; exact Nat.lt_irrefl _ this
      · exact (hf c' z).2.2.2.2.1 x c' ec rfl
 have lenY:(slotsY mp σ).length=NY.length:=by
  unfold slotsY
  rw [List.length_map]
  exact S.len
 have I0:∀ tk,Inv Y [] (slotsY mp σ) H { s₂ with heap:=h₁,toks:=tk }:=by
  intro tk
  refine ⟨okY,rfl,I.bare,Un.kept k1,⟨_,hns₁,fun i x v e1 e2 e3=>?_⟩,fun x c e=>?_,fr C (by show (D:Nat)<=C; omega),fun x c e=>(I.freeC x c (clF x c e)).imp id fun z=>⟨rfl,z.2⟩,fun p hp=>absurd (show p∈([]:List (Addr×Obj)) from hp) (by simp),I.hok.kept fun b o e=>k1 b o (k2 b o e),lenY⟩
  · obtain ⟨u, c, ru, hk, ec, ⟨oc, hoc, hocd⟩, _⟩ := capt i x v e1 e2
    exact ⟨u,ru,.inr ⟨hk,c,ec,oc,k1 _ _ hoc,hocd⟩⟩
  · obtain ⟨v, o, ho, hd⟩ := I.cell x c (clF x c e)
    exact ⟨v,o,k1 _ _ (k2 _ _ ho),hd⟩
 have stat:∀ {H':Hp} {pl:List (Addr×Obj)},(∀ p∈pl,p.1 ∉ fp)->(∀ b∈fp,H' b=none)->∀ b∈fp,FpOk Y pl H' b:=fun hpl hn b hb=>by
  have hbD:=fpo b hb
  refine ⟨hn b hb,ltC hbD,fpStk b hb,.inl (List.mem_cons_of_mem _ hb),fun x c e=>(hf b hb).2.2.2.2.1 x c (clF x c e),fun p hp z=>hpl p (show p∈_ from hp) (z ▸ hb)⟩
 have dN:D ∉ Y.fs:=fun q=>absurd (stkLt _ q) (Nat.lt_irrefl _)
 have dFp:D ∉ fp:=fun q=>absurd (fpo _ q) (Nat.lt_irrefl _)
 have plD:∀ (o:Obj),∀ p∈[(D,o)],p.1 ∉ fp:=fun o p hp=>by
  have e:p=(D,o):=by simpa using hp
  rw [e]; exact dFp
 have keyC:∀ (tk:Nat) (it':Value),it' = .ref it->codeAny (model X.prog X.w) X.A (.compLoop (.ListComp elt [⟨tg,iter,ifs,0⟩] scope pos) 0 it' (.ref D) Y.env) (RR (.ref D) C) { s₂ with heap:=h₁,toks:=tk }:=by
  rintro tk _ rfl
  refine compLoop_own (fun n s'=>∃ i ys H' its,Inv Y [] (slotsY mp σ) H' s'/\tn i s'.heap/\(∀ b∈fp,H' b=none)/\H' D=none/\s'.heap.PlainList D its/\Vals ys its.toList/\W i n ys H') ?_ m0
   ⟨0,[],H,#[],I0 tk,T.keep 0 _ _ st fun b _ o e=>k1 b o (k2 b o e),fun b hb=>(hf b hb).1,fr D (Nat.le_refl _),accP,.nil,w0⟩
  rintro n s3 ⟨i,ys,H3,its,I3,st3,fr3,d3,⟨kk,pl3⟩,rv3,w3⟩
  have I3':Inv Y [(D,{ cls:=.type "list",data:=.seq its kk })] (slotsY mp σ) H3 s3:=I3.pins_of fun p hp=>by
   have e:p=(D,{ cls:=.type "list",data:=.seq its kk }):=by simpa using hp
   subst e
   exact ⟨pl3,d3,hDC,dN,fun v z=>nomatch (show Data.seq its kk=Data.cell v from z)⟩
  rcases turn i n ys H3 w3 with ⟨stop,qn⟩ | ⟨go,hsz,step⟩
  · refine thn (T.done Y rfl rfl rfl hc i _ s3 _ H3 _ I3' (stat (plD _) fr3) st3 stop) fun r s4 ⟨hr, I4⟩ => ?_
    subst hr
    have hD4:s4.heap.get? D=some { cls:=.type "list",data:=.seq its kk }:=(I4.pin (D,_) (by simp)).1
    have u:Un (frs X.stack) fp H H3 s₂.heap s4.heap:=by
     have B:Un (frs X.stack) (D::fp) H H3 H2 s4.heap:=I4.base
     have nx:∀ {b:Addr} {o:Obj},s₂.heap.get? b=some o->b ∉ fp->b ∉ D::fp:=fun e hb z=>by
      rcases List.mem_cons.mp z with z | z
      · have:=hlt e; rw [z] at this; exact Nat.lt_irrefl _ this
      · exact hb z
     exact ⟨fun b o q n hb hx=>B.keep b o (k2 b o q) n hb (nx q hx),fun b o q n hb hx=>B.slot b o (k2 b o q) n hb (nx q hx),fun b o q n hx=>B.free b o (k2 b o q) n (nx q hx),fun b o q hx=>B.there b o (k2 b o q) (nx q hx),B.tups,B.frzs,B.tbls⟩
    have J4:Inv X pins σ H3 s4:=I.call' I4.os u I4.hok I4.bare fun b hb=>⟨(hf b hb).2.2.2.1,(hf b hb).2.1,(hf b hb).2.2.2.2.1,(hf b hb).2.2.2.2.2⟩
    obtain ⟨m4,hn4,_⟩:=I4.loc
    refine fin s4 C m4 ys H3 qn d3 I4.free (Ne.symm hDC) hn4 (fun hz=>?_) ⟨(ltC locLt).symm,?_,fun x c e=>?_,fun p hp=>?_⟩
    · refine J4.adopt d3 ?_ (ltD locLt).symm (fun x c e => ?_) (fun p hp => ?_) ⟨hz, its.toList, kk, rv3, hD4⟩
      · exact hDd ▸ I.sz
      · exact ltD (cellLt x c e)
      · exact ltD (pinLt p hp)
    · have : (X.s₀.heap.objs.size : Nat) <= D := hDd ▸ I.sz
      show (X.s₀.heap.objs.size:Nat)<=C
      omega
    · exact ltC (cellLt x c e)
    · exact ltC (pinLt p hp)
  · refine thn (T.item Y rfl rfl rfl hc i _ s3 _ H3 _ I3' (stat (plD _) fr3) st3 go) fun r s4 ⟨u, hr, h4⟩ => ?_
    subst hr
    refine thn h4 fun _ s5 ⟨x,H5,I5,r5,y5,st5,fr5⟩=>?_
    have I5':=I5.pinned (stat (plD _) fr5) (T.obj _ _ st5)
    refine thn (hg _ _ s5 _ H5 x u _ I5' r5 (step x H5 y5)) fun _ s6 ⟨σ6,H6,I6,q6⟩=>?_
    refine thn (ht _ _ s6 σ6 H6 _ I6 q6) fun ok s7 ⟨H7,I7,q7⟩=>?_
    have back:∀ {s8:Shared} {σ8:St} {H8:Hp},Inv Y ([(D,{ cls:=.type "list",data:=.seq its kk })]++pinsAt fp s5.heap) σ8 H8 s8 →
      tn (i+1) s8.heap/\(∀ b∈fp,H8 b=none)/\H8 D=none/\s8.heap.get? D=some { cls:=.type "list",data:=.seq its kk }:=fun {s8 σ8 H8} I8=>by
     refine ⟨T.keep _ _ _ st5 fun b hb o e=>(I8.pin (b,o) (List.mem_append_right _ (List.mem_append_right _ (xU hb e)))).1,fun b hb=>?_,?_,?_⟩
     · obtain ⟨o, e, d⟩ := T.obj _ _ st5 b hb
       exact (I8.pin (b,o) (List.mem_append_right _ (List.mem_append_right _ (xU hb e)))).2.1
     · exact (I8.pin (D,_) (List.mem_append_right _ (List.mem_append_left _ (List.mem_singleton.mpr rfl)))).2.1
     · exact (I8.pin (D,_) (List.mem_append_right _ (List.mem_append_left _ (List.mem_singleton.mpr rfl)))).1
    have drop:∀ {s8:Shared} {σ8:St} {H8:Hp} {pl:List (Addr×Obj)},Inv Y pl σ8 H8 s8->Inv Y [] (slotsY mp σ) H8 s8:=fun {s8 σ8 H8 pl} I8=>by
     obtain ⟨m8,hn8,_⟩:=I8.loc
     refine ⟨I8.ok,I8.os,I8.bare,I8.base,⟨m8,hn8,fun i x v e1 e2 e3=>?_⟩,I8.cell,I8.free,I8.freeC,fun p hp=>absurd (show p∈([]:List (Addr×Obj)) from hp) (by simp),I8.hok,lenY⟩
     obtain ⟨u,c,ru,hk,ec,⟨oc,hoc,hocd⟩,hn,hx⟩:=capt i x v e1 e2
     rcases hn with hn | ⟨ob,ub,hn⟩
     · obtain ⟨sl, e⟩ := I8.base.any hoc hn hx
       exact ⟨u,ru,.inr ⟨hk,c,ec,_,e,hocd⟩⟩
     · obtain ⟨e1, _⟩ := I.hok c _ hn
       obtain ⟨e2,_⟩:=I8.hok c _ (I8.base.frzs c ob ub hn)
       have e3:=k2 _ _ e1
       rw [hoc] at e3; cases e3
       exact ⟨u,ru,.inr ⟨hk,c,ec,oc,e2,hocd⟩⟩
    cases ok with
    | false =>
      obtain ⟨m',hm',w'⟩:=q7
      obtain ⟨b1,b2,b3,b4⟩:=back I7
      exact ⟨m',hm',i+1,ys,H7,its,drop I7,b1,b2,b3,⟨kk,b4⟩,rv3,w'⟩
    | true =>
      refine thn (he _ _ s7 σ6 H7 _ I7 q7) fun y s8 ⟨yv,H8,I8,r8,q8⟩=>?_
      obtain ⟨b1,b2,b3,b4⟩:=back I8
      have hl:ys.length=its.size:=by simpa using rv3.length
      refine wpAny_list_append_plain (items:=its) ⟨kk,b4⟩ (fun h' pl' sb=>?_) (by omega)
      obtain ⟨m',hm',w'⟩:=q8
      have I9:Inv Y [] (slotsY mp σ) H8 { s8 with heap:=h' }:=(drop I8).turned (it:=D) (t':=s8.toks) (fun b o hb e=>(sb.2 b hb).trans e) b3 hDC (.inl List.mem_cons_self) (fun x c e=>ltD (cellLt x c (clF x c e))) fun p hp=>absurd (show p∈([]:List (Addr×Obj)) from hp) (by simp)
      refine ⟨m',hm',i+1,ys++[yv],H8,its.push y,I9,?_,b2,b3,pl',?_,w'⟩
      · exact T.keep _ _ _ b1 fun b hb o e=>(sb.2 b (fun z=>dFp (z ▸ hb))).trans e
      · rw [Array.toList_push]
        exact rv3.append (.cons r8 .nil)
 exact codeAny_compStart_list (keyC _ _ rfl) (T.self _ 0 _ _ _ (T.keep 0 _ _ st fun b _ o e=>k1 b o (k2 b o e)) (keyC _ _ rfl))
theorem pe_comp {scope:Scope} {NY:List Str} {mp:List (Option Nat)} {tg iter elt:Expr} {ifs:List Expr} {pos:Pos} {wi:TI} {g:CI->TG} {tt:CI->TT} {te:CI->TE}
  (S:CompScope X scope NY mp) (hc:X.calm=true) (hi:PI X tg iter wi)
  (hg:∀ c,PG (jY X scope NY c) tg (g c)) (ht:∀ c,PF (jY X scope NY c) ifs (tt c)) (he:∀ c,PE (jY X scope NY c) elt (te c))
  (hs:∀ x,foldedSetIterable iter X.env x=pure x:=by intro _; rfl):PE X (.ListComp elt [⟨tg,iter,ifs,0⟩] scope pos) (tComp wi mp g tt te):=by
 intro pins s σ H Q I h
 rw [eval_ListComp]
 refine wpAny_comprehension_free (use:=none) rfl hs (xC fun y hy hk=>I.ok.has y.1 (S.free y hy hk)) S.kind S.names (thn (hi pins s σ H _ I h) fun v s1 h1=>thn h1 fun itv s2 h2=>?_)
 obtain ⟨it,fp,tn,J,H2,e,I2,T,st2,f2,hk⟩:=h2
 subst e
 refine comp_block (RR:=fun acc C=>compPost (model X.prog X.w) X.A X.xe none (EP X pins σ Q) acc C) S hc I2 T st2 f2 hg ht he hk ?_
 intro s' C m ys H' q hD hC hCD hn hI hct
 refine ⟨m,hn,fun h' sb=>?_⟩
 have J':=hI q.1
 refine ⟨.ref s2.heap.objs.size,_,J'.turned (it:=C) (t':=s'.toks) (fun b o hb e=>(sb.2 b hb).trans e) (by rw [qC hCD]; exact hC) hct.1 (.inr hct.2.1) hct.2.2.1 hct.2.2.2,rfl,q.2 _ hD⟩
def tCompS (wi:TI) (mp:List (Option Nat)) (g:CI->TG) (tt:CI->TT) (te:CI->TE) (i:Nat):TS:=fun D σ H=>tComp wi mp g tt te σ H fun v H1=>D.nx (σ.set i (some v)) H1
theorem ps_comp {i:Nat} {y:Str} {py:Pos} {scope:Scope} {NY:List Str} {mp:List (Option Nat)} {tg iter elt:Expr} {ifs:List Expr} {pos spos:Pos} {wi:TI} {g:CI->TG} {tt:CI->TT} {te:CI->TE}
  (hN:X.N.Nodup) (hy:X.N[i]? = some y) (hl:X.env.scope.names.lookup y=some .local)
  (hsw:swapsWith (.ListComp elt [⟨tg,iter,ifs,0⟩] scope pos) (some (.Name y py)) spos.line X.env=pure true)
  (S:CompScope X scope NY mp) (hc:X.calm=true) (hi:PI X tg iter wi)
  (hg:∀ c,PG (jY X scope NY c) tg (g c)) (ht:∀ c,PF (jY X scope NY c) ifs (tt c)) (he:∀ c,PE (jY X scope NY c) elt (te c))
  (hs:∀ x,foldedSetIterable iter X.env x=pure x:=by intro _; rfl):PS X (.Assign [.Name y py] (.ListComp elt [⟨tg,iter,ifs,0⟩] scope pos) spos) (tCompS wi mp g tt te i):=by
 intro pins s σ H D I h
 rw [exec_Assign_Name_used _ _ _ _ hsw]
 refine wpAny_bind (wpAny_standAt (wpAny_bind ?_))
 show wpAny _ X.A (do let _ <- comprehension (.ListComp elt [⟨tg,iter,ifs,0⟩] scope pos) scope X.env _ (newList []) false (eval iter X.env) (some (assign (.Name y py) X.env))) _ _ s
 refine wpAny_bind (wpAny_mono (wpAny_comprehension_free (use:=some (assign (.Name y py) X.env)) (Q:=fun _ s'=>SP X pins D .next s') rfl hs (xC fun y hy hk=>I.ok.has y.1 (S.free y hy hk)) S.kind S.names
  (thn (hi pins s σ H _ I h) fun v s1 h1=>thn h1 fun itv s2 h2=>?_)) (fun _ s' hq=>wpAny_pure (wpAny_pure hq)) fun _ _ e=>e)
 obtain ⟨it,fp,tn,J,H2,e,I2,T,st2,f2,hk⟩:=h2
 subst e
 refine comp_block (RR:=fun acc C=>compPost (model X.prog X.w) X.A X.xe (some (assign (.Name y py) X.env)) (fun _ s'=>SP X pins D .next s') acc C) S hc I2 T st2 f2 hg ht he hk ?_
 intro s' C m ys H' q hD hC hCD hn hI hct
 have J':=hI q.1
 refine wpAny_assign_Name (store_ok2 J' hN hy (.inl hl) (v:=.ref s2.heap.objs.size) rfl (fun s'' I'' sb=>?_) (.inr hl))
 obtain ⟨a,sba,ha⟩:=sb
 have haC:C≠a:=by
  rcases ha with rfl | ha
  · exact hct.1
  · exact fun z=>hct.2.2.1 _ _ ha z.symm
 refine ⟨m,hn.sameBut sba haC,fun h' sb'=>?_⟩
 exact ⟨_,_,I''.turned (it:=C) (t':=s''.toks) (fun b o hb e=>(sb'.2 b hb).trans e) (by rw [qC hCD]; exact hC) hct.1 (.inr hct.2.1) hct.2.2.1 hct.2.2.2,q.2 _ hD⟩
end
end L2
namespace TS
open PySem PyProof.Rows
set_option autoImplicit false
def ky (p:Keyed):Int:=numOf p.1
def Ch (xs ys:Array Keyed) (i j:Nat):Prop:=xs.Perm ys/\∀ k,(k < i \/ j<=k)->K xs k=K ys k
section
variable {prog:Program} {w:World} {A:Around} {E:Value->Shared->Prop} {s:Shared} {a₀ : Array Keyed}
end
end TS
namespace TS
open PySem PyProof.Rows
set_option autoImplicit false
def gallop':Bool->Keyed->Array Keyed->Nat->Nat->Nat->StateT SortSt Sem (Option Nat):=sortPriv% PySem.Builtin.gallop
section
variable {prog:Program} {w:World} {A:Around} {E:Value->Shared->Prop} {s:Shared}
variable {st:SortSt} {ask:Nat->StateT SortSt Sem (Option Bool)} {g:Nat->Bool} {n:Nat}
 (hask:∀ (i:Nat) (R:Option Bool->SortSt->Prop),i < n->R (some (g i)) st->wpS (model prog w) A E s (ask i) R st)
 (mono:∀ i j,i<=j->j < n->g j=true->g i=true)
include hask mono
end
section
variable {prog:Program} {w:World} {A:Around} {E:Value->Shared->Prop} {s:Shared} {st:SortSt}
end
end TS
namespace TS
open PySem PyProof.Rows
set_option autoImplicit false
def Sd (l:List Keyed):Prop:=l.Pairwise fun p q=>ky p<=ky q
structure Mg (a b:List Keyed) (o:List Keyed) (x y:Nat):Prop where
 xa:x<=a.length
 yb:y<=b.length
 pm:(o++(a.drop x++b.drop y)).Perm (a++b)
 sd:Sd o
 le:∀ p∈o,∀ q,(q∈a.drop x \/ q∈b.drop y)->ky p<=ky q
def setMG (g:Nat):StateT SortSt Sem Unit:=(sortPriv% PySem.Builtin.setMinGallop) g
def fin (a b o:Array Keyed) (x y:Nat):Array Keyed:=o++a.extract x a.size++b.extract y b.size
section
variable {prog:Program} {w:World} {A:Around} {E:Value->Shared->Prop} {s:Shared} {a b:Array Keyed}
structure In (a b o:Array Keyed) (x y:Nat):Prop where
 mg:Mg a.toList b.toList o.toList x y
 x1:x+1 < a.size
 y1:y < b.size
end
end TS
namespace TS
open PySem PyProof.Rows
set_option autoImplicit false
def fiH (a b o:Array Keyed) (x y:Nat):Array Keyed:=a.extract 0 x++b.extract 0 y++o.reverse
def fiB (a b o:Array Keyed) (x y:Nat):Array Keyed:=b.extract 0 y++a.extract 0 x++o.reverse
abbrev GH:=Option (Array Keyed)×Nat×Nat×Array Keyed×Nat×Nat×Nat
def hi3 (a b o:Array Keyed) (x y mg ca cb:Nat):StateT SortSt Sem (ForInStep GH):=do
 let p <- elem' a (x - 1)
 if (x - 1 == 0)=true then pure (ForInStep.done (some (fiH a b (o.push p) (x - 1) y),x - 1,y,o.push p,mg,ca,cb))
 else if (decide (ca < 7) && decide (cb < 7))=true then pure (ForInStep.done (none,x - 1,y,o.push p,mg,ca,cb))
 else pure (ForInStep.yield (none,x - 1,y,o.push p,mg,ca,cb))
def hi2 (a b o:Array Keyed) (x y mg ca cb:Nat):StateT SortSt Sem (ForInStep GH):=do
 let p <- elem' b (y - 1)
 if (y - 1 == 1)=true then pure (ForInStep.done (some (fiB a b (o.push p) x (y - 1)),x,y - 1,o.push p,mg,ca,cb))
 else do
  let q <- elem' a (x - 1)
  let r <- gallop' true q b 0 (y - 1) (y - 1 - 1)
  match r with
   | some t =>
     if y - 1 - t > 0 then
      if (t == 1)=true then pure (ForInStep.done (some (fiB a b (o.push p++(b.extract t (y - 1)).reverse) x t),x,t,o.push p++(b.extract t (y - 1)).reverse,mg,ca,y - 1 - t))
      else if (t == 0)=true then pure (ForInStep.done (some (fiH a b (o.push p++(b.extract t (y - 1)).reverse) x t),x,t,o.push p++(b.extract t (y - 1)).reverse,mg,ca,y - 1 - t))
      else hi3 a b (o.push p++(b.extract t (y - 1)).reverse) x t mg ca (y - 1 - t)
     else hi3 a b (o.push p) x (y - 1) mg ca (y - 1 - t)
   | _=>pure (ForInStep.done (some (fiH a b (o.push p) x (y - 1)),x,y - 1,o.push p,mg,ca,cb))
def hi1 (a b o:Array Keyed) (x y mg ca cb:Nat):StateT SortSt Sem (ForInStep GH):=do
 setMG mg
 let q <- elem' b (y - 1)
 let r <- gallop' false q a 0 x (x - 1)
 match r with
  | some t =>
    if x - t > 0 then
     if (t == 0)=true then pure (ForInStep.done (some (fiH a b (o++(a.extract t x).reverse) t y),t,y,o++(a.extract t x).reverse,mg,x - t,cb))
     else hi2 a b (o++(a.extract t x).reverse) t y mg (x - t) cb
    else hi2 a b o x y mg (x - t) cb
  | _=>pure (ForInStep.done (some (fiH a b o x y),x,y,o,mg,ca,cb))
section
variable {prog:Program} {w:World} {A:Around} {E:Value->Shared->Prop} {s:Shared} {a b:Array Keyed}
end
end TS
namespace TS
open PySem PyProof.Rows
set_option autoImplicit false
section
variable {prog:Program} {w:World} {A:Around} {E:Value->Shared->Prop} {s:Shared} {a₀ : Array Keyed}
end
end TS
namespace TS
open PySem PyProof.Rows
set_option autoImplicit false
section
variable {prog:Program} {w:World} {A:Around} {E:Value->Shared->Prop} {s:Shared} {a₀ : Array Keyed}
end
section
variable {prog:Program} {w:World} {A:Around} {E:Value->Shared->Prop} {s:Shared}
end
end TS
namespace TS
open PySem PyProof.Rows
set_option autoImplicit false
def Rise (xs:Array Nat):Prop:=xs.toList.Pairwise (· < ·)
theorem Rise.lt {xs:Array Nat} (h:Rise xs) {i k:Nat} (hik:i < k) (hk:k < xs.size) (d:Nat):xs.getD i d < xs.getD k d:=by
 have:=List.pairwise_iff_getElem.mp h i k (by simp; omega) (by simpa using hk) hik
 simp only [Array.getD_eq_getD_getElem?,getElem?_pos xs i (by omega),getElem?_pos xs k hk,Option.getD_some]
 simpa using this
section
variable {prog:Program} {w:World} {A:Around} {E:Value->Shared->Prop} {s:Shared}
end
end TS
namespace TS
open PySem PyProof.Rows
set_option autoImplicit false
section
variable {prog:Program} {w:World}
section
variable {A:Around} {R:Result->Shared->Prop} {J:Addr} {feet hand:List Addr} {G:Array GenState->Array GenState->Prop} {n:Nat} {P:Nat->Value->Prop} {Z:Nat->Shared->Prop}
end
section
variable {A:Around} {E:Value->Shared->Prop} {s:Shared}
end
end
end TS
namespace TS
open PySem PyProof.Rows
set_option autoImplicit false
section
variable {prog:Program} {w:World} {A:Around} {E:Value->Shared->Prop} {s:Shared}
end
end TS
namespace TS
open PySem PyProof.Rows
set_option autoImplicit false
section
variable {prog:Program} {w:World} {A:Around} {E:Value->Shared->Prop} {s:Shared}
end
end TS
namespace FL
open PySem PySem.Spec PyProof.Rows L2
abbrev Frag:=PySem.W.Frag
def KLst (K:Frag) (a:Addr) (xs:List V):Prop:=∃ (o:Obj) (its:Array Value) (n:Nat),K.lookup a=some o/\o.cls = .type "list"/\o.dict=none/\o.data = .seq its n/\its.size<=sizeLine/\Vals xs its.toList
def KTup (K:Frag) (a:Addr) (xs:List V):Prop:=∃ (o:Obj) (its:Array Value) (n:Nat),K.lookup a=some o/\o.cls = .type "tuple"/\o.data = .seq its n/\its.size<=sizeLine/\Vals xs its.toList
structure LamT where
 qual:Str
 params:Arguments
 body:FuncBody
 scope:Scope
def lamsE (q:Str):Nat->Expr->List LamT
 | 0,_=>[]
 | n + 1, e => match e with
   | .Lambda a b sc _=>[⟨q++"<lambda>",a,.expr b,sc⟩]
   | .Call _ as _ _=>as.flatMap (lamsE q n)
   | .Compare l _ cs _=>lamsE q n l++cs.flatMap (lamsE q n)
   | .BoolOp _ vs _=>vs.flatMap (lamsE q n)
   | .UnaryOp _ o _=>lamsE q n o
   | .BinOp l _ r _=>lamsE q n l++lamsE q n r
   | .IfExp t b o _=>lamsE q n t++(lamsE q n b++lamsE q n o)
   | .List es _=>es.flatMap (lamsE q n)
   | .Tuple es _ _=>es.flatMap (lamsE q n)
   | .Subscript v i _=>lamsE q n v++lamsE q n i
   | _=>[]
def lamsS (q:Str):Nat->Stmt->List LamT
 | 0,_=>[]
 | n + 1, s => match s with
   | .FunctionDef x a b _ _ _ sc _ _ _=>[⟨q++x,a,.stmts b,sc⟩]
   | .Assign _ e _=>lamsE q 12 e
   | .Return (some e) _=>lamsE q 12 e
   | .Expr e _=>lamsE q 12 e
   | .If t a b _=>lamsE q 12 t++(a.flatMap (lamsS q n)++b.flatMap (lamsS q n))
   | .For _ _ a _ _=>a.flatMap (lamsS q n)
   | .While _ a _ _=>a.flatMap (lamsS q n)
   | _=>[]
def lamsOf (x:Str) (b:List Stmt):List LamT:=b.flatMap (lamsS (x++".<locals>.") 8)
def textIn (K:PySem.W.Frag) (m n:Nat):Option LamT:=(makers[m]?).bind fun x=>match PySem.W.nsIn K mainGlobals x with
 | some (some (.ref f)) => (match K.lookup f with
   | some ⟨_, _, .func fd, _⟩ => (match fd.body with
     | .stmts b=>(lamsOf x b)[n]?
     | _=>none)
   | _=>none)
 | _=>none
def freeR (l:List (Str×NameKind)):List Str:=((l.filter fun y=>y.2 == NameKind.free).map (·.1)).reverse
inductive ClosOk (H:Hp) (O:Addr->Prop):List (Str×Addr)->List V->Prop
 | nil:ClosOk H O [] []
 | cons {n:Str} {c:Addr} {o:Obj} {u:HO} {w:Value} {x:V} {cl:List (Str×Addr)} {xs:List V} (no : ¬ O c) (h:H c=some (.frz o u)) (d:o.data = .cell (some w)) (r:RelV x w) (t:ClosOk H O cl xs):ClosOk H O ((n,c)::cl) (x::xs)
def LamAt (H:Hp) (O:Addr->Prop) (f:Addr) (t:LamT) (cl:List (Str×Addr)):Prop:=¬ O f/\∃ (o oc:Obj) (u uc:HO) (fd:FuncData) (c:Addr) (vs:Array Value) (tq:Tok),
 H f=some (.frz o u)/\o.cls = .type "function"/\o.data = .func fd/\fd.qualname=t.qual/\fd.params=t.params/\fd.body=t.body/\fd.scope=t.scope/\fd.globals=mainGlobals/\fd.closure=cl/\fd.defaults = .none/\fd.kwdefaults = .none/\fd.code = .ref c/\fd.builtins=builtinsNs ∧
 ¬ O c/\H c=some (.frz oc uc)/\oc.data = .fields vs/\vs[1]? = some (.str t.qual tq)
mutual
inductive Rep (K:Frag) (H:Hp) (O:Addr->Prop):V->D->Prop
 | non:Rep K H O .non .non
 | bl (b:Bool):Rep K H O (.bl b) (.bl b)
 | int (i:Int):Rep K H O (.int i) (.int i)
 | str (x:Str):Rep K H O (.str x) (.str x)
 | tup {a:Addr} {xs:List V} {ds:List D} (n : ¬ O a) (h:Rd H a (.tup xs)) (r:Reps K H O xs ds):Rep K H O (.ref a) (.tup ds)
 | tupK {a:Addr} {xs:List V} {ds:List D} (h:KTup K a xs) (r:Reps K H O xs ds):Rep K H O (.ref a) (.tup ds)
 | lst {a:Addr} {xs:List V} {ds:List D} (n : ¬ O a) (h:Rd H a (.lst xs)) (r:Reps K H O xs ds):Rep K H O (.ref a) (.lst ds)
 | lstK {a:Addr} {xs:List V} {ds:List D} (h:KLst K a xs) (r:Reps K H O xs ds):Rep K H O (.ref a) (.lst ds)
 | dct {a:Addr} {kvs:List (Key×V)} {ks:List Key} {ds:List D} (n : ¬ O a) (h:H a=some (.dK kvs)) (e:kvs.map (·.1)=ks) (r:Reps K H O (kvs.map (·.2)) ds):Rep K H O (.ref a) (.dct ks ds)
 | ins {a C dx:Addr} {t:Nat} {kvs:List (Str×V)} {ds:List D} (c:PySem.W.nsIn K mainGlobals (clsName t)=some (some (.ref C))) (n : ¬ O a) (h:H a=some (.ins C dx kvs)) (e:kvs.map (·.1)=clsFlds t) (r:Reps K H O (kvs.map (·.2)) ds):Rep K H O (.ref a) (.ins t ds)
 | clo {f:Addr} {m n:Nat} {t:LamT} {cl:List (Str×Addr)} {xs:List V} {ds:List D} (tx:textIn K m n=some t) (h:LamAt H O f t cl) (e:cl.map (·.1)=freeR t.scope.names) (nd:(cl.map (·.2)).Nodup) (c:ClosOk H O cl xs) (r:Reps K H O xs ds):Rep K H O (.ref f) (.clo m n ds)
 | fnK {f:Addr} {k:Nat} (h:PySem.W.nsIn K mainGlobals (fnName k)=some (some (.ref f))):Rep K H O (.ref f) (.clo 1000 k [])
inductive Reps (K:Frag) (H:Hp) (O:Addr->Prop):List V->List D->Prop
 | nil:Reps K H O [] []
 | cons {x:V} {d:D} {xs:List V} {ds:List D} (h:Rep K H O x d) (t:Reps K H O xs ds):Reps K H O (x::xs) (d::ds)
end
section
variable {K:Frag} {H H':Hp} {O O':Addr->Prop}
def Keep (O:Addr->Prop) (H H':Hp):Prop:=∀ b o,¬ O b->H b=some o->H' b=some o
theorem Keep.of_same (h:Same H H'):Keep O H H':=fun b o _ e=>h b o e
theorem Keep.rd {a:Addr} {u:HO} (k:Keep O H H') (n : ¬ O a) (h:Rd H a u):Rd H' a u:=by
 rcases h with h | ⟨o,h⟩
 · exact .inl (k _ _ n h)
 · exact .inr ⟨o,k _ _ n h⟩
theorem ClosOk.keep (k:Keep O H H'):∀ {cl:List (Str×Addr)} {xs:List V},ClosOk H O cl xs->ClosOk H' O cl xs
 | _,_,.nil=>.nil
 | _,_,.cons no h d r t=>.cons no (k _ _ no h) d r (ClosOk.keep k t)
theorem LamAt.keep {f:Addr} {t:LamT} {cl:List (Str×Addr)} (k:Keep O H H') (h:LamAt H O f t cl):LamAt H' O f t cl:=by
 obtain ⟨n,o,oc,u,uc,fd,c,vs,tq,h1,h2,h3,h4,h5,h6,h7,h8,h9,h10,h11,h12,h13,h14,h15,h16,h17⟩:=h
 exact ⟨n,o,oc,u,uc,fd,c,vs,tq,k _ _ n h1,h2,h3,h4,h5,h6,h7,h8,h9,h10,h11,h12,h13,h14,k _ _ h14 h15,h16,h17⟩
theorem ClosOk.of (k:∀ a o u,H a=some (.frz o u)->¬ O' a):∀ {cl:List (Str×Addr)} {xs:List V},ClosOk H O cl xs->ClosOk H O' cl xs
 | _,_,.nil=>.nil
 | _,_,.cons no h d r t=>.cons (k _ _ _ h) h d r (ClosOk.of k t)
theorem LamAt.of {f:Addr} {t:LamT} {cl:List (Str×Addr)} (k:∀ a o u,H a=some (.frz o u)->¬ O' a) (h:LamAt H O f t cl):LamAt H O' f t cl:=by
 obtain ⟨n,o,oc,u,uc,fd,c,vs,tq,h1,h2,h3,h4,h5,h6,h7,h8,h9,h10,h11,h12,h13,h14,h15,h16,h17⟩:=h
 exact ⟨k _ _ _ h1,o,oc,u,uc,fd,c,vs,tq,h1,h2,h3,h4,h5,h6,h7,h8,h9,h10,h11,h12,h13,k _ _ _ h15,h15,h16,h17⟩
theorem ClosOk.nots (k:∀ a,O' a->O a):∀ {cl:List (Str×Addr)} {xs:List V},ClosOk H O cl xs->ClosOk H O' cl xs
 | _,_,.nil=>.nil
 | _,_,.cons no h d r t=>.cons (fun z=>no (k _ z)) h d r (ClosOk.nots k t)
theorem LamAt.nots {f:Addr} {t:LamT} {cl:List (Str×Addr)} (k:∀ a,O' a->O a) (h:LamAt H O f t cl):LamAt H O' f t cl:=by
 obtain ⟨n,o,oc,u,uc,fd,c,vs,tq,h1,h2,h3,h4,h5,h6,h7,h8,h9,h10,h11,h12,h13,h14,h15,h16,h17⟩:=h
 exact ⟨fun z=>n (k _ z),o,oc,u,uc,fd,c,vs,tq,h1,h2,h3,h4,h5,h6,h7,h8,h9,h10,h11,h12,h13,fun z=>h14 (k _ z),h15,h16,h17⟩
def ins1 (p:Addr) (O:Addr->Prop):Addr->Prop:=fun b=>b=p \/ O b
theorem ClosOk.ins {p:Addr} (hp:H p=none):∀ {cl:List (Str×Addr)} {xs:List V},ClosOk H O cl xs->ClosOk H (ins1 p O) cl xs
 | _,_,.nil=>.nil
 | _,_,.cons no h d r t=>.cons (fun z=>z.elim (fun e=>by rw [e,hp] at h; cases h) no) h d r (ClosOk.ins hp t)
theorem LamAt.ins {p f:Addr} {t:LamT} {cl:List (Str×Addr)} (hp:H p=none) (h:LamAt H O f t cl):LamAt H (ins1 p O) f t cl:=by
 obtain ⟨n,o,oc,u,uc,fd,c,vs,tq,h1,h2,h3,h4,h5,h6,h7,h8,h9,h10,h11,h12,h13,h14,h15,h16,h17⟩:=h
 exact ⟨fun z=>z.elim (fun e=>by rw [e,hp] at h1; cases h1) n,o,oc,u,uc,fd,c,vs,tq,h1,h2,h3,h4,h5,h6,h7,h8,h9,h10,h11,h12,h13,fun z=>z.elim (fun e=>by rw [e,hp] at h15; cases h15) h14,h15,h16,h17⟩
mutual
theorem Rep.keep (k:Keep O H H'):∀ {v:V} {d:D},Rep K H O v d->Rep K H' O v d
 | _,_,.non=>.non
 | _,_,.bl b=>.bl b
 | _,_,.int i=>.int i
 | _,_,.str x=>.str x
 | _,_,.tup n h r=>.tup n (k.rd n h) (Reps.keep k r)
 | _,_,.tupK h r=>.tupK h (Reps.keep k r)
 | _,_,.lst n h r=>.lst n (k.rd n h) (Reps.keep k r)
 | _,_,.lstK h r=>.lstK h (Reps.keep k r)
 | _,_,.dct n h e r=>.dct n (k _ _ n h) e (Reps.keep k r)
 | _,_,.ins c n h e r=>.ins c n (k _ _ n h) e (Reps.keep k r)
 | _,_,.clo tx h e nd c r=>.clo tx (h.keep k) e nd (c.keep k) (Reps.keep k r)
 | _,_,.fnK h=>.fnK h
theorem Reps.keep (k:Keep O H H'):∀ {vs:List V} {ds:List D},Reps K H O vs ds->Reps K H' O vs ds
 | _,_,.nil=>.nil
 | _,_,.cons h t=>.cons (Rep.keep k h) (Reps.keep k t)
end
theorem Rep.mono (k:Same H H') {v:V} {d:D} (h:Rep K H O v d):Rep K H' O v d:=h.keep (.of_same k)
theorem Reps.mono (k:Same H H') {v:List V} {d:List D} (h:Reps K H O v d):Reps K H' O v d:=h.keep (.of_same k)
mutual
theorem Rep.less (k:∀ a,O' a->O a):∀ {v:V} {d:D},Rep K H O v d->Rep K H O' v d
 | _,_,.non=>.non
 | _,_,.bl b=>.bl b
 | _,_,.int i=>.int i
 | _,_,.str x=>.str x
 | _,_,.tup n h r=>.tup (fun z=>n (k _ z)) h (Reps.less k r)
 | _,_,.tupK h r=>.tupK h (Reps.less k r)
 | _,_,.lst n h r=>.lst (fun z=>n (k _ z)) h (Reps.less k r)
 | _,_,.lstK h r=>.lstK h (Reps.less k r)
 | _,_,.dct n h e r=>.dct (fun z=>n (k _ z)) h e (Reps.less k r)
 | _,_,.ins c n h e r=>.ins c (fun z=>n (k _ z)) h e (Reps.less k r)
 | _,_,.clo tx h e nd c r=>.clo tx (h.nots k) e nd (c.nots k) (Reps.less k r)
 | _,_,.fnK h=>.fnK h
theorem Reps.less (k:∀ a,O' a->O a):∀ {vs:List V} {ds:List D},Reps K H O vs ds->Reps K H O' vs ds
 | _,_,.nil=>.nil
 | _,_,.cons h t=>.cons (Rep.less k h) (Reps.less k t)
end
theorem Rd.some {a:Addr} {u:HO} (h:Rd H a u):H a≠none:=by
 rcases h with h | ⟨o,h⟩ <;> (rw [h]; simp)
mutual
theorem Rep.more {p:Addr} (hp:H p=none):∀ {v:V} {d:D},Rep K H O v d->Rep K H (ins1 p O) v d
 | _,_,.non=>.non
 | _,_,.bl b=>.bl b
 | _,_,.int i=>.int i
 | _,_,.str x=>.str x
 | _,_,.tup n h r=>.tup (fun z=>z.elim (fun e=>Rd.some h (e ▸ hp)) n) h (Reps.more hp r)
 | _,_,.tupK h r=>.tupK h (Reps.more hp r)
 | _,_,.lst n h r=>.lst (fun z=>z.elim (fun e=>Rd.some h (e ▸ hp)) n) h (Reps.more hp r)
 | _,_,.lstK h r=>.lstK h (Reps.more hp r)
 | _,_,.dct n h e r=>.dct (fun z=>z.elim (fun e=>by rw [e,hp] at h; cases h) n) h e (Reps.more hp r)
 | _,_,.ins c n h e r=>.ins c (fun z=>z.elim (fun e=>by rw [e,hp] at h; cases h) n) h e (Reps.more hp r)
 | _,_,.clo tx h e nd c r=>.clo tx (h.ins hp) e nd (c.ins hp) (Reps.more hp r)
 | _,_,.fnK h=>.fnK h
theorem Reps.more {p:Addr} (hp:H p=none):∀ {vs:List V} {ds:List D},Reps K H O vs ds->Reps K H (ins1 p O) vs ds
 | _,_,.nil=>.nil
 | _,_,.cons h t=>.cons (Rep.more hp h) (Reps.more hp t)
end
def mutO:HO->Bool
 | .lst _ | .dK _ | .dT _ | .set _ _ | .ins _ _ _=>true
 | _=>false
def Old (H:Hp):Addr->Prop:=fun a=>∃ o,H a=some o/\mutO o=true
theorem Old.mono (k:Same H H') {a:Addr} (h:Old H a):Old H' a:=let ⟨o,e,m⟩:=h; ⟨o,k _ _ e,m⟩
def jF:Addr->Prop:=fun _=>False
mutual
theorem Rep.flatten (ho:∀ a,O a->Old H a):∀ {v:V} {d:D},flat d=true->Rep K H O' v d->Rep K H O v d
 | _,_,_,.non=>.non
 | _,_,_,.bl b=>.bl b
 | _,_,_,.int i=>.int i
 | _,_,_,.str x=>.str x
 | _,_,f,.tup (a:=a) n h r=>.tup (fun z=>by
    obtain ⟨u,e,m⟩:=ho a z
    rcases h with h | ⟨o,h⟩
    · rw [e] at h; cases h; cases m
    · rw [e] at h; cases h; cases m) h (Reps.flatten ho (by simpa [flat] using f) r)
 | _,_,f,.tupK h r=>.tupK h (Reps.flatten ho (by simpa [flat] using f) r)
 | _,_,f,.lst _ _ _=>by simp [flat] at f
 | _,_,f,.lstK _ _=>by simp [flat] at f
 | _,_,f,.dct _ _ _ _=>by simp [flat] at f
 | _,_,f,.ins _ _ _ _ _=>by simp [flat] at f
 | _,_,f,.clo _ _ _ _ _ _=>by simp [flat] at f
 | _,_,f,.fnK _=>by simp [flat] at f
theorem Reps.flatten (ho:∀ a,O a->Old H a):∀ {vs:List V} {ds:List D},flats ds=true->Reps K H O' vs ds->Reps K H O vs ds
 | _,_,_,.nil=>.nil
 | _, _, f, .cons h t => by
   simp only [flats,Bool.and_eq_true] at f
   exact .cons (Rep.flatten ho f.1 h) (Reps.flatten ho f.2 t)
end
theorem Reps.length:∀ {vs:List V} {ds:List D},Reps K H O vs ds->vs.length=ds.length
 | _,_,.nil=>rfl
 | _,_,.cons _ t=>by simp [Reps.length t]
theorem Reps.get:∀ {vs:List V} {ds:List D} {i:Nat} {d:D},Reps K H O vs ds->ds[i]? = some d->∃ v,vs[i]? = some v/\Rep K H O v d
 | _,_,_,_,.nil,e=>by simp at e
 | _,_,0,_,.cons h _,e=>by simp at e; subst e; exact ⟨_,rfl,h⟩
 | _, _, i + 1, d, .cons _ t, e => by
   obtain ⟨v,h1,h2⟩:=Reps.get (i:=i) (d:=d) t (by simpa using e)
   exact ⟨v,by simpa using h1,h2⟩
theorem Reps.append:∀ {xs ys:List V} {ds es:List D},Reps K H O xs ds->Reps K H O ys es->Reps K H O (xs++ys) (ds++es)
 | _,_,_,_,.nil,s=>s
 | _,_,_,_,.cons r t,s=>.cons r (Reps.append t s)
theorem Reps.set {x:V} {d:D} (r:Rep K H O x d):∀ {xs:List V} {ds:List D} (i:Nat),Reps K H O xs ds->Reps K H O (xs.set i x) (ds.set i d)
 | _,_,_,.nil=>.nil
 | _,_,0,.cons _ t=>.cons r t
 | _,_,i+1,.cons q t=>.cons q (Reps.set r i t)
theorem Reps.drop:∀ {xs:List V} {ds:List D} (n:Nat),Reps K H O xs ds->Reps K H O (xs.drop n) (ds.drop n)
 | _,_,0,r=>r
 | _,_,_+1,.nil=>.nil
 | _,_,n+1,.cons _ t=>Reps.drop n t
theorem Reps.take:∀ {xs:List V} {ds:List D} (n:Nat),Reps K H O xs ds->Reps K H O (xs.take n) (ds.take n)
 | _,_,0,_=>.nil
 | _,_,_+1,.nil=>.nil
 | _,_,n+1,.cons r t=>.cons r (Reps.take n t)
theorem Reps.ints:∀ (ns:List Int),Reps K H O (ns.map V.int) (ns.map D.int)
 | []=>.nil
 | n::r=>.cons (.int n) (Reps.ints r)
def WRep (K:Frag) (H:Hp) (O:Addr->Prop) (v:V) (d:D):Prop:=Rep K H O v d \/ ∃ a xs l,v = .ref a/\d = .lst l/\O a/\H a=some (.lst xs)/\Reps K H O xs l
theorem WRep.mono (k:Same H H') {v:V} {d:D} (h:WRep K H O v d):WRep K H' O v d:=by
 rcases h with h | ⟨a,xs,l,e1,e2,ho,h,r⟩
 · exact .inl (h.mono k)
 · exact .inr ⟨a,xs,l,e1,e2,ho,k _ _ h,r.mono k⟩
theorem WRep.any {v:V} {d:D} (h:WRep K H O v d):Rep K H jF v d:=by
 rcases h with h | ⟨a,xs,l,rfl,rfl,ho,h,r⟩
 · exact h.less (fun _ z=>z.elim)
 · exact .lst (fun z=>z.elim) (.inl h) (r.less fun _ z=>z.elim)
theorem WRep.seqL {v:V} {l:List D} (h:WRep K H O v (.lst l)):∃ a xs,v = .ref a/\SqL K H a xs/\Reps K H O xs l:=by
 rcases h with h | ⟨a,xs,l',rfl,e,ho,h,r⟩
 · cases h with
   | lst n h r=>exact ⟨_,_,rfl,.inl h,r⟩
   | lstK h r=>exact ⟨_,_,rfl,.inr h,r⟩
 · cases e; exact ⟨a,xs,rfl,.inl (.inl h),r⟩
theorem WRep.seqT {v:V} {l:List D} (h:WRep K H O v (.tup l)):∃ a xs,v = .ref a/\SqT K H a xs/\Reps K H O xs l:=by
 rcases h with h | ⟨a,xs,l',rfl,e,ho,h,r⟩
 · cases h with
   | tup n h r=>exact ⟨_,_,rfl,.inl h,r⟩
   | tupK h r=>exact ⟨_,_,rfl,.inr h,r⟩
 · cases e
theorem WRep.int' {v:V} {i:Int} (h:WRep K H O v (.int i)):v = .int i:=by
 rcases h with h | ⟨a,xs,l',rfl,e,_⟩
 · cases h; rfl
 · cases e
theorem WRep.str' {v:V} {i:Str} (h:WRep K H O v (.str i)):v = .str i:=by
 rcases h with h | ⟨a,xs,l',rfl,e,_⟩
 · cases h; rfl
 · cases e
end
def SlOk (K:Frag) (H₀ H:Hp) (O:Addr->Prop):Option V->Sl->Prop
 | _,.no=>True
 | some x,.v d=>Rep K H O x d
 | some (.ref a),.own l=>O a/\∃ xs,H a=some (.lst xs)/\Reps K H O xs l
 | some (.ref a),.fr l=>¬ O a/\H₀ a=none/\∃ xs,H a=some (.lst xs)/\Reps K H O xs l
 | some (.ref a),.exc t=>∃ C o u,PySem.W.nsIn K mainGlobals (xName t)=some (some (.ref C))/\H a=some (.frz o u)/\o.cls = .ref C
 | _,_=>False
def IsOwn (ds:List Sl) (i:Nat):Prop:=∃ l,ds[i]? = some (.own l)
inductive HI where
 | rep (v:V) (d:D) | base (B:Addr->Prop)
abbrev Hold:=List HI
def HOk (K:Frag) (H₀ H:Hp) (O:Addr->Prop):HI->Prop
 | .rep v d=>Rep K H O v d
 | .base B=>∀ a,B a->O a/\H₀ a≠none
structure Ok (K:Frag) (H₀ H:Hp) (O:Addr->Prop) (σ : L2.St) (ds:List Sl) (hd:Hold):Prop where
 same:Same H₀ H
 fresh:∀ (i:Nat) (l:List D) (a:Addr),ds[i]? = some (.own l)->σ[i]? = some (some (.ref a))->H₀ a=none
 dom:∀ a,O a->∃ xs,H a=some (.lst xs)
 len : σ.length=ds.length
 sl:∀ (i:Nat) (s:Sl),ds[i]? = some s->SlOk K H₀ H O (σ[i]?.join) s
 apart:∀ (i j:Nat) (a:Addr),i≠j->IsOwn ds i->IsOwn ds j->σ[i]? = some (some (.ref a))->σ[j]? = some (some (.ref a))->False
 hold:∀ p∈hd,HOk K H₀ H O p
section
variable {K:Frag} {H₀ H H':Hp} {O O':Addr->Prop} {σ : L2.St} {ds:List Sl} {hd:Hold}
theorem HOk.mono (k:Same H H'):∀ {p:HI},HOk K H₀ H O p->HOk K H₀ H' O p
 | .rep _ _,h=>Rep.mono k h
 | .base _,h=>h
theorem HOk.keep (k:Keep O H H'):∀ {p:HI},HOk K H₀ H O p->HOk K H₀ H' O p
 | .rep _ _,h=>Rep.keep k h
 | .base _,h=>h
theorem SlOk.mono (k:Same H H'):∀ {x:Option V} {s:Sl},SlOk K H₀ H O x s->SlOk K H₀ H' O x s
 | none,.no,_=>trivial
 | some (.ref _),.no,_=>trivial
 | some _,.no,_=>by simp [SlOk]
 | some x, .v d, h => by
   have h:Rep K H O x d:=by cases x <;> exact h
   show SlOk K H₀ H' O (some x) (.v d)
   have:=h.mono k
   cases x <;> exact this
 | some (.ref a),.own l,⟨ho,xs,h,r⟩=>⟨ho,xs,k _ _ h,r.mono k⟩
 | some (.ref a),.fr l,⟨ho,h0,xs,h,r⟩=>⟨ho,h0,xs,k _ _ h,r.mono k⟩
 | some (.ref a),.exc t,⟨C,o,u,h1,h2,h3⟩=>⟨C,o,u,h1,k _ _ h2,h3⟩
theorem Ok.old (o:Ok K H₀ H O σ ds hd) {a:Addr} (h:O a):Old H a:=let ⟨xs,e⟩:=o.dom a h; ⟨_,e,rfl⟩
theorem Ok.mono (k:Same H H') (o:Ok K H₀ H O σ ds hd):Ok K H₀ H' O σ ds hd :=
 ⟨o.same.trans k,o.fresh,fun a h=>let ⟨xs,e⟩:=o.dom a h; ⟨xs,k _ _ e⟩,o.len,fun i s e=>(o.sl i s e).mono k,o.apart,fun p hp=>(o.hold p hp).mono k⟩
theorem Ok.free {p:Addr} (o:Ok K H₀ H O σ ds hd) (h:H p=none) : ¬ O p:=fun z=>by
 obtain ⟨xs,e⟩:=o.dom p z
 rw [h] at e; cases e
theorem Ok.read {i:Nat} {d:D} (o:Ok K H₀ H O σ ds hd) (e:ds[i]? = some (.v d)):∃ v,σ[i]? = some (some v)/\Rep K H O v d:=by
 have h:=o.sl i _ e
 cases q : σ[i]? with
 | none=>rw [q] at h; exact h.elim
 | some x =>
   rw [q] at h
   cases x with
   | none=>exact h.elim
   | some x=>exact ⟨x,rfl,by cases x <;> exact h⟩
theorem Ok.readO {i:Nat} {l:List D} (o:Ok K H₀ H O σ ds hd) (e:ds[i]? = some (.own l)):∃ a xs,σ[i]? = some (some (.ref a))/\O a/\H a=some (.lst xs)/\Reps K H O xs l:=by
 have h:=o.sl i _ e
 cases q : σ[i]? with
 | none=>rw [q] at h; exact h.elim
 | some x =>
   rw [q] at h
   cases x with
   | none=>exact h.elim
   | some x =>
     cases x with
     | ref a=>obtain ⟨ho,xs,h1,h2⟩:=h; exact ⟨a,xs,rfl,ho,h1,h2⟩
     | _=>exact h.elim
theorem Ok.readX {i t:Nat} (o:Ok K H₀ H O σ ds hd) (e:ds[i]? = some (.exc t)):∃ a C ob u,σ[i]? = some (some (.ref a))/\PySem.W.nsIn K mainGlobals (xName t)=some (some (.ref C))/\H a=some (.frz ob u)/\ob.cls = .ref C:=by
 have h:=o.sl i _ e
 cases q : σ[i]? with
 | none=>rw [q] at h; exact h.elim
 | some x =>
   rw [q] at h
   cases x with
   | none=>exact h.elim
   | some x =>
     cases x with
     | ref a=>obtain ⟨C,ob,u,h1,h2,h3⟩:=h; exact ⟨a,C,ob,u,rfl,h1,h2,h3⟩
     | _=>exact h.elim
theorem Ok.readF {i:Nat} {l:List D} (o:Ok K H₀ H O σ ds hd) (e:ds[i]? = some (.fr l)):∃ a xs,σ[i]? = some (some (.ref a))/\¬ O a/\H₀ a=none/\H a=some (.lst xs)/\Reps K H O xs l:=by
 have h:=o.sl i _ e
 cases q : σ[i]? with
 | none=>rw [q] at h; exact h.elim
 | some x =>
   rw [q] at h
   cases x with
   | none=>exact h.elim
   | some x =>
     cases x with
     | ref a=>obtain ⟨ho,h0,xs,h1,h2⟩:=h; exact ⟨a,xs,rfl,ho,h0,h1,h2⟩
     | _=>exact h.elim
theorem yJ {x:Option V} : SlOk K H₀ H O x .no:=by
 cases x with
 | none=>trivial
 | some x=>cases x <;> trivial
theorem vF {x:V} {d:D} (h:Rep K H O x d):SlOk K H₀ H O (some x) (.v d):=by
 cases x <;> exact h
theorem Ok.set {i:Nat} {v:V} {d:D} (o:Ok K H₀ H O σ ds hd) (r:Rep K H O v d):Ok K H₀ H O (σ.set i (some v)) (ds.set i (.v d)) hd:=by
 have own':∀ {j:Nat},IsOwn (ds.set i (.v d)) j->j≠i/\IsOwn ds j:=fun {j} ⟨l,e⟩=>by
  by_cases hj:j=i
  · subst hj
    by_cases hl:j < ds.length
    · rw [List.getElem?_set_self hl] at e; cases e
    · rw [List.getElem?_eq_none (by simpa using hl)] at e; cases e
  · rw [List.getElem?_set_ne (Ne.symm hj)] at e
    exact ⟨hj,l,e⟩
 refine ⟨o.same,fun j l a e1 e2=>?_,o.dom,by simpa using o.len,fun j s e=>?_,fun j k a hjk hj hk e1 e2=>?_,o.hold⟩
 · obtain ⟨n1, h1⟩ := own' ⟨l, e1⟩
   rw [List.getElem?_set_ne (Ne.symm n1)] at e1 e2
   exact o.fresh j l a e1 e2
 · by_cases hj : j = i
   · subst hj
     by_cases hl:j < ds.length
     · rw [List.getElem?_set_self hl] at e
       cases e
       rw [List.getElem?_set_self (by rw [o.len]; exact hl)]
       exact vF r
     · rw [List.getElem?_eq_none (by simpa using hl)] at e; cases e
   · rw [List.getElem?_set_ne (Ne.symm hj)] at e
     rw [List.getElem?_set_ne (Ne.symm hj)]
     exact o.sl j s e
 · obtain ⟨n1, h1⟩ := own' hj
   obtain ⟨n2,h2⟩:=own' hk
   rw [List.getElem?_set_ne (Ne.symm n1)] at e1
   rw [List.getElem?_set_ne (Ne.symm n2)] at e2
   exact o.apart j k a hjk h1 h2 e1 e2
theorem Ok.setO {i:Nat} {a:Addr} {xs:List V} {l:List D} (o:Ok K H₀ H O σ ds hd) (k:Same H H') (hn:H a=none) (e:H' a=some (.lst xs)) (r:Reps K H' (ins1 a O) xs l) :
  Ok K H₀ H' (ins1 a O) (σ.set i (some (.ref a))) (ds.set i (.own l)) hd:=by
 have up:∀ {v:V} {d:D},Rep K H O v d->Rep K H' (ins1 a O) v d:=fun h=>(h.more hn).mono k
 have ups:∀ {v:List V} {d:List D},Reps K H O v d->Reps K H' (ins1 a O) v d:=fun h=>(h.more hn).mono k
 have other:∀ j:Nat,IsOwn ds j->σ[j]? = some (some (.ref a))->False:=fun j ⟨l',e'⟩ q=>by
  obtain ⟨b,ys,h1,h2,h3,_⟩:=o.readO e'
  rw [q] at h1; cases h1
  rw [hn] at h3; cases h3
 have own':∀ {j:Nat},j≠i->IsOwn (ds.set i (.own l)) j->IsOwn ds j:=fun {j} hj ⟨l',e'⟩=>⟨l',by rwa [List.getElem?_set_ne (Ne.symm hj)] at e'⟩
 refine ⟨o.same.trans k,fun j l' b e1 e2=>?_,fun b hb=>?_,by simpa using o.len,fun j s es=>?_,fun j m b hjm hj hm e1 e2=>?_,fun p hp=>?_⟩
 rotate_left 4
 · have := o.hold p hp
   cases p with
   | rep v d=>exact up this
   | base B=>exact fun b hb=>⟨.inr (this b hb).1,(this b hb).2⟩
 · by_cases hj : j = i
   · subst hj
     by_cases hl:j < σ.length
     · rw [List.getElem?_set_self hl] at e2
       cases e2
       exact o.same.free hn
     · rw [List.getElem?_eq_none (by simpa using hl)] at e2; cases e2
   · rw [List.getElem?_set_ne (Ne.symm hj)] at e1 e2
     exact o.fresh j l' b e1 e2
 · rcases hb with rfl | hb
   · exact ⟨xs,e⟩
   · obtain ⟨ys, q⟩ := o.dom b hb
     exact ⟨ys,k _ _ q⟩
 · by_cases hj : j = i
   · subst hj
     by_cases hl:j < ds.length
     · rw [List.getElem?_set_self hl] at es
       cases es
       rw [List.getElem?_set_self (by rw [o.len]; exact hl)]
       exact ⟨.inl rfl,xs,e,r⟩
     · rw [List.getElem?_eq_none (by simpa using hl)] at es; cases es
   · rw [List.getElem?_set_ne (Ne.symm hj)] at es
     rw [List.getElem?_set_ne (Ne.symm hj)]
     cases s with
     | no=>exact yJ
     | exc t =>
       obtain ⟨a',C',ob',u',q1,q2,q3,q4⟩:=o.readX es
       rw [q1]
       exact ⟨C',ob',u',q2,k _ _ q3,q4⟩
     | fr l' =>
       obtain ⟨a',xs',q1,q2,q0,q3,q4⟩:=o.readF es
       rw [q1]
       exact ⟨fun z=>z.elim (fun e'=>by rw [e',hn] at q3; cases q3) q2,q0,xs',k _ _ q3,ups q4⟩
     | v d =>
       obtain ⟨v,h1,h2⟩:=o.read es
       rw [h1]
       exact vF (up h2)
     | own l' =>
       obtain ⟨b,ys,h1,h2,h3,h4⟩:=o.readO es
       rw [h1]
       exact ⟨.inr h2,ys,k _ _ h3,ups h4⟩
 · have hs:∀ {q:Nat},q=i->(σ.set i (some (V.ref a)))[q]? = some (some (.ref b))->b=a:=fun {q} hq eq=>by
    subst hq
    by_cases hl:q < σ.length
    · rw [List.getElem?_set_self hl] at eq
      cases eq; rfl
    · rw [List.getElem?_eq_none (by simpa using hl)] at eq; cases eq
   by_cases h1:j=i
   · have hb := hs h1 e1
     have h2:m≠i:=fun z=>hjm (h1.trans z.symm)
     rw [List.getElem?_set_ne (Ne.symm h2),hb] at e2
     exact other m (own' h2 hm) e2
   · by_cases h2 : m = i
     · have hb := hs h2 e2
       rw [List.getElem?_set_ne (Ne.symm h1),hb] at e1
       exact other j (own' h1 hj) e1
     · rw [List.getElem?_set_ne (Ne.symm h1)] at e1
       rw [List.getElem?_set_ne (Ne.symm h2)] at e2
       exact o.apart j m b hjm (own' h1 hj) (own' h2 hm) e1 e2
theorem Ok.modify {i:Nat} {l l':List D} {a:Addr} {xs':List V} (o:Ok K H₀ H O σ ds hd) (e:ds[i]? = some (.own l)) (ea : σ[i]? = some (some (.ref a))) (r:Reps K H O xs' l') :
  Ok K H₀ (upd H a (.lst xs')) O σ (ds.set i (.own l')) hd:=by
 obtain ⟨a',xs,h1,h2,h3,h4⟩:=o.readO e
 rw [ea] at h1; cases h1
 have hl:i < ds.length:=(List.getElem?_eq_some_iff.mp e).1
 have k:Keep O H (upd H a (.lst xs')):=fun b u hb eb=>by
  rw [qC (fun (z:b=a)=>hb (z.symm ▸ h2))]; exact eb
 refine ⟨fun b u eb=>?_,fun j l2 b e1 e2=>?_,fun b hb=>?_,by simpa using o.len,fun j s es=>?_,fun j m b hjm hj hm e1 e2=>?_,fun p hp=>(o.hold p hp).keep k⟩
 rotate_left 1
 · by_cases hj : j = i
   · subst hj; exact o.fresh j l b e e2
   · rw [List.getElem?_set_ne (Ne.symm hj)] at e1; exact o.fresh j l2 b e1 e2
 rotate_right 1
 · rw [qC (fun z => by rw [z, o.fresh i l a e ea] at eb; cases eb)]
   exact o.same b u eb
 · by_cases hba : b = a
   · subst hba; exact ⟨xs',qS⟩
   · rw [qC hba]; exact o.dom b hb
 · by_cases hj : j = i
   · subst hj
     rw [List.getElem?_set_self hl] at es
     cases es
     rw [ea]
     exact ⟨h2,xs',qS,r.keep k⟩
   · rw [List.getElem?_set_ne (Ne.symm hj)] at es
     cases s with
     | no=>exact yJ
     | exc t =>
       obtain ⟨a',C',ob',u',q1,q2,q3,q4⟩:=o.readX es
       rw [q1]
       exact ⟨C',ob',u',q2,by rw [qC (fun z=>by rw [z,h3] at q3; cases q3)]; exact q3,q4⟩
     | fr l' =>
       obtain ⟨a',xs'',q1,q2,q0,q3,q4⟩:=o.readF es
       rw [q1]
       exact ⟨q2,q0,xs'',by rw [qC (fun z=>q2 (by rw [z]; exact h2))]; exact q3,q4.keep k⟩
     | v d =>
       obtain ⟨v,q1,q2⟩:=o.read es
       rw [q1]
       exact vF (q2.keep k)
     | own l'' =>
       obtain ⟨b,ys,q1,q2,q3,q4⟩:=o.readO es
       rw [q1]
       refine ⟨q2,ys,?_,q4.keep k⟩
       rw [qC (fun z=>?_)]
       · exact q3
       · subst z
         exact o.apart j i b hj ⟨_,es⟩ ⟨l,e⟩ q1 ea
 · have own':∀ {j:Nat},IsOwn (ds.set i (.own l')) j->IsOwn ds j:=fun {j} ⟨l'',e'⟩=>by
    by_cases hj:j=i
    · subst hj; exact ⟨l,e⟩
    · rw [List.getElem?_set_ne (Ne.symm hj)] at e'; exact ⟨l'',e'⟩
   exact o.apart j m b hjm (own' hj) (own' hm) e1 e2
theorem Ok.holdMore {p:HI} (o:Ok K H₀ H O σ ds hd) (r:HOk K H₀ H O p):Ok K H₀ H O σ ds (p::hd) :=
 ⟨o.same,o.fresh,o.dom,o.len,o.sl,o.apart,fun q hq=>(List.mem_cons.mp hq).elim (fun e=>e ▸ r) (o.hold q)⟩
theorem Ok.holdLess {p:HI} (o:Ok K H₀ H O σ ds (p::hd)):Ok K H₀ H O σ ds hd :=
 ⟨o.same,o.fresh,o.dom,o.len,o.sl,o.apart,fun q hq=>o.hold q (List.mem_cons_of_mem _ hq)⟩
end
section
variable (X:Cx)
def PV (e:Expr) (f:FE):Prop:=∃ t,PE X e t/\∀ H₀ H O σ ds hd d Q,Ok X.K H₀ H O σ ds hd->f ds=some d->(∀ v H',Same H H'->Rep X.K H' O v d->Q v H')->t σ H Q
def PVw (e:Expr) (f:FE):Prop:=∃ t,PE X e t/\∀ H₀ H O σ ds hd d Q,Ok X.K H₀ H O σ ds hd->f ds=some d->(∀ v H',Same H H'->WRep X.K H' O v d->Q v H')->t σ H Q
def PVf (e:Expr) (f:FA):Prop:=∃ t,PE X e t/\∀ H₀ H O σ ds hd l Q,Ok X.K H₀ H O σ ds hd->f ds=some l →
 (∀ a xs H',Same H H'->H a=none->H' a=some (.lst xs)->Reps X.K H' (ins1 a O) xs l->Q (.ref a) H')->t σ H Q
def PTv (e:Expr) (c:FT):Prop:=∃ t,PT X e t/\∀ H₀ H O σ ds hd b Q,Ok X.K H₀ H O σ ds hd->c ds=some b->(∀ H',Same H H'->Q b H')->t σ H Q
def PWv (e:Expr) (c:FT):Prop:=∃ t,PW X e t/\∀ H₀ H O σ ds hd b Q,Ok X.K H₀ H O σ ds hd->c ds=some b->(∀ H',Same H H'->Q b H')->t σ H Q
def PAv (es:List Expr) (f:FA):Prop:=∃ t,PA X es t/\∀ H₀ H O σ ds hd l Q,Ok X.K H₀ H O σ ds hd->f ds=some l->(∀ vs H',Same H H'->Paired (WRep X.K H' O) vs l->Q vs H')->t σ H Q
def PAs (es:List Expr) (f:FA):Prop:=∃ t,PA X es t/\∀ H₀ H O σ ds hd l Q,Ok X.K H₀ H O σ ds hd->f ds=some l->(∀ vs H',Same H H'->Reps X.K H' O vs l->Q vs H')->t σ H Q
end
section
variable {X:Cx}
theorem PV.w {e:Expr} {f:FE} (h:PV X e f):PVw X e f:=by
 obtain ⟨t,ht,hf⟩:=h
 exact ⟨t,ht,fun H₀ H O σ ds hd d Q o e q=>hf H₀ H O σ ds hd d Q o e fun v H' s r=>q v H' s (.inl r)⟩
theorem PVf.s {e:Expr} {f:FA} (h:PVf X e f):PV X e (mkL f):=by
 obtain ⟨t,ht,hf⟩:=h
 refine ⟨t,ht,fun H₀ H O σ ds hd d Q o e q=>?_⟩
 unfold mkL at e
 cases hl:f ds with
 | none=>rw [hl] at e; cases e
 | some l =>
   rw [hl] at e; cases e
   refine hf H₀ H O σ ds hd l Q o hl fun a xs H' s hn he r=>q _ _ s ?_
   exact .lst (o.free hn) (.inl he) (r.less fun _ z=>.inr z)
theorem zU (i:Nat) {x:Str} {pos:Pos} (hN:X.N[i]? = some x:=by rfl) (hv:Vis X.env.scope x:=by first | exact Or.inl rfl | exact Or.inr (Or.inl rfl) | exact Or.inr (Or.inr rfl)) (hd:(x == ("__debug__" : Str))=false:=by decide)
  (hcd:(x == ("__classdict__" : Str))=false:=by decide):PV X (.Name x pos) (qY i):=by
 refine ⟨_,xM hN hv hd hcd,fun H₀ H O σ ds hd d Q o e q=>?_⟩
 unfold qY at e
 cases hs:ds[i]? with
 | none=>rw [hs] at e; cases e
 | some s =>
   rw [hs] at e
   cases s with
   | v d' =>
     cases e
     obtain ⟨v,h1,h2⟩:=o.read hs
     exact ⟨v,h1,q v H (Same.refl _) h2⟩
   | no=>cases e
   | exc _=>cases e
   | fr _=>cases e
   | own l=>cases e
theorem zB (i:Nat) {x:Str} {pos:Pos} (hN:X.N[i]? = some x:=by rfl) (hv:Vis X.env.scope x:=by first | exact Or.inl rfl | exact Or.inr (Or.inl rfl) | exact Or.inr (Or.inr rfl)) (hd:(x == ("__debug__" : Str))=false:=by decide)
  (hcd:(x == ("__classdict__" : Str))=false:=by decide):PVw X (.Name x pos) (zL i):=by
 refine ⟨_,xM hN hv hd hcd,fun H₀ H O σ ds hd d Q o e q=>?_⟩
 unfold zL at e
 cases hs:ds[i]? with
 | none=>rw [hs] at e; cases e
 | some s =>
   rw [hs] at e
   cases s with
   | v d' =>
     cases e
     obtain ⟨v,h1,h2⟩:=o.read hs
     exact ⟨v,h1,q v H (Same.refl _) (.inl h2)⟩
   | no=>cases e
   | exc _=>cases e
   | fr _=>cases e
   | own l =>
     cases e
     obtain ⟨a,xs,h1,h2,h3,h4⟩:=o.readO hs
     exact ⟨.ref a,h1,q _ H (Same.refl _) (.inr ⟨a,xs,l,rfl,rfl,h2,h3,h4⟩)⟩
theorem zG {i:Int} {j pos} : PV X (.Constant (.int i) j pos) (zF (.int i)):=⟨_,pe_int,fun _ H _ _ _ _ _ _ _ e q=>by cases e; exact q _ H (Same.refl _) (.int i)⟩
theorem vZ {b:Bool} {j pos} : PV X (.Constant (.bool b) j pos) (zF (.bl b)):=⟨_,pe_bl,fun _ H _ _ _ _ _ _ _ e q=>by cases e; exact q _ H (Same.refl _) (.bl b)⟩
theorem qN {j pos} : PV X (.Constant .none j pos) (zF .non):=⟨_,pe_non,fun _ H _ _ _ _ _ _ _ e q=>by cases e; exact q _ H (Same.refl _) .non⟩
theorem pv_glob {x:Str} {v:V} {u:Value} {d:D} {pos:Pos} (hg:Gl X x) (hm:X.mg x=some u) (r:RelV v u) (hr:∀ H O,Rep X.K H O v d) (hd:(x == ("__debug__" : Str))=false:=by decide):PV X (.Name x pos) (zF d) :=
 ⟨_,pe_glob hg hm r hd,fun _ H O _ _ _ _ _ _ e q=>by cases e; exact q _ H (Same.refl _) (hr H O)⟩
def OpS (X:Cx) (r:R2) (op:D->D->Option D):Prop:=∀ H O x y dx dy d Q,(∀ a,O a->∃ xs,H a=some (.lst xs))->WRep X.K H O x dx->WRep X.K H O y dy->op dx dy=some d->(∀ v H',Same H H'->Rep X.K H' O v d->Q v H')->r x y H Q
theorem pv_tOp {r:R2} {op:D->D->Option D} (hs:OpS X r op) {a b:Expr} {fa fb:FE} {ta tb:TE} (ha:∀ H₀ H O σ ds hd d Q,Ok X.K H₀ H O σ ds hd->fa ds=some d->(∀ v H',Same H H'->WRep X.K H' O v d->Q v H')->ta σ H Q)
  (hb:∀ H₀ H O σ ds hd d Q,Ok X.K H₀ H O σ ds hd->fb ds=some d->(∀ v H',Same H H'->WRep X.K H' O v d->Q v H')->tb σ H Q) :
  ∀ H₀ H O σ ds hd d Q,Ok X.K H₀ H O σ ds hd->zN op fa fb ds=some d->(∀ v H',Same H H'->Rep X.K H' O v d->Q v H')->tOp r ta tb σ H Q:=by
 intro H₀ H O σ ds hd d Q o e q
 unfold zN at e
 cases h1:fa ds with
 | none=>rw [h1] at e; cases e
 | some dx =>
   cases h2:fb ds with
   | none=>rw [h1,h2] at e; cases e
   | some dy =>
     rw [h1,h2] at e
     refine ha H₀ H O σ ds hd dx _ o h1 fun x H1 s1 r1=>?_
     refine hb H₀ H1 O σ ds hd dy _ (o.mono s1) h2 fun y H2 s2 r2=>?_
     exact hs H2 O x y dx dy d Q ((o.mono s1).mono s2).dom (r1.mono s2) r2 e fun v H' s r=>q v H' ((s1.trans s2).trans s) r
theorem kC {op:Operator} {r:R2} {opD:D->D->Option D} {a b:Expr} {fa fb:FE} {pos:Pos} (ho:OpR X (binaryOp op) r) (hs:OpS X r opD) (ha:PVw X a fa) (hb:PVw X b fb):PV X (.BinOp a op b pos) (zN opD fa fb):=by
 obtain ⟨ta,pa,ha⟩:=ha
 obtain ⟨tb,pb,hb⟩:=hb
 exact ⟨_,pe_op ho pa pb,pv_tOp hs (a:=a) (b:=b) ha hb⟩
theorem pv_cmp {op:CmpOp} {r:R2} {opD:D->D->Option D} {a b:Expr} {fa fb:FE} {pos:Pos} (ho:OpR X (compareOp op) r) (hs:OpS X r opD) (ha:PVw X a fa) (hb:PVw X b fb) (hm:behindInMarks op b=false):PV X (.Compare a [op] [b] pos) (zN opD fa fb):=by
 obtain ⟨ta,pa,ha⟩:=ha
 obtain ⟨tb,pb,hb⟩:=hb
 exact ⟨_,pe_cmpR ho pa pb hm,pv_tOp hs (a:=a) (b:=b) ha hb⟩
theorem pt_cmpV {op:CmpOp} {r:R2} {opD:D->D->Option D} {a b:Expr} {fa fb:FE} {pos:Pos} (ho:OpR X (compareOp op) r) (hs:OpS X r opD) (ha:PVw X a fa) (hb:PVw X b fb) (hm:behindInMarks op b=false):PTv X (.Compare a [op] [b] pos) (qA (zN opD fa fb)):=by
 obtain ⟨ta,pa,ha⟩:=ha
 obtain ⟨tb,pb,hb⟩:=hb
 refine ⟨_,pt_cmpR ho pa pb hm,fun H₀ H O σ ds hd k Q o e q=>?_⟩
 unfold qA at e
 cases h:zN opD fa fb ds with
 | none=>rw [h] at e; cases e
 | some d =>
   rw [h] at e
   refine pv_tOp hs (a:=a) (b:=b) ha hb H₀ H O σ ds hd d _ o h fun v H' s r=>?_
   cases d with
   | bl c=>cases e; cases r; exact ⟨_,rfl,q H' s⟩
   | _=>cases e
theorem os_add:OpS X (fun x y H Q=>rI0 (fun i j=>.int (i+j)) x y H Q \/ ∃ i j,x = .str i/\y = .str j/\i.length+j.length<=sizeLine/\Q (.str (i++j)) H) xP:=by
 intro H O x y dx dy d Q ho rx ry e q
 cases dx <;> cases dy <;> first | (simp [xP] at e; done) | skip
 · cases e
   rw [rx.int',ry.int']
   exact .inl ⟨_,_,rfl,rfl,q _ H (Same.refl _) (.int _)⟩
 · rename_i x y
   simp only [xP] at e
   split at e
   · rename_i hl
     cases e
     rw [rx.str',ry.str']
     exact .inr ⟨_,_,rfl,rfl,hl,q _ H (Same.refl _) (.str _)⟩
   · cases e
theorem op_addU:OpR X (binaryOp .Add) (fun x y H Q=>rI0 (fun i j=>.int (i+j)) x y H Q \/ ∃ i j,x = .str i/\y = .str j/\i.length+j.length<=sizeLine/\Q (.str (i++j)) H):=op_add.or op_add_str
theorem os_sub:OpS X (rI0 fun i j=>.int (i - j)) subD:=by
 intro H O x y dx dy d Q ho rx ry e q
 cases dx <;> cases dy <;> first | (simp [subD] at e; done) | skip
 cases e
 rw [rx.int',ry.int']
 exact ⟨_,_,rfl,rfl,q _ H (Same.refl _) (.int _)⟩
def CDivB (i j:Int):Prop:=divOk j
theorem op_fdivB:OpR X (binaryOp .FloorDiv) (rI CDivB fun i j=>.int (i / j)):=opI fun i j _ _ _ _ _ hc q=>by
 have e:i.fdiv j=i / j:=Int.fdiv_eq_ediv_of_nonneg _ (Int.le_of_lt hc.1)
 refine floordiv_int (by have:=hc.1; omega) ?_ (.inl (PyProof.noPylong_of_log2 hc.2))
 rw [e]; exact q
theorem os_fdiv:OpS X (rI CDivB fun i j=>.int (i / j)) jC:=by
 intro H O x y dx dy d Q ho rx ry e q
 cases dx <;> cases dy <;> first | (simp [jC] at e; done) | skip
 simp only [jC] at e
 split at e
 · rename_i hc
   cases e
   rw [rx.int',ry.int']
   exact ⟨_,_,rfl,rfl,hc,q _ H (Same.refl _) (.int _)⟩
 · cases e
theorem os_mod:OpS X (rI (fun _ j=>0 < j) fun i j=>.int (i % j)) xV:=by
 intro H O x y dx dy d Q ho rx ry e q
 cases dx <;> cases dy <;> first | (simp [xV] at e; done) | skip
 simp only [xV] at e
 split at e
 · rename_i hc
   cases e
   rw [rx.int',ry.int']
   exact ⟨_,_,rfl,rfl,hc,q _ H (Same.refl _) (.int _)⟩
 · cases e
theorem wT {p:Int->Int->Bool} : OpS X (rI0 fun i j=>.bl (p i j)) (cmpI p):=by
 intro H O x y dx dy d Q ho rx ry e q
 cases dx <;> cases dy <;> first | (simp [cmpI] at e; done) | skip
 cases e
 rw [rx.int',ry.int']
 exact ⟨_,_,rfl,rfl,q _ H (Same.refl _) (.bl _)⟩
end
section
variable {X:Cx}
theorem PV.t {e:Expr} {f:FE} (h:PV X e f) (he:∀ whole,isTrue e X.env whole=(do let v <- whole; standAt e.pos; holding [v] (truthy v)):=by intro _; rfl):PTv X e (qA f):=by
 obtain ⟨t,ht,hf⟩:=h
 refine ⟨_,pt_val ht he,fun H₀ H O σ ds hd k Q o e q=>?_⟩
 unfold qA at e
 cases h:f ds with
 | none=>rw [h] at e; cases e
 | some d =>
   rw [h] at e
   refine hf H₀ H O σ ds hd d _ o h fun v H' s r=>?_
   cases d with
   | bl c=>cases e; cases r; exact ⟨_,rfl,q H' s⟩
   | _=>cases e
theorem pwv_and1 {a:Expr} {pos:Pos} {c:FT} (ha:PTv X a c):PWv X (.BoolOp .And [a] pos) c:=by
 obtain ⟨t,ht,hf⟩:=ha
 exact ⟨_,pw_and1 ht,hf⟩
theorem pwv_or1 {a:Expr} {pos:Pos} {c:FT} (ha:PTv X a c):PWv X (.BoolOp .Or [a] pos) c:=by
 obtain ⟨t,ht,hf⟩:=ha
 exact ⟨_,pw_or1 ht,hf⟩
theorem pwv_and {a b:Expr} {rest:List Expr} {pos:Pos} {c d:FT} (ha:PTv X a c) (hb:PWv X (.BoolOp .And (b::rest) pos) d):PWv X (.BoolOp .And (a::b::rest) pos) (andT c d):=by
 obtain ⟨t,ht,hf⟩:=ha
 obtain ⟨u,hu,hg⟩:=hb
 refine ⟨_,pw_and ht hu,fun H₀ H O σ ds hd k Q o e q=>?_⟩
 unfold andT at e
 cases h:c ds with
 | none=>rw [h] at e; cases e
 | some b =>
   rw [h] at e
   refine hf H₀ H O σ ds hd b _ o h fun H' s=>?_
   cases b with
   | true=>exact iteT (hg H₀ H' O σ ds hd k Q (o.mono s) (by simpa using e) fun H'' s'=>q H'' (s.trans s'))
   | false =>
     have:false=k:=by simpa using e
     subst this
     exact iteF (q H' s)
theorem pwv_or {a b:Expr} {rest:List Expr} {pos:Pos} {c d:FT} (ha:PTv X a c) (hb:PWv X (.BoolOp .Or (b::rest) pos) d):PWv X (.BoolOp .Or (a::b::rest) pos) (orT c d):=by
 obtain ⟨t,ht,hf⟩:=ha
 obtain ⟨u,hu,hg⟩:=hb
 refine ⟨_,pw_or ht hu,fun H₀ H O σ ds hd k Q o e q=>?_⟩
 unfold orT at e
 cases h:c ds with
 | none=>rw [h] at e; cases e
 | some b =>
   rw [h] at e
   refine hf H₀ H O σ ds hd b _ o h fun H' s=>?_
   cases b with
   | false=>exact iteF (hg H₀ H' O σ ds hd k Q (o.mono s) (by simpa using e) fun H'' s'=>q H'' (s.trans s'))
   | true =>
     have:true=k:=by simpa using e
     subst this
     exact iteT (q H' s)
theorem PWv.t {e:Expr} {c:FT} (h:PWv X e c):PTv X e c:=by
 obtain ⟨t,ht,hf⟩:=h
 exact ⟨t,ht.pt,hf⟩
theorem ptv_not {a:Expr} {pos:Pos} {c:FT} (ha:PTv X a c):PTv X (.UnaryOp .Not a pos) (notT c):=by
 obtain ⟨t,ht,hf⟩:=ha
 refine ⟨_,pt_not ht,fun H₀ H O σ ds hd k Q o e q=>?_⟩
 unfold notT at e
 cases h:c ds with
 | none=>rw [h] at e; cases e
 | some b =>
   rw [h] at e
   cases e
   exact hf H₀ H O σ ds hd b _ o h fun H' s=>q H' s
theorem pv_one {a:Expr} {op} {pos:Pos} {f:FE} (ha:PV X a f):PV X (.BoolOp op [a] pos) f:=by
 obtain ⟨t,ht,hf⟩:=ha
 exact ⟨_,pe_one ht,hf⟩
theorem pv_and {a b:Expr} {rest:List Expr} {pos:Pos} {f g:FE} (ha:PV X a f) (hb:PV X (.BoolOp .And (b::rest) pos) g):PV X (.BoolOp .And (a::b::rest) pos) (andV f g):=by
 obtain ⟨t,ht,hf⟩:=ha
 obtain ⟨u,hu,hg⟩:=hb
 refine ⟨_,pe_and ht hu,fun H₀ H O σ ds hd d Q o e q=>?_⟩
 unfold andV at e
 cases h:f ds with
 | none=>rw [h] at e; cases e
 | some dd =>
   rw [h] at e
   refine hf H₀ H O σ ds hd dd _ o h fun v H' s r=>?_
   cases dd with
   | bl c =>
     cases r
     cases c with
     | true=>exact ⟨true,rfl,iteT (hg H₀ H' O σ ds hd d Q (o.mono s) e fun v H'' s'=>q v H'' (s.trans s'))⟩
     | false =>
       have:D.bl false=d:=Option.some.inj e
       subst this
       exact ⟨false,rfl,iteF (q _ H' s (.bl false))⟩
   | _=>cases e
theorem pv_if {c a b:Expr} {pos:Pos} {fc:FT} {f g:FE} (hc:PTv X c fc) (ha:PV X a f) (hb:PV X b g):PV X (.IfExp c a b pos) (ifV fc f g):=by
 obtain ⟨tc,pc,hc⟩:=hc
 obtain ⟨t,ht,hf⟩:=ha
 obtain ⟨u,hu,hg⟩:=hb
 refine ⟨_,pe_ifExp pc ht hu,fun H₀ H O σ ds hd d Q o e q=>?_⟩
 unfold ifV at e
 cases h:fc ds with
 | none=>rw [h] at e; cases e
 | some k =>
   rw [h] at e
   refine hc H₀ H O σ ds hd k _ o h fun H' s=>?_
   cases k with
   | true=>exact iteT (hf H₀ H' O σ ds hd d Q (o.mono s) (by simpa using e) fun v H'' s'=>q v H'' (s.trans s'))
   | false=>exact iteF (hg H₀ H' O σ ds hd d Q (o.mono s) (by simpa using e) fun v H'' s'=>q v H'' (s.trans s'))
theorem yN:PAv X [] zS:=⟨_,xK,fun _ H _ _ _ _ _ _ _ e q=>by cases e; exact q _ H (Same.refl _) .nil⟩
theorem zP:PAs X [] zS:=⟨_,xK,fun _ H _ _ _ _ _ _ _ e q=>by cases e; exact q _ H (Same.refl _) .nil⟩
theorem jI {e:Expr} {es:List Expr} {f:FE} {g:FA} (ha:PVw X e f) (hr:PAv X es g) (hs:starEach (e::es) X.env=(false,eval e X.env)::starEach es X.env:=by rfl):PAv X (e::es) (zD f g):=by
 obtain ⟨t,ht,hf⟩:=ha
 obtain ⟨u,hu,hg⟩:=hr
 refine ⟨_,jZ ht hu hs,fun H₀ H O σ ds hd l Q o e q=>?_⟩
 unfold zD at e
 cases h:f ds with
 | none=>rw [h] at e; cases e
 | some x =>
   cases h2:g ds with
   | none=>rw [h,h2] at e; cases e
   | some r =>
     rw [h,h2] at e
     cases e
     refine hf H₀ H O σ ds hd x _ o h fun v H1 s1 r1=>?_
     refine hg H₀ H1 O σ ds hd r _ (o.mono s1) h2 fun vs H2 s2 r2=>?_
     exact q _ H2 (s1.trans s2) (.cons (r1.mono s2) r2)
theorem zE {e:Expr} {es:List Expr} {f:FE} {g:FA} (ha:PV X e f) (hr:PAs X es g) (hs:starEach (e::es) X.env=(false,eval e X.env)::starEach es X.env:=by rfl):PAs X (e::es) (zD f g):=by
 obtain ⟨t,ht,hf⟩:=ha
 obtain ⟨u,hu,hg⟩:=hr
 refine ⟨_,jZ ht hu hs,fun H₀ H O σ ds hd l Q o e q=>?_⟩
 unfold zD at e
 cases h:f ds with
 | none=>rw [h] at e; cases e
 | some x =>
   cases h2:g ds with
   | none=>rw [h,h2] at e; cases e
   | some r =>
     rw [h,h2] at e
     cases e
     refine hf H₀ H O σ ds hd x _ o h fun v H1 s1 r1=>?_
     refine hg H₀ H1 O σ ds hd r _ (o.mono s1) h2 fun vs H2 s2 r2=>?_
     exact q _ H2 (s1.trans s2) (.cons (r1.mono s2) r2)
theorem jR {H:Hp} {p:Addr} (h:H p=none) (o:HO):Same H (upd H p o):=fun b u q=>by rw [qC (jS q h)]; exact q
theorem qV {es:List Expr} {pos:Pos} {g:FA} (h:PAs X es g):PVf X (.List es pos) (qE g):=by
 obtain ⟨t,ht,hf⟩:=h
 refine ⟨_,pe_lst ht,fun H₀ H O σ ds hd l Q o e q=>?_⟩
 unfold qE at e
 cases h:g ds with
 | none=>rw [h] at e; cases e
 | some l' =>
   rw [h] at e
   simp only [Option.bind_some] at e
   split at e
   · rename_i hl
     cases e
     refine hf H₀ H O σ ds hd l _ o h fun vs H1 s1 r1=>⟨by rw [r1.length]; exact hl,fun p hp=>?_⟩
     refine q p vs _ (s1.trans (jR hp _)) (s1.free hp) qS ?_
     exact (r1.more hp).mono (jR hp _)
   · cases e
theorem qQ {es:List Expr} {x1} {pos:Pos} {g:FA} (h:PAs X es g):PV X (.Tuple es x1 pos) (mkT (qE g)):=by
 obtain ⟨t,ht,hf⟩:=h
 refine ⟨_,pe_tup ht,fun H₀ H O σ ds hd d Q o e q=>?_⟩
 unfold mkT qE at e
 cases h:g ds with
 | none=>rw [h] at e; cases e
 | some l' =>
   rw [h] at e
   simp only [Option.bind_some] at e
   split at e
   · rename_i hl
     cases e
     refine hf H₀ H O σ ds hd l' _ o h fun vs H1 s1 r1=>⟨by rw [r1.length]; exact hl,fun p hp=>?_⟩
     refine q _ _ (s1.trans (jR hp _)) ?_
     exact .tup ((o.mono s1).free hp) (.inl qS) (r1.mono (jR hp _))
   · cases e
theorem atI_rep {K:Frag} {H:Hp} {O:Addr->Prop} {xs:List V} {l:List D} {i:Int} {d:D} (r:Reps K H O xs l) (e:atI l i=some d):∃ v,atI xs i=some v/\Rep K H O v d:=by
 unfold atI at e ⊢
 rw [r.length]
 cases h:ixN l.length i with
 | none=>rw [h] at e; cases e
 | some j =>
   rw [h] at e
   exact r.get e
theorem ix_sem {K:Frag} {H:Hp} {O:Addr->Prop} {x y:V} {dx dy d:D} {Q:VK} (rx:WRep K H O x dx) (ry:WRep K H O y dy) (e:ixD dx dy=some d) (q:∀ v H',Same H H'->Rep K H' O v d->Q v H'):rIx K x y H Q:=by
 cases dx <;> cases dy <;> first | (simp [ixD] at e; done) | skip
 · simp only [ixD] at e
   split at e
   · rename_i hl
     rw [rx.str',ry.int']
     rename_i z i
     cases hc:atI z.cps.toList i with
     | none=>rw [hc] at e; cases e
     | some c =>
       rw [hc] at e
       cases e
       exact .inr (.inr ⟨_,_,c,rfl,rfl,hl,hc,q _ H (Same.refl _) (.str _)⟩)
   · cases e
 · obtain ⟨a, xs, rfl, hs, r⟩ := rx.seqT
   rw [ry.int']
   obtain ⟨v,h1,h2⟩:=atI_rep r e
   exact .inr (.inl ⟨a,xs,_,v,rfl,rfl,hs,h1,q _ H (Same.refl _) h2⟩)
 · obtain ⟨a, xs, rfl, hs, r⟩ := rx.seqL
   rw [ry.int']
   obtain ⟨v,h1,h2⟩:=atI_rep r e
   exact .inl ⟨a,xs,_,v,rfl,rfl,hs,h1,q _ H (Same.refl _) h2⟩
theorem os_ix:OpS X (rIx X.K) ixD:=fun H O x y dx dy d Q ho rx ry e q=>ix_sem rx ry e q
theorem qH {a b:Expr} {fa fb:FE} {pos:Pos} (ha:PVw X a fa) (hb:PVw X b fb) (hs:PlainIx b:=by exact fun _ _=>rfl):PV X (.Subscript a b pos) (zN ixD fa fb):=by
 obtain ⟨ta,pa,ha⟩:=ha
 obtain ⟨tb,pb,hb⟩:=hb
 exact ⟨_,pe_ix ix_seq pa pb hs,pv_tOp os_ix (a:=a) (b:=b) ha hb⟩
end
def RetOk (K:Frag) (H H':Hp) (v:V):Ret->Prop
 | .val d=>Rep K H' (Old H) v d
 | .fresh l=>∃ a xs,v = .ref a/\H a=none/\H' a=some (.lst xs)/\Reps K H' (ins1 a (Old H)) xs l
 | .any d=>Rep K H' jF v d
def RetB (K:Frag) (H:Hp) (hd:Hold) (v:V):Ret->Prop
 | .any d=>∀ B,HI.base B∈hd->Rep K H B v d
 | _=>True
def spF (K:Frag) (n:Nat) (F:List D->Option Ret):Sp:=fun vs H Q _=>vs.length=n/\∃ ds r,Reps K H jF vs ds/\F ds=some r/\∀ v H',Same H H'->RetOk K H H' v r->Q v H'
section
variable {X:Cx}
theorem retV_ok {K:Frag} {H H':Hp} {O:Addr->Prop} {v:V} {r:Ret} {d:D} (h:RetOk K H H' v r) (e:retV r=some d) (ho:∀ a,O a->Old H a):Rep K H' O v d:=by
 cases r with
 | any d'=>cases e
 | val d'=>cases e; exact h.less ho
 | fresh l =>
   cases e
   obtain ⟨a,xs,rfl,h1,h2,h3⟩:=h
   refine .lst (fun z=>?_) (.inl h2) (h3.less fun b z=>.inr (ho b z))
   obtain ⟨o,e,_⟩:=ho a z
   rw [h1] at e; cases e
theorem retF_ok {K:Frag} {H H':Hp} {O:Addr->Prop} {v:V} {r:Ret} {l:List D} (h:RetOk K H H' v r) (e:retF r=some l) (ho:∀ a,O a->Old H a):∃ a xs,v = .ref a/\H a=none/\H' a=some (.lst xs)/\Reps K H' (ins1 a O) xs l:=by
 cases r with
 | any d'=>cases e
 | val d'=>cases e
 | fresh l' =>
   cases e
   obtain ⟨a,xs,rfl,h1,h2,h3⟩:=h
   exact ⟨a,xs,rfl,h1,h2,h3.less fun b z=>z.elim .inl fun z=>.inr (ho b z)⟩
section
variable {k:Nat} {f:Addr} {fd:FuncData} {ps:List Str} {n:Nat} {F:List D->Option Ret} {x:Str} {p pos:Pos} {e:Expr} {es:List Expr} {g:FA}
end
def CallS (X:Cx) (r:List V->Hp->VK->Prop) (F:List D->Option D):Prop:=∀ H O vs l d Q,(∀ a,O a->∃ xs,H a=some (.lst xs))->Paired (WRep X.K H O) vs l->F l=some d->(∀ v H',Same H H'->Rep X.K H' O v d->Q v H')->r vs H Q
theorem pv_callB {x:Str} {p pos:Pos} {e:Expr} {es:List Expr} {id:String} {r:List V->Hp->VK->Prop} {F:List D->Option D} {g:FA} (hc:CallR X (.builtin id) r) (hs:CallS X r F) (hm:X.mg x=none) (hv:bootBuiltins x=some (.builtin id)) (ha:PAv X (e::es) g)
  (hg:Gl X x) (hn:x≠"__name__":=by decide) (hdb:(x == ("__debug__" : Str))=false:=by decide) (he:starEach (e::es) X.env=(false,eval e X.env)::starEach es X.env:=by rfl) (hpl:(backTo pos (starEach es X.env)).any (·.1)=false:=by rfl) :
  PV X (.Call (.Name x p) (e::es) [] pos) (callB F g):=by
 obtain ⟨t,ht,hf⟩:=ha
 refine ⟨_,pe_callB hc hg hm hv ht hn hdb he hpl,fun H₀ H O σ ds hd d Q o e q=>?_⟩
 unfold callB at e
 cases h:g ds with
 | none=>rw [h] at e; cases e
 | some l =>
   rw [h] at e
   refine hf H₀ H O σ ds hd l _ o h fun vs H1 s1 r1=>?_
   exact hs H1 O vs l d Q (o.mono s1).dom r1 e fun v H' s' r=>q v H' (s1.trans s') r
theorem call_lenU:CallR X (.builtin "len") (fun xs H Q=>(∃ p ys,xs=[.ref p]/\(SqL X.K H p ys \/ SqT X.K H p ys)/\Q (.int ys.length) H) \/ ∃ z,xs=[.str z]/\z.length<=sizeLine/\Q (.int z.length) H):=call_len_seq.or call_len_str
theorem cs_len:CallS X (fun xs H Q=>(∃ p ys,xs=[.ref p]/\(SqL X.K H p ys \/ SqT X.K H p ys)/\Q (.int ys.length) H) \/ ∃ z,xs=[.str z]/\z.length<=sizeLine/\Q (.int z.length) H) lenD:=by
 intro H O vs l d Q ho r e q
 match l,r,e with
 | [.lst l], .cons r .nil, e =>
   cases e
   obtain ⟨a,xs,rfl,hs,rs⟩:=r.seqL
   refine .inl ⟨a,xs,rfl,.inl hs,?_⟩
   rw [rs.length]
   exact q _ H (Same.refl _) (.int _)
 | [.tup l], .cons r .nil, e =>
   cases e
   obtain ⟨a,xs,rfl,hs,rs⟩:=r.seqT
   refine .inl ⟨a,xs,rfl,.inr hs,?_⟩
   rw [rs.length]
   exact q _ H (Same.refl _) (.int _)
 | [.str x], .cons r .nil, e =>
   simp only [lenD] at e
   split at e
   · rename_i hl
     cases e
     rw [r.str']
     exact .inr ⟨x,rfl,hl,q _ H (Same.refl _) (.int _)⟩
   · cases e
theorem vE {p pos:Pos} {e:Expr} {g:FA} (hm:X.mg "len" = none) (ha:PAv X [e] g) (hg:Gl X "len":=by rfl) (he:starEach [e] X.env=[(false,eval e X.env)]:=by rfl) :
  PV X (.Call (.Name "len" p) [e] [] pos) (callB lenD g):=pv_callB call_lenU cs_len hm PySem.boot_len ha hg (by decide) (by decide) he rfl
def After (X:Cx) (H₀ : Hp) (hd:Hold) (E:Ends):Out->Prop
 | .nx ds=>∀ σ H O,Ok X.K H₀ H O σ ds hd->E.nx σ H
 | .bk ds=>∀ σ H O,Ok X.K H₀ H O σ ds hd->E.bk σ H
 | .ct ds=>∀ σ H O,Ok X.K H₀ H O σ ds hd->E.ct σ H
 | .rt r=>∀ v H,Same H₀ H->RetOk X.K H₀ H v r->RetB X.K H hd v r->E.rt v H
variable (X) in
def PSv (st:Stmt) (g:FS):Prop:=∃ t,PS X st t/\∀ H₀ H O σ ds hd out E,Ok X.K H₀ H O σ ds hd->g ds=some out->After X H₀ hd E out->t E σ H
variable (X) in
def PSsv (st:List Stmt) (g:FS):Prop:=∃ t,PSs X st t/\∀ H₀ H O σ ds hd out E,Ok X.K H₀ H O σ ds hd->g ds=some out->After X H₀ hd E out->t E σ H
theorem zR:PSsv X [] qR:=⟨_,pss_nil,fun _ H O σ ds hd out E o e h=>by cases e; exact h σ H O o⟩
theorem zH {st:Stmt} {rest:List Stmt} {f g:FS} (h1:PSv X st f) (h2:PSsv X rest g):PSsv X (st::rest) (qW f g):=by
 obtain ⟨t,ht,hf⟩:=h1
 obtain ⟨u,hu,hg⟩:=h2
 refine ⟨_,wZ ht hu,fun H₀ H O σ ds hd out E o e h=>?_⟩
 unfold qW at e
 cases h1:f ds with
 | none=>rw [h1] at e; cases e
 | some o1 =>
   rw [h1] at e
   refine hf H₀ H O σ ds hd o1 _ o h1 ?_
   cases o1 with
   | nx ds'=>exact fun σ' H' O' o'=>hg H₀ H' O' σ' ds' hd out E o' e h
   | rt r=>cases e; exact h
   | bk ds'=>cases e; exact h
   | ct ds'=>cases e; exact h
theorem zI {st:Stmt} {f:FS} (h1:PSv X st f):PSsv X [st] f:=by
 obtain ⟨t,ht,hf⟩:=h1
 exact ⟨_,pss_one ht,hf⟩
theorem psv_continue {pos:Pos} : PSv X (.Continue pos) (fun ds=>some (.ct ds)):=⟨_,ps_continue,fun _ H O σ ds hd out E o e h=>by cases e; exact h σ H O o⟩
theorem qJ {c:Expr} {a b:List Stmt} {pos:Pos} {fc:FT} {f g:FS} (hc:PTv X c fc) (ha:PSsv X a f) (hb:PSsv X b g):PSv X (.If c a b pos) (ifG fc f g):=by
 obtain ⟨tc,pc,hc⟩:=hc
 obtain ⟨t,ht,hf⟩:=ha
 obtain ⟨u,hu,hg⟩:=hb
 refine ⟨_,ps_if pc ht hu,fun H₀ H O σ ds hd out E o e h=>?_⟩
 unfold ifG at e
 cases h1:fc ds with
 | none=>rw [h1] at e; cases e
 | some k =>
   rw [h1] at e
   refine hc H₀ H O σ ds hd k _ o h1 fun H' s=>?_
   cases k with
   | true=>exact iteT (hf H₀ H' O σ ds hd out E (o.mono s) (by simpa using e) h)
   | false=>exact iteF (hg H₀ H' O σ ds hd out E (o.mono s) (by simpa using e) h)
theorem zQ {i:Nat} {x:Str} {e:Expr} {pos pos':Pos} {f:FE} (hN:X.N.Nodup) (he:PV X e f) (hi:X.N[i]? = some x:=by rfl) (hx:Loc X.env.scope x:=by first | exact Or.inl rfl | exact Or.inr rfl) (hs:swapsWith e (some (.Name x pos')) pos.line X.env=pure false:=by rfl)
  (hf:X.fn x=true \/ X.env.scope.names.lookup x=some .local:=by first | exact .inl rfl | exact .inr rfl):PSv X (.Assign [.Name x pos'] e pos) (jT i f):=by
 obtain ⟨t,ht,hg⟩:=he
 refine ⟨_,ps_set hN hi hx ht hs hf,fun H₀ H O σ ds hd out E o e h=>?_⟩
 unfold jT at e
 cases h1:f ds with
 | none=>rw [h1] at e; cases e
 | some d =>
   rw [h1] at e
   cases e
   exact hg H₀ H O σ ds hd d _ o h1 fun v H' s r=>h _ _ _ ((o.mono s).set r)
theorem yR {i:Nat} {x:Str} {e:Expr} {pos pos':Pos} {f:FA} (hN:X.N.Nodup) (he:PVf X e f) (hi:X.N[i]? = some x:=by rfl) (hx:Loc X.env.scope x:=by first | exact Or.inl rfl | exact Or.inr rfl) (hs:swapsWith e (some (.Name x pos')) pos.line X.env=pure false:=by rfl)
  (hf:X.fn x=true \/ X.env.scope.names.lookup x=some .local:=by first | exact .inl rfl | exact .inr rfl):PSv X (.Assign [.Name x pos'] e pos) (setOG i f):=by
 obtain ⟨t,ht,hg⟩:=he
 refine ⟨_,ps_set hN hi hx ht hs hf,fun H₀ H O σ ds hd out E o e h=>?_⟩
 unfold setOG at e
 cases h1:f ds with
 | none=>rw [h1] at e; cases e
 | some l =>
   rw [h1] at e
   cases e
   exact hg H₀ H O σ ds hd l _ o h1 fun a xs H' s hn he r=>h _ _ _ (o.setO s hn he r)
theorem qK {e:Expr} {pos:Pos} {f:FE} (he:PVw X e f):PSv X (.Return (some e) pos) (retG f):=by
 obtain ⟨t,ht,hg⟩:=he
 refine ⟨_,vV ht,fun H₀ H O σ ds hd out E o e h=>?_⟩
 unfold retG at e
 cases h1:f ds with
 | none=>rw [h1] at e; cases e
 | some d =>
   rw [h1] at e
   simp only [Option.bind_some,flatR] at e
   split at e
   · rename_i hf
     cases e
     exact hg H₀ H O σ ds hd d _ o h1 fun v H' s r=>h _ _ (o.same.trans s) (Rep.flatten (fun a z=>Old.mono (o.same.trans s) z) hf r.any) True.intro
   · cases e
theorem yE {e:Expr} {pos:Pos} {f:FA} (he:PVf X e f):PSv X (.Return (some e) pos) (retOG f):=by
 obtain ⟨t,ht,hg⟩:=he
 refine ⟨_,vV ht,fun H₀ H O σ ds hd out E o e h=>?_⟩
 unfold retOG at e
 cases h1:f ds with
 | none=>rw [h1] at e; cases e
 | some l =>
   rw [h1] at e
   simp only [Option.bind_some,flatF] at e
   split at e
   · rename_i hf
     cases e
     refine hg H₀ H O σ ds hd l _ o h1 fun a xs H' s hn he r=>h _ _ (o.same.trans s) ⟨a,xs,rfl,o.same.free hn,he,Reps.flatten (fun b z=>?_) hf r⟩ True.intro
     rcases z with rfl | z
     · exact ⟨_,he,rfl⟩
     · exact Old.mono (o.same.trans s) z
   · cases e
theorem xT (i:Nat) {x:Str} {pos pos':Pos} (hN:X.N[i]? = some x:=by rfl) (hv:Vis X.env.scope x:=by first | exact Or.inl rfl | exact Or.inr (Or.inl rfl) | exact Or.inr (Or.inr rfl)) (hd:(x == ("__debug__" : Str))=false:=by decide)
  (hcd:(x == ("__classdict__" : Str))=false:=by decide):PSv X (.Return (some (.Name x pos')) pos) (retXG i):=by
 refine ⟨_,vV (xM hN hv hd hcd),fun H₀ H O σ ds hd out E o e h=>?_⟩
 unfold retXG at e
 cases hs:ds[i]? with
 | none=>rw [hs] at e; cases e
 | some s =>
   rw [hs] at e
   cases s with
   | v d'=>cases e
   | no=>cases e
   | exc _=>cases e
   | fr _=>cases e
   | own l =>
     simp only [flatF] at e
     split at e
     · rename_i hf
       cases e
       obtain ⟨a,xs,h1,h2,h3,h4⟩:=o.readO hs
       refine ⟨.ref a,h1,h _ _ o.same ⟨a,xs,rfl,o.fresh i l a hs h1,h3,Reps.flatten (fun b z=>?_) hf h4⟩ True.intro⟩
       rcases z with rfl | z
       · exact ⟨_,h3,rfl⟩
       · exact Old.mono o.same z
     · cases e
theorem psv_put {i:Nat} {x:Str} {e ek:Expr} {pos p1 p2:Pos} {fk fe:FE} (he:PV X e fe) (hk:PV X ek fk) (hN:X.N[i]? = some x:=by rfl) (hv:Vis X.env.scope x:=by first | exact Or.inl rfl | exact Or.inr (Or.inl rfl) | exact Or.inr (Or.inr rfl)) (hd:(x == ("__debug__" : Str))=false:=by decide)
  (hcd:(x == ("__classdict__" : Str))=false:=by decide)
  (ha:∀ v,assign (.Subscript (.Name x p1) ek p2) X.env v=(do
    let ov <- holding [v] (eval (.Name x p1) X.env)
    let iv <- holding [v,ov] (eval ek X.env)
    standAt p2
    holding [v,ov,iv] (setItem ov iv v)
    release [v,ov,iv] []):=by intro _; rfl)
  (hs:swapsWithSole [.Subscript (.Name x p1) ek p2] e pos.line X.env=pure false:=by rfl) (hw:swappedStores [.Subscript (.Name x p1) ek p2] e X.env=pure none:=by rfl)
  (h1:(assignEach [.Subscript (.Name x p1) ek p2] X.env).map (·.2)=[assign (.Subscript (.Name x p1) ek p2) X.env]:=by rfl):PSv X (.Assign [.Subscript (.Name x p1) ek p2] e pos) (putG i fk fe):=by
 obtain ⟨te,pe,he⟩:=he
 obtain ⟨tk,pk,hk⟩:=hk
 refine ⟨_,ps_asg pe (pg_sub (xM hN hv hd hcd) pk set_list ha) hs hw h1,fun H₀ H O σ ds hd out E o e h=>?_⟩
 unfold putG at e
 cases hsl:ds[i]? with
 | none=>rw [hsl] at e; cases e
 | some s =>
   rw [hsl] at e
   cases s with
   | v d'=>cases e
   | no=>cases e
   | exc _=>cases e
   | fr _=>cases e
   | own l =>
     simp only at e
     cases h1:fe ds with
     | none=>rw [h1] at e; cases e
     | some d =>
       cases h2:fk ds with
       | none=>rw [h1,h2] at e; cases e
       | some kd =>
         rw [h1,h2] at e
         simp only [Option.bind_some] at e
         cases kd with
         | int n =>
           simp only at e
           cases h3:ixN l.length n with
           | none=>rw [h3] at e; cases e
           | some j =>
             rw [h3] at e
             cases e
             refine he H₀ H O σ ds hd d _ o h1 fun v H1 s1 r1=>?_
             obtain ⟨a,xs,q1,q2,q3,q4⟩:=(o.mono s1).readO hsl
             refine ⟨.ref a,q1,?_⟩
             refine hk H₀ H1 O σ ds hd _ _ (o.mono s1) h2 fun kv H2 s2 r2=>?_
             cases r2
             refine ⟨a,xs,n,j,rfl,rfl,s2 _ _ q3,by rw [q4.length]; exact h3,?_⟩
             exact h _ _ _ (((o.mono s1).mono s2).modify hsl q1 ((q4.mono s2).set (r1.mono s2) j))
         | _=>cases e
theorem xL {i:Nat} {x:Str} {e:Expr} {pos p1 p2 p3:Pos} {fe:FE} (he:PV X e fe) (hN:X.N[i]? = some x:=by rfl) (hv:Vis X.env.scope x:=by first | exact Or.inl rfl | exact Or.inr (Or.inl rfl) | exact Or.inr (Or.inr rfl)) (hd:(x == ("__debug__" : Str))=false:=by decide)
  (hcd:(x == ("__classdict__" : Str))=false:=by decide)
  (hfew:((backTo p3 (starEach [e] X.env)).all (fun x=>!x.1) && (backToKw p3 (keywordEach [] X.env)).all (fun x=>x.1.isSome)
    && decide ([e].length+([]:List Keyword).length+(if ([]:List Keyword).isEmpty then 0 else 1) < 30))=true:=by rfl)
  (hline:(p2.endLine == p3.line)=true:=by rfl) (hs:starEach [e] X.env=(false,eval e X.env)::starEach [] X.env:=by rfl)
  (hbase:attributeBase (.Name x p1) "append" X.env (eval (.Name x p1) X.env)=eval (.Name x p1) X.env:=by rfl) (hsw:swapsWith (.Call (.Attribute (.Name x p1) "append" p2) [e] [] p3) none pos.line X.env=pure false:=by rfl) :
  PSv X (.Expr (.Call (.Attribute (.Name x p1) "append" p2) [e] [] p3) pos) (appG i fe):=by
 obtain ⟨te,pe,he⟩:=he
 refine ⟨_,ps_expr (pe_bm PySem.F.plainAttrs_list PySem.F.slot_list_append PySem.F.type_list_append mt_append (xM hN hv hd hcd) (jZ pe xK hs) hbase hfew hline hs rfl) hsw,fun H₀ H O σ ds hd out E o e h=>?_⟩
 unfold appG at e
 cases hsl:ds[i]? with
 | none=>rw [hsl] at e; cases e
 | some s =>
   rw [hsl] at e
   cases s with
   | v d'=>cases e
   | no=>cases e
   | exc _=>cases e
   | fr _=>cases e
   | own l =>
     simp only at e
     cases h1:fe ds with
     | none=>rw [h1] at e; cases e
     | some d =>
       rw [h1] at e
       simp only [Option.bind_some] at e
       split at e
       · rename_i hl
         cases e
         obtain ⟨a,xs,q1,q2,q3,q4⟩:=o.readO hsl
         refine ⟨.ref a,q1,.inl ⟨rfl,xs,SqL.of q3⟩,?_⟩
         refine he H₀ H O σ ds hd d _ o h1 fun v H1 s1 r1=>?_
         refine ⟨a,xs,v,rfl,rfl,s1 _ _ q3,by rw [q4.length]; exact hl,?_⟩
         exact h _ _ _ ((o.mono s1).modify hsl q1 ((q4.mono s1).append (.cons r1 .nil)))
       · cases e
theorem wP {K:Frag} {H:Hp} {N:List Str} {vs:List V} {ds:List D} (r:Reps K H jF vs ds):Ok K H H jF (L2.start N vs) (args N.length ds) []:=by
 have hl:=r.length
 have no:∀ i,IsOwn (args N.length ds) i->False:=fun i ⟨l,e⟩=>by
  unfold args at e
  by_cases hi:i < ds.length
  · rw [List.getElem?_append_left (by simpa using hi), List.getElem?_map] at e
    cases h:ds[i]? with
    | none=>rw [h] at e; cases e
    | some d=>rw [h] at e; cases e
  · rw [List.getElem?_append_right (by simpa using hi), List.getElem?_replicate] at e
    split at e <;> cases e
 refine ⟨Same.refl _,fun i l a e _=>(no i ⟨l,e⟩).elim,fun _ z=>z.elim,by simp [L2.start,args,hl],fun i s e=>?_,fun i j a _ hi _ _ _=>no i hi,fun p hp=>nomatch hp⟩
 unfold args at e
 unfold L2.start
 by_cases hi:i < ds.length
 · rw [List.getElem?_append_left (by simpa using hi), List.getElem?_map] at e
   rw [List.getElem?_append_left (by simpa [hl] using hi),List.getElem?_map]
   cases h:ds[i]? with
   | none=>rw [h] at e; cases e
   | some d =>
     rw [h] at e
     cases e
     obtain ⟨v,h1,h2⟩:=r.get h
     rw [h1]
     exact vF h2
 · rw [List.getElem?_append_right (by simpa using hi), List.getElem?_replicate] at e
   split at e
   · cases e; exact yJ
   · cases e
def Does (g:FS) (n:Nat) (ds:List D) (r:Ret):Prop:=g (args n ds)=some (.rt r) \/ (r = .val .non/\∃ ds',g (args n ds)=some (.nx ds'))
theorem jD {P:Program} {w:World} {K:Frag} {mg:Str->Option Value} {base:Heap} {x qual:Str} {st:Stmt} {f:Addr} {fd:FuncData} {N ps:List Str} {k:Nat} {F:List D->Option Ret} (Fn:Fun K x qual st f fd) (S:FnScope N ps (zC st))
  {g:FS} (hbody:∀ (cdv:Value) (A:Around) (outer:List Env) (s:Shared) (H:Hp) (E:XK),Room k (A.deeper (envOfC qual (zC st) s.heap.objs.size f cdv))->PSsv (cxOf CX0 P w K mg base N qual (zC st) f cdv A outer s H E).nox (zJ st) g)
  (hg:∀ ds r,ds.length=ps.length->F ds=some r->Does g N.length ds r):FnOk P w K mg base CX0 (k+1) f fd ps (spF K ps.length F):=by
 refine Fn.ok S (fun vs H Q E h=>h.1) (fun cdv A outer s H vs Q E hr h=>?_)
 obtain ⟨hl,ds,r,rv,e,q⟩:=h
 obtain ⟨t,ht,hf⟩:=hbody cdv A outer s H E hr
 refine ⟨t,ht,?_⟩
 have o:=wP (N:=N) rv
 rcases hg ds r (by rw [<- rv.length]; exact hl) e with e' | ⟨rfl,ds',e'⟩
 · exact hf H H jF _ _ [] _ _ o e' (fun v H' s r _=>q v H' s r)
 · exact hf H H jF _ _ [] _ _ o e' (fun σ H' O o'=>q .non H' o'.same .non)
end
end FL
namespace L2
open PySem PySem.Spec PyProof.Rows
section
variable {X:Cx} {tg:Expr}
end
end L2
namespace FL
open PySem PySem.Spec PyProof.Rows L2
def Wlk (K:Frag) (J:It) (p:V×D) (items:List D):Prop:=∀ H O,(∀ a,O a->∃ xs,H a=some (HO.lst xs))->Rep K H O p.1 p.2 →
 (∀ i d,items[i]? = some d->J.go i H/\∀ x H',J.yld i H x H'->Same H H'/\Rep K H' O x d)/\J.stop items.length H
section
variable {X:Cx}
variable (X) in
def PIv (tg iter:Expr) (fi:FA):Prop:=∃ wi,PI X tg iter wi/\∀ H₀ H O σ ds hd items R,Ok X.K H₀ H O σ ds hd->fi ds=some items →
 (∀ J p H',Same H H'->Rep X.K H' O p.1 p.2->Wlk X.K J p items->R J H')->wi σ H R
theorem wlk_list {K:Frag} {a:Addr} {l:List D} : Wlk K (Itl K a) (.ref a,.lst l) l:=by
 intro H O _ r
 obtain ⟨b,xs,e,hs,rs⟩:=WRep.seqL (.inl r)
 cases e
 refine ⟨fun i d hd=>?_,⟨xs,hs,by rw [rs.length]; exact Nat.le_refl _⟩⟩
 obtain ⟨v,h1,h2⟩:=rs.get hd
 refine ⟨⟨xs,v,hs,h1⟩,fun x H' y=>?_⟩
 obtain ⟨rfl,y⟩:=y
 have:=y xs hs
 rw [h1] at this; cases this
 exact ⟨Same.refl _,h2⟩
theorem wlk_tup {K:Frag} {a:Addr} {l:List D} : Wlk K (Itt K a) (.ref a,.tup l) l:=by
 intro H O _ r
 obtain ⟨b,xs,e,hs,rs⟩:=WRep.seqT (.inl r)
 cases e
 refine ⟨fun i d hd=>?_,⟨xs,hs,by rw [rs.length]; exact Nat.le_refl _⟩⟩
 obtain ⟨v,h1,h2⟩:=rs.get hd
 refine ⟨⟨xs,v,hs,h1⟩,fun x H' y=>?_⟩
 obtain ⟨rfl,y⟩:=y
 have:=y xs hs
 rw [h1] at this; cases this
 exact ⟨Same.refl _,h2⟩
theorem wlk_range {K:Frag} {lo:Int} {n:Nat} : Wlk K (Itr lo n) (.non,.non) (rangeD lo n):=by
 intro H O _ r
 have hl:(rangeD lo n).length=n:=by simp [rangeD]
 refine ⟨fun i d hd=>?_,show n<=_ by rw [hl]; exact Nat.le_refl _⟩
 have hi:i < n:=by
  have:=(List.getElem?_eq_some_iff.mp hd).1
  rwa [hl] at this
 refine ⟨hi,fun x H' y=>?_⟩
 obtain ⟨rfl,rfl⟩:=y
 have:d=D.int (lo+(i:Int)):=by
  simp only [rangeD,List.getElem?_map,List.getElem?_range hi,Option.map_some] at hd
  exact (Option.some.inj hd).symm
 subst this
 exact ⟨Same.refl _,.int _⟩
theorem piv_range1 {tg e:Expr} {p pos:Pos} {f:FE} (hm:X.mg "range" = none) (h:PV X e f) (hg:Gl X "range":=by rfl) (hs:starEach [e] X.env=[(false,eval e X.env)]:=by rfl):PIv X tg (.Call (.Name "range" p) [e] [] pos) (rng1 f):=by
 obtain ⟨t,ht,hf⟩:=h
 refine ⟨_,pi_range1 hg hm (jZ ht xK hs) hs,fun H₀ H O σ ds hd items R o e q=>?_⟩
 unfold rng1 at e
 cases h1:f ds with
 | none=>rw [h1] at e; cases e
 | some d =>
   rw [h1] at e
   simp only [Option.bind_some] at e
   cases d with
   | int j =>
     simp only at e
     split at e
     · rename_i hj
       cases e
       refine hf H₀ H O σ ds hd _ _ o h1 fun v H' s r=>?_
       cases r
       exact ⟨j,rfl,hj.1,hj.2,q _ (.non,.non) H' s .non wlk_range⟩
     · cases e
   | _=>cases e
variable (X) in
def PGv (tg:Expr) (ga:D->List Sl->Option (List Sl)):Prop:=∃ g,PG X tg g/\∀ H₀ H O σ ds hd v d ds' Q,Ok X.K H₀ H O σ ds hd->Rep X.K H O v d->ga d ds=some ds'->(∀ σ',Ok X.K H₀ H O σ' ds' hd->Q σ' H)->g v σ H Q
variable (X) in
def PGsv (tgs:List Expr) (ga:List D->List Sl->Option (List Sl)):Prop:=∃ g,PGs X tgs g/\∀ H₀ H O σ ds hd vs l ds' Q,Ok X.K H₀ H O σ ds hd->Reps X.K H O vs l->ga l ds=some ds'->(∀ σ',Ok X.K H₀ H O σ' ds' hd->Q σ' H)->g vs σ H Q
theorem zZ {i:Nat} {x:Str} {pos:Pos} (hN:X.N.Nodup) (hi:X.N[i]? = some x:=by rfl) (hx:Loc X.env.scope x:=by first | exact Or.inl rfl | exact Or.inr rfl)
  (hf:X.fn x=true \/ X.env.scope.names.lookup x=some .local:=by first | exact .inl rfl | exact .inr rfl):PGv X (.Name x pos) (zV i) :=
 ⟨_,pg_name hN hi hx hf,fun H₀ H O σ ds hd v d ds' Q o r e q=>by cases e; exact q _ (o.set r)⟩
theorem yH:PGsv X [] tgNil:=⟨_,pgs_nil,fun H₀ H O σ ds hd vs l ds' Q o r e q=>by
 cases r with
 | nil=>cases e; exact ⟨rfl,q _ o⟩
 | cons _ _=>cases e⟩
theorem zY {e:Expr} {es:List Expr} {g:D->List Sl->Option (List Sl)} {h:List D->List Sl->Option (List Sl)} (h1:PGv X e g) (h2:PGsv X es h)
  (hs:(assignEach (e::es) X.env).map (·.2)=assign e X.env::(assignEach es X.env).map (·.2):=by rfl):PGsv X (e::es) (zO g h):=by
 obtain ⟨t,ht,hf⟩:=h1
 obtain ⟨u,hu,hg⟩:=h2
 refine ⟨_,pgs_cons ht hu hs,fun H₀ H O σ ds hd vs l ds' Q o r e q=>?_⟩
 cases r with
 | nil=>cases e
 | cons r1 rr =>
   rename_i v d vr dr
   simp only [zO] at e
   cases h1:g d ds with
   | none=>rw [h1] at e; cases e
   | some ds1 =>
     rw [h1] at e
     exact ⟨v,vr,rfl,hf H₀ H O σ ds hd v d ds1 _ o r1 h1 fun σ' o'=>hg H₀ H O σ' ds1 hd vr dr ds' Q o' rr e q⟩
theorem yW {es:List Expr} {k:Nat} {pos:Pos} {h:List D->List Sl->Option (List Sl)} {n:Nat} (hc:X.calm=true) (hh:PGsv X es h)
  (hn:(assignEach es X.env).length=n:=by rfl) (hst:(assignEach es X.env).findIdx? (·.1)=none:=by rfl):PGv X (.Tuple es k pos) (tupG n h):=by
 obtain ⟨t,ht,hf⟩:=hh
 refine ⟨_,pg_tup hc ht hn hst,fun H₀ H O σ ds hd v d ds' Q o r e q=>?_⟩
 cases d with
 | tup l =>
   simp only [tupG] at e
   split at e
   · rename_i hl
     obtain ⟨a,xs,rfl,hs,rs⟩:=WRep.seqT (.inl r)
     exact ⟨a,xs,rfl,hs,by rw [rs.length]; exact hl,hf H₀ H O σ ds hd xs l ds' Q o rs e q⟩
   · cases e
 | _=>cases e
theorem retB_less {K:Frag} {H:Hp} {hd:Hold} {q:HI} {v:V} {r:Ret} (h:RetB K H (q::hd) v r):RetB K H hd v r:=by
 cases r with
 | any d=>exact fun B hB=>h B (List.mem_cons_of_mem _ hB)
 | _=>exact True.intro
theorem xA {tg iter:Expr} {body:List Stmt} {pos:Pos} {fi:FA} {ga:D->List Sl->Option (List Sl)} {g:FS} (hp:PassesOwn (model X.prog X.w) X.A X.env X.xe) (hc:X.calm=true) (hi:PIv X tg iter fi) (hg:PGv X tg ga) (hb:PSsv X body g)
  (hs:∀ x,foldedSetIterable iter X.env x=pure x:=by intro _; rfl):PSv X (.For tg iter body [] pos) (forG fi ga g):=by
 obtain ⟨wi,pi,hi⟩:=hi
 obtain ⟨tg',pg,hg⟩:=hg
 obtain ⟨tb,pb,hb⟩:=hb
 refine ⟨_,ps_for hp hc pi pg pb hs,fun H₀ H O σ ds hd out E o e h=>?_⟩
 unfold forG at e
 cases h1:fi ds with
 | none=>rw [h1] at e; cases e
 | some items =>
   rw [h1] at e
   simp only [Option.bind_some] at e
   refine hi H₀ H O σ ds hd items _ o h1 fun J p H' s r wk=>?_
   refine ⟨fun i m σ' H'=>i<=items.length/\m=items.length - i/\∃ O' ds',Ok X.K H₀ H' O' σ' ds' (HI.rep p.1 p.2::hd)/\jK ga g (items.drop i) ds'=some out,⟨items.length,Nat.zero_le _,rfl,O,ds,(o.mono s).holdMore (p:=HI.rep p.1 p.2) r,by simpa using e⟩,?_⟩
   rintro i m σ1 H1 ⟨hi1,rfl,O1,ds1,o1,e1⟩
   obtain ⟨go,stop⟩:=wk H1 O1 o1.dom (o1.hold (HI.rep p.1 p.2) List.mem_cons_self)
   by_cases hlt:i < items.length
   · right
     have hd0:items[i]? = some items[i]:=List.getElem?_eq_getElem hlt
     obtain ⟨hgo,hy⟩:=go i _ hd0
     rw [List.drop_eq_getElem_cons hlt,jK] at e1
     refine ⟨hgo,fun σ' H'=>i+1<=items.length/\∃ O' ds',Ok X.K H₀ H' O' σ' ds' (HI.rep p.1 p.2::hd)/\jK ga g (items.drop (i+1)) ds'=some out,fun σ' H' ⟨q1,q2⟩=>⟨items.length - (i+1),by omega,q1,rfl,q2⟩,fun x H2 y=>?_⟩
     obtain ⟨s2,r2⟩:=hy x H2 y
     cases h2:ga items[i] ds1 with
     | none=>rw [h2] at e1; cases e1
     | some ds2 =>
       rw [h2] at e1
       simp only [Option.bind_some] at e1
       cases h3:g ds2 with
       | none=>rw [h3] at e1; cases e1
       | some o3 =>
         rw [h3] at e1
         simp only [Option.bind_some] at e1
         refine hg H₀ H2 O1 σ1 ds1 (HI.rep p.1 p.2::hd) x _ ds2 _ (o1.mono s2) r2 h2 fun σ' o'=>?_
         refine hb H₀ H2 O1 σ' ds2 (HI.rep p.1 p.2::hd) o3 _ o' h3 ?_
         cases o3 with
         | nx ds3=>exact fun σ3 H3 O3 ok3=>⟨hlt,O3,ds3,ok3,e1⟩
         | ct ds3=>exact fun σ3 H3 O3 ok3=>⟨hlt,O3,ds3,ok3,e1⟩
         | bk ds3=>cases e1; exact fun σ3 H3 O3 ok3=>h σ3 H3 O3 ok3.holdLess
         | rt rr=>cases e1; exact fun v H s r b=>h v H s r (retB_less b)
   · left
     have ei:i=items.length:=by omega
     subst ei
     rw [List.drop_length,jK] at e1
     cases e1
     exact ⟨stop,h σ1 H1 O1 o1.holdLess⟩
variable (X) in
def PFv (ifs:List Expr) (c:FT):Prop:=∃ t,PF X ifs t/\∀ H₀ H O σ ds hd b Q,Ok X.K H₀ H O σ ds hd->c ds=some b->(∀ H',Same H H'->Q b H')->t σ H Q
theorem wB:PFv X [] (fun _=>some true):=⟨_,pf_nil,fun _ H _ _ _ _ _ _ _ e q=>by cases e; exact q H (Same.refl _)⟩
theorem Ok.inner {K:Frag} {H₀ H:Hp} {O:Addr->Prop} {σ : L2.St} {ds:List Sl} {hd:Hold} (o:Ok K H₀ H O σ ds hd) (mp:List (Option Nat)):Ok K H₀ H O (slotsY mp σ) (yB mp ds) hd:=by
 have no:∀ {i:Nat} {l:List D},(yB mp ds)[i]? = some (.own l)->False:=fun {i l} e=>by
  unfold yB at e
  rw [List.getElem?_map] at e
  cases hm:mp[i]? with
  | none=>rw [hm] at e; cases e
  | some m =>
    rw [hm] at e
    simp only [Option.map_some,Option.some.injEq] at e
    cases m with
    | none=>cases e
    | some j =>
      simp only at e
      split at e <;> cases e
 refine ⟨o.same,fun i l a e _=>(no e).elim,o.dom,by simp [slotsY,yB],fun i s e=>?_,fun i j a hij hi hj e1 e2=>?_,o.hold⟩
 · unfold yB at e
   unfold slotsY
   rw [List.getElem?_map] at e ⊢
   cases hm:mp[i]? with
   | none=>rw [hm] at e; cases e
   | some m =>
     rw [hm] at e
     simp only [Option.map_some,Option.some.injEq] at e
     cases m with
     | none =>
       simp only at e
       subst e; exact yJ
     | some j =>
       simp only at e
       cases hj:ds[j]? with
       | none=>rw [hj] at e; subst e; exact yJ
       | some s' =>
         rw [hj] at e
         cases s' with
         | no=>subst e; exact yJ
         | exc _=>subst e; exact yJ
         | fr _=>subst e; exact yJ
         | own l=>subst e; exact yJ
         | v d =>
           simp only at e
           subst e
           obtain ⟨v,h1,h2⟩:=o.read hj
           simp only [Option.map_some,Option.bind_some,h1,Option.join_some]
           exact vF h2
 · obtain ⟨l, e⟩ := hi
   unfold yB at e
   rw [List.getElem?_map] at e
   cases hm:mp[i]? with
   | none=>rw [hm] at e; cases e
   | some m =>
     rw [hm] at e
     simp only [Option.map_some,Option.some.injEq] at e
     cases m with
     | none=>cases e
     | some j =>
       simp only at e
       cases hj:ds[j]? with
       | none=>rw [hj] at e; cases e
       | some s'=>rw [hj] at e; cases s' <;> cases e
section
variable {scope:Scope} {NY:List Str} {mp:List (Option Nat)} {tg iter elt:Expr} {ifs:List Expr} {pos:Pos} {fi:FA} {ga:D->List Sl->Option (List Sl)} {tt:FT} {fe:FE}
theorem kG {wi:TI} {g:CI->TG} {t1:CI->TT} {t2:CI->TE}
  (hi:∀ H₀ H O σ ds hd items R,Ok X.K H₀ H O σ ds hd->fi ds=some items->(∀ J p H',Same H H'->Rep X.K H' O p.1 p.2->Wlk X.K J p items->R J H')->wi σ H R)
  (hg:∀ c H₀ H O σ ds hd v d ds' Q,Ok X.K H₀ H O σ ds hd->Rep X.K H O v d->ga d ds=some ds'->(∀ σ',Ok X.K H₀ H O σ' ds' hd->Q σ' H)->g c v σ H Q)
  (ht:∀ c H₀ H O σ ds hd b Q,Ok X.K H₀ H O σ ds hd->tt ds=some b->(∀ H',Same H H'->Q b H')->t1 c σ H Q)
  (he:∀ c H₀ H O σ ds hd d Q,Ok X.K H₀ H O σ ds hd->fe ds=some d->(∀ v H',Same H H'->Rep X.K H' O v d->Q v H')->t2 c σ H Q) :
  ∀ H₀ H O σ ds hd l Q,Ok X.K H₀ H O σ ds hd->compG fi mp ga tt fe ds=some l →
   (∀ a xs H',Same H H'->H a=none->H' a=some (.lst xs)->Reps X.K H' (ins1 a O) xs l->Q (.ref a) H')->tComp wi mp g t1 t2 σ H Q:=by
 intro H₀ H O σ ds hd l Q o e q
 unfold compG at e
 cases h1:fi ds with
 | none=>rw [h1] at e; cases e
 | some items =>
   rw [h1] at e
   simp only [Option.bind_some] at e
   split at e
   · rename_i hsz
     refine hi H₀ H O σ ds hd items _ o h1 fun J p H1 s1 r1 wk=>fun c=>?_
     have oI:Ok X.K H₀ H1 O (slotsY mp σ) (yB mp ds) (HI.rep p.1 p.2::hd):=((o.mono s1).holdMore (p:=HI.rep p.1 p.2) r1).inner mp
     refine ⟨fun i m ys H2=>i<=items.length/\m=items.length - i/\Same H1 H2/\ys.length<=i/\∃ l' rest,Reps X.K H2 O ys l'/\compL ga tt fe (yB mp ds) (items.drop i)=some rest/\l=l'++rest,
      ⟨items.length,Nat.zero_le _,rfl,Same.refl _,Nat.le_refl _,[],l,.nil,by simpa using e,rfl⟩,?_⟩
     rintro i m ys H2 ⟨hi1,rfl,s2,hy,l',rest,ry,er,el⟩
     have o2:=oI.mono s2
     obtain ⟨go,stop⟩:=wk H2 O o2.dom (o2.hold (HI.rep p.1 p.2) List.mem_cons_self)
     by_cases hlt:i < items.length
     · right
       have hd0:items[i]? = some items[i]:=List.getElem?_eq_getElem hlt
       obtain ⟨hgo,hyl⟩:=go i _ hd0
       refine ⟨hgo,by omega,fun x H3 y=>?_⟩
       obtain ⟨s3,r3⟩:=hyl x H3 y
       rw [List.drop_eq_getElem_cons hlt,compL] at er
       cases h2:ga items[i] (yB mp ds) with
       | none=>rw [h2] at er; cases er
       | some ds1 =>
         rw [h2] at er
         simp only [Option.bind_some] at er
         refine hg c H₀ H3 O _ _ (HI.rep p.1 p.2::hd) x _ ds1 _ (o2.mono s3) r3 h2 fun σ' o3=>?_
         cases h3:tt ds1 with
         | none=>rw [h3] at er; cases er
         | some b =>
           rw [h3] at er
           simp only [Option.bind_some] at er
           refine ht c H₀ H3 O σ' ds1 (HI.rep p.1 p.2::hd) b _ o3 h3 fun H4 s4=>?_
           cases b with
           | false =>
             refine iteF ⟨items.length - (i+1),by omega,hlt,rfl,(s2.trans s3).trans s4,Nat.le_succ_of_le hy,l',rest,(ry.mono s3).mono s4,by simpa using er,el⟩
           | true =>
             refine iteT ?_
             simp only [if_true] at er
             cases h4:fe ds1 with
             | none=>rw [h4] at er; cases er
             | some yd =>
               rw [h4] at er
               simp only [Option.bind_some] at er
               cases h5:compL ga tt fe (yB mp ds) (items.drop (i+1)) with
               | none=>rw [h5] at er; cases er
               | some rest' =>
                 rw [h5] at er
                 cases er
                 refine he c H₀ H4 O σ' ds1 (HI.rep p.1 p.2::hd) yd _ (o3.mono s4) h4 fun v H5 s5 r5=>?_
                 refine ⟨items.length - (i+1),by omega,hlt,rfl,((s2.trans s3).trans s4).trans s5,by simp; omega,l'++[yd],rest',(((ry.mono s3).mono s4).mono s5).append (.cons r5 .nil),h5,?_⟩
                 rw [el]; simp
     · left
       have ei:i=items.length:=by omega
       subst ei
       rw [List.drop_length,compL] at er
       cases er
       rw [List.append_nil] at el
       subst el
       refine ⟨stop,by omega,fun a ha=>?_⟩
       refine q a ys _ ((s1.trans s2).trans (jR ha _)) ((s1.trans s2).free ha) qS ?_
       exact (ry.more ha).mono (jR ha _)
   · cases e
theorem wH (S:CompScope X scope NY mp) (hc:X.calm=true) (hi:PIv X tg iter fi) (hg:∀ c,PGv (jY X scope NY c) tg ga) (ht:∀ c,PFv (jY X scope NY c) ifs tt) (he:∀ c,PV (jY X scope NY c) elt fe)
  (hs:∀ x,foldedSetIterable iter X.env x=pure x:=by intro _; rfl):PVf X (.ListComp elt [⟨tg,iter,ifs,0⟩] scope pos) (compG fi mp ga tt fe):=by
 obtain ⟨wi,pi,hi⟩:=hi
 refine ⟨_,pe_comp S hc pi (fun c=>(Classical.choose_spec (hg c)).1) (fun c=>(Classical.choose_spec (ht c)).1) (fun c=>(Classical.choose_spec (he c)).1) hs,?_⟩
 exact kG hi (fun c=>(Classical.choose_spec (hg c)).2) (fun c=>(Classical.choose_spec (ht c)).2) (fun c=>(Classical.choose_spec (he c)).2)
theorem psv_comp {i:Nat} {y:Str} {py spos:Pos} (hN:X.N.Nodup)
  (S:CompScope X scope NY mp) (hc:X.calm=true) (hi:PIv X tg iter fi) (hg:∀ c,PGv (jY X scope NY c) tg ga) (ht:∀ c,PFv (jY X scope NY c) ifs tt) (he:∀ c,PV (jY X scope NY c) elt fe)
  (hy:X.N[i]? = some y:=by rfl) (hl:X.env.scope.names.lookup y=some .local:=by rfl)
  (hsw:swapsWith (.ListComp elt [⟨tg,iter,ifs,0⟩] scope pos) (some (.Name y py)) spos.line X.env=pure true:=by rfl)
  (hs:∀ x,foldedSetIterable iter X.env x=pure x:=by intro _; rfl):PSv X (.Assign [.Name y py] (.ListComp elt [⟨tg,iter,ifs,0⟩] scope pos) spos) (setOG i (compG fi mp ga tt fe)):=by
 obtain ⟨wi,pi,hi⟩:=hi
 refine ⟨_,ps_comp hN hy hl hsw S hc pi (fun c=>(Classical.choose_spec (hg c)).1) (fun c=>(Classical.choose_spec (ht c)).1) (fun c=>(Classical.choose_spec (he c)).1) hs,fun H₀ H O σ ds hd out E o e h=>?_⟩
 unfold setOG at e
 cases h1:compG fi mp ga tt fe ds with
 | none=>rw [h1] at e; cases e
 | some l =>
   rw [h1] at e
   cases e
   exact kG hi (fun c=>(Classical.choose_spec (hg c)).2) (fun c=>(Classical.choose_spec (ht c)).2) (fun c=>(Classical.choose_spec (he c)).2) H₀ H O σ ds hd l _ o h1 fun a xs H' s hn he r=>h _ _ _ (o.setO s hn he r)
end
end
end FL
namespace L2
open PySem PySem.Spec PyProof.Rows
section
variable {X:Cx}
def clsV:V->Value->Prop
 | .ty n,u=>u = .type n
 | .ref a,u=>u = .ref a
 | _,_=>False
end
end L2
namespace FL
open PySem PySem.Spec PyProof.Rows L2
section
variable {X:Cx}
theorem vO {a:Expr} {pos:Pos} {f:FE} (ha:PV X a f):PV X (.UnaryOp .USub a pos) (un1 negD f):=by
 obtain ⟨ta,pa,ha⟩:=ha
 refine ⟨_,pe_un un_neg pa,fun H₀ H O σ ds hd d Q o e q=>?_⟩
 unfold un1 at e
 cases h1:f ds with
 | none=>rw [h1] at e; cases e
 | some dx =>
   rw [h1] at e
   cases dx with
   | int i =>
     cases e
     refine ha H₀ H O σ ds hd _ _ o h1 fun x H1 s1 r1=>?_
     cases r1
     exact ⟨i,rfl,q _ H1 s1 (.int _)⟩
   | _=>cases e
variable (X) in
def PVd (e:Expr) (f:FE):Prop:=∃ t,PE X e t/\∀ H₀ H O σ ds hd d Q,Ok X.K H₀ H O σ ds hd->f ds=some d->(∀ v H',Same H H'->Rep X.K H' (Old H) v d->Q v H')->t σ H Q
theorem PV.d {e:Expr} {f:FE} (h:PV X e f):PVd X e (flV f):=by
 obtain ⟨t,ht,hf⟩:=h
 refine ⟨t,ht,fun H₀ H O σ ds hd d Q o e q=>?_⟩
 unfold flV at e
 cases h1:f ds with
 | none=>rw [h1] at e; cases e
 | some dx =>
   rw [h1] at e
   simp only [Option.bind_some] at e
   split at e
   · rename_i hfl
     cases e
     exact hf H₀ H O σ ds hd _ _ o h1 fun v H' s r=>q v H' s (Rep.flatten (fun a z=>Old.mono s z) hfl r)
   · cases e
theorem not_old {H:Hp} {p:Addr} (h:H p=none) : ¬ Old H p:=fun ⟨o,e,_⟩=>by rw [h] at e; cases e
theorem psv_retD {e:Expr} {pos:Pos} {f:FE} (he:PVd X e f):PSv X (.Return (some e) pos) (retDG f):=by
 obtain ⟨t,ht,hg⟩:=he
 refine ⟨_,vV ht,fun H₀ H O σ ds hd out E o e h=>?_⟩
 unfold retDG at e
 cases h1:f ds with
 | none=>rw [h1] at e; cases e
 | some d =>
   rw [h1] at e
   cases e
   exact hg H₀ H O σ ds hd d _ o h1 fun v H' s r=>h _ _ (o.same.trans s) (r.less fun a z=>Old.mono o.same z) True.intro
end
section
variable {X:Cx}
def compOk (sc scope:Scope) (N NY:List Str) (mp:List (Option Nat)):Bool :=
 scope.kind == .function && scope.names.all (fun y=>y.2 != .cell) && scope.names.all (fun y=>y.2 != .local || scope.names.lookup y.1 == some .local)
 && scope.names.all (fun y=>y.2 != .free || (sc.names.lookup y.1 == some .cell || sc.names.lookup y.1 == some .free)) && mp.length == NY.length
 && (List.range NY.length).all (fun i=>match NY[i]?,mp[i]? with | some x,some (some j)=>N[j]? == some x && scope.names.lookup x == some .free | _,_=>true)
theorem yC {scope:Scope} {NY:List Str} {mp:List (Option Nat)} (h:compOk X.env.scope scope X.N NY mp=true):CompScope X scope NY mp:=by
 unfold compOk at h
 simp only [Bool.and_eq_true,List.all_eq_true,beq_iff_eq] at h
 obtain ⟨⟨⟨⟨⟨h1,h2⟩,h3⟩,h4⟩,h5⟩,h6⟩:=h
 refine ⟨h1,fun y hy=>by simpa using h2 y hy,fun y hy hk=>?_,fun y hy hk=>?_,h5,fun i x j e1 e2=>?_⟩
 · have := h3 y hy
   simpa [hk] using this
 · have := h4 y hy
   simp only [hk,bne_self_eq_false,Bool.false_or,Bool.or_eq_true,beq_iff_eq] at this
   exact this
 · have hi : i ∈ List.range NY.length := List.mem_range.mpr (List.getElem?_eq_some_iff.mp e1).1
   have:=h6 i hi
   rw [e1,e2] at this
   simpa using this
end
theorem qD {g:FS} {n:Nat} {ds:List D} {r:Ret} (e:runG g n ds=some r):Does g n ds r:=by
 unfold runG at e
 cases h:g (args n ds) with
 | none=>rw [h] at e; cases e
 | some o =>
   rw [h] at e
   cases o with
   | rt r'=>cases e; exact .inl h
   | nx ds'=>cases e; exact .inr ⟨rfl,ds',h⟩
   | bk ds'=>cases e
   | ct ds'=>cases e
end FL
namespace L2
open PySem PySem.Spec PyProof.Rows
section
variable {X:Cx}
theorem op_mulB:OpR X (binaryOp .Mult) (rI IntMulOk fun i j=>.int (i * j)):=opI fun _ _ _ _ _ _ _ hc q=>mul_int q hc
theorem op_powB:OpR X (binaryOp .Pow) (rI FL.CPowB fun i j=>.int (i ^ j.toNat)):=opI fun _ _ _ _ _ _ _ hc q=>pow_int hc.1 hc.2 q
def rCatS (K:PySem.W.Frag):R2:=fun x y H Q=>∃ l b xs zs,x = .ref l/\y = .ref b/\SqL K H l xs/\SqL K H b zs/\xs.length+zs.length<=sizeLine/\∀ p,H p=none->Q (.ref p) (upd H p (.lst (xs++zs)))
theorem op_catS:OpR X (binaryOp .Add) (rCatS X.K):=by
 intro pins s σ H x y v u Q I rx ry h
 obtain ⟨l,b,xs,zs,rfl,rfl,hH,hB,hz,q⟩:=h
 cases rx
 cases ry
 obtain ⟨its,r,pl,z⟩:=I.list hH
 obtain ⟨its2,r2,pl2,z2⟩:=I.list hB
 obtain ⟨⟨cls,dd,data,sl⟩,ho,hc,n,hd⟩:=pl.isList
 obtain ⟨⟨cls2,dd2,data2,sl2⟩,ho2,hc2,n2,hd2⟩:=pl2.isList
 simp only at hc hd hc2 hd2
 subst hc hd hc2 hd2
 have hl:=r.length
 have hl2:=r2.length
 refine concat_meets ⟨_,ho,rfl⟩ ⟨_,ho2,rfl⟩ noFill_list_add seq_list_add PySem.F.slot_list_add PySem.F.entry_list_add (PySem.F.args_list_add_2 _ _) (list_addW l b its.toArray its2.toArray n n2 dd dd2 sl sl2 (by simp only [List.size_toArray]; omega)) ⟨ho,ho2,?_⟩
 have ea:its.toArray++its2.toArray=(its++its2).toArray:=by simp
 rw [ea]
 exact ⟨.ref _,_,I.lnew (t':=s.toks) (r.append r2) (by rw [List.length_append]; omega),rfl,q _ I.fresh⟩
end
end L2
namespace FL
open PySem PySem.Spec PyProof.Rows L2
section
variable {X:Cx}
variable (X) in
def PVn (e:Expr) (f:FE):Prop:=∃ t,PE X e t/\∀ H₀ H O σ ds hd d Q,Ok X.K H₀ H O σ ds hd->f ds=some d->(∀ v H',Same H H'->Rep X.K H' jF v d->Q v H')->t σ H Q
variable (X) in
def PAn (es:List Expr) (f:FA):Prop:=∃ t,PA X es t/\∀ H₀ H O σ ds hd l Q,Ok X.K H₀ H O σ ds hd->f ds=some l->(∀ vs H',Same H H'->Reps X.K H' jF vs l->Q vs H')->t σ H Q
theorem PVw.n {e:Expr} {f:FE} (h:PVw X e f):PVn X e f:=by
 obtain ⟨t,ht,hf⟩:=h
 exact ⟨t,ht,fun H₀ H O σ ds hd d Q o e q=>hf H₀ H O σ ds hd d Q o e fun v H' s r=>q v H' s r.any⟩
theorem PV.n {e:Expr} {f:FE} (h:PV X e f):PVn X e f:=h.w.n
theorem zK:PAn X [] zS:=⟨_,xK,fun _ H _ _ _ _ _ _ _ e q=>by cases e; exact q _ H (Same.refl _) .nil⟩
theorem zA {e:Expr} {es:List Expr} {f:FE} {g:FA} (ha:PVn X e f) (hr:PAn X es g) (hs:starEach (e::es) X.env=(false,eval e X.env)::starEach es X.env:=by rfl):PAn X (e::es) (zD f g):=by
 obtain ⟨t,ht,hf⟩:=ha
 obtain ⟨u,hu,hg⟩:=hr
 refine ⟨_,jZ ht hu hs,fun H₀ H O σ ds hd l Q o e q=>?_⟩
 unfold zD at e
 cases h:f ds with
 | none=>rw [h] at e; cases e
 | some x =>
   cases h2:g ds with
   | none=>rw [h,h2] at e; cases e
   | some r =>
     rw [h,h2] at e
     cases e
     refine hf H₀ H O σ ds hd x _ o h fun v H1 s1 r1=>?_
     refine hg H₀ H1 O σ ds hd r _ (o.mono s1) h2 fun vs H2 s2 r2=>?_
     exact q _ H2 (s1.trans s2) (.cons (r1.mono s2) r2)
section
variable {k:Nat} {f:Addr} {fd:FuncData} {ps:List Str} {n:Nat} {F:List D->Option Ret} {x:Str} {p pos:Pos} {e:Expr} {es:List Expr} {g:FA}
theorem pv_callN (Fn:FnOk X.prog X.w X.K X.mg X.base CX0 k f fd ps (spF X.K n F)) (hr:Room k X.A) (hm:X.mg x=some (.ref f)) (hk:PySem.W.keepIn X.K (.ref f)=true) (hb:Binds X.K fd ps []) (ha:PAn X (e::es) g)
  (hg:Gl X x:=by rfl) (hdb:(x == ("__debug__" : Str))=false:=by decide) (he:starEach (e::es) X.env=(false,eval e X.env)::starEach es X.env:=by rfl) (hpl:(backTo pos (starEach es X.env)).any (·.1)=false:=by rfl) :
  PV X (.Call (.Name x p) (e::es) [] pos) (zX n F g):=by
 obtain ⟨t,ht,hf⟩:=ha
 refine ⟨_,vD (CX:=CX0) (E:=E0) Fn hr hg hm hk hb .nil pass0 ht hdb he hpl,fun H₀ H O σ ds hd d Q o e q=>?_⟩
 unfold zX at e
 cases h:g ds with
 | none=>rw [h] at e; cases e
 | some l =>
   rw [h] at e
   simp only [Option.bind_some] at e
   split at e
   · rename_i hln
     cases h2:F l with
     | none=>rw [h2] at e; cases e
     | some r =>
       rw [h2] at e
       simp only [Option.bind_some] at e
       refine hf H₀ H O σ ds hd l _ o h fun vs H1 s1 r1=>?_
       have hl:=r1.length
       refine ⟨by simp only [List.append_nil]; omega,l,r,by simpa using r1,h2,fun v H' s' ro=>q v H' (s1.trans s') ?_⟩
       exact retV_ok ro e fun a ha=>(o.mono s1).old ha
   · cases e
theorem pvf_callN (Fn:FnOk X.prog X.w X.K X.mg X.base CX0 k f fd ps (spF X.K n F)) (hr:Room k X.A) (hm:X.mg x=some (.ref f)) (hk:PySem.W.keepIn X.K (.ref f)=true) (hb:Binds X.K fd ps []) (ha:PAn X (e::es) g)
  (hg:Gl X x:=by rfl) (hdb:(x == ("__debug__" : Str))=false:=by decide) (he:starEach (e::es) X.env=(false,eval e X.env)::starEach es X.env:=by rfl) (hpl:(backTo pos (starEach es X.env)).any (·.1)=false:=by rfl) :
  PVf X (.Call (.Name x p) (e::es) [] pos) (wY n F g):=by
 obtain ⟨t,ht,hf⟩:=ha
 refine ⟨_,vD (CX:=CX0) (E:=E0) Fn hr hg hm hk hb .nil pass0 ht hdb he hpl,fun H₀ H O σ ds hd d Q o e q=>?_⟩
 unfold wY at e
 cases h:g ds with
 | none=>rw [h] at e; cases e
 | some l =>
   rw [h] at e
   simp only [Option.bind_some] at e
   split at e
   · rename_i hln
     cases h2:F l with
     | none=>rw [h2] at e; cases e
     | some r =>
       rw [h2] at e
       simp only [Option.bind_some] at e
       refine hf H₀ H O σ ds hd l _ o h fun vs H1 s1 r1=>?_
       have hl:=r1.length
       refine ⟨by simp only [List.append_nil]; omega,l,r,by simpa using r1,h2,fun v H' s' ro=>?_⟩
       obtain ⟨a,xs,rfl,h3,h4,h5⟩:=retF_ok ro e fun a ha=>(o.mono s1).old ha
       exact q a xs H' (s1.trans s') (s1.free h3) h4 h5
   · cases e
end
def OpN (X:Cx) (r:R2) (op:D->D->Option D):Prop:=∀ H O x y dx dy d Q,Rep X.K H jF x dx->Rep X.K H jF y dy->op dx dy=some d->(∀ v H',Same H H'->Rep X.K H' O v d->Q v H')->r x y H Q
theorem pvn_tOp {r:R2} {op:D->D->Option D} (hs:OpN X r op) {fa fb:FE} {ta tb:TE} (ha:∀ H₀ H O σ ds hd d Q,Ok X.K H₀ H O σ ds hd->fa ds=some d->(∀ v H',Same H H'->Rep X.K H' jF v d->Q v H')->ta σ H Q)
  (hb:∀ H₀ H O σ ds hd d Q,Ok X.K H₀ H O σ ds hd->fb ds=some d->(∀ v H',Same H H'->Rep X.K H' jF v d->Q v H')->tb σ H Q) :
  ∀ H₀ H O σ ds hd d Q,Ok X.K H₀ H O σ ds hd->zN op fa fb ds=some d->(∀ v H',Same H H'->Rep X.K H' O v d->Q v H')->tOp r ta tb σ H Q:=by
 intro H₀ H O σ ds hd d Q o e q
 unfold zN at e
 cases h1:fa ds with
 | none=>rw [h1] at e; cases e
 | some dx =>
   cases h2:fb ds with
   | none=>rw [h1,h2] at e; cases e
   | some dy =>
     rw [h1,h2] at e
     refine ha H₀ H O σ ds hd dx _ o h1 fun x H1 s1 r1=>?_
     refine hb H₀ H1 O σ ds hd dy _ (o.mono s1) h2 fun y H2 s2 r2=>?_
     exact hs H2 O x y dx dy d Q (r1.mono s2) r2 e fun v H' s r=>q v H' ((s1.trans s2).trans s) r
theorem pv_cmpN {op:CmpOp} {r:R2} {opD:D->D->Option D} {a b:Expr} {fa fb:FE} {pos:Pos} (ho:OpR X (compareOp op) r) (hs:OpN X r opD) (ha:PVn X a fa) (hb:PVn X b fb) (hm:behindInMarks op b=false):PV X (.Compare a [op] [b] pos) (zN opD fa fb):=by
 obtain ⟨ta,pa,ha⟩:=ha
 obtain ⟨tb,pb,hb⟩:=hb
 exact ⟨_,pe_cmpR ho pa pb hm,pvn_tOp hs ha hb⟩
theorem pt_cmpN {op:CmpOp} {r:R2} {opD:D->D->Option D} {a b:Expr} {fa fb:FE} {pos:Pos} (ho:OpR X (compareOp op) r) (hs:OpN X r opD) (ha:PVn X a fa) (hb:PVn X b fb) (hm:behindInMarks op b=false):PTv X (.Compare a [op] [b] pos) (qA (zN opD fa fb)):=by
 obtain ⟨ta,pa,ha⟩:=ha
 obtain ⟨tb,pb,hb⟩:=hb
 refine ⟨_,pt_cmpR ho pa pb hm,fun H₀ H O σ ds hd k Q o e q=>?_⟩
 unfold qA at e
 cases h:zN opD fa fb ds with
 | none=>rw [h] at e; cases e
 | some d =>
   rw [h] at e
   refine pvn_tOp hs ha hb H₀ H O σ ds hd d _ o h fun v H' s r=>?_
   cases d with
   | bl c=>cases e; cases r; exact ⟨_,rfl,q H' s⟩
   | _=>cases e
mutual
theorem Rep.reads {pins:List (Addr×Obj)} {σ : L2.St} {H:Hp} {s:Shared} {O:Addr->Prop} (I:Inv X pins σ H s):∀ {v:V} {d:D} {u:Value} {n:Nat},Rep X.K H O v d->RelV v u->shal n d=true->∃ as,Reads s.heap u (toPy d) as/\(toPy d).canLay0=true/\(toPy d).depth<=n+1
 | _,_,_,_,.non,r,_=>by cases r; exact ⟨[],.none,rfl,Nat.zero_le _⟩
 | _,_,_,_,.bl b,r,_=>by cases r; exact ⟨[],.bool b,rfl,Nat.zero_le _⟩
 | _,_,_,_,.int i,r,_=>by obtain ⟨t,rfl⟩:=r; exact ⟨[],.int i t,rfl,Nat.zero_le _⟩
 | _,_,_,_,.str x,r,h=>by obtain ⟨t,rfl⟩:=r; exact ⟨[],.str x t,by simpa [toPy,PyData.canLay0,shal] using h,Nat.zero_le _⟩
 | _, _, _, n, .tup m h q, r, hs => by
   cases r
   obtain ⟨its,rv,⟨o,ho,hc,k,hd⟩,hz⟩:=I.tuple (.inl h)
   obtain ⟨as,h1,h2,h3⟩:=Reps.reads I q rv (by simpa [shal] using hs)
   exact ⟨as,.tuple ho hc hd (by simpa using h1),by simpa [toPy,PyData.canLay0] using h2,by simpa [toPy,PyData.depth] using h3⟩
 | _, _, _, n, .tupK h q, r, hs => by
   cases r
   obtain ⟨its,rv,⟨o,ho,hc,k,hd⟩,hz⟩:=I.tuple (.inr h)
   obtain ⟨as,h1,h2,h3⟩:=Reps.reads I q rv (by simpa [shal] using hs)
   exact ⟨as,.tuple ho hc hd (by simpa using h1),by simpa [toPy,PyData.canLay0] using h2,by simpa [toPy,PyData.depth] using h3⟩
 | _, _, _, n, .lst m h q, r, hs => by
   cases r
   obtain ⟨its,rv,pl,hz⟩:=I.list (.inl h)
   obtain ⟨o,ho,hc,k,hd⟩:=pl.isList
   obtain ⟨as,h1,h2,h3⟩:=Reps.reads I q rv (by simpa [shal] using hs)
   exact ⟨_,.list ho hc hd (by simpa using h1),by simpa [toPy,PyData.canLay0] using h2,by simpa [toPy,PyData.depth] using h3⟩
 | _, _, _, n, .lstK h q, r, hs => by
   cases r
   obtain ⟨its,rv,pl,hz⟩:=I.list (.inr h)
   obtain ⟨o,ho,hc,k,hd⟩:=pl.isList
   obtain ⟨as,h1,h2,h3⟩:=Reps.reads I q rv (by simpa [shal] using hs)
   exact ⟨_,.list ho hc hd (by simpa using h1),by simpa [toPy,PyData.canLay0] using h2,by simpa [toPy,PyData.depth] using h3⟩
 | _,_,_,_,.dct _ _ _ _,_,hs=>by simp [shal] at hs
 | _,_,_,_,.ins _ _ _ _ _,_,hs=>by simp [shal] at hs
 | _,_,_,_,.clo _ _ _ _ _ _,_,hs=>by simp [shal] at hs
 | _,_,_,_,.fnK _,_,hs=>by simp [shal] at hs
theorem Reps.reads {pins:List (Addr×Obj)} {σ : L2.St} {H:Hp} {s:Shared} {O:Addr->Prop} (I:Inv X pins σ H s):∀ {vs:List V} {ds:List D} {us:List Value} {n:Nat},Reps X.K H O vs ds->Vals vs us->shals n ds=true->∃ as,ReadsAll s.heap us (toPys ds) as/\PyData.canLayAll0 (toPys ds)=true/\PyData.depthAll (toPys ds)<=n
 | _,_,_,_,.nil,r,_=>by cases r; exact ⟨[],.nil,rfl,Nat.zero_le _⟩
 | _,_,_,0,.cons h t,_,hs=>by simp [shals] at hs
 | _, _, _, n + 1, .cons h t, r, hs => by
   cases r with
   | cons r1 r2 =>
     simp only [shals,Bool.and_eq_true] at hs
     obtain ⟨as,h1,h2,h3⟩:=Rep.reads I h r1 hs.1
     obtain ⟨bs,k1,k2,k3⟩:=Reps.reads I t r2 hs.2
     exact ⟨_,.cons h1 k1,by simp [toPys,PyData.canLayAll0,h2,k2],by simp only [toPys,PyData.depthAll]; omega⟩
end
def rEqD (X:Cx) (neg:Bool):R2:=fun x y H Q=>∃ dx dy,Rep X.K H jF x dx/\Rep X.K H jF y dy/\shal 40 dx=true/\shal 40 dy=true/\Q (.bl (if neg then !eqvD dx dy else eqvD dx dy)) H
theorem op_eqD (hu:X.A.units+100 < cLine):OpR X (compareOp .Eq) (rEqD X false):=by
 intro pins s σ H x y v u Q I rx ry h
 obtain ⟨dx,dy,r1,r2,s1,s2,q⟩:=h
 obtain ⟨as,a1,a2,a3⟩:=r1.reads I rx s1
 obtain ⟨bs,b1,b2,b3⟩:=r2.reads I ry s2
 exact SeqAt.compareEq_reads a1 b1 a2 b2 (by omega) ⟨.bl _,H,I,rfl,q⟩
theorem op_neD (hu:X.A.units+100 < cLine):OpR X (compareOp .NotEq) (rEqD X true):=by
 intro pins s σ H x y v u Q I rx ry h
 obtain ⟨dx,dy,r1,r2,s1,s2,q⟩:=h
 obtain ⟨as,a1,a2,a3⟩:=r1.reads I rx s1
 obtain ⟨bs,b1,b2,b3⟩:=r2.reads I ry s2
 exact SeqAt.compareNe_reads a1 b1 a2 b2 (by omega) ⟨.bl _,H,I,rfl,q⟩
theorem on_eqD:OpN X (rEqD X false) eqD:=by
 intro H O x y dx dy d Q rx ry e q
 unfold eqD at e
 split at e
 · rename_i hs
   cases e
   exact ⟨dx,dy,rx,ry,hs.1,hs.2,q _ H (Same.refl _) (.bl _)⟩
 · cases e
theorem on_neD:OpN X (rEqD X true) neD:=by
 intro H O x y dx dy d Q rx ry e q
 unfold neD at e
 split at e
 · rename_i hs
   cases e
   exact ⟨dx,dy,rx,ry,hs.1,hs.2,q _ H (Same.refl _) (.bl _)⟩
 · cases e
theorem hu100 {k:Nat} {A:Around} (hr:Room k A):A.units+100 < cLine:=by have:=hr.un; omega
theorem pv_eq {a b:Expr} {fa fb:FE} {pos:Pos} {k:Nat} (hr:Room k X.A) (ha:PVn X a fa) (hb:PVn X b fb):PV X (.Compare a [.Eq] [b] pos) (zN eqD fa fb):=pv_cmpN (op_eqD (hu100 hr)) on_eqD ha hb (nomark _)
theorem yI {a b:Expr} {fa fb:FE} {pos:Pos} {k:Nat} (hr:Room k X.A) (ha:PVn X a fa) (hb:PVn X b fb):PTv X (.Compare a [.Eq] [b] pos) (qA (zN eqD fa fb)):=pt_cmpN (op_eqD (hu100 hr)) on_eqD ha hb (nomark _)
theorem pt_ne {a b:Expr} {fa fb:FE} {pos:Pos} {k:Nat} (hr:Room k X.A) (ha:PVn X a fa) (hb:PVn X b fb):PTv X (.Compare a [.NotEq] [b] pos) (qA (zN neD fa fb)):=pt_cmpN (op_neD (hu100 hr)) on_neD ha hb (nomark _)
theorem non_iff {K:Frag} {H:Hp} {O:Addr->Prop} {v:V} {d:D} (r:Rep K H O v d):decide (v = .non)=(match d with | .non=>true | _=>false):=by
 cases r <;> rfl
theorem on_is:OpN X (fun x y H Q=>y = .non/\Q (.bl (decide (x = .non))) H) isD:=by
 intro H O x y dx dy d Q rx ry e q
 cases dy <;> first | (cases dx <;> simp [isD] at e; done) | skip
 cases ry
 refine ⟨rfl,?_⟩
 rw [non_iff rx]
 cases dx <;> (simp only [isD,Option.some.injEq] at e; subst e; exact q _ H (Same.refl _) (.bl _))
theorem on_not:OpN X (fun x y H Q=>y = .non/\Q (.bl (!decide (x = .non))) H) notD:=by
 intro H O x y dx dy d Q rx ry e q
 cases dy <;> first | (cases dx <;> simp [notD] at e; done) | skip
 cases ry
 refine ⟨rfl,?_⟩
 rw [non_iff rx]
 cases dx <;> (simp only [notD,Option.some.injEq] at e; subst e; exact q _ H (Same.refl _) (.bl _))
theorem pv_is {a b:Expr} {fa fb:FE} {pos:Pos} (ha:PVn X a fa) (hb:PVn X b fb):PV X (.Compare a [.Is] [b] pos) (zN isD fa fb):=pv_cmpN op_isN on_is ha hb (nomark _)
theorem pv_isnot {a b:Expr} {fa fb:FE} {pos:Pos} (ha:PVn X a fa) (hb:PVn X b fb):PV X (.Compare a [.IsNot] [b] pos) (zN notD fa fb):=pv_cmpN op_notN on_not ha hb (nomark _)
theorem xY {a b:Expr} {fa fb:FE} {pos:Pos} (ha:PVn X a fa) (hb:PVn X b fb):PTv X (.Compare a [.Is] [b] pos) (qA (zN isD fa fb)):=pt_cmpN op_isN on_is ha hb (nomark _)
theorem pt_isnot {a b:Expr} {fa fb:FE} {pos:Pos} (ha:PVn X a fa) (hb:PVn X b fb):PTv X (.Compare a [.IsNot] [b] pos) (qA (zN notD fa fb)):=pt_cmpN op_notN on_not ha hb (nomark _)
theorem os_mul:OpS X (rI IntMulOk fun i j=>.int (i * j)) yF:=by
 intro H O x y dx dy d Q ho rx ry e q
 cases dx <;> cases dy <;> first | (simp [yF] at e; done) | skip
 simp only [yF] at e
 split at e
 · rename_i hc
   cases e
   rw [rx.int',ry.int']
   exact ⟨_,_,rfl,rfl,hc,q _ H (Same.refl _) (.int _)⟩
 · cases e
theorem os_pow:OpS X (rI CPowB fun i j=>.int (i ^ j.toNat)) powD:=by
 intro H O x y dx dy d Q ho rx ry e q
 cases dx <;> cases dy <;> first | (simp [powD] at e; done) | skip
 simp only [powD] at e
 split at e
 · rename_i hc
   cases e
   rw [rx.int',ry.int']
   exact ⟨_,_,rfl,rfl,hc,q _ H (Same.refl _) (.int _)⟩
 · cases e
theorem vK {a b:Expr} {fa fb:FE} {pos:Pos} (ha:PVw X a fa) (hb:PVw X b fb):PVf X (.BinOp a .Add b pos) (catA fa fb):=by
 obtain ⟨ta,pa,ha⟩:=ha
 obtain ⟨tb,pb,hb⟩:=hb
 refine ⟨_,pe_op op_catS pa pb,fun H₀ H O σ ds hd l Q o e q=>?_⟩
 unfold catA at e
 cases h1:fa ds with
 | none=>rw [h1] at e; cases e
 | some dx =>
   cases h2:fb ds with
   | none=>rw [h1,h2] at e; cases e
   | some dy =>
     rw [h1,h2] at e
     simp only [Option.bind_some] at e
     cases dx <;> cases dy <;> first | (simp at e; done) | skip
     simp only at e
     split at e
     · rename_i hz
       cases e
       refine ha H₀ H O σ ds hd _ _ o h1 fun x H1 s1 r1=>?_
       refine hb H₀ H1 O σ ds hd _ _ (o.mono s1) h2 fun y H2 s2 r2=>?_
       obtain ⟨a1,xs,rfl,hq1,rs1⟩:=(r1.mono s2).seqL
       obtain ⟨a2,ys,rfl,hq2,rs2⟩:=r2.seqL
       refine ⟨a1,a2,xs,ys,rfl,rfl,hq1,hq2,by rw [rs1.length,rs2.length]; exact hz,fun p hp=>?_⟩
       refine q p _ _ ((s1.trans s2).trans (jR hp _)) ((s1.trans s2).free hp) qS ?_
       exact ((rs1.append rs2).more hp).mono (jR hp _)
     · cases e
variable (X) in
def POv (e:Option Expr) (f:List Sl->Option (Option Int)):Prop:=∃ t,PO X e t/\∀ H₀ H O σ ds hd i Q,Ok X.K H₀ H O σ ds hd->f ds=some i->(∀ H',Same H H'->Q i H')->t σ H Q
theorem pov_no:POv X none noP:=⟨_,po_none,fun _ H _ _ _ _ _ _ _ e q=>by cases e; exact q H (Same.refl _)⟩
theorem pov_so {e:Expr} {f:FE} (h:PVw X e f):POv X (some e) (soP f):=by
 obtain ⟨t,ht,hf⟩:=h
 refine ⟨_,po_some ht,fun H₀ H O σ ds hd i Q o e q=>?_⟩
 unfold soP at e
 cases h1:f ds with
 | none=>rw [h1] at e; cases e
 | some d =>
   rw [h1] at e
   simp only [Option.bind_some] at e
   cases d <;> first | (cases e; done) | skip
   cases e
   refine hf H₀ H O σ ds hd _ _ o h1 fun v H' s r=>?_
   rw [r.int']
   exact ⟨_,rfl,q H' s⟩
theorem cut_reps {K:Frag} {H:Hp} {O:Addr->Prop} {xs:List V} {l:List D} {a b:Option Int} (rs:Reps K H O xs l):Reps K H O (cutV xs a b) (cutD l a b):=by
 unfold cutV cutD
 rw [rs.length]
 exact (rs.drop _).take _
theorem pvf_slice {e:Expr} {lo hi:Option Expr} {f:FE} {gl gh:List Sl->Option (Option Int)} {p2 pos:Pos} (he:PVw X e f) (hl:POv X lo gl) (hh:POv X hi gh):PVf X (.Subscript e (.Slice lo hi none p2) pos) (sliA f gl gh):=by
 obtain ⟨te,pe,he⟩:=he
 obtain ⟨tl,pl,hl⟩:=hl
 obtain ⟨th,ph,hh⟩:=hh
 refine ⟨_,pe_slice sl_list pe pl ph,fun H₀ H O σ ds hd l Q o e q=>?_⟩
 unfold sliA at e
 cases h1:f ds with
 | none=>rw [h1] at e; cases e
 | some d =>
   cases h2:gl ds with
   | none=>rw [h1,h2] at e; cases e
   | some a =>
     cases h3:gh ds with
     | none=>rw [h1,h2,h3] at e; cases e
     | some b =>
       rw [h1,h2,h3] at e
       simp only [Option.bind_some] at e
       cases d <;> first | (cases e; done) | skip
       cases e
       refine he H₀ H O σ ds hd _ _ o h1 fun v H1 s1 r1=>?_
       refine hl H₀ H1 O σ ds hd _ _ (o.mono s1) h2 fun H2 s2=>?_
       refine hh H₀ H2 O σ ds hd _ _ ((o.mono s1).mono s2) h3 fun H3 s3=>?_
       obtain ⟨a1,xs,rfl,hq,rs⟩:=((r1.mono s2).mono s3).seqL
       refine ⟨a1,xs,rfl,hq,fun p hp=>?_⟩
       have ss:=(s1.trans s2).trans s3
       refine q p _ _ (ss.trans (jR hp _)) (ss.free hp) qS ?_
       exact ((cut_reps rs).more hp).mono (jR hp _)
theorem cs_max:CallS X (fun xs H Q=>∃ i j,xs=[.int i,.int j]/\Q (.int (if j > i then j else i)) H) mxD:=by
 intro H O vs l d Q ho r e q
 match l,r,e with
 | [.int i, .int j], .cons r1 (.cons r2 .nil), e =>
   cases e
   exact ⟨i,j,by rw [r1.int',r2.int'],q _ H (Same.refl _) (.int _)⟩
theorem cs_min:CallS X (fun xs H Q=>∃ i j,xs=[.int i,.int j]/\Q (.int (if j < i then j else i)) H) mnD:=by
 intro H O vs l d Q ho r e q
 match l,r,e with
 | [.int i, .int j], .cons r1 (.cons r2 .nil), e =>
   cases e
   exact ⟨i,j,by rw [r1.int',r2.int'],q _ H (Same.refl _) (.int _)⟩
theorem pv_max2 {p pos:Pos} {a b:Expr} {g:FA} (hc:X.calm=true) (hm:X.mg "max" = none) (ha:PAv X [a,b] g) (hg:Gl X "max":=by rfl) (he:starEach [a,b] X.env=(false,eval a X.env)::starEach [b] X.env:=by rfl) (hpl:(backTo pos (starEach [b] X.env)).any (·.1)=false:=by rfl) :
  PV X (.Call (.Name "max" p) [a,b] [] pos) (callB mxD g):=pv_callB (call_max2 hc) cs_max hm (by decide +kernel) ha hg (by decide) (by decide) he hpl
theorem pv_min2 {p pos:Pos} {a b:Expr} {g:FA} (hc:X.calm=true) (hm:X.mg "min" = none) (ha:PAv X [a,b] g) (hg:Gl X "min":=by rfl) (he:starEach [a,b] X.env=(false,eval a X.env)::starEach [b] X.env:=by rfl) (hpl:(backTo pos (starEach [b] X.env)).any (·.1)=false:=by rfl) :
  PV X (.Call (.Name "min" p) [a,b] [] pos) (callB mnD g):=pv_callB (call_min2 hc) cs_min hm (by decide +kernel) ha hg (by decide) (by decide) he hpl
theorem isEmpty_len {α β : Type} {xs:List α} {ys:List β} (h:xs.length=ys.length):xs.isEmpty=ys.isEmpty:=by
 cases xs <;> cases ys <;> simp_all
theorem PVn.t {e:Expr} {f:FE} (h:PVn X e f) (he:∀ whole,isTrue e X.env whole=(do let v <- whole; standAt e.pos; holding [v] (truthy v)):=by intro _; rfl):PTv X e (testT f):=by
 obtain ⟨t,ht,hf⟩:=h
 refine ⟨_,pt_truth ht he,fun H₀ H O σ ds hd k Q o e q=>?_⟩
 unfold testT at e
 cases h:f ds with
 | none=>rw [h] at e; cases e
 | some d =>
   rw [h] at e
   simp only [Option.bind_some] at e
   refine hf H₀ H O σ ds hd d _ o h fun v H' s r=>⟨k,?_,q H' s⟩
   cases d with
   | non=>cases e; cases r; exact rfl
   | bl b=>cases e; cases r; exact rfl
   | int i=>cases e; cases r; exact rfl
   | str x =>
     simp only [truD] at e
     split at e
     · rename_i hz; cases e; cases r; exact ⟨hz,rfl⟩
     · cases e
   | tup l =>
     cases e
     obtain ⟨a,xs,rfl,hq,rs⟩:=WRep.seqT (.inl r)
     exact .inr (.inl ⟨xs,hq,by rw [isEmpty_len rs.length]⟩)
   | lst l =>
     cases e
     obtain ⟨a,xs,rfl,hq,rs⟩:=WRep.seqL (.inl r)
     exact .inl ⟨xs,hq,by rw [isEmpty_len rs.length]⟩
   | _=>cases e
theorem yM {st:Stmt} : PSv X st (fun _=>none):=⟨_,ps_never,fun _ _ _ _ _ _ _ _ _ e _=>by cases e⟩
theorem psv_while (n:Nat) {c:Expr} {body:List Stmt} {pos:Pos} {fc:FT} {g:FS} (hp:PassesOwn (model X.prog X.w) X.A X.env X.xe) (hc:PTv X c fc) (hb:PSsv X body g):PSv X (.While c body [] pos) (whileN fc g n):=by
 obtain ⟨tc,pc,hc⟩:=hc
 obtain ⟨tb,pb,hb⟩:=hb
 refine ⟨_,ps_while hp pc pb,fun H₀ H O σ ds hd out E o e h=>?_⟩
 refine ⟨fun m σ' H'=>∃ O' ds',Ok X.K H₀ H' O' σ' ds' hd/\whileN fc g m ds'=some out,⟨n,O,ds,o,e⟩,?_⟩
 rintro m σ1 H1 ⟨O1,ds1,o1,e1⟩
 cases m with
 | zero=>cases e1
 | succ m =>
   simp only [whileN] at e1
   cases h1:fc ds1 with
   | none=>rw [h1] at e1; cases e1
   | some k =>
     rw [h1] at e1
     simp only [Option.bind_some] at e1
     refine hc H₀ H1 O1 σ1 ds1 hd k _ o1 h1 fun H2 s2=>?_
     cases k with
     | false =>
       simp only [Bool.false_eq_true,if_false,Option.some.injEq] at e1
       subst e1
       exact iteF (h σ1 H2 O1 (o1.mono s2))
     | true =>
       simp only [if_true] at e1
       refine iteT ⟨fun σ' H'=>∃ O' ds',Ok X.K H₀ H' O' σ' ds' hd/\whileN fc g m ds'=some out,fun σ' H' q=>⟨m,Nat.lt_succ_self _,q⟩,?_⟩
       cases h2:g ds1 with
       | none=>rw [h2] at e1; cases e1
       | some o3 =>
         rw [h2] at e1
         simp only [Option.bind_some] at e1
         refine hb H₀ H2 O1 σ1 ds1 hd o3 _ (o1.mono s2) h2 ?_
         cases o3 with
         | nx ds3=>exact fun σ3 H3 O3 ok3=>⟨O3,ds3,ok3,e1⟩
         | ct ds3=>exact fun σ3 H3 O3 ok3=>⟨O3,ds3,ok3,e1⟩
         | bk ds3=>cases e1; exact fun σ3 H3 O3 ok3=>h σ3 H3 O3 ok3
         | rt rr=>cases e1; exact h
theorem psv_ext {i:Nat} {x:Str} {e:Expr} {pos p1 p2 p3:Pos} {fe:FA} (he:PVf X e fe) (hN:X.N[i]? = some x:=by rfl) (hv:Vis X.env.scope x:=by first | exact Or.inl rfl | exact Or.inr (Or.inl rfl) | exact Or.inr (Or.inr rfl)) (hd:(x == ("__debug__" : Str))=false:=by decide)
  (hcd:(x == ("__classdict__" : Str))=false:=by decide)
  (hfew:((backTo p3 (starEach [e] X.env)).all (fun x=>!x.1) && (backToKw p3 (keywordEach [] X.env)).all (fun x=>x.1.isSome)
    && decide ([e].length+([]:List Keyword).length+(if ([]:List Keyword).isEmpty then 0 else 1) < 30))=true:=by rfl)
  (hline:(p2.endLine == p3.line)=true:=by rfl) (hs:starEach [e] X.env=(false,eval e X.env)::starEach [] X.env:=by rfl)
  (hbase:attributeBase (.Name x p1) "extend" X.env (eval (.Name x p1) X.env)=eval (.Name x p1) X.env:=by rfl) (hsw:swapsWith (.Call (.Attribute (.Name x p1) "extend" p2) [e] [] p3) none pos.line X.env=pure false:=by rfl) :
  PSv X (.Expr (.Call (.Attribute (.Name x p1) "extend" p2) [e] [] p3) pos) (extG i fe):=by
 obtain ⟨te,pe,he⟩:=he
 refine ⟨_,ps_expr (pe_bm PySem.F.plainAttrs_list PySem.F.slot_list_extend PySem.F.type_list_extend mt_extend (xM hN hv hd hcd) (jZ pe xK hs) hbase hfew hline hs rfl) hsw,fun H₀ H O σ ds hd out E o e h=>?_⟩
 unfold extG at e
 cases hsl:ds[i]? with
 | none=>rw [hsl] at e; cases e
 | some s =>
   rw [hsl] at e
   cases s with
   | v d'=>cases e
   | no=>cases e
   | exc _=>cases e
   | fr _=>cases e
   | own l =>
     simp only at e
     cases h1:fe ds with
     | none=>rw [h1] at e; cases e
     | some d =>
       rw [h1] at e
       simp only [Option.bind_some] at e
       split at e
       · rename_i hl
         cases e
         obtain ⟨a,xs,q1,q2,q3,q4⟩:=o.readO hsl
         refine ⟨.ref a,q1,.inl ⟨rfl,xs,SqL.of q3⟩,?_⟩
         refine he H₀ H O σ ds hd d _ o h1 fun b ys H1 s1 hn hb r1=>?_
         refine ⟨a,b,xs,ys,rfl,rfl,s1 _ _ q3,hb,by rw [q4.length,r1.length]; exact hl,?_⟩
         exact h _ _ _ ((o.mono s1).modify hsl q1 ((q4.mono s1).append (r1.less fun a z=>.inr z)))
       · cases e
theorem psv_compV {i:Nat} {y:Str} {py spos:Pos} {scope:Scope} {NY:List Str} {mp:List (Option Nat)} {tg iter elt:Expr} {ifs:List Expr} {pos:Pos} {fi:FA} {ga:D->List Sl->Option (List Sl)} {tt:FT} {fe:FE} (hN:X.N.Nodup)
  (S:CompScope X scope NY mp) (hc:X.calm=true) (hi:PIv X tg iter fi) (hg:∀ c,PGv (jY X scope NY c) tg ga) (ht:∀ c,PFv (jY X scope NY c) ifs tt) (he:∀ c,PV (jY X scope NY c) elt fe)
  (hy:X.N[i]? = some y:=by rfl) (hl:X.env.scope.names.lookup y=some .local:=by rfl)
  (hsw:swapsWith (.ListComp elt [⟨tg,iter,ifs,0⟩] scope pos) (some (.Name y py)) spos.line X.env=pure true:=by rfl)
  (hs:∀ x,foldedSetIterable iter X.env x=pure x:=by intro _; rfl):PSv X (.Assign [.Name y py] (.ListComp elt [⟨tg,iter,ifs,0⟩] scope pos) spos) (jT i (mkL (compG fi mp ga tt fe))):=by
 obtain ⟨wi,pi,hi⟩:=hi
 refine ⟨_,ps_comp hN hy hl hsw S hc pi (fun c=>(Classical.choose_spec (hg c)).1) (fun c=>(Classical.choose_spec (ht c)).1) (fun c=>(Classical.choose_spec (he c)).1) hs,fun H₀ H O σ ds hd out E o e h=>?_⟩
 unfold jT mkL at e
 cases h1:compG fi mp ga tt fe ds with
 | none=>rw [h1] at e; cases e
 | some l =>
   rw [h1] at e
   cases e
   exact kG hi (fun c=>(Classical.choose_spec (hg c)).2) (fun c=>(Classical.choose_spec (ht c)).2) (fun c=>(Classical.choose_spec (he c)).2) H₀ H O σ ds hd l _ o h1 fun a xs H' s hn he r =>
    h _ _ _ ((o.mono s).set (.lst (o.free hn) (.inl he) (r.less fun _ z=>.inr z)))
end
end FL
namespace L2
open PySem PySem.Spec PyProof.Rows
section
variable {X:Cx}
end
end L2
namespace Att
open PySem PySem.W PySem.Calls PyProof.Rows
theorem bits_script:∀ {ns:List Int} {b:Nat},WData.weightAll (ns.map WData.int)<=b->∀ c∈ns,Builtin.Int.intBits c<=b
 | [],_,_=>fun c hc=>by cases hc
 | n :: r, b, h => fun c hc => by
   simp only [List.map_cons,WData.weightAll,WData.weight] at h
   rcases List.mem_cons.mp hc with rfl | hc
   · unfold Builtin.Int.intBits
     omega
   · exact bits_script (ns:=r) (b:=b) (by omega) c hc
theorem attach_callB {l:OpenLaw} {n:Nat} {q:Program} {loose:List Str} {XP:(Str->Option Value)->Heap->Prop} {YP:World->Heap->Prop} {d:DefRec}
  (hn:l.most=some n) (hdf:d.params.defaults=[])
  (call:∀ (w:World) (s₀ s₁ : Shared) (mg mb:Str->Option Value) (fa:Addr) (o:Obj) (pm cd doc:Value) (a:Addr) (vs:List Value) (ns:List Int),
    Ground q loose [] XP w s₀ mg mb s₁.heap->YP w s₁.heap →
    s₁.heap.get? fa=some o->o.data = .func (docDef d.name d.params d.body d.scope pm cd doc)->s₁.heap.CodeRec cd d.name->mg d.name=some (.ref fa) →
    s₁.heap.get? a=some { cls:=.type "list",data:=.seq vs.toArray }->IntsAre vs ns->ns.length<=n->(∀ c∈ns,Builtin.Int.intBits c<=1048576)->s₁.gens = #[] →
    codeAny (model l.prog w) callerA (.call (.ref fa) ⟨[.ref a],[]⟩) (fun r s'=>r = .ok (.ret (.bool true))/\OldK s₁.heap s'.heap/\s'.os=s₁.os/\AllBare s'.gens) s₁) :
  WalkO q loose XP YP l.row.toRowW d [] (fun f vs=>PySem.call f vs):=by
 intro w s₀ s₁ mg mb G Y fa o pm cd doc dV kV ho hd hcd hD hmg hg args vals as hpre hlay hrd hwl hlo
 obtain rfl:dV = .none:=Dflts.none hD hdf
 obtain rfl:kV = .none:=Dflts.noKw hD
 obtain ⟨a,vs,ns,rfl,rfl,hobj,hints,hlen⟩:=script_of hn hpre hwl
 have hb:∀ c∈ns,Builtin.Int.intBits c<=1048576:=by
  have h1:=(layableW_iff.mp (layW_cons hlay).1).2.2
  simp only [WData.weight] at h1
  exact bits_script (Nat.le_trans h1 (by decide))
 refine enter_call (codeAny_mono (call w s₀ s₁ mg mb fa o pm cd doc a vs ns G Y ho (fd_plain hd) hcd hmg hobj hints hlen hb hg) fun r s' hq=>?_)
 obtain ⟨rfl,h2,h3,h4⟩:=hq
 exact ⟨.inl ⟨.bool true,.bool true,[],rfl,fun _=>rfl,.bool true,post_true l _,fun _=>⟨List.Pairwise.nil,fun _ hm=>(nomatch hm)⟩⟩,h2,h3,h4⟩
end Att
namespace FL
open PySem PySem.Spec PyProof.Rows L2
def spLawB (K:Frag) (n:Nat):Sp:=fun vs H Q _=>∃ (a:Addr) (ns:List Int),vs=[.ref a]/\SqL K H a (ns.map V.int)/\ns.length<=n/\(∀ c∈ns,Builtin.Int.intBits c<=1048576)/\∀ H',Q (.bl true) H'
theorem law_ofB {P:Program} {w:World} {K:Frag} {mg:Str->Option Value} {base:Heap} {k:Nat} {f:Addr} {fd:FuncData} {x:Str} {n:Nat} {F:List D->Option Ret} (Fn:FnOk P w K mg base CX0 k f fd [x] (spF K 1 F))
  (h:∀ ns:List Int,ns.length<=n->(∀ c∈ns,Builtin.Int.intBits c<=1048576)->F [.lst (ns.map D.int)]=some (.val (.bl true))):FnOk P w K mg base CX0 k f fd [x] (spLawB K n):=by
 refine Fn.imp fun vs H Q E hq=>?_
 obtain ⟨a,ns,rfl,hS,hl,hb,q⟩:=hq
 refine ⟨rfl,[.lst (ns.map D.int)],.val (.bl true),.cons ?_ .nil,h ns hl hb,fun v H' s r=>?_⟩
 · rcases hS with hS | hS
   · exact .lst (fun z=>z.elim) hS (Reps.ints ns)
   · exact .lstK hS (Reps.ints ns)
 · cases r; exact q H'
open PySem.W (tabIn CodeHd tabObj noTabs tab_of) in
inductive TabL (K:Frag) (q:Program):List Str->List (Str×Addr×Addr)->Prop
 | nil:TabL K q [] []
 | yes {x:Str} {xs:List Str} {c P:Addr} {tl:List (Str×Addr×Addr)} (h:PySem.W.tabIn K x=some (c,P)) (r:((recsOf q).find? (fun e=>e.name == x)).isSome=true) (ap:(tl.all fun p=>p.2.2 != P)=true) (t:TabL K q xs tl):TabL K q (x::xs) ((x,c,P)::tl)
 | no {x:Str} {xs:List Str} {tl:List (Str×Addr×Addr)} (h:PySem.W.tabIn K x=none) (t:TabL K q xs tl):TabL K q (x::xs) tl
theorem tabL_no {K:Frag} {q:Program} {x:Str} {xs:List Str} {tl:List (Str×Addr×Addr)} (h:PySem.W.nsIn K mainGlobals x=some none) (t:TabL K q xs tl):TabL K q (x::xs) tl:=.no (by unfold PySem.W.tabIn; rw [h]) t
theorem tabL_yes {K:Frag} {q:Program} {x:Str} {xs:List Str} {c P f:Addr} {fd:FuncData} {oc oc':Value} {od od':Option Addr} {sl sl':Array (Option Value)} {vs:Array Value} {tl:List (Str×Addr×Addr)} (h1:PySem.W.nsIn K mainGlobals x=some (some (.ref f))) (h2:K.lookup f=some ⟨oc,od,.func fd,sl⟩)
  (h3:fd.code = .ref c) (h4:K.lookup c=some ⟨oc',od',.fields vs,sl'⟩) (h5:(vs[11]? : Option Value)=some (.ref P)) (r:((recsOf q).find? (fun e=>e.name == x)).isSome=true) (t:TabL K q xs tl) (ap:(tl.all fun p=>p.2.2 != P)=true):TabL K q (x::xs) ((x,c,P)::tl) :=
 .yes (by unfold PySem.W.tabIn; simp only [h1,h2,h3,h4,h5]) r ap t
section
variable {K:Frag} {q:Program} {xs:List Str} {tl:List (Str×Addr×Addr)}
theorem TabL.get (h:TabL K q xs tl):∀ {x:Str} {c P:Addr},x∈xs->PySem.W.tabIn K x=some (c,P)->(x,c,P)∈tl:=by
 induction h with
 | nil=>intro x c P hx; cases hx
 | yes h r ap t ih =>
   intro x c P hx ht
   rcases List.mem_cons.mp hx with e | e
   · subst e
     rw [h] at ht
     cases ht
     exact List.mem_cons_self
   · exact List.mem_cons_of_mem _ (ih e ht)
 | no h t ih =>
   intro x c P hx ht
   rcases List.mem_cons.mp hx with e | e
   · subst e
     rw [h] at ht
     cases ht
   · exact ih e ht
theorem TabL.fact (h:TabL K q xs tl):∀ p∈tl,PySem.W.tabIn K p.1=some (p.2.1,p.2.2)/\((recsOf q).find? (fun e=>e.name == p.1)).isSome=true:=by
 induction h with
 | nil=>intro p hp; cases hp
 | yes h r ap t ih =>
   intro p hp
   rcases List.mem_cons.mp hp with e | e
   · subst e; exact ⟨h,r⟩
   · exact ih p e
 | no h t ih=>exact ih
def tabH (K:Frag) (tl:List (Str×Addr×Addr)):Hp:=fun b=>(tl.find? fun p=>p.2.2 == b).map fun p=>.tbl (innerQ K p.1)
theorem kJ {b:Addr} {u:HO} (e:tabH K tl b=some u):∃ p∈tl,b=p.2.2/\u = .tbl (innerQ K p.1):=by
 unfold tabH at e
 cases h:tl.find? fun p=>p.2.2 == b with
 | none=>rw [h] at e; cases e
 | some p =>
   rw [h] at e
   cases e
   exact ⟨p,List.mem_of_find?_eq_some h,(beq_iff_eq.mp (List.find?_some (p:=fun p:Str×Addr×Addr=>p.2.2 == b) h)).symm,rfl⟩
theorem TabL.at (h:TabL K q xs tl):∀ p∈tl,tabH K tl p.2.2=some (.tbl (innerQ K p.1)):=by
 induction h with
 | nil=>intro p hp; cases hp
 | yes h r ap t ih =>
   intro p hp
   rename_i x xs c P tl
   unfold tabH
   rcases List.mem_cons.mp hp with e | e
   · subst e
     simp
   · have:(P == p.2.2)=false:=by
      have:=List.all_eq_true.mp ap p e
      simp only [bne_iff_ne,ne_eq] at this
      exact beq_eq_false_iff_ne.mpr (Ne.symm this)
     rw [List.find?_cons,this]
     exact ih p e
 | no h t ih=>exact ih
end
theorem no_cls {K:Frag} {h:Heap} {b:Addr} {o:Obj} {ps:Array Value} (X:K.In h) (hK:PySem.W.noTabs K=true) (e:K.lookup b=some o) (hb:h.get? b=some (PySem.W.tabObj ps)):False:=by
 have q:=X b o e
 rw [hb] at q
 cases q
 have h2:=List.all_eq_true.mp hK (b,_) (PySem.W.mem_of_lookupK e)
 exact absurd (show false=true from h2) Bool.false_ne_true
theorem law_callT {P:Program} {w:World} {K:Frag} {q:Program} {loose:List Str} {mean:ExcName->Option Value} {mg mb:Str->Option Value} {k:Nat} {fa a:Addr} {fd:FuncData} {x:Str} {sp:Sp} {s₁ : Shared} {vs:List Value} {ns:List Int} {tl:List (Str×Addr×Addr)}
  (KX:K.In s₁.heap) (T:Top q loose mean mg mb s₁.heap) (hT:TabL K q makers tl) (hK:PySem.W.noTabs K=true) (hg:s₁.gens = #[]) (ha:s₁.heap.get? a=some { cls:=.type "list",data:=.seq vs.toArray }) (hi:IntsAre vs ns) (hl:ns.length<=sizeLine) (hr:Room k callerA)
  (F:∀ base:Heap,K.In base->base.Ns mainGlobals mg->FnOk P w K mg base CX0 k fa fd [x] sp) (hbind:∀ (s:Shared) (u:Value),BindsTo s fd ⟨[u],[]⟩ [(x,u)])
  (hsp:∀ H:Hp,SqL K H a (ns.map V.int)->sp [.ref a] H (fun v _=>v = .bl true) fun _ _ _=>False) :
  codeAny (model P w) callerA (.call (.ref fa) ⟨[.ref a],[]⟩) (fun r s'=>r = .ok (.ret (.bool true))/\OldK s₁.heap s'.heap/\s'.os=s₁.os/\AllBare s'.gens) s₁:=by
 have rv:=vals_ints hi
 have tf:∀ p∈tl,PySem.W.CodeHd s₁.heap p.2.1 p.2.2/\s₁.heap.get? p.2.2=some (PySem.W.tabObj #[]):=fun p hp=>by
  obtain ⟨h1,h2⟩:=hT.fact p hp
  obtain ⟨d,hd⟩:=Option.isSome_iff_exists.mp h2
  exact PySem.W.tab_of T KX hd h1
 have core:∀ H:Hp,SqL K H a (ns.map V.int)->L2.HOk P w H s₁.heap->(∀ b u,H b=some u->(b=a/\K.lookup a=none/\∃ o xs,u = .frz o (.lst xs)) \/ ∃ p∈tl,b=p.2.2/\u = .tbl (innerQ K p.1))->(∀ p∈tl,H p.2.2=some (.tbl (innerQ K p.1))) →
   codeAny (model P w) callerA (.call (.ref fa) ⟨[.ref a],[]⟩) (fun r s'=>r = .ok (.ret (.bool true))/\OldK s₁.heap s'.heap/\s'.os=s₁.os/\AllBare s'.gens) s₁:=by
  intro H hS hok hA hP
  have free_of:∀ {b:Addr} {o:Obj},s₁.heap.get? b=some o->(∀ its n,o.data≠.seq its n)->o.data≠.fields #[]->H b=none:=fun {b o} e n1 n2=>by
   cases qb:H b with
   | none=>rfl
   | some u =>
     rcases hA b u qb with ⟨rfl,_,_⟩ | ⟨p,hp,rfl,_⟩
     · rw [ha] at e; cases e; exact (n1 _ _ rfl).elim
     · rw [(tf p hp).2] at e; cases e; exact (n2 rfl).elim
  have base_of:∀ {b:Addr} {o:Obj},s₁.heap.get? b=some o->(∀ its n,o.data≠.seq its n)->o.data≠.fields #[]->(hidT s₁.heap H).get? b=some o:=fun e n1 n2=>hidT_get e (free_of e n1 n2)
  have nsK:∀ {b:Addr} {m:Str->Option Value},s₁.heap.Ns b m->(hidT s₁.heap H).Ns b m:=fun {b m} ⟨o,es,ep,e,d,r⟩=>⟨o,es,ep,base_of e (fun _ _ z=>by rw [d] at z; cases z) (fun z=>by rw [d] at z; cases z),d,r⟩
  have hKb:K.In (hidT s₁.heap H):=fun b o e=>hidT_get (KX b o e) (by
   cases qb:H b with
   | none=>rfl
   | some u =>
     rcases hA b u qb with ⟨rfl,z,_⟩ | ⟨p,hp,rfl,_⟩
     · rw [z] at e; cases e
     · exact (no_cls KX hK e (tf p hp).2).elim)
  have hM:Mod K mg (hidT s₁.heap H):=⟨hKb,nsK T.g,⟨mb,nsK T.b,T.builtins⟩,let ⟨mc,h1,h2⟩:=T.nolimit; ⟨mc,nsK h1,h2⟩⟩
  have hTab:TabsK K mg (hidT s₁.heap H) H:=by
   refine ⟨?_,fun y c P' hy ht=>?_⟩
   · obtain ⟨bm, ob, b1, b2, b3, b4, b5, b6⟩ := T.bmain
     exact ⟨bm,ob,b1,b2,base_of b3 (fun _ _ z=>by rw [b6] at z; cases z) (fun z=>by rw [b6] at z; cases z),b4,b5,b6⟩
   · have hm := hT.get hy ht
     refine ⟨?_,hP _ hm⟩
     obtain ⟨o,ws,file,tf',flags,tg,inF,text,tt,e1,r1,r2,r3,rest⟩:=(tf _ hm).1
     refine ⟨o,ws,file,tf',flags,tg,inF,text,tt,base_of e1 (fun _ _ z=>by rw [r2] at z; cases z) (fun z=>?_),r1,r2,r3,rest⟩
     rw [r2] at z
     cases z
     cases r3
  have e0:Env0 P w K mg (hidT s₁.heap H) callerA [] s₁ H:=⟨rfl,hM,fun b o e=>of_hidT e,⟨Nat.le_of_eq (hidT_size _ _),hTab⟩,trivial,fun b hb=>absurd (show b∈([]:List Addr) from hb) (by simp),hok,.of_eq hg⟩
  refine codeAny_mono ((F _ hKb (nsK T.g)).run callerA [] s₁ H ⟨[.ref a],[]⟩ [.ref a] [.ref a] _ _ hr e0 (hbind s₁ (.ref a)) (.cons rfl .nil) (hsp H hS)) fun r s' h=>?_
  cases r with
  | error e=>exact False.elim h
  | ok fl =>
    cases fl with
    | next=>exact False.elim h
    | brk=>exact False.elim h
    | cont=>exact False.elim h
    | ret u =>
      obtain ⟨v,H',os,bare,un,hok',r',hv⟩:=h
      have hv':v = .bl true:=hv
      subst hv'
      obtain rfl:u=Value.bool true:=r'
      refine ⟨rfl,⟨fun b o e=>?_,fun b o e=>un.there b o e (by simp)⟩,os,bare⟩
      cases qb:H b with
      | none=>exact .inl (un.keep b o e qb (by intro z; exact absurd (show b∈([]:List Addr) from z) (by simp)) (by simp))
      | some u =>
        rcases hA b u qb with ⟨_,_,ob,xs,rfl⟩ | ⟨p,hp,rfl,rfl⟩
        · obtain ⟨e1, _⟩ := hok b _ qb
          obtain ⟨e2,_⟩:=hok' b _ (un.frzs b ob _ qb)
          rw [e] at e1; cases e1
          exact .inl e2
        · have t2 := (tf p hp).2
          rw [e] at t2
          cases t2
          obtain ⟨ps,e2,_⟩:=hok' _ _ (un.tbls _ _ qb)
          exact .inr (.inl ⟨((tf p hp).1.tab (tf p hp).2).isCodeTable,rfl,#[],ps,rfl,by rw [Array.empty_append]; exact e2⟩)
 have tabOk:∀ (H:Hp) (p:Str×Addr×Addr),p∈tl->ObjOk P w H s₁.heap p.2.2 (.tbl (innerQ K p.1)):=fun H p hp=>⟨#[],(tf p hp).2,trivial,fun pos v z=>by cases z⟩
 cases hk:K.lookup a with
 | some o =>
   have e:=KX a o hk
   rw [ha] at e
   cases e
   refine core (tabH K tl) (.inr ⟨_,vs.toArray,_,hk,rfl,rfl,rfl,by rw [List.size_toArray,hi.length]; exact hl,by simpa using rv⟩) (fun b u z=>?_) (fun b u z=>.inr (kJ z)) fun p hp=>hT.at p hp
   obtain ⟨p,hp,rfl,rfl⟩:=kJ z
   exact tabOk _ p hp
 | none =>
   have na:∀ p∈tl,p.2.2≠a:=fun p hp z=>by
    have:=(tf p hp).2
    rw [z,ha] at this; cases this
   refine core (upd (tabH K tl) a (.frz { cls:=.type "list",data:=.seq vs.toArray } (.lst (ns.map V.int)))) (.inl (.inr ⟨_,qS⟩)) (fun b u z=>?_) (fun b u z=>?_) fun p hp=>by rw [qC (na p hp)]; exact hT.at p hp
   · by_cases hb : b = a
     · subst hb
       rw [qS] at z
       cases z
       exact ⟨ha,by rw [List.length_map]; exact hl,vs,_,rv,ha⟩
     · rw [qC hb] at z
       obtain ⟨p,hp,rfl,rfl⟩:=kJ z
       exact tabOk _ p hp
   · by_cases hb : b = a
     · subst hb
       rw [qS] at z
       cases z
       exact .inl ⟨rfl,hk,_,_,rfl⟩
     · rw [qC hb] at z
       exact .inr (kJ z)
theorem walkB {l:PySem.W.OpenLaw} {q:Program} {loose:List Str} {XP:(Str->Option Value)->Heap->Prop} {YP:World->Heap->Prop} {d:DefRec} {K:Params->PySem.W.Frag} {k:Nat} {tl:List (Str×Addr×Addr)} (hn:l.most=some 63) (hdf:d.params.defaults=[]) (hr:Room k callerA)
  (hY:∀ (w:World) (h:Heap),YP w h->(K w.params).In h) (hK:∀ w:World,PySem.W.noTabs (K w.params)=true) (hT:∀ w:World,TabL (K w.params) q makers tl)
  (F:∀ (w:World) (mg:Str->Option Value) (fa:Addr) (h:Heap),(K w.params).In h->h.Ns mainGlobals mg->mg d.name=some (.ref fa) →
    ∃ fd:FuncData,(∀ (s:Shared) (u:Value),BindsTo s fd ⟨[u],[]⟩ [("_law_script",u)])/\∀ base:Heap,(K w.params).In base->base.Ns mainGlobals mg->FnOk l.prog w (K w.params) mg base CX0 k fa fd ["_law_script"] (spLawB (K w.params) 63)) :
  PySem.W.WalkO q loose XP YP l.row.toRowW d [] (fun f vs=>PySem.call f vs):=by
 refine Att.attach_callB hn hdf fun w s₀ s₁ mg mb fa o pm cd doc a vs ns G Y ho hd hcd hmg hobj hints hlen hb hg=>?_
 have KX:=hY w _ Y
 obtain ⟨fd,hbd,hF⟩:=F w mg fa _ KX G.T.g hmg
 exact law_callT KX G.T (hT w) (hK w) hg hobj hints (Nat.le_trans hlen (by decide)) hr hF hbd fun H hS=>⟨a,ns,rfl,hS,hlen,hb,fun _=>rfl⟩
structure Cal (P:Program) (w:World) (K:Frag) (mg:Str->Option Value) (base:Heap) (x:Str) (k n:Nat) (F:List D->Option Ret):Prop where
 ex:∃ (f:Addr) (fd:FuncData) (ps:List Str),FnOk P w K mg base CX0 k f fd ps (spF K n F)/\Binds K fd ps []/\PySem.W.keepIn K (.ref f)=true/\mg x=some (.ref f)
section
variable {X:Cx}
section
variable {k j:Nat} {n:Nat} {F:List D->Option Ret} {x:Str} {p pos:Pos} {e:Expr} {es:List Expr} {g:FA}
theorem zM (C:Cal X.prog X.w X.K X.mg X.base x k n F) (hr:Room j X.A) (ha:PAn X (e::es) g) (hj:k<=j:=by decide)
  (hg:Gl X x:=by rfl) (hdb:(x == ("__debug__" : Str))=false:=by decide) (he:starEach (e::es) X.env=(false,eval e X.env)::starEach es X.env:=by rfl) (hpl:(backTo pos (starEach es X.env)).any (·.1)=false:=by rfl) :
  PV X (.Call (.Name x p) (e::es) [] pos) (zX n F g):=by
 obtain ⟨f,fd,ps,Fn,hb,hk,hm⟩:=C.ex
 exact pv_callN Fn (hr.mono hj) hm hk hb ha hg hdb he hpl
theorem yZ (C:Cal X.prog X.w X.K X.mg X.base x k n F) (hr:Room j X.A) (ha:PAn X (e::es) g) (hj:k<=j:=by decide)
  (hg:Gl X x:=by rfl) (hdb:(x == ("__debug__" : Str))=false:=by decide) (he:starEach (e::es) X.env=(false,eval e X.env)::starEach es X.env:=by rfl) (hpl:(backTo pos (starEach es X.env)).any (·.1)=false:=by rfl) :
  PVf X (.Call (.Name x p) (e::es) [] pos) (wY n F g):=by
 obtain ⟨f,fd,ps,Fn,hb,hk,hm⟩:=C.ex
 exact pvf_callN Fn (hr.mono hj) hm hk hb ha hg hdb he hpl
end
end
section
variable {X:Cx} {a b:Expr} {fa fb:FE} {pos:Pos}
theorem pv_lt (ha:PVw X a fa) (hb:PVw X b fb):PV X (.Compare a [.Lt] [b] pos) (zN ltD fa fb):=pv_cmp op_lt wT ha hb (nomark _)
theorem pv_le (ha:PVw X a fa) (hb:PVw X b fb):PV X (.Compare a [.LtE] [b] pos) (zN leD fa fb):=pv_cmp op_le wT ha hb (nomark _)
theorem pv_gt (ha:PVw X a fa) (hb:PVw X b fb):PV X (.Compare a [.Gt] [b] pos) (zN gtD fa fb):=pv_cmp op_gt wT ha hb (nomark _)
theorem pt_lt (ha:PVw X a fa) (hb:PVw X b fb):PTv X (.Compare a [.Lt] [b] pos) (qA (zN ltD fa fb)):=pt_cmpV op_lt wT ha hb (nomark _)
theorem pt_gt (ha:PVw X a fa) (hb:PVw X b fb):PTv X (.Compare a [.Gt] [b] pos) (qA (zN gtD fa fb)):=pt_cmpV op_gt wT ha hb (nomark _)
theorem pt_ge (ha:PVw X a fa) (hb:PVw X b fb):PTv X (.Compare a [.GtE] [b] pos) (qA (zN geD fa fb)):=pt_cmpV op_ge wT ha hb (nomark _)
theorem qU (ha:PVw X a fa) (hb:PVw X b fb):PV X (.BinOp a .Add b pos) (zN xP fa fb):=kC op_addU os_add ha hb
theorem yV (ha:PVw X a fa) (hb:PVw X b fb):PV X (.BinOp a .Sub b pos) (zN subD fa fb):=kC op_sub os_sub ha hb
theorem jA (ha:PVw X a fa) (hb:PVw X b fb):PV X (.BinOp a .Mult b pos) (zN yF fa fb):=kC op_mulB os_mul ha hb
theorem pv_powI (ha:PVw X a fa) (hb:PVw X b fb):PV X (.BinOp a .Pow b pos) (zN powD fa fb):=kC op_powB os_pow ha hb
theorem jO (ha:PVw X a fa) (hb:PVw X b fb):PV X (.BinOp a .Mod b pos) (zN xV fa fb):=kC op_mod os_mod ha hb
theorem jB (ha:PVw X a fa) (hb:PVw X b fb):PV X (.BinOp a .FloorDiv b pos) (zN jC fa fb):=kC op_fdivB os_fdiv ha hb
end
end FL
namespace L2
open PySem PySem.Spec PyProof.Rows
section
variable {X:Cx} {tg:Expr}
theorem pi_seq {l:Expr} {tl:TE} (hl:PE X l tl):PI X tg l (fun σ H R=>iList X.K tl σ H R \/ iTup X.K tl σ H R):=by
 intro pins s σ H R I h
 rcases h with h | h
 · exact pi_list hl pins s σ H R I h
 · exact pi_tup hl pins s σ H R I h
end
end L2
namespace FL
open PySem PySem.Spec PyProof.Rows L2
section
variable {X:Cx}
theorem yP {tg e:Expr} {f:FE} (h:PV X e f):PIv X tg e (viaA f asLT):=by
 obtain ⟨t,ht,hf⟩:=h
 refine ⟨_,pi_seq ht,fun H₀ H O σ ds hd items R o e q=>?_⟩
 unfold viaA at e
 cases h1:f ds with
 | none=>rw [h1] at e; cases e
 | some d =>
   rw [h1] at e
   cases d with
   | lst l =>
     cases e
     refine .inl (hf H₀ H O σ ds hd _ _ o h1 fun v H' s r=>?_)
     obtain ⟨a,xs,rfl,hs,rs⟩:=WRep.seqL (.inl r)
     exact ⟨a,rfl,⟨xs,hs⟩,q _ (.ref a,.lst items) H' s r wlk_list⟩
   | tup l =>
     cases e
     refine .inr (hf H₀ H O σ ds hd _ _ o h1 fun v H' s r=>?_)
     obtain ⟨a,xs,rfl,hs,rs⟩:=WRep.seqT (.inl r)
     exact ⟨a,rfl,⟨xs,hs⟩,q _ (.ref a,.tup items) H' s r wlk_tup⟩
   | _=>cases e
end
end FL
namespace L2
open PySem PySem.Spec PyProof.Rows
def Itr3 (lo c:Int) (n:Nat):It:=⟨fun i _=>i < n,fun i H x H'=>H'=H/\x = .int (lo+(i:Int) * c),fun i _=>n<=i⟩
theorem turn_range3 {P:Program} {w:World} {K:PySem.W.Frag} {tg:Expr} (it:Addr) (lo c:Int) (n:Nat):Turn P w K tg (Itr3 lo c n) [it] it (fun i h=>IsRangeIter h it (lo+(i:Nat) * c) ((n:Int) - (i:Nat)) c) where
 mem:=by simp
 obj:=fun i h st b hb=>by
  have e:b=it:=by simpa using hb
  subst e
  exact ⟨_,st,fun v z=>by
   have z':Data.fields _=Data.cell v:=z
   cases z'⟩
 keep:=fun i h h' st k=>k it (by simp) _ st
 item:=by
  intro X hP hw hK hc i pins s σ H E I hf st hg
  subst hP hw hK
  obtain ⟨f0,f1,f2,f3,f4,f5⟩:=hf it (by simp)
  have W:=Walks.range (prog:=X.prog) (w:=X.w) (I.ok.hd hc) it lo c n
  refine W.item i s _ _ hg st fun v h' tk hv st' kk=>?_
  obtain ⟨t,rfl⟩:=hv
  have I1:Inv X pins σ H { s with heap:=h',toks:=tk }:=I.turned (fun b o hb e=>kk b o (by simpa using hb) e) f0 f1 f3 f4 f5
  exact ⟨_,rfl,go_of (s:={ s with heap:=h',toks:=tk }) (n:="range_iterator") st' rfl rfl (by decide) ⟨.int (lo+(i:Int) * c),H,I1,⟨t,rfl⟩,⟨rfl,rfl⟩,st',fun b hb=>(hf b hb).1⟩⟩
 done:=by
  intro X hP hw hK hc i pins s σ H E I hf st hg
  subst hP hw hK
  obtain ⟨f0,f1,f2,f3,f4,f5⟩:=hf it (by simp)
  exact wpAny_pyNext_range_end (I.ok.hd hc) st (by have:n<=i:=hg; omega) fun h' eb=>⟨rfl,I.turned (t':=s.toks) (fun b o hb e=>eb b o hb e) f0 f1 f3 f4 f5⟩
 self:=fun _ _ _ _ _ st h=>wpAny_pyIter_rangeiter st h
section
variable {X:Cx} {tg:Expr}
end
end L2
namespace FL
open PySem PySem.Spec PyProof.Rows L2
section
variable {X:Cx}
theorem wlk_range3 {K:Frag} {lo c:Int} {n:Nat} : Wlk K (Itr3 lo c n) (.non,.non) (range3D lo c n):=by
 intro H O _ r
 have hl:(range3D lo c n).length=n:=by simp [range3D]
 refine ⟨fun i d hd=>?_,show n<=_ by rw [hl]; exact Nat.le_refl _⟩
 have hi:i < n:=by
  have:=(List.getElem?_eq_some_iff.mp hd).1
  rwa [hl] at this
 refine ⟨hi,fun x H' y=>?_⟩
 obtain ⟨rfl,rfl⟩:=y
 have:d=D.int (lo+(i:Int) * c):=by
  simp only [range3D,List.getElem?_map,List.getElem?_range hi,Option.map_some] at hd
  exact (Option.some.inj hd).symm
 subst this
 exact ⟨Same.refl _,.int _⟩
theorem psv_augA {i:Nat} {x:Str} {e:Expr} {pos pos':Pos} {f:FE} (hN:X.N.Nodup) (he:PV X e f) (hi:X.N[i]? = some x:=by rfl) (hx:Loc X.env.scope x:=by first | exact Or.inl rfl | exact Or.inr rfl)
  (hf:X.fn x=true \/ X.env.scope.names.lookup x=some .local:=by first | exact .inl rfl | exact .inr rfl):PSv X (.AugAssign (.Name x pos') .Add e pos) (augA i f):=by
 obtain ⟨t,ht,hg⟩:=he
 refine ⟨_,ps_aug hN hi hx ht ip_add hf,fun H₀ H O σ ds hd out E o e h=>?_⟩
 unfold augA qY at e
 cases hs:ds[i]? with
 | none=>rw [hs] at e; cases e
 | some sl =>
   rw [hs] at e
   cases sl with
   | no=>cases e
   | exc _=>cases e
   | fr _=>cases e
   | own l=>cases e
   | v dx =>
     simp only [Option.bind_some] at e
     cases h1:f ds with
     | none=>rw [h1] at e; cases e
     | some dy =>
       rw [h1] at e
       simp only [Option.bind_some] at e
       cases dx <;> first | (cases e; done) | skip
       cases dy <;> first | (cases e; done) | skip
       cases e
       obtain ⟨v,q1,q2⟩:=o.read hs
       cases q2
       refine ⟨_,q1,hg H₀ H O σ ds hd _ _ o h1 fun v H' s r=>?_⟩
       cases r
       exact ⟨_,_,rfl,rfl,h _ _ _ ((o.mono s).set (.int _))⟩
end
end FL
namespace L2
open PySem PySem.Spec PyProof.Rows
section
variable {X:Cx} {pins:List (Addr×Obj)} {σ : St} {H:Hp} {s:Shared} {h':Heap}
theorem Inv.turnedS {t':Nat} {ch:List Addr} (I:Inv X pins σ H s) (k:∀ b o,b ∉ ch->s.heap.get? b=some o->h'.get? b=some o) (hf:∀ b∈ch,FpOk X pins H b):Inv X pins σ H { s with heap:=h',toks:=t' }:=by
 have nit:∀ b u,H b=some u->b ∉ ch:=fun b u e z=>by rw [(hf b z).1] at e; cases e
 refine I.step (g':=s.gens) (d':=s.drawn) (ch:=ch) (fun b hb=>?_) (fun b o _ _ hc e _=>k b o hc e) (fun b o _ _ hc e _=>⟨o.slots,k b o hc e⟩) (fun _ _ _ _ n=>n)
  (fun b o hc e=>⟨o,k b o hc e⟩) (fun _ _ e=>e) (fun _ _ _ e=>e) (fun _ _ e=>e) (fun m hm=>?_) (fun b u e=>?_) I.bare
 · obtain ⟨f0, f1, f2, f3, f4, f5⟩ := hf b hb
   exact ⟨f3,f1,f4,f5⟩
 · obtain ⟨o, es, ep, ho, r⟩ := hm
   exact ⟨o,es,ep,k _ o (fun z=>(hf _ z).2.1 rfl) ho,r⟩
 · refine (I.hok b u e).stay (fun c v hc q => k c v ?_ q) (fun _ q => q) fun _ _ q => q
   rcases hc with z | z
   · rw [z]; exact nit b u e
   · exact nit c _ z
end
section
variable {X:Cx}
end
end L2
namespace FL
open PySem PySem.Spec PyProof.Rows L2
section
variable {X:Cx}
section
variable {scope:Scope} {NY:List Str} {mp:List (Option Nat)} {tg iter elt:Expr} {ifs:List Expr} {pos:Pos} {fi:FA} {ga:D->List Sl->Option (List Sl)} {tt:FT} {fe:FE}
end
end
end FL
namespace L2
open PySem PySem.Spec PyProof.Rows
section
variable {X:Cx}
end
end L2
namespace FL
open PySem PySem.Spec PyProof.Rows L2
section
variable {X:Cx}
end
section
variable {X:Cx}
end
section
variable {X:Cx}
end
end FL
namespace L2
open PySem PySem.Spec PyProof.Rows
section
variable {X:Cx}
end
end L2
namespace FL
open PySem PySem.Spec PyProof.Rows L2
section
variable {X:Cx}
end
end FL
namespace L2
open PySem PySem.Spec PyProof.Rows
section
variable {X:Cx}
end
end L2
namespace FL
open PySem PySem.Spec PyProof.Rows L2
section
variable {X:Cx}
theorem PVd.v {e:Expr} {f:FE} (h:PVd X e f):PV X e f:=by
 obtain ⟨t,ht,hf⟩:=h
 exact ⟨t,ht,fun H₀ H O σ ds hd d Q o e q=>hf H₀ H O σ ds hd d Q o e fun v H' s r=>q v H' s (r.less fun a z=>o.old z)⟩
section
variable {m:Str} {k j n:Nat} {cs:List Nat} {F:Nat->List D->Option Ret} {o e:Expr} {es:List Expr} {apos pos:Pos} {fo:FE} {g:FA}
end
end
def Keepx (x:Addr) (H H':Hp):Prop:=∀ b o,b≠x->H b=some o->H' b=some o
theorem Keepx.trans {x:Addr} {H H1 H2:Hp} (a:Keepx x H H1) (b:Keepx x H1 H2):Keepx x H H2:=fun c o n e=>b c o n (a c o n e)
section
variable {K:Frag} {H H':Hp} {O:Addr->Prop} {x:Addr}
end
section
variable {X:Cx}
end
section
variable {X:Cx} {t k j n:Nat} {G:List D->Option (List D)} {x:Str} {p pos:Pos} {e:Expr} {es:List Expr} {g:FA}
end
theorem kit_self {K:Frag} (C:Addr):PySem.W.kitOne K (.ref C) (.ref C)=some true:=by unfold PySem.W.kitOne; rw [if_pos (by simp)]
theorem qZ {K:Frag} {C C':Addr} (u:PySem.W.isClsIn K C=true) (y:PySem.W.typeIn K (.ref C)=some (.type "type")) (s:PySem.W.subIn K (.ref C') (.ref C)=some false) (n:(Value.ref C' == Value.ref C)=false):PySem.W.kitOne K (.ref C') (.ref C)=some false:=by
 unfold PySem.W.kitOne
 rw [n,if_neg (by decide)]
 unfold PySem.W.kitCls
 simp only
 rw [show (PySem.W.clsIn K C).isSome=true from u,y,if_pos (by simp),s]
section
variable {X:Cx}
end
section
variable {X:Cx}
theorem wN {x:Str} {i:Int} {pos:Pos} (hm:∃ t,X.mg x=some (.int i t)) (hg:Gl X x:=by rfl) (hd:(x == ("__debug__" : Str))=false:=by decide):PV X (.Name x pos) (zF (.int i)) :=
 let ⟨t,h⟩:=hm
 pv_glob (v:=.int i) hg h ⟨t,rfl⟩ (fun _ _=>.int i) hd
end
def spA (K:Frag) (n:Nat) (F:List D->Option Ret):Sp:=fun vs H Q _=>vs.length=n/\∃ (B:Addr->Prop) (ds:List D) (d:D),(∀ a,B a->∃ xs,H a=some (.lst xs))/\Reps K H B vs ds/\F ds=some (.any d)/\∀ v H',Same H H'->Rep K H' B v d->Q v H'
section
variable {X:Cx}
theorem yG {e:Expr} {pos:Pos} {f:FE} (he:PV X e f):PSv X (.Return (some e) pos) (retAG f):=by
 obtain ⟨t,ht,hg⟩:=he
 refine ⟨_,vV ht,fun H₀ H O σ ds hd out E o e h=>?_⟩
 unfold retAG at e
 cases h1:f ds with
 | none=>rw [h1] at e; cases e
 | some d =>
   rw [h1] at e
   cases e
   exact hg H₀ H O σ ds hd d _ o h1 fun v H' s r=>h _ _ (o.same.trans s) (r.less fun _ z=>z.elim) fun B hB=>r.less fun a ha=>(o.hold _ hB a ha).1
end
theorem ok_startA {K:Frag} {H:Hp} {N:List Str} {vs:List V} {ds:List D} {B:Addr->Prop} (hB:∀ a,B a->∃ xs,H a=some (.lst xs)) (r:Reps K H B vs ds):Ok K H H B (L2.start N vs) (args N.length ds) [.base B]:=by
 have o:=wP (N:=N) (r.less (O':=jF) fun _ z=>z.elim)
 refine ⟨o.same,o.fresh,hB,o.len,fun i s e=>?_,o.apart,fun p hp=>?_⟩
 · unfold args at e
   unfold L2.start
   have hl:=r.length
   by_cases hi:i < ds.length
   · rw [List.getElem?_append_left (by simpa using hi), List.getElem?_map] at e
     rw [List.getElem?_append_left (by simpa [hl] using hi),List.getElem?_map]
     cases h:ds[i]? with
     | none=>rw [h] at e; cases e
     | some d =>
       rw [h] at e
       cases e
       obtain ⟨v,h1,h2⟩:=r.get h
       rw [h1]
       exact vF h2
   · rw [List.getElem?_append_right (by simpa using hi), List.getElem?_replicate] at e
     split at e
     · cases e; exact yJ
     · cases e
 · simp only [List.mem_singleton] at hp
   subst hp
   exact fun a ha=>⟨ha,by obtain ⟨xs,e⟩:=hB a ha; rw [e]; simp⟩
theorem fun_okA {P:Program} {w:World} {K:Frag} {mg:Str->Option Value} {base:Heap} {x qual:Str} {st:Stmt} {f:Addr} {fd:FuncData} {N ps:List Str} {k n:Nat} {F:List D->Option Ret} (Fn:Fun K x qual st f fd) (S:FnScope N ps (zC st))
  {g:FS} (hbody:∀ (cdv:Value) (A:Around) (outer:List Env) (s:Shared) (H:Hp) (E:XK),Room k (A.deeper (envOfC qual (zC st) s.heap.objs.size f cdv))->PSsv (cxOf CX0 P w K mg base N qual (zC st) f cdv A outer s H E).nox (zJ st) g)
  (hn:ps.length=n) (hg:∀ ds r,ds.length=ps.length->F ds=some r->Does g N.length ds r):FnOk P w K mg base CX0 (k+1) f fd ps (spA K n F):=by
 refine Fn.ok S (fun vs H Q E h=>by rw [hn]; exact h.1) (fun cdv A outer s H vs Q E hr h=>?_)
 obtain ⟨hl,B,ds,d,hB,rv,e,q⟩:=h
 obtain ⟨t,ht,hf⟩:=hbody cdv A outer s H E hr
 refine ⟨t,ht,?_⟩
 have o:=ok_startA (N:=N) hB rv
 rcases hg ds _ (by rw [<- rv.length,hn]; exact hl) e with e' | ⟨z,_⟩
 · exact hf H H B _ _ [.base B] _ _ o e' (fun v H' s _ r=>q v H' s (r B (by simp)))
 · cases z
structure CalA (P:Program) (w:World) (K:Frag) (mg:Str->Option Value) (base:Heap) (x:Str) (k n:Nat) (F:List D->Option Ret):Prop where
 ex:∃ (f:Addr) (fd:FuncData) (ps:List Str),FnOk P w K mg base CX0 k f fd ps (spA K n F)/\Binds K fd ps []/\PySem.W.keepIn K (.ref f)=true/\mg x=some (.ref f)
section
variable {X:Cx} {k j n:Nat} {F:List D->Option Ret} {x:Str} {p pos:Pos} {e:Expr} {es:List Expr} {g:FA}
theorem pv_callA (C:CalA X.prog X.w X.K X.mg X.base x k n F) (hr:Room j X.A) (ha:PAs X (e::es) g) (hj:k<=j:=by decide)
  (hg:Gl X x:=by rfl) (hdb:(x == ("__debug__" : Str))=false:=by decide) (he:starEach (e::es) X.env=(false,eval e X.env)::starEach es X.env:=by rfl) (hpl:(backTo pos (starEach es X.env)).any (·.1)=false:=by rfl) :
  PV X (.Call (.Name x p) (e::es) [] pos) (callA n F g):=by
 obtain ⟨f,fd,ps,Fn,hb,hk,hm⟩:=C.ex
 obtain ⟨t,ht,hf⟩:=ha
 refine ⟨_,vD (CX:=CX0) (E:=E0) Fn (hr.mono hj) hg hm hk hb .nil pass0 ht hdb he hpl,fun H₀ H O σ ds hd d Q o e q=>?_⟩
 unfold callA at e
 cases h:g ds with
 | none=>rw [h] at e; cases e
 | some l =>
   rw [h] at e
   simp only [Option.bind_some] at e
   split at e
   · rename_i hln
     cases h2:F l with
     | none=>rw [h2] at e; cases e
     | some r =>
       rw [h2] at e
       simp only [Option.bind_some] at e
       cases r with
       | any d' =>
         cases e
         refine hf H₀ H O σ ds hd l _ o h fun vs H1 s1 r1=>?_
         have hl:=r1.length
         exact ⟨by simp only [List.append_nil]; omega,O,l,_,(o.mono s1).dom,by simpa using r1,h2,fun v H' s' ro=>q v H' (s1.trans s') ro⟩
       | val _=>cases e
       | fresh _=>cases e
   · cases e
end
end FL
namespace PySem
open Sem (wp)
section
variable {prog:Program} {w:World} {A:Around} {R:Result->Shared->Prop} {I:Addr} {fp wr:List Addr} {n:Nat} {P:Nat->Value->Prop} {St:Nat->Heap->Prop} {kw:List (Str×Value)}
end
section
variable {prog:Program} {w:World} {A:Around} {E:Value->Shared->Prop} {s:Shared}
end
end PySem
namespace FL
open PySem PySem.Spec PyProof.Rows L2
section
variable {X:Cx}
end
open PySem.Calls PySem.Builtin PySem.Builtin.ObjectAttr PySem.Builtin.Getset_descriptor
open PySem.W (Looks looks_findIn looks_mroIn findIn mroIn specialIn takesIn KitX)
structure XIn (K:Frag) (C:Addr):Prop where
 ga:findIn K (.ref C) "__getattribute__" = some (some (.builtin "BaseException.__getattribute__"))
 gt:findIn K (.ref C) "__getattr__" = some none
 cl:findIn K (.ref C) "__class__" = some (some (.builtin "object.__class__"))
 ob:mroIn K C (.type "object")=some true
 be:mroIn K C (.type "BaseException")=some true
section
variable {prog:Program} {w:World} {A:Around} {E:Value->Shared->Prop} {h:Heap} {g:Array GenState} {d:Drawn} {t:Nat} {os:OsState} {a C:Addr} {o:Obj} {K:Frag}
theorem kD {M:Model} (hx:h.get? a=some o) (hc:o.cls = .ref C):Looks M h (typeOf (.ref a)) (.ref C):=hc ▸ (PySem.W.Looks.ld hx).andThen .now
theorem x_class_get {R:Result->Shared->Prop} {tp:Value} (X:K.In h) (hx:h.get? a=some o) (hc:o.cls = .ref C) (I:XIn K C) (hq:R (.ok (.ret (.ref C))) ⟨h,g,d,t,os⟩) :
  codeAny (model prog w) A (.call (.builtin "getset_descriptor.__get__") ⟨[.builtin "object.__class__",.ref a,tp],[]⟩) R ⟨h,g,d,t,os⟩:=by
 have L0:=kD (M:=model prog w) hx hc
 have L1:=looks_mroIn (M:=model prog w) X I.ob
 refine codeAny_call_builtin PySem.W.KF.slot_gs.plain PySem.W.KF.entry_gs (PySem.W.KF.slot_gs.check _ _ _ _ _ _ _ _ PySem.W.KF.type_class (PySem.W.KF.args_gs _ _ _) ?_)
 unfold Builtin.«getset_descriptor.__get__» descrGet
 rw [PySem.W.dga_obj]
 refine wpAny_bind (wpAny_pure ?_)
 unfold descrGetter descrCheckInstance descrNameAndClass isInstance
 simp only [PySem.W.KF.owner_class]
 repeat lk
 refine ⟨Code.quiet_builtin _ (by decide +kernel),codeAny_builtin PySem.W.KF.entry_class ?_⟩
 unfold Builtin.«object.__class__» shownTypeOf
 repeat lk
 exact hq
theorem x_check_ga {M:Model} {nameV:Value} {Q:Unit->Shared->Prop} (X:K.In h) (hx:h.get? a=some o) (hc:o.cls = .ref C) (I:XIn K C) (hq:Q () ⟨h,g,d,t,os⟩) :
  wpAny M A (checkBuiltinCall "BaseException.__getattribute__" ⟨[.ref a,nameV],[]⟩) Q E ⟨h,g,d,t,os⟩:=by
 have hk:builtinKind "BaseException.__getattribute__" = some .slot:=by decide +kernel
 have hsplit:splitId "BaseException.__getattribute__" = some ("BaseException","__getattribute__"):=by decide +kernel
 have L0:=kD (M:=M) hx hc
 have L1:=looks_mroIn (M:=M) X I.be
 have ha:=F.args_bexc_ga (.ref a) nameV
 simp only [checkBuiltinCall,hk,hsplit]
 refine wpAny_bind ?_
 · unfold isInstance
   repeat (first | with_reducible refine L0.at ?_ | with_reducible refine L1.at ?_ | wp_step)
   exact hq
theorem x_entry {tk:Tok} {Q:Fin->Shared->Prop} (X:K.In h) (hx:h.get? a=some o) (hc:o.cls = .ref C) (I:XIn K C) (hq:Q (.done (.ret (.ref C))) ⟨h,g,d,t,os⟩) :
  wpAny (model prog w) A (Builtin.«object.__getattribute__» ⟨[.ref a,.str "__class__" tk],[]⟩) Q E ⟨h,g,d,t,os⟩:=by
 have L0:=kD (M:=model prog w) hx hc
 have L1:=looks_findIn (M:=model prog w) X I.cl
 have hT5:(⟨h,g,d,t,os⟩:Shared).TypeIs (.builtin "object.__class__") "getset_descriptor":=F.typeOf_object_class
 have f5:=F.typeOf_object_class
 have f6:=F.slot_gs_get.lookup
 have f7:=F.slot_gs_set.lookup
 repeat (any_goals (first | assumption | with_reducible refine L0.at ?_ | with_reducible refine L1.at ?_ | wp_step))
 refine x_class_get X hx hc I ?_
 repeat (any_goals (first | assumption | wp_step))
theorem x_call {tk:Tok} {R:Result->Shared->Prop} (X:K.In h) (hx:h.get? a=some o) (hc:o.cls = .ref C) (I:XIn K C) (hq:R (.ok (.ret (.ref C))) ⟨h,g,d,t,os⟩) :
  codeAny (model prog w) A (.call (.builtin "BaseException.__getattribute__") ⟨[.ref a,.str "__class__" tk],[]⟩) R ⟨h,g,d,t,os⟩ :=
 codeAny_call_builtin F.attr_ValueError.ga.plain F.entry_bexc_ga (x_check_ga X hx hc I (x_entry X hx hc I hq))
theorem x_by {tk:Tok} {fill expr:Bool} {Q:Value->Shared->Prop} (X:K.In h) (hx:h.get? a=some o) (hc:o.cls = .ref C) (I:XIn K C) (hq:Q (.ref C) ⟨h,g,d,t,os⟩) :
  wpAny (model prog w) A (getAttrBy (.ref a) (.str "__class__" tk) fill expr) Q E ⟨h,g,d,t,os⟩:=by
 have L0:=kD (M:=model prog w) hx hc
 have L1:=looks_findIn (M:=model prog w) X I.ga
 have L2:=looks_findIn (M:=model prog w) X I.gt
 have f3:=F.attr_ValueError.ga.bind (.ref a)
 have hx0:(expr && onTheHeap (Value.builtin "BaseException.__getattribute__"))=false:=by cases expr <;> rfl
 have hx2:(Value.builtin "BaseException.__getattribute__" == Value.builtin "object.__getattribute__")=false:=by decide +kernel
 have hx1:(onTheHeap (Value.ref C) && Value.builtin "BaseException.__getattribute__" == Value.builtin "object.__getattribute__")=false:=by rw [hx2]; rfl
 repeat (any_goals (first | assumption | with_reducible refine L0.at ?_ | with_reducible refine L1.at ?_ | with_reducible refine L2.at ?_ | wp_step))
 refine x_call X hx hc I ?_
 repeat (any_goals (first | assumption | wp_step))
theorem x_attr {Q:Option Value->Shared->Prop} (X:K.In h) (hx:h.get? a=some o) (hc:o.cls = .ref C) (I:XIn K C) (hq:Q (some (.ref C)) ⟨h,g,d,t+1,os⟩) :
  wpAny (model prog w) A (getAttr? (.ref a) "__class__") Q E ⟨h,g,d,t,os⟩:=by
 unfold getAttr? getAttrBy?
 repeat (any_goals (first | assumption | with_reducible apply x_by X hx hc I | wp_step))
def IsX (a C:Addr) (h:Heap):Prop:=∃ o,h.get? a=some o/\o.cls = .ref C
theorem kitx_exc (I:XIn K C):KitX K (.ref a) (.ref C) (IsX a C) where
 ty:=fun _ _ _ ⟨o,h1,h2⟩=>kD h1 h2
 it:=fun _ _ X _=>by
  have hm:=I.ob
  unfold mroIn at hm
  cases hcD:PySem.W.clsIn K C with
  | none=>rw [hcD] at hm; cases hm
  | some cd =>
    unfold PySem.W.clsIn at hcD
    split at hcD
    · rename_i c' d' cd' sl' ho
      intro A' Q' E' s' k q
      unfold isType loadHead
      exact wpAny_bind (wpAny_loadPart (k _ _ (X _ _ ho)) (wpAny_pure q))
    · cases hcD
 ne:=fun h tp dd its n sl X htp=>by
  have hm:=I.ob
  unfold mroIn at hm
  cases hcD:PySem.W.clsIn K C with
  | none=>rw [hcD] at hm; cases hm
  | some cd =>
    refine Bool.eq_false_iff.mpr fun q=>?_
    have e:C=tp:=Value.ref.inj (beq_iff_eq.mp q)
    subst e
    unfold PySem.W.clsIn at hcD
    split at hcD
    · rename_i c' d' cd' sl' ho
      have z:=(X _ _ ho).symm.trans htp
      cases z
    · cases hcD
 ca:=fun {prog w A E Q s} X p k=>by
  obtain ⟨o,h1,h2⟩:=p
  obtain ⟨h,g,d,t,os⟩:=s
  exact x_attr X h1 h2 I k
end
end FL
namespace FL
open PySem PySem.Spec PyProof.Rows L2
open PySem.W (hideAll hideAll_get of_hideAll hideAll_none funFrames_hide excIn tail_of_in nsMap_none_of_in isNs_of_in)
theorem obj_get {P:Program} {w:World} {H:Hp} {h:Heap} {a:Addr} {o:HO} (x:ObjOk P w H h a o):∃ u,h.get? a=some u:=by
 cases o with
 | lst xs=>obtain ⟨_,_,_,_,e⟩:=x; exact ⟨_,e⟩
 | tup xs=>obtain ⟨_,_,_,_,e,_⟩:=x; exact ⟨_,e⟩
 | dK kvs=>obtain ⟨_,_,_,_,o,_,_,e,_⟩:=x; exact ⟨_,e⟩
 | dT kvs=>obtain ⟨_,_,_,_,o,_,_,e,_⟩:=x; exact ⟨_,e⟩
 | set S n=>obtain ⟨o,_,_,_,e,_⟩:=x; exact ⟨_,e⟩
 | ins C dx fs=>obtain ⟨_,_,_,e,_⟩:=x; exact ⟨_,e⟩
 | own y=>obtain ⟨_,e⟩:=x; exact ⟨_,e⟩
 | xd fs=>obtain ⟨_,⟨_,_,_,e,_⟩,_⟩:=x; exact ⟨_,e⟩
 | rng lo hi=>obtain ⟨_,_,_,e⟩:=x; exact ⟨_,e⟩
 | frz ob u=>obtain ⟨e,_⟩:=x; exact ⟨_,e⟩
 | tbl ps=>obtain ⟨_,e,_⟩:=x; exact ⟨_,e⟩
 | met f y=>exact ⟨_,(show h.get? a=some _ from x)⟩
 | ext φ=>obtain ⟨_,⟨_,e⟩,_⟩:=x; exact ⟨_,e⟩
structure Thrown (P:Program) (w:World) (outer:List Env) (H:Hp) (s:Shared) (cls:Value) (ea:Addr) (a0:Value) (B:Heap) (H':Hp) (h:Heap):Prop where
 fly:Heap.FlyingW B outer ea cls a0 h
 keep:∀ b o,s.heap.get? b=some o->H b=none->b ∉ frs outer->B.get? b=some o
 there:∀ b o,s.heap.get? b=some o->b ∉ frs outer->∃ o',B.get? b=some o'
 slot:∀ b o,s.heap.get? b=some o->b∈frs outer->∃ sl,h.get? b=some { o with slots:=sl }
 free:∀ b o,s.heap.get? b=some o->H b=none->H' b=none
 tups:∀ b xs,H b=some (.tup xs)->H' b=some (.tup xs)
 frzs:∀ b o u,H b=some (.frz o u)->H' b=some (.frz o u)
 tbls:∀ b ps,H b=some (.tbl ps)->H' b=some (.tbl ps)
 hok:L2.HOk P w H' B
section
variable {P:Program} {w:World} {outer:List Env} {H H':Hp} {s:Shared} {cls a0:Value} {ea:Addr} {B h h':Heap}
theorem Thrown.un (t:Thrown P w outer H s cls ea a0 B H' h):Un (frs outer) [] H H' s.heap h where
 keep:=fun b o e n hb _=>t.fly.1 b o (t.keep b o e n hb)
 slot:=fun b o e n hb _=>t.slot b o e hb
 free:=fun b o e n _=>t.free b o e n
 there:=fun b o e _=>by
  by_cases hb:b∈frs outer
  · obtain ⟨sl,q⟩:=t.slot b o e hb; exact ⟨_,q⟩
  · obtain ⟨o',q⟩:=t.there b o e hb; exact ⟨o',t.fly.1 b o' q⟩
 tups:=t.tups
 frzs:=t.frzs
 tbls:=t.tbls
theorem Thrown.hokh (t:Thrown P w outer H s cls ea a0 B H' h):L2.HOk P w H' h:=t.hok.kept t.fly.1
theorem Thrown.on (t:Thrown P w outer H s cls ea a0 B H' h) (f:Heap.FlyingW B outer ea cls a0 h') (u:h.UpToSlots h'):Thrown P w outer H s cls ea a0 B H' h' where
 fly:=f
 keep:=t.keep
 there:=t.there
 slot:=fun b o e hb=>by
  obtain ⟨sl,q⟩:=t.slot b o e hb
  obtain ⟨_,ob,ho,hd⟩:=t.fly.2.2.1.mem hb
  rw [q] at ho
  cases ho
  obtain ⟨sl',q'⟩:=u b _ q hd
  exact ⟨sl',q'⟩
 free:=t.free
 tups:=t.tups
 frzs:=t.frzs
 tbls:=t.tbls
 hok:=t.hok
theorem Thrown.no (t:Thrown P w outer H s cls ea a0 B H' h):H' ea=none:=by
 cases q:H' ea with
 | none=>rfl
 | some u =>
   obtain ⟨o,e⟩:=obj_get (t.hok _ _ q)
   rw [t.fly.2.1] at e; cases e
end
theorem hok_hidden {P:Program} {w:World} {H:Hp} {h:Heap} (x:L2.HOk P w H h) (l:List Addr) (hl:∀ b∈l,H b=none):L2.HOk P w H (hideAll h l):=fun a o e =>
 (x a o e).stay (fun b u hb q=>hideAll_get _ q fun z=>by
   rcases hb with rfl | hb
   · rw [hl _ z] at e; cases e
   · rw [hl _ z] at hb; cases hb) (fun _ q=>q) fun _ _ q=>q
def CXM (P:Program) (w:World):CXT:=fun outer H s E e s'=>∃ ea cls a0 B H',e = .ref ea/\s'.os=s.os/\AllBare s'.gens/\Thrown P w outer H s cls ea a0 B H' s'.heap/\E cls none H'
def XeOk (X:Cx) (C:Addr) (σ : L2.St) (H:Hp):Prop:=∀ (pins:List (Addr×Obj)) (s:Shared) (h':Heap) (e:Addr) (as:List Value),Inv X pins σ H s->Heap.MadeExcOf s.heap h' e (.ref C) as->X.xe (.ref e) { s with heap:=h' }
theorem xe_raise {P:Program} {w:World} {K:Frag} {mg:Str->Option Value} {base:Heap} {N:List Str} {qual:Str} {scope:Scope} {f C:Addr} {cd:Value} {A:Around} {outer:List Env} {s:Shared} {H H':Hp} {E:XK} {σ : L2.St}
  (hE:E (.ref C) none H'):XeOk (cxOf (CXM P w) P w K mg base N qual scope f cd A outer s H E) C σ H':=by
 intro pins s1 h1 e as I hx
 have hfr:frs (envOfC qual scope s.heap.objs.size f cd::outer)=s.heap.objs.size::frs outer:=rfl
 have nm:∀ b o,s.heap.get? b=some o->b ∉ frs outer->b ∉ frs (envOfC qual scope s.heap.objs.size f cd::outer):=fun b o q n z=>by
  rw [hfr] at z
  rcases List.mem_cons.mp z with z | z
  · exact absurd (Heap.lt_size q) (by rw [z]; exact Nat.lt_irrefl _)
  · exact n z
 show wpAny _ _ (leaving _ _) _ _ _
 refine wpAny_leaves_madeW (base:=hideAll s1.heap (frs (envOfC qual scope s.heap.objs.size f cd::outer))) (h:=s1.heap) I.ok.frames rfl (fun b o q=>of_hideAll _ q) (funFrames_hide I.stack fun env he b hb=>List.mem_filterMap.mpr ⟨env,he,hb⟩) hx fun h' t x1 x2 x3 x4=>?_
 refine ⟨e,.ref C,.ref t,_,H',rfl,I.os,I.bare,⟨x1,fun b o q n hb=>?_,fun b o q hb=>?_,fun b o q hb=>?_,fun b o q n=>I.base.free b o q n (by intro z; cases z),I.base.tups,I.base.frzs,I.base.tbls,?_⟩,hE⟩
 · exact hideAll_get _ (I.base.keep b o q n hb (by intro z; cases z)) (nm b o q hb)
 · obtain ⟨o', q'⟩ := I.base.there b o q (by intro z; cases z)
   exact ⟨o',hideAll_get _ q' (nm b o q hb)⟩
 · obtain ⟨sl, q'⟩ := I.base.slot b o q (I.ok.frf b hb) hb (by intro z; cases z)
   obtain ⟨_,ob,ho,hd⟩:=I.ok.funs.mem hb
   have ho':s.heap.get? b=some ob:=ho
   rw [q] at ho'
   cases ho'
   obtain ⟨sl',q''⟩:=x4 b _ (hx.keeps _ _ q') hd
   exact ⟨sl',q''⟩
 · exact hok_hidden I.hok _ I.stkFree
abbrev bmVE:List Value:=[.type "ValueError",.type "Exception",.type "BaseException",.type "object"]
structure XCls (K:Frag) (C:Addr):Prop where
 exc:excIn K C bmVE "ValueError.__new__" = true
 xin:XIn K C
theorem xcls_at {K:Frag} {h:Heap} {C:Addr} {bmB:List Value} {newId:String} (X:K.In h) (q:excIn K C bmB newId=true):∃ bm N nm qn bs hdct sn sub ab col dd k0 k1 k2 k3 k5 mN,h.get? C=some (excClassObj nm qn C N bs bm hdct sn sub ab col dd k0 k1 k2 k3 k5 newId)/\h.Ns N mN/\mN "__init__" = none/\OwnTail h bmB bm:=by
 unfold excIn at q
 split at q
 · rename_i dd cd sl ho
   split at q
   · rename_i C' bm k0 k1 k2 k3 n k5 hm hs
     simp only [Bool.and_eq_true,beq_iff_eq,Bool.not_eq_true'] at q
     obtain ⟨⟨⟨⟨⟨rfl,rfl⟩,hdel⟩,ht⟩,hok⟩,hni⟩:=q
     obtain ⟨nm,bs,mro,ns,qn,hd,sn,sub,ab,col,del⟩:=cd
     dsimp only at hm hdel hok hni
     subst hm hdel
     have hsl:sl = #[k0,k1,k2,k3,some (.builtin n),k5]:=by
      obtain ⟨l⟩:=sl
      simp only at hs
      rw [hs]
     subst hsl
     exact ⟨bm,ns,nm,qn,bs,hd,sn,sub,ab,col,dd,k0,k1,k2,k3,k5,_,X _ _ ho,.of_isNs (isNs_of_in X hok),nsMap_none_of_in X hok hni,tail_of_in X ht⟩
   · cases q
 · cases q
def tRaise (X:Cx) (C:Addr):TS:=fun _ σ H=>XeOk X C σ H
theorem ps_raise {X:Cx} {C:Addr} {x txt:Str} {j:Nat} {np cp cpos pos:Pos} (hC:XCls X.K C) (hm:X.mg x=some (.ref C)) (hcalm:X.calm=true) (hg:Gl X x:=by rfl) (hdb:(x == ("__debug__" : Str))=false:=by decide)
  (he:starEach [.Constant (.str txt) j cp] X.env=[(false,eval (.Constant (.str txt) j cp) X.env)]:=by rfl):PS X (.Raise (some (.Call (.Name x np) [.Constant (.str txt) j cp] [] cpos)) none pos) (tRaise X C):=by
 intro pins s σ H D I h
 obtain ⟨bm,N,nm,qn,bs,hdct,sn,sub,ab,col,dd,k0,k1,k2,k3,k5,mN,h1,h2,h3,h4⟩:=xcls_at I.kIn hC.exc
 have hbase:bm.contains (.type "BaseException")=true:=h4.hasType (by decide +kernel)
 refine wpAny_Raise_call_subU (C:=C) (mN:=mN) (N:=N) (nm:=nm) (q:=qn) (bs:=bs) (bm:=bm) (hdct:=hdct) (sn:=sn) (sub:=sub) (ab:=ab) (col:=col) (dd:=dd) (k0:=k0) (k1:=k1) (k2:=k2) (k3:=k3) (k5:=k5) F.excBase_ValueError (by decide +kernel) F.excBase_ValueError hbase (I.ok.hd hcalm) (by rw [he]; rfl) h3 (xZ I hg hm ⟨rfl,?_⟩ hdb)
 rw [he]
 show wpAny _ _ (evalArgs _ true ((false,eval (.Constant (.str txt) j cp) X.env)::[]) []) _ _ s
 refine Calls.evalArgs_plain (Calls.spliced_cons ?_)
 refine Calls.Constant_str (k:=j) (pos:=cp) (Calls.spliced_nil ?_)
 have I2:=I.tok (s.toks+1)
 refine ⟨rfl,by show 1<=sizeLine; decide,h1,h2,h4,fun h' e hx=>?_⟩
 exact h pins _ h' e _ I2 hx
section
variable (X:Cx) (C:Addr)
def PSx (st:Stmt) (x:List Sl->Bool):Prop:=∃ t,PS X st t/\∀ H₀ H O σ ds hd E,Ok X.K H₀ H O σ ds hd->x ds=true->(∀ σ' H',Same H₀ H'->XeOk X C σ' H')->t E σ H
end
section
variable {X:Cx} {C:Addr}
theorem xH {x txt:Str} {j:Nat} {np cp cpos pos:Pos} (hC:XCls X.K C) (hm:X.mg x=some (.ref C)) (hcalm:X.calm=true:=by rfl) (hg:Gl X x:=by rfl) (hdb:(x == ("__debug__" : Str))=false:=by decide)
  (he:starEach [.Constant (.str txt) j cp] X.env=[(false,eval (.Constant (.str txt) j cp) X.env)]:=by rfl):PSx X C (.Raise (some (.Call (.Name x np) [.Constant (.str txt) j cp] [] cpos)) none pos) alwaysX :=
 ⟨_,ps_raise hC hm hcalm hg hdb he,fun H₀ H O σ ds hd E o _ h=>h σ H o.same⟩
end
def spX (K:Frag) (n:Nat) (R:List D->Bool) (C:Addr):Sp:=fun vs H _ E=>vs.length=n/\∃ ds,Reps K H jF vs ds/\R ds=true/\∀ H',Same H H'->E (.ref C) none H'
structure CalX (P:Program) (w:World) (K:Frag) (mg:Str->Option Value) (base:Heap) (x:Str) (k n:Nat) (R:List D->Bool) (C:Addr):Prop where
 ex:∃ (f:Addr) (fd:FuncData) (ps:List Str),FnOk P w K mg base (CXM P w) k f fd ps (spX K n R C)/\Binds K fd ps []/\PySem.W.keepIn K (.ref f)=true/\mg x=some (.ref f)
end FL
namespace FL
open PySem PySem.Spec PyProof.Rows L2
open PySem.W (Looks looks_mroIn mroIn)
abbrev suiteCx (X:Cx) (ea:Addr) (xe:Value->Shared->Prop):Cx:={ X with A:=X.A.mark (some (.ref ea)),calm:=false,xe:=xe }
section
variable {X:Cx} {pins:List (Addr×Obj)} {σ : L2.St} {H:Hp} {s:Shared} {ea:Addr} {oe:Obj} {xe:Value->Shared->Prop}
theorem inv_suite (I:Inv X pins σ H s):Inv (suiteCx X ea xe) pins σ H s:=by
 have ok:=I.ok
 exact ⟨⟨ok.mod,ok.kind,ok.glob,ok.blt,ok.above,ok.inj,ok.has,ok.cab,(fun z=>by cases z),ok.frames,ok.stk,ok.exf,ok.bs,ok.bsz,ok.noex,ok.exfs,ok.funs,ok.frf⟩,I.os,I.bare,I.base,I.loc,I.cell,I.free,I.freeC,I.pin,I.hok,I.len⟩
theorem inv_unsuite (I:Inv (suiteCx X ea xe) pins σ H s) (hd:X.calm=true->X.A.handled=none):Inv X pins σ H s:=by
 have ok:=I.ok
 exact ⟨⟨ok.mod,ok.kind,ok.glob,ok.blt,ok.above,ok.inj,ok.has,ok.cab,hd,ok.frames,ok.stk,ok.exf,ok.bs,ok.bsz,ok.noex,ok.exfs,ok.funs,ok.frf⟩,I.os,I.bare,I.base,I.loc,I.cell,I.free,I.freeC,I.pin,I.hok,I.len⟩
theorem inv_track (I:Inv X pins σ H s) (hn:H ea=none) (h1:s.heap.get? ea=some oe) (h3:ea≠X.env.locals) (h0:X.s₀.heap.get? ea=none) (hc:∀ v,oe.data≠.cell v) (hp:∀ p∈X.pn++pins,p.1≠ea) :
  Inv X pins σ (upd H ea (.frz oe (.own ea))) s:=by
 have nz:∀ b u,H b=some u->b≠ea:=fun b u e z=>by rw [z,hn] at e; cases e
 have n0:∀ b o,X.s₀.heap.get? b=some o->b≠ea:=fun b o e z=>by rw [z,h0] at e; cases e
 refine ⟨I.ok,I.os,I.bare,⟨I.base.keep,I.base.slot,fun b o e n hx=>?_,I.base.there,fun b xs e=>?_,fun b o u e=>?_,fun b ps e=>?_⟩,I.loc,I.cell,?_,fun x c e=>?_,fun p hpp=>?_,fun b u e=>?_,I.len⟩
 · rw [qC (n0 b o e)]; exact I.base.free b o e n hx
 · have:=I.base.tups b xs e; rw [qC (nz b _ this)]; exact this
 · have:=I.base.frzs b o u e; rw [qC (nz b _ this)]; exact this
 · have:=I.base.tbls b ps e; rw [qC (nz b _ this)]; exact this
 · rw [qC (Ne.symm h3)]; exact I.free
 · have hz:c≠ea:=by
    intro z
    obtain ⟨v,o,ho,hd⟩:=I.cell x c e
    rw [z,h1] at ho
    cases ho
    exact hc v hd
   have:=I.freeC x c e
   unfold FreeC at this ⊢
   rw [qC hz]
   exact this
 · obtain ⟨q1, q2, q3, q4, q5⟩ := I.pin p hpp
   exact ⟨q1,by rw [qC (hp p hpp)]; exact q2,q3,q4,q5⟩
 · by_cases hb : b = ea
   · subst hb
     rw [qS] at e
     cases e
     exact ⟨h1,oe,h1⟩
   · rw [qC hb] at e
     exact (I.hok b u e).stay (fun _ _ _ q=>q) (fun c q=>by rw [qC (nz c _ q)]; exact q) fun c xs q=>by rw [qC (nz c _ q)]; exact q
theorem inv_gone {i:Nat} {x:Str} {m:Str->Option Value} {h':Heap} {v:Option Value} {t':Nat} (I:Inv X pins σ H s) (hN:X.N.Nodup) (hi:X.N[i]? = some x) (hn:s.heap.Ns X.env.locals m)
  (hl:∀ (i:Nat) (x:Str) (v:V),X.N[i]? = some x->σ[i]? = some (some v)->Vis X.env.scope x->∃ u,RelV v u/\Look X.env s.heap m x u)
  (hn':h'.Ns X.env.locals (fun y=>if y=x then v else m y)) (hs:Heap.SameBut X.env.locals s.heap h'):Inv X pins (σ.set i none) H { s with heap:=h',toks:=t' }:=by
 have cne:=I.cne
 obtain ⟨oL,_,_,hoL,_⟩:=id hn
 refine ⟨I.ok,I.os,I.bare,⟨fun b o e n hb hx=>?_,fun b o e n hb hx=>?_,I.base.free,fun b o e hx=>?_,I.base.tups,I.base.frzs,I.base.tbls⟩,⟨_,hn',fun j y v' e1 e2 e3=>?_⟩,fun y c e=>?_,I.free,I.freeC,fun p hp=>?_,fun b ob e=>?_,by simpa using I.len⟩
 · exact (hs.2 b (Nat.ne_of_lt (Nat.lt_of_lt_of_le (Heap.lt_size e) I.ok.above))).trans (I.base.keep b o e n hb hx)
 · obtain ⟨sl, e1⟩ := I.base.slot b o e n hb hx
   exact ⟨sl,(hs.2 b (Nat.ne_of_lt (Nat.lt_of_lt_of_le (Heap.lt_size e) I.ok.above))).trans e1⟩
 · obtain ⟨o', e1⟩ := I.base.there b o e hx
   exact ⟨o',(hs.2 b (Nat.ne_of_lt (Nat.lt_of_lt_of_le (Heap.lt_size e) I.ok.above))).trans e1⟩
 · by_cases hj : j = i
   · subst hj
     have hiσ : j < σ.length:=by rw [I.len]; exact (List.getElem?_eq_some_iff.mp hi).1
     rw [List.getElem?_set_self hiσ] at e2
     cases e2
   · rw [List.getElem?_set_ne (Ne.symm hj)] at e2
     obtain ⟨u',r',q⟩:=hl j y v' e1 e2 e3
     refine ⟨u',r',?_⟩
     rcases q with ⟨k,e⟩ | ⟨k,c,e,z⟩
     · refine .inl ⟨k, ?_⟩
       have:y≠x:=fun e=>hj (nodup_ix hN e1 (e ▸ hi))
       simp [this,e]
     · exact .inr ⟨k,c,e,z.sameBut hs (cne y c e)⟩
 · obtain ⟨w', z⟩ := I.cell y c e
   exact ⟨w',z.sameBut hs (cne y c e)⟩
 · obtain ⟨e, n, ne, nf, d⟩ := I.pin p hp
   exact ⟨(hs.2 p.1 ne).trans e,n,ne,nf,d⟩
 · refine (I.hok b ob e).stay (fun c w' hc q => (hs.2 c ?_).trans q) (fun _ q => q) fun _ _ q => q
   rintro rfl
   have hfree:=I.free
   rcases hc with rfl | hc
   · rw [hfree] at e; cases e
   · rw [hfree] at hc; cases hc
end
theorem Ok.setNo {K:Frag} {H₀ H:Hp} {O:Addr->Prop} {σ : L2.St} {ds:List Sl} {hd:Hold} (o:Ok K H₀ H O σ ds hd) (i:Nat) (v:Option V):Ok K H₀ H O (σ.set i v) (ds.set i .no) hd:=by
 have own':∀ {j:Nat},IsOwn (ds.set i .no) j->j≠i/\IsOwn ds j:=fun {j} ⟨l,e⟩=>by
  by_cases hj:j=i
  · subst hj
    by_cases hl:j < ds.length
    · rw [List.getElem?_set_self hl] at e; cases e
    · rw [List.getElem?_eq_none (by simpa using hl)] at e; cases e
  · rw [List.getElem?_set_ne (Ne.symm hj)] at e
    exact ⟨hj,l,e⟩
 refine ⟨o.same,fun j l a e1 e2=>?_,o.dom,by simpa using o.len,fun j s e=>?_,fun j k a hjk hj hk e1 e2=>?_,o.hold⟩
 · obtain ⟨n1, h1⟩ := own' ⟨l, e1⟩
   rw [List.getElem?_set_ne (Ne.symm n1)] at e1 e2
   exact o.fresh j l a e1 e2
 · by_cases hj : j = i
   · subst hj
     by_cases hl:j < ds.length
     · rw [List.getElem?_set_self hl] at e
       cases e
       exact yJ
     · rw [List.getElem?_eq_none (by simpa using hl)] at e; cases e
   · rw [List.getElem?_set_ne (Ne.symm hj)] at e
     rw [List.getElem?_set_ne (Ne.symm hj)]
     exact o.sl j s e
 · obtain ⟨n1, h1⟩ := own' hj
   obtain ⟨n2,h2⟩:=own' hk
   rw [List.getElem?_set_ne (Ne.symm n1)] at e1
   rw [List.getElem?_set_ne (Ne.symm n2)] at e2
   exact o.apart j k a hjk h1 h2 e1 e2
theorem Ok.setX {K:Frag} {H₀ H:Hp} {O:Addr->Prop} {σ : L2.St} {ds:List Sl} {hd:Hold} (o:Ok K H₀ H O σ ds hd) {i t:Nat} {a C:Addr} {ob:Obj} {u:HO} (h1:PySem.W.nsIn K mainGlobals (xName t)=some (some (.ref C))) (h2:H a=some (.frz ob u)) (h3:ob.cls = .ref C) :
  Ok K H₀ H O (σ.set i (some (.ref a))) (ds.set i (.exc t)) hd:=by
 have own':∀ {j:Nat},IsOwn (ds.set i (.exc t)) j->j≠i/\IsOwn ds j:=fun {j} ⟨l,e⟩=>by
  by_cases hj:j=i
  · subst hj
    by_cases hl:j < ds.length
    · rw [List.getElem?_set_self hl] at e; cases e
    · rw [List.getElem?_eq_none (by simpa using hl)] at e; cases e
  · rw [List.getElem?_set_ne (Ne.symm hj)] at e
    exact ⟨hj,l,e⟩
 refine ⟨o.same,fun j l a e1 e2=>?_,o.dom,by simpa using o.len,fun j s e=>?_,fun j k a hjk hj hk e1 e2=>?_,o.hold⟩
 · obtain ⟨n1, h1⟩ := own' ⟨l, e1⟩
   rw [List.getElem?_set_ne (Ne.symm n1)] at e1 e2
   exact o.fresh j l a e1 e2
 · by_cases hj : j = i
   · subst hj
     by_cases hl:j < ds.length
     · rw [List.getElem?_set_self hl] at e
       cases e
       rw [List.getElem?_set_self (by rw [o.len]; exact hl)]
       exact ⟨C,ob,u,h1,h2,h3⟩
     · rw [List.getElem?_eq_none (by simpa using hl)] at e; cases e
   · rw [List.getElem?_set_ne (Ne.symm hj)] at e
     rw [List.getElem?_set_ne (Ne.symm hj)]
     exact o.sl j s e
 · obtain ⟨n1, h1⟩ := own' hj
   obtain ⟨n2,h2⟩:=own' hk
   rw [List.getElem?_set_ne (Ne.symm n1)] at e1
   rw [List.getElem?_set_ne (Ne.symm n2)] at e2
   exact o.apart j k a hjk h1 h2 e1 e2
def Throws (X:Cx) (C:Addr) (st:Stmt) (x:List Sl->Bool):Prop:=∀ (pins:List (Addr×Obj)) (s:Shared) (σ : L2.St) (H H₀ : Hp) (O:Addr->Prop) (ds:List Sl) (hd:Hold),Inv X pins σ H s->Ok X.K H₀ H O σ ds hd->x ds=true →
 (∀ ea a0 B H1 H' s1 s',Inv X pins σ H1 s1->Same H H1->Same H1 H'->Thrown X.prog X.w X.stack H1 s1 (.ref C) ea a0 B H' s'.heap->s'.os=s1.os->AllBare s'.gens->X.xe (.ref ea) s')->wpAny (model X.prog X.w) X.A (exec st X.env) (fun _ _=>False) X.xe s
section
variable {X:Cx} {k j n:Nat} {R:List D->Bool} {C:Addr} {x:Str} {p pos:Pos} {e:Expr} {es:List Expr} {g:FA}
theorem call_thrown (CX:CalX X.prog X.w X.K X.mg X.base x k n R C) (hr:Room j X.A) (ha:PAn X (e::es) g) (hj:k<=j) (hg:Gl X x) (hdb:(x == ("__debug__" : Str))=false)
  (he:starEach (e::es) X.env=(false,eval e X.env)::starEach es X.env) (hpl:(backTo pos (starEach es X.env)).any (·.1)=false)
  {pins:List (Addr×Obj)} {s:Shared} {σ : L2.St} {H H₀ : Hp} {O:Addr->Prop} {ds:List Sl} {hd:Hold} {Q:Value->Shared->Prop} (I:Inv X pins σ H s) (o:Ok X.K H₀ H O σ ds hd) (ex:callX n R g ds=true)
  (W:∀ ea a0 B H1 H' s1 s',Inv X pins σ H1 s1->Same H H1->Same H1 H'->Thrown X.prog X.w X.stack H1 s1 (.ref C) ea a0 B H' s'.heap->s'.os=s1.os->AllBare s'.gens->X.xe (.ref ea) s') :
  wpAny (model X.prog X.w) X.A (eval (.Call (.Name x p) (e::es) [] pos) X.env) Q X.xe s:=by
 obtain ⟨f,fd,ps,Fn,hb,hk,hm⟩:=CX.ex
 obtain ⟨t,ht,hf⟩:=ha
 unfold callX at ex
 cases hl:g ds with
 | none=>rw [hl] at ex; cases ex
 | some l =>
   rw [hl] at ex
   simp only [Bool.and_eq_true,decide_eq_true_eq] at ex
   refine wpAny_Call_Name_kw (xZ I hg hm ?_ hdb)
   refine PySem.W.callWith_K (h₀:=X.base) I.ok.mod.kin hk (thn (ht pos pins s σ H (fun vs H1=>Same H H1/\Reps X.K H1 jF vs l) I (hf H₀ H O σ ds hd l _ o hl fun vs H1 s1 r=>⟨s1,r⟩)) fun us s1 ⟨vs,H1,I1,r,q1,q2⟩=>⟨I1.kIn,?_⟩) he hpl
   have sp:spX X.K n R C vs H1 (fun _ _=>False) (fun cl _ H'=>cl = .ref C/\Same H1 H'):=⟨by rw [q2.length]; exact ex.1,l,q2,ex.2,fun H' s'=>⟨rfl,s'⟩⟩
   have hl2:us.length=ps.length:=by rw [<- r.length]; exact Fn.len _ _ _ _ sp
   have bd:=hb s1 us I1.kIn (by rw [List.append_nil]; exact hl2)
   rw [List.append_nil] at bd
   refine wpAny_call (codeAny_mono (Fn.run X.A X.stack s1 H1 ⟨us,[]⟩ us vs (fun _ _=>False) (fun cl _ H'=>cl = .ref C/\Same H1 H') (hr.mono hj) I1.env0 bd r sp) fun r s' hq=>?_)
   cases r with
   | error e' =>
     obtain ⟨ea,cls,a0,B,H',rfl,os,bare,T,rfl,sm⟩:=hq
     exact W ea a0 B H1 H' s1 s' I1 q1 sm T os bare
   | ok fl =>
     cases fl with
     | ret u=>obtain ⟨v,H',_,_,_,_,_,z⟩:=hq; exact z.elim
     | next=>exact False.elim hq
     | brk=>exact False.elim hq
     | cont=>exact False.elim hq
theorem thr_expr {pos':Pos} (CX:CalX X.prog X.w X.K X.mg X.base x k n R C) (hr:Room j X.A) (ha:PAn X (e::es) g) (hj:k<=j:=by decide) (hg:Gl X x:=by rfl) (hdb:(x == ("__debug__" : Str))=false:=by decide)
  (he:starEach (e::es) X.env=(false,eval e X.env)::starEach es X.env:=by rfl) (hpl:(backTo pos (starEach es X.env)).any (·.1)=false:=by rfl) (hs:swapsWith (.Call (.Name x p) (e::es) [] pos) none pos'.line X.env=pure false:=by rfl) :
  Throws X C (.Expr (.Call (.Name x p) (e::es) [] pos) pos') (callX n R g):=by
 intro pins s σ H H₀ O ds hd I o ex W
 exact wpAny_Expr_any (call_thrown CX hr ha hj hg hdb he hpl I o ex W) I.quiet hs
theorem psv_drop {f:FE} {e:Expr} (h:PV X e f) (hs:swapsWith e none pos.line X.env=pure false:=by rfl):PSv X (.Expr e pos) (dropG f):=by
 obtain ⟨t,ht,hf⟩:=h
 refine ⟨_,ps_expr ht hs,fun H₀ H O σ ds hd out E o e' h=>?_⟩
 unfold dropG at e'
 cases hh:f ds with
 | none=>rw [hh] at e'; cases e'
 | some d =>
   rw [hh] at e'
   cases e'
   exact hf H₀ H O σ ds hd d _ o hh fun v H' s r=>h σ H' O (o.mono s)
end
end FL
namespace FL
open PySem PySem.Spec PyProof.Rows L2
open PySem.W (Looks looks_mroIn mroIn clsIn)
structure XCatch (K:Frag) (C S:Addr):Prop where
 kit:PySem.W.kitCls K (.ref C) (.ref S)=some true
 be:mroIn K S (.type "BaseException")=some true
section
variable {prog:Program} {w:World} {A:Around} {E:Value->Shared->Prop} {h:Heap} {g:Array GenState} {d:Drawn} {t:Nat} {os:OsState} {a C S:Addr} {o:Obj} {K:Frag}
theorem x_matches {M:Model} {Q:Bool->Shared->Prop} (X:K.In h) (hx:h.get? a=some o) (hc:o.cls = .ref C) (hS:XCatch K C S) (hq:Q true ⟨h,g,d,t,os⟩) :
  wpAny M A (excMatches (.ref a) (.ref S)) Q E ⟨h,g,d,t,os⟩:=by
 have L0:=kD (M:=M) hx hc
 have L1:=looks_mroIn (M:=M) X hS.be
 obtain ⟨L3,L4,L2⟩:=PySem.W.kit_cls (M:=M) X hS.kit
 have f:=tc_notTuple
 unfold excMatches
 repeat (first | with_reducible refine L0.at ?_ | with_reducible refine L1.at ?_ | with_reducible refine L2.at ?_ | with_reducible refine L3.at ?_ | with_reducible refine L4.at ?_ | with_reducible refine wpAny_loadPart_at hx ?_ | wp_step)
 exact hq
end
section
variable {X:Cx}
theorem run_suite {ea:Addr} {xe0:Value->Shared->Prop} {sts:List Stmt} {h:FS} {pins:List (Addr×Obj)} {σ : L2.St} {H H₀ : Hp} {O:Addr->Prop} {ds:List Sl} {hd:Hold} {out:Out} {D:Ends} {s:Shared}
  (hs:∀ xe,PSsv (suiteCx X ea xe) sts h) (I:Inv (suiteCx X ea xe0) pins σ H s) (o:Ok X.K H₀ H O σ ds hd) (e:h ds=some out) (af:After X H₀ hd D out) {EXC:Value->Shared->Prop} {POST:Flow->Shared->Prop}
  (hp:∀ f s',SP (suiteCx X ea EXC) pins D f s'->POST f s'):wpAny (model X.prog X.w) (X.A.mark (some (.ref ea))) (execs sts X.env) POST EXC s:=by
 obtain ⟨t,ht,hf⟩:=hs EXC
 exact wpAny_mono (ht pins s σ H D (I.wish EXC) (hf H₀ H O σ ds hd out D o e af)) hp (fun _ _ z=>z)
theorem after_gone {H₀ : Hp} {hd:Hold} {D:Ends} {i:Nat} {out:Out} (af:After X H₀ hd D (goneO i out)) :
  After X H₀ hd { nx:=fun σ H=>D.nx (σ.set i none) H,rt:=D.rt,bk:=fun σ H=>D.bk (σ.set i none) H,ct:=fun σ H=>D.ct (σ.set i none) H } out:=by
 cases out with
 | nx ds=>exact fun σ H O o=>af _ _ O (o.setNo i none)
 | bk ds=>exact fun σ H O o=>af _ _ O (o.setNo i none)
 | ct ds=>exact fun σ H O o=>af _ _ O (o.setNo i none)
 | rt r=>exact af
theorem fly_apart {B h:Heap} {l:List Env} {e:Addr} {cls a0:Value} (f:Heap.FlyingW B l e cls a0 h):e ∉ frs l/\∃ oe,h.get? e=some oe/\oe.cls=cls/\∀ v,oe.data≠.cell v:=by
 obtain ⟨_,_,f3,oe,vs,T,oT,ts,he,hc,hd,_⟩:=f
 refine ⟨fun z=>?_,oe,he,hc.1,fun v q=>by rw [hd] at q; cases q⟩
 obtain ⟨_,o,ho,hn⟩:=f3.mem z
 rw [he] at ho
 cases ho
 exact hn vs hd
def tryE (X:Cx) (pins:List (Addr×Obj)) (D:Ends) (hs:List ExceptHandler):Value->Shared->Prop:=fun e s₁=>wpAny (model X.prog X.w) X.A (noteFrame e X.env) (fun _ s₂=>wpAny (model X.prog X.w) X.A (setFlight e none) (fun _ s₃=>wpAny (model X.prog X.w) X.A (handleBy e X.env hs) (SP X pins D) X.xe s₃) X.xe s₂) X.xe s₁
end
end FL
namespace FL
open PySem PySem.Spec PyProof.Rows L2
def IsxOk (K:Frag) (cv:Value) (tb:List (Nat×Bool)):Prop:=∀ t b,tb.lookup t=some b->∀ C,PySem.W.nsIn K mainGlobals (xName t)=some (some (.ref C))->XIn K C/\PySem.W.kitOne K (.ref C) cv=some b
section
variable {X:Cx}
theorem call_isx:CallR X (.builtin "isinstance") (fun xs H Q=>∃ a o u C c cv b,xs=[.ref a,c]/\clsV c cv/\H a=some (.frz o u)/\o.cls = .ref C/\XIn X.K C/\PySem.W.kitOne X.K (.ref C) cv=some b/\Q (.bl b) H):=by
 intro pins s σ H xs us Q I r h
 obtain ⟨a,o,v,C,c,cv,b,rfl,hc,ha,ho,hx,e,q⟩:=h
 obtain ⟨u,u2,rfl,ru,ru2⟩:=vals2 r
 have e2:u2=cv:=by
  cases c with
  | ty n=>cases (show cv = .type n from hc); cases (show u2 = .type n from ru2); rfl
  | ref a=>cases (show cv = .ref a from hc); cases (show u2 = .ref a from ru2); rfl
  | _=>exact (show False from hc).elim
 subst e2
 cases (show u=Value.ref a from ru)
 have hg:s.heap.get? a=some o:=(show s.heap.get? a=some o/\ObjOk X.prog X.w H s.heap a v from I.hok a _ ha).1
 exact PySem.W.kia_one (kitx_exc hx) I.kIn ⟨o,hg,ho⟩ e (fun z=>nomatch z) fun tk=>⟨.bl b,H,I.tok tk,rfl,q⟩
section
variable {en:Str} {i:Nat} {p pe pT pos:Pos} {tb:List (Nat×Bool)}
theorem isx_read {σ : L2.St} {H₀ H:Hp} {O:Addr->Prop} {ds:List Sl} {hd:Hold} {d:D} (o:Ok X.K H₀ H O σ ds hd) (e:isxG i tb ds=some d):∃ t b,ds[i]? = some (.exc t)/\tb.lookup t=some b/\d = .bl b:=by
 unfold isxG at e
 cases hs:ds[i]? with
 | none=>rw [hs] at e; cases e
 | some s =>
   rw [hs] at e
   cases s with
   | exc t =>
     simp only at e
     cases hl:tb.lookup t with
     | none=>rw [hl] at e; cases e
     | some b=>rw [hl] at e; cases e; exact ⟨t,b,rfl,hl,rfl⟩
   | no=>cases e
   | v d=>cases e
   | own l=>cases e
   | fr l=>cases e
theorem xE {x:Str} (hm:X.mg "isinstance" = none) (hI:∃ D,X.mg x=some (.ref D)/\IsxOk X.K (.ref D) tb) (hN:X.N[i]? = some en:=by rfl) (hv:Vis X.env.scope en:=by exact Or.inl rfl) (hde:(en == ("__debug__" : Str))=false:=by decide)
  (hcd:(en == ("__classdict__" : Str))=false:=by decide) (hg:Gl X "isinstance":=by rfl) (hgT:Gl X x:=by rfl)
  (h1:starEach [.Name en pe,.Name x pT] X.env=(false,eval (.Name en pe) X.env)::starEach [.Name x pT] X.env:=by rfl) (h2:starEach [.Name x pT] X.env=(false,eval (.Name x pT) X.env)::starEach [] X.env:=by rfl) (h3:(backTo pos (starEach [.Name x pT] X.env)).any (·.1)=false:=by rfl)
  (hd:(x == ("__debug__" : Str))=false:=by decide):PV X (.Call (.Name "isinstance" p) [.Name en pe,.Name x pT] [] pos) (isxG i tb):=by
 obtain ⟨D,hT,hI⟩:=hI
 refine ⟨_,pe_callB call_isx hg hm (by decide +kernel) (jZ (xM hN hv hde hcd) (jZ (pe_glob (v:=.ref D) hgT hT rfl hd) xK h2) h1) (by decide) (by decide) h1 h3,fun H₀ H O σ ds hd d Q o e q=>?_⟩
 obtain ⟨t,b,hs,hl,rfl⟩:=isx_read o e
 obtain ⟨a,C,ob,u,q1,q2,q3,q4⟩:=o.readX hs
 obtain ⟨x1,x2⟩:=hI t b hl C q2
 exact ⟨.ref a,q1,a,ob,u,C,.ref D,.ref D,b,rfl,rfl,q3,q4,x1,x2,q _ H (Same.refl _) (.bl b)⟩
theorem pv_isxB {x:Str} {T:String} (hm:X.mg "isinstance" = none) (hx:X.mg x=none) (hI:IsxOk X.K (.type T) tb) (hb:bootBuiltins x=some (.type T):=by decide +kernel) (hN:X.N[i]? = some en:=by rfl) (hv:Vis X.env.scope en:=by exact Or.inl rfl) (hde:(en == ("__debug__" : Str))=false:=by decide)
  (hcd:(en == ("__classdict__" : Str))=false:=by decide) (hg:Gl X "isinstance":=by rfl) (hgT:Gl X x:=by rfl)
  (h1:starEach [.Name en pe,.Name x pT] X.env=(false,eval (.Name en pe) X.env)::starEach [.Name x pT] X.env:=by rfl) (h2:starEach [.Name x pT] X.env=(false,eval (.Name x pT) X.env)::starEach [] X.env:=by rfl) (h3:(backTo pos (starEach [.Name x pT] X.env)).any (·.1)=false:=by rfl)
  (hn:x≠"__name__":=by decide) (hd:(x == ("__debug__" : Str))=false:=by decide):PV X (.Call (.Name "isinstance" p) [.Name en pe,.Name x pT] [] pos) (isxG i tb):=by
 refine ⟨_,pe_callB call_isx hg hm (by decide +kernel) (jZ (xM hN hv hde hcd) (jZ (pe_bltn (v:=.ty T) hgT hx hb rfl hn hd) xK h2) h1) (by decide) (by decide) h1 h3,fun H₀ H O σ ds hd d Q o e q=>?_⟩
 obtain ⟨t,b,hs,hl,rfl⟩:=isx_read o e
 obtain ⟨a,C,ob,u,q1,q2,q3,q4⟩:=o.readX hs
 obtain ⟨x1,x2⟩:=hI t b hl C q2
 exact ⟨.ref a,q1,a,ob,u,C,.ty T,.type T,b,rfl,rfl,q3,q4,x1,x2,q _ H (Same.refl _) (.bl b)⟩
end
end
structure XR (K:Frag) (mg:Str->Option Value) (t:Nat) (C:Addr):Prop where
 nm:PySem.W.nsIn K mainGlobals (xName t)=some (some (.ref C))
 gl:mg (xName t)=some (.ref C)
 cls:XCls K C
structure XT (K:Frag) (mg:Str->Option Value) (t:Nat) (x:Str) (C S:Addr):Prop where
 nm:PySem.W.nsIn K mainGlobals (xName t)=some (some (.ref C))
 gl:mg x=some (.ref S)
 cat:XCatch K C S
section
variable {X:Cx} {m:Str} {k j:Nat} {cs:List Nat} {F:Nat->List D->Option Ret} {o:Expr} {apos pos:Pos} {fo:FE}
end
section
variable {X:Cx} {C:Addr} {x:Str} {p pos:Pos}
end
theorem wS {K:Frag} {C C':Addr} (u:PySem.W.isClsIn K C=true) (y:PySem.W.typeIn K (.ref C)=some (.type "type")) (s:PySem.W.subIn K (.ref C') (.ref C)=some true):PySem.W.kitCls K (.ref C') (.ref C)=some true:=by
 unfold PySem.W.kitCls
 simp only
 rw [show (PySem.W.clsIn K C).isSome=true from u,y,if_pos (by simp),s]
theorem kitB_yes {K:Frag} {C':Addr} {T:String} (u:PySem.W.kitMeta T=true) (s:PySem.W.subIn K (.ref C') (.type T)=some true):PySem.W.kitOne K (.ref C') (.type T)=some true:=by
 unfold PySem.W.kitOne
 split
 · rfl
 · unfold PySem.W.kitCls
   simp only
   rw [u,if_pos rfl,s]
section
variable {K:Frag} {H:Hp} {O:Addr->Prop} {a:Addr} {xs ys:List V}
end
section
variable {X:Cx}
end
theorem xB {P:Program} {w:World} {K:Frag} {mg:Str->Option Value} {base:Heap} {N:List Str} {qual:Str} {scope:Scope} {f:Addr} {cd:Value} {A:Around} {outer:List Env} {s:Shared} {H:Hp} {E:XK} :
  Passes (CXM P w) (cxOf (CXM P w) P w K mg base N qual scope f cd A outer s H E) E:=by
 intro pins σ H1 s1 e s' I h
 obtain ⟨ea,cls,a0,B,H',rfl,os,bare,T,hE⟩:=h
 have hfr:frs (envOfC qual scope s.heap.objs.size f cd::outer)=s.heap.objs.size::frs outer:=rfl
 have nm:∀ b o,s.heap.get? b=some o->b ∉ frs outer->b ∉ frs (envOfC qual scope s.heap.objs.size f cd::outer):=fun b o q n z=>by
  rw [hfr] at z
  rcases List.mem_cons.mp z with z | z
  · exact absurd (Heap.lt_size q) (by rw [z]; exact Nat.lt_irrefl _)
  · exact n z
 show wpAny _ _ (leaving _ _) _ _ _
 refine wpAny_leaves_onW I.ok.frames rfl T.fly fun h' x1 x4=>?_
 refine ⟨ea,cls,a0,B,H',rfl,os.trans I.os,bare,⟨x1,fun b o q n hb=>?_,fun b o q hb=>?_,fun b o q hb=>?_,fun b o q n=>?_,fun b xs q=>T.tups b xs (I.base.tups b xs q),fun b o u q=>T.frzs b o u (I.base.frzs b o u q),fun b ps q=>?_,T.hok⟩,hE⟩
 · exact T.keep b o (I.base.keep b o q n hb (by intro z; cases z)) (I.base.free b o q n (by intro z; cases z)) (nm b o q hb)
 · obtain ⟨o', q'⟩ := I.base.there b o q (by intro z; cases z)
   exact T.there b o' q' (nm b o q hb)
 · obtain ⟨sl, q'⟩ := I.base.slot b o q (I.ok.frf b hb) hb (by intro z; cases z)
   obtain ⟨sl2,q2⟩:=T.slot b _ q' (List.mem_cons_of_mem _ hb)
   obtain ⟨_,ob,ho,hd⟩:=I.ok.funs.mem hb
   have ho':s.heap.get? b=some ob:=ho
   rw [q] at ho'
   cases ho'
   obtain ⟨sl',q''⟩:=x4 b _ q2 hd
   exact ⟨sl',q''⟩
 · obtain ⟨o', q'⟩ := I.base.there b o q (by intro z; cases z)
   exact T.free b o' q' (I.base.free b o q n (by intro z; cases z))
 · exact T.tbls b ps (I.base.tbls b ps q)
section
variable (X:Cx) (E:XK) (C:Addr)
def PSy (st:Stmt) (x:List Sl->Bool):Prop:=∃ t,PS X st t/\∀ H₀ H O σ ds hd D,Ok X.K H₀ H O σ ds hd->x ds=true->(∀ σ' H',Same H₀ H'->XeOk X C σ' H')->(∀ H',Same H₀ H'->E (.ref C) none H')->t D σ H
def PSsy (st:List Stmt) (x:List Sl->Bool):Prop:=∃ t,PSs X st t/\∀ H₀ H O σ ds hd D,Ok X.K H₀ H O σ ds hd->x ds=true->(∀ σ' H',Same H₀ H'->XeOk X C σ' H')->(∀ H',Same H₀ H'->E (.ref C) none H')->t D σ H
def PEy (e:Expr) (x:List Sl->Bool):Prop:=∃ t,PE X e t/\∀ H₀ H O σ ds hd Q,Ok X.K H₀ H O σ ds hd->x ds=true->(∀ H',Same H₀ H'->E (.ref C) none H')->t σ H Q
def PSsAny (st:List Stmt):Prop:=∃ t,PSs X st t
end
section
variable {X:Cx} {E:XK} {C:Addr}
theorem PSx.y {st:Stmt} {x:List Sl->Bool} (h:PSx X C st x):PSy X E C st x:=by
 obtain ⟨t,ht,hf⟩:=h
 exact ⟨t,ht,fun H₀ H O σ ds hd D o e q _=>hf H₀ H O σ ds hd D o e q⟩
theorem PSsv.any {st:List Stmt} {g:FS} (h:PSsv X st g):PSsAny X st:=let ⟨t,ht,_⟩:=h; ⟨t,ht⟩
theorem jN {st:List Stmt} (h:PSsAny X st):PSsy X E C st neverX:=by
 obtain ⟨t,ht⟩:=h
 exact ⟨t,ht,fun _ _ _ _ _ _ _ _ e _ _=>by cases e⟩
theorem qL {st:Stmt} {rest:List Stmt} {x:List Sl->Bool} (h1:PSy X E C st x) (h2:PSsAny X rest):PSsy X E C (st::rest) x:=by
 obtain ⟨t,ht,hf⟩:=h1
 obtain ⟨u,hu⟩:=h2
 exact ⟨_,wZ ht hu,fun H₀ H O σ ds hd D o e q p=>hf H₀ H O σ ds hd _ o e q p⟩
theorem jU {st:Stmt} {rest:List Stmt} {f:FS} {x:List Sl->Bool} (h1:PSv X st f) (h2:PSsy X E C rest x):PSsy X E C (st::rest) (seqX f x):=by
 obtain ⟨t,ht,hf⟩:=h1
 obtain ⟨u,hu,hg⟩:=h2
 refine ⟨_,wZ ht hu,fun H₀ H O σ ds hd D o e q p=>?_⟩
 unfold seqX at e
 cases h1:f ds with
 | none=>rw [h1] at e; cases e
 | some o1 =>
   rw [h1] at e
   cases o1 with
   | nx ds'=>exact hf H₀ H O σ ds hd _ _ o h1 (fun σ' H' O' o'=>hg H₀ H' O' σ' ds' hd D o' e q p)
   | _=>cases e
theorem ps_or {st:Stmt} {t u:TS} (h1:PS X st t) (h2:PS X st u):PS X st (fun D σ H=>t D σ H \/ u D σ H):=fun pins s σ H D I h=>h.elim (h1 pins s σ H D I) (h2 pins s σ H D I)
theorem wK {st:Stmt} {rest:List Stmt} {f:FS} {x y:List Sl->Bool} (h0:PSy X E C st x) (h1:PSv X st f) (h2:PSsy X E C rest y):PSsy X E C (st::rest) (orX x (seqX f y)):=by
 obtain ⟨t0,ht0,hf0⟩:=h0
 obtain ⟨t,ht,hf⟩:=h1
 obtain ⟨u,hu,hg⟩:=h2
 refine ⟨_,wZ (ps_or ht0 ht) hu,fun H₀ H O σ ds hd D o e q p=>?_⟩
 unfold orX at e
 rcases Bool.or_eq_true_iff.mp e with e | e
 · exact .inl (hf0 H₀ H O σ ds hd _ o e q p)
 · refine .inr ?_
   unfold seqX at e
   cases h1:f ds with
   | none=>rw [h1] at e; cases e
   | some o1 =>
     rw [h1] at e
     cases o1 with
     | nx ds'=>exact hf H₀ H O σ ds hd _ _ o h1 (fun σ' H' O' o'=>hg H₀ H' O' σ' ds' hd D o' e q p)
     | _=>cases e
theorem xW {c:Expr} {a b:List Stmt} {pos:Pos} {fc:FT} {xa xb:List Sl->Bool} (hc:PTv X c fc) (ha:PSsy X E C a xa) (hb:PSsy X E C b xb):PSy X E C (.If c a b pos) (ifX fc xa xb):=by
 obtain ⟨tc,hc,hcf⟩:=hc
 obtain ⟨ta,ha,haf⟩:=ha
 obtain ⟨tb,hb,hbf⟩:=hb
 refine ⟨_,ps_if hc ha hb,fun H₀ H O σ ds hd D o e q p=>?_⟩
 unfold ifX at e
 cases hh:fc ds with
 | none=>rw [hh] at e; cases e
 | some k =>
   rw [hh] at e
   refine hcf H₀ H O σ ds hd k _ o hh fun H' s=>?_
   cases k with
   | true=>exact haf H₀ H' O σ ds hd D (o.mono s) e q p
   | false=>exact hbf H₀ H' O σ ds hd D (o.mono s) e q p
theorem xJ {e:Expr} {pos:Pos} {x:List Sl->Bool} (h:PEy X E C e x):PSy X E C (.Return (some e) pos) x:=by
 obtain ⟨t,ht,hf⟩:=h
 exact ⟨_,vV ht,fun H₀ H O σ ds hd D o e _ p=>hf H₀ H O σ ds hd _ o e p⟩
section
variable {k j n:Nat} {R:List D->Bool} {x:Str} {p pos:Pos} {e:Expr} {es:List Expr} {g:FA}
theorem yL (hp:Passes (CXM X.prog X.w) X E) (CX:CalX X.prog X.w X.K X.mg X.base x k n R C) (hr:Room j X.A) (ha:PAn X (e::es) g) (hj:k<=j:=by decide) (hg:Gl X x:=by rfl) (hdb:(x == ("__debug__" : Str))=false:=by decide)
  (he:starEach (e::es) X.env=(false,eval e X.env)::starEach es X.env:=by rfl) (hpl:(backTo pos (starEach es X.env)).any (·.1)=false:=by rfl):PEy X E C (.Call (.Name x p) (e::es) [] pos) (callX n R g):=by
 obtain ⟨f,fd,ps,Fn,hb,hk,hm⟩:=CX.ex
 obtain ⟨t,ht,hf⟩:=ha
 refine ⟨_,vD (E:=E) Fn (hr.mono hj) hg hm hk hb .nil hp ht hdb he hpl,fun H₀ H O σ ds hd Q o ex q=>?_⟩
 unfold callX at ex
 cases hl:g ds with
 | none=>rw [hl] at ex; cases ex
 | some l =>
   rw [hl] at ex
   simp only [Bool.and_eq_true,decide_eq_true_eq] at ex
   refine hf H₀ H O σ ds hd l _ o hl fun vs H1 s1 r1=>?_
   have hl':=r1.length
   exact ⟨by simp only [List.append_nil]; rw [hl']; exact ex.1,l,by simpa using r1,ex.2,fun H' s'=>q H' (o.same.trans (s1.trans s'))⟩
end
end
theorem xD {P:Program} {w:World} {K:Frag} {mg:Str->Option Value} {base:Heap} {x qual:Str} {st:Stmt} {f C:Addr} {fd:FuncData} {N ps:List Str} {k:Nat} {R:List D->Bool} (Fn:Fun K x qual st f fd) (S:FnScope N ps (zC st))
  {g:List Sl->Bool} (hbody:∀ (cdv:Value) (A:Around) (outer:List Env) (s:Shared) (H:Hp) (E:XK),Room k (A.deeper (envOfC qual (zC st) s.heap.objs.size f cdv))->PSsy (cxOf (CXM P w) P w K mg base N qual (zC st) f cdv A outer s H E) E C (zJ st) g)
  (hg:∀ ds,ds.length=ps.length->R ds=true->g (args N.length ds)=true):FnOk P w K mg base (CXM P w) (k+1) f fd ps (spX K ps.length R C):=by
 obtain ⟨oc,od,kV,doc,pm,an,cdv,ct,osl,rfl,lk,hcd⟩:=Fn.ex
 refine fn_of lk hcd S (fun vs H Q E h=>h.1) fun A outer s H vs Q E hr h=>?_
 obtain ⟨hl,ds,rv,e,q⟩:=h
 obtain ⟨t,ht,hf⟩:=hbody cdv A outer s H E hr
 exact ⟨t,ht,hf H H jF _ _ [] _ (wP (N:=N) rv) (hg ds (by rw [<- rv.length]; exact hl) e) (fun σ' H' s'=>xe_raise (q H' s')) q⟩
section
variable {X:Cx} {E:XK} {C:Addr} {t k j n:Nat} {R:List D->Bool} {x:Str} {p pos:Pos} {e:Expr} {es:List Expr} {g:FA}
end
section
variable {X:Cx}
theorem try_lands {st b₀ : Stmt} {suite:List Stmt} {sx en:Str} {hp hpos:Pos} {i t:Nat} {C S:Addr} {h:FS} {x:List Sl->Bool}
  (hN:X.N.Nodup) (hm:X.mg sx=some (.ref S)) (hS:XCatch X.K C S) (hC:PySem.W.nsIn X.K mainGlobals (xName t)=some (some (.ref C)))
  (hx:∀ W,Throws (X.wish W) C st x) (hs:∀ ea xe,PSsv (suiteCx X ea xe) (b₀::suite) h)
  (hi:X.N[i]? = some en) (hlo:X.env.kindOf en=some .local) (hst:X.stack=X.env::X.outer) (hfr:X.env.frame=some X.env.locals) (hex:X.ex=[])
  (hgS:Gl X sx) (hdb:(sx == ("__debug__" : Str))=false)
  {pins:List (Addr×Obj)} {s:Shared} {σ : L2.St} {H H₀ : Hp} {O:Addr->Prop} {ds:List Sl} {hd:Hold} {D:Ends} {out':Out} (I:Inv X pins σ H s) (o:Ok X.K H₀ H O σ ds hd) (hxd:x ds=true) (hh:h (ds.set i (.exc t))=some out') (af:After X H₀ hd D (goneO i out')) :
  wpAny (model X.prog X.w) X.A (exec st X.env) (fun _ _=>False) (tryE X pins D [.ExceptHandler (some (.Name sx hp)) (some en) (b₀::suite) hpos]) s:=by
 have hLoc:Loc X.env.scope en:=.inl hlo
 have hsub:∀ b,b∈X.env.locals::X.fs->b∈frs X.stack:=fun b hb=>by
  rw [hst]; unfold frs; rw [List.filterMap_cons,hfr]; exact hb
 refine hx (tryE X pins D [.ExceptHandler (some (.Name sx hp)) (some en) (b₀::suite) hpos]) pins s σ H H₀ O ds hd (I.wish _) o hxd ?_
 intro ea a0 B H1 H' s1 s' I1 m1 m2 T os bare
 have I1':Inv X pins σ H1 s1:=I1.unwish
 have T:Thrown X.prog X.w X.stack H1 s1 (.ref C) ea a0 B H' s'.heap:=T
 show wpAny _ _ (noteFrame _ _) _ _ _
 have hA:X.A.frames=some (X.env::X.outer):=by rw [<- hst]; exact I.ok.frames
 refine wpAny_looks_onW hA hfr (by rw [<- hst]; exact T.fly) fun h₄ held₄ sm₄=>?_
 refine wpAny_landsW held₄ fun h₅ fly₅ sm₅=>?_
 have T5:=T.on (h':=h₅) (by rw [hst]; exact fly₅) (sm₄.trans sm₅)
 have I5:Inv X pins σ H' { s' with heap:=h₅ }:=I1'.call' (ch:=[]) os T5.un T5.hokh bare (fun b z=>by cases z)
 obtain ⟨ap5,ob,hob,hobc,hobd⟩:=fly_apart T5.fly
 refine wpAny_handleBy_cons (codeAny_handlers_test ?_) (by intro q; cases q)
 refine xZ (X:=suiteCx X ea X.xe) (inv_suite I5) hgS hm ?_ hdb
 refine x_matches (K:=X.K) I5.kIn hob hobc hS ?_
 refine codeAny_handlers_suite_as ?_
 refine lands_againW (s:={ s' with heap:=h₅ }) fly₅ fun h₆ fly₆ sm₆=>?_
 have T6:=T5.on (h':=h₆) (by rw [hst]; exact fly₆) sm₆
 have I6:Inv X pins σ H' { s' with heap:=h₆ }:=I1'.call' (ch:=[]) os T6.un T6.hokh bare (fun b z=>by cases z)
 obtain ⟨ap6,oe,hoe,hoec,hoed⟩:=fly_apart T6.fly
 have nb:∀ b o,s1.heap.get? b=some o->b≠ea:=fun b o e z=>by
  subst z
  obtain ⟨o',q⟩:=T6.there b o e ap6
  rw [T6.fly.2.1] at q; cases q
 have h0:X.s₀.heap.get? ea=none:=by
  cases q:X.s₀.heap.get? ea with
  | none=>rfl
  | some o' =>
    obtain ⟨o'',q'⟩:=I1'.base.there ea o' q (by rw [hex]; intro z; cases z)
    exact (nb ea o'' q' rfl).elim
 have It:=inv_track I6 T6.no hoe (fun z=>ap6 (hsub _ (by rw [z]; exact List.mem_cons_self))) h0 hoed fun p hpp=>nb p.1 p.2 (I1'.pin p hpp).1
 have sm:Same H' (upd H' ea (.frz oe (.own ea))):=fun b u e=>by rw [qC (fun z=>by rw [z,T6.no] at e; cases e)]; exact e
 refine vA (X:=suiteCx X ea X.xe) (i:=i) (v:=.ref ea) (inv_suite It) hN hi hLoc rfl (fun s7 I7=>?_) (.inr hlo)
 refine run_suite (fun xe=>hs ea xe) I7 ((o.mono ((m1.trans m2).trans sm)).setX hC qS hoec) hh (after_gone af) fun f s8 h8=>?_
 have hcls:(X.env.scope.kind == .class || (X.env.scope.kind == .module && X.env.locals != X.env.globals))=false:=by rw [I.ok.kind]; rfl
 have gone:∀ xe σ' H8,Inv (suiteCx X ea xe) pins σ' H8 s8->∀ Q:Unit->Shared->Prop,(∀ s9,Inv X pins (σ'.set i none) H8 s9->Q () s9)->wpAny (model X.prog X.w) X.A (do bindName X.env en .none; unbindBehindTheSuite X.env en hpos) Q X.xe s8:=fun xe σ' H8 I8 Q k=>by
  have I8':=inv_unsuite I8 I.ok.hd
  obtain ⟨m,hn,hl⟩:=id I8'.loc
  exact wpAny_nameGoes_keeps hlo hn hcls fun h' v hn' hs'=>k _ (inv_gone I8' hN hi hn hl hn' hs')
 cases f with
 | next=>obtain ⟨σ',H8,I8,q⟩:=h8; exact gone _ σ' H8 I8 _ fun s9 I9=>⟨_,H8,I9,q⟩
 | brk=>obtain ⟨σ',H8,I8,q⟩:=h8; exact gone _ σ' H8 I8 _ fun s9 I9=>⟨_,H8,I9,q⟩
 | cont=>obtain ⟨σ',H8,I8,q⟩:=h8; exact gone _ σ' H8 I8 _ fun s9 I9=>⟨_,H8,I9,q⟩
 | ret u=>obtain ⟨v,σ',H8,I8,r,q⟩:=h8; exact gone _ σ' H8 I8 _ fun s9 I9=>⟨v,_,H8,I9,r,q⟩
end
structure RoomH (k:Nat) (A:Around):Prop where
 dp:A.depth+3 * k+5 < recursionLimit
 un:A.units+16 * k+200 < cLine
theorem RoomH.of {k:Nat} {A:Around} {v:Option Value} (r:Room k A):RoomH k (A.mark v):=⟨r.dp,r.un⟩
theorem RoomH.mono {j k:Nat} {A:Around} (r:RoomH k A) (h:j<=k):RoomH j A:=⟨by have:=r.dp; omega,by have:=r.un; omega⟩
theorem RoomH.depth {k:Nat} {A:Around} (r:RoomH k A):A.depth < recursionLimit:=by have:=r.dp; omega
abbrev uncalm (X:Cx):Cx:={ X with calm:=false,xe:=fun _ _=>False }
structure FnOkH (P:Program) (w:World) (K:Frag) (mg:Str->Option Value) (base:Heap) (k:Nat) (f:Addr) (fd:FuncData) (ps:List Str) (sp:Sp):Prop where
 len:∀ vs H Q E,sp vs H Q E->vs.length=ps.length
 run:∀ (A:Around) (outer:List Env) (s:Shared) (H:Hp) (args:Args) (us:List Value) (vs:List V) (Q:VK) (E:XK),RoomH k A->Env0 P w K mg base A outer s H->BindsTo s fd args (ps.zip us)->Vals vs us->sp vs H Q E →
  codeAny (model P w) A (.call (.ref f) args) (CR CX0 outer P w H s Q E) s
theorem inv_calm {X:Cx} {A':Around} {xe:Value->Shared->Prop} {pins:List (Addr×Obj)} {σ : L2.St} {H:Hp} {s:Shared} (I:Inv X pins σ H s) (hA:A'.frames=X.A.frames):Inv { X with A:=A',calm:=false,xe:=xe } pins σ H s:=by
 have ok:=I.ok
 exact ⟨⟨ok.mod,ok.kind,ok.glob,ok.blt,ok.above,ok.inj,ok.has,ok.cab,(fun z=>by cases z),hA.trans ok.frames,ok.stk,ok.exf,ok.bs,ok.bsz,ok.noex,ok.exfs,ok.funs,ok.frf⟩,I.os,I.bare,I.base,I.loc,I.cell,I.free,I.freeC,I.pin,I.hok,I.len⟩
theorem fnH_of {P:Program} {w:World} {K:Frag} {mg:Str->Option Value} {base:Heap} {k:Nat} {x qual:Str} {st:Stmt} {f:Addr} {fd:FuncData} {N ps:List Str} {sp:Sp} (Fn:Fun K x qual st f fd) (S:FnScope N ps (zC st))
  (len:∀ vs H Q E,sp vs H Q E->vs.length=ps.length)
  (hbody:∀ (cdv:Value) (A:Around) (outer:List Env) (s:Shared) (H:Hp) (vs:List V) (Q:VK) (E:XK),sp vs H Q E →
    ∃ t,PSs (uncalm (cxOf CX0 P w K mg base N qual (zC st) f cdv A outer s H E)) (zJ st) t/\t { nx:=fun _ H'=>Q .non H',rt:=Q } (L2.start N vs) H) :
  FnOkH P w K mg base (k+1) f fd ps sp:=by
 obtain ⟨oc,od,kV,doc,pm,an,cdv,ct,osl,rfl,lk,hcd⟩:=Fn.ex
 refine ⟨len,fun A outer s H args us vs Q E hr e0 hb r hsp=>?_⟩
 have hl:=len _ _ _ _ hsp
 have KX:K.In s.heap:=e0.mod.kin.keeps fun b o e=>(e0.bs b o e).1
 have lim:s.heap.NoLimit:=e0.mod.nolimit.keeps fun b o e=>(e0.bs b o e).1
 have hkind:∀ y∈ps.zip us,(zC st).names.lookup y.1=some .local \/ ((zC st).names.lookup y.1=some .cell/\((cellsFrom (s.heap.objs.size+1) (zC st).names []).lookup y.1).isSome=true):=fun ⟨n,v⟩ hy=>by
  rcases S.par n (List.of_mem_zip hy).1 with q | q
  · exact .inl q
  · exact .inr ⟨q,PySem.W.cellsFrom_some _ _ _ (.inl q)⟩
 refine codeAny_call_function hr.depth (KX _ _ lk) rfl S.co S.gen rfl (PySem.W.codeRec_of KX hcd) (hb _ _ _ _ ?_)
 refine wpAny_newFunctionEnv_cells S.kind hkind fun env he s1 x=>?_
 subst he
 refine ⟨lim.keeps x.toInCall.keep,codeAny_func ?_⟩
 obtain ⟨t,ht,hq⟩:=hbody cdv A outer s H vs Q E hsp
 have e1:Env0 P w K mg base { A with handled:=none } outer s H:=⟨e0.frames,e0.mod,e0.bs,e0.bsz,e0.funs,e0.frf,e0.hok,e0.bare⟩
 have I0:Inv (cxOf CX0 P w K mg base N qual (zC st) f cdv { A with handled:=none } outer s H E) [] (L2.start N vs) H s1:=inv_start S rfl e1 hl r x
 have I:Inv (uncalm (cxOf CX0 P w K mg base N qual (zC st) f cdv A outer s H E)) [] (L2.start N vs) H s1:=inv_calm (X:=cxOf CX0 P w K mg base N qual (zC st) f cdv { A with handled:=none } outer s H E) (A':=A.deeper (envOfC qual (zC st) s.heap.objs.size f cdv)) (xe:=fun _ _=>False) I0 rfl
 refine wpAny_mono (ht [] s1 (L2.start N vs) H _ I hq) (fun fl s' hs=>?_) fun e s' hs=>hs.elim
 have fin:∀ {σ':L2.St} {H':Hp} {v:V} {u:Value},Inv (uncalm (cxOf CX0 P w K mg base N qual (zC st) f cdv A outer s H E)) [] σ' H' s'->RelV v u->Q v H'->CE outer P w H s Q u s' :=
  fun {σ' H' v u} J rv q=>⟨v,H',J.os,J.bare,J.base,J.hok,rv,q⟩
 cases fl with
 | ret u =>
   obtain ⟨v,σ',H',J,rv,q⟩:=hs
   exact fin J rv q
 | next =>
   obtain ⟨σ',H',J,q⟩:=hs
   exact fin (v:=V.non) (u:=Value.none) J rfl q
 | brk =>
   obtain ⟨_,_,_,q⟩:=hs
   exact False.elim q
 | cont =>
   obtain ⟨_,_,_,q⟩:=hs
   exact False.elim q
def spH (K:Frag) (F:Nat->Option Ret):Sp:=fun vs H Q _=>∃ a t C ob u r,vs=[.ref a]/\PySem.W.nsIn K mainGlobals (xName t)=some (some (.ref C))/\H a=some (.frz ob u)/\ob.cls = .ref C/\F t=some r/\∀ v H',Same H H'->RetOk K H H' v r->Q v H'
theorem vP {n t i:Nat} {s:Sl} (e:(argsE n t)[i]? = some s):(i=0/\s = .exc t) \/ s = .no:=by
 cases i with
 | zero=>exact .inl ⟨rfl,by simpa [argsE] using e.symm⟩
 | succ i =>
   refine .inr ?_
   simp only [argsE,List.getElem?_cons_succ,List.getElem?_replicate] at e
   split at e
   · cases e; rfl
   · cases e
theorem ok_startE {K:Frag} {H:Hp} {N:List Str} {a C:Addr} {t:Nat} {ob:Obj} {u:HO} (h1:PySem.W.nsIn K mainGlobals (xName t)=some (some (.ref C))) (h2:H a=some (.frz ob u)) (h3:ob.cls = .ref C) :
  Ok K H H jF (L2.start N [.ref a]) (argsE N.length t) []:=by
 refine ⟨Same.refl _,(fun i l a hi _=>by rcases vP hi with ⟨_,h⟩ | h <;> cases h),fun _ z=>z.elim,by simp [L2.start,argsE],fun i s e=>?_,fun i j a _ ⟨l,hi⟩ _ _ _=>?_,(fun p hp=>by cases hp)⟩
 · rcases vP e with ⟨rfl, rfl⟩ | rfl
   · exact ⟨C,ob,u,h1,h2,h3⟩
   · exact yJ
 · rcases vP hi with ⟨_,h⟩ | h <;> cases h
theorem fun_okH {P:Program} {w:World} {K:Frag} {mg:Str->Option Value} {base:Heap} {x qual y:Str} {st:Stmt} {f:Addr} {fd:FuncData} {N:List Str} {k:Nat} {g:FS} (Fn:Fun K x qual st f fd) (S:FnScope N [y] (zC st))
  (hbody:∀ (cdv:Value) (A:Around) (outer:List Env) (s:Shared) (H:Hp) (E:XK),PSsv (uncalm (cxOf CX0 P w K mg base N qual (zC st) f cdv A outer s H E)) (zJ st) g) :
  FnOkH P w K mg base (k+1) f fd [y] (spH K (runH g N.length)):=by
 refine fnH_of Fn S (fun vs H Q E h=>?_) fun cdv A outer s H vs Q E h=>?_
 · obtain ⟨a,t,C,ob,u,r,rfl,_⟩:=h; rfl
 · obtain ⟨a, t, C, ob, u, r, rfl, h1, h2, h3, e, q⟩ := h
   obtain ⟨tt,ht,hf⟩:=hbody cdv A outer s H E
   refine ⟨tt,ht,?_⟩
   unfold runH at e
   cases hg:g (argsE N.length t) with
   | none=>rw [hg] at e; cases e
   | some o1 =>
     rw [hg] at e
     cases o1 with
     | rt r' =>
       cases e
       exact hf H H jF _ _ [] _ _ (ok_startE (N:=N) h1 h2 h3) hg (fun v H' s r _=>q v H' s r)
     | nx ds=>cases e
     | bk ds=>cases e
     | ct ds=>cases e
structure CalH (P:Program) (w:World) (K:Frag) (mg:Str->Option Value) (base:Heap) (x:Str) (k:Nat) (F:Nat->Option Ret):Prop where
 ex:∃ (f:Addr) (fd:FuncData) (ps:List Str),FnOkH P w K mg base k f fd ps (spH K F)/\Binds K fd ps []/\PySem.W.keepIn K (.ref f)=true/\mg x=some (.ref f)
section
variable {X:Cx} {k j i:Nat} {F:Nat->Option Ret} {x en:Str} {p pe pos:Pos}
theorem pe_callH {f:Addr} {fd:FuncData} {ps:List Str} {sp:Sp} {e:Expr} {es:List Expr} {t:TA} (Fn:FnOkH X.prog X.w X.K X.mg X.base k f fd ps sp) (hr:RoomH k X.A) (hg:Gl X x) (hm:X.mg x=some (.ref f)) (hk:PySem.W.keepIn X.K (.ref f)=true) (hb:Binds X.K fd ps [])
  (ha:PA X (e::es) t) (hdb:(x == ("__debug__" : Str))=false) (he:starEach (e::es) X.env=(false,eval e X.env)::starEach es X.env) (hpl:(backTo pos (starEach es X.env)).any (·.1)=false) :
  PE X (.Call (.Name x p) (e::es) [] pos) (fun σ H Q=>t σ H fun vs H1=>sp vs H1 Q E0):=by
 intro pins s σ H Q I h
 refine wpAny_Call_Name_kw (xZ I hg hm ?_ hdb)
 refine PySem.W.callWith_K (h₀:=X.base) I.ok.mod.kin hk (thn (ha pos pins s σ H _ I h) fun us s1 ⟨vs,H1,I1,r,q⟩=>⟨I1.kIn,?_⟩) he hpl
 have hl:us.length=ps.length:=by rw [<- r.length]; exact Fn.len _ _ _ _ q
 have bd:=hb s1 us I1.kIn (by rw [List.append_nil]; exact hl)
 rw [List.append_nil] at bd
 refine wpAny_call (codeAny_mono (Fn.run X.A X.stack s1 H1 ⟨us,[]⟩ us vs Q E0 hr I1.env0 bd r q) fun r s' hq=>?_)
 cases r with
 | error e=>exact hq.elim
 | ok fl =>
   cases fl with
   | ret u=>exact I1.after hq
   | next=>exact False.elim hq
   | brk=>exact False.elim hq
   | cont=>exact False.elim hq
theorem pvf_callH (CH:CalH X.prog X.w X.K X.mg X.base x k F) (hr:RoomH j X.A) (hj:k<=j:=by decide) (hN:X.N[i]? = some en:=by rfl) (hv:Vis X.env.scope en:=by exact Or.inl rfl) (hde:(en == ("__debug__" : Str))=false:=by decide)
  (hcd:(en == ("__classdict__" : Str))=false:=by decide) (hg:Gl X x:=by rfl) (hdb:(x == ("__debug__" : Str))=false:=by decide) (he:starEach [.Name en pe] X.env=(false,eval (.Name en pe) X.env)::starEach [] X.env:=by rfl) :
  PVf X (.Call (.Name x p) [.Name en pe] [] pos) (callHF i F):=by
 obtain ⟨f,fd,ps,Fn,hb,hk,hm⟩:=CH.ex
 refine ⟨_,pe_callH Fn (hr.mono hj) hg hm hk hb (jZ (xM hN hv hde hcd) xK he) hdb he rfl,fun H₀ H O σ ds hd d Q o e q=>?_⟩
 unfold callHF at e
 cases hs:ds[i]? with
 | none=>rw [hs] at e; cases e
 | some sl =>
   rw [hs] at e
   cases sl with
   | exc t =>
     simp only at e
     cases h2:F t with
     | none=>rw [h2] at e; cases e
     | some r =>
       rw [h2] at e
       simp only [Option.bind_some] at e
       obtain ⟨a,C,ob,u,q1,q2,q3,q4⟩:=o.readX hs
       refine ⟨.ref a,q1,a,t,C,ob,u,r,rfl,q2,q3,q4,h2,fun v H' s' ro=>?_⟩
       obtain ⟨a,xs,rfl,h3,h4,h5⟩:=retF_ok ro e fun a ha=>o.old ha
       exact q a xs H' s' h3 h4 h5
   | no=>cases e
   | v d=>cases e
   | own l=>cases e
   | fr l=>cases e
end
theorem yD {K:Frag} {cv:Value} : IsxOk K cv []:=fun t b e=>by cases e
theorem zW {K:Frag} {cv:Value} {t:Nat} {b:Bool} {C:Addr} {tb:List (Nat×Bool)} (n:PySem.W.nsIn K mainGlobals (xName t)=some (some (.ref C))) (x:XIn K C) (k:PySem.W.kitOne K (.ref C) cv=some b) (r:IsxOk K cv tb):IsxOk K cv ((t,b)::tb):=fun t' b' e C' n'=>by
 by_cases h:t'=t
 · subst h
   simp [List.lookup] at e
   subst e
   rw [n] at n'
   cases n'
   exact ⟨x,k⟩
 · have hf : (t' == t) = false := beq_eq_false_iff_ne.mpr h
   simp only [List.lookup,hf] at e
   exact r t' b' e C' n'
end FL
namespace L2
open PySem PySem.Spec PyProof.Rows
def Ite (K:PySem.W.Frag) (l:Addr):It :=
 ⟨fun i H => ∃ xs x, SqL K H l xs /\ xs[i]? = some x,
  fun i H v H'=>∃ T x,v = .ref T/\H T=none/\H'=upd H T (.tup [.int (i:Int),x])/\∀ xs,SqL K H l xs->xs[i]? = some x,
  fun i H=>∃ xs,SqL K H l xs/\xs.length<=i⟩
theorem turn_enum {P:Program} {w:World} {K:PySem.W.Frag} {es:List Expr} {x1} {pos:Pos} (e it l:Addr) (hei:e≠it) :
  Turn P w K (.Tuple es x1 pos) (Ite K l) [e,it] e (fun i h=>(∃ old,IsEnum h e it ((i:Nat):Int) old)/\h.IsListIter it l i) where
 mem:=by simp
 obj:=fun i h st b hb=>by
  obtain ⟨⟨old,he⟩,⟨o1,e1,c1,d1⟩⟩:=st
  simp only [List.mem_cons,List.not_mem_nil,or_false] at hb
  rcases hb with rfl | rfl
  · exact ⟨_,he,fun v z=>by have z':Data.fields _=Data.cell v:=z; cases z'⟩
  · exact ⟨o1,e1,fun v z=>by rw [d1] at z; cases z⟩
 keep:=fun i h h' st k=>by
  obtain ⟨⟨old,he⟩,h1⟩:=st
  exact ⟨⟨old,k e (by simp) _ he⟩,h1.at fun o q=>k it (by simp) o q⟩
 item:=by
  intro X hP hw hK hc i pins s σ H E I hf st hg
  subst hP hw hK
  obtain ⟨xs,x,hq1,hx⟩:=hg
  obtain ⟨⟨old,he⟩,h1⟩:=st
  obtain ⟨its1,rv1,p1,hz1⟩:=I.list hq1
  obtain ⟨u1,hu1,ru1⟩:=rv1.get hx
  refine wpAny_pyNext_enum_item he h1 p1.isList (x:=u1) (by simpa using hu1) hei fun h' a1 a2 a3 a4 hk=>?_
  refine ⟨_,rfl,wpAny_letOwnedTupleGo_enum a1 fun h2' b1 bs=>?_⟩
  have hT:∀ b∈[e,it],b≠s.heap.objs.size:=fun b hb z=>by
   obtain ⟨_,e1,_⟩:=h1
   simp only [List.mem_cons,List.not_mem_nil,or_false] at hb
   rcases hb with rfl | rfl
   · exact Nat.ne_of_lt (Heap.lt_size he) z
   · exact Nat.ne_of_lt (Heap.lt_size e1) z
  have fr:H s.heap.objs.size=none:=I.hok.fresh (Nat.le_refl _)
  have I1:Inv X pins σ (upd H s.heap.objs.size (.tup [.int (i:Int),x])) { s with heap:=s.heap.push { cls:=.type "tuple",data:=.seq #[.int i s.toks,u1] },toks:=s.toks+1 }:=by
   refine I.laid (t':=s.toks+1) (fun b u q=>Heap.get?_push_of_some _ q) (Nat.le_refl _) ?_
   exact ⟨by simp [sizeLine],[.int i s.toks,u1],.cons ⟨_,rfl⟩ (.cons ru1 .nil),⟨_,Heap.get?_push_size _ rfl,rfl,_,rfl⟩⟩
  have nz:s.heap.objs.size≠e:=fun z=>hT e (by simp) z.symm
  have I2:Inv X pins σ (upd H s.heap.objs.size (.tup [.int (i:Int),x])) { s with heap:=h2',toks:=s.toks+1 }:=by
   refine Inv.turnedS (s:={ s with heap:=s.heap.push { cls:=.type "tuple",data:=.seq #[.int i s.toks,u1] },toks:=s.toks+1 }) I1 (h':=h2') (t':=s.toks+1) (ch:=[e,it]) (fun b o hb q=>?_) (fun b hb=>?_)
   · simp only [List.mem_cons, List.not_mem_nil, or_false, not_or] at hb
     by_cases hbT:b=s.heap.objs.size
     · subst hbT
       have q':(s.heap.push { cls:=.type "tuple",data:=.seq #[.int i s.toks,u1] }).get? s.heap.objs.size=some o:=q
       rw [Heap.get?_push_size _ rfl] at q'
       cases q'
       exact bs.extBut _ _ nz a3
     · have q' : (s.heap.push { cls := .type "tuple", data := .seq #[.int i s.toks, u1] }).get? b = some o := q
       have q2:s.heap.get? b=some o:=by
        rwa [Heap.get?_push_ne _ _ _ hbT] at q'
       exact bs.extBut _ _ hb.1 (hk b o hb.1 hb.2 q2)
   · obtain ⟨f0, fr'⟩ := hf b hb
     exact ⟨by rw [qC (hT b hb)]; exact f0,fr'⟩
  refine ⟨.ref s.heap.objs.size,_,I2,rfl,⟨_,x,rfl,fr,rfl,fun zs hzs=>by rw [I.list_inj hzs hq1]; exact hx⟩,⟨⟨u1,?_⟩,a2.extBut bs.extBut (Ne.symm hei)⟩,fun b hb=>?_⟩
  · have hcast : ((i + 1 : Nat) : Int) = (i : Int) + 1 := by omega
    rw [hcast]
    exact b1
  · rw [qC (hT b hb)]
    exact (hf b hb).1
 done:=by
  intro X hP hw hK hc i pins s σ H E I hf st hg
  subst hP hw hK
  obtain ⟨xs,hq1,hx⟩:=hg
  obtain ⟨⟨old,he⟩,h1⟩:=st
  obtain ⟨its1,rv1,p1,hz1⟩:=I.list hq1
  have hl1:=rv1.length
  refine wpAny_pyNext_enum_end (I.ok.hd hc) he h1 p1.isList (by simp; omega) fun h' hk=>⟨rfl,?_⟩
  refine I.turnedS (t':=s.toks) (ch:=[e,it]) (fun b o hb q=>?_) hf
  simp only [List.mem_cons,List.not_mem_nil,or_false,not_or] at hb
  exact hk b o hb.2 q
 self:=fun _ _ _ _ _ st h=>by
  obtain ⟨⟨old,he⟩,_⟩:=st
  exact wpAny_pyIter_enum he h
section
variable {X:Cx}
def iEnu (K:PySem.W.Frag) (ta:TA):TI:=fun σ H R=>ta σ H fun vs H1=>∃ a xs,vs=[.ref a]/\SqL K H1 a xs/\R (Ite K a) H1
theorem pi_enum {es:List Expr} {x1} {tp:Pos} {a:Expr} {ta:TA} {p pos:Pos} (hg:Gl X "enumerate") (hm:X.mg "enumerate" = none) (ha:PA X [a] ta) (hs:starEach [a] X.env=[(false,eval a X.env)]:=by rfl) :
  PI X (.Tuple es x1 tp) (.Call (.Name "enumerate" p) [a] [] pos) (iEnu X.K ta):=by
 intro pins s σ H R I h
 refine Call_ (kB I hg hm (show bootBuiltins "enumerate" = some (.type "enumerate") by decide +kernel) (PyProof.Rows.callWith_type1 (thn (ha pos pins s σ H _ I h) fun us s1 ⟨vs,H1,I1,r1,q1⟩=>?_) hs rfl))
 obtain ⟨a,xs,e,hq1,q⟩:=q1
 subst e
 obtain ⟨u,rfl,ru⟩:=vals1 r1
 cases ru
 obtain ⟨its1,rv1,p1,hz1⟩:=I1.list hq1
 refine call_enumerate_list p1.isList fun h' he hi hsz hk=>?_
 refine wpAny_pyIter_enum he ?_
 refine ⟨_,[s1.heap.objs.size+1,s1.heap.objs.size],_,_,H1,rfl,I1.kept (t':=s1.toks) hk,turn_enum (s1.heap.objs.size+1) s1.heap.objs.size a (Nat.succ_ne_self _),⟨⟨_,he⟩,hi⟩,fun c hc=>?_,q⟩
 have hle:s1.heap.objs.size<=c:=by
  simp only [List.mem_cons,List.not_mem_nil,or_false] at hc
  rcases hc with rfl | rfl <;> omega
 exact I1.fpOk hle (I1.hok.fresh hle)
theorem small_back {i j:Int} (h:FL.okRB i j):Builtin.Range.small i j (-1)=true:=by
 obtain ⟨h1,h2,h3,h4⟩:=h
 have e61:(2:Int) ^ 61=2305843009213693952:=by decide
 have e62:(2:Int) ^ 62=4611686018427387904:=by decide
 have hs:0<=Builtin.Range.rangeSize i j (-1)/\Builtin.Range.rangeSize i j (-1)<=2 ^ 62:=by
  unfold Builtin.Range.rangeSize
  rw [if_neg (by decide)]
  split
  · simp; omega
  · omega
 unfold Builtin.Range.small
 simp only [Builtin.Range.rangeFitsLong,Bool.and_eq_true,Bool.or_eq_true,decide_eq_true_eq,beq_iff_eq,show ¬ ((-1:Int) > 0) by decide,if_false]
 omega
def iRngB (ta:TA):TI:=fun σ H R=>ta σ H fun vs H1=>∃ i j:Int,vs=[.int i,.int j,.int (-1)]/\FL.okRB i j/\R (Itr3 i (-1) (i - j).toNat) H1
theorem pi_rangeB {tg a b c:Expr} {ta:TA} {p pos:Pos} (hg:Gl X "range") (hm:X.mg "range" = none) (ha:PA X [a,b,c] ta) (hs:starEach [a,b,c] X.env=(false,eval a X.env)::starEach [b,c] X.env:=by rfl) (hs2:(backTo pos (starEach [b,c] X.env)).any (·.1)=false:=by rfl) :
  PI X tg (.Call (.Name "range" p) [a,b,c] [] pos) (iRngB ta):=by
 intro pins s σ H R I h
 refine Call_ (kB I hg hm boot_range (PyProof.Rows.callWith_type1 (thn (ha pos pins s σ H _ I h) fun us s1 ⟨vs,H1,I1,r1,q1⟩=>?_) hs hs2))
 obtain ⟨i,j,e,hk,q⟩:=q1
 subst e
 cases r1 with
 | cons r rr =>
   cases rr with
   | cons r' rr =>
     cases rr with
     | cons r'' rr =>
       cases rr
       obtain ⟨t,rfl⟩:=r
       obtain ⟨t',rfl⟩:=r'
       obtain ⟨t'',rfl⟩:=r''
       refine call_range_3 (by decide) ?_ (.inl (PyProof.noPylong_small (by decide)))
       refine wpAny_pyIter_range (IsRange.new ..) (small_back hk) ?_
       have I2:Inv X pins σ H1 { s1 with heap:=s1.heap.push { cls:=.type "range",data:=.fields #[.int i t,.int j t',.int (-1) t''] },toks:=s1.toks }:=I1.kept fun b o e=>Heap.get?_push_of_some _ e
       refine ⟨(s1.heap.push { cls:=.type "range",data:=.fields #[.int i t,.int j t',.int (-1) t''] }).objs.size,[(s1.heap.push { cls:=.type "range",data:=.fields #[.int i t,.int j t',.int (-1) t''] }).objs.size],_,_,H1,rfl,
        I2.kept (t':=s1.toks) fun b o e=>Heap.get?_push_of_some _ e,turn_range3 _ i (-1) (i - j).toNat,?_,fun b hb=>?_,q⟩
       · have e1 : i + ((0 : Nat) : Int) * (-1) = i := by simp
         have e2:(((i - j).toNat:Nat):Int) - ((0:Nat):Int)=Builtin.Range.rangeSize i j (-1):=by
          unfold Builtin.Range.rangeSize
          rw [if_neg (by decide)]
          split
          · simp; omega
          · simp; omega
         show IsRangeIter _ _ (i+((0:Nat):Int) * (-1)) ((((i - j).toNat:Nat):Int) - ((0:Nat):Int)) (-1)
         rw [e1,e2]
         exact Heap.get?_push_size _ rfl
       · have e : b = (s1.heap.push { cls := .type "range", data := .fields #[.int i t, .int j t', .int (-1) t''] }).objs.size := by simpa using hb
         subst e
         exact I2.fpOk (Nat.le_refl _) (I2.hok.fresh (Nat.le_refl _))
end
end L2
namespace FL
open PySem PySem.Spec PyProof.Rows L2
section
variable {X:Cx}
theorem wlk_enum {K:Frag} {a:Addr} {l:List D} : Wlk K (Ite K a) (.ref a,.lst l) (enumD l):=by
 intro H O ho r
 obtain ⟨b,xs,e,hs,rs⟩:=WRep.seqL (.inl r)
 cases e
 have hlen:=rs.length
 have hl:(enumD l).length=l.length:=by simp [enumD]
 refine ⟨fun i d hd=>?_,⟨xs,hs,by rw [hl,hlen]; exact Nat.le_refl _⟩⟩
 have hi:i < l.length:=by
  have:=(List.getElem?_eq_some_iff.mp hd).1
  rwa [hl] at this
 have hd':d = .tup [.int (i:Int),l[i]]:=by
  simp only [enumD,List.getElem?_mapIdx,List.getElem?_eq_getElem hi,Option.map_some] at hd
  exact (Option.some.inj hd).symm
 subst hd'
 obtain ⟨v,h1,h2⟩:=rs.get (List.getElem?_eq_getElem hi)
 refine ⟨⟨xs,v,hs,h1⟩,fun x H' y=>?_⟩
 obtain ⟨T,x',rfl,hT,rfl,f1⟩:=y
 have:=f1 xs hs
 rw [h1] at this; cases this
 have sm:Same H (upd H T (.tup [.int (i:Int),v])):=jR hT _
 exact ⟨sm,.tup (fun z=>by obtain ⟨ys,q⟩:=ho T z; rw [hT] at q; cases q) (.inl qS) (.cons (.int _) (.cons (h2.mono sm) .nil))⟩
theorem piv_enum {es:List Expr} {x1} {tp:Pos} {e:Expr} {p pos:Pos} {f:FE} (hm:X.mg "enumerate" = none) (h:PV X e f) (hg:Gl X "enumerate":=by rfl) (hs:starEach [e] X.env=[(false,eval e X.env)]:=by rfl):PIv X (.Tuple es x1 tp) (.Call (.Name "enumerate" p) [e] [] pos) (enuA f):=by
 obtain ⟨t,ht,hf⟩:=zE h zP hs
 refine ⟨_,pi_enum hg hm ht hs,fun H₀ H O σ ds hd items R o e q=>?_⟩
 unfold enuA at e
 cases h1:f ds with
 | none=>rw [h1] at e; cases e
 | some d =>
   rw [h1] at e
   simp only [Option.bind_some] at e
   cases d <;> first | (cases e; done) | skip
   rename_i l
   cases e
   refine hf H₀ H O σ ds hd [.lst l] _ o (by simp [zD,h1,zS]) fun vs H' s r=>?_
   cases r with
   | cons r1 rr =>
     cases rr
     obtain ⟨a,xs,rfl,hq,rs⟩:=WRep.seqL (.inl r1)
     exact ⟨a,xs,rfl,hq,q _ (.ref a,.lst l) H' s r1 wlk_enum⟩
theorem piv_rangeB {tg a b c:Expr} {p pos:Pos} {fa fb fc:FE} (hm:X.mg "range" = none) (ha:PVw X a fa) (hb:PVw X b fb) (hc:PVw X c fc) (hg:Gl X "range":=by rfl)
  (hs:starEach [a,b,c] X.env=(false,eval a X.env)::starEach [b,c] X.env:=by rfl) (hs2:starEach [b,c] X.env=(false,eval b X.env)::starEach [c] X.env:=by rfl) (hs3:starEach [c] X.env=(false,eval c X.env)::starEach [] X.env:=by rfl) (hp:(backTo pos (starEach [b,c] X.env)).any (·.1)=false:=by rfl) :
  PIv X tg (.Call (.Name "range" p) [a,b,c] [] pos) (rngB fa fb fc):=by
 obtain ⟨t,ht,hf⟩:=jI ha (jI hb (jI hc yN hs3) hs2) hs
 refine ⟨_,pi_rangeB hg hm ht hs hp,fun H₀ H O σ ds hd items R o e q=>?_⟩
 unfold rngB at e
 cases h1:fa ds with
 | none=>rw [h1] at e; cases e
 | some dx =>
   cases h2:fb ds with
   | none=>rw [h1,h2] at e; cases e
   | some dy =>
     cases h3:fc ds with
     | none=>rw [h1,h2,h3] at e; cases e
     | some dz =>
       rw [h1,h2,h3] at e
       simp only [Option.bind_some] at e
       cases dx <;> first | (cases e; done) | skip
       cases dy <;> first | (cases e; done) | skip
       cases dz <;> first | (cases e; done) | skip
       simp only at e
       split at e
       · rename_i i j c hk
         cases e
         obtain ⟨rfl,hk⟩:=hk
         refine hf H₀ H O σ ds hd [.int i,.int j,.int (-1)] _ o (by simp [zD,h1,h2,h3,zS]) fun vs H' s r=>?_
         cases r with
         | cons r1 rr =>
           cases rr with
           | cons r2 rr =>
             cases rr with
             | cons r3 rr =>
               cases rr
               exact ⟨i,j,by rw [r1.int',r2.int',r3.int'],hk,q _ (.non,.non) H' s .non wlk_range3⟩
       · cases e
end
section
variable {X:Cx}
variable (X) in
def PVe (e:Expr) (f:FE):Prop:=∃ t,PE X e t/\∀ H₀ H O σ ds hd d Q,Ok X.K H₀ H O σ ds hd->f ds=some d->(∀ v H',Same H H'->Rep X.K H' (Old H₀) v d->Q v H')->t σ H Q
variable (X) in
def PAe (es:List Expr) (f:FA):Prop:=∃ t,PA X es t/\∀ H₀ H O σ ds hd l Q,Ok X.K H₀ H O σ ds hd->f ds=some l->(∀ vs H',Same H H'->Reps X.K H' (Old H₀) vs l->Q vs H')->t σ H Q
theorem PVd.e {e:Expr} {f:FE} (h:PVd X e f):PVe X e f:=by
 obtain ⟨t,ht,hf⟩:=h
 exact ⟨t,ht,fun H₀ H O σ ds hd d Q o e q=>hf H₀ H O σ ds hd d Q o e fun v H' s r=>q v H' s (r.less fun a z=>Old.mono o.same z)⟩
theorem PVf.d {e:Expr} {f:FA} (h:PVf X e f):PVd X e (mkL (flA f)):=by
 obtain ⟨t,ht,hf⟩:=h
 refine ⟨t,ht,fun H₀ H O σ ds hd d Q o e q=>?_⟩
 unfold mkL flA at e
 cases h1:f ds with
 | none=>rw [h1] at e; cases e
 | some l =>
   rw [h1] at e
   simp only [Option.bind_some] at e
   split at e
   · rename_i hfl
     cases e
     refine hf H₀ H O σ ds hd l _ o h1 fun a xs H' s hn he r=>q _ H' s ?_
     exact .lst (not_old hn) (.inl he) (Reps.flatten (fun b z=>Old.mono s z) hfl r)
   · cases e
theorem pve_own (i:Nat) {x:Str} {pos:Pos} (hN:X.N[i]? = some x:=by rfl) (hv:Vis X.env.scope x:=by first | exact Or.inl rfl | exact Or.inr (Or.inl rfl) | exact Or.inr (Or.inr rfl)) (hd:(x == ("__debug__" : Str))=false:=by decide)
  (hcd:(x == ("__classdict__" : Str))=false:=by decide):PVe X (.Name x pos) (getO i):=by
 refine ⟨_,xM hN hv hd hcd,fun H₀ H O σ ds hd d Q o e q=>?_⟩
 unfold getO at e
 cases hs:ds[i]? with
 | none=>rw [hs] at e; cases e
 | some s =>
   rw [hs] at e
   cases s with
   | own l =>
     simp only at e
     split at e
     · rename_i hfl
       cases e
       obtain ⟨a,xs,h1,h2,h3,h4⟩:=o.readO hs
       have h0:H₀ a=none:=o.fresh i l a hs h1
       exact ⟨_,h1,q _ H (Same.refl _) (.lst (not_old h0) (.inl h3) (Reps.flatten (fun b z=>Old.mono o.same z) hfl h4))⟩
     · cases e
   | no=>cases e
   | v d=>cases e
   | exc t=>cases e
   | fr l=>cases e
theorem pae_nil:PAe X [] zS:=⟨_,xK,fun _ H _ _ _ _ _ _ _ e q=>by cases e; exact q _ H (Same.refl _) .nil⟩
theorem xR {e:Expr} {es:List Expr} {f:FE} {g:FA} (ha:PVe X e f) (hr:PAe X es g) (hs:starEach (e::es) X.env=(false,eval e X.env)::starEach es X.env:=by rfl):PAe X (e::es) (zD f g):=by
 obtain ⟨t,ht,hf⟩:=ha
 obtain ⟨u,hu,hg⟩:=hr
 refine ⟨_,jZ ht hu hs,fun H₀ H O σ ds hd l Q o e q=>?_⟩
 unfold zD at e
 cases h:f ds with
 | none=>rw [h] at e; cases e
 | some x =>
   cases h2:g ds with
   | none=>rw [h,h2] at e; cases e
   | some r =>
     rw [h,h2] at e
     cases e
     refine hf H₀ H O σ ds hd x _ o h fun v H1 s1 r1=>?_
     refine hg H₀ H1 O σ ds hd r _ (o.mono s1) h2 fun vs H2 s2 r2=>?_
     exact q _ H2 (s1.trans s2) (.cons (r1.mono s2) r2)
theorem pve_tup {es:List Expr} {x1} {pos:Pos} {g:FA} (h:PAe X es g):PVe X (.Tuple es x1 pos) (mkT (qE g)):=by
 obtain ⟨t,ht,hf⟩:=h
 refine ⟨_,pe_tup ht,fun H₀ H O σ ds hd d Q o e q=>?_⟩
 unfold mkT qE at e
 cases h:g ds with
 | none=>rw [h] at e; cases e
 | some l' =>
   rw [h] at e
   simp only [Option.bind_some] at e
   split at e
   · rename_i hl
     cases e
     refine hf H₀ H O σ ds hd l' _ o h fun vs H1 s1 r1=>⟨by rw [r1.length]; exact hl,fun p hp=>?_⟩
     refine q _ _ (s1.trans (jR hp _)) ?_
     exact .tup (not_old ((o.same.trans s1).free hp)) (.inl qS) (r1.mono (jR hp _))
   · cases e
theorem psv_retE {e:Expr} {pos:Pos} {f:FE} (he:PVe X e f):PSv X (.Return (some e) pos) (retDG f):=by
 obtain ⟨t,ht,hg⟩:=he
 refine ⟨_,vV ht,fun H₀ H O σ ds hd out E o e h=>?_⟩
 unfold retDG at e
 cases h1:f ds with
 | none=>rw [h1] at e; cases e
 | some d =>
   rw [h1] at e
   cases e
   exact hg H₀ H O σ ds hd d _ o h1 fun v H' s r=>h _ _ (o.same.trans s) r True.intro
end
end FL
namespace L2
open PySem PySem.Spec PyProof.Rows
section
variable {X:Cx}
end
end L2
namespace FL
open PySem PySem.Spec PyProof.Rows L2
section
variable {X:Cx}
end
end FL
namespace L2
open PySem PySem.Spec PyProof.Rows
section
variable {prog:Program} {w:World} {A:Around} {E:Value->Shared->Prop} {s:Shared}
end
section
variable {X:Cx}
end
end L2
namespace FL
open PySem PySem.Spec PyProof.Rows L2
section
variable {X:Cx}
end
open PySem.W (tabIn CodeHd tabObj kla_eval kla_makeFunction kla_makeFunctionHit kla_obj kla_fn kla_callFunE kla_codeExpr FnAt callWith_F envX)
theorem codeAmong_app {pos:Pos} {a b:Nat} {c v:Value} : ∀ (l:List Value),TriplesOk l->codeAmong pos (l++[rawInt a,rawInt b,c])=some v->codeAmong pos l=some v \/ (v=c/\pos.line=a/\pos.col=b):=by
 intro l h
 fun_induction TriplesOk l with
 | case1 =>
   intro e
   simp only [List.nil_append,codeAmong,rawInt] at e
   split at e
   · rename_i hc
     cases e
     simp only [Bool.and_eq_true,beq_iff_eq] at hc
     exact .inr ⟨rfl,by omega,by omega⟩
   · cases e
 | case2 a' t b' u x rest ih =>
   intro e
   simp only [List.cons_append,codeAmong] at e ⊢
   split at e
   · rename_i hc
     rw [if_pos hc]; exact .inl e
   · rename_i hc
     rw [if_neg hc]; exact ih h e
 | case3 l h1 h2=>exact h.elim
theorem closL_mem {env:Env} : ∀ (l:List (Str×NameKind)) (cs:List (Str×Addr)),∀ p∈jG env l cs,p∈cs \/ (env.cells.lookup p.1=some p.2/\(p.1,NameKind.free)∈l)
 | [],_,_,h=>.inl h
 | (n, k) :: r, cs, p, h => by
   unfold jG at h
   rcases closL_mem r _ p h with h1 | h1
   · split at h1
     · rename_i hk
       cases hc:env.cells.lookup n with
       | none=>rw [hc] at h1; exact .inl h1
       | some c =>
         rw [hc] at h1
         rcases List.mem_cons.mp h1 with rfl | h1
         · refine .inr ⟨hc, ?_⟩
           rw [beq_iff_eq.mp hk]
           exact List.mem_cons_self
         · exact .inl h1
     · exact .inl h1
   · exact .inr ⟨h1.1,List.mem_cons_of_mem _ h1.2⟩
theorem freeR_cons (n:Str) (k:NameKind) (r:List (Str×NameKind)):freeR ((n,k)::r)=if k == NameKind.free then freeR r++[n] else freeR r:=by
 unfold freeR
 rw [List.filter_cons]
 by_cases hk:(k == NameKind.free)=true
 · simp [hk]
 · simp [hk]
theorem closL_names {env:Env} : ∀ (l:List (Str×NameKind)) (cs:List (Str×Addr)),(∀ y∈l,y.2=NameKind.free->∃ c,env.cells.lookup y.1=some c)->(jG env l cs).map (·.1)=freeR l++cs.map (·.1)
 | [],_,_=>rfl
 | (n, k) :: r, cs, h => by
   unfold jG
   rw [closL_names r _ fun y hy=>h y (List.mem_cons_of_mem _ hy),freeR_cons]
   by_cases hk:(k == NameKind.free)=true
   · obtain ⟨c, hc⟩ := h (n, k) List.mem_cons_self (beq_iff_eq.mp hk)
     have hc:env.cells.lookup n=some c:=hc
     rw [if_pos hk,if_pos hk,hc]
     simp
   · rw [if_neg hk,if_neg hk]
theorem nodup_snd:∀ {cl:List (Str×Addr)},(cl.map (·.1)).Nodup->(∀ p∈cl,∀ q∈cl,p.2=q.2->p.1=q.1)->(cl.map (·.2)).Nodup
 | [],_,_=>List.nodup_nil
 | p :: r, h, k => by
   rw [List.map_cons,List.nodup_cons] at h ⊢
   refine ⟨fun z=>?_,nodup_snd h.2 fun a ha b hb=>k a (List.mem_cons_of_mem _ ha) b (List.mem_cons_of_mem _ hb)⟩
   obtain ⟨q,hq,e⟩:=List.mem_map.mp z
   exact h.1 (List.mem_map.mpr ⟨q,hq,k q (List.mem_cons_of_mem _ hq) p List.mem_cons_self e⟩)
abbrev exT:HO:=.ext fun _=>True
section
variable {X:Cx}
theorem pe_lam {params:Arguments} {body:Expr} {scope:Scope} {pos:Pos} {x:Str} {c P:Addr} (hx:x∈makers) (ht:tabIn X.K x=some (c,P)) (hcode:X.env.code = .ref c) (hq:innerQ X.K x pos.line pos.col=X.env.qual++"<lambda>")
  (hdef:defaultsOf params X.env=([],[]):=by rfl) (hfree:∀ y∈scope.names,y.2=NameKind.free->(X.env.kindOf y.1=some .cell \/ X.env.kindOf y.1=some .free)) :
  PE X (.Lambda params body scope pos) (fun _ H Q=>∀ f H1,Same H H1->LamAt H1 jF f ⟨X.env.qual++"<lambda>",params,.expr body,scope⟩ (jG X.env scope.names [])->Q (.ref f) H1):=by
 intro pins s σ H Q I h
 refine kla_eval hdef ?_
 obtain ⟨⟨bm,ob,b1,b2,b3,b4,b5,b6⟩,tb⟩:=I.tabsH
 obtain ⟨C,hP⟩:=tb x c P hx ht
 obtain ⟨ps,hPo,tr,am⟩:=I.hok P _ hP
 have hcl:closureFor scope X.env=pure (jG X.env scope.names []):=xC fun y hy hk=>I.ok.has y.1 (hfree y hy hk)
 have hgs:s.heap.Ns mainGlobals X.mg:=I.mod.glob.keeps I.bk
 have hgP:mainGlobals≠P:=fun z=>by
  obtain ⟨o,es,ep,e,hd,_⟩:=hgs
  rw [z,hPo] at e; cases e; cases hd
 have hbP:bm≠P:=fun z=>by
  have e:=I.bk _ _ b3
  rw [z,hPo] at e; cases e; cases b4
 have hbG:bm≠mainGlobals:=fun z=>by
  obtain ⟨o,es,ep,e,hd,_⟩:=hgs
  have e2:=I.bk _ _ b3
  rw [z,e] at e2; cases e2; rw [hd] at b6; cases b6
 have hB:s.heap.BuiltinsAt X.mg P:=⟨bm,ob,b1,b2,hbG,hbP,I.bk _ _ b3,b4,b5,b6⟩
 cases hit:codeAmong pos ps.toList with
 | none =>
   refine kla_makeFunction (mg:=X.mg) hcl I.ok.glob hgs hcode (C.keeps I.bk) hPo tr hit hgP hB fun c' ctv h' tk hx' hge hlt hrec htb=>?_
   obtain ⟨c₂,oc,vs,tq,e2,hoc,hd,hv⟩:=hrec
   cases e2
   generalize hob:kla_obj "<lambda>" (X.env.qual++"<lambda>") params body scope (jG X.env scope.names []) ((X.mg "__name__").getD .none) c' ctv=of
   have hfr:of.isFreed=false:=by rw [<- hob]; rfl
   have nc:H c'=none:=I.hok.fresh hge
   have nf:H h'.objs.size=none:=I.hok.fresh (Nat.le_of_lt (Nat.lt_of_le_of_lt hge hlt))
   have ncf:c'≠h'.objs.size:=Nat.ne_of_lt hlt
   have kp:∀ b o,b≠P->s.heap.get? b=some o->(h'.push of).get? b=some o:=fun b o hb e=>Heap.get?_push_of_some _ (hx' b o hb e)
   have h1:∀ {b:Addr} {u:HO},H b=some u->upd (upd H c' (.frz oc exT)) h'.objs.size (.frz of exT) b=some u:=fun {b u} e=>by
    rw [qC (jS e nf),qC (jS e nc)]; exact e
   have hf1:upd (upd H c' (.frz oc exT)) h'.objs.size (.frz of exT) h'.objs.size=some (.frz of exT):=qS
   have hc1:upd (upd H c' (.frz oc exT)) h'.objs.size (.frz of exT) c'=some (.frz oc exT):=by rw [qC ncf,qS]
   have nP:∀ {b:Addr},H b=none->b≠P:=fun {b} n z=>by rw [z,hP] at n; cases n
   have U:Un X.fs [] H (upd (upd H c' (.frz oc exT)) h'.objs.size (.frz of exT)) s.heap (h'.push of):=by
    refine ⟨fun b o e n _ _=>kp b o (nP n) e,fun b o e n _ _=>⟨o.slots,kp b o (nP n) e⟩,fun b o e n _=>?_,fun b o e _=>?_,fun b xs e=>h1 e,fun b o u e=>h1 e,fun b q e=>h1 e⟩
    · have lt := Heap.lt_size e
      rw [qC (Nat.ne_of_lt (Nat.lt_trans (Nat.lt_of_lt_of_le lt hge) hlt)),qC (Nat.ne_of_lt (Nat.lt_of_lt_of_le lt hge))]
      exact n
    · by_cases hb : b = P
      · subst hb; exact ⟨_,Heap.get?_push_of_some _ htb⟩
      · exact ⟨o,kp b o hb e⟩
   have hok:L2.HOk X.prog X.w (upd (upd H c' (.frz oc exT)) h'.objs.size (.frz of exT)) (h'.push of):=fun b u e=>by
    by_cases hbf:b=h'.objs.size
    · subst hbf
      rw [hf1] at e; cases e
      exact ⟨Heap.get?_push_size _ hfr,trivial,⟨_,Heap.get?_push_size _ hfr⟩,fun _ _ _ _=>trivial⟩
    rw [qC hbf] at e
    by_cases hbc:b=c'
    · subst hbc
      rw [qS] at e; cases e
      exact ⟨Heap.get?_push_of_some _ hoc,trivial,⟨_,Heap.get?_push_of_some _ hoc⟩,fun _ _ _ _=>trivial⟩
    rw [qC hbc] at e
    by_cases hbP:b=P
    · subst hbP
      rw [hP] at e; cases e
      refine ⟨_,Heap.get?_push_of_some _ htb,?_,fun pos' v z=>?_⟩
      · rw [Array.toList_append]
        exact TriplesOk_snoc _ _ _ _ tr
      · rw [Array.toList_append] at z
        rcases codeAmong_app _ tr z with z | ⟨rfl,e1,e2⟩
        · obtain ⟨c3, o3, u3, vs3, t3, g1, g2, g3, g4⟩ := am pos' v z
          exact ⟨c3,o3,u3,vs3,t3,g1,h1 g2,g3,g4⟩
        · exact ⟨c',oc,exT,vs,tq,rfl,hc1,hd,by rw [e1,e2,hq]; exact hv⟩
    · refine (I.hok b u e).stay (fun c3 v3 hc3 r3 => kp c3 v3 ?_ r3) (fun c3 r3 => h1 r3) fun c3 xs3 r3 => h1 r3
      rcases hc3 with rfl | hc3
      · exact hbP
      · rintro rfl; rw [hP] at hc3; cases hc3
   refine ⟨.ref h'.objs.size,_,I.un (t':=tk) U hok,rfl,h _ _ (fun b u e=>h1 e) ?_⟩
   subst hob
   exact ⟨id,_,oc,_,_,_,c',vs,tq,hf1,rfl,rfl,rfl,rfl,rfl,rfl,rfl,rfl,rfl,rfl,rfl,rfl,id,hc1,hd,hv⟩
 | some cv =>
   obtain ⟨c',oc,uc,vs,tq,rfl,hc',hd,hv⟩:=am pos cv hit
   refine kla_makeFunctionHit (mg:=X.mg) hcl I.ok.glob hgs hcode (C.keeps I.bk) hPo tr hit hB fun ctv h' tk hk hsz=>?_
   generalize hob:({ cls:=.type "function",data:=.func (kla_fn "<lambda>" (X.env.qual++"<lambda>") params body scope (jG X.env scope.names []) ((X.mg "__name__").getD .none) (.ref c') ctv) } : Obj)=of
   have hfr:of.isFreed=false:=by rw [<- hob]; rfl
   have nf:H h'.objs.size=none:=I.hok.fresh hsz
   have h1:∀ {b:Addr} {u:HO},H b=some u->upd H h'.objs.size (.frz of exT) b=some u:=fun {b u} e=>by
    rw [qC (jS e nf)]; exact e
   refine ⟨.ref h'.objs.size,upd H h'.objs.size (.frz of exT),I.laid (t':=tk) (fun b u e=>Heap.get?_push_of_some _ (hk b u e)) hsz ?_,rfl,h _ _ (fun b u e=>h1 e) ?_⟩
   · exact ⟨Heap.get?_push_size _ hfr,trivial,⟨_,Heap.get?_push_size _ hfr⟩,fun _ _ _ _=>trivial⟩
   · subst hob
     exact ⟨id,_,oc,_,_,_,c',vs,tq,qS,rfl,rfl,rfl,rfl,rfl,rfl,rfl,rfl,rfl,rfl,rfl,rfl,id,h1 hc',hd,by rw [hq] at hv; exact hv⟩
end
def lend (h:Heap) (cs:List Addr) (H:Hp):Hp:=fun b=>if b∈cs then (h.get? b).map fun o=>.frz o exT else H b
def unlend (cs:List Addr) (H:Hp):Hp:=fun b=>if b∈cs then none else H b
theorem jM {cs:List Addr} {H:Hp} {b:Addr} (h:b ∉ cs):unlend cs H b=H b:=by unfold unlend; rw [if_neg h]
theorem unlend_in {cs:List Addr} {H:Hp} {b:Addr} (h:b∈cs):unlend cs H b=none:=by unfold unlend; rw [if_pos h]
theorem yO {h:Heap} {cs:List Addr} {H:Hp} {b:Addr} (hb:b ∉ cs):lend h cs H b=H b:=by unfold lend; rw [if_neg hb]
theorem kH {h:Heap} {cs:List Addr} {H:Hp} {b:Addr} {o:Obj} (hb:b∈cs) (e:h.get? b=some o):lend h cs H b=some (.frz o exT):=by unfold lend; rw [if_pos hb,e]; rfl
section
variable {X:Cx} {pins:List (Addr×Obj)} {σ : L2.St} {H H':Hp} {s s':Shared} {cs:List Addr}
theorem lend_ok (I:Inv X pins σ H s) (hcs:∀ c∈cs,∃ x,X.env.cells.lookup x=some c) (hfn:∀ x,X.fn x=true) :
  Env0 X.prog X.w X.K X.mg X.base X.A X.stack s (lend s.heap cs H)/\Same H (lend s.heap cs H)/\∀ c∈cs,H c=none/\∃ o v,s.heap.get? c=some o/\o.data = .cell v:=by
 have ci:∀ c∈cs,H c=none/\(∃ o v,s.heap.get? c=some o/\o.data = .cell v)/\X.s₀.heap.objs.size<=c/\c≠X.env.locals:=fun c hc=>by
  obtain ⟨x,hx⟩:=hcs c hc
  obtain ⟨v,o,ho,hd⟩:=I.cell x c hx
  exact ⟨(I.freeC x c hx).now (hfn x),⟨o,v,ho,hd⟩,I.ok.cab x c (hfn x) hx,I.cne x c hx⟩
 have nin:∀ {b:Addr} {u:HO},H b=some u->b ∉ cs:=fun {b u} e z=>by rw [(ci b z).1] at e; cases e
 have sm:Same H (lend s.heap cs H):=fun b u e=>by rw [yO (nin e)]; exact e
 refine ⟨⟨I.ok.frames,I.ok.mod,fun b o e=>?_,⟨Nat.le_trans I.ok.bsz.1 I.sz,I.tabsH.bm,fun x c P hx ht=>⟨(I.tabsH.tab x c P hx ht).1,sm _ _ (I.tabsH.tab x c P hx ht).2⟩⟩,I.stack,fun b hb=>?_,fun b u e=>?_,I.bare⟩,sm,fun c hc=>⟨(ci c hc).1,(ci c hc).2.1⟩⟩
 · obtain ⟨e1, e2⟩ := I.bs b o e
   refine ⟨e1,?_⟩
   rw [yO fun z=>?_]
   · exact e2
   · exact absurd (Nat.lt_of_lt_of_le (Heap.lt_size e) (Nat.le_trans I.ok.bsz.1 (ci b z).2.2.1)) (Nat.lt_irrefl _)
 · rw [yO fun z => ?_]
   · exact I.stkFree b hb
   · rcases List.mem_cons.mp (I.stkSub b hb) with e | e
     · exact (ci b z).2.2.2 e
     · obtain ⟨_, o, ho, _⟩ := I.ok.funs.mem e
       exact absurd (Nat.lt_of_lt_of_le (Heap.lt_size ho) (ci b z).2.2.1) (Nat.lt_irrefl _)
 · by_cases hb : b ∈ cs
   · obtain ⟨o, v, ho, _⟩ := (ci b hb).2.1
     rw [kH hb ho] at e
     cases e
     exact ⟨ho,trivial,⟨_,ho⟩,fun _ _ _ _=>trivial⟩
   · rw [yO hb] at e
     exact (I.hok b u e).stay (fun _ _ _ q=>q) (fun c q=>sm _ _ q) fun c xs q=>sm _ _ q
theorem lend_back {P:Program} {w:World} {fs:List Addr} (hc:∀ c∈cs,H c=none/\∃ o v,s.heap.get? c=some o/\o.data = .cell v) (un:Un fs [] (lend s.heap cs H) H' s.heap s'.heap) (hok:L2.HOk P w H' s'.heap) :
  Un fs [] H (unlend cs H') s.heap s'.heap/\L2.HOk P w (unlend cs H') s'.heap/\∀ c∈cs,∃ o v,H' c=some (.frz o exT)/\o.data = .cell v:=by
 have ci:∀ c∈cs,∃ o v,H' c=some (.frz o exT)/\s.heap.get? c=some o/\s'.heap.get? c=some o/\o.data = .cell v:=fun c h=>by
  obtain ⟨_,o,v,ho,hd⟩:=hc c h
  have e:=un.frzs c o exT (kH h ho)
  exact ⟨o,v,e,ho,(hok c _ e).1,hd⟩
 have nin:∀ {b:Addr} {u:HO},H b=some u->b ∉ cs:=fun {b u} e z=>by rw [(hc b z).1] at e; cases e
 have nin':∀ {b:Addr} {u:HO},H' b=some u->(∀ o v,u = .frz o exT->o.data≠.cell v)->b ∉ cs:=fun {b u} e k z=>by
  obtain ⟨o,v,e1,_,_,hd⟩:=ci b z
  rw [e] at e1; cases e1
  exact k o v rfl hd
 refine ⟨⟨fun b o e n hb hx=>?_,fun b o e n hb hx=>?_,fun b o e n hx=>?_,un.there,fun b xs e=>?_,fun b o u e=>?_,fun b q e=>?_⟩,fun b u e=>?_,fun c h=>let ⟨o,v,e,_,_,d⟩:=ci c h; ⟨o,v,e,d⟩⟩
 · by_cases hbc : b ∈ cs
   · obtain ⟨o', v, _, e1, e2, _⟩ := ci b hbc
     rw [e] at e1; cases e1; exact e2
   · exact un.keep b o e (by rw [yO hbc]; exact n) hb hx
 · by_cases hbc : b ∈ cs
   · obtain ⟨o', v, _, e1, e2, _⟩ := ci b hbc
     rw [e] at e1; cases e1; exact ⟨o.slots,e2⟩
   · exact un.slot b o e (by rw [yO hbc]; exact n) hb hx
 · by_cases hbc : b ∈ cs
   · exact unlend_in hbc
   · rw [jM hbc]; exact un.free b o e (by rw [yO hbc]; exact n) hx
 · rw [jM (nin e)]; exact un.tups b xs (by rw [yO (nin e)]; exact e)
 · rw [jM (nin e)]; exact un.frzs b o u (by rw [yO (nin e)]; exact e)
 · rw [jM (nin e)]; exact un.tbls b q (by rw [yO (nin e)]; exact e)
 · by_cases hbc : b ∈ cs
   · rw [unlend_in hbc] at e; cases e
   · rw [jM hbc] at e
     refine (hok b u e).stay (fun _ _ _ q=>q) (fun c q=>?_) fun c xs q=>?_
     · rw [jM (nin' q fun o v z=>by cases z)]; exact q
     · rw [jM (nin' q fun o v z => ?_)]; exact q
       obtain ⟨x,hx⟩:=xs
       have z:x = .frz o exT:=z
       subst z
       obtain ⟨ws,hw⟩:=hx
       rw [hw]; exact fun z=>by cases z
end
section
variable {K:Frag} {H:Hp} {O:Addr->Prop} {cs:List Addr}
theorem rd_unlend {a:Addr} {u:HO} (hc:∀ c∈cs,∃ o,H c=some (.frz o exT)) (h1:∀ o w,u≠.frz o w) (h2:∀ φ,u≠.ext φ) (h:Rd H a u):Rd (unlend cs H) a u:=by
 have na:a ∉ cs:=fun z=>by
  obtain ⟨o,e⟩:=hc a z
  rcases h with h | ⟨o',h⟩
  · rw [e] at h; cases h; exact h1 _ _ rfl
  · rw [e] at h; cases h; exact h2 _ rfl
 rcases h with h | ⟨o,h⟩
 · exact .inl (by rw [jM na]; exact h)
 · exact .inr ⟨o,by rw [jM na]; exact h⟩
theorem at_unlend {a:Addr} {u:HO} (hc:∀ c∈cs,∃ o,H c=some (.frz o exT)) (h1:∀ o w,u≠.frz o w) (h:H a=some u):unlend cs H a=some u:=by
 rw [jM fun z=>?_]; exact h
 obtain ⟨o,e⟩:=hc a z
 rw [e] at h; cases h; exact h1 _ _ rfl
mutual
theorem Rep.unlend (hc:∀ c∈cs,∃ o,H c=some (.frz o exT)):∀ {v:V} {d:D},noclo d=true->Rep K H O v d->Rep K (FL.unlend cs H) O v d
 | _,_,_,.non=>.non
 | _,_,_,.bl b=>.bl b
 | _,_,_,.int i=>.int i
 | _,_,_,.str x=>.str x
 | _,_,f,.tup n h r=>.tup n (rd_unlend hc (fun _ _ z=>by cases z) (fun _ z=>by cases z) h) (Reps.unlend hc (by simpa [noclo] using f) r)
 | _,_,f,.tupK h r=>.tupK h (Reps.unlend hc (by simpa [noclo] using f) r)
 | _,_,f,.lst n h r=>.lst n (rd_unlend hc (fun _ _ z=>by cases z) (fun _ z=>by cases z) h) (Reps.unlend hc (by simpa [noclo] using f) r)
 | _,_,f,.lstK h r=>.lstK h (Reps.unlend hc (by simpa [noclo] using f) r)
 | _,_,f,.dct n h e r=>.dct n (at_unlend hc (fun _ _ z=>by cases z) h) e (Reps.unlend hc (by simpa [noclo] using f) r)
 | _,_,f,.ins c n h e r=>.ins c n (at_unlend hc (fun _ _ z=>by cases z) h) e (Reps.unlend hc (by simpa [noclo] using f) r)
 | _,_,f,.clo _ _ _ _ _ _=>by simp [noclo] at f
 | _,_,f,.fnK _=>by simp [noclo] at f
theorem Reps.unlend (hc:∀ c∈cs,∃ o,H c=some (.frz o exT)):∀ {v:List V} {d:List D},noclos d=true->Reps K H O v d->Reps K (FL.unlend cs H) O v d
 | _,_,_,.nil=>.nil
 | _, _, f, .cons h t => by
   simp only [noclos,Bool.and_eq_true] at f
   exact .cons (Rep.unlend hc f.1 h) (Reps.unlend hc f.2 t)
end
end
def PAl (X:Cx) (es:List Expr) (g:FA) (t:LamT) (cl:List (Str×Addr)):Prop:=∃ tA,PA X es tA/\∀ H₀ H O σ ds hd l Q,Ok X.K H₀ H O σ ds hd->g ds=some l->(∀ vs f H1,Same H H1->Reps X.K H1 jF vs l->LamAt H1 jF f t cl->Q (vs++[.ref f]) H1)->tA σ H Q
section
variable {X:Cx}
theorem LamAt.mono {H H':Hp} {O:Addr->Prop} {f:Addr} {t:LamT} {cl:List (Str×Addr)} (k:Same H H') (h:LamAt H O f t cl):LamAt H' O f t cl:=h.keep (.of_same k)
theorem pal_one {params:Arguments} {body:Expr} {scope:Scope} {pos:Pos} {x:Str} {c P:Addr} (hx:x∈makers) (ht:tabIn X.K x=some (c,P)) (hcode:X.env.code = .ref c) (hq:innerQ X.K x pos.line pos.col=X.env.qual++"<lambda>")
  (hfree:∀ y∈scope.names,y.2=NameKind.free->(X.env.kindOf y.1=some .cell \/ X.env.kindOf y.1=some .free)) (hdef:defaultsOf params X.env=([],[]):=by rfl)
  (hs:starEach [.Lambda params body scope pos] X.env=(false,eval (.Lambda params body scope pos) X.env)::starEach [] X.env:=by rfl) :
  PAl X [.Lambda params body scope pos] zS ⟨X.env.qual++"<lambda>",params,.expr body,scope⟩ (jG X.env scope.names []) :=
 ⟨_,jZ (pe_lam hx ht hcode hq hdef hfree) xK hs,fun H₀ H O σ ds hd l Q o e q f H1 sm la=>by cases e; exact q [] f H1 sm .nil la⟩
theorem vB {e:Expr} {es:List Expr} {f:FE} {g:FA} {t:LamT} {cl:List (Str×Addr)} (h1:PVn X e f) (h2:PAl X es g t cl) (hs:starEach (e::es) X.env=(false,eval e X.env)::starEach es X.env:=by rfl):PAl X (e::es) (zD f g) t cl:=by
 obtain ⟨t1,p1,r1⟩:=h1
 obtain ⟨t2,p2,r2⟩:=h2
 refine ⟨_,jZ p1 p2 hs,fun H₀ H O σ ds hd l Q o e q=>?_⟩
 unfold zD at e
 cases ha:f ds with
 | none=>rw [ha] at e; cases e
 | some d =>
   cases hb:g ds with
   | none=>rw [ha,hb] at e; cases e
   | some l2 =>
     rw [ha,hb] at e
     cases e
     refine r1 H₀ H O σ ds hd d _ o ha fun v H1 s1 rv=>?_
     exact r2 H₀ H1 O σ ds hd l2 _ (o.mono s1) hb fun vs f H2 s2 rvs la=>q (v::vs) f H2 (s1.trans s2) (.cons (rv.mono s2) rvs) la
theorem clos_of {pins:List (Addr×Obj)} {σ : L2.St} {H H₀ : Hp} {s:Shared} {O:Addr->Prop} {ds:List Sl} {hd:Hold} {cs:List Addr} (I:Inv X pins σ H s) (o:Ok X.K H₀ H O σ ds hd) (sm:Same H (lend s.heap cs H)) :
  ∀ {cl:List (Str×Addr)} {is:List Nat} {caps:List D},(∀ p∈cl,X.env.cells.lookup p.1=some p.2/\X.env.kindOf p.1=some .cell/\p.2∈cs)->(is.map fun i=>X.N[i]?)=(cl.map (·.1)).map some->capsA is ds=some caps →
   ∃ xs,ClosOk (lend s.heap cs H) jF cl xs/\Reps X.K (lend s.heap cs H) jF xs caps
 | [],[],caps,_,_,e=>by cases e; exact ⟨[],.nil,.nil⟩
 | [],_::_,_,_,h,_=>by cases h
 | _::_,[],_,_,h,_=>by cases h
 | p :: cl, i :: is, caps, hcl, h, e => by
   simp only [List.map_cons,List.cons.injEq] at h
   unfold capsA at e
   cases h1:qY i ds with
   | none=>rw [h1] at e; cases e
   | some d =>
     cases h2:capsA is ds with
     | none=>rw [h1,h2] at e; cases e
     | some l =>
       rw [h1,h2] at e
       cases e
       obtain ⟨xs,k1,k2⟩:=clos_of I o sm (fun q hq=>hcl q (List.mem_cons_of_mem _ hq)) h.2 h2
       have hsl:ds[i]? = some (.v d):=by
        unfold qY at h1
        split at h1
        · rename_i d' hd'; cases h1; exact hd'
        · cases h1
       obtain ⟨v,hv,rv⟩:=o.read hsl
       obtain ⟨c1,c2,c3⟩:=hcl p List.mem_cons_self
       obtain ⟨m,hn,hl⟩:=I.loc
       obtain ⟨u,ru,lk⟩:=hl i p.1 v h.1 hv (.inr (.inl c2))
       have hcell:∃ oc,s.heap.get? p.2=some oc/\oc.data = .cell (some u):=by
        rcases lk with ⟨kl,_⟩ | ⟨_,c',ec,oc,hoc,hocd⟩
        · rw [c2] at kl; cases kl
        · rw [c1] at ec; cases ec; exact ⟨oc,hoc,hocd⟩
       obtain ⟨oc,hoc,hocd⟩:=hcell
       exact ⟨v::xs,.cons (n:=p.1) (c:=p.2) id (kH c3 hoc) hocd ru k1,.cons ((rv.less fun _ z=>z.elim).mono sm) k2⟩
theorem call_lam {k n:Nat} {f:Addr} {fd:FuncData} {ps:List Str} {F:List D->Option Ret} {x:Str} {p pos:Pos} {e:Expr} {es:List Expr} {g:FA} {m j:Nat} {is:List Nat} {t:LamT} {scope:Scope} {r:Ret} {ds:List Sl} {l caps:List D}
  (Fn:FnOk X.prog X.w X.K X.mg X.base CX0 k f fd ps (spF X.K n F)) (hr:Room k X.A) (hm:X.mg x=some (.ref f)) (hk:PySem.W.keepIn X.K (.ref f)=true) (hb:Binds X.K fd ps []) (ha:PAl X (e::es) g t (jG X.env scope.names []))
  (htx:textIn X.K m j=some t) (hsc:t.scope=scope) (hfn:∀ x,X.fn x=true) (hfree:∀ y∈scope.names,y.2=NameKind.free->X.env.kindOf y.1=some .cell) (hnd:(freeR scope.names).Nodup) (his:(is.map fun i=>X.N[i]?)=(freeR scope.names).map some)
  (hg:Gl X x) (hdb:(x == ("__debug__" : Str))=false) (he:starEach (e::es) X.env=(false,eval e X.env)::starEach es X.env) (hpl:(backTo pos (starEach es X.env)).any (·.1)=false)
  {pins:List (Addr×Obj)} {s:Shared} {σ : L2.St} {H H₀ : Hp} {O:Addr->Prop} {hd:Hold} {Q:VK} (I:Inv X pins σ H s) (o:Ok X.K H₀ H O σ ds hd) (hl:g ds=some l) (hcp:capsA is ds=some caps) (hn:l.length+1=n) (hF:F (l++[.clo m j caps])=some r) (hnc:ncR r=true)
  (q:∀ v H',Same H H'->RetOk X.K H H' v r->Q v H'):wpAny (model X.prog X.w) X.A (eval (.Call (.Name x p) (e::es) [] pos) X.env) (EP X pins σ Q) X.xe s:=by
 obtain ⟨tA,pA,rA⟩:=ha
 refine wpAny_Call_Name_kw (xZ I hg hm ?_ hdb)
 refine PySem.W.callWith_K (h₀:=X.base) I.ok.mod.kin hk (thn (pA pos pins s σ H (fun ws H1=>∃ vs f',ws=vs++[.ref f']/\Same H H1/\Reps X.K H1 jF vs l/\LamAt H1 jF f' t (jG X.env scope.names [])) I (rA H₀ H O σ ds hd l _ o hl fun vs f' H1 s1 r1 la=>⟨vs,f',rfl,s1,r1,la⟩)) fun us s1 ⟨ws,H1,I1,rw_,vs,f',hws,sm1,rvs,la⟩=>⟨I1.kIn,?_⟩) he hpl
 subst hws
 have hcell:∀ pr∈jG X.env scope.names [],X.env.cells.lookup pr.1=some pr.2/\X.env.kindOf pr.1=some .cell/\pr.2∈(jG X.env scope.names []).map (·.2):=fun pr hp=>by
  rcases closL_mem _ _ pr hp with z | z
  · cases z
  · exact ⟨z.1,hfree _ z.2 rfl,List.mem_map_of_mem hp⟩
 have hnm:(jG X.env scope.names []).map (·.1)=freeR scope.names:=by
  have:=closL_names (env:=X.env) scope.names [] fun y hy hk=>I1.ok.has y.1 (.inl (hfree y hy hk))
  simpa using this
 obtain ⟨e0,sm2,hc⟩:=lend_ok (cs:=(jG X.env scope.names []).map (·.2)) I1 (fun c hc=>by
  obtain ⟨pr,hp,rfl⟩:=List.mem_map.mp hc
  exact ⟨pr.1,(hcell pr hp).1⟩) hfn
 obtain ⟨xs,hcl,hxs⟩:=clos_of I1 (o.mono sm1) sm2 hcell (by rw [hnm]; exact his) hcp
 have hrep:Rep X.K (lend s1.heap ((jG X.env scope.names []).map (·.2)) H1) jF (.ref f') (.clo m j caps):=.clo htx (la.mono sm2) (by rw [hsc]; exact hnm) (nodup_snd (by rw [hnm]; exact hnd) fun a ha b hb e=>I1.ok.inj a.1 b.1 a.2 (hcell a ha).1 (by rw [e]; exact (hcell b hb).1)) hcl hxs
 have hrs:Reps X.K (lend s1.heap ((jG X.env scope.names []).map (·.2)) H1) jF (vs++[.ref f']) (l++[.clo m j caps]):=(rvs.mono sm2).append (.cons hrep .nil)
 have hln:(vs++[V.ref f']).length=n:=by rw [List.length_append,rvs.length]; exact hn
 have sp:spF X.K n F (vs++[.ref f']) (lend s1.heap ((jG X.env scope.names []).map (·.2)) H1) (fun v H'=>Same (lend s1.heap ((jG X.env scope.names []).map (·.2)) H1) H'/\RetOk X.K (lend s1.heap ((jG X.env scope.names []).map (·.2)) H1) H' v r) E0:=⟨hln,_,r,hrs,hF,fun v H' a b=>⟨a,b⟩⟩
 have hl2:us.length=ps.length:=by rw [<- rw_.length]; exact Fn.len _ _ _ _ sp
 have bd:=hb s1 us I1.kIn (by rw [List.append_nil]; exact hl2)
 rw [List.append_nil] at bd
 refine wpAny_call (codeAny_mono (Fn.run X.A X.stack s1 _ ⟨us,[]⟩ us _ _ E0 hr e0 bd rw_ sp) fun rr s' hq=>?_)
 cases rr with
 | error e=>exact hq.elim
 | ok fl =>
   cases fl with
   | next=>exact False.elim hq
   | brk=>exact False.elim hq
   | cont=>exact False.elim hq
   | ret u =>
     obtain ⟨v,H',os,bare,un,hok,rv,sm3,ro⟩:=hq
     obtain ⟨un',hok',hcf⟩:=lend_back hc un hok
     have hcf':∀ c∈(jG X.env scope.names []).map (·.2),∃ o,H' c=some (.frz o exT):=fun c h=>let ⟨o,_,e,_⟩:=hcf c h; ⟨o,e⟩
     have nin:∀ {b:Addr} {u:HO},H1 b=some u->b ∉ (jG X.env scope.names []).map (·.2):=fun {b u} e z=>by rw [(hc b z).1] at e; cases e
     have sm4:Same H1 (unlend ((jG X.env scope.names []).map (·.2)) H'):=fun b u e=>by rw [jM (nin e)]; exact sm3 _ _ (sm2 _ _ e)
     have hold:∀ a,Old H a->Old (lend s1.heap ((jG X.env scope.names []).map (·.2)) H1) a:=fun a z=>(z.mono sm1).mono sm2
     refine ⟨v,_,I1.call' (ch:=[]) os un' hok' bare (fun b z=>by cases z),rv,q v _ (sm1.trans sm4) ?_⟩
     cases r with
     | val d=>exact (Rep.less hold ro).unlend hcf' hnc
     | any d=>exact Rep.unlend hcf' hnc ro
     | fresh l' =>
       obtain ⟨a,ys,rfl,h1,h2,h3⟩:=ro
       have na:a ∉ (jG X.env scope.names []).map (·.2):=fun z=>by
        obtain ⟨_,ob,_,hob,_⟩:=hc a z
        rw [kH z hob] at h1; cases h1
       refine ⟨a,ys,rfl,sm1.free (by rw [yO na] at h1; exact h1),by rw [jM na]; exact h2,?_⟩
       exact Reps.unlend hcf' hnc (h3.less fun b z=>z.elim .inl fun z=>.inr (hold b z))
end
end FL
namespace FL
open PySem PySem.Spec PyProof.Rows L2
open PySem.W (tabIn CodeHd tabObj kla_callFunE kla_codeExpr FnAt callWith_F envX)
structure Mkr (K:Frag) (x:Str) (m:Nat) (st:Stmt) (f c P:Addr):Prop where
 mem:makers[m]? = some x
 tab:tabIn K x=some (c,P)
 tx:∀ n,textIn K m n=(lamsOf x (zJ st))[n]?
 inq:∀ l c,innerQ K x l c=x++".<locals>."++innerN (zJ st) l c
 cd:∀ oc od fd sl,K.lookup f=some ⟨oc,od,.func fd,sl⟩->fd.code = .ref c
theorem mkr_mk {K:Frag} {x qual:Str} {m:Nat} {st:Stmt} {f c P:Addr} {oc oc':Value} {od od' an:Option Addr} {sl sl':Array (Option Value)} {kV doc pm cdv ct:Value} {vs:Array Value} (hm:makers[m]? = some x) (a:PySem.W.nsIn K mainGlobals x=some (some (.ref f)))
  (l:K.lookup f=some ⟨oc,od,.func (PySem.W.fnOf x qual (qG st) (zJ st) (zC st) .none kV doc pm an cdv ct),sl⟩) (h3:cdv = .ref c) (h4:K.lookup c=some ⟨oc',od',.fields vs,sl'⟩) (h5:(vs[11]? : Option Value)=some (.ref P)):Mkr K x m st f c P:=by
 subst h3
 refine ⟨hm,by unfold tabIn; simp only [a,l,h4,h5],fun n=>by unfold textIn; simp only [hm,Option.bind_some,a,l],fun _ _=>by unfold innerQ; simp only [a,l],fun oc2 od2 fd2 sl2 e=>?_⟩
 rw [l] at e
 cases e
 rfl
theorem fun_okM {P:Program} {w:World} {K:Frag} {mg:Str->Option Value} {base:Heap} {x qual:Str} {st:Stmt} {f c Q:Addr} {fd:FuncData} {N ps:List Str} {k m:Nat} {F:List D->Option Ret} (Fn:Fun K x qual st f fd) (S:FnScope N ps (zC st)) (M:Mkr K x m st f c Q)
  {g:FS} (hbody:∀ (A:Around) (outer:List Env) (s:Shared) (H:Hp) (E:XK),Room k (A.deeper (envOfC qual (zC st) s.heap.objs.size f (.ref c)))->PSsv (cxOf CX0 P w K mg base N qual (zC st) f (.ref c) A outer s H E).nox (zJ st) g)
  (hg:∀ ds r,ds.length=ps.length->F ds=some r->Does g N.length ds r):FnOk P w K mg base CX0 (k+1) f fd ps (spF K ps.length F):=by
 obtain ⟨oc,od,kV,doc,pm,an,cdv,ct,osl,rfl,lk,hcd⟩:=Fn.ex
 obtain rfl:cdv = .ref c:=M.cd _ _ _ _ lk
 refine fn_of lk hcd S (fun vs H Q E h=>h.1) fun A outer s H vs Q E hr h=>?_
 obtain ⟨hl,ds,r,rv,e,q⟩:=h
 obtain ⟨t,ht,hf⟩:=hbody A outer s H E hr
 refine ⟨t,ht.nox,?_⟩
 have o:=wP (N:=N) rv
 rcases hg ds r (by rw [<- rv.length]; exact hl) e with e' | ⟨rfl,ds',e'⟩
 · exact hf H H jF _ _ [] _ _ o e' (fun v H' s r _=>q v H' s r)
 · exact hf H H jF _ _ [] _ _ o e' (fun σ H' O o'=>q .non H' o'.same .non)
def lamCk (sc esc:Scope) (is:List Nat) (N:List Str):Bool:=(sc.names.all fun y=>y.2 != NameKind.free || esc.names.lookup y.1 == some NameKind.cell) && decide (freeR sc.names).Nodup && decide ((is.map fun i=>N[i]?)=(freeR sc.names).map some)
section
variable {X:Cx}
theorem pal_lamM {params:Arguments} {body:Expr} {scope:Scope} {pos:Pos} {x:Str} {m:Nat} {st:Stmt} {f c P:Addr} {is:List Nat} (M:Mkr X.K x m st f c P) (ck:lamCk scope X.env.scope is X.N=true) (hcode:X.env.code = .ref c:=by rfl) (hqu:X.env.qual=x++".<locals>.":=by rfl)
  (hi:innerN (zJ st) pos.line pos.col = "<lambda>":=by rfl) (hdef:defaultsOf params X.env=([],[]):=by rfl) (hs:starEach [.Lambda params body scope pos] X.env=(false,eval (.Lambda params body scope pos) X.env)::starEach [] X.env:=by rfl) :
  PAl X [.Lambda params body scope pos] zS ⟨x++".<locals>."++"<lambda>",params,.expr body,scope⟩ (jG X.env scope.names []):=by
 rw [<- hqu]
 refine pal_one (List.mem_of_getElem? M.mem) M.tab hcode (by rw [M.inq,hi,hqu]) (fun y hy hk=>.inl ?_) hdef hs
 unfold lamCk at ck
 simp only [Bool.and_eq_true] at ck
 have:=List.all_eq_true.mp ck.1.1 y hy
 rw [hk] at this
 simp only [bne_self_eq_false,Bool.false_or,beq_iff_eq] at this
 exact this
section
variable {k j' n m j:Nat} {F:List D->Option Ret} {x y:Str} {p pos:Pos} {e:Expr} {es:List Expr} {g:FA} {is:List Nat} {t:LamT} {st:Stmt} {f c P:Addr}
theorem pv_callL (C:Cal X.prog X.w X.K X.mg X.base x k n F) (hr:Room j' X.A) (M:Mkr X.K y m st f c P) (ha:PAl X (e::es) g t (jG X.env t.scope.names [])) (htx:(lamsOf y (zJ st))[j]? = some t) (ck:lamCk t.scope X.env.scope is X.N=true) (hj:k<=j':=by decide) (hfn:∀ x,X.fn x=true:=by exact fun _=>rfl)
  (hg:Gl X x:=by rfl) (hdb:(x == ("__debug__" : Str))=false:=by decide) (he:starEach (e::es) X.env=(false,eval e X.env)::starEach es X.env:=by rfl) (hpl:(backTo pos (starEach es X.env)).any (·.1)=false:=by rfl) :
  PV X (.Call (.Name x p) (e::es) [] pos) (zX n (ncF F) (lamA m j is g)):=by
 obtain ⟨f',fd,ps,Fn,hb,hk,hm⟩:=C.ex
 refine ⟨fun σ H Q=>∀ pins s,Inv X pins σ H s->wpAny (model X.prog X.w) X.A (eval (.Call (.Name x p) (e::es) [] pos) X.env) (EP X pins σ Q) X.xe s,fun pins s σ H Q I h=>h pins s I,fun H₀ H O σ ds hd d Q o ee q pins s I=>?_⟩
 unfold zX lamA at ee
 unfold lamCk at ck
 simp only [Bool.and_eq_true,decide_eq_true_eq] at ck
 cases hl:g ds with
 | none=>rw [hl] at ee; cases ee
 | some l =>
   cases hc:capsA is ds with
   | none=>rw [hl,hc] at ee; cases ee
   | some caps =>
     rw [hl,hc] at ee
     simp only [Option.bind_some,Option.map_some] at ee
     split at ee
     · rename_i hn
       unfold ncF at ee
       cases hF:F (l++[.clo m j caps]) with
       | none=>rw [hF] at ee; cases ee
       | some r =>
         rw [hF] at ee
         simp only [Option.bind_some] at ee
         by_cases hnc:ncR r=true
         · rw [if_pos hnc] at ee
           refine call_lam Fn (hr.mono hj) hm hk hb ha ((M.tx j).trans htx) rfl hfn (fun y hy hk=>?_) ck.1.2 ck.2 hg hdb he hpl I o hl hc (by simpa using hn) hF hnc fun v H' s' ro=>q v H' s' (retV_ok ro ee fun a ha=>o.old ha)
           have:=List.all_eq_true.mp ck.1.1 y hy
           rw [hk] at this
           simp only [bne_self_eq_false,Bool.false_or,beq_iff_eq] at this
           exact this
         · rw [if_neg hnc] at ee; cases ee
     · cases ee
theorem pvf_callL (C:Cal X.prog X.w X.K X.mg X.base x k n F) (hr:Room j' X.A) (M:Mkr X.K y m st f c P) (ha:PAl X (e::es) g t (jG X.env t.scope.names [])) (htx:(lamsOf y (zJ st))[j]? = some t) (ck:lamCk t.scope X.env.scope is X.N=true) (hj:k<=j':=by decide) (hfn:∀ x,X.fn x=true:=by exact fun _=>rfl)
  (hg:Gl X x:=by rfl) (hdb:(x == ("__debug__" : Str))=false:=by decide) (he:starEach (e::es) X.env=(false,eval e X.env)::starEach es X.env:=by rfl) (hpl:(backTo pos (starEach es X.env)).any (·.1)=false:=by rfl) :
  PVf X (.Call (.Name x p) (e::es) [] pos) (wY n (ncF F) (lamA m j is g)):=by
 obtain ⟨f',fd,ps,Fn,hb,hk,hm⟩:=C.ex
 refine ⟨fun σ H Q=>∀ pins s,Inv X pins σ H s->wpAny (model X.prog X.w) X.A (eval (.Call (.Name x p) (e::es) [] pos) X.env) (EP X pins σ Q) X.xe s,fun pins s σ H Q I h=>h pins s I,fun H₀ H O σ ds hd d Q o ee q pins s I=>?_⟩
 unfold wY lamA at ee
 unfold lamCk at ck
 simp only [Bool.and_eq_true,decide_eq_true_eq] at ck
 cases hl:g ds with
 | none=>rw [hl] at ee; cases ee
 | some l =>
   cases hc:capsA is ds with
   | none=>rw [hl,hc] at ee; cases ee
   | some caps =>
     rw [hl,hc] at ee
     simp only [Option.bind_some,Option.map_some] at ee
     split at ee
     · rename_i hn
       unfold ncF at ee
       cases hF:F (l++[.clo m j caps]) with
       | none=>rw [hF] at ee; cases ee
       | some r =>
         rw [hF] at ee
         simp only [Option.bind_some] at ee
         by_cases hnc:ncR r=true
         · rw [if_pos hnc] at ee
           refine call_lam Fn (hr.mono hj) hm hk hb ha ((M.tx j).trans htx) rfl hfn (fun y hy hk=>?_) ck.1.2 ck.2 hg hdb he hpl I o hl hc (by simpa using hn) hF hnc fun v H' s' ro=>?_
           · have := List.all_eq_true.mp ck.1.1 y hy
             rw [hk] at this
             simp only [bne_self_eq_false,Bool.false_or,beq_iff_eq] at this
             exact this
           · obtain ⟨a, xs, rfl, h3, h4, h5⟩ := retF_ok ro ee fun a ha => o.old ha
             exact q a xs H' s' h3 h4 h5
         · rw [if_neg hnc] at ee; cases ee
     · cases ee
end
end
structure LamScope (ps:List Str) (sc:Scope):Prop where
 kind:sc.kind = .function
 co:sc.isCoroutine=false
 gen:sc.isGenerator=false
 nocell:∀ y∈sc.names,y.2≠NameKind.cell
 par:∀ x∈ps,sc.names.lookup x=some .local
 fre:∀ x∈freeR sc.names,sc.names.lookup x=some .free
 nd:(ps++freeR sc.names).Nodup
def lamSc (ps:List Str) (sc:Scope):Bool:=sc.kind == .function && !sc.isCoroutine && !sc.isGenerator && (sc.names.all fun y=>y.2 != NameKind.cell) && (ps.all fun x=>sc.names.lookup x == some .local) && ((freeR sc.names).all fun x=>sc.names.lookup x == some .free) && decide (ps++freeR sc.names).Nodup
theorem lam_scope {ps:List Str} {sc:Scope} (h:lamSc ps sc=true):LamScope ps sc:=by
 unfold lamSc at h
 simp only [Bool.and_eq_true,Bool.not_eq_true',beq_iff_eq,decide_eq_true_eq,List.all_eq_true,bne_iff_ne,ne_eq] at h
 exact ⟨h.1.1.1.1.1.1,h.1.1.1.1.1.2,h.1.1.1.1.2,h.1.1.1.2,h.1.1.2,h.1.2,h.2⟩
def lamCx (P:Program) (w:World) (K:Frag) (mg:Str->Option Value) (base:Heap) (ps:List Str) (t:LamT) (f:Addr) (cd:Value) (cl:List (Str×Addr)) (A:Around) (outer:List Env) (s:Shared) (H:Hp):Cx where
 prog:=P
 w:=w
 K:=K
 mg:=mg
 base:=base
 A:=A.deeper (envX t.qual t.scope s.heap.objs.size f cd cl)
 N:=ps++freeR t.scope.names
 s₀:=s
 H₀:=H
 env:=envX t.qual t.scope s.heap.objs.size f cd cl
 outer:=outer
 stack:=envX t.qual t.scope s.heap.objs.size f cd cl::outer
 ex:=[]
 fn:=fun _=>false
 calm:=true
 pn:=[]
 xe:=fun _ _=>False
theorem xS {α : Type} : ∀ {l:List (Str×α)} {x:Str} {a : α},(l.map (·.1)).Nodup->(x,a)∈l->l.lookup x=some a
 | [],_,_,_,h=>by cases h
 | (y, b) :: r, x, a, nd, h => by
   rw [List.map_cons,List.nodup_cons] at nd
   rw [List.lookup_cons]
   rcases List.mem_cons.mp h with e | e
   · cases e; simp
   · have : (x == y) = false := beq_eq_false_iff_ne.mpr fun z => nd.1 (by rw [<- z]; exact List.mem_map.mpr ⟨_, e, rfl⟩)
     rw [this]
     exact xS nd.2 e
theorem snd_inj:∀ {l:List (Str×Addr)} {x y:Str} {a:Addr},(l.map (·.2)).Nodup->(x,a)∈l->(y,a)∈l->x=y
 | [],_,_,_,_,h,_=>by cases h
 | p :: r, x, y, a, nd, h1, h2 => by
   rw [List.map_cons,List.nodup_cons] at nd
   rcases List.mem_cons.mp h1 with e1 | e1 <;> rcases List.mem_cons.mp h2 with e2 | e2
   · rw [<- e1] at e2; cases e2; rfl
   · exact (nd.1 (by rw [<- e1]; exact List.mem_map.mpr ⟨_,e2,rfl⟩)).elim
   · exact (nd.1 (by rw [<- e2]; exact List.mem_map.mpr ⟨_,e1,rfl⟩)).elim
   · exact snd_inj nd.2 e1 e2
theorem ClosOk.mem {H:Hp} {O:Addr->Prop} : ∀ {cl:List (Str×Addr)} {xs:List V},ClosOk H O cl xs->∀ {p:Str×Addr},p∈cl->∃ o u w,H p.2=some (.frz o u)/\o.data = .cell (some w)
 | _,_,.nil,_,h=>by cases h
 | _, _, .cons no h d r t, p, hp => by
   rcases List.mem_cons.mp hp with e | e
   · subst e; exact ⟨_,_,_,h,d⟩
   · exact t.mem e
theorem ClosOk.get {H:Hp} {O:Addr->Prop} : ∀ {cl:List (Str×Addr)} {xs:List V},ClosOk H O cl xs->∀ {i:Nat} {v:V},xs[i]? = some v->∃ p o u w,cl[i]? = some p/\H p.2=some (.frz o u)/\o.data = .cell (some w)/\RelV v w
 | _,_,.nil,_,_,h=>by cases h
 | _,_,.cons no h d r t,0,v,hv=>by cases hv; exact ⟨_,_,_,_,rfl,h,d,r⟩
 | _,_,.cons no h d r t,i+1,v,hv=>t.get hv
theorem ClosOk.length {H:Hp} {O:Addr->Prop} : ∀ {cl:List (Str×Addr)} {xs:List V},ClosOk H O cl xs->cl.length=xs.length
 | _,_,.nil=>rfl
 | _,_,.cons no h d r t=>by simp [t.length]
theorem mem_zip_rev {ps:List Str} {us:List Value} {i:Nat} {x:Str} {u:Value} (h1:ps[i]? = some x) (h2:us[i]? = some u):(x,u)∈(ps.zip us).reverse:=by
 rw [List.mem_reverse]
 refine List.mem_of_getElem? (i:=i) ?_
 rw [List.getElem?_zip_eq_some]
 exact ⟨h1,h2⟩
theorem map_zip_fst:∀ {ps:List Str} {us:List Value},us.length=ps.length->(ps.zip us).map (·.1)=ps
 | [],_,_=>by simp
 | p::ps,[],h=>by cases h
 | p :: ps, u :: us, h => by
   simp only [List.zip_cons_cons,List.map_cons,List.cons.injEq,true_and]
   exact map_zip_fst (by simpa using h)
theorem inv_lam {P:Program} {w:World} {K:Frag} {mg:Str->Option Value} {base:Heap} {ps:List Str} {t:LamT} {f:Addr} {cd:Value} {cl:List (Str×Addr)} {A:Around} {outer:List Env} {s:Shared} {H:Hp} {us:List Value} {vs xs:List V} {h₁ : Heap} {tk:Nat} {O:Addr->Prop}
  (S:LamScope ps t.scope) (hd:A.handled=none) (e0:Env0 P w K mg base A outer s H) (hl:us.length=ps.length) (r:Vals vs us) (hcl:cl.map (·.1)=freeR t.scope.names) (hnd:(cl.map (·.2)).Nodup) (hco:ClosOk H O cl xs)
  (hns:h₁.Ns s.heap.objs.size (fun x=>(ps.zip us).reverse.lookup x)) (hk:∀ b o,s.heap.get? b=some o->h₁.get? b=some o):Inv (lamCx P w K mg base ps t f cd cl A outer s H) [] ((vs++xs).map some) H { s with heap:=h₁,toks:=tk }:=by
 have ndN:(cl.map (·.1)).Nodup:=by rw [hcl]; exact (List.nodup_append.mp S.nd).2.1
 have ndP:ps.Nodup:=(List.nodup_append.mp S.nd).1
 have hvl:vs.length=ps.length:=by rw [r.length]; exact hl
 have cellAt:∀ y c,cl.lookup y=some c->∃ o u v,H c=some (.frz o u)/\o.data = .cell (some v)/\s.heap.get? c=some o:=fun y c h=>by
  obtain ⟨o,u,v,h1,h2⟩:=hco.mem (PySem.mem_of_lookup h)
  exact ⟨o,u,v,h1,h2,(e0.hok _ _ h1).1⟩
 have noA:∀ {b:Addr} {p:Prop},b∈([]:List Addr)->p:=fun z=>by cases z
 refine ⟨⟨e0.mod,S.kind,rfl,rfl,Nat.le_refl _,fun y z c h1 h2=>snd_inj hnd (PySem.mem_of_lookup h1) (PySem.mem_of_lookup h2),fun y hy=>?_,(fun y c hf=>by cases hf),fun _=>hd,Around.frames_deeper e0.frames,.inr ⟨rfl,rfl⟩,fun b z=>noA z,e0.bs,e0.bsz,fun b _ _ z=>noA z,fun b z=>noA z,e0.funs,e0.frf⟩,
  rfl,e0.bare,Un.kept hk,⟨_,hns,fun i y v h1 h2 h3=>?_⟩,fun y c h=>?_,e0.hok.fresh (Nat.le_refl _),fun y c h=>?_,fun p hp=>(by cases (show p∈([]:List (Addr×Obj)) from hp)),e0.hok.kept hk,?_⟩
 · have hy : t.scope.names.lookup y = some .cell \/ t.scope.names.lookup y = some .free := hy
   rcases hy with hy | hy
   · exact absurd rfl (S.nocell _ (PySem.mem_of_lookup hy))
   · have:y∈cl.map (·.1):=by
      rw [hcl]
      unfold freeR
      rw [List.mem_reverse]
      exact List.mem_map.mpr ⟨(y,.free),List.mem_filter.mpr ⟨PySem.mem_of_lookup hy,rfl⟩,rfl⟩
     obtain ⟨p,hp,rfl⟩:=List.mem_map.mp this
     exact ⟨p.2,xS ndN hp⟩
 · have h1 : (ps ++ freeR t.scope.names)[i]? = some y := h1
   rw [List.getElem?_map] at h2
   by_cases hi:i < ps.length
   · rw [List.getElem?_append_left hi] at h1
     rw [List.getElem?_append_left (by rw [hvl]; exact hi)] at h2
     cases hv:vs[i]? with
     | none=>rw [hv] at h2; cases h2
     | some v' =>
       rw [hv] at h2
       cases h2
       obtain ⟨u,hu,ru⟩:=r.get hv
       refine ⟨u,ru,.inl ⟨S.par y (List.mem_of_getElem? h1),?_⟩⟩
       refine xS ?_ (mem_zip_rev h1 hu)
       rw [List.map_reverse,map_zip_fst hl]
       exact List.pairwise_reverse.mpr (ndP.imp fun h=>Ne.symm h)
   · have hi' : ps.length <= i := Nat.le_of_not_lt hi
     rw [List.getElem?_append_right hi'] at h1
     rw [List.getElem?_append_right (by rw [hvl]; exact hi'),hvl] at h2
     cases hv:xs[i - ps.length]? with
     | none=>rw [hv] at h2; cases h2
     | some v' =>
       rw [hv] at h2
       cases h2
       obtain ⟨p,o,u,wv,g1,g2,g3,g4⟩:=hco.get hv
       have hy:p.1=y:=by
        have:(cl.map (·.1))[i - ps.length]? = some p.1:=by rw [List.getElem?_map,g1]; rfl
        rw [hcl,h1] at this
        exact (Option.some.inj this).symm
       subst hy
       refine ⟨wv,g4,.inr ⟨.inr (S.fre _ (List.mem_of_getElem? h1)),p.2,xS ndN (List.mem_of_getElem? g1),o,hk _ _ (e0.hok _ _ g2).1,g3⟩⟩
 · obtain ⟨o, u, v, h1, h2, h3⟩ := cellAt y c h
   exact ⟨_,o,hk _ _ h3,h2⟩
 · obtain ⟨o, u, v, h1, h2, h3⟩ := cellAt y c h
   exact .inr ⟨rfl,o,u,h1⟩
 · show ((vs ++ xs).map some).length = (ps ++ freeR t.scope.names).length
   rw [List.length_map,List.length_append,List.length_append,hvl,<- hcl,List.length_map,hco.length]
theorem ok_vals {K:Frag} {H:Hp} {vs:List V} {ds:List D} (r:Reps K H jF vs ds):Ok K H H jF (vs.map some) (ds.map Sl.v) []:=by
 have no:∀ i,IsOwn (ds.map Sl.v) i->False:=fun i ⟨l,e⟩=>by
  rw [List.getElem?_map] at e
  cases h:ds[i]? with
  | none=>rw [h] at e; cases e
  | some d=>rw [h] at e; cases e
 refine ⟨Same.refl _,fun i l a e _=>(no i ⟨l,e⟩).elim,fun _ z=>z.elim,by simp [r.length],fun i s e=>?_,fun i j a _ hi _ _ _=>no i hi,fun p hp=>nomatch hp⟩
 rw [List.getElem?_map] at e
 cases h:ds[i]? with
 | none=>rw [h] at e; cases e
 | some d =>
   rw [h] at e
   cases e
   obtain ⟨v,h1,h2⟩:=r.get h
   rw [List.getElem?_map,h1]
   exact vF h2
theorem text_lt {K:Frag} {m n:Nat} {t:LamT} (h:textIn K m n=some t):m≠1000:=by
 rintro rfl
 have e:makers[1000]? = none:=by decide
 unfold textIn at h
 rw [e] at h
 cases h
def FnIn (K:Frag) (j:Nat):Prop:=∃ (f:Addr) (oc:Value) (od:Option Addr) (fd:FuncData) (osl:Array (Option Value)),PySem.W.nsIn K mainGlobals (fnName j)=some (some (.ref f))/\K.lookup f=some ⟨oc,od,.func fd,osl⟩
structure FnV (K:Frag) (mg:Str->Option Value) (j:Nat):Prop where
 ex:∃ f:Addr,PySem.W.nsIn K mainGlobals (fnName j)=some (some (.ref f))/\mg (fnName j)=some (.ref f)
theorem Rep.cloInv {K:Frag} {H:Hp} {O:Addr->Prop} {f:Addr} {m n:Nat} {ds:List D} (hm:m≠1000) (h:Rep K H O (.ref f) (.clo m n ds)):∃ t cl xs,textIn K m n=some t/\LamAt H O f t cl/\cl.map (·.1)=freeR t.scope.names/\(cl.map (·.2)).Nodup/\ClosOk H O cl xs/\Reps K H O xs ds:=by
 cases h with
 | clo tx la e nd hco rx=>exact ⟨_,_,_,tx,la,e,nd,hco,rx⟩
 | fnK h=>exact absurd rfl hm
def LamGood (P:Program) (w:World) (K:Frag) (mg:Str->Option Value) (base:Heap) (k m n:Nat) (F:List D->List D->Option Ret):Prop:=∀ (A:Around) (outer:List Env) (s:Shared) (H:Hp) (f:Addr) (caps:List D) (us:List Value) (vs:List V) (as:List D) (r:Ret) (Q:VK),Room k A->Env0 P w K mg base A outer s H →
 Rep K H jF (.ref f) (.clo m n caps)->Vals vs us->Reps K H jF vs as->F caps as=some r->(∀ v H',Same H H'->RetOk K H H' v r->Q v H')->codeAny (model P w) A (.call (.ref f) ⟨us,[]⟩) (CR CX0 outer P w H s Q E0) s
theorem lam_good {P:Program} {w:World} {K:Frag} {mg:Str->Option Value} {base:Heap} {k m n:Nat} {t:LamT} {ps:List Str} {body:Expr} {g:FE} (htx:textIn K m n=some t) (S:LamScope ps t.scope) (hbd:t.body = .expr body)
  (hbind:∀ fd:FuncData,fd.params=t.params->fd.defaults = .none->fd.kwdefaults = .none->∀ us:List Value,us.length=ps.length->bindArgs fd ⟨us,[]⟩=pure (ps.zip us))
  (hbody:∀ (f:Addr) (cd:Value) (cl:List (Str×Addr)) (A:Around) (outer:List Env) (s:Shared) (H:Hp),Room k (A.deeper (envX t.qual t.scope s.heap.objs.size f cd cl))->PVn (lamCx P w K mg base ps t f cd cl A outer s H) body g):LamGood P w K mg base (k+1) m n (lamF ps.length g):=by
 intro A outer s H f caps us vs as r Q hr e0 hrep rv ra hF q
 unfold lamF at hF
 split at hF
 · rename_i hal
   unfold lamR at hF
   cases hg:g ((as++caps).map Sl.v) with
   | none=>rw [hg] at hF; cases hF
   | some d =>
     rw [hg] at hF
     simp only [Option.bind_some] at hF
     split at hF
     · rename_i hfl
       cases hF
       · obtain ⟨t', cl, xs, tx, la, e, nd, hco, rx⟩ := hrep.cloInv (text_lt htx)
         rw [htx] at tx
         cases tx
         obtain ⟨_,o,oc,u,uc,fd,c,wsv,tq,h1,h2,h3,h4,h5,h6,h7,h8,h9,h10,h11,h12,h13,h14,h15,h16,h17⟩:=la
         have lim:s.heap.NoLimit:=e0.mod.nolimit.keeps fun b o e=>(e0.bs b o e).1
         have ho:=(e0.hok f _ h1).1
         have hoc:=(e0.hok c _ h15).1
         have hul:us.length=ps.length:=by rw [<- rv.length,ra.length]; exact hal
         refine kla_callFunE hr.depth ho h3 (by rw [h7]; exact S.co) (by rw [h7]; exact S.gen) (h6.trans hbd) ⟨c,oc,wsv,tq,h12,hoc,h16,by rw [h4]; exact h17⟩ ?_
         rw [hbind fd h5 h10 h11 us hul,h7,h8,h9,h4,h12,h13]
         refine wpAny_pure (wpAny_newFunctionEnv S.nocell (fun y hy=>S.par _ (List.of_mem_zip hy).1) (fun h₁ hns hsb=>⟨lim.fresh _ hsb,?_⟩) S.kind)
         show codeAny _ _ (.expr body (envX t.qual t.scope s.heap.objs.size f (.ref c) cl)) _ _
         have hk₁ : ∀ b o,s.heap.get? b=some o->h₁.get? b=some o:=fun b o e=>hsb.extBut b o (Nat.ne_of_lt (Heap.lt_size e)) (Heap.get?_push_of_some _ e)
         obtain ⟨tt,pt,rt⟩:=hbody f (.ref c) cl A outer s H (hr.deeper _)
         refine kla_codeExpr (wpAny_mono (pt [] _ _ H (fun v H'=>Same H H'/\Rep K H' jF v d) (inv_lam S hr.hd e0 hul rv e nd hco hns hk₁) (rt H H jF _ _ [] d _ (ok_vals (ra.append rx)) hg fun v H' sm rp=>⟨sm,rp⟩)) (fun uu s' ⟨v,H',J,ru,sm,rp⟩=>?_) fun e s' z=>z.elim)
         exact ⟨v,H',J.os,J.bare,J.base,J.hok,ru,q v H' sm (rp.flatten (fun a z=>z.mono sm) hfl)⟩
     · cases hF
 · cases hF
structure CloOk (P:Program) (w:World) (K:Frag) (mg:Str->Option Value) (base:Heap) (k:Nat) (Φ : Fun2):Prop where
 hold:∀ (H:Hp) (h:Heap) (v:V) (d:D) (as:List D) (r:Ret),Rep K H jF v d->Φ d as=some r->L2.HOk P w H h->K.In h->∃ f,v = .ref f/\FnAt f h
 run:∀ (A:Around) (outer:List Env) (s:Shared) (H:Hp) (f:Addr) (d:D) (us:List Value) (vs:List V) (as:List D) (r:Ret) (Q:VK),Room k A->Env0 P w K mg base A outer s H->Rep K H jF (.ref f) d->Vals vs us->Reps K H jF vs as->Φ d as=some r->(∀ v H',Same H H'->RetOk K H H' v r->Q v H') →
  codeAny (model P w) A (.call (.ref f) ⟨us,[]⟩) (CR CX0 outer P w H s Q E0) s
theorem vY {α β : Type} [BEq α] [LawfulBEq α]:∀ {l:List (α×β)} {x : α} {a : β},l.lookup x=some a->(x,a)∈l
 | [],_,_,h=>by cases h
 | (y, b) :: r, x, a, h => by
   rw [List.lookup_cons] at h
   cases hx:x == y with
   | true=>rw [hx] at h; cases h; rw [beq_iff_eq.mp hx]; exact List.mem_cons_self
   | false=>rw [hx] at h; exact List.mem_cons_of_mem _ (vY h)
structure CalV (P:Program) (w:World) (K:Frag) (mg:Str->Option Value) (base:Heap) (j k n:Nat) (F:List D->Option Ret):Prop where
 ex:∃ (f:Addr) (fd:FuncData) (ps:List Str) (oc:Value) (od:Option Addr) (osl:Array (Option Value)),FnOk P w K mg base CX0 k f fd ps (spF K n F)/\Binds K fd ps []/\PySem.W.nsIn K mainGlobals (fnName j)=some (some (.ref f))/\K.lookup f=some ⟨oc,od,.func fd,osl⟩
theorem CalV.fin {P:Program} {w:World} {K:Frag} {mg:Str->Option Value} {base:Heap} {j k n:Nat} {F:List D->Option Ret} (C:CalV P w K mg base j k n F):FnIn K j:=by
 obtain ⟨f,fd,ps,oc,od,osl,_,_,h1,h2⟩:=C.ex
 exact ⟨f,oc,od,fd,osl,h1,h2⟩
theorem fn_good {P:Program} {w:World} {K:Frag} {mg:Str->Option Value} {base:Heap} {j k n:Nat} {F:List D->Option Ret} (C:CalV P w K mg base j k n F):LamGood P w K mg base k 1000 j (fnF n F):=by
 intro A outer s H f caps us vs as r Q hr e0 hrep rv ra hF q
 obtain ⟨f',fd,ps,oc,od,osl,Fn,hb,h1,h2⟩:=C.ex
 unfold fnF at hF
 split at hF
 · rename_i hl
   cases hrep with
   | clo tx la e nd hco rx=>exact absurd rfl (text_lt tx)
   | fnK h =>
     rw [h1] at h
     cases h
     have KX:K.In s.heap:=e0.mod.kin.keeps fun b o e=>(e0.bs b o e).1
     have sp:spF K n F vs H Q E0:=⟨ra.length.trans hl,as,r,ra,hF,q⟩
     have hul:us.length=ps.length:=by rw [<- rv.length]; exact Fn.len _ _ _ _ sp
     have bd:=hb s us KX (by rw [List.append_nil]; exact hul)
     rw [List.append_nil] at bd
     exact Fn.run A outer s H ⟨us,[]⟩ us vs Q E0 hr e0 bd rv sp
 · cases hF
theorem clo_of {P:Program} {w:World} {K:Frag} {mg:Str->Option Value} {base:Heap} {k:Nat} {l:List ((Nat×Nat)×(List D->List D->Option Ret))} (h:∀ p∈l,LamGood P w K mg base k p.1.1 p.1.2 p.2) (hf:∀ p∈l,p.1.1=1000->FnIn K p.1.2):CloOk P w K mg base k (phiOf l):=by
 refine ⟨fun H hp v d as r rep e ok kin=>?_,fun A outer s H f d us vs as r Q hr e0 rep rv ra e q=>?_⟩
 · cases d with
   | clo m n caps =>
     cases rep with
     | clo tx la e nd hco rx =>
       obtain ⟨_,o,oc,u,uc,fd,c,wsv,tq,h1,h2,h3,_⟩:=la
       have ho:=(ok _ _ h1).1
       obtain ⟨a1,a2,a3,a4⟩:=o
       cases h3
       exact ⟨_,rfl,_,_,_,_,ho⟩
     | fnK hk =>
       have e:((l.lookup (1000,n)).bind fun F=>F [] as)=some r:=e
       cases hF:l.lookup (1000,n) with
       | none=>rw [hF] at e; cases e
       | some F =>
         obtain ⟨f',oc,od,fd,osl,h1,h2⟩:=hf _ (vY hF) rfl
         rw [h1] at hk
         cases hk
         exact ⟨_,rfl,_,_,_,_,kin _ _ h2⟩
   | _=>cases e
 · cases d with
   | clo m n caps =>
     have e:((l.lookup (m,n)).bind fun F=>F caps as)=some r:=e
     cases hF:l.lookup (m,n) with
     | none=>rw [hF] at e; cases e
     | some F =>
       rw [hF] at e
       exact h _ (vY hF) A outer s H f caps us vs as r Q hr e0 rep rv ra e q
   | _=>cases e
section
variable {X:Cx} {k j i:Nat} {Φ : Fun2} {x:Str} {p pos:Pos} {e:Expr} {es:List Expr} {g:FA}
theorem pv_fn {j:Nat} {pos:Pos} {x:Str} (V:FnV X.K X.mg j) (hx:fnName j=x:=by rfl) (hg:Gl X x:=by rfl) (hdb:(x == ("__debug__" : Str))=false:=by decide):PV X (.Name x pos) (zF (.clo 1000 j [])):=by
 obtain ⟨f,h1,h2⟩:=V.ex
 subst hx
 refine ⟨_,pe_glob (v:=.ref f) hg h2 rfl hdb,fun H₀ H O σ ds hd d Q o e q=>?_⟩
 cases e
 exact q _ H (Same.refl _) (.fnK h1)
theorem pv_callW (CO:CloOk X.prog X.w X.K X.mg X.base k Φ) (hr:Room j X.A) (ha:PAn X (e::es) g) (hj:k<=j:=by decide) (hN:X.N[i]? = some x:=by rfl) (hv:Vis X.env.scope x:=by first | exact Or.inl rfl | exact Or.inr (Or.inl rfl) | exact Or.inr (Or.inr rfl)) (hdb:(x == ("__debug__" : Str))=false:=by decide) (hcd:(x == ("__classdict__" : Str))=false:=by decide)
  (he:starEach (e::es) X.env=(false,eval e X.env)::starEach es X.env:=by rfl) (hpl:(backTo pos (starEach es X.env)).any (·.1)=false:=by rfl):PV X (.Call (.Name x p) (e::es) [] pos) (callW Φ i g):=by
 obtain ⟨t,ht,hf⟩:=ha
 refine ⟨fun σ H Q=>∀ pins s,Inv X pins σ H s->wpAny (model X.prog X.w) X.A (eval (.Call (.Name x p) (e::es) [] pos) X.env) (EP X pins σ Q) X.xe s,fun pins s σ H Q I h=>h pins s I,fun H₀ H O σ ds hd d Q o ee q pins s I=>?_⟩
 unfold callW at ee
 cases h1:qY i ds with
 | none=>rw [h1] at ee; cases ee
 | some fd =>
   cases h2:g ds with
   | none=>rw [h1,h2] at ee; cases ee
   | some l =>
     rw [h1,h2] at ee
     simp only [Option.bind_some] at ee
     cases h3 : Φ fd l with
     | none=>rw [h3] at ee; cases ee
     | some r =>
       rw [h3] at ee
       simp only [Option.bind_some] at ee
       have hsl:ds[i]? = some (.v fd):=by
        unfold qY at h1
        split at h1
        · rename_i d' hd'; cases h1; exact hd'
        · cases h1
       obtain ⟨v,hv1,rv⟩:=o.read hsl
       refine wpAny_Call_Name_kw (thn (xM hN hv hdb hcd pins s σ H (fun v' H'=>v'=v/\H'=H) I ⟨v,hv1,rfl,rfl⟩) fun u s1 ⟨v',H',I1,ru,e1,e2⟩=>?_)
       subst e1 e2
       have rv0:Rep X.K H' jF v' fd:=rv.less fun _ z=>z.elim
       obtain ⟨f,rfl,fa⟩:=CO.hold H' s1.heap v' fd l r rv0 h3 I1.hok I1.kIn
       obtain rfl:u=Value.ref f:=ru
       refine callWith_F fa (thn (ht pos pins s1 σ H' (fun vs H1=>Same H' H1/\Reps X.K H1 jF vs l) I1 (hf H₀ H' O σ ds hd l _ o h2 fun vs H1 a b=>⟨a,b⟩)) fun us s2 ⟨vs,H2,I2,r2,sm,rvs⟩=>?_) he hpl
       obtain ⟨f',e',fa2⟩:=CO.hold H2 s2.heap _ fd l r (rv0.mono sm) h3 I2.hok I2.kIn
       cases e'
       refine ⟨fa2,wpAny_call (codeAny_mono (CO.run X.A X.stack s2 H2 f fd us vs l r Q (hr.mono hj) I2.env0 (rv0.mono sm) r2 rvs h3 fun v H3 a b=>q v H3 (sm.trans a) (retV_ok b ee fun a ha=>(o.mono sm).old ha)) fun rr s' hq=>?_)⟩
       cases rr with
       | error e=>exact hq.elim
       | ok fl =>
         cases fl with
         | ret u=>exact I2.after hq
         | next=>exact False.elim hq
         | brk=>exact False.elim hq
         | cont=>exact False.elim hq
end
def exS:Expr->List Expr
 | .Call _ as _ _=>as
 | .Compare l _ cs _=>l::cs
 | .BoolOp _ vs _=>vs
 | .UnaryOp _ o _=>[o]
 | .BinOp l _ r _=>[l,r]
 | .IfExp t b o _=>[t,b,o]
 | .List es _=>es
 | .Tuple es _ _=>es
 | .Subscript v i _=>[v,i]
 | _=>[]
def exA (i:Nat) (e:Expr):Expr:=(exS e).getD i (.Name "" ⟨0,0,0,0⟩)
def stE:Stmt->Expr
 | .Assign _ e _=>e
 | .Return (some e) _=>e
 | .Expr e _=>e
 | .If t _ _ _=>t
 | _=>.Name "" ⟨0,0,0,0⟩
def stN (i:Nat) (l:List Stmt):Stmt:=l.getD i (.Pass ⟨0,0,0,0⟩)
def laBody:Expr->Expr
 | .Lambda _ b _ _=>b
 | _=>.Name "" ⟨0,0,0,0⟩
def laArgs:Expr->Arguments
 | .Lambda a _ _ _=>a
 | _=>{ posonlyargs:=[],args:=[],vararg:=none,kwonlyargs:=[],kw_defaults:=[],kwarg:=none,defaults:=[] }
def laScope:Expr->Scope
 | .Lambda _ _ s _=>s
 | _=>{ kind:=.function,names:=[],isGenerator:=false,isCoroutine:=false }
def laT (x:Str) (e:Expr):LamT:=⟨x++".<locals>."++"<lambda>",laArgs e,.expr (laBody e),laScope e⟩
end FL
namespace FL
open PySem PySem.Spec PyProof.Rows L2
section
variable {X:Cx}
end
open PySem.W (tabIn CodeHd tabObj makeFunction_K makeFunction_hit fnMade fnX nestDef_K kla_callFunE envX)
section
variable {X:Cx} {pins:List (Addr×Obj)} {σ : L2.St} {H:Hp} {s:Shared}
end
section
variable {X:Cx}
end
section
variable {X:Cx} {pins:List (Addr×Obj)} {σ : L2.St} {H:Hp} {s:Shared} {cs:List Addr}
end
section
variable {X:Cx}
end
theorem LamGood.mono {P:Program} {w:World} {K:Frag} {mg:Str->Option Value} {base:Heap} {j k m n:Nat} {F:List D->List D->Option Ret} (h:LamGood P w K mg base j m n F) (hj:j<=k):LamGood P w K mg base k m n F :=
 fun A outer s H f caps us vs as r Q hr=>h A outer s H f caps us vs as r Q (hr.mono hj)
end FL
namespace FL
open PySem PySem.Spec PyProof.Rows L2
theorem turn_long {P:Program} {w:World} {K:PySem.W.Frag} {tg:Expr} (it:Addr) (lo:Int) (n:Nat):Turn P w K tg (Itr lo n) [it] it (fun i h=>IsLongIter h it (lo+(i:Nat) * 1) ((n:Int) - (i:Nat)) 1) where
 mem:=by simp
 obj:=fun i h st b hb=>by
  have e:b=it:=by simpa using hb
  subst e
  exact ⟨_,st,fun v z=>by
   have z':Data.fields _=Data.cell v:=z
   cases z'⟩
 keep:=fun i h h' st k=>k it (by simp) _ st
 item:=by
  intro X hP hw hK hc i pins s σ H E I hf st hg
  subst hP hw hK
  obtain ⟨f0,f1,f2,f3,f4,f5⟩:=hf it (by simp)
  have W:=Walks.longrange (prog:=X.prog) (w:=X.w) (I.ok.hd hc) it lo 1 n
  refine W.item i s _ _ hg st fun v h' tk hv st' kk=>?_
  obtain ⟨t,rfl⟩:=hv
  have I1:Inv X pins σ H { s with heap:=h',toks:=tk }:=I.turned (fun b o hb e=>kk b o (by simpa using hb) e) f0 f1 f3 f4 f5
  refine ⟨_,rfl,go_of (s:={ s with heap:=h',toks:=tk }) (n:="longrange_iterator") st' rfl rfl (by decide) ⟨.int (lo+i),H,I1,⟨t,?_⟩,⟨rfl,rfl⟩,st',fun b hb=>(hf b hb).1⟩⟩
  rw [Int.mul_one]
 done:=by
  intro X hP hw hK hc i pins s σ H E I hf st hg
  subst hP hw hK
  obtain ⟨f0,f1,f2,f3,f4,f5⟩:=hf it (by simp)
  exact wpAny_pyNext_long_end (I.ok.hd hc) st (by have:n<=i:=hg; omega) fun h' eb=>⟨rfl,I.turned (t':=s.toks) (fun b o hb e=>eb b o hb e) f0 f1 f3 f4 f5⟩
 self:=fun _ _ _ _ _ st h=>wpAny_pyIter_longiter st h
section
variable {X:Cx} {tg:Expr}
theorem range_itL {pins:List (Addr×Obj)} {σ : L2.St} {H:Hp} {s:Shared} {R:It->Hp->Prop} {E:Value->Shared->Prop} {lo hi:Int} {t u v:Tok} {tk:Nat} (I:Inv X pins σ H s)
  (q:R (Itr lo (hi - lo).toNat) H):wpAny (model X.prog X.w) X.A (pyIter (.ref s.heap.objs.size)) (PIE X pins σ tg R) E { s with heap:=s.heap.push { cls:=.type "range",data:=.fields #[.int lo t,.int hi u,.int 1 v] },toks:=tk }:=by
 have I1:Inv X pins σ H { s with heap:=s.heap.push { cls:=.type "range",data:=.fields #[.int lo t,.int hi u,.int 1 v] },toks:=tk }:=I.kept fun b o e=>Heap.get?_push_of_some _ e
 have e1:lo+((0:Nat):Int) * 1=lo:=by simp
 have e2:(((hi - lo).toNat:Nat):Int) - ((0:Nat):Int)=Builtin.Range.rangeSize lo hi 1:=by rw [rangeSize_one]; split <;> omega
 cases hs:Builtin.Range.small lo hi 1 with
 | true =>
   refine wpAny_pyIter_range (IsRange.new ..) hs ?_
   refine ⟨(s.heap.push { cls:=.type "range",data:=.fields #[.int lo t,.int hi u,.int 1 v] }).objs.size,[(s.heap.push { cls:=.type "range",data:=.fields #[.int lo t,.int hi u,.int 1 v] }).objs.size],_,_,H,rfl,
    I1.kept (t':=tk) fun b o e=>Heap.get?_push_of_some _ e,turn_range _ lo (hi - lo).toNat,?_,fun b hb=>?_,q⟩
   · show IsRangeIter _ _ (lo + ((0 : Nat) : Int) * 1) ((((hi - lo).toNat : Nat) : Int) - ((0 : Nat) : Int)) 1
     rw [e1,e2]
     exact Heap.get?_push_size _ rfl
   · have e : b = (s.heap.push { cls := .type "range", data := .fields #[.int lo t, .int hi u, .int 1 v] }).objs.size := by simpa using hb
     subst e
     exact I1.fpOk (Nat.le_refl _) (I1.hok.fresh (Nat.le_refl _))
 | false =>
   refine wpAny_pyIter_longrange (IsRange.new ..) hs ?_
   refine ⟨(s.heap.push { cls:=.type "range",data:=.fields #[.int lo t,.int hi u,.int 1 v] }).objs.size,[(s.heap.push { cls:=.type "range",data:=.fields #[.int lo t,.int hi u,.int 1 v] }).objs.size],_,_,H,rfl,
    I1.kept (t':=tk) fun b o e=>Heap.get?_push_of_some _ e,turn_long _ lo (hi - lo).toNat,?_,fun b hb=>?_,q⟩
   · show IsLongIter _ _ (lo + ((0 : Nat) : Int) * 1) ((((hi - lo).toNat : Nat) : Int) - ((0 : Nat) : Int)) 1
     rw [e1,e2]
     exact Heap.get?_push_size _ rfl
   · have e : b = (s.heap.push { cls := .type "range", data := .fields #[.int lo t, .int hi u, .int 1 v] }).objs.size := by simpa using hb
     subst e
     exact I1.fpOk (Nat.le_refl _) (I1.hok.fresh (Nat.le_refl _))
def iRngL (ta:TA):TI:=fun σ H R=>ta σ H fun vs H1=>∃ i j:Int,vs=[.int i,.int j]/\R (Itr i (j - i).toNat) H1
theorem pi_rangeL {a b:Expr} {ta:TA} {p pos:Pos} (hg:Gl X "range") (hm:X.mg "range" = none) (ha:PA X [a,b] ta) (hs:starEach [a,b] X.env=[(false,eval a X.env),(false,eval b X.env)]:=by rfl) (hs2:starEach [b] X.env=[(false,eval b X.env)]:=by rfl) :
  PI X tg (.Call (.Name "range" p) [a,b] [] pos) (iRngL ta):=by
 intro pins s σ H R I h
 refine Call_ (kB I hg hm boot_range (PyProof.Rows.callWith_type1 (thn (ha pos pins s σ H _ I h) fun us s1 ⟨vs,H1,I1,r1,q1⟩=>?_) (by rw [hs,hs2]) (by rw [hs2]; rfl)))
 obtain ⟨i,j,e,q⟩:=q1
 subst e
 cases r1 with
 | cons r rr =>
   cases rr with
   | cons r' rr =>
     cases rr
     obtain ⟨t,rfl⟩:=r
     obtain ⟨t',rfl⟩:=r'
     exact call_range_2 (range_itL I1 q)
end
section
variable {X:Cx}
theorem piv_rangeL {tg a b:Expr} {p pos:Pos} {fa fb:FE} (hm:X.mg "range" = none) (ha:PVw X a fa) (hb:PVw X b fb) (hg:Gl X "range":=by rfl) (hs:starEach [a,b] X.env=[(false,eval a X.env),(false,eval b X.env)]:=by rfl) (hs2:starEach [b] X.env=[(false,eval b X.env)]:=by rfl) :
  PIv X tg (.Call (.Name "range" p) [a,b] [] pos) (rngL fa fb):=by
 obtain ⟨t,ht,hf⟩:=jI ha (jI hb yN (by rw [hs2]; rfl)) (by rw [hs,hs2])
 refine ⟨_,pi_rangeL hg hm ht hs hs2,fun H₀ H O σ ds hd items R o e q=>?_⟩
 unfold rngL at e
 cases h1:fa ds with
 | none=>rw [h1] at e; cases e
 | some dx =>
   cases h2:fb ds with
   | none=>rw [h1,h2] at e; cases e
   | some dy =>
     rw [h1,h2] at e
     simp only [Option.bind_some] at e
     cases dx <;> cases dy <;> first | (cases e; done) | skip
     rename_i i j
     cases e
     refine hf H₀ H O σ ds hd [.int i,.int j] _ o (by simp [zD,h1,h2,zS]) fun vs H' s r=>?_
     cases r with
     | cons r1 rr =>
       cases rr with
       | cons r2 rr =>
         cases rr
         exact ⟨i,j,by rw [r1.int',r2.int'],q _ (.non,.non) H' s .non wlk_range⟩
theorem qM {st:List Stmt} : PSsAny X st:=⟨fun _ _ _=>False,fun _ _ _ _ _ _ h=>h.elim⟩
end
open PySem.W (tabIn CodeHd)
section
variable {X:Cx}
theorem psv_try3 {st b₀ : Stmt} {suite:List Stmt} {sx en:Str} {hp hpos pos:Pos} {i t u v:Nat} {C C' C2 S:Addr} {g h:FS} {x y z:List Sl->Bool}
  (hN:X.N.Nodup) (hm:X.mg sx=some (.ref S)) (hS:XCatch X.K C S) (hS':XCatch X.K C' S) (hS2:XCatch X.K C2 S) (hC:PySem.W.nsIn X.K mainGlobals (xName t)=some (some (.ref C))) (hC':PySem.W.nsIn X.K mainGlobals (xName u)=some (some (.ref C'))) (hC2:PySem.W.nsIn X.K mainGlobals (xName v)=some (some (.ref C2)))
  (hg:∀ W,PSv (X.wish W) st g) (hx:∀ W,Throws (X.wish W) C st x) (hy:∀ W,Throws (X.wish W) C' st y) (hz:∀ W,Throws (X.wish W) C2 st z) (hs:∀ ea xe,PSsv (suiteCx X ea xe) (b₀::suite) h)
  (hi:X.N[i]? = some en:=by rfl) (hlo:X.env.kindOf en=some .local:=by rfl) (hst:X.stack=X.env::X.outer:=by rfl) (hfr:X.env.frame=some X.env.locals:=by rfl) (hex:X.ex=[]:=by rfl)
  (hgS:Gl X sx:=by rfl) (hdb:(sx == ("__debug__" : Str))=false:=by decide) :
  PSv X (.Try [st] [.ExceptHandler (some (.Name sx hp)) (some en) (b₀::suite) hpos] [] [] pos) (tryG3 i t u v g x y z h):=by
 refine ⟨fun D σ H=>∀ pins s,Inv X pins σ H s->wpAny (model X.prog X.w) X.A (exec (.Try [st] [.ExceptHandler (some (.Name sx hp)) (some en) (b₀::suite) hpos] [] [] pos) X.env) (SP X pins D) X.xe s,
  fun pins s σ H D I h=>h pins s I,fun H₀ H O σ ds hd out D o e af pins s I=>?_⟩
 refine wpAny_Try_except (wpAny_execs_cons ?_)
 show wpAny _ _ _ _ (tryE X pins D [.ExceptHandler (some (.Name sx hp)) (some en) (b₀::suite) hpos]) s
 unfold tryG3 at e
 have one:∀ {t':Nat} {C':Addr} {x':List Sl->Bool},XCatch X.K C' S->PySem.W.nsIn X.K mainGlobals (xName t')=some (some (.ref C'))->(∀ W,Throws (X.wish W) C' st x')->x' ds=true->(h (ds.set i (.exc t'))).map (goneO i)=some out →
   wpAny (model X.prog X.w) X.A (exec st X.env) (fun f s1=>wpAny (model X.prog X.w) X.A (execs [] X.env) (fun f s2=>SP X pins D f s2) (tryE X pins D [.ExceptHandler (some (.Name sx hp)) (some en) (b₀::suite) hpos]) s1/\False) (tryE X pins D [.ExceptHandler (some (.Name sx hp)) (some en) (b₀::suite) hpos]) s:=fun {t' C' x'} k1 k2 k3 k4 k5=>by
  cases hh:h (ds.set i (.exc t')) with
  | none=>rw [hh] at k5; cases k5
  | some out' =>
    rw [hh] at k5
    cases k5
    exact wpAny_mono (try_lands hN hm k1 k2 k3 hs hi hlo hst hfr hex hgS hdb I o k4 hh af) (fun _ _ z=>z.elim) (fun _ _ z=>z)
 by_cases hxd:x ds=true
 · rw [if_pos hxd] at e
   exact wpAny_mono (one hS hC hx hxd e) (fun _ _ z=>z.2.elim) (fun _ _ z=>z)
 rw [if_neg hxd] at e
 by_cases hyd:y ds=true
 · rw [if_pos hyd] at e
   exact wpAny_mono (one hS' hC' hy hyd e) (fun _ _ z=>z.2.elim) (fun _ _ z=>z)
 rw [if_neg hyd] at e
 by_cases hzd:z ds=true
 · rw [if_pos hzd] at e
   exact wpAny_mono (one hS2 hC2 hz hzd e) (fun _ _ z=>z.2.elim) (fun _ _ z=>z)
 · rw [if_neg hzd] at e
   obtain ⟨t,ht,hf⟩:=hg (tryE X pins D [.ExceptHandler (some (.Name sx hp)) (some en) (b₀::suite) hpos])
   refine wpAny_mono (ht pins s σ H D (I.wish _) (hf H₀ H O σ ds hd out D o e af)) (fun f s1 q=>?_) (fun _ _ z=>z)
   have q':=q.unwish
   cases f with
   | next=>exact wpAny_execs_nil (wpAny_execs_nil q')
   | brk=>exact q'
   | cont=>exact q'
   | ret u=>exact q'
theorem pv_lam0 {params:Arguments} {body:Expr} {scope:Scope} {pos:Pos} {y:Str} {m j:Nat} {st:Stmt} {f c P:Addr} (M:Mkr X.K y m st f c P) (htx:(lamsOf y (zJ st))[j]? = some ⟨y++".<locals>."++"<lambda>",params,.expr body,scope⟩) (hno:(scope.names.all fun y=>y.2 != NameKind.free)=true)
  (hcode:X.env.code = .ref c:=by rfl) (hqu:X.env.qual=y++".<locals>.":=by rfl) (hi:innerN (zJ st) pos.line pos.col = "<lambda>":=by rfl) (hdef:defaultsOf params X.env=([],[]):=by rfl) :
  PV X (.Lambda params body scope pos) (zF (.clo m j [])):=by
 have nof:∀ z∈scope.names,z.2=NameKind.free->False:=fun z hz hk=>by
  have:=List.all_eq_true.mp hno z hz
  rw [hk] at this
  cases this
 have hcl:∀ l:List (Str×NameKind),(∀ z∈l,z.2=NameKind.free->False)->∀ cs,jG X.env l cs=cs:=fun l=>by
  induction l with
  | nil=>intro _ cs; rfl
  | cons z r ih =>
    intro h cs
    obtain ⟨n,k⟩:=z
    unfold jG
    rw [ih fun z hz=>h z (List.mem_cons_of_mem _ hz),if_neg]
    intro hk
    exact h (n,k) List.mem_cons_self (beq_iff_eq.mp hk)
 have hfr:freeR scope.names=[]:=by
  unfold freeR
  have:scope.names.filter (fun y=>y.2 == NameKind.free)=[]:=List.filter_eq_nil_iff.mpr fun z hz hk=>nof z hz (beq_iff_eq.mp hk)
  rw [this]
  rfl
 refine ⟨_,pe_lam (x:=y) (List.mem_of_getElem? M.mem) M.tab hcode (by rw [M.inq,hi,hqu]) hdef (fun z hz hk=>(nof z hz hk).elim),fun H₀ H O σ ds hd d Q o ee q=>?_⟩
 cases ee
 intro f' H1 sm la
 rw [hqu,hcl scope.names nof []] at la
 refine q _ H1 sm (.clo ((M.tx j).trans htx) (LamAt.of (fun a ob u e z=>?_) la) (by rw [hfr]; rfl) List.nodup_nil .nil .nil)
 obtain ⟨zs,ez⟩:=o.dom _ z
 rw [sm _ _ ez] at e
 cases e
end
section
variable {X:Cx} {E:XK} {C:Addr}
theorem psy_set {i:Nat} {x:Str} {e:Expr} {pos pos':Pos} {y:List Sl->Bool} (hN:X.N.Nodup) (h:PEy X E C e y) (hi:X.N[i]? = some x:=by rfl) (hx:Loc X.env.scope x:=by first | exact Or.inl rfl | exact Or.inr rfl) (hs:swapsWith e (some (.Name x pos')) pos.line X.env=pure false:=by rfl)
  (hf:X.fn x=true \/ X.env.scope.names.lookup x=some .local:=by first | exact .inl rfl | exact .inr rfl):PSy X E C (.Assign [.Name x pos'] e pos) y:=by
 obtain ⟨t,ht,hg⟩:=h
 exact ⟨_,ps_set hN hi hx ht hs hf,fun H₀ H O σ ds hd D o e _ p=>hg H₀ H O σ ds hd _ o e p⟩
theorem pey_ix {a b:Expr} {fb:FE} {pos:Pos} {y:List Sl->Bool} (ha:PEy X E C a y) (hb:PVw X b fb) (hs:PlainIx b:=by exact fun _ _=>rfl):PEy X E C (.Subscript a b pos) y:=by
 obtain ⟨ta,pa,ha⟩:=ha
 obtain ⟨tb,pb,hb⟩:=hb
 exact ⟨_,pe_ix ix_seq pa pb hs,fun H₀ H O σ ds hd Q o e p=>ha H₀ H O σ ds hd _ o e p⟩
end
theorem fun_okYM {P:Program} {w:World} {K:Frag} {mg:Str->Option Value} {base:Heap} {x qual:Str} {st:Stmt} {f c Q0 C:Addr} {fd:FuncData} {N ps:List Str} {k m:Nat} {R:List D->Bool} (Fn:Fun K x qual st f fd) (S:FnScope N ps (zC st)) (M:Mkr K x m st f c Q0)
  {g:List Sl->Bool} (hbody:∀ (A:Around) (outer:List Env) (s:Shared) (H:Hp) (E:XK),Room k (A.deeper (envOfC qual (zC st) s.heap.objs.size f (.ref c)))->PSsy (cxOf (CXM P w) P w K mg base N qual (zC st) f (.ref c) A outer s H E) E C (zJ st) g)
  (hg:∀ ds,ds.length=ps.length->R ds=true->g (args N.length ds)=true):FnOk P w K mg base (CXM P w) (k+1) f fd ps (spX K ps.length R C):=by
 obtain ⟨oc,od,kV,doc,pm,an,cdv,ct,osl,rfl,lk,hcd⟩:=Fn.ex
 obtain rfl:cdv = .ref c:=M.cd _ _ _ _ lk
 refine fn_of lk hcd S (fun vs H Q E h=>h.1) fun A outer s H vs Q E hr h=>?_
 obtain ⟨hl,ds,rv,e,q⟩:=h
 obtain ⟨t,ht,hf⟩:=hbody A outer s H E hr
 exact ⟨t,ht,hf H H jF _ _ [] _ (wP (N:=N) rv) (hg ds (by rw [<- rv.length]; exact hl) e) (fun σ' H' s'=>xe_raise (q H' s')) q⟩
section
variable {X:Cx} {k j:Nat} {n:Nat} {F:List D->Option Ret} {x:Str} {p pos:Pos} {e:Expr} {es:List Expr} {g:FA}
theorem pvd_callC (C:Cal X.prog X.w X.K X.mg X.base x k n F) (hr:Room j X.A) (ha:PAn X (e::es) g) (hj:k<=j:=by decide)
  (hg:Gl X x:=by rfl) (hdb:(x == ("__debug__" : Str))=false:=by decide) (he:starEach (e::es) X.env=(false,eval e X.env)::starEach es X.env:=by rfl) (hpl:(backTo pos (starEach es X.env)).any (·.1)=false:=by rfl) :
  PVd X (.Call (.Name x p) (e::es) [] pos) (zX n F g):=by
 obtain ⟨f,fd,ps,Fn,hb,hk,hm⟩:=C.ex
 obtain ⟨t,ht,hf⟩:=ha
 refine ⟨_,vD (CX:=CX0) (E:=E0) Fn (hr.mono hj) hg hm hk hb .nil pass0 ht hdb he hpl,fun H₀ H O σ ds hd d Q o e q=>?_⟩
 unfold zX at e
 cases h:g ds with
 | none=>rw [h] at e; cases e
 | some l =>
   rw [h] at e
   simp only [Option.bind_some] at e
   split at e
   · rename_i hln
     cases h2:F l with
     | none=>rw [h2] at e; cases e
     | some r =>
       rw [h2] at e
       simp only [Option.bind_some] at e
       refine hf H₀ H O σ ds hd l _ o h fun vs H1 s1 r1=>?_
       have hl:=r1.length
       refine ⟨by simp only [List.append_nil]; omega,l,r,by simpa using r1,h2,fun v H' s' ro=>q v H' (s1.trans s') ?_⟩
       exact retV_ok ro e fun a ha=>Old.mono s1 ha
   · cases e
end
end FL
namespace FL
open PySem PySem.Spec PyProof.Rows L2
def oi:Option Int->D
 | none=>.non
 | some i=>.int i
@[simp] theorem vJ:oi none = .non:=rfl
@[simp] theorem oi_some (i:Int):oi (some i) = .int i:=rfl
def andK (r:Option D):D->Option D:=fun d=>match d with | .bl true=>r | .bl false=>some (.bl false) | _=>none
def orK (r:Option D):D->Option D:=fun d=>match d with | .bl true=>some (.bl true) | .bl false=>r | _=>none
@[simp] theorem andK_bl (r:Option D) (b:Bool):andK r (.bl b)=if b=true then r else some (.bl false):=by cases b <;> rfl
@[simp] theorem orK_bl (r:Option D) (b:Bool):orK r (.bl b)=if b=true then some (.bl true) else r:=by cases b <;> rfl
@[simp] theorem ite_andD (b c:Bool):(if b=true then some (D.bl c) else some (D.bl false))=some (.bl (b && c)):=by cases b <;> rfl
@[simp] theorem ite_orD (b c:Bool):(if b=true then some (D.bl true) else some (D.bl c))=some (.bl (b || c)):=by cases b <;> rfl
@[simp] theorem ite_andB (b c:Bool):(if b=true then some c else some false)=some (b && c):=by cases b <;> rfl
@[simp] theorem ite_orB (b c:Bool):(if b=true then some true else some c)=some (b || c):=by cases b <;> rfl
@[simp] theorem ite_andD' (p:Prop) [Decidable p] (c:Bool):(if p then some (D.bl c) else some (D.bl false))=some (.bl (decide p && c)):=by by_cases h:p <;> simp [h]
@[simp] theorem ite_orD' (p:Prop) [Decidable p] (c:Bool):(if p then some (D.bl true) else some (D.bl c))=some (.bl (decide p || c)):=by by_cases h:p <;> simp [h]
@[simp] theorem ite_andB' (p:Prop) [Decidable p] (c:Bool):(if p then some c else some false)=some (decide p && c):=by by_cases h:p <;> simp [h]
@[simp] theorem ite_orB' (p:Prop) [Decidable p] (c:Bool):(if p then some true else some c)=some (decide p || c):=by by_cases h:p <;> simp [h]
@[simp] theorem szl:sizeLine=16777216:=sizeLine_eq
section
variable (ds:List Sl)
@[simp] theorem getV_eq (i:Nat):qY i ds=match ds[i]? with | some (.v d)=>some d | _=>none:=rfl
@[simp] theorem getW_eq (i:Nat):zL i ds=match ds[i]? with | some (.v d)=>some d | some (.own l)=>some (.lst l) | _=>none:=rfl
@[simp] theorem konst_eq (d:D):zF d ds=some d:=rfl
@[simp] theorem bin2_eq (op:D->D->Option D) (fa fb:FE):zN op fa fb ds=(fa ds).bind fun x=>(fb ds).bind fun y=>op x y:=rfl
@[simp] theorem un1_eq (op:D->Option D) (f:FE):un1 op f ds=(f ds).bind op:=rfl
@[simp] theorem callB_eq (F:List D->Option D) (g:FA):callB F g ds=(g ds).bind F:=rfl
@[simp] theorem callV_eq (n:Nat) (F:List D->Option Ret) (g:FA):zX n F g ds=(g ds).bind fun l=>if l.length=n then (F l).bind retV else none:=rfl
@[simp] theorem callF_eq (n:Nat) (F:List D->Option Ret) (g:FA):wY n F g ds=(g ds).bind fun l=>if l.length=n then (F l).bind retF else none:=rfl
@[simp] theorem retV_val (d:D):retV (.val d)=some d:=rfl
@[simp] theorem retV_fresh (l:List D):retV (.fresh l)=some (.lst l):=rfl
@[simp] theorem retF_val (d:D):retF (.val d)=none:=rfl
@[simp] theorem retF_fresh (l:List D):retF (.fresh l)=some l:=rfl
@[simp] theorem consA_eq (f:FE) (g:FA):zD f g ds=(f ds).bind fun x=>(g ds).map fun r=>x::r:=rfl
@[simp] theorem nilA_eq:zS ds=some []:=rfl
@[simp] theorem sized_eq (f:FA):qE f ds=(f ds).bind fun l=>if l.length<=sizeLine then some l else none:=rfl
@[simp] theorem mkL_eq (f:FA):mkL f ds=(f ds).map D.lst:=rfl
@[simp] theorem mkT_eq (f:FA):mkT f ds=(f ds).map D.tup:=rfl
@[simp] theorem testB_eq (f:FE):qA f ds=(f ds).bind isB:=rfl
@[simp] theorem testT_eq (f:FE):testT f ds=(f ds).bind truD:=rfl
@[simp] theorem isB_bl (b:Bool):isB (.bl b)=some b:=rfl
@[simp] theorem andT_eq (c d:FT):andT c d ds=(c ds).bind fun b=>if b=true then d ds else some false:=rfl
@[simp] theorem orT_eq (c d:FT):orT c d ds=(c ds).bind fun b=>if b=true then some true else d ds:=rfl
@[simp] theorem notT_eq (c:FT):notT c ds=(c ds).map not:=rfl
@[simp] theorem andV_eq (f g:FE):andV f g ds=(f ds).bind (andK (g ds)):=rfl
@[simp] theorem orV_eq (f g:FE):orV f g ds=(f ds).bind (orK (g ds)):=rfl
@[simp] theorem notV_eq (f:FE):notV f ds=(f ds).bind fun d=>match d with | .bl b=>some (.bl (!b)) | _=>none:=rfl
@[simp] theorem ifV_eq (c:FT) (f g:FE):ifV c f g ds=(c ds).bind fun b=>if b=true then f ds else g ds:=rfl
@[simp] theorem seqG_eq (f g:FS):qW f g ds=(f ds).bind fun o=>match o with | .nx ds'=>g ds' | o=>some o:=rfl
@[simp] theorem ifG_eq (c:FT) (f g:FS):ifG c f g ds=(c ds).bind fun b=>if b=true then f ds else g ds:=rfl
@[simp] theorem setG_eq (i:Nat) (f:FE):jT i f ds=(f ds).map fun d=>.nx (ds.set i (.v d)):=rfl
@[simp] theorem setOG_eq (i:Nat) (f:FA):setOG i f ds=(f ds).map fun l=>.nx (ds.set i (.own l)):=rfl
@[simp] theorem retG_eq (f:FE):retG f ds=(f ds).bind flatR:=rfl
@[simp] theorem retOG_eq (f:FA):retOG f ds=(f ds).bind flatF:=rfl
@[simp] theorem retXG_eq (i:Nat):retXG i ds=match ds[i]? with | some (.own l)=>flatF l | _=>none:=rfl
@[simp] theorem nextG_eq:qR ds=some (.nx ds):=rfl
@[simp] theorem appG_eq (i:Nat) (fe:FE):appG i fe ds=match ds[i]? with
 | some (.own l)=>(fe ds).bind fun d=>if l.length < sizeLine then some (.nx (ds.set i (.own (l++[d])))) else none
 | _=>none:=rfl
@[simp] theorem extG_eq (i:Nat) (fe:FA):extG i fe ds=match ds[i]? with
 | some (.own l)=>(fe ds).bind fun d=>if l.length+d.length<=sizeLine then some (.nx (ds.set i (.own (l++d)))) else none
 | _=>none:=rfl
@[simp] theorem putG_eq (i:Nat) (fk fe:FE):putG i fk fe ds=match ds[i]? with
 | some (.own l) => (fe ds).bind fun d => (fk ds).bind fun k => match k with
   | .int n=>(ixN l.length n).map fun j=>.nx (ds.set i (.own (l.set j d)))
   | _=>none
 | _=>none:=rfl
@[simp] theorem clrG_eq (i:Nat):clrG i ds=match ds[i]? with
 | some (.own l)=>some (.nx (ds.set i (.own [])))
 | _=>none:=rfl
@[simp] theorem asgG_eq (ga:D->List Sl->Option (List Sl)) (f:FE):asgG ga f ds=(f ds).bind fun d=>(ga d ds).map .nx:=rfl
@[simp] theorem relS_eq (i:Nat):relS i ds=match ds[i]? with | some (.own l)=>ds.set i (.v (.lst l)) | _=>ds:=rfl
@[simp] theorem viaA_eq (f:FE) (k:D->Option (List D)):viaA f k ds=(f ds).bind k:=rfl
@[simp] theorem asLT_lst (l:List D):asLT (.lst l)=some l:=rfl
@[simp] theorem asLT_tup (l:List D):asLT (.tup l)=some l:=rfl
@[simp] theorem catA_eq (fa fb:FE):catA fa fb ds=(fa ds).bind fun x=>(fb ds).bind fun y=>match x,y with
 | .lst a,.lst b=>if a.length+b.length<=sizeLine then some (a++b) else none
 | _,_=>none:=rfl
@[simp] theorem sliA_eq (f:FE) (lo hi:List Sl->Option (Option Int)):sliA f lo hi ds=(f ds).bind fun d=>(lo ds).bind fun a=>(hi ds).bind fun b=>match d with
 | .lst l=>some (cutD l a b)
 | _=>none:=rfl
@[simp] theorem lisA_eq (f:FE):lisA f ds=(f ds).bind asLT:=rfl
@[simp] theorem noP_eq:noP ds=some none:=rfl
@[simp] theorem soP_eq (f:FE):soP f ds=(f ds).bind fun d=>match d with | .int i=>some (some i) | _=>none:=rfl
@[simp] theorem forG_eq (fi:FA) (ga:D->List Sl->Option (List Sl)) (body:FS):forG fi ga body ds=(fi ds).bind fun items=>jK ga body items ds:=rfl
@[simp] theorem nameG_eq (i:Nat) (d:D):zV i d ds=some (ds.set i (.v d)):=rfl
@[simp] theorem tupG_eq (n:Nat) (h:List D->List Sl->Option (List Sl)) (l:List D):tupG n h (.tup l) ds=if l.length=n then h l ds else none:=rfl
@[simp] theorem tgCons_eq (g:D->List Sl->Option (List Sl)) (h:List D->List Sl->Option (List Sl)) (d:D) (r:List D):zO g h (d::r) ds=(g d ds).bind fun ds'=>h r ds':=rfl
@[simp] theorem tgNil_eq:tgNil [] ds=some ds:=rfl
@[simp] theorem isiG_eq (T:String) (f:FE):isiG T f ds=(f ds).bind (isiD T):=rfl
@[simp] theorem chain_eq (op op':D->D->Option D) (fa fb fc:FE):chain op op' fa fb fc ds=(fa ds).bind fun x=>(fb ds).bind fun y=>(op x y).bind fun z=>match z with
 | .bl true=>(fc ds).bind fun w=>op' y w
 | .bl false=>some (.bl false)
 | _=>none:=rfl
end
@[simp] theorem addD_int (i j:Int):xP (.int i) (.int j)=some (.int (i+j)):=rfl
@[simp] theorem subD_int (i j:Int):subD (.int i) (.int j)=some (.int (i - j)):=rfl
@[simp] theorem negD_int (i:Int):negD (.int i)=some (.int (-i)):=rfl
@[simp] theorem ltD_int (i j:Int):ltD (.int i) (.int j)=some (.bl (decide (i < j))):=rfl
@[simp] theorem leD_int (i j:Int):leD (.int i) (.int j)=some (.bl (decide (i<=j))):=rfl
@[simp] theorem gtD_int (i j:Int):gtD (.int i) (.int j)=some (.bl (decide (j < i))):=rfl
@[simp] theorem geD_int (i j:Int):geD (.int i) (.int j)=some (.bl (decide (j<=i))):=rfl
@[simp] theorem yT {j:Int} (i:Int) (h:0 < j):xV (.int i) (.int j)=some (.int (i % j)):=if_pos h
theorem divOk_small {j:Int} (h:0 < j) (h2:j < 1000000000):divOk j:=⟨h,by
 have h3:j.natAbs < 2 ^ 30:=by
  have:(2:Nat) ^ 30=1073741824:=by decide
  omega
 have h4:j.natAbs≠0:=by omega
 have:=(Nat.log2_lt h4).mpr h3
 omega⟩
@[simp] theorem wC {j:Int} (i:Int) (h:0 < j) (h2:j < 1000000000):jC (.int i) (.int j)=some (.int (i / j)):=if_pos (divOk_small h h2)
theorem jW {i j:Int} (h:IntMulOk i j):yF (.int i) (.int j)=some (.int (i * j)):=if_pos h
theorem powD_ok {i j:Int} (h:CPowB i j):powD (.int i) (.int j)=some (.int (i ^ j.toNat)):=if_pos h
theorem cpow_of {i j:Int} {n m:Nat} (h:i.natAbs < 2 ^ n) (h0:0<=j) (h1:j<=m) (h2:n * m<=134217728):CPowB i j:=by
 refine ⟨h0,?_⟩
 have hb:Builtin.Int.intBits i<=n:=intBits_le_iff.mpr h
 have h3:(Builtin.Int.intBits i:Int) * j<=(n:Int) * (m:Int):=Int.mul_le_mul (by omega) h1 h0 (by omega)
 have h4:((n * m:Nat):Int)<=134217728:=by omega
 have e:((n * m:Nat):Int)=(n:Int) * (m:Int):=Int.natCast_mul n m
 have e2:(2:Int) ^ 27=134217728:=by decide
 rw [e2]
 omega
@[simp] theorem pow10 {j:Int} (h0:0<=j) (h1:j<=1000):powD (.int 10) (.int j)=some (.int (10 ^ j.toNat)):=powD_ok (cpow_of (n:=4) (m:=1000) (by decide) h0 h1 (by decide))
@[simp] theorem mxD_int (i j:Int):mxD [.int i,.int j]=some (.int (max i j)):=by
 show some (D.int (if j > i then j else i))=_
 congr 2
 split <;> omega
@[simp] theorem mnD_int (i j:Int):mnD [.int i,.int j]=some (.int (min i j)):=by
 show some (D.int (if j < i then j else i))=_
 congr 2
 split <;> omega
@[simp] theorem lenD_lst (l:List D):lenD [.lst l]=some (.int l.length):=rfl
@[simp] theorem lenD_tup (l:List D):lenD [.tup l]=some (.int l.length):=rfl
@[simp] theorem isD_non:isD .non .non=some (.bl true):=rfl
@[simp] theorem isD_int (i:Int):isD (.int i) .non=some (.bl false):=rfl
@[simp] theorem isD_bl (i:Bool):isD (.bl i) .non=some (.bl false):=rfl
@[simp] theorem isD_tup (i:List D):isD (.tup i) .non=some (.bl false):=rfl
@[simp] theorem isD_lst (i:List D):isD (.lst i) .non=some (.bl false):=rfl
@[simp] theorem isD_oi (o:Option Int):isD (oi o) .non=some (.bl o.isNone):=by cases o <;> rfl
@[simp] theorem notD_non:notD .non .non=some (.bl false):=rfl
@[simp] theorem notD_int (i:Int):notD (.int i) .non=some (.bl true):=rfl
@[simp] theorem notD_bl (i:Bool):notD (.bl i) .non=some (.bl true):=rfl
@[simp] theorem notD_tup (i:List D):notD (.tup i) .non=some (.bl true):=rfl
@[simp] theorem notD_lst (i:List D):notD (.lst i) .non=some (.bl true):=rfl
@[simp] theorem notD_oi (o:Option Int):notD (oi o) .non=some (.bl o.isSome):=by cases o <;> rfl
@[simp] theorem truD_bl (b:Bool):truD (.bl b)=some b:=rfl
@[simp] theorem truD_non:truD .non=some false:=rfl
@[simp] theorem truD_lst (l:List D):truD (.lst l)=some (!l.isEmpty):=rfl
@[simp] theorem truD_tup (l:List D):truD (.tup l)=some (!l.isEmpty):=rfl
theorem ixN_pos {n:Nat} {i:Int} (h:0<=i) (h2:i < n):ixN n i=some i.toNat:=by
 unfold ixN
 rw [if_pos h,if_pos h2]
theorem wX (l:List D) {i:Int} (h:0<=i) (h2:i < l.length):ixD (.lst l) (.int i)=l[i.toNat]?:=by
 show atI l i=_
 unfold atI
 rw [ixN_pos h h2]
 rfl
theorem ixT_pos (l:List D) {i:Int} (h:0<=i) (h2:i < l.length):ixD (.tup l) (.int i)=l[i.toNat]?:=by
 show atI l i=_
 unfold atI
 rw [ixN_pos h h2]
 rfl
@[simp] theorem ixT0 (a:D) (l:List D):ixD (.tup (a::l)) (.int 0)=some a:=by
 rw [ixT_pos _ (by decide) (by rw [List.length_cons]; omega)]
 rfl
@[simp] theorem ixT1 (a b:D) (l:List D):ixD (.tup (a::b::l)) (.int 1)=some b:=by
 rw [ixT_pos _ (by decide) (by rw [List.length_cons,List.length_cons]; omega)]
 rfl
@[simp] theorem ixT2 (a b c:D) (l:List D):ixD (.tup (a::b::c::l)) (.int 2)=some c:=by
 rw [ixT_pos _ (by decide) (by rw [List.length_cons,List.length_cons,List.length_cons]; omega)]
 rfl
@[simp] theorem ixL0 (a:D) (l:List D):ixD (.lst (a::l)) (.int 0)=some a:=by
 rw [wX _ (by decide) (by rw [List.length_cons]; omega)]
 rfl
@[simp] theorem ixL1 (a b:D) (l:List D):ixD (.lst (a::b::l)) (.int 1)=some b:=by
 rw [wX _ (by decide) (by rw [List.length_cons,List.length_cons]; omega)]
 rfl
theorem ixL_last (l:List D) (a:D):ixD (.lst (l++[a])) (.int (-1))=some a:=by
 show atI (l++[a]) (-1)=_
 unfold atI ixN
 rw [if_neg (by decide),if_pos (by rw [List.length_append,List.length_singleton]; omega),List.length_append,List.length_singleton]
 have e:(-1+((l.length+1:Nat):Int)).toNat=l.length:=by omega
 rw [e]
 simp
@[simp] theorem flat_non:flat .non=true:=by simp [flat]
@[simp] theorem flat_bl (b:Bool):flat (.bl b)=true:=by simp [flat]
@[simp] theorem flat_int (i:Int):flat (.int i)=true:=by simp [flat]
@[simp] theorem flat_str (i:Str):flat (.str i)=true:=by simp [flat]
@[simp] theorem flat_tup (l:List D):flat (.tup l)=flats l:=by simp [flat]
@[simp] theorem flats_nil:flats []=true:=by simp [flats]
@[simp] theorem flats_cons (d:D) (l:List D):flats (d::l)=(flat d && flats l):=by simp [flats]
@[simp] theorem flat_oi (o:Option Int):flat (oi o)=true:=by cases o <;> simp
theorem yK {d:D} (h:flat d=true):flatR d=some (.rt (.val d)):=if_pos h
@[simp] theorem flatR_non:flatR .non=some (.rt (.val .non)):=yK (by simp)
@[simp] theorem flatR_bl (b:Bool):flatR (.bl b)=some (.rt (.val (.bl b))):=yK (by simp)
@[simp] theorem flatR_int (i:Int):flatR (.int i)=some (.rt (.val (.int i))):=yK (by simp)
@[simp] theorem flatR_str (i:Str):flatR (.str i)=some (.rt (.val (.str i))):=yK (by simp)
@[simp] theorem flatR_oi (o:Option Int):flatR (oi o)=some (.rt (.val (oi o))):=yK (by simp)
@[simp] theorem flatR_tup (l:List D) (h:flats l=true):flatR (.tup l)=some (.rt (.val (.tup l))):=yK (by simpa using h)
@[simp] theorem flatF_of (l:List D) (h:flats l=true):flatF l=some (.rt (.fresh l)):=if_pos h
@[simp] theorem shal_int (n:Nat) (i:Int):shal n (.int i)=true:=by simp [shal]
@[simp] theorem shal_non (n:Nat):shal n .non=true:=by simp [shal]
@[simp] theorem shal_bl (n:Nat) (b:Bool):shal n (.bl b)=true:=by simp [shal]
@[simp] theorem shal_oi (n:Nat) (o:Option Int):shal n (oi o)=true:=by cases o <;> simp
@[simp] theorem shal_tup (n:Nat) (l:List D):shal n (.tup l)=shals n l:=by simp [shal]
@[simp] theorem shal_lst (n:Nat) (l:List D):shal n (.lst l)=shals n l:=by simp [shal]
@[simp] theorem shals_nil (n:Nat):shals n []=true:=by cases n <;> simp [shals]
@[simp] theorem shals_cons (n:Nat) (d:D) (l:List D):shals (n+1) (d::l)=(shal n d && shals (n+1) l):=by simp [shals]
theorem shals_all {n:Nat} {l:List D} (h:∀ d∈l,shal n d=true):shals (n+1) l=true:=by
 induction l with
 | nil=>simp
 | cons d r ih =>
   rw [shals_cons,h d List.mem_cons_self,ih fun x hx=>h x (List.mem_cons_of_mem _ hx)]
   rfl
theorem eqD_ok {x y:D} (h:shal 40 x=true) (h2:shal 40 y=true):eqD x y=some (.bl (eqvD x y)):=if_pos ⟨h,h2⟩
theorem kA {x y:D} (h:shal 40 x=true) (h2:shal 40 y=true):neD x y=some (.bl (!eqvD x y)):=if_pos ⟨h,h2⟩
@[simp] theorem eqvD_int (i j:Int):eqvD (.int i) (.int j)=decide (i=j):=by
 show (i == j)=_
 rw [Bool.eq_iff_iff]; simp
@[simp] theorem eqvD_bl (i j:Bool):eqvD (.bl i) (.bl j)=decide (i=j):=by
 show (i == j)=_
 rw [Bool.eq_iff_iff]; simp
@[simp] theorem eqvD_non:eqvD .non .non=true:=rfl
@[simp] theorem eqvD_non_int (j:Int):eqvD .non (.int j)=false:=rfl
@[simp] theorem eqvD_int_non (j:Int):eqvD (.int j) .non=false:=rfl
@[simp] theorem eqvD_oi (o p:Option Int):eqvD (oi o) (oi p)=decide (o=p):=by cases o <;> cases p <;> simp
@[simp] theorem eqvD_tup (a b:List D):eqvD (.tup a) (.tup b)=eqvs a b:=by simp [eqvD,eqvs,toPy,PyData.eqv]
@[simp] theorem eqvD_lst (a b:List D):eqvD (.lst a) (.lst b)=eqvs a b:=by simp [eqvD,eqvs,toPy,PyData.eqv]
@[simp] theorem eqvs_nil:eqvs [] []=true:=by simp [eqvs,toPys,PyData.eqvAll]
@[simp] theorem eqvs_cons (x y:D) (a b:List D):eqvs (x::a) (y::b)=(eqvD x y && eqvs a b):=by simp [eqvs,eqvD,toPys,PyData.eqvAll]
@[simp] theorem eqvs_nil_cons (y:D) (b:List D):eqvs [] (y::b)=false:=by simp [eqvs,toPys,PyData.eqvAll]
@[simp] theorem eqvs_cons_nil (y:D) (b:List D):eqvs (y::b) []=false:=by simp [eqvs,toPys,PyData.eqvAll]
@[simp] theorem eqD_int (i j:Int):eqD (.int i) (.int j)=some (.bl (decide (i=j))):=by rw [eqD_ok (by simp) (by simp)]; simp
@[simp] theorem neD_int (i j:Int):neD (.int i) (.int j)=some (.bl (!decide (i=j))):=by rw [kA (by simp) (by simp)]; simp
@[simp] theorem eqD_bl (i j:Bool):eqD (.bl i) (.bl j)=some (.bl (decide (i=j))):=by rw [eqD_ok (by simp) (by simp)]; simp
@[simp] theorem neD_bl (i j:Bool):neD (.bl i) (.bl j)=some (.bl (!decide (i=j))):=by rw [kA (by simp) (by simp)]; simp
@[simp] theorem eqD_oi (i j:Option Int):eqD (oi i) (oi j)=some (.bl (decide (i=j))):=by rw [eqD_ok (by simp) (by simp)]; simp
@[simp] theorem neD_oi (i j:Option Int):neD (oi i) (oi j)=some (.bl (!decide (i=j))):=by rw [kA (by simp) (by simp)]; simp
theorem cutD_from (l:List D) (k:Nat):cutD l (some (k:Int)) none=l.drop k:=by
 unfold cutD HT.sIx
 simp only [show ¬ ((k:Int) < 0) by omega,if_false,Int.toNat_natCast]
 rw [List.take_of_length_le (by rw [List.length_drop]; omega)]
 by_cases h:k<=l.length
 · rw [Nat.min_eq_left h]
 · rw [Nat.min_eq_right (by omega),List.drop_length,List.drop_of_length_le (by omega)]
theorem kits:kitF "int" "int" = some true/\kitF "NoneType" "int" = some false/\kitF "bool" "int" = some true/\kitF "tuple" "int" = some false/\kitF "list" "int" = some false/\kitF "str" "int" = some false ∧
  kitF "bool" "bool" = some true/\kitF "int" "bool" = some false/\kitF "NoneType" "bool" = some false/\kitF "tuple" "tuple" = some true/\kitF "list" "tuple" = some false/\kitF "NoneType" "tuple" = some false ∧
  kitF "list" "list" = some true/\kitF "tuple" "list" = some false/\kitF "NoneType" "list" = some false:=by
 refine ⟨?_,?_,?_,?_,?_,?_,?_,?_,?_,?_,?_,?_,?_,?_,?_⟩ <;> decide +kernel
@[simp] theorem isi_int_int (i:Int):isiD "int" (.int i)=some (.bl true):=by simp [isiD,tyD,kits.1]
@[simp] theorem isi_int_non:isiD "int" .non=some (.bl false):=by simp [isiD,tyD,kits.2.1]
@[simp] theorem isi_int_bl (b:Bool):isiD "int" (.bl b)=some (.bl true):=by simp [isiD,tyD,kits.2.2.1]
@[simp] theorem isi_bool_bl (b:Bool):isiD "bool" (.bl b)=some (.bl true):=by simp [isiD,tyD,kits.2.2.2.2.2.2.1]
@[simp] theorem isi_bool_int (i:Int):isiD "bool" (.int i)=some (.bl false):=by simp [isiD,tyD,kits.2.2.2.2.2.2.2.1]
@[simp] theorem isi_bool_non:isiD "bool" .non=some (.bl false):=by simp [isiD,tyD,kits.2.2.2.2.2.2.2.2.1]
@[simp] theorem isi_tup_tup (l:List D):isiD "tuple" (.tup l)=some (.bl true):=by simp [isiD,tyD,kits.2.2.2.2.2.2.2.2.2.1]
@[simp] theorem isi_lst_lst (l:List D):isiD "list" (.lst l)=some (.bl true):=by simp [isiD,tyD,kits.2.2.2.2.2.2.2.2.2.2.2.2.1]
@[simp] theorem bind_ite {α β : Type} {c:Prop} [Decidable c] (a b:Option α) (f : α->Option β):(if c then a else b).bind f=if c then a.bind f else b.bind f:=by split <;> rfl
@[simp] theorem map_ite {α β : Type} {c:Prop} [Decidable c] (a b:Option α) (f : α->β):(if c then a else b).map f=if c then a.map f else b.map f:=by split <;> rfl
theorem yS {fi:FA} {mp:List (Option Nat)} {ga:D->List Sl->Option (List Sl)} {tt:FT} {fe:FE} {ds:List Sl} {items l:List D} (h:fi ds=some items) (hl:items.length<=sizeLine) (hc:compL ga tt fe (yB mp ds) items=some l):compG fi mp ga tt fe ds=some l:=by
 unfold compG
 rw [h]
 show (if items.length<=sizeLine then compL ga tt fe (yB mp ds) items else none)=_
 rw [if_pos hl]
 exact hc
theorem blsD_map:∀ bs:List Bool,blsD (bs.map D.bl)=some bs
 | []=>rfl
 | b::r=>by simp [blsD,blsD_map r]
@[simp] theorem allD_bls (bs:List Bool):allD [.lst (bs.map D.bl)]=some (.bl (bs.all id)):=by simp [allD,blsD_map]
@[simp] theorem anyD_bls (bs:List Bool):anyD [.lst (bs.map D.bl)]=some (.bl (bs.any id)):=by simp [anyD,blsD_map]
@[simp] theorem ixL2 (a b c:D) (l:List D):ixD (.lst (a::b::c::l)) (.int 2)=some c:=by
 rw [wX _ (by decide) (by rw [List.length_cons,List.length_cons,List.length_cons]; omega)]
 rfl
@[simp] theorem ixL3 (a b c d:D) (l:List D):ixD (.lst (a::b::c::d::l)) (.int 3)=some d:=by
 rw [wX _ (by decide) (by rw [List.length_cons,List.length_cons,List.length_cons,List.length_cons]; omega)]
 rfl
@[simp] theorem rng3_eq (fa fb fc:FE) (ds:List Sl):rng3 fa fb fc ds=(fa ds).bind fun x=>(fb ds).bind fun y=>(fc ds).bind fun z=>match x,y,z with
 | .int i,.int j,.int c=>if okR3 i j c then some (range3D i c (steps3 i j c)) else none
 | _,_,_=>none:=rfl
@[simp] theorem rng2_eq (fa fb:FE) (ds:List Sl):rng2 fa fb ds=(fa ds).bind fun x=>(fb ds).bind fun y=>match x,y with
 | .int i,.int j=>if okR i/\okR j then some (rangeD i (j - i).toNat) else none
 | _,_=>none:=rfl
@[simp] theorem rng1_eq (f:FE) (ds:List Sl):rng1 f ds=(f ds).bind fun d=>match d with | .int j=>if okR j then some (rangeD 0 j.toNat) else none | _=>none:=rfl
theorem okR_small {j:Int} (h : -1000000000<=j) (h2:j<=1000000000):okR j:=⟨Int.le_trans (by decide) h,Int.lt_of_le_of_lt h2 (by decide)⟩
@[simp] theorem absD_int (i:Int):absD [.int i]=some (.int (if i < 0 then -i else i)):=rfl
@[simp] theorem int1D_int (i:Int):int1D [.int i]=some (.int i):=rfl
@[simp] theorem int1D_bl (b:Bool):int1D [.bl b]=some (.int (if b then 1 else 0)):=rfl
@[simp] theorem augA_eq (i:Nat) (f:FE) (ds:List Sl):augA i f ds=(qY i ds).bind fun x=>(f ds).bind fun y=>match x,y with
 | .int a,.int b=>some (.nx (ds.set i (.v (.int (a+b)))))
 | _,_=>none:=rfl
@[simp] theorem parG_eq (i j:Nat) (f:FA) (ds:List Sl):parG i j f ds=(f ds).bind fun l=>match l with
 | [a,b]=>some (.nx ((ds.set i (.v a)).set j (.v b)))
 | _=>none:=rfl
@[simp] theorem revA_eq (f:FE) (ds:List Sl):revA f ds=(f ds).bind fun d=>match d with
 | .lst l=>some l.reverse
 | _=>none:=rfl
theorem qO {f g:FS} {ds ds':List Sl} (h:f ds=some (.nx ds')):qW f g ds=g ds':=by simp [h]
theorem xF {g:FS} {n:Nat} {ds:List D} {r:Ret} (h:g (args n ds)=some (.rt r)):runG g n ds=some r:=by unfold runG; rw [h]
end FL
section
open PySem PyProof.Rows L2 FL
noncomputable def GP.ends_ahead.g:FS:=(retG (andV (zN notD (zL 0) (zF .non)) (andV (zN notD (zL 1) (zF .non)) (zN leD (zL 0) (zL 1)))))
noncomputable def GP.ends_ahead.f:List D->Option Ret:=runG GP.ends_ahead.g 2
noncomputable def GP.length.g:FS:=(qW (ifG (orT (qA (zN isD (zN ixD (zL 0) (zF (.int 0))) (zF .non))) (qA (zN isD (zN ixD (zL 0) (zF (.int 1))) (zF .non)))) (retG (zF .non)) qR)
 (retG (zN subD (zN ixD (zL 0) (zF (.int 1))) (zN ixD (zL 0) (zF (.int 0))))))
noncomputable def GP.length.f:List D->Option Ret:=runG GP.length.g 1
noncomputable def GP.later_low.g:FS:=(qW (ifG (qA (zN isD (zL 0) (zF .non))) (retG (zL 1)) qR)
 (qW (ifG (qA (zN isD (zL 1) (zF .non))) (retG (zL 0)) qR)
 (retG (callB mxD (zD (zL 0) (zD (zL 1) zS))))))
noncomputable def GP.later_low.f:List D->Option Ret:=runG GP.later_low.g 2
noncomputable def GP.earlier_behind.g:FS:=(qW (ifG (qA (zN isD (zL 0) (zF .non))) (retG (zL 1)) qR)
 (qW (ifG (qA (zN isD (zL 1) (zF .non))) (retG (zL 0)) qR)
 (retG (callB mnD (zD (zL 0) (zD (zL 1) zS))))))
noncomputable def GP.earlier_behind.f:List D->Option Ret:=runG GP.earlier_behind.g 2
noncomputable def GP.meet.g:FS:=(qW (jT 2 (zX 2 GP.later_low.f (zD (zN ixD (zL 0) (zF (.int 0))) (zD (zN ixD (zL 1) (zF (.int 0))) zS))))
 (qW (jT 3 (zX 2 GP.earlier_behind.f (zD (zN ixD (zL 0) (zF (.int 1))) (zD (zN ixD (zL 1) (zF (.int 1))) zS))))
 (qW (ifG (testT (zX 2 GP.ends_ahead.f (zD (zL 3) (zD (zL 2) zS)))) (retG (zF .non)) qR)
 (retG (mkT (qE (zD (qY 2) (zD (qY 3) zS))))))))
noncomputable def GP.meet.f:List D->Option Ret:=runG GP.meet.g 4
noncomputable def GP.knit.b1:FS:=(qW (ifG (qA (zN isD (zL 4) (zF .non))) (fun ds=>some (.ct ds)) qR)
 (ifG (andT (testT (zL 1)) (andT (qA (zN eqD (zN ixD (zN ixD (zL 1) (un1 negD (zF (.int 1)))) (zF (.int 1))) (zL 2))) (qA (zN eqD (zN ixD (zN ixD (zL 1) (un1 negD (zF (.int 1)))) (zF (.int 2))) (zL 4))))) (putG 1 (un1 negD (zF (.int 1))) (mkT (qE (zD (zN ixD (zN ixD (zL 1) (un1 negD (zF (.int 1)))) (zF (.int 0))) (zD (qY 3) (zD (qY 4) zS)))))) (appG 1 (mkT (qE (zD (qY 2) (zD (qY 3) (zD (qY 4) zS))))))))
noncomputable def GP.knit.g:FS:=(qW (setOG 1 (qE zS))
 (qW (forG (viaA (qY 0) asLT) (tupG 3 (zO (zV 2) (zO (zV 3) (zO (zV 4) tgNil)))) GP.knit.b1)
 (retXG 1)))
noncomputable def GP.knit.f:List D->Option Ret:=runG GP.knit.g 5
noncomputable def GP.runs_of.b1:FS:=(qW (ifG (qA (zN neD (zL 3) (zL 2))) (appG 1 (mkT (qE (zD (qY 2) (zD (qY 3) (zD (zF .non) zS)))))) qR)
 (qW (appG 1 (mkT (qE (zD (qY 3) (zD (qY 4) (zD (qY 5) zS))))))
 (jT 2 (qY 4))))
noncomputable def GP.runs_of.g:FS:=(qW (setOG 1 (qE zS))
 (qW (jT 2 (zF .non))
 (qW (forG (viaA (qY 0) asLT) (tupG 3 (zO (zV 3) (zO (zV 4) (zO (zV 5) tgNil)))) GP.runs_of.b1)
 (qW (ifG (orT (qA (zN notD (zL 2) (zF .non))) (notT (testT (zL 0)))) (appG 1 (mkT (qE (zD (qY 2) (zD (zF .non) (zD (zF .non) zS)))))) qR)
 (retXG 1)))))
noncomputable def GP.runs_of.f:List D->Option Ret:=runG GP.runs_of.g 6
noncomputable def GP.parts_in.b1:FS:=(qW (jT 6 (zX 2 GP.meet.f (zD (mkT (qE (zD (qY 3) (zD (qY 4) zS)))) (zD (zL 1) zS))))
 (ifG (qA (zN notD (zL 6) (zF .non))) (appG 2 (mkT (qE (zD (zN ixD (zL 6) (zF (.int 0))) (zD (zN ixD (zL 6) (zF (.int 1))) (zD (qY 5) zS)))))) qR))
noncomputable def GP.parts_in.g:FS:=(qW (setOG 2 (qE zS))
 (qW (forG (viaA (qY 0) asLT) (tupG 3 (zO (zV 3) (zO (zV 4) (zO (zV 5) tgNil)))) GP.parts_in.b1)
 (retXG 2)))
noncomputable def GP.parts_in.f:List D->Option Ret:=runG GP.parts_in.g 7
noncomputable def GP.some_place.g:FS:=(qW (ifG (qA (zN notD (zN ixD (zL 0) (zF (.int 0))) (zF .non))) (retG (zN ixD (zL 0) (zF (.int 0)))) qR)
 (qW (ifG (qA (zN notD (zN ixD (zL 0) (zF (.int 1))) (zF .non))) (retG (zN subD (zN ixD (zL 0) (zF (.int 1))) (zF (.int 1)))) qR)
 (retG (zF (.int 0)))))
noncomputable def GP.some_place.f:List D->Option Ret:=runG GP.some_place.g 1
noncomputable def GP.paired.b1:FS:=(qW (jT 8 (zN ixD (zL 2) (zL 6)))
 (qW (jT 9 (zN ixD (zL 3) (zL 7)))
 (qW (jT 10 (zX 2 GP.earlier_behind.f (zD (zN ixD (zL 8) (zF (.int 1))) (zD (zN ixD (zL 9) (zF (.int 1))) zS))))
 (qW (appG 4 (mkT (qE (zD (qY 5) (zD (qY 10) (zD (zN ixD (zL 8) (zF (.int 2))) (zD (zN ixD (zL 9) (zF (.int 2))) zS)))))))
 (qW (ifG (qA (zN eqD (zN ixD (zL 8) (zF (.int 1))) (zL 10))) (augA 6 (zF (.int 1))) qR)
 (qW (ifG (qA (zN eqD (zN ixD (zL 9) (zF (.int 1))) (zL 10))) (augA 7 (zF (.int 1))) qR)
 (jT 5 (qY 10))))))))
noncomputable def GP.paired.g:FS:=(qW (jT 2 (zX 1 GP.runs_of.f (zD (zL 0) zS)))
 (qW (jT 3 (zX 1 GP.runs_of.f (zD (zL 1) zS)))
 (qW (setOG 4 (qE zS))
 (qW (jT 5 (zF .non))
 (qW (jT 6 (zF (.int 0)))
 (qW (jT 7 (zF (.int 0)))
 (qW (whileN (qA (zN ltD (zL 6) (callB lenD (zD (zL 2) zS)))) GP.paired.b1 100000)
 (retXG 4))))))))
noncomputable def GP.paired.f:List D->Option Ret:=runG GP.paired.g 11
noncomputable def GP.joined.g (Φ : Fun2):FS:=(qW (jT 3 (zX 2 GP.paired.f (zD (zL 0) (zD (zL 1) zS))))
 (retOG (wY 1 GP.knit.f (zD (mkL (compG (viaA (qY 3) asLT) [none,none,none,none,some 2] (tupG 4 (zO (zV 0) (zO (zV 1) (zO (zV 2) (zO (zV 3) tgNil))))) (fun _=>some true) (mkT (qE (zD (qY 0) (zD (qY 1) (zD (callW Φ 4 (zD (zL 2) (zD (zL 3) zS))) zS))))))) zS))))
noncomputable def GP.joined.f (Φ : Fun2):List D->Option Ret:=runG (GP.joined.g Φ) 4
noncomputable def GP.turned.g (Φ : Fun2):FS:=(retOG (wY 1 GP.knit.f (zD (mkL (compG (viaA (zX 1 GP.runs_of.f (zD (zL 0) zS)) asLT) [none,none,none,some 1] (tupG 3 (zO (zV 0) (zO (zV 1) (zO (zV 2) tgNil)))) (fun _=>some true) (mkT (qE (zD (qY 0) (zD (qY 1) (zD (callW Φ 3 (zD (zL 2) zS)) zS))))))) zS)))
noncomputable def GP.turned.f (Φ : Fun2):List D->Option Ret:=runG (GP.turned.g Φ) 2
noncomputable def GP.farther.g:FS:=(retG (ifV (qA (zN isD (zL 0) (zF .non))) (zF .non) (zN xP (zL 0) (zL 1))))
noncomputable def GP.farther.f:List D->Option Ret:=runG GP.farther.g 2
noncomputable def GP.shifted.g:FS:=(retOG (compG (viaA (qY 0) asLT) [none,none,none,some 1] (tupG 3 (zO (zV 0) (zO (zV 1) (zO (zV 2) tgNil)))) (fun _=>some true) (mkT (qE (zD (zX 2 GP.farther.f (zD (zL 0) (zD (zL 3) zS))) (zD (zX 2 GP.farther.f (zD (zL 1) (zD (zL 3) zS))) (zD (qY 2) zS)))))))
noncomputable def GP.shifted.f:List D->Option Ret:=runG GP.shifted.g 2
noncomputable def GP.holding.g (Φ : Fun2):FS:=(retOG (wY 2 (ncF (GP.turned.f Φ)) (lamA 4 0 [1] (zD (zL 0) zS))))
noncomputable def GP.holding.f (Φ : Fun2):List D->Option Ret:=runG (GP.holding.g Φ) 2
noncomputable def GP.first_run.b1 (Φ : Fun2):FS:=(ifG (qA (zN isD (zL 7) (zF .non))) (appG 4 (mkT (qE (zD (qY 5) (zD (qY 6) zS))))) (ifG (orT (qA (zN isD (zL 6) (zF .non))) (qA (zN geD (zN subD (zL 6) (zL 5)) (zL 2)))) (retDG (mkT (qE (zD (flV (qY 5)) (zD (getO 4) zS))))) qR))
noncomputable def GP.first_run.g (Φ : Fun2):FS:=(qW (ifG (qA (zN ltD (zL 2) (zF (.int 1)))) (fun _=>none) qR)
 (qW (setOG 4 (qE zS))
 (qW (forG (viaA (zX 2 GP.parts_in.f (zD (zX 1 GP.runs_of.f (zD (zX 2 (GP.holding.f Φ) (zD (zL 0) (zD (zL 3) zS))) zS)) (zD (mkT (qE (zD (qY 1) (zD (zF .non) zS)))) zS))) asLT) (tupG 3 (zO (zV 5) (zO (zV 6) (zO (zV 7) tgNil)))) (GP.first_run.b1 Φ))
 (retDG (mkT (qE (zD (flV (zF .non)) (zD (getO 4) zS))))))))
noncomputable def GP.first_run.f (Φ : Fun2):List D->Option Ret:=runG (GP.first_run.g Φ) 8
noncomputable def GP.change_by.g:FS:=(qW (ifG (notT (testT (zL 1))) (retG (zF .non)) qR)
 (qW (jT 3 (zN ixD (zL 1) (zN xV (zL 2) (callB lenD (zD (zL 1) zS)))))
 (retG (mkT (qE (zD (zN xP (zN ixD (zL 3) (zF (.int 0))) (zN yF (zN jC (zL 2) (callB lenD (zD (zL 1) zS))) (zL 0))) (zD (zN ixD (zL 3) (zF (.int 1))) zS)))))))
noncomputable def GP.change_by.f:List D->Option Ret:=runG GP.change_by.g 4
noncomputable def GP.comes_again.b1:FS:=(ifG (qA (zN neD (zX 3 GP.change_by.f (zD (zL 0) (zD (zL 1) (zD (zN xP (zL 5) (zL 3)) zS)))) (mkT (qE (zD (zN xP (zN ixD (zL 6) (zF (.int 0))) (zL 4)) (zD (zN ixD (zL 6) (zF (.int 1))) zS)))))) (retG (zF (.bl false))) qR)
noncomputable def GP.comes_again.g:FS:=(qW (jT 3 (zN jC (callB lenD (zD (zL 1) zS)) (zL 2)))
 (qW (jT 4 (zN jC (zL 0) (zL 2)))
 (qW (forG (enuA (qY 1)) (tupG 2 (zO (zV 5) (zO (zV 6) tgNil))) GP.comes_again.b1)
 (retG (zF (.bl true))))))
noncomputable def GP.comes_again.f:List D->Option Ret:=runG GP.comes_again.g 7
noncomputable def GP.times_on.b1:FS:=(ifG (andT (qA (zN eqD (zN xV (callB lenD (zD (zL 1) zS)) (zL 2)) (zF (.int 0)))) (andT (qA (zN eqD (zN xV (zL 0) (zL 2)) (zF (.int 0)))) (testT (zX 3 GP.comes_again.f (zD (zL 0) (zD (zL 1) (zD (zL 2) zS))))))) (retG (zL 2)) qR)
noncomputable def GP.times_on.g:FS:=(qW (ifG (notT (testT (zL 1))) (retG (zL 0)) qR)
 (qW (forG (rngB (callB lenD (zD (zL 1) zS)) (zF (.int 1)) (un1 negD (zF (.int 1)))) (zV 2) GP.times_on.b1)
 (retG (zF (.int 1)))))
noncomputable def GP.times_on.f:List D->Option Ret:=runG GP.times_on.g 3
noncomputable def GP.changes_on.g:FS:=(qW (jT 2 (zX 2 GP.parts_in.f (zD (zX 1 GP.runs_of.f (zD (zL 1) zS)) (zD (mkT (qE (zD (zF (.int 0)) (zD (qY 0) zS)))) zS))))
 (qW (setOG 3 (compG (viaA (mkL (sliA (zL 2) (soP (zF (.int 1))) noP)) asLT) [none,none,none] (tupG 3 (zO (zV 0) (zO (zV 1) (zO (zV 2) tgNil)))) (fun _=>some true) (mkT (qE (zD (qY 0) (zD (qY 2) zS))))))
 (qW (ifG (qA (zN neD (zN ixD (zN ixD (zL 2) (zF (.int 0))) (zF (.int 2))) (zN ixD (zN ixD (zL 2) (un1 negD (zF (.int 1)))) (zF (.int 2))))) (appG 3 (mkT (qE (zD (qY 0) (zD (zN ixD (zN ixD (zL 2) (zF (.int 0))) (zF (.int 2))) zS))))) qR)
 (retXG 3))))
noncomputable def GP.changes_on.f:List D->Option Ret:=runG GP.changes_on.g 4
noncomputable def GP.wheel_of.g:FS:=(qW (ifG (qA (zN ltD (zL 0) (zF (.int 1)))) (fun _=>none) qR)
 (qW (jT 2 (zN jC (zL 0) (zX 2 GP.times_on.f (zD (zL 0) (zD (zX 2 GP.changes_on.f (zD (zL 0) (zD (zL 1) zS))) zS)))))
 (retDG (mkT (qE (zD (flV (qY 2)) (zD (mkL (flA (wY 2 GP.parts_in.f (zD (zL 1) (zD (mkT (qE (zD (zF (.int 0)) (zD (qY 2) zS)))) zS))))) zS)))))))
noncomputable def GP.wheel_of.f:List D->Option Ret:=runG GP.wheel_of.g 3
noncomputable def GP.rolled_out.b1:FS:=(extG 3 (wY 2 GP.shifted.f (zD (zN ixD (zL 0) (zF (.int 1))) (zD (zN yF (zL 4) (zL 2)) zS))))
noncomputable def GP.rolled_out.g:FS:=(qW (jT 2 (zN ixD (zL 0) (zF (.int 0))))
 (qW (ifG (qA (zN eqD (zL 2) (zF (.int 1)))) (retOG (compG (viaA (zN ixD (zL 0) (zF (.int 1))) asLT) [none,none,none,some 1] (tupG 3 (zO (zV 0) (zO (zV 1) (zO (zV 2) tgNil)))) (fun _=>some true) (mkT (qE (zD (zN ixD (zL 3) (zF (.int 0))) (zD (zN ixD (zL 3) (zF (.int 1))) (zD (qY 2) zS))))))) qR)
 (qW (setOG 3 (qE zS))
 (qW (forG (rngL (zN jC (zN ixD (zL 1) (zF (.int 0))) (zL 2)) (zN xP (zN jC (zN subD (zN ixD (zL 1) (zF (.int 1))) (zF (.int 1))) (zL 2)) (zF (.int 1)))) (zV 4) GP.rolled_out.b1)
 (retOG (wY 2 GP.parts_in.f (zD (zX 1 GP.knit.f (zD (zL 3) zS)) (zD (zL 1) zS))))))))
noncomputable def GP.rolled_out.f:List D->Option Ret:=runG GP.rolled_out.g 5
noncomputable def GP.size_of.g:FS:=(retG (ifV (qA (zN eqD (zN ixD (zL 0) (zF (.int 0))) (zF (.int 1)))) (zF (.int 1)) (zN yF (zL 1) (zN xP (callB lenD (zD (zN ixD (zL 0) (zF (.int 1))) zS)) (zF (.int 1))))))
noncomputable def GP.size_of.f:List D->Option Ret:=runG GP.size_of.g 2
noncomputable def GP.wheel_cut.g:FS:=(qW (ifG (qA (zN isD (zX 1 GP.length.f (zD (zL 1) zS)) (zF .non))) (fun _=>none) qR)
 (qW (jT 2 (zN xP (zN subD (zN jC (zN subD (zN ixD (zL 1) (zF (.int 1))) (zF (.int 1))) (zN ixD (zL 0) (zF (.int 0)))) (zN jC (zN ixD (zL 1) (zF (.int 0))) (zN ixD (zL 0) (zF (.int 0))))) (zF (.int 1))))
 (qW (ifG (qA (zN gtD (zX 2 GP.size_of.f (zD (zL 0) (zD (zL 2) zS))) (zF (.int 300)))) (fun _=>none) qR)
 (retOG (wY 2 GP.rolled_out.f (zD (zL 0) (zD (zL 1) zS)))))))
noncomputable def GP.wheel_cut.f:List D->Option Ret:=runG GP.wheel_cut.g 3
noncomputable def GP.least_multiple.b1:FS:=(qW (jT 4 (zN xV (zL 2) (zL 3)))
 (qW (jT 2 (qY 3))
 (jT 3 (qY 4))))
noncomputable def GP.least_multiple.g:FS:=(qW (jT 2 (qY 0))
 (qW (jT 3 (qY 1))
 (qW (whileN (qA (zN gtD (zL 3) (zF (.int 0)))) GP.least_multiple.b1 100000)
 (retG (zN yF (zN jC (zL 0) (zL 2)) (zL 1))))))
noncomputable def GP.least_multiple.f:List D->Option Ret:=runG GP.least_multiple.g 5
noncomputable def GP.wheel_joined.g (Φ : Fun2):FS:=(qW (jT 3 (zX 2 GP.least_multiple.f (zD (zN ixD (zL 0) (zF (.int 0))) (zD (zN ixD (zL 1) (zF (.int 0))) zS))))
 (qW (ifG (qA (zN gtD (zN xP (zX 2 GP.size_of.f (zD (zL 0) (zD (zN jC (zL 3) (zN ixD (zL 0) (zF (.int 0)))) zS))) (zX 2 GP.size_of.f (zD (zL 1) (zD (zN jC (zL 3) (zN ixD (zL 1) (zF (.int 0)))) zS)))) (zF (.int 300)))) (fun _=>none) qR)
 (qW (jT 4 (mkT (qE (zD (zF (.int 0)) (zD (qY 3) zS)))))
 (retDG (zX 2 GP.wheel_of.f (zD (zL 3) (zD (zX 3 (GP.joined.f Φ) (zD (zX 2 GP.rolled_out.f (zD (zL 0) (zD (zL 4) zS))) (zD (zX 2 GP.rolled_out.f (zD (zL 1) (zD (zL 4) zS))) (zD (zL 2) zS)))) zS)))))))
noncomputable def GP.wheel_joined.f (Φ : Fun2):List D->Option Ret:=runG (GP.wheel_joined.g Φ) 5
noncomputable def GP.wheel_run.g (Φ : Fun2):FS:=(qW (jT 4 (zX 2 GP.wheel_of.f (zD (zN ixD (zL 0) (zF (.int 0))) (zD (zX 2 (GP.holding.f Φ) (zD (zN ixD (zL 0) (zF (.int 1))) (zD (zL 3) zS))) zS))))
 (qW (jT 5 (ifV (qA (zN eqD (zN ixD (zL 4) (zF (.int 0))) (zF (.int 1)))) (mkT (qE (zD (qY 1) (zD (zF .non) zS)))) (mkT (qE (zD (qY 1) (zD (zN xP (zL 1) (zN yF (zF (.int 2)) (zN ixD (zL 4) (zF (.int 0))))) zS))))))
 (retG (zN ixD (zX 4 (ncF (GP.first_run.f Φ)) (lamA 9 0 [] (zD (zX 2 GP.rolled_out.f (zD (zL 4) (zD (zL 5) zS))) (zD (zL 1) (zD (zL 2) zS))))) (zF (.int 0))))))
noncomputable def GP.wheel_run.f (Φ : Fun2):List D->Option Ret:=runG (GP.wheel_run.g Φ) 6
noncomputable def GL.end.g:FS:=(retG (orV (zN isD (zL 0) (zF .non)) (andV (isiG "int" (zL 0)) (notV (isiG "bool" (zL 0))))))
noncomputable def GL.end.f:List D->Option Ret:=runG GL.end.g 1
noncomputable def GL.nth.g:FS:=(qW (jT 2 (mkL (catA (mkL (sliA (zL 0) (soP (zL 1)) (soP (zN xP (zL 1) (zF (.int 1)))))) (mkL (qE (zD (zF (.int 0)) zS))))))
 (retG (zN ixD (zL 2) (zF (.int 0)))))
noncomputable def GL.nth.f:List D->Option Ret:=runG GL.nth.g 3
end
namespace FL
open PySem PySem.Spec PyProof.Rows L2
abbrev Spn:=Option Int×Option Int
def spD (s:Spn):D:=.tup [oi s.1,oi s.2]
def oS:Option Spn->D
 | none=>.non
 | some s=>spD s
def hasS (s:Spn) (p:Int):Bool:=(match s.1 with | none=>true | some a=>decide (a<=p)) && (match s.2 with | none=>true | some b=>decide (p < b))
def okS (s:Spn):Prop:=∀ a b,s.1=some a->s.2=some b->a < b
@[simp] theorem spD_0 (s:Spn):ixD (spD s) (.int 0)=some (oi s.1):=ixT0 _ _
@[simp] theorem spD_1 (s:Spn):ixD (spD s) (.int 1)=some (oi s.2):=ixT1 _ _ _
@[simp] theorem spD_flat (s:Spn):flat (spD s)=true:=by simp [spD]
@[simp] theorem spD_flatR (s:Spn):flatR (spD s)=some (.rt (.val (spD s))):=yK (by simp)
@[simp] theorem spD_shal (s:Spn) (n:Nat):shal (n+1) (spD s)=true:=by simp [spD]
@[simp] theorem spD_isi (s:Spn):isiD "tuple" (spD s)=some (.bl true):=by simp [spD]
@[simp] theorem spD_len (s:Spn):lenD [spD s]=some (.int 2):=by simp [spD]
@[simp] theorem spD_isD (s:Spn):isD (spD s) .non=some (.bl false):=rfl
@[simp] theorem spD_notD (s:Spn):notD (spD s) .non=some (.bl true):=rfl
@[simp] theorem spD_asLT (s:Spn):asLT (spD s)=some [oi s.1,oi s.2]:=rfl
@[simp] theorem spD_eqv (s t:Spn):eqvD (spD s) (spD t)=decide (s=t):=by
 rw [Bool.eq_iff_iff]
 simp [spD,Prod.ext_iff]
@[simp] theorem oS_isD (o:Option Spn):isD (oS o) .non=some (.bl o.isNone):=by cases o <;> rfl
@[simp] theorem oS_notD (o:Option Spn):notD (oS o) .non=some (.bl o.isSome):=by cases o <;> rfl
@[simp] theorem oS_flatR (o:Option Spn):flatR (oS o)=some (.rt (.val (oS o))):=by cases o <;> simp [oS]
theorem wI (s:Spn):GP.length.f [spD s]=some (.val (oi (match s.1,s.2 with | some a,some b=>some (b - a) | _,_=>none))):=by
 obtain ⟨a,b⟩:=s
 unfold GP.length.f runG GP.length.g
 cases a <;> cases b <;> simp [args]
def lateL:Option Int->Option Int->Option Int
 | none,b=>b
 | a,none=>a
 | some a,some b=>some (max a b)
def qI:Option Int->Option Int->Option Int
 | none,b=>b
 | a,none=>a
 | some a,some b=>some (min a b)
def aheadE:Option Int->Option Int->Bool
 | some b,some l=>decide (b<=l)
 | _,_=>false
theorem lateL_eq (a b:Option Int):GP.later_low.f [oi a,oi b]=some (.val (oi (lateL a b))):=by
 unfold GP.later_low.f runG GP.later_low.g
 cases a <;> cases b <;> simp [args,lateL]
theorem earlB_eq (a b:Option Int):GP.earlier_behind.f [oi a,oi b]=some (.val (oi (qI a b))):=by
 unfold GP.earlier_behind.f runG GP.earlier_behind.g
 cases a <;> cases b <;> simp [args,qI]
theorem aheadE_eq (a b:Option Int):GP.ends_ahead.f [oi a,oi b]=some (.val (.bl (aheadE a b))):=by
 unfold GP.ends_ahead.f runG GP.ends_ahead.g
 cases a <;> cases b <;> simp [args,aheadE]
def meetS (s t:Spn):Option Spn:=if aheadE (qI s.2 t.2) (lateL s.1 t.1)=true then none else some (lateL s.1 t.1,qI s.2 t.2)
theorem meet_eq (s t:Spn):GP.meet.f [spD s,spD t]=some (.val (oS (meetS s t))):=by
 unfold GP.meet.f runG GP.meet.g
 cases h:aheadE (qI s.2 t.2) (lateL s.1 t.1) <;> simp [args,lateL_eq,earlB_eq,aheadE_eq,h,meetS,oS,spD]
def HasS (s:Spn) (p:Int):Prop:=(∀ a,s.1=some a->a<=p)/\(∀ b,s.2=some b->p < b)
theorem xQ (s:Spn) (p:Int):hasS s p=true↔HasS s p:=by
 obtain ⟨a,b⟩:=s
 cases a <;> cases b <;> simp [hasS,HasS]
theorem lateL_le {a c:Option Int} {p:Int} : (∀ x,lateL a c=some x->x<=p)↔(∀ x,a=some x->x<=p)/\(∀ x,c=some x->x<=p):=by
 cases a <;> cases c <;> simp [lateL]
 omega
theorem earlB_lt {a c:Option Int} {p:Int} : (∀ x,qI a c=some x->p < x)↔(∀ x,a=some x->p < x)/\(∀ x,c=some x->p < x):=by
 cases a <;> cases c <;> simp [qI]
 omega
theorem aheadE_no {b l:Option Int} {p:Int} (h:aheadE b l=true) (h1:∀ x,l=some x->x<=p) (h2:∀ x,b=some x->p < x):False:=by
 cases b <;> cases l <;> simp [aheadE] at h
 have:=h1 _ rfl
 have:=h2 _ rfl
 omega
def hasO (o:Option Spn) (p:Int):Bool:=match o with
 | none=>false
 | some u=>hasS u p
theorem hasO_meet (s t:Spn) (p:Int):hasO (meetS s t) p=(hasS s p && hasS t p):=by
 rw [Bool.eq_iff_iff,Bool.and_eq_true,xQ,xQ]
 unfold meetS
 by_cases h:aheadE (qI s.2 t.2) (lateL s.1 t.1)=true
 · rw [if_pos h]
   refine ⟨fun z=>by simp [hasO] at z,fun z=>(aheadE_no h (lateL_le.mpr ⟨z.1.1,z.2.1⟩) (earlB_lt.mpr ⟨z.1.2,z.2.2⟩)).elim⟩
 · rw [if_neg h]
   show hasS _ p=true↔_
   rw [xQ]
   show (∀ x,lateL s.1 t.1=some x->x<=p)/\(∀ x,qI s.2 t.2=some x->p < x)↔_
   rw [lateL_le,earlB_lt]
   exact ⟨fun ⟨⟨a,b⟩,c,d⟩=>⟨⟨a,c⟩,b,d⟩,fun ⟨⟨a,c⟩,b,d⟩=>⟨⟨a,b⟩,c,d⟩⟩
theorem meetS_ok {s t u:Spn} (h:meetS s t=some u):okS u:=by
 unfold meetS at h
 split at h
 · cases h
 · rename_i hn
   cases h
   intro a b h1 h2
   simp only at h1 h2
   rw [h1,h2] at hn
   simp [aheadE] at hn
   omega
open Builtin.Int (intBits)
def cel (ns:List Int) (k:Nat):Int:=ns.getD k 0
theorem jH {a:Int} {m:Nat} (h:a.natAbs < 2 ^ m):intBits a<=m:=intBits_le_iff.mpr h
theorem end_eq (o:Option Int):GL.end.f [oi o]=some (.val (.bl true)):=by
 unfold GL.end.f runG GL.end.g
 cases o <;> simp [args]
@[simp] theorem end_int (i:Int):GL.end.f [.int i]=some (.val (.bl true)):=end_eq (some i)
@[simp] theorem end_non:GL.end.f [.non]=some (.val (.bl true)):=end_eq none
end FL
namespace FL
open PySem PySem.Spec PyProof.Rows L2
open Builtin.Int (intBits)
@[simp] theorem eqS_put_put:eqD (.str "put") (.str "put")=some (.bl true):=by kernel_rfl
@[simp] theorem neS_put_put:neD (.str "put") (.str "put")=some (.bl false):=by kernel_rfl
@[simp] theorem eqS_put_widen:eqD (.str "put") (.str "widen")=some (.bl false):=by kernel_rfl
@[simp] theorem neS_put_widen:neD (.str "put") (.str "widen")=some (.bl true):=by kernel_rfl
@[simp] theorem eqS_put_narrow:eqD (.str "put") (.str "narrow")=some (.bl false):=by kernel_rfl
@[simp] theorem neS_put_narrow:neD (.str "put") (.str "narrow")=some (.bl true):=by kernel_rfl
@[simp] theorem eqS_put_move:eqD (.str "put") (.str "move")=some (.bl false):=by kernel_rfl
@[simp] theorem neS_put_move:neD (.str "put") (.str "move")=some (.bl true):=by kernel_rfl
@[simp] theorem eqS_put_stretch:eqD (.str "put") (.str "stretch")=some (.bl false):=by kernel_rfl
@[simp] theorem neS_put_stretch:neD (.str "put") (.str "stretch")=some (.bl true):=by kernel_rfl
@[simp] theorem eqS_put_mirror:eqD (.str "put") (.str "mirror")=some (.bl false):=by kernel_rfl
@[simp] theorem neS_put_mirror:neD (.str "put") (.str "mirror")=some (.bl true):=by kernel_rfl
@[simp] theorem eqS_widen_put:eqD (.str "widen") (.str "put")=some (.bl false):=by kernel_rfl
@[simp] theorem neS_widen_put:neD (.str "widen") (.str "put")=some (.bl true):=by kernel_rfl
@[simp] theorem eqS_widen_widen:eqD (.str "widen") (.str "widen")=some (.bl true):=by kernel_rfl
@[simp] theorem neS_widen_widen:neD (.str "widen") (.str "widen")=some (.bl false):=by kernel_rfl
@[simp] theorem eqS_widen_narrow:eqD (.str "widen") (.str "narrow")=some (.bl false):=by kernel_rfl
@[simp] theorem neS_widen_narrow:neD (.str "widen") (.str "narrow")=some (.bl true):=by kernel_rfl
@[simp] theorem eqS_widen_move:eqD (.str "widen") (.str "move")=some (.bl false):=by kernel_rfl
@[simp] theorem neS_widen_move:neD (.str "widen") (.str "move")=some (.bl true):=by kernel_rfl
@[simp] theorem eqS_widen_stretch:eqD (.str "widen") (.str "stretch")=some (.bl false):=by kernel_rfl
@[simp] theorem neS_widen_stretch:neD (.str "widen") (.str "stretch")=some (.bl true):=by kernel_rfl
@[simp] theorem eqS_widen_mirror:eqD (.str "widen") (.str "mirror")=some (.bl false):=by kernel_rfl
@[simp] theorem neS_widen_mirror:neD (.str "widen") (.str "mirror")=some (.bl true):=by kernel_rfl
@[simp] theorem eqS_narrow_put:eqD (.str "narrow") (.str "put")=some (.bl false):=by kernel_rfl
@[simp] theorem neS_narrow_put:neD (.str "narrow") (.str "put")=some (.bl true):=by kernel_rfl
@[simp] theorem eqS_narrow_widen:eqD (.str "narrow") (.str "widen")=some (.bl false):=by kernel_rfl
@[simp] theorem neS_narrow_widen:neD (.str "narrow") (.str "widen")=some (.bl true):=by kernel_rfl
@[simp] theorem eqS_narrow_narrow:eqD (.str "narrow") (.str "narrow")=some (.bl true):=by kernel_rfl
@[simp] theorem neS_narrow_narrow:neD (.str "narrow") (.str "narrow")=some (.bl false):=by kernel_rfl
@[simp] theorem eqS_narrow_move:eqD (.str "narrow") (.str "move")=some (.bl false):=by kernel_rfl
@[simp] theorem neS_narrow_move:neD (.str "narrow") (.str "move")=some (.bl true):=by kernel_rfl
@[simp] theorem eqS_narrow_stretch:eqD (.str "narrow") (.str "stretch")=some (.bl false):=by kernel_rfl
@[simp] theorem neS_narrow_stretch:neD (.str "narrow") (.str "stretch")=some (.bl true):=by kernel_rfl
@[simp] theorem eqS_narrow_mirror:eqD (.str "narrow") (.str "mirror")=some (.bl false):=by kernel_rfl
@[simp] theorem neS_narrow_mirror:neD (.str "narrow") (.str "mirror")=some (.bl true):=by kernel_rfl
@[simp] theorem eqS_move_put:eqD (.str "move") (.str "put")=some (.bl false):=by kernel_rfl
@[simp] theorem neS_move_put:neD (.str "move") (.str "put")=some (.bl true):=by kernel_rfl
@[simp] theorem eqS_move_widen:eqD (.str "move") (.str "widen")=some (.bl false):=by kernel_rfl
@[simp] theorem neS_move_widen:neD (.str "move") (.str "widen")=some (.bl true):=by kernel_rfl
@[simp] theorem eqS_move_narrow:eqD (.str "move") (.str "narrow")=some (.bl false):=by kernel_rfl
@[simp] theorem neS_move_narrow:neD (.str "move") (.str "narrow")=some (.bl true):=by kernel_rfl
@[simp] theorem eqS_move_move:eqD (.str "move") (.str "move")=some (.bl true):=by kernel_rfl
@[simp] theorem neS_move_move:neD (.str "move") (.str "move")=some (.bl false):=by kernel_rfl
@[simp] theorem eqS_move_stretch:eqD (.str "move") (.str "stretch")=some (.bl false):=by kernel_rfl
@[simp] theorem neS_move_stretch:neD (.str "move") (.str "stretch")=some (.bl true):=by kernel_rfl
@[simp] theorem eqS_move_mirror:eqD (.str "move") (.str "mirror")=some (.bl false):=by kernel_rfl
@[simp] theorem neS_move_mirror:neD (.str "move") (.str "mirror")=some (.bl true):=by kernel_rfl
@[simp] theorem eqS_stretch_put:eqD (.str "stretch") (.str "put")=some (.bl false):=by kernel_rfl
@[simp] theorem neS_stretch_put:neD (.str "stretch") (.str "put")=some (.bl true):=by kernel_rfl
@[simp] theorem eqS_stretch_widen:eqD (.str "stretch") (.str "widen")=some (.bl false):=by kernel_rfl
@[simp] theorem neS_stretch_widen:neD (.str "stretch") (.str "widen")=some (.bl true):=by kernel_rfl
@[simp] theorem eqS_stretch_narrow:eqD (.str "stretch") (.str "narrow")=some (.bl false):=by kernel_rfl
@[simp] theorem neS_stretch_narrow:neD (.str "stretch") (.str "narrow")=some (.bl true):=by kernel_rfl
@[simp] theorem eqS_stretch_move:eqD (.str "stretch") (.str "move")=some (.bl false):=by kernel_rfl
@[simp] theorem neS_stretch_move:neD (.str "stretch") (.str "move")=some (.bl true):=by kernel_rfl
@[simp] theorem eqS_stretch_stretch:eqD (.str "stretch") (.str "stretch")=some (.bl true):=by kernel_rfl
@[simp] theorem neS_stretch_stretch:neD (.str "stretch") (.str "stretch")=some (.bl false):=by kernel_rfl
@[simp] theorem eqS_stretch_mirror:eqD (.str "stretch") (.str "mirror")=some (.bl false):=by kernel_rfl
@[simp] theorem neS_stretch_mirror:neD (.str "stretch") (.str "mirror")=some (.bl true):=by kernel_rfl
@[simp] theorem eqS_mirror_put:eqD (.str "mirror") (.str "put")=some (.bl false):=by kernel_rfl
@[simp] theorem neS_mirror_put:neD (.str "mirror") (.str "put")=some (.bl true):=by kernel_rfl
@[simp] theorem eqS_mirror_widen:eqD (.str "mirror") (.str "widen")=some (.bl false):=by kernel_rfl
@[simp] theorem neS_mirror_widen:neD (.str "mirror") (.str "widen")=some (.bl true):=by kernel_rfl
@[simp] theorem eqS_mirror_narrow:eqD (.str "mirror") (.str "narrow")=some (.bl false):=by kernel_rfl
@[simp] theorem neS_mirror_narrow:neD (.str "mirror") (.str "narrow")=some (.bl true):=by kernel_rfl
@[simp] theorem eqS_mirror_move:eqD (.str "mirror") (.str "move")=some (.bl false):=by kernel_rfl
@[simp] theorem neS_mirror_move:neD (.str "mirror") (.str "move")=some (.bl true):=by kernel_rfl
@[simp] theorem eqS_mirror_stretch:eqD (.str "mirror") (.str "stretch")=some (.bl false):=by kernel_rfl
@[simp] theorem neS_mirror_stretch:neD (.str "mirror") (.str "stretch")=some (.bl true):=by kernel_rfl
@[simp] theorem eqS_mirror_mirror:eqD (.str "mirror") (.str "mirror")=some (.bl true):=by kernel_rfl
@[simp] theorem neS_mirror_mirror:neD (.str "mirror") (.str "mirror")=some (.bl false):=by kernel_rfl
@[simp] theorem fldG_eq (ix:List (Nat×Nat)) (f:FE) (ds:List Sl):fldG ix f ds=(f ds).bind (fldD ix):=rfl
@[simp] theorem fldD_ins (ix:List (Nat×Nat)) (t:Nat) (es:List D):fldD ix (.ins t es)=(ix.lookup t).bind fun i=>es[i]?:=rfl
@[simp] theorem methV_eq (n:Nat) (cs:List Nat) (F:Nat->List D->Option Ret) (fo:FE) (g:FA) (ds:List Sl):methV n cs F fo g ds=(fo ds).bind fun o=>(g ds).bind fun l=>(methR n cs F o l).bind retV:=rfl
@[simp] theorem methF_eq (n:Nat) (cs:List Nat) (F:Nat->List D->Option Ret) (fo:FE) (g:FA) (ds:List Sl):methF n cs F fo g ds=(fo ds).bind fun o=>(g ds).bind fun l=>(methR n cs F o l).bind retF:=rfl
@[simp] theorem makeG_eq (t n:Nat) (G:List D->Option (List D)) (g:FA) (ds:List Sl):makeG t n G g ds=(g ds).bind fun l=>if l.length=n/\flats l=true then (G l).map (D.ins t) else none:=rfl
@[simp] theorem retDG_eq (f:FE) (ds:List Sl):retDG f ds=(f ds).map fun d=>.rt (.val d):=rfl
end FL
namespace FL
open PySem PySem.Spec PyProof.Rows L2
abbrev Rw:=Option Int×Option Int×Option Int
def rwD (r:Rw):D:=.tup [oi r.1,oi r.2.1,oi r.2.2]
def has3 (r:Rw) (p:Int):Bool:=hasS (r.1,r.2.1) p
def ok3 (r:Rw):Prop:=okS (r.1,r.2.1)
@[simp] theorem rwD_0 (r:Rw):ixD (rwD r) (.int 0)=some (oi r.1):=ixT0 _ _
@[simp] theorem rwD_1 (r:Rw):ixD (rwD r) (.int 1)=some (oi r.2.1):=ixT1 _ _ _
@[simp] theorem rwD_2 (r:Rw):ixD (rwD r) (.int 2)=some (oi r.2.2):=ixT2 _ _ _ _
@[simp] theorem rwD_flat (r:Rw):flat (rwD r)=true:=by simp [rwD]
@[simp] theorem rwD_flatR (r:Rw):flatR (rwD r)=some (.rt (.val (rwD r))):=yK (by simp)
@[simp] theorem rwD_shal (r:Rw) (n:Nat):shal (n+1) (rwD r)=true:=by simp [rwD]
@[simp] theorem rwD_isi (r:Rw):isiD "tuple" (rwD r)=some (.bl true):=by simp [rwD]
@[simp] theorem rwD_len (r:Rw):lenD [rwD r]=some (.int 3):=by simp [rwD]
@[simp] theorem rwD_tupG (h:List D->List Sl->Option (List Sl)) (r:Rw) (ds:List Sl):tupG 3 h (rwD r) ds=h [oi r.1,oi r.2.1,oi r.2.2] ds:=by simp [rwD]
@[simp] theorem rwD_eqv (r t:Rw):eqvD (rwD r) (rwD t)=decide (r=t):=by
 obtain ⟨a,b,c⟩:=r
 obtain ⟨x,y,z⟩:=t
 rw [Bool.eq_iff_iff]
 simp [rwD]
theorem jV (l:List Rw):flats (l.map rwD)=true:=by
 induction l with
 | nil=>simp
 | cons a r ih=>simp [ih]
theorem shals_rw (n:Nat) (l:List Rw):shals (n+2) (l.map rwD)=true:=shals_all fun d hd=>by obtain ⟨r,_,rfl⟩:=List.mem_map.mp hd; simp
theorem eqvs_rw:∀ a b:List Rw,eqvs (a.map rwD) (b.map rwD)=decide (a=b)
 | [],[]=>by simp
 | [],y::b=>by simp
 | x::a,[]=>by simp
 | x :: a, y :: b => by
   simp only [List.map_cons,eqvs_cons,rwD_eqv,eqvs_rw a b]
   rw [Bool.eq_iff_iff]
   simp
theorem neD_rw (a b:List Rw):neD (.lst (a.map rwD)) (.lst (b.map rwD))=some (.bl (!decide (a=b))):=by rw [kA (by simpa using shals_rw 38 a) (by simpa using shals_rw 38 b),eqvD_lst,eqvs_rw]
theorem neD_rw_nil (a:List Rw):neD (.lst (a.map rwD)) (.lst [])=some (.bl (!a.isEmpty)):=by
 have:=neD_rw a []
 simp only [List.map_nil] at this
 rw [this]
 cases a <;> simp
theorem ixN_last {n:Nat} (h:0 < n):ixN n (-1)=some (n - 1):=by
 unfold ixN
 rw [if_neg (by decide),if_pos (by omega)]
 congr 1
 omega
def ahead (a b:Rw):Prop:=∃ x y,a.2.1=some x/\b.1=some y/\x<=y
structure Ord (rows:List Rw):Prop where
 ok:∀ r∈rows,ok3 r
 pw:rows.Pairwise ahead
def Tel (rows:List Rw) (p v:Int):Prop:=∃ r∈rows,has3 r p=true/\r.2.2=some v
def knit1 (acc:List Rw) (r:Rw):List Rw:=match r.2.2 with
 | none=>acc
 | some v => match acc with
   | []=>[r]
   | q::t=>if q.2.1=r.1/\q.2.2=some v then (q.1,r.2.1,some v)::t else r::q::t
def knitF (rows:List Rw):List Rw:=(rows.foldl knit1 []).reverse
theorem knit_turn (acc:List Rw) (r:Rw) (R a b c:Sl) (hl:acc.length < 16777216) :
  GP.knit.b1 [R,.own (acc.map rwD).reverse,.v (oi r.1),.v (oi r.2.1),.v (oi r.2.2)]=some (.nx [R,.own ((knit1 acc r).map rwD).reverse,.v (oi r.1),.v (oi r.2.1),.v (oi r.2.2)]) ∨
  GP.knit.b1 [R,.own (acc.map rwD).reverse,.v (oi r.1),.v (oi r.2.1),.v (oi r.2.2)]=some (.ct [R,.own ((knit1 acc r).map rwD).reverse,.v (oi r.1),.v (oi r.2.1),.v (oi r.2.2)]):=by
 obtain ⟨lo,bh,v⟩:=r
 unfold GP.knit.b1
 cases v with
 | none=>right; simp [knit1]
 | some v =>
   left
   cases acc with
   | nil =>
     have e:D.tup [oi lo,oi bh,.int v]=rwD (lo,bh,some v):=rfl
     simp [knit1,e]
   | cons q t =>
     have last:ixD (.lst ((t.map rwD).reverse++[rwD q])) (.int (-1))=some (rwD q):=ixL_last _ _
     have le:ixN (t.length+1) (-1)=some t.length:=by rw [ixN_last (by omega)]; rfl
     have hl':t.length+1 < 16777216:=by simpa using hl
     have e2:∀ x:Option Int,eqD (oi x) (D.int v)=some (.bl (decide (x=some v))):=fun x=>eqD_oi x (some v)
     by_cases h1:q.2.1=lo
     · by_cases h2 : q.2.2 = some v
       · have e : D.tup [oi q.1, oi bh, .int v] = rwD (q.1, bh, some v) := rfl
         simp [knit1,h1,h2,last,le,e2,e]
       · have e : D.tup [oi lo, oi bh, .int v] = rwD (lo, bh, some v) := rfl
         simp [knit1,h1,h2,last,le,e2,hl',e]
     · have e : D.tup [oi lo, oi bh, .int v] = rwD (lo, bh, some v) := rfl
       simp [knit1,h1,last,le,hl',e]
theorem knit1_len (acc:List Rw) (r:Rw):(knit1 acc r).length<=acc.length+1:=by
 unfold knit1
 split
 · omega
 · split
   · simp
   · split <;> simp
theorem knit_loop (R:Sl):∀ (rows acc:List Rw) (a b c:Sl),acc.length+rows.length < 16777216 →
  ∃ a' b' c',jK (tupG 3 (zO (zV 2) (zO (zV 3) (zO (zV 4) tgNil)))) GP.knit.b1 (rows.map rwD) [R,.own (acc.map rwD).reverse,a,b,c]=some (.nx [R,.own ((rows.foldl knit1 acc).map rwD).reverse,a',b',c'])
 | [],acc,a,b,c,_=>⟨a,b,c,rfl⟩
 | r :: rows, acc, a, b, c, h => by
   simp only [List.length_cons] at h
   have hl:=knit1_len acc r
   obtain ⟨a',b',c',ih⟩:=knit_loop R rows (knit1 acc r) (.v (oi r.1)) (.v (oi r.2.1)) (.v (oi r.2.2)) (by omega)
   refine ⟨a',b',c',?_⟩
   rcases knit_turn acc r R a b c (by omega) with e | e <;> simp [jK,e,ih]
theorem knit_eq (rows:List Rw) (h:rows.length < 16777216):GP.knit.f [.lst (rows.map rwD)]=some (.fresh ((knitF rows).map rwD)):=by
 obtain ⟨a,b,c,e⟩:=knit_loop (.v (.lst (rows.map rwD))) rows [] .no .no .no (by simpa using h)
 simp only [List.reverse_nil,List.map_nil] at e
 unfold GP.knit.f runG GP.knit.g
 have fl:=jV (knitF rows)
 unfold knitF at fl ⊢
 rw [List.map_reverse] at fl ⊢
 simp [args,e,fl]
theorem wF (rows:List Rw):(knitF rows).length<=rows.length:=by
 unfold knitF
 rw [List.length_reverse]
 have:∀ (rows acc:List Rw),(rows.foldl knit1 acc).length<=acc.length+rows.length:=by
  intro rows
  induction rows with
  | nil=>intro acc; simp
  | cons r t ih =>
    intro acc
    have:=ih (knit1 acc r)
    have:=knit1_len acc r
    simp only [List.foldl_cons,List.length_cons]
    omega
 have:=this rows []
 simpa using this
def adjOk:List Rw->Prop
 | b::a::t=>¬ (a.2.1=b.1/\a.2.2=b.2.2)/\adjOk (a::t)
 | _=>True
structure KI (acc:List Rw):Prop where
 ok:∀ r∈acc,ok3 r
 pw:acc.Pairwise fun b a=>ahead a b
 val:∀ r∈acc,r.2.2≠none
 adj:adjOk acc
theorem KI.nil:KI []:=⟨(fun _ h=>nomatch h),List.Pairwise.nil,(fun _ h=>nomatch h),trivial⟩
theorem qT (r:Rw) (p:Int):has3 r p=true↔(∀ a,r.1=some a->a<=p)/\(∀ b,r.2.1=some b->p < b):=xQ _ _
theorem knit1_step {acc:List Rw} {r:Rw} (k:KI acc) (ho:ok3 r) (ha:∀ a∈acc,ahead a r) :
  KI (knit1 acc r)/\(∀ r',ahead r r'->(∀ a∈acc,ahead a r')->∀ a∈knit1 acc r,ahead a r')/\∀ p v,Tel (knit1 acc r) p v↔Tel acc p v \/ (has3 r p=true/\r.2.2=some v):=by
 obtain ⟨lo,bh,w⟩:=r
 cases w with
 | none =>
   refine ⟨k,fun r' _ h=>h,fun p v=>⟨.inl,fun h=>h.elim id fun z=>by simp at z⟩⟩
 | some w =>
   cases acc with
   | nil =>
     refine ⟨⟨?_,?_,?_,trivial⟩,?_,?_⟩
     · intro x hx; simp [knit1] at hx; subst hx; exact ho
     · simp [knit1]
     · intro x hx; simp [knit1] at hx; subst hx; simp
     · intro r' h1 _ a h; simp [knit1] at h; subst h; exact h1
     · intro p v; simp [knit1,Tel]
   | cons q t =>
     obtain ⟨x,y,hx,hy,hxy⟩:=ha q List.mem_cons_self
     simp only at hy
     have pw:=List.pairwise_cons.mp k.pw
     by_cases hm:q.2.1=lo/\q.2.2=some w
     · have e : knit1 (q :: t) (lo, bh, some w) = (q.1, bh, some w) :: t := by simp [knit1, hm.1, hm.2]
       rw [e]
       have exy:x=y:=by
        have:=hm.1
        rw [hx,hy] at this
        exact Option.some.inj this
       have hn:∀ p,has3 (q.1,bh,some w) p=true↔has3 q p=true \/ has3 (lo,bh,some w) p=true:=by
        intro p
        rw [qT,qT,qT]
        simp only
        constructor
        · rintro ⟨h1, h2⟩
          by_cases hp:p < x
          · exact .inl ⟨h1,fun b hb=>by rw [hx] at hb; cases hb; exact hp⟩
          · exact .inr ⟨fun a h=>by rw [hy] at h; cases h; omega,h2⟩
        · rintro (⟨h1, h2⟩ | ⟨h1, h2⟩)
          · refine ⟨h1, fun b hb => ?_⟩
            have:=h2 x hx
            have:=ho y b hy hb
            omega
          · refine ⟨fun a h => ?_, h2⟩
            have:=k.ok q List.mem_cons_self a x h hx
            have:=h1 y hy
            omega
       refine ⟨⟨?_,?_,?_,?_⟩,?_,?_⟩
       · intro z hz
         rcases List.mem_cons.mp hz with rfl | hz
         · intro a b h1 h2
           have:=k.ok q List.mem_cons_self a x h1 hx
           have:=ho y b hy h2
           omega
         · exact k.ok z (List.mem_cons_of_mem _ hz)
       · refine List.pairwise_cons.mpr ⟨fun a h => ?_, pw.2⟩
         exact pw.1 a h
       · intro z hz
         rcases List.mem_cons.mp hz with rfl | hz
         · simp
         · exact k.val z (List.mem_cons_of_mem _ hz)
       · have ka := k.adj
         cases t with
         | nil=>trivial
         | cons a t =>
           refine ⟨fun h=>ka.1 ⟨h.1,?_⟩,ka.2⟩
           rw [hm.2]
           exact h.2
       · intro r' h1 h2 a h
         rcases List.mem_cons.mp h with rfl | h
         · exact h1
         · exact h2 a (List.mem_cons_of_mem _ h)
       · intro p v
         constructor
         · rintro ⟨z, hz, h1, h2⟩
           rcases List.mem_cons.mp hz with rfl | hz
           · rcases (hn p).mp h1 with h3 | h3
             · exact .inl ⟨q,List.mem_cons_self,h3,hm.2.trans h2⟩
             · exact .inr ⟨h3,h2⟩
           · exact .inl ⟨z,List.mem_cons_of_mem _ hz,h1,h2⟩
         · rintro (⟨z, hz, h1, h2⟩ | ⟨h1, h2⟩)
           · rcases List.mem_cons.mp hz with rfl | hz
             · exact ⟨_,List.mem_cons_self,(hn p).mpr (.inl h1),by rw [hm.2] at h2; exact h2⟩
             · exact ⟨z,List.mem_cons_of_mem _ hz,h1,h2⟩
           · exact ⟨_,List.mem_cons_self,(hn p).mpr (.inr h1),h2⟩
     · have e : knit1 (q :: t) (lo, bh, some w) = (lo, bh, some w) :: q :: t := by simp only [knit1]; rw [if_neg hm]
       rw [e]
       refine ⟨⟨?_,List.pairwise_cons.mpr ⟨ha,k.pw⟩,?_,hm,k.adj⟩,?_,?_⟩
       · intro z hz
         rcases List.mem_cons.mp hz with rfl | hz
         · exact ho
         · exact k.ok z hz
       · intro z hz
         rcases List.mem_cons.mp hz with rfl | hz
         · simp
         · exact k.val z hz
       · intro r' h1 h2 a h
         rcases List.mem_cons.mp h with rfl | h
         · exact h1
         · exact h2 a h
       · intro p v
         constructor
         · rintro ⟨z, hz, h1, h2⟩
           rcases List.mem_cons.mp hz with rfl | hz
           · exact .inr ⟨h1,h2⟩
           · exact .inl ⟨z,hz,h1,h2⟩
         · rintro (⟨z, hz, h1, h2⟩ | ⟨h1, h2⟩)
           · exact ⟨z,List.mem_cons_of_mem _ hz,h1,h2⟩
           · exact ⟨_,List.mem_cons_self,h1,h2⟩
theorem vL:∀ (rows acc:List Rw),KI acc->Ord rows->(∀ a∈acc,∀ r∈rows,ahead a r)->KI (rows.foldl knit1 acc)/\∀ p v,Tel (rows.foldl knit1 acc) p v↔Tel acc p v \/ Tel rows p v
 | [],acc,k,_,_=>⟨k,fun p v=>⟨.inl,fun h=>h.elim id fun ⟨r,hr,_⟩=>nomatch hr⟩⟩
 | r :: rows, acc, k, o, h => by
   have pw:=List.pairwise_cons.mp o.pw
   obtain ⟨k1,h1,t1⟩:=knit1_step k (o.ok r List.mem_cons_self) fun a ha=>h a ha r List.mem_cons_self
   obtain ⟨k2,t2⟩:=vL rows (knit1 acc r) k1 ⟨fun z hz=>o.ok z (List.mem_cons_of_mem _ hz),pw.2⟩ fun a ha r' hr'=>h1 r' (pw.1 r' hr') (fun b hb=>h b hb r' (List.mem_cons_of_mem _ hr')) a ha
   refine ⟨k2,fun p v=>?_⟩
   show Tel (rows.foldl knit1 (knit1 acc r)) p v↔_
   rw [t2,t1]
   constructor
   · rintro ((h | ⟨h, e⟩) | ⟨z, hz, h⟩)
     · exact .inl h
     · exact .inr ⟨r,List.mem_cons_self,h,e⟩
     · exact .inr ⟨z,List.mem_cons_of_mem _ hz,h⟩
   · rintro (h' | ⟨z, hz, h'⟩)
     · exact .inl (.inl h')
     · rcases List.mem_cons.mp hz with rfl | hz
       · exact .inl (.inr h')
       · exact .inr ⟨z,hz,h'⟩
structure MapF (ps:List Rw):Prop where
 ord:Ord ps
 val:∀ r∈ps,r.2.2≠none
 adj:∀ (i:Nat) (a b:Rw),ps[i]? = some a->ps[i+1]? = some b->¬ (a.2.1=b.1/\a.2.2=b.2.2)
theorem adjOk_get:∀ {l:List Rw},adjOk l->∀ (i:Nat) (b a:Rw),l[i]? = some b->l[i+1]? = some a->¬ (a.2.1=b.1/\a.2.2=b.2.2)
 | [],_,i,b,a,e,_=>by simp at e
 | [x],_,i,b,a,e,e2=>by simp at e2
 | x :: y :: t, h, 0, b, a, e, e2 => by
   simp at e e2
   subst e e2
   exact h.1
 | x::y::t,h,i+1,b,a,e,e2=>adjOk_get h.2 i b a (by simpa using e) (by simpa using e2)
theorem KI.map {acc:List Rw} (k:KI acc):MapF acc.reverse:=by
 refine ⟨⟨fun r hr=>k.ok r (List.mem_reverse.mp hr),List.pairwise_reverse.mpr k.pw⟩,fun r hr=>k.val r (List.mem_reverse.mp hr),fun i a b h1 h2=>?_⟩
 have l2:=(List.getElem?_eq_some_iff.mp h2).1
 rw [List.length_reverse] at l2
 rw [List.getElem?_reverse (by omega)] at h1 h2
 refine adjOk_get k.adj (acc.length - 1 - (i+1)) b a h2 ?_
 rw [<- h1]
 congr 1
 omega
theorem tel_reverse {l:List Rw} {p v:Int} : Tel l.reverse p v↔Tel l p v:=⟨fun ⟨r,h,q⟩=>⟨r,List.mem_reverse.mp h,q⟩,fun ⟨r,h,q⟩=>⟨r,List.mem_reverse.mpr h,q⟩⟩
theorem wO {rows:List Rw} (o:Ord rows):MapF (knitF rows):=(vL rows [] KI.nil o (fun _ h=>nomatch h)).1.map
theorem vH {rows:List Rw} (o:Ord rows) (p v:Int):Tel (knitF rows) p v↔Tel rows p v:=by
 unfold knitF
 rw [tel_reverse,(vL rows [] KI.nil o (fun _ h=>nomatch h)).2]
 exact ⟨fun h=>h.elim (fun ⟨r,hr,_⟩=>nomatch hr) id,.inr⟩
def valL (rows:List Rw) (p:Int):Option Int:=rows.foldl (fun t r=>if has3 r p=true then r.2.2 else t) none
theorem wG {a b:Rw} {p:Int} (h:ahead a b) (h1:has3 a p=true) (h2:has3 b p=true):False:=by
 obtain ⟨x,y,hx,hy,hxy⟩:=h
 rw [qT] at h1 h2
 have:=h1.2 x hx
 have:=h2.1 y hy
 omega
theorem valL_none {rows:List Rw} {p:Int} (h:∀ r∈rows,has3 r p=false) (t:Option Int):rows.foldl (fun t r=>if has3 r p=true then r.2.2 else t) t=t:=by
 induction rows generalizing t with
 | nil=>rfl
 | cons r rows ih =>
   rw [List.foldl_cons,h r List.mem_cons_self]
   exact ih (fun z hz=>h z (List.mem_cons_of_mem _ hz)) _
theorem yA {rows:List Rw} (o:Ord rows) (p v:Int):valL rows p=some v↔Tel rows p v:=by
 have key:∀ (rows:List Rw),Ord rows->∀ t:Option Int,rows.foldl (fun t r=>if has3 r p=true then r.2.2 else t) t=(match rows.find? (fun r=>has3 r p) with | some r=>r.2.2 | none=>t):=by
  intro rows
  induction rows with
  | nil=>intro _ t; rfl
  | cons r rows ih =>
    intro o t
    have pw:=List.pairwise_cons.mp o.pw
    rw [List.foldl_cons]
    cases h:has3 r p with
    | true =>
      rw [List.find?_cons_of_pos (by exact h)]
      simp only [if_true]
      exact valL_none (fun z hz=>by
       cases hz':has3 z p with
       | false=>rfl
       | true=>exact (wG (pw.1 z hz) h hz').elim) _
    | false =>
      rw [List.find?_cons_of_neg (by simpa using h)]
      simp only [Bool.false_eq_true,if_false]
      exact ih ⟨fun z hz=>o.ok z (List.mem_cons_of_mem _ hz),pw.2⟩ t
 unfold valL
 rw [key rows o none]
 constructor
 · intro h
   cases hf:rows.find? (fun r=>has3 r p) with
   | none=>rw [hf] at h; cases h
   | some r =>
     rw [hf] at h
     exact ⟨r,List.mem_of_find?_eq_some hf,by simpa using List.find?_some hf,h⟩
 · rintro ⟨r, hr, h1, h2⟩
   cases hf:rows.find? (fun r=>has3 r p) with
   | none =>
     have:=List.find?_eq_none.mp hf r hr
     exact (this h1).elim
   | some r' =>
     have h3:has3 r' p=true:=by simpa using List.find?_some hf
     have hm:=List.mem_of_find?_eq_some hf
     have:r'=r:=by
      by_cases e:r'=r
      · exact e
      · exfalso
        have pw:=o.pw
        rcases List.mem_iff_getElem.mp hr with ⟨i,hi,rfl⟩
        rcases List.mem_iff_getElem.mp hm with ⟨j,hj,rfl⟩
        rcases Nat.lt_trichotomy i j with hlt | hlt | hlt
        · exact wG (List.pairwise_iff_getElem.mp pw i j hi hj hlt) h1 h3
        · subst hlt; exact e rfl
        · exact wG (List.pairwise_iff_getElem.mp pw j i hj hi hlt) h3 h1
     rw [this]
     exact h2
theorem valL_same {a b:List Rw} (oa:Ord a) (ob:Ord b) {p:Int} (h:∀ v,Tel a p v↔Tel b p v):valL a p=valL b p:=by
 cases ha:valL a p with
 | some v=>exact ((yA ob p v).mpr ((h v).mp ((yA oa p v).mp ha))).symm
 | none =>
   cases hb:valL b p with
   | none=>rfl
   | some v =>
     have:=(yA oa p v).mpr ((h v).mpr ((yA ob p v).mp hb))
     rw [ha] at this
     cases this
open Builtin.Int (intBits)
structure Drawn (rows:List Rw) (s:Int):Prop where
 ord:Ord rows
 fin:∀ r∈rows,∃ lo bh,r.1=some lo/\r.2.1=some bh/\bh<=s
theorem Drawn.snoc {rows:List Rw} {s lo bh:Int} {v:Option Int} (h:Drawn rows s) (h1:s<=lo) (h2:lo < bh):Drawn (rows++[(some lo,some bh,v)]) bh:=by
 refine ⟨⟨fun r hr=>?_,?_⟩,fun r hr=>?_⟩
 · rcases List.mem_append.mp hr with hr | hr
   · exact h.ord.ok r hr
   · have : r = (some lo, some bh, v) := by simpa using hr
     subst this
     intro a b e1 e2
     cases e1; cases e2; exact h2
 · refine List.pairwise_append.mpr ⟨h.ord.pw, List.pairwise_singleton _ _, fun a ha b hb => ?_⟩
   have:b=(some lo,some bh,v):=by simpa using hb
   subst this
   obtain ⟨x,y,e1,e2,e3⟩:=h.fin a ha
   exact ⟨y,lo,e2,rfl,by omega⟩
 · rcases List.mem_append.mp hr with hr | hr
   · obtain ⟨x, y, e1, e2, e3⟩ := h.fin r hr
     exact ⟨x,y,e1,e2,by omega⟩
   · have : r = (some lo, some bh, v) := by simpa using hr
     subst this
     exact ⟨lo,bh,rfl,rfl,Int.le_refl _⟩
end FL
namespace FL
open PySem PySem.Spec PyProof.Rows L2
open Builtin.Int (intBits)
@[simp] theorem methR_ins (n:Nat) (cs:List Nat) (F:Nat->List D->Option Ret) (t:Nat) (es l:List D):methR n cs F (.ins t es) l=if t∈cs/\l.length=n then F t (.ins t es::l) else none:=rfl
end FL
namespace FL
open PySem PySem.Spec PyProof.Rows L2
open Builtin.Int (intBits)
theorem vI (ns:List Int) (k:Nat):GL.nth.f [.lst (ns.map D.int),.int (k:Int)]=some (.val (.int (cel ns k))):=by
 unfold GL.nth.f runG GL.nth.g
 have e:cutD (ns.map D.int) (some (k:Int)) (some ((k:Int)+1))=(if k < ns.length then [D.int (cel ns k)] else []):=by
  unfold cutD HT.sIx
  have h1 : ¬ (k:Int) < 0:=by omega
  have h2 : ¬ (k:Int)+1 < 0:=by omega
  simp only [h1,h2,if_false,List.length_map]
  by_cases h:k < ns.length
  · have e1 : min (k : Int).toNat ns.length = k := by omega
    have e2:min ((k:Int)+1).toNat ns.length=k+1:=by omega
    rw [e1,e2,List.drop_eq_getElem_cons (show k < (ns.map D.int).length by simpa using h),show k+1 - k=1 by omega]
    simp [cel,List.getD,h]
  · have e1 : min (k : Int).toNat ns.length = ns.length := by omega
    rw [e1]
    simp [h]
 by_cases h:k < ns.length
 · rw [if_pos h] at e
   simp [args,e]
 · rw [if_neg h] at e
   have hz:cel ns k=0:=by simp [cel,List.getD,List.getElem?_eq_none (Nat.le_of_not_lt h)]
   simp [args,e,hz]
end FL
namespace FL
open PySem PySem.Spec PyProof.Rows L2
theorem valL_find {rows:List Rw} (o:Ord rows) (p:Int):valL rows p=(match rows.find? (fun r=>has3 r p) with | some r=>r.2.2 | none=>none):=by
 cases hf:rows.find? (fun r=>has3 r p) with
 | none =>
   cases hv:valL rows p with
   | none=>rfl
   | some v =>
     obtain ⟨r,hr,h1,_⟩:=(yA o p v).mp hv
     exact (List.find?_eq_none.mp hf r hr h1).elim
 | some r =>
   have hm:=List.mem_of_find?_eq_some hf
   have h3:has3 r p=true:=by simpa using List.find?_some hf
   cases hw:r.2.2 with
   | some v=>exact ((yA o p v).mpr ⟨r,hm,h3,hw⟩).trans hw.symm
   | none =>
     cases hv:valL rows p with
     | none=>exact hw.symm
     | some v =>
       obtain ⟨r',hr',h1,h2⟩:=(yA o p v).mp hv
       have:r'=r:=by
        by_cases e:r'=r
        · exact e
        · exfalso
          rcases List.mem_iff_getElem.mp hr' with ⟨i,hi,rfl⟩
          rcases List.mem_iff_getElem.mp hm with ⟨j,hj,rfl⟩
          rcases Nat.lt_trichotomy i j with hlt | hlt | hlt
          · exact wG (List.pairwise_iff_getElem.mp o.pw i j hi hj hlt) h1 h3
          · subst hlt; exact e rfl
          · exact wG (List.pairwise_iff_getElem.mp o.pw j i hj hi hlt) h3 h1
       rw [this,hw] at h2
       cases h2
def runsR (here:Option Int) (b:Bool):List Rw->List Rw
 | []=>if here≠none \/ b=true then [(here,none,none)] else []
 | r::t=>(if r.1≠here then [(here,r.1,none)] else [])++r::runsR r.2.1 false t
def qF (ps:List Rw):List Rw:=runsR none true ps
def runsB (here:Option Int):List Rw->List Rw
 | []=>[]
 | r::t=>(if r.1≠here then [(here,r.1,none)] else [])++r::runsB r.2.1 t
def lastB (here:Option Int):List Rw->Option Int
 | []=>here
 | r::t=>lastB r.2.1 t
theorem runsR_eq:∀ (ps:List Rw) (here:Option Int) (b:Bool),runsR here b ps=runsB here ps++(if lastB here ps≠none \/ (b=true/\ps=[]) then [(lastB here ps,none,none)] else [])
 | [],here,b=>by simp [runsR,runsB,lastB]
 | r :: t, here, b => by
   rw [runsR,runsR_eq t]
   simp [runsB,lastB]
theorem vU:∀ (ps:List Rw) (here:Option Int),(runsB here ps).length<=2 * ps.length
 | [],here=>by simp [runsB]
 | r :: t, here => by
   have:=vU t r.2.1
   rw [runsB]
   split <;> simp <;> omega
theorem vG (R:Sl):∀ (ps acc:List Rw) (here:Option Int) (a b c:Sl),acc.length+2 * ps.length < 16777216->∃ a' b' c',jK (tupG 3 (zO (zV 3) (zO (zV 4) (zO (zV 5) tgNil)))) GP.runs_of.b1 (ps.map rwD) [R,.own (acc.map rwD),.v (oi here),a,b,c]=some (.nx [R,.own ((acc++runsB here ps).map rwD),.v (oi (lastB here ps)),a',b',c'])
 | [],acc,here,a,b,c,_=>⟨a,b,c,by simp [runsB,lastB,jK]⟩
 | r :: ps, acc, here, a, b, c, h => by
   simp only [List.length_cons] at h
   have e0:D.tup [oi here,oi r.1,.non]=rwD (here,r.1,none):=rfl
   have e1:D.tup [oi r.1,oi r.2.1,oi r.2.2]=rwD r:=rfl
   have z1:acc.length < 16777216:=by omega
   have z2:acc.length+1 < 16777216:=by omega
   by_cases hr:r.1=here
   · subst hr
     obtain ⟨a',b',c',ih⟩:=vG R ps (acc++[r]) r.2.1 (.v (oi r.1)) (.v (oi r.2.1)) (.v (oi r.2.2)) (by simp; omega)
     refine ⟨a',b',c',?_⟩
     simp only [List.map_append,List.map_cons,List.map_nil,List.append_assoc,List.cons_append,List.nil_append] at ih
     have turn:GP.runs_of.b1 [R,.own (acc.map rwD),.v (oi r.1),.v (oi r.1),.v (oi r.2.1),.v (oi r.2.2)]=some (.nx [R,.own (acc.map rwD++[rwD r]),.v (oi r.2.1),.v (oi r.1),.v (oi r.2.1),.v (oi r.2.2)]):=by simp [GP.runs_of.b1,z1,e1]
     simp [jK,turn,ih,runsB,lastB]
   · obtain ⟨a', b', c', ih⟩ := vG R ps (acc ++ [(here, r.1, none), r]) r.2.1 (.v (oi r.1)) (.v (oi r.2.1)) (.v (oi r.2.2)) (by simp; omega)
     refine ⟨a',b',c',?_⟩
     simp only [List.map_append,List.map_cons,List.map_nil,List.append_assoc,List.cons_append,List.nil_append] at ih
     have turn:GP.runs_of.b1 [R,.own (acc.map rwD),.v (oi here),.v (oi r.1),.v (oi r.2.1),.v (oi r.2.2)]=some (.nx [R,.own (acc.map rwD++[rwD (here,r.1,none),rwD r]),.v (oi r.2.1),.v (oi r.1),.v (oi r.2.1),.v (oi r.2.2)]):=by simp [GP.runs_of.b1,z1,z2,e0,e1,hr]
     simp [jK,turn,ih,runsB,lastB,hr]
theorem vC (ps:List Rw) (h:ps.length<=1000000):GP.runs_of.f [.lst (ps.map rwD)]=some (.fresh ((qF ps).map rwD)):=by
 obtain ⟨a,b,c,e⟩:=vG (.v (.lst (ps.map rwD))) ps [] none .no .no .no (by simp; omega)
 have hl:=vU ps none
 have z:(runsB none ps).length < 16777216:=by omega
 simp only [List.map_nil,List.nil_append,vJ] at e
 have fl:=jV (qF ps)
 unfold qF at fl ⊢
 rw [runsR_eq] at fl ⊢
 unfold GP.runs_of.f runG GP.runs_of.g
 have e0:D.tup [oi (lastB none ps),.non,.non]=rwD (lastB none ps,none,none):=rfl
 cases hb:lastB none ps with
 | some x =>
   rw [hb] at e e0 fl
   simp at fl e0
   simp [args,e,z,e0,fl]
 | none =>
   rw [hb] at e e0 fl
   cases ps with
   | nil =>
     simp [runsB] at e fl
     simp [args,e,runsB,rwD]
   | cons r t =>
     simp at fl
     simp only [List.map_cons,vJ] at e
     simp [args,e,fl]
def befo (p:Int):Option Int->Bool
 | some a=>decide (p < a)
 | none=>false
def inso (p:Int):Option Int->Bool
 | some b=>decide (p < b)
 | none=>true
def lookF (p:Int) (here:Option Int):List Rw->Rw
 | []=>(here,none,none)
 | r :: t => if befo p r.1 = true then (here, r.1, none)
   else if inso p r.2.1=true then r else lookF p r.2.1 t
theorem look_runs (p:Int):∀ (ps:List Rw) (here:Option Int) (b:Bool),Ord ps->(∀ r,ps.head? = some r->r.1=none->here=none)->(∀ h,here=some h->h<=p)->(here≠none \/ b=true)->(runsR here b ps).find? (fun r=>has3 r p)=some (lookF p here ps)
 | [], here, b, _, _, h, hb => by
   have:has3 (here,none,none) p=true:=by
    rw [qT]
    exact ⟨h,fun b e=>by cases e⟩
   simp [runsR,hb,lookF,this]
 | r :: t, here, b, o, hN, h, hb => by
   obtain ⟨lo,bh,w⟩:=r
   have pw:=List.pairwise_cons.mp o.pw
   rw [runsR,lookF]
   simp only
   by_cases h1:befo p lo=true
   · rw [if_pos h1]
     cases lo with
     | none=>simp [befo] at h1
     | some a =>
       have hp:p < a:=by simpa [befo] using h1
       have hne:(some a:Option Int)≠here:=fun e=>by
        have:=h a e.symm
        omega
       have hg:has3 (here,some a,none) p=true:=by
        rw [qT]
        exact ⟨h,fun b e=>by cases e; exact hp⟩
       rw [if_pos hne]
       simp [hg]
   · rw [if_neg h1]
     have hlo:∀ a,lo=some a->a<=p:=fun a e=>by
      subst e
      have : ¬ p < a:=by simpa [befo] using h1
      omega
     have skip:(if lo≠here then [((here,lo,none):Rw)] else []).find? (fun r=>has3 r p)=none:=by
      split
      · rename_i hne
        have:has3 (here,lo,none) p=false:=by
         rw [Bool.eq_false_iff]
         intro z
         rw [qT] at z
         cases lo with
         | none =>
           cases here with
           | none=>exact hne rfl
           | some x =>
             have:=hN _ rfl rfl
             cases this
         | some a =>
           have:=z.2 a rfl
           have:=hlo a rfl
           omega
        simp [this]
      · rfl
     rw [List.find?_append,skip]
     simp only [Option.none_or]
     by_cases h2:inso p bh=true
     · rw [if_pos h2]
       have:has3 (lo,bh,w) p=true:=by
        rw [qT]
        refine ⟨hlo,fun b e=>?_⟩
        simp only at e
        subst e
        simpa [inso] using h2
       rw [List.find?_cons_of_pos (by exact this)]
     · rw [if_neg h2]
       cases bh with
       | none=>simp [inso] at h2
       | some b =>
         have hp:b<=p:=by
          have : ¬ p < b:=by simpa [inso] using h2
          omega
         have:has3 (lo,some b,w) p=false:=by
          rw [Bool.eq_false_iff]
          intro z
          rw [qT] at z
          have:=z.2 b rfl
          omega
         rw [List.find?_cons_of_neg (by simpa using this)]
         exact look_runs p t (some b) false ⟨fun z hz=>o.ok z (List.mem_cons_of_mem _ hz),pw.2⟩ (fun r' e e'=>by
          obtain ⟨x,y,_,hy,_⟩:=pw.1 r' (List.mem_of_mem_head? e)
          rw [e'] at hy
          cases hy) (fun x e=>by cases e; exact hp) (.inl (by simp))
theorem look_all {ps:List Rw} (o:Ord ps) (p:Int):(qF ps).find? (fun r=>has3 r p)=some (lookF p none ps):=look_runs p ps none true o (fun _ _ _=>rfl) (fun h e=>by cases e) (.inr rfl)
theorem look_val (p:Int):∀ (ps:List Rw) (here:Option Int),Ord ps->(lookF p here ps).2.2=(match ps.find? (fun r=>has3 r p) with | some r=>r.2.2 | none=>none)
 | [],here,_=>rfl
 | r :: t, here, o => by
   have pw:=List.pairwise_cons.mp o.pw
   obtain ⟨lo,bh,w⟩:=r
   rw [lookF]
   simp only
   by_cases h1:befo p lo=true
   · rw [if_pos h1]
     cases lo with
     | none=>simp [befo] at h1
     | some a =>
       have hp:p < a:=by simpa [befo] using h1
       have:((some a,bh,w)::t).find? (fun r=>has3 r p)=none:=by
        rw [List.find?_eq_none]
        intro z hz hh
        rw [qT] at hh
        rcases List.mem_cons.mp hz with rfl | hz
        · have := hh.1 a rfl
          omega
        · obtain ⟨x, y, hx, hy, hxy⟩ := pw.1 z hz
          have:=hh.1 y hy
          have:=o.ok _ List.mem_cons_self a x rfl hx
          omega
       rw [this]
   · rw [if_neg h1]
     have hlo:∀ a,lo=some a->a<=p:=fun a e=>by
      subst e
      have : ¬ p < a:=by simpa [befo] using h1
      omega
     by_cases h2:inso p bh=true
     · rw [if_pos h2]
       have:has3 (lo,bh,w) p=true:=by
        rw [qT]
        refine ⟨hlo,fun b e=>?_⟩
        simp only at e
        subst e
        simpa [inso] using h2
       rw [List.find?_cons_of_pos (by exact this)]
     · rw [if_neg h2]
       have:has3 (lo,bh,w) p=false:=by
        rw [Bool.eq_false_iff]
        intro z
        rw [qT] at z
        cases bh with
        | none=>simp [inso] at h2
        | some b =>
          have:=z.2 b rfl
          have : ¬ p < b:=by simpa [inso] using h2
          omega
       rw [List.find?_cons_of_neg (by simpa using this)]
       exact look_val p t bh ⟨fun z hz=>o.ok z (List.mem_cons_of_mem _ hz),pw.2⟩
theorem jQ (ps:List Rw):(qF ps).length<=2 * ps.length+1:=by
 unfold qF
 rw [runsR_eq]
 have:=vU ps none
 split <;> simp <;> omega
def part1 (s:Spn) (r:Rw):Option Rw:=(meetS (r.1,r.2.1) s).map fun u=>(u.1,u.2,r.2.2)
def zT (ps:List Rw) (s:Spn):List Rw:=ps.filterMap (part1 s)
theorem wQ (R:Sl) (s:Spn):∀ (ps acc:List Rw) (a b c d:Sl),acc.length+ps.length < 16777216->∃ a' b' c' d',jK (tupG 3 (zO (zV 3) (zO (zV 4) (zO (zV 5) tgNil)))) GP.parts_in.b1 (ps.map rwD) [R,.v (spD s),.own (acc.map rwD),a,b,c,d]=some (.nx [R,.v (spD s),.own ((acc++zT ps s).map rwD),a',b',c',d'])
 | [],acc,a,b,c,d,_=>⟨a,b,c,d,by simp [zT,jK]⟩
 | r :: ps, acc, a, b, c, d, h => by
   simp only [List.length_cons] at h
   have me:GP.meet.f [.tup [oi r.1,oi r.2.1],spD s]=some (.val (oS (meetS (r.1,r.2.1) s))):=meet_eq (r.1,r.2.1) s
   cases hm:meetS (r.1,r.2.1) s with
   | none =>
     rw [hm] at me
     obtain ⟨a',b',c',d',ih⟩:=wQ R s ps acc (.v (oi r.1)) (.v (oi r.2.1)) (.v (oi r.2.2)) (.v .non) (by omega)
     refine ⟨a',b',c',d',?_⟩
     have turn:GP.parts_in.b1 [R,.v (spD s),.own (acc.map rwD),.v (oi r.1),.v (oi r.2.1),.v (oi r.2.2),d]=some (.nx [R,.v (spD s),.own (acc.map rwD),.v (oi r.1),.v (oi r.2.1),.v (oi r.2.2),.v .non]):=by simp [GP.parts_in.b1,me,oS]
     have e:zT (r::ps) s=zT ps s:=by simp [zT,part1,hm]
     rw [e]
     simp [jK,turn,ih]
   | some u =>
     rw [hm] at me
     obtain ⟨a',b',c',d',ih⟩:=wQ R s ps (acc++[(u.1,u.2,r.2.2)]) (.v (oi r.1)) (.v (oi r.2.1)) (.v (oi r.2.2)) (.v (spD u)) (by simp; omega)
     refine ⟨a',b',c',d',?_⟩
     have z:acc.length < 16777216:=by omega
     have e0:D.tup [oi u.1,oi u.2,oi r.2.2]=rwD (u.1,u.2,r.2.2):=rfl
     have turn:GP.parts_in.b1 [R,.v (spD s),.own (acc.map rwD),.v (oi r.1),.v (oi r.2.1),.v (oi r.2.2),d]=some (.nx [R,.v (spD s),.own (acc.map rwD++[rwD (u.1,u.2,r.2.2)]),.v (oi r.1),.v (oi r.2.1),.v (oi r.2.2),.v (spD u)]):=by simp [GP.parts_in.b1,me,oS,z,e0]
     have e:zT (r::ps) s=(u.1,u.2,r.2.2)::zT ps s:=by simp [zT,part1,hm]
     rw [e]
     simp only [List.map_append,List.map_cons,List.map_nil,List.append_assoc,List.cons_append,List.nil_append] at ih ⊢
     simp [jK,turn,ih]
theorem yY (ps:List Rw) (s:Spn):(zT ps s).length<=ps.length:=List.length_filterMap_le _ _
theorem wL (ps:List Rw) (s:Spn) (h:ps.length < 16777216):GP.parts_in.f [.lst (ps.map rwD),spD s]=some (.fresh ((zT ps s).map rwD)):=by
 obtain ⟨a,b,c,d,e⟩:=wQ (.v (.lst (ps.map rwD))) s ps [] .no .no .no .no (by simpa using h)
 simp only [List.map_nil,List.nil_append] at e
 unfold GP.parts_in.f runG GP.parts_in.g
 simp [args,e,jV]
theorem jE {s:Spn} {r r':Rw} (h:part1 s r=some r'):ok3 r'/\r'.2.2=r.2.2/\(∀ p,has3 r' p=(has3 r p && hasS s p))/\(∀ x,r.2.1=some x->∃ x',r'.2.1=some x'/\x'<=x)/\(∀ y,r.1=some y->∃ y',r'.1=some y'/\y<=y')/\(∀ x,s.2=some x->∃ x',r'.2.1=some x'/\x'<=x)/\(∀ y,s.1=some y->∃ y',r'.1=some y'/\y<=y'):=by
 unfold part1 at h
 cases hm:meetS (r.1,r.2.1) s with
 | none=>rw [hm] at h; cases h
 | some u =>
   rw [hm] at h
   cases h
   have hp:=fun p=>hasO_meet (r.1,r.2.1) s p
   rw [hm] at hp
   refine ⟨meetS_ok hm,rfl,fun p=>hp p,?_,?_,?_,?_⟩
   all_goals (unfold meetS at hm; split at hm; (· cases hm); cases hm)
   · intro x hx
     show ∃ x',qI r.2.1 s.2=some x'/\x'<=x
     rw [hx]
     cases s.2 <;> simp [qI]
     omega
   · intro y hy
     show ∃ y',lateL r.1 s.1=some y'/\y<=y'
     rw [hy]
     cases s.1 <;> simp [lateL]
     omega
   · intro x hx
     show ∃ x',qI r.2.1 s.2=some x'/\x'<=x
     rw [hx]
     cases r.2.1 <;> simp [qI]
     omega
   · intro y hy
     show ∃ y',lateL r.1 s.1=some y'/\y<=y'
     rw [hy]
     cases r.1 <;> simp [lateL]
     omega
theorem part1_none {s:Spn} {r:Rw} (h:part1 s r=none) (p:Int):(has3 r p && hasS s p)=false:=by
 unfold part1 at h
 have hp:=hasO_meet (r.1,r.2.1) s p
 cases hm:meetS (r.1,r.2.1) s with
 | none=>rw [hm] at hp; exact hp.symm
 | some u=>rw [hm] at h; cases h
theorem mem_parts {ps:List Rw} {s:Spn} {r':Rw} : r'∈zT ps s↔∃ r∈ps,part1 s r=some r':=List.mem_filterMap
theorem parts_ord {ps:List Rw} (o:Ord ps) (s:Spn):Ord (zT ps s):=by
 refine ⟨fun r' h=>?_,?_⟩
 · obtain ⟨r, _, h⟩ := mem_parts.mp h
   exact (jE h).1
 · unfold zT
   rw [List.pairwise_filterMap]
   refine o.pw.imp fun {a b} hab a' ha b' hb=>?_
   obtain ⟨x,y,hx,hy,hxy⟩:=hab
   obtain ⟨x',e1,h1⟩:=(jE ha).2.2.2.1 x hx
   obtain ⟨y',e2,h2⟩:=(jE hb).2.2.2.2.1 y hy
   exact ⟨x',y',e1,e2,by omega⟩
theorem vM {ps:List Rw} {s:Spn} {p v:Int} : Tel (zT ps s) p v↔hasS s p=true/\Tel ps p v:=by
 constructor
 · rintro ⟨r', h, h1, h2⟩
   obtain ⟨r,hr,h⟩:=mem_parts.mp h
   obtain ⟨_,e,hh,_⟩:=jE h
   rw [hh p,Bool.and_eq_true] at h1
   exact ⟨h1.2,r,hr,h1.1,e ▸ h2⟩
 · rintro ⟨hs, r, hr, h1, h2⟩
   cases h:part1 s r with
   | none =>
     have:=part1_none h p
     rw [h1,hs] at this
     cases this
   | some r' =>
     obtain ⟨_,e,hh,_⟩:=jE h
     exact ⟨r',mem_parts.mpr ⟨r,hr,h⟩,by rw [hh p,h1,hs]; rfl,e.trans h2⟩
abbrev Rv:=Spn×Option Int
def rvD (r:Rv):D:=.tup [spD r.1,oi r.2]
@[simp] theorem rvD_flat (r:Rv):flat (rvD r)=true:=by simp [rvD]
@[simp] theorem rvD_flatR (r:Rv):flatR (rvD r)=some (.rt (.val (rvD r))):=yK (by simp)
@[simp] theorem rvD_shal (r:Rv) (n:Nat):shal (n+2) (rvD r)=true:=by simp [rvD]
@[simp] theorem rvD_tupG (h:List D->List Sl->Option (List Sl)) (r:Rv) (ds:List Sl):tupG 2 h (rvD r) ds=h [spD r.1,oi r.2] ds:=by simp [rvD]
@[simp] theorem rvD_eqv (r t:Rv):eqvD (rvD r) (rvD t)=decide (r=t):=by
 obtain ⟨a,b⟩:=r
 obtain ⟨x,y⟩:=t
 rw [Bool.eq_iff_iff]
 simp [rvD]
theorem MapF.nil:MapF []:=⟨⟨(fun _ h=>nomatch h),List.Pairwise.nil⟩,(fun _ h=>nomatch h),(fun i a b h _=>by simp at h)⟩
open Builtin.Int (intBits)
end FL
namespace FL
open PySem PySem.Spec PyProof.Rows L2
theorem loop_all {α : Type} {ga:D->List Sl->Option (List Sl)} {body:FS} (f : α->D) (q : α->Bool) (P:List Sl->Prop) (r:Ret):∀ (xs:List α) (ds:List Sl),P ds →
  (∀ x∈xs,∀ ds,P ds->∃ ds1,ga (f x) ds=some ds1/\((q x=true/\∃ ds2,body ds1=some (.nx ds2)/\P ds2) \/ (q x=false/\body ds1=some (.rt r)))) →
  (xs.all q=true/\∃ ds',jK ga body (xs.map f) ds=some (.nx ds')/\P ds') \/ (xs.all q=false/\jK ga body (xs.map f) ds=some (.rt r))
 | [],ds,h,_=>.inl ⟨rfl,ds,rfl,h⟩
 | x :: xs, ds, h, H => by
   obtain ⟨ds1,e1,hh⟩:=H x List.mem_cons_self ds h
   rcases hh with ⟨hq,ds2,e2,h2⟩ | ⟨hq,e2⟩
   · have ih := loop_all (ga := ga) (body := body) f q P r xs ds2 h2 fun y hy => H y (List.mem_cons_of_mem _ hy)
     simp only [List.map_cons,jK,e1,e2,Option.bind_some,List.all_cons,hq,Bool.true_and]
     exact ih
   · right
     simp [jK,e1,e2,hq]
theorem vS {α : Type} {ga:D->List Sl->Option (List Sl)} {fe:FE} {s0:List Sl} (f h : α->D):∀ (xs:List α),(∀ x∈xs,∃ ds1,ga (f x) s0=some ds1/\fe ds1=some (h x))->compL ga (fun _=>some true) fe s0 (xs.map f)=some (xs.map h)
 | [],_=>rfl
 | x :: xs, H => by
   obtain ⟨ds1,e1,e2⟩:=H x List.mem_cons_self
   have ih:=vS (ga:=ga) (fe:=fe) (s0:=s0) f h xs fun y hy=>H y (List.mem_cons_of_mem _ hy)
   simp only [List.map_cons,compL,e1,e2,ih,Option.bind_some,if_true,Option.map_some]
theorem compL_filt {α : Type} {ga:D->List Sl->Option (List Sl)} {tt:FT} {fe:FE} {s0:List Sl} (f : α->D) (p : α->Bool) (h : α->D):∀ (xs:List α),(∀ x∈xs,∃ ds1,ga (f x) s0=some ds1/\tt ds1=some (p x)/\(p x=true->fe ds1=some (h x)))->compL ga tt fe s0 (xs.map f)=some ((xs.filter p).map h)
 | [],_=>rfl
 | x :: xs, H => by
   obtain ⟨ds1,e1,e2,e3⟩:=H x List.mem_cons_self
   have ih:=compL_filt (ga:=ga) (tt:=tt) (fe:=fe) (s0:=s0) f p h xs fun y hy=>H y (List.mem_cons_of_mem _ hy)
   cases hp:p x with
   | true=>simp [compL,e1,e2,e3 hp,ih,hp]
   | false=>simp [compL,e1,e2,ih,hp]
theorem flats_spn (l:List Spn):flats (l.map spD)=true:=by
 induction l with
 | nil=>simp
 | cons a r ih=>simp [ih,spD]
def Til:Option Int->List Rw->Prop
 | _,[]=>False
 | here,r::rs=>r.1=here/\(∀ h x,here=some h->r.2.1=some x->h < x)/\(r.2.1=none->rs=[])/\∀ x,r.2.1=some x->Til (some x) rs
theorem til_runs:∀ (ps:List Rw) (here:Option Int) (b:Bool),Ord ps->(∀ r,ps.head? = some r->(r.1=none->here=none)/\∀ h l,here=some h->r.1=some l->h<=l)->(here≠none \/ b=true)->Til here (runsR here b ps)
 | [], here, b, _, _, hb => by
   unfold runsR
   rw [if_pos hb]
   exact ⟨rfl,(fun _ _ _ e=>nomatch e),fun _=>rfl,(fun _ e=>nomatch e)⟩
 | r :: t, here, b, o, hh, hb => by
   obtain ⟨hn,hs⟩:=hh r rfl
   have pw:=List.pairwise_cons.mp o.pw
   have o':Ord t:=⟨fun z hz=>o.ok z (List.mem_cons_of_mem _ hz),pw.2⟩
   have ok:=o.ok r List.mem_cons_self
   have core:Til r.1 (r::runsR r.2.1 false t):=by
    refine ⟨rfl,fun h x e1 e2=>ok h x e1 e2,fun e=>?_,fun x e=>?_⟩
    · cases t with
      | nil=>rw [e]; simp [runsR]
      | cons r' t' =>
        obtain ⟨x,y,h1,_⟩:=pw.1 r' List.mem_cons_self
        rw [e] at h1
        cases h1
    · rw [e]
      refine til_runs t (some x) false o' (fun r' hr'=>?_) (.inl (by simp))
      obtain ⟨x',y,h1,h2,h3⟩:=pw.1 r' (List.mem_of_mem_head? hr')
      rw [e] at h1
      cases h1
      rw [h2]
      exact ⟨(fun z=>nomatch z),fun h l e1 e2=>by cases e1; cases e2; exact h3⟩
   unfold runsR
   by_cases he:r.1=here
   · simp only [ne_eq, he, not_true_eq_false, if_false, List.nil_append]
     rw [<- he]
     exact core
   · simp only [ne_eq, he, not_false_eq_true, if_true, List.cons_append, List.nil_append]
     refine ⟨rfl,fun h x e1 e2=>?_,fun e=>?_,fun x e=>?_⟩
     · have := hs h x e1 e2
       have:x≠h:=fun z=>he (by rw [show r.1=some x from e2,e1,z])
       omega
     · have e' : r.1 = none := e
       exact (he (by rw [e',hn e'])).elim
     · have e' : r.1 = some x := e
       rw [e'] at core
       exact core
theorem jP {ps:List Rw} (o:Ord ps):Til none (qF ps):=til_runs ps none true o (fun r _=>⟨fun _=>rfl,(fun h l e1=>nomatch e1)⟩) (.inr rfl)
def befB (p:Int) (r:Rw):Bool:=match r.2.1 with | none=>true | some x=>decide (p < x)
theorem til_find (p:Int):∀ (rs:List Rw) (here:Option Int),Til here rs->(∀ h,here=some h->h<=p)->rs.find? (fun r=>has3 r p)=rs.find? (befB p)
 | [],_,h,_=>h.elim
 | r :: rs, here, h, hp => by
   obtain ⟨h1,h2,h3,h4⟩:=h
   have e:has3 r p=befB p r:=by
    unfold has3 hasS befB
    rw [h1]
    cases hr:here with
    | none=>cases r.2.1 <;> simp
    | some x=>have:=hp x hr; cases r.2.1 <;> simp [this]
   rw [List.find?_cons,List.find?_cons,e]
   cases hb:befB p r with
   | true=>rfl
   | false =>
     simp only
     cases hx:r.2.1 with
     | none=>unfold befB at hb; rw [hx] at hb; cases hb
     | some x =>
       unfold befB at hb
       rw [hx] at hb
       simp at hb
       exact til_find p rs (some x) (h4 x hx) fun h e=>by cases e; exact hb
def atB (p:Int) (rs:List Rw):Option Int:=match rs.find? (befB p) with | some r=>r.2.2 | none=>none
theorem atB_val {ps:List Rw} (o:Ord ps) (p:Int):atB p (qF ps)=valL ps p:=by
 unfold atB
 rw [<- til_find p _ none (jP o) (fun h e=>nomatch e),look_all o p]
 simp only
 rw [look_val p ps none o,valL_find o]
theorem atB_hd {p:Int} {r:Rw} {rs:List Rw} (h:befB p r=true):atB p (r::rs)=r.2.2:=by
 unfold atB
 rw [List.find?_cons,h]
theorem atB_tl {p:Int} {r:Rw} {rs:List Rw} (h:befB p r=false):atB p (r::rs)=atB p rs:=by
 unfold atB
 rw [List.find?_cons,h]
abbrev R4:=Option Int×Option Int×Option Int×Option Int
def r4D (r:R4):D:=.tup [oi r.1,oi r.2.1,oi r.2.2.1,oi r.2.2.2]
def Rem:Option Int->List Rw->Prop
 | _,[]=>False
 | here,r::rs=>(∀ h x,here=some h->r.2.1=some x->h < x)/\(r.2.1=none->rs=[])/\∀ x,r.2.1=some x->Rem (some x) rs
theorem Til.rem:∀ {rs:List Rw} {here:Option Int},Til here rs->Rem here rs
 | [],_,h=>h.elim
 | r::rs,_,⟨_,h2,h3,h4⟩=>⟨h2,h3,fun x e=>(h4 x e).rem⟩
def stp (e:Option Int):List Rw->List Rw
 | []=>[]
 | a::as=>if a.2.1=e then as else a::as
theorem jX (e:Option Int) (a:Rw) (as:List Rw):stp e (a::as)=if a.2.1=e then as else a::as:=rfl
def yQ:Nat->Option Int->List Rw->List Rw->List R4
 | 0,_,_,_=>[]
 | n+1,here,a::as,b::bs=>(here,qI a.2.1 b.2.1,a.2.2,b.2.2)::yQ n (qI a.2.1 b.2.1) (stp (qI a.2.1 b.2.1) (a::as)) (stp (qI a.2.1 b.2.1) (b::bs))
 | _+1,_,_,_=>[]
def Both (here:Option Int) (as bs:List Rw):Prop:=(as=[]/\bs=[]) \/ (Rem here as/\Rem here bs)
theorem xO {here:Option Int} {a:Rw} {as:List Rw} (h:Rem here (a::as)) {x:Int} (hx:∀ y,a.2.1=some y->x<=y):a.2.1=none/\stp (some x) (a::as)=a::as/\Rem (some x) (stp (some x) (a::as)) \/ a.2.1≠none/\Rem (some x) (stp (some x) (a::as)):=by
 obtain ⟨h1,h2,h3⟩:=h
 cases ha:a.2.1 with
 | none =>
   left
   have:stp (some x) (a::as)=a::as:=by rw [jX,ha,if_neg (by simp)]
   rw [this]
   exact ⟨rfl,rfl,(fun h y _ e=>by rw [ha] at e; cases e),h2,h3⟩
 | some y =>
   right
   refine ⟨by simp,?_⟩
   rw [jX,ha]
   by_cases hxy:y=x
   · subst hxy
     rw [if_pos rfl]
     exact h3 y ha
   · rw [if_neg (by simpa using hxy)]
     refine ⟨fun h z e1 e2=>?_,h2,h3⟩
     cases e1
     rw [ha] at e2
     cases e2
     have:=hx y ha
     omega
theorem both_stp {here:Option Int} {a b:Rw} {as bs:List Rw} (ha:Rem here (a::as)) (hb:Rem here (b::bs)) :
  Both (qI a.2.1 b.2.1) (stp (qI a.2.1 b.2.1) (a::as)) (stp (qI a.2.1 b.2.1) (b::bs)):=by
 cases h1:a.2.1 with
 | none =>
   cases h2:b.2.1 with
   | none =>
     left
     constructor
     · simp [qI,stp,h1,ha.2.1 h1]
     · simp [qI,stp,h2,hb.2.1 h2]
   | some y =>
     right
     have e:qI none (some y)=some y:=rfl
     rw [e]
     constructor
     · rcases xO ha (x := y) (by rw [h1]; exact fun _ e => nomatch e) with h | h
       · exact h.2.2
       · exact h.2
     · rcases xO hb (x := y) (by rw [h2]; intro z e; cases e; omega) with h | h
       · exact h.2.2
       · exact h.2
 | some x =>
   right
   cases h2:b.2.1 with
   | none =>
     have e:qI (some x) none=some x:=rfl
     rw [e]
     constructor
     · rcases xO ha (x := x) (by rw [h1]; intro z e; cases e; omega) with h | h
       · exact h.2.2
       · exact h.2
     · rcases xO hb (x := x) (by rw [h2]; exact fun _ e => nomatch e) with h | h
       · exact h.2.2
       · exact h.2
   | some y =>
     have e:qI (some x) (some y)=some (min x y):=rfl
     rw [e]
     constructor
     · rcases xO ha (x := min x y) (by rw [h1]; intro z e; cases e; omega) with h | h
       · exact h.2.2
       · exact h.2
     · rcases xO hb (x := min x y) (by rw [h2]; intro z e; cases e; omega) with h | h
       · exact h.2.2
       · exact h.2
theorem both_none {here:Option Int} {a b:Rw} {as bs:List Rw} (ha:Rem here (a::as)) (hb:Rem here (b::bs)) (h:qI a.2.1 b.2.1=none):stp none (a::as)=[]/\stp none (b::bs)=[]:=by
 cases h1:a.2.1 with
 | some x=>rw [h1] at h; cases h2:b.2.1 <;> rw [h2] at h <;> cases h
 | none =>
   cases h2:b.2.1 with
   | some y=>rw [h1,h2] at h; cases h
   | none=>exact ⟨by rw [jX,h1,if_pos rfl]; exact ha.2.1 h1,by rw [jX,h2,if_pos rfl]; exact hb.2.1 h2⟩
theorem pair_nil (n:Nat) (here:Option Int) (bs:List Rw):yQ n here [] bs=[]:=by cases n <;> rfl
theorem stp_len (e:Option Int) (a:Rw) (as:List Rw):(stp e (a::as)).length<=as.length+1:=by
 rw [jX]
 split <;> simp
theorem stp_two (a b:Rw) (as bs:List Rw):(stp (qI a.2.1 b.2.1) (a::as)).length+(stp (qI a.2.1 b.2.1) (b::bs)).length < (as.length+1)+(bs.length+1):=by
 have:qI a.2.1 b.2.1=a.2.1 \/ qI a.2.1 b.2.1=b.2.1:=by
  cases a.2.1 with
  | none=>right; cases b.2.1 <;> rfl
  | some x =>
    cases b.2.1 with
    | none=>left; rfl
    | some y =>
      rcases (by omega:min x y=x \/ min x y=y) with h | h
      · left; simp [qI,h]
      · right; simp [qI,h]
 have l1:=stp_len (qI a.2.1 b.2.1) a as
 have l2:=stp_len (qI a.2.1 b.2.1) b bs
 rcases this with h | h
 · have : (stp (qI a.2.1 b.2.1) (a :: as)).length = as.length := by rw [jX, if_pos h.symm]
   omega
 · have : (stp (qI a.2.1 b.2.1) (b :: bs)).length = bs.length := by rw [jX, if_pos h.symm]
   omega
@[simp] theorem r4D_tupG (h:List D->List Sl->Option (List Sl)) (r:R4) (ds:List Sl):tupG 4 h (r4D r) ds=h [oi r.1,oi r.2.1,oi r.2.2.1,oi r.2.2.2] ds:=by simp [r4D]
theorem flats_r4 (l:List R4):flats (l.map r4D)=true:=by
 induction l with
 | nil=>simp
 | cons a r ih=>simp [ih,r4D]
theorem drop_cons_get {α : Type} {A as:List α} {i:Nat} {a : α} (h:A.drop i=a::as):A[i]? = some a/\A.drop (i+1)=as/\i < A.length:=by
 have hi:i < A.length:=by
  rcases Nat.lt_or_ge i A.length with h1 | h1
  · exact h1
  · rw [List.drop_eq_nil_of_le h1] at h; cases h
 rw [List.drop_eq_getElem_cons hi] at h
 cases h
 exact ⟨List.getElem?_eq_getElem hi,rfl,hi⟩
theorem ix_rw {A:List Rw} {i:Nat} {a:Rw} (h:A[i]? = some a):ixD (.lst (A.map rwD)) (.int (i:Int))=some (rwD a):=by
 have hi:=(List.getElem?_eq_some_iff.mp h).1
 rw [wX _ (by omega) (by simp; omega),Int.toNat_natCast,List.getElem?_map,h]
 rfl
theorem paired_loop (R0 R1:Sl) (A B:List Rw):∀ (m i j:Nat) (here:Option Int) (acc:List R4) (x8 x9 x10:Sl),(A.drop i).length+(B.drop j).length<=m->Both here (A.drop i) (B.drop j)->acc.length+m < 16777216->∀ n,m < n →
  ∃ y5 y6 y7 y8 y9 y10,whileN (qA (zN ltD (zL 6) (callB lenD (zD (zL 2) zS)))) GP.paired.b1 n [R0,R1,.v (.lst (A.map rwD)),.v (.lst (B.map rwD)),.own (acc.map r4D),.v (oi here),.v (.int (i:Int)),.v (.int (j:Int)),x8,x9,x10] =
   some (.nx [R0,R1,.v (.lst (A.map rwD)),.v (.lst (B.map rwD)),.own ((acc++yQ m here (A.drop i) (B.drop j)).map r4D),y5,y6,y7,y8,y9,y10])
 | m,i,j,here,acc,x8,x9,x10,hm,hB,hz,0,hn=>by omega
 | m, i, j, here, acc, x8, x9, x10, hm, hB, hz, n + 1, hn => by
   cases hA:A.drop i with
   | nil =>
     have hi:A.length<=i:=List.drop_eq_nil_iff.mp hA
     have hi' : ¬ (i:Int) < (A.length:Int):=by omega
     refine ⟨.v (oi here),.v (.int (i:Int)),.v (.int (j:Int)),x8,x9,x10,?_⟩
     have tt:(qA (zN ltD (zL 6) (callB lenD (zD (zL 2) zS)))) [R0,R1,.v (.lst (A.map rwD)),.v (.lst (B.map rwD)),.own (acc.map r4D),.v (oi here),.v (.int (i:Int)),.v (.int (j:Int)),x8,x9,x10]=some false:=by simp [hi]
     rw [pair_nil,whileN,tt]
     simp
   | cons a as =>
     rw [hA] at hB hm
     rcases hB with ⟨h,_⟩ | ⟨ha,hb⟩
     · cases h
     · cases hBd : B.drop j with
       | nil=>rw [hBd] at hb; exact hb.elim
       | cons b bs =>
         rw [hBd] at hb hm
         cases m with
         | zero=>simp at hm
         | succ m =>
           obtain ⟨ga,da,hi⟩:=drop_cons_get hA
           obtain ⟨gb,db,hj⟩:=drop_cons_get hBd
           have i1:=ix_rw ga
           have i2:=ix_rw gb
           have two:=stp_two a b as bs
           have bst:=both_stp ha hb
           have ee:=earlB_eq a.2.1 b.2.1
           simp only [List.length_cons] at hm
           have pf:yQ (m+1) here (a::as) (b::bs)=(here,qI a.2.1 b.2.1,a.2.2,b.2.2)::yQ m (qI a.2.1 b.2.1) (stp (qI a.2.1 b.2.1) (a::as)) (stp (qI a.2.1 b.2.1) (b::bs)):=by rw [yQ]
           rw [pf]
           generalize qI a.2.1 b.2.1=e at *
           have z:acc.length < 16777216:=by omega
           have e0:D.tup [oi here,oi e,oi a.2.2,oi b.2.2]=r4D (here,e,a.2.2,b.2.2):=rfl
           obtain ⟨i',hi',ei⟩:∃ i':Nat,A.drop i'=stp e (a::as)/\∀ (P Q:List Sl) (x:Sl),P.length=6->(ifG (qA (zN eqD (zN ixD (zL 8) (zF (.int 1))) (zL 10))) (augA 6 (zF (.int 1))) qR) (P++[.v (.int (i:Int)),x,.v (rwD a),.v (rwD b),.v (oi e)])=some (.nx (P++[.v (.int (i':Int)),x,.v (rwD a),.v (rwD b),.v (oi e)])):=by
            by_cases h:a.2.1=e
            · refine ⟨i + 1, by rw [jX, if_pos h, da], fun P Q x hP => ?_⟩
              match P,hP with
              | [p0,p1,p2,p3,p4,p5],_=>simp [h,augA]
            · refine ⟨i, by rw [jX, if_neg h, hA], fun P Q x hP => ?_⟩
              match P,hP with
              | [p0,p1,p2,p3,p4,p5],_=>simp [h]
           obtain ⟨j',hj',ej⟩:∃ j':Nat,B.drop j'=stp e (b::bs)/\∀ (P Q:List Sl),P.length=7->(ifG (qA (zN eqD (zN ixD (zL 9) (zF (.int 1))) (zL 10))) (augA 7 (zF (.int 1))) qR) (P++[.v (.int (j:Int)),.v (rwD a),.v (rwD b),.v (oi e)])=some (.nx (P++[.v (.int (j':Int)),.v (rwD a),.v (rwD b),.v (oi e)])):=by
            by_cases h:b.2.1=e
            · refine ⟨j + 1, by rw [jX, if_pos h, db], fun P Q hP => ?_⟩
              match P,hP with
              | [p0,p1,p2,p3,p4,p5,p6],_=>simp [h,augA]
            · refine ⟨j, by rw [jX, if_neg h, hBd], fun P Q hP => ?_⟩
              match P,hP with
              | [p0,p1,p2,p3,p4,p5,p6],_=>simp [h]
           have ei':=ei [R0,R1,.v (.lst (A.map rwD)),.v (.lst (B.map rwD)),.own ((acc++[(here,e,a.2.2,b.2.2)]).map r4D),.v (oi here)] [] (.v (.int (j:Int))) rfl
           have ej':=ej [R0,R1,.v (.lst (A.map rwD)),.v (.lst (B.map rwD)),.own ((acc++[(here,e,a.2.2,b.2.2)]).map r4D),.v (oi here),.v (.int (i':Int))] [] rfl
           simp only [List.cons_append,List.nil_append] at ei' ej'
           have turn:GP.paired.b1 [R0,R1,.v (.lst (A.map rwD)),.v (.lst (B.map rwD)),.own (acc.map r4D),.v (oi here),.v (.int (i:Int)),.v (.int (j:Int)),x8,x9,x10]=some (.nx [R0,R1,.v (.lst (A.map rwD)),.v (.lst (B.map rwD)),.own ((acc++[(here,e,a.2.2,b.2.2)]).map r4D),.v (oi e),.v (.int (i':Int)),.v (.int (j':Int)),.v (rwD a),.v (rwD b),.v (oi e)]):=by
            unfold GP.paired.b1
            rw [qO (ds':=[R0,R1,.v (.lst (A.map rwD)),.v (.lst (B.map rwD)),.own (acc.map r4D),.v (oi here),.v (.int (i:Int)),.v (.int (j:Int)),.v (rwD a),x9,x10]) (by simp [i1]),
             qO (ds':=[R0,R1,.v (.lst (A.map rwD)),.v (.lst (B.map rwD)),.own (acc.map r4D),.v (oi here),.v (.int (i:Int)),.v (.int (j:Int)),.v (rwD a),.v (rwD b),x10]) (by simp [i2]),
             qO (ds':=[R0,R1,.v (.lst (A.map rwD)),.v (.lst (B.map rwD)),.own (acc.map r4D),.v (oi here),.v (.int (i:Int)),.v (.int (j:Int)),.v (rwD a),.v (rwD b),.v (oi e)]) (by simp [ee]),
             qO (ds':=[R0,R1,.v (.lst (A.map rwD)),.v (.lst (B.map rwD)),.own ((acc++[(here,e,a.2.2,b.2.2)]).map r4D),.v (oi here),.v (.int (i:Int)),.v (.int (j:Int)),.v (rwD a),.v (rwD b),.v (oi e)]) (by simp [z,e0]),qO ei',qO ej']
            simp
           obtain ⟨y5,y6,y7,y8,y9,y10,ih⟩:=paired_loop R0 R1 A B m i' j' e (acc++[(here,e,a.2.2,b.2.2)]) (.v (rwD a)) (.v (rwD b)) (.v (oi e)) (by rw [hi',hj']; omega) (by rw [hi',hj']; exact bst) (by simp; omega) n (by omega)
           refine ⟨y5,y6,y7,y8,y9,y10,?_⟩
           rw [hi',hj',List.append_assoc] at ih
           have hlt:(i:Int) < (A.length:Int):=by omega
           have tt:(qA (zN ltD (zL 6) (callB lenD (zD (zL 2) zS)))) [R0,R1,.v (.lst (A.map rwD)),.v (.lst (B.map rwD)),.own (acc.map r4D),.v (oi here),.v (.int (i:Int)),.v (.int (j:Int)),x8,x9,x10]=some true:=by simp [hi]
           rw [whileN,tt]
           simp only [Option.bind_some,if_true,turn]
           exact ih
theorem paired_eq {ps qs:List Rw} (o1:Ord ps) (o2:Ord qs) (h1:ps.length<=10000) (h2:qs.length<=10000):GP.paired.f [.lst (ps.map rwD),.lst (qs.map rwD)]=some (.fresh ((yQ ((qF ps).length+(qF qs).length) none (qF ps) (qF qs)).map r4D)):=by
 have l1:=jQ ps
 have l2:=jQ qs
 obtain ⟨y5,y6,y7,y8,y9,y10,e⟩:=paired_loop (.v (.lst (ps.map rwD))) (.v (.lst (qs.map rwD))) (qF ps) (qF qs) ((qF ps).length+(qF qs).length) 0 0 none [] .no .no .no (by simp) (.inr ⟨(jP o1).rem,(jP o2).rem⟩) (by simp; omega) 100000 (by omega)
 have r1:=vC ps (by omega)
 have r2:=vC qs (by omega)
 simp only [List.drop_zero,List.map_nil,List.nil_append,vJ,show (((0:Nat):Int))=0 from rfl] at e
 have fl:=flats_r4 (yQ ((qF ps).length+(qF qs).length) none (qF ps) (qF qs))
 generalize yQ ((qF ps).length+(qF qs).length) none (qF ps) (qF qs)=L at *
 generalize qF ps=A at *
 generalize qF qs=B at *
 refine xF ?_
 unfold GP.paired.g
 rw [qO (ds':=[.v (.lst (ps.map rwD)),.v (.lst (qs.map rwD)),.v (.lst (A.map rwD)),.no,.no,.no,.no,.no,.no,.no,.no]) (by simp [args,r1]),
  qO (ds':=[.v (.lst (ps.map rwD)),.v (.lst (qs.map rwD)),.v (.lst (A.map rwD)),.v (.lst (B.map rwD)),.no,.no,.no,.no,.no,.no,.no]) (by simp [r2]),
  qO (ds':=[.v (.lst (ps.map rwD)),.v (.lst (qs.map rwD)),.v (.lst (A.map rwD)),.v (.lst (B.map rwD)),.own [],.no,.no,.no,.no,.no,.no]) (by simp),
  qO (ds':=[.v (.lst (ps.map rwD)),.v (.lst (qs.map rwD)),.v (.lst (A.map rwD)),.v (.lst (B.map rwD)),.own [],.v .non,.no,.no,.no,.no,.no]) (by simp),
  qO (ds':=[.v (.lst (ps.map rwD)),.v (.lst (qs.map rwD)),.v (.lst (A.map rwD)),.v (.lst (B.map rwD)),.own [],.v .non,.v (.int 0),.no,.no,.no,.no]) (by simp),
  qO (ds':=[.v (.lst (ps.map rwD)),.v (.lst (qs.map rwD)),.v (.lst (A.map rwD)),.v (.lst (B.map rwD)),.own [],.v .non,.v (.int 0),.v (.int 0),.no,.no,.no]) (by simp),qO e]
 simp [fl]
theorem some_place_ex (s:Spn) (h:okS s):∃ p,hasS s p=true/\GP.some_place.f [spD s]=some (.val (.int p)):=by
 obtain ⟨a,b⟩:=s
 unfold GP.some_place.f runG GP.some_place.g
 cases a with
 | some x =>
   refine ⟨x,?_,by simp [args]⟩
   cases b with
   | none=>simp [hasS]
   | some y=>have:=h x y rfl rfl; simp [hasS,this]
 | none =>
   cases b with
   | some y=>exact ⟨y - 1,by simp [hasS]; omega,by simp [args]⟩
   | none=>exact ⟨0,by simp [hasS],by simp [args]⟩
theorem wJ {r:Rw} {t:List Rw} (m:MapF (r::t)):MapF t :=
 ⟨⟨fun z hz=>m.ord.ok z (List.mem_cons_of_mem _ hz),(List.pairwise_cons.mp m.ord.pw).2⟩,fun z hz=>m.val z (List.mem_cons_of_mem _ hz),fun i a b h1 h2=>m.adj (i+1) a b (by simpa using h1) (by simpa using h2)⟩
theorem has_place (r:Rw) (h:ok3 r):∃ p,has3 r p=true:=by
 obtain ⟨p,hp,_⟩:=some_place_ex (r.1,r.2.1) h
 exact ⟨p,hp⟩
theorem later {r z:Rw} {t:List Rw} (o:Ord (r::t)) (hz:z∈t) {p:Int} (hp:has3 z p=true):∃ x y,r.2.1=some x/\z.1=some y/\x<=y/\y<=p:=by
 obtain ⟨x,y,h1,h2,h3⟩:=(List.pairwise_cons.mp o.pw).1 z hz
 refine ⟨x,y,h1,h2,h3,?_⟩
 unfold has3 hasS at hp
 simp only [h2,Bool.and_eq_true,decide_eq_true_eq] at hp
 exact hp.1
theorem jJ (r:Rw) (p:Int):has3 r p=true↔(∀ x,r.1=some x->x<=p)/\∀ y,r.2.1=some y->p < y:=by
 obtain ⟨a,b,v⟩:=r
 unfold has3 hasS
 cases a <;> cases b <;> simp
theorem low_le {r s:Rw} {t u:List Rw} (m:MapF (r::t)) (k:MapF (s::u)) (h:∀ p v,Tel (r::t) p v->Tel (s::u) p v):∀ b,s.1=some b->∃ a,r.1=some a/\b<=a:=by
 intro b hb
 obtain ⟨v,hv⟩:∃ v,r.2.2=some v:=by
  cases hv:r.2.2 with
  | none=>exact (m.val r List.mem_cons_self hv).elim
  | some v=>exact ⟨v,rfl⟩
 have ge:∀ p,has3 r p=true->b<=p:=by
  intro p hp
  obtain ⟨z,hz,hzp,_⟩:=h p v ⟨r,List.mem_cons_self,hp,hv⟩
  rcases List.mem_cons.mp hz with rfl | hz
  · exact ((jJ _ p).mp hzp).1 b hb
  · obtain ⟨x, y, h1, h2, h3, h4⟩ := later k.ord hz hzp
    have:=k.ord.ok s List.mem_cons_self b x hb h1
    omega
 cases ha:r.1 with
 | some a =>
   refine ⟨a,rfl,ge a ((jJ r a).mpr ⟨fun x e=>by rw [ha] at e; cases e; omega,fun y e=>m.ord.ok r List.mem_cons_self a y ha e⟩)⟩
 | none =>
   exfalso
   cases hy:r.2.1 with
   | none =>
     have:=ge (b - 1) ((jJ r _).mpr ⟨(fun x e=>by rw [ha] at e; cases e),fun y e=>by rw [hy] at e; cases e⟩)
     omega
   | some y =>
     have:=ge (min (b - 1) (y - 1)) ((jJ r _).mpr ⟨(fun x e=>by rw [ha] at e; cases e),fun y' e=>by rw [hy] at e; cases e; omega⟩)
     omega
theorem beh_le {r s:Rw} {t u:List Rw} (m:MapF (r::t)) (k:MapF (s::u)) (h:∀ p v,Tel (s::u) p v->Tel (r::t) p v) (hl:r.1=s.1) (hv:r.2.2=s.2.2):∀ x,r.2.1=some x->∃ y,s.2.1=some y/\y<=x:=by
 intro x hx
 obtain ⟨v,hv'⟩:∃ v,r.2.2=some v:=by
  cases hv:r.2.2 with
  | none=>exact (m.val r List.mem_cons_self hv).elim
  | some v=>exact ⟨v,rfl⟩
 have key:has3 s x=true->False:=by
  intro hs
  obtain ⟨z,hz,hzp,hzv⟩:=h x v ⟨s,List.mem_cons_self,hs,by rw [<- hv]; exact hv'⟩
  rcases List.mem_cons.mp hz with rfl | hz
  · have := ((jJ _ x).mp hzp).2 x hx
    omega
  · cases t with
    | nil=>cases hz
    | cons r' t' =>
      obtain ⟨x',y,h1,h2,h3,h4⟩:=later m.ord hz hzp
      rw [hx] at h1
      cases h1
      have hz':z=r':=by
       rcases List.mem_cons.mp hz with rfl | hz
       · rfl
       · exfalso
         obtain ⟨x2,y2,k1,k2,k3,k4⟩:=later (wJ m).ord hz hzp
         obtain ⟨x3,y3,j1,j2,j3⟩:=(List.pairwise_cons.mp m.ord.pw).1 r' List.mem_cons_self
         rw [hx] at j1
         cases j1
         have:=(wJ m).ord.ok r' List.mem_cons_self y3 x2 j2 k1
         omega
      subst hz'
      have:y=x:=by omega
      subst this
      exact m.adj 0 r z rfl rfl ⟨by rw [hx,h2],by rw [hv',hzv]⟩
 have lowx:∀ a,s.1=some a->a<=x:=by
  intro a ha
  have:=m.ord.ok r List.mem_cons_self a x (by show r.1=some a; rw [hl,ha]) hx
  omega
 cases hy:s.2.1 with
 | none=>exact (key ((jJ s x).mpr ⟨lowx,fun y e=>by rw [hy] at e; cases e⟩)).elim
 | some y =>
   refine ⟨y,rfl,?_⟩
   rcases Int.lt_or_le x y with hlt | hle
   · exact (key ((jJ s x).mpr ⟨lowx,fun y' e=>by rw [hy] at e; cases e; exact hlt⟩)).elim
   · exact hle
theorem map_one:∀ {ps qs:List Rw},MapF ps->MapF qs->(∀ p v,Tel ps p v↔Tel qs p v)->ps=qs
 | [],[],_,_,_=>rfl
 | [], s :: u, _, k, h => by
   obtain ⟨p,hp⟩:=has_place s (k.ord.ok s List.mem_cons_self)
   cases hv:s.2.2 with
   | none=>exact (k.val s List.mem_cons_self hv).elim
   | some v =>
     obtain ⟨z,hz,_⟩:=(h p v).mpr ⟨s,List.mem_cons_self,hp,hv⟩
     cases hz
 | s :: u, [], k, _, h => by
   obtain ⟨p,hp⟩:=has_place s (k.ord.ok s List.mem_cons_self)
   cases hv:s.2.2 with
   | none=>exact (k.val s List.mem_cons_self hv).elim
   | some v =>
     obtain ⟨z,hz,_⟩:=(h p v).mp ⟨s,List.mem_cons_self,hp,hv⟩
     cases hz
 | r :: t, s :: u, m, k, h => by
   have l1:=low_le m k fun p v=>(h p v).mp
   have l2:=low_le k m fun p v=>(h p v).mpr
   have hl:r.1=s.1:=by
    cases h1:r.1 with
    | none =>
      cases h2:s.1 with
      | none=>rfl
      | some b=>obtain ⟨a,ha,_⟩:=l1 b h2; rw [h1] at ha; cases ha
    | some a =>
      obtain ⟨b,hb,hab⟩:=l2 a h1
      obtain ⟨a',ha',hba⟩:=l1 b hb
      rw [h1] at ha'
      cases ha'
      rw [hb]
      congr 1
      omega
   have hv:r.2.2=s.2.2:=by
    obtain ⟨p,hp1,hp2⟩:∃ p,has3 r p=true/\has3 s p=true:=by
     have okr:=m.ord.ok r List.mem_cons_self
     have oks:=k.ord.ok s List.mem_cons_self
     cases h1:r.1 with
     | some a =>
       have h2:s.1=some a:=by rw [<- hl,h1]
       exact ⟨a,(jJ r a).mpr ⟨fun x e=>by rw [h1] at e; cases e; omega,fun y e=>okr a y h1 e⟩,(jJ s a).mpr ⟨fun x e=>by rw [h2] at e; cases e; omega,fun y e=>oks a y h2 e⟩⟩
     | none =>
       have h2:s.1=none:=by rw [<- hl,h1]
       have lowp:∃ p:Int,(∀ y,r.2.1=some y->p < y)/\∀ y,s.2.1=some y->p < y:=by
        cases r.2.1 with
        | none =>
          cases s.2.1 with
          | none=>exact ⟨0,(fun _ e=>nomatch e),(fun _ e=>nomatch e)⟩
          | some y=>exact ⟨y - 1,(fun _ e=>nomatch e),fun z e=>by cases e; omega⟩
        | some x =>
          cases s.2.1 with
          | none=>exact ⟨x - 1,fun z e=>by cases e; omega,(fun _ e=>nomatch e)⟩
          | some y=>exact ⟨min x y - 1,fun z e=>by cases e; omega,fun z e=>by cases e; omega⟩
       obtain ⟨p,q1,q2⟩:=lowp
       exact ⟨p,(jJ r p).mpr ⟨(fun x e=>by rw [h1] at e; cases e),q1⟩,(jJ s p).mpr ⟨(fun x e=>by rw [h2] at e; cases e),q2⟩⟩
    cases hv:r.2.2 with
    | none=>exact (m.val r List.mem_cons_self hv).elim
    | some v =>
      obtain ⟨z,hz,hzp,hzv⟩:=(h p v).mp ⟨r,List.mem_cons_self,hp1,hv⟩
      rcases List.mem_cons.mp hz with rfl | hz
      · exact hzv.symm
      · exfalso
        obtain ⟨x,y,e1,e2,e3,e4⟩:=later k.ord hz hzp
        have:=((jJ s p).mp hp2).2 x e1
        omega
   have b1:=beh_le m k (fun p v=>(h p v).mpr) hl hv
   have b2:=beh_le k m (fun p v=>(h p v).mp) hl.symm hv.symm
   have hb:r.2.1=s.2.1:=by
    cases h1:r.2.1 with
    | none =>
      cases h2:s.2.1 with
      | none=>rfl
      | some y=>obtain ⟨x,hx,_⟩:=b2 y h2; rw [h1] at hx; cases hx
    | some x =>
      obtain ⟨y,hy,hyx⟩:=b1 x h1
      obtain ⟨x',hx',hxy⟩:=b2 y hy
      rw [h1] at hx'
      cases hx'
      rw [hy]
      congr 1
      omega
   have hrs:r=s:=by
    obtain ⟨a,b,c⟩:=r
    obtain ⟨a',b',c'⟩:=s
    simp only at hl hb hv
    rw [hl,hb,hv]
   subst hrs
   have tl:∀ {t':List Rw},MapF (r::t')->∀ p v,Tel t' p v↔Tel (r::t') p v/\¬ has3 r p=true:=by
    intro t' m' p v
    constructor
    · rintro ⟨z, hz, hzp, hzv⟩
      refine ⟨⟨z,List.mem_cons_of_mem _ hz,hzp,hzv⟩,fun hr=>?_⟩
      obtain ⟨x,y,e1,e2,e3,e4⟩:=later m'.ord hz hzp
      have:=((jJ r p).mp hr).2 x e1
      omega
    · rintro ⟨⟨z, hz, hzp, hzv⟩, hr⟩
      rcases List.mem_cons.mp hz with rfl | hz
      · exact (hr hzp).elim
      · exact ⟨z,hz,hzp,hzv⟩
   rw [map_one (wJ m) (wJ k) fun p v=>by rw [tl m,tl k,h]]
def shR (f:Int) (r:Rw):Rw:=(r.1.map (·+f),r.2.1.map (·+f),r.2.2)
theorem tel_map {T:Rw->Rw} {c:Int->Int} (h1:∀ r p,has3 (T r) p=has3 r (c p)) (h2:∀ r,(T r).2.2=r.2.2) (ps:List Rw) (p v:Int):Tel (ps.map T) p v↔Tel ps (c p) v:=by
 constructor
 · rintro ⟨r', hr, h3, h4⟩
   obtain ⟨r,hm,rfl⟩:=List.mem_map.mp hr
   exact ⟨r,hm,by rw [<- h1]; exact h3,by rw [<- h2]; exact h4⟩
 · rintro ⟨r, hr, h3, h4⟩
   exact ⟨T r,List.mem_map_of_mem hr,by rw [h1]; exact h3,by rw [h2]; exact h4⟩
theorem has_sh (f:Int) (r:Rw) (p:Int):has3 (shR f r) p=has3 r (p - f):=by
 obtain ⟨a,b,v⟩:=r
 rw [Bool.eq_iff_iff,qT,qT]
 cases a <;> cases b <;> simp [shR] <;> omega
theorem ord_map {T:Rw->Rw} {ps:List Rw} (o:Ord ps) (h1:∀ r∈ps,ok3 r->ok3 (T r)) (h2:∀ a b,ahead a b->ahead (T a) (T b)):Ord (ps.map T) :=
 ⟨fun r' hr=>by obtain ⟨r,hm,rfl⟩:=List.mem_map.mp hr; exact h1 r hm (o.ok r hm),List.pairwise_map.mpr (o.pw.imp fun h=>h2 _ _ h)⟩
theorem ok_sh {f:Int} {r:Rw} (h:ok3 r):ok3 (shR f r):=by
 intro a b h1 h2
 obtain ⟨x,y,v⟩:=r
 cases x <;> cases y <;> simp [shR] at h1 h2
 rename_i x y
 have:x < y:=h x y rfl rfl
 omega
theorem ahead_sh {f:Int} {a b:Rw} (h:ahead a b):ahead (shR f a) (shR f b):=by
 obtain ⟨x,y,h1,h2,h3⟩:=h
 exact ⟨x+f,y+f,by simp [shR,h1],by simp [shR,h2],by omega⟩
theorem sh_ord {ps:List Rw} (o:Ord ps) (f:Int):Ord (ps.map (shR f)):=ord_map o (fun r _ h=>ok_sh h) fun a b h=>ahead_sh h
theorem farther_eq (o:Option Int) (f:Int):GP.farther.f [oi o,.int f]=some (.val (oi (o.map (·+f)))):=by
 unfold GP.farther.f runG GP.farther.g
 cases o <;> simp [args]
theorem shifted_eq (ps:List Rw) (f:Int) (hl:ps.length<=1000000):GP.shifted.f [.lst (ps.map rwD),.int f]=some (.fresh ((ps.map (shR f)).map rwD)):=by
 unfold GP.shifted.f
 refine xF ?_
 unfold GP.shifted.g
 have cm:(compG (viaA (qY 0) asLT) [none,none,none,some 1] (tupG 3 (zO (zV 0) (zO (zV 1) (zO (zV 2) tgNil)))) (fun _=>some true) (mkT (qE (zD (zX 2 GP.farther.f (zD (zL 0) (zD (zL 3) zS))) (zD (zX 2 GP.farther.f (zD (zL 1) (zD (zL 3) zS))) (zD (qY 2) zS)))))) [.v (.lst (ps.map rwD)),.v (.int f)]=some ((ps.map (shR f)).map rwD):=by
  refine yS (items:=ps.map rwD) (by simp) (by simp; omega) ?_
  rw [vS rwD (fun r=>rwD (shR f r)),List.map_map]
  · rfl
  · intro r _
    obtain ⟨a,b,c⟩:=r
    exact ⟨_,by simp [rwD,yB]; rfl,by simp [farther_eq]; rfl⟩
 have fl:=jV (ps.map (shR f))
 show retOG _ [.v (.lst (ps.map rwD)),.v (.int f)]=_
 rw [retOG_eq,cm,Option.bind_some,flatF_of _ fl]
open Builtin.Int (intBits)
structure DrawM (rows:List Rw) (s:Int):Prop where
 map:MapF rows
 fin:∀ r∈rows,∃ lo bh,r.1=some lo/\r.2.1=some bh/\bh<=s
 last:∀ r,rows.getLast? = some r->r.2.1=some s
theorem DrawM.nil (s:Int):DrawM [] s:=⟨MapF.nil,(fun _ h=>nomatch h),fun r h=>by simp at h⟩
theorem DrawM.snoc {rows:List Rw} {s lo bh v:Int} (h:DrawM rows s) (h1:s<=lo) (h2:lo < bh) (h3:∀ r,rows.getLast? = some r->lo=s->r.2.2≠some v):DrawM (rows++[(some lo,some bh,some v)]) bh:=by
 have d:Drawn rows s:=⟨h.map.ord,h.fin⟩
 have d2:=d.snoc (v:=some v) h1 h2
 refine ⟨⟨d2.ord,fun r hr=>?_,fun i a b e1 e2=>?_⟩,d2.fin,fun r hr=>?_⟩
 · rcases List.mem_append.mp hr with hr | hr
   · exact h.map.val r hr
   · have : r = (some lo, some bh, some v) := by simpa using hr
     subst this
     simp
 · by_cases hi : i + 1 < rows.length
   · rw [List.getElem?_append_left (by omega)] at e1
     rw [List.getElem?_append_left hi] at e2
     exact h.map.adj i a b e1 e2
   · have l2 := (List.getElem?_eq_some_iff.mp e2).1
     simp only [List.length_append,List.length_cons,List.length_nil] at l2
     have hi2:i+1=rows.length:=by omega
     rw [List.getElem?_append_left (by omega)] at e1
     rw [List.getElem?_append_right (by omega),hi2] at e2
     simp at e2
     subst e2
     have hl:rows.getLast? = some a:=by
      rw [List.getLast?_eq_getElem?,<- e1]
      congr 1
      omega
     have:=h.last a hl
     rintro ⟨q1,q2⟩
     rw [this] at q1
     simp at q1
     exact h3 a hl q1.symm q2
 · simp at hr
   subst hr
   rfl
theorem last_rw {rows:List Rw} {r:Rw} (h:rows.getLast? = some r):ixD (.lst (rows.map rwD)) (.int (-1))=some (rwD r):=by
 obtain ⟨l,rfl⟩:∃ l,rows=l++[r]:=by
  have hne:rows≠[]:=by intro z; subst z; simp at h
  refine ⟨rows.dropLast,?_⟩
  rw [List.getLast?_eq_some_getLast hne] at h
  cases h
  exact (List.dropLast_concat_getLast hne).symm
 rw [List.map_append,List.map_cons,List.map_nil]
 exact ixL_last _ _
end FL
namespace FL
open PySem PySem.Spec PyProof.Rows L2
open Builtin.Int (intBits)
@[simp] theorem notD_rw (r:Rw):notD (rwD r) .non=some (.bl true):=rfl
end FL
namespace FL
open PySem PySem.Spec PyProof.Rows L2
end FL
section
open PySem PyProof.Rows L2 FL
end
namespace FL
open PySem PySem.Spec PyProof.Rows L2
open Builtin.Int (intBits)
theorem two_ex (a b:Int) {r:Int} (h0:0<=r) (h1:r<=1):∃ g:Int,(g=a \/ g=b)/\ixD (.lst [.int a,.int b]) (.int r)=some (.int g):=by
 rcases (by omega:r=0 \/ r=1) with e | e <;> subst e
 · exact ⟨a,.inl rfl,by simp⟩
 · exact ⟨b,.inr rfl,by simp⟩
theorem rangeD_nat (n:Nat):rangeD 0 n=(List.range' 0 n).map fun (i:Nat)=>D.int (i:Int):=by
 unfold rangeD
 simp [List.range_eq_range']
end FL
namespace FL
open PySem PySem.Spec PyProof.Rows L2
open Builtin.Int (intBits)
@[simp] theorem sltW_eq (f:FE) (lo hi:List Sl->Option (Option Int)) (ds:List Sl):sltW f lo hi ds=(f ds).bind fun d=>(lo ds).bind fun a=>(hi ds).bind fun b=>match d with
 | .tup l=>some (.tup (cutD l a b))
 | _=>none:=rfl
end FL
namespace FL
open PySem PySem.Spec PyProof.Rows L2
open Builtin.Int (intBits)
end FL
namespace FL
open PySem PySem.Spec PyProof.Rows L2
abbrev Ch:=Int×Option Int
structure IsCh (g:Int->Option Int) (T:Int) (C:List Ch):Prop where
 at_:∀ c∈C,0 < c.1/\c.1<=T/\g c.1=c.2/\g (c.1 - 1)≠g c.1
 srt:C.Pairwise (fun a b=>a.1 < b.1)
 all:∀ p,0 < p->p<=T->g (p - 1)≠g p->∃ c∈C,c.1=p
def Per (g:Int->Option Int) (T:Int):Prop:=∀ p,g (p+T)=g p
theorem Per.nat {g:Int->Option Int} {T:Int} (h:Per g T) (p:Int):∀ j:Nat,g (p+(j:Int) * T)=g p
 | 0=>by simp
 | j + 1 => by
   have e:p+((j+1:Nat):Int) * T=(p+(j:Int) * T)+T:=by rw [Int.natCast_add,Int.add_mul]; simp; omega
   rw [e,h,h.nat p j]
theorem Per.int {g:Int->Option Int} {T:Int} (h:Per g T) (p j:Int):g (p+j * T)=g p:=by
 by_cases hj:0<=j
 · obtain ⟨n, rfl⟩ := Int.eq_ofNat_of_zero_le hj
   exact h.nat p n
 · obtain ⟨n, hn⟩ := Int.eq_ofNat_of_zero_le (show 0 <= -j by omega)
   have e:=h.nat (p+j * T) n
   rw [<- hn,Int.neg_mul] at e
   rw [<- e]
   congr 1
   omega
theorem Per.emod {g:Int->Option Int} {T:Int} (h:Per g T) (p:Int):g (p % T)=g p:=by
 have e:=h.int (p % T) (p / T)
 rw [<- e]
 congr 1
 have:=Int.emod_add_mul_ediv p T
 rw [Int.mul_comm] at this
 exact this
theorem const_up {g:Int->Option Int} (a:Int):∀ n:Nat,(∀ q,a < q->q<=a+n->g (q - 1)=g q)->g (a+n)=g a
 | 0,_=>by simp
 | n + 1, h => by
   have h1:=h (a+((n+1:Nat):Int)) (by omega) (by omega)
   have e:a+((n+1:Nat):Int) - 1=a+(n:Int):=by omega
   rw [e] at h1
   rw [<- h1]
   exact const_up a n fun q q1 q2=>h q q1 (by omega)
theorem const_to {g:Int->Option Int} {a b:Int} (hab:a<=b) (h:∀ q,a < q->q<=b->g (q - 1)=g q):g b=g a:=by
 have e:b=a+((b - a).toNat:Int):=by omega
 rw [e]
 exact const_up a _ fun q q1 q2=>h q q1 (by omega)
def Rise (u:Nat->Int):Prop:=∀ k,u k < u (k+1)
theorem Rise.lt {u:Nat->Int} (h:Rise u):∀ {k l:Nat},k < l->u k < u l:=by
 intro k l hl
 induction l with
 | zero=>omega
 | succ l ih =>
   by_cases e:k=l
   · subst e; exact h k
   · exact Int.lt_trans (ih (by omega)) (h l)
theorem Rise.le {u:Nat->Int} (h:Rise u) {k l:Nat} (hl:k<=l):u k<=u l:=by
 by_cases e:k=l
 · subst e; exact Int.le_refl _
 · exact Int.le_of_lt (h.lt (by omega))
theorem Rise.inj {u:Nat->Int} (h:Rise u) {k l:Nat} (e:u k=u l):k=l:=by
 rcases Nat.lt_trichotomy k l with q | q | q
 · have:=h.lt q; omega
 · exact q
 · have:=h.lt q; omega
theorem Rise.big {u:Nat->Int} (h:Rise u):∀ k:Nat,u 0+k<=u k
 | 0=>by simp
 | k+1=>by have:=h.big k; have:=h k; omega
theorem rise_one {u v:Nat->Int} (hu:Rise u) (hv:Rise v) (h1:∀ k,∃ j,v j=u k) (h2:∀ k,∃ j,u j=v k):∀ k,u k=v k:=by
 intro k
 induction k using Nat.strongRecOn with
 | ind k ih =>
   obtain ⟨j,ej⟩:=h1 k
   obtain ⟨i,ei⟩:=h2 k
   have a1:v k<=u k:=by
    rw [<- ej]
    refine hv.le ?_
    rcases Nat.lt_or_ge j k with q | q
    · have := ih j q
      have:=hu.lt q
      omega
    · exact q
   have a2:u k<=v k:=by
    rw [<- ei]
    refine hu.le ?_
    rcases Nat.lt_or_ge i k with q | q
    · have := ih i q
      have:=hv.lt q
      omega
    · exact q
   omega
theorem Rise.first {u:Nat->Int} (h:Rise u) (x:Int):∃ m,x < u m/\∀ j,j < m->u j<=x:=by
 have key:∀ n:Nat,(∃ m,m<=n/\x < u m/\∀ j,j < m->u j<=x) \/ ∀ j,j<=n->u j<=x:=by
  intro n
  induction n with
  | zero =>
    by_cases q:x < u 0
    · exact .inl ⟨0,Nat.le_refl _,q,fun j hj=>by omega⟩
    · exact .inr fun j hj => by have : j = 0 := by omega
                                subst this; omega
  | succ n ih =>
    rcases ih with ⟨m,h1,h2,h3⟩ | h1
    · exact .inl ⟨m,by omega,h2,h3⟩
    · by_cases q : x < u (n + 1)
      · exact .inl ⟨n+1,Nat.le_refl _,q,fun j hj=>h1 j (by omega)⟩
      · exact .inr fun j hj=>by
         by_cases e:j=n+1
         · subst e; omega
         · exact h1 j (by omega)
 rcases key (x - u 0+1).toNat with ⟨m,_,h2,h3⟩ | h1
 · exact ⟨m,h2,h3⟩
 · have a := h1 _ (Nat.le_refl _)
   have b:=h.big (x - u 0+1).toNat
   have c:=h1 0 (Nat.zero_le _)
   omega
theorem Rise.between {u:Nat->Int} (h:Rise u) {p:Int} (hp:u 0<=p):∃ k,u k<=p/\p < u (k+1):=by
 obtain ⟨m,h1,h2⟩:=h.first p
 have:m≠0:=fun z=>by subst z; omega
 refine ⟨m - 1,h2 _ (by omega),?_⟩
 rw [show m - 1+1=m by omega]
 exact h1
def chP (T:Int) (C:List Ch) (k:Nat):Int:=(C.getD (k % C.length) (0,none)).1+((k / C.length:Nat):Int) * T
def chV (C:List Ch) (k:Nat):Option Int:=(C.getD (k % C.length) (0,none)).2
section
variable {g:Int->Option Int} {T:Int} {C:List Ch}
theorem getD_mem' {C:List Ch} (hn:C≠[]) (k:Nat):C.getD (k % C.length) (0,none)∈C:=by
 have hl:0 < C.length:=List.length_pos_iff.mpr hn
 have h:=Nat.mod_lt k hl
 rw [List.getD_eq_getElem?_getD,List.getElem?_eq_getElem h]
 exact List.getElem_mem h
theorem wM (hn:C≠[]) (k q:Nat):chP T C (k+q * C.length)=chP T C k+(q:Int) * T:=by
 have hl:0 < C.length:=List.length_pos_iff.mpr hn
 unfold chP
 rw [Nat.add_mul_mod_self_right,Nat.add_mul_div_right _ _ hl,Int.natCast_add,Int.add_mul]
 omega
theorem chV_shift (k q:Nat):chV C (k+q * C.length)=chV C k:=by
 unfold chV
 rw [Nat.add_mul_mod_self_right]
theorem kE (hT:Per g T) (h:IsCh g T C) (h0:0 < T) (hn:C≠[]) (k:Nat):0 < chP T C k/\g (chP T C k)=chV C k/\g (chP T C k - 1)≠g (chP T C k):=by
 obtain ⟨a1,a2,a3,a4⟩:=h.at_ _ (getD_mem' hn k)
 unfold chP chV
 have hj:0<=((k / C.length:Nat):Int) * T:=Int.mul_nonneg (Int.natCast_nonneg _) (Int.le_of_lt h0)
 refine ⟨by omega,by rw [hT.int]; exact a3,?_⟩
 have e:∀ c j:Int,c+j - 1=(c - 1)+j:=fun c j=>by omega
 rw [e,hT.int,hT.int]
 exact a4
theorem chP_rise (h:IsCh g T C) (hn:C≠[]):Rise (chP T C):=by
 intro k
 have hl:0 < C.length:=List.length_pos_iff.mpr hn
 have hk:=Nat.mod_lt k hl
 have ek:=Nat.div_add_mod k C.length
 unfold chP
 by_cases hlt:k % C.length+1 < C.length
 · have e1:(k+1) % C.length=k % C.length+1:=by
    rw [Nat.add_mod,Nat.mod_eq_of_lt (show 1 < C.length by omega),Nat.mod_eq_of_lt hlt]
   have e2:(k+1) / C.length=k / C.length:=by
    rw [<- ek,Nat.add_assoc,Nat.mul_add_div hl,Nat.mul_add_div hl,Nat.div_eq_of_lt hlt,Nat.div_eq_of_lt hk]
   rw [e1,e2,List.getD_eq_getElem?_getD,List.getElem?_eq_getElem hk,List.getD_eq_getElem?_getD,List.getElem?_eq_getElem hlt]
   have:=List.pairwise_iff_getElem.mp h.srt (k % C.length) (k % C.length+1) hk hlt (by omega)
   simp only [Option.getD_some]
   omega
 · have e0 : k % C.length = C.length - 1 := by omega
   have e3:k+1=C.length * (k / C.length+1)+0:=by rw [Nat.mul_add]; omega
   have e1:(k+1) % C.length=0:=by rw [e3]; simp
   have e2:(k+1) / C.length=k / C.length+1:=by rw [e3,Nat.add_zero]; exact Nat.mul_div_cancel_left _ hl
   rw [e1,e2]
   have a:=h.at_ _ (getD_mem' hn k)
   have b:=h.at_ _ (getD_mem' hn 0)
   rw [Nat.zero_mod] at b
   rw [Int.natCast_add,Int.add_mul]
   omega
theorem chP_all (hT:Per g T) (h:IsCh g T C) (h0:0 < T) (hn:C≠[]) {p:Int} (hp:0 < p) (hc:g (p - 1)≠g p):∃ k,chP T C k=p:=by
 have hl:0 < C.length:=List.length_pos_iff.mpr hn
 have d1:=Int.emod_add_mul_ediv (p - 1) T
 have d2:=Int.emod_nonneg (p - 1) (Int.ne_of_gt h0)
 have d3:=Int.emod_lt_of_pos (p - 1) h0
 have d4:0<=(p - 1) / T:=Int.ediv_nonneg (by omega) (Int.le_of_lt h0)
 have e1:g ((p - 1) % T)=g (p - 1):=hT.emod _
 have e2:g ((p - 1) % T+1)=g p:=by
  rw [<- hT.int ((p - 1) % T+1) ((p - 1) / T)]
  congr 1
  rw [Int.mul_comm ((p - 1) / T) T]
  omega
 obtain ⟨c,hc1,hc2⟩:=h.all ((p - 1) % T+1) (by omega) (by omega) (by rw [show (p - 1) % T+1 - 1=(p - 1) % T by omega,e1,e2]; exact hc)
 obtain ⟨i,hi,rfl⟩:=List.mem_iff_getElem.mp hc1
 refine ⟨i+((p - 1) / T).toNat * C.length,?_⟩
 rw [wM hn]
 unfold chP
 rw [Nat.mod_eq_of_lt hi,Nat.div_eq_of_lt hi,List.getD_eq_getElem?_getD,List.getElem?_eq_getElem hi]
 simp only [Option.getD_some]
 rw [hc2,show ((((p - 1) / T).toNat:Nat):Int)=(p - 1) / T by omega,Int.mul_comm ((p - 1) / T) T]
 simp
 omega
theorem again_of (hT:Per g T) (h:IsCh g T C) (h0:0 < T) (hn:C≠[]) {far:Int} (hf:0 < far) (hp:Per g far) {s:Nat} (hs:T=(s:Int) * far) :
  ∃ m,s * m=C.length/\∀ k,chP T C (k+m)=chP T C k+far/\chV C (k+m)=chV C k:=by
 have R:=chP_rise h hn
 obtain ⟨m,m1,m2⟩:=R.first far
 have key:∀ k,chP T C (k+m)=chP T C k+far:=by
  refine rise_one (u:=fun k=>chP T C (k+m)) (v:=fun k=>chP T C k+far) (fun k=>?_) (fun k=>by show _+_ < _+_; have:=R k; omega) (fun k=>?_) (fun k=>?_)
  · show chP T C (k + m) < chP T C (k + 1 + m)
    rw [show k+1+m=k+m+1 by omega]
    exact R _
  · obtain ⟨c1, c2, c3⟩ := kE hT h h0 hn (k + m)
    have c4:chP T C m<=chP T C (k+m):=R.le (by omega)
    obtain ⟨j,hj⟩:=chP_all hT h h0 hn (p:=chP T C (k+m) - far) (by omega) (by
     rw [<- hp (chP T C (k+m) - far - 1),<- hp (chP T C (k+m) - far),show chP T C (k+m) - far - 1+far=chP T C (k+m) - 1 by omega,show chP T C (k+m) - far+far=chP T C (k+m) by omega]
     exact c3)
    exact ⟨j,by show chP T C j+far=chP T C (k+m); omega⟩
  · obtain ⟨c1, c2, c3⟩ := kE hT h h0 hn k
    obtain ⟨j,hj⟩:=chP_all hT h h0 hn (p:=chP T C k+far) (by omega) (by
     rw [show chP T C k+far - 1=chP T C k - 1+far by omega,hp,hp]
     exact c3)
    have hjm:m<=j:=by
     rcases Nat.lt_or_ge j m with q | q
     · have:=m2 j q; omega
     · exact q
    exact ⟨j - m,by show chP T C (j - m+m)=chP T C k+far; rw [show j - m+m=j by omega]; exact hj⟩
 have more:∀ (i k:Nat),chP T C (k+i * m)=chP T C k+(i:Int) * far:=by
  intro i
  induction i with
  | zero=>intro k; simp
  | succ i ih =>
    intro k
    rw [show k+(i+1) * m=(k+i * m)+m by rw [Nat.add_mul]; omega,key,ih,Int.natCast_add,Int.add_mul]
    simp
    omega
 refine ⟨m,?_,fun k=>⟨key k,?_⟩⟩
 · refine R.inj ?_
   have a:=more s 0
   have b:=wM (T:=T) hn 0 1
   rw [Nat.zero_add] at a b
   rw [a,show C.length=1 * C.length by omega,b,hs]
   simp
 · rw [<- (kE hT h h0 hn (k+m)).2.1,<- (kE hT h h0 hn k).2.1,key,hp]
theorem per_of (hT:Per g T) (h:IsCh g T C) (h0:0 < T) (hn:C≠[]) {far:Int} {m:Nat} (hk:∀ k,k < C.length->chP T C (k+m)=chP T C k+far/\chV C (k+m)=chV C k):Per g far:=by
 have R:=chP_rise h hn
 have hl:0 < C.length:=List.length_pos_iff.mpr hn
 have key:∀ k,chP T C (k+m)=chP T C k+far/\chV C (k+m)=chV C k:=by
  intro k
  have ek:=Nat.mod_add_div k C.length
  rw [Nat.mul_comm] at ek
  obtain ⟨a1,a2⟩:=hk (k % C.length) (Nat.mod_lt k hl)
  rw [<- ek,show k % C.length+k / C.length * C.length+m=(k % C.length+m)+k / C.length * C.length by omega,wM hn,wM hn,chV_shift,chV_shift,a1,a2]
  exact ⟨by omega,rfl⟩
 have at_:∀ k p,chP T C k<=p->p < chP T C (k+1)->g p=chV C k:=by
  intro k p h1 h2
  rw [<- (kE hT h h0 hn k).2.1]
  refine const_to h1 fun q q1 q2=>?_
  by_cases e:g (q - 1)=g q
  · exact e
  · obtain ⟨j, hj⟩ := chP_all hT h h0 hn (p := q) (by have := (kE hT h h0 hn k).1; omega) e
    have j1:k < j:=by
     rcases Nat.lt_or_ge k j with z | z
     · exact z
     · have:=R.le z; omega
    have:=R.le (show k+1<=j from j1)
    omega
 have up:∀ p,chP T C 0<=p->g (p+far)=g p:=by
  intro p hp
  obtain ⟨k,k1,k2⟩:=R.between hp
  rw [at_ k p k1 k2,<- (key k).2]
  refine at_ (k+m) (p+far) (by rw [(key k).1]; omega) ?_
  rw [show k+m+1=k+1+m by omega,(key (k+1)).1]
  omega
 intro p
 have hj:chP T C 0<=p+((chP T C 0 - p).toNat:Int) * T:=by
  have:((chP T C 0 - p).toNat:Int) * 1<=((chP T C 0 - p).toNat:Int) * T:=Int.mul_le_mul_of_nonneg_left (by omega) (Int.natCast_nonneg _)
  omega
 have e:=up _ hj
 rw [hT.int p,show p+((chP T C 0 - p).toNat:Int) * T+far=(p+far)+((chP T C 0 - p).toNat:Int) * T by omega,hT.int] at e
 exact e
def ComesT (T:Int) (C:List Ch) (t:Nat):Prop:=C.length % t=0/\T % (t:Int)=0/\∀ k,k < C.length->chP T C (k+C.length / t)=chP T C k+T / (t:Int)/\chV C (k+C.length / t)=chV C k
structure Times (T:Int) (C:List Ch) (t:Int):Prop where
 nil:C=[]->t=T
 one:C≠[]->∃ n:Nat,t=(n:Int)/\1<=n/\n<=C.length/\(n=1 \/ ComesT T C n)/\∀ n',n < n'->n'<=C.length->¬ ComesT T C n'
theorem least_of (hT:Per g T) (h:IsCh g T C) (h0:0 < T) {t:Int} (ht:Times T C t) :
  0 < t/\0 < T / t/\t * (T / t)=T/\Per g (T / t)/\∀ far,0 < far->(∃ s:Nat,T=(s:Int) * far)->Per g far->T / t<=far:=by
 by_cases hn:C=[]
 · have e := ht.nil hn
   subst e
   have e1:t / t=1:=Int.ediv_self (Int.ne_of_gt h0)
   rw [e1]
   refine ⟨h0,by decide,by omega,fun p=>?_,fun far hf _ _=>by omega⟩
   have no:∀ q,0 < q->q<=t->g (q - 1)=g q:=fun q q1 q2=>by
    by_cases e:g (q - 1)=g q
    · exact e
    · obtain ⟨c, hc, _⟩ := h.all q q1 q2 e
      rw [hn] at hc; cases hc
   have d2:=Int.emod_nonneg p (Int.ne_of_gt h0)
   have d3:=Int.emod_lt_of_pos p h0
   have d1:=Int.emod_add_mul_ediv p t
   have a:g (p % t)=g p:=hT.emod p
   have b:g (p % t+1)=g (p+1):=by
    rw [<- hT.int (p % t+1) (p / t)]
    congr 1
    rw [Int.mul_comm (p / t) t]
    omega
   rw [<- a,<- b]
   have:=no (p % t+1) (by omega) (by omega)
   rw [show p % t+1 - 1=p % t by omega] at this
   exact this.symm
 · obtain ⟨n, rfl, n1, n2, n3, n4⟩ := ht.one hn
   have hd:(n:Int) * (T / (n:Int))=T:=by
    rcases n3 with rfl | n3
    · simp
    · exact Int.mul_ediv_cancel_of_emod_eq_zero n3.2.1
   have hpos:0 < T / (n:Int):=by
    have hnn:(0:Int) < (n:Int):=by omega
    rcases Int.lt_or_le 0 (T / (n:Int)) with q | q
    · exact q
    · have := Int.mul_nonpos_of_nonneg_of_nonpos (Int.le_of_lt hnn) q
      omega
   refine ⟨by omega,hpos,hd,?_,fun far hf ⟨s,hs⟩ hp=>?_⟩
   · rcases n3 with rfl | n3
     · simpa using hT
     · exact per_of hT h h0 hn n3.2.2
   · rcases Int.lt_or_le far (T / (n : Int)) with q | q
     · obtain ⟨m, m1, m2⟩ := again_of hT h h0 hn hf hp hs
       have hl:0 < C.length:=List.length_pos_iff.mpr hn
       have hns:n < s:=by
        rcases Nat.lt_or_ge n s with z | z
        · exact z
        · have a1 : (s : Int) * far <= (n : Int) * far := Int.mul_le_mul_of_nonneg_right (by omega) (Int.le_of_lt hf)
          have a2:(n:Int) * far < (n:Int) * (T / (n:Int)):=Int.mul_lt_mul_of_pos_left q (by omega)
          omega
       have hm:0 < m:=by
        rcases Nat.eq_zero_or_pos m with z | z
        · subst z; omega
        · exact z
       have hsl:s<=C.length:=by
        rw [<- m1]
        exact Nat.le_mul_of_pos_right s hm
       have hs0:0 < s:=by omega
       have e1:C.length / s=m:=by rw [<- m1]; exact Nat.mul_div_cancel_left m hs0
       have e2:T / (s:Int)=far:=by rw [hs]; exact Int.mul_ediv_cancel_left far (by omega)
       refine (n4 s hns hsl ⟨?_,?_,fun k _=>by rw [e1,e2]; exact m2 k⟩).elim
       · rw [<- m1]; exact Nat.mul_mod_right s m
       · rw [hs]; exact Int.mul_emod_right _ _
     · exact q
end
def Tl (b:Int):Int->List Rw->Prop
 | _,[]=>False
 | a,[r]=>r.1=some a/\r.2.1=some b/\a < b
 | a,r::s::t=>∃ m,r.1=some a/\r.2.1=some m/\a < m/\r.2.2≠s.2.2/\Tl b m (s::t)
def AdjV:List Rw->Prop
 | r::s::t=>r.2.2≠s.2.2/\AdjV (s::t)
 | _=>True
theorem AdjV.tail {r:Rw} {t:List Rw} (h:AdjV (r::t)):AdjV t:=by
 cases t with
 | nil=>trivial
 | cons s t=>exact h.2
theorem runs_adj:∀ (ps:List Rw) (here:Option Int) (b:Bool),MapF ps->AdjV (runsR here b ps)
 | [],here,b,_=>by unfold runsR; split <;> trivial
 | r :: t, here, b, m => by
   have hv:=m.val r List.mem_cons_self
   have ih:=runs_adj t r.2.1 false (wJ m)
   have core:AdjV (r::runsR r.2.1 false t):=by
    cases t with
    | nil =>
      unfold runsR
      split
      · exact ⟨hv,trivial⟩
      · trivial
    | cons s t' =>
      unfold runsR at ih ⊢
      by_cases e:s.1=r.2.1
      · simp only [ne_eq, e, not_true_eq_false, if_false, List.nil_append] at ih ⊢
        exact ⟨fun z=>m.adj 0 r s rfl rfl ⟨e.symm,z⟩,ih⟩
      · simp only [ne_eq, e, not_false_eq_true, if_true, List.cons_append, List.nil_append] at ih ⊢
        exact ⟨hv,ih⟩
   unfold runsR
   by_cases e:r.1=here
   · simp only [ne_eq, e, not_true_eq_false, if_false, List.nil_append]
     exact core
   · simp only [ne_eq, e, not_false_eq_true, if_true, List.cons_append, List.nil_append]
     exact ⟨fun z=>hv z.symm,core⟩
theorem Tl.lt {b:Int} : ∀ {rows:List Rw} {a:Int},Tl b a rows->a < b
 | [],_,h=>h.elim
 | [r],_,h=>h.2.2
 | r :: s :: t, a, h => by
   obtain ⟨m,_,_,h3,_,h5⟩:=h
   have:=Tl.lt h5
   omega
section
variable {T:Int}
abbrev S0 (T:Int):Spn:=(some 0,some T)
theorem part_in {r:Rw} {a:Int} (ha:r.1=some a) (h0:0<=a) (h1:a < T) (hx:∀ x,r.2.1=some x->a < x):part1 (S0 T) r=some (some a,some (match r.2.1 with | none=>T | some x=>min x T),r.2.2):=by
 unfold part1 meetS
 rw [ha]
 cases hr:r.2.1 with
 | none =>
   have : ¬ T<=max a 0:=by omega
   have e:max a 0=a:=by omega
   simp [qI,lateL,aheadE,e,show ¬ T<=a by omega]
 | some x =>
   have:=hx x hr
   have e:max a 0=a:=by omega
   simp [qI,lateL,aheadE,e,show ¬ min x T<=a by omega]
theorem part_over {r:Rw} {a:Int} (ha:r.1=some a) (h1:T<=a) (hT:0 < T):part1 (S0 T) r=none:=by
 unfold part1 meetS
 rw [ha]
 cases hr:r.2.1 with
 | none=>simp [qI,lateL,aheadE,show T<=max a 0 by omega]
 | some x=>simp [qI,lateL,aheadE,show min x T<=max a 0 by omega]
theorem part_low {r:Rw} {x:Int} (hx:r.2.1=some x) (h0:x<=0):part1 (S0 T) r=none:=by
 unfold part1 meetS
 rw [hx]
 cases hr:r.1 with
 | none=>simp [qI,lateL,aheadE,show min x T<=0 by omega]
 | some a=>simp [qI,lateL,aheadE,show min x T<=max a 0 by omega]
theorem part_first {r:Rw} (ha:∀ a,r.1=some a->a<=0) (hT:0 < T) (hx:∀ x,r.2.1=some x->0 < x):part1 (S0 T) r=some (some 0,some (match r.2.1 with | none=>T | some x=>min x T),r.2.2):=by
 unfold part1 meetS
 have e:lateL r.1 (some 0)=some 0:=by
  cases hr:r.1 with
  | none=>rfl
  | some a=>have:=ha a hr; simp [lateL]; omega
 cases hr:r.2.1 with
 | none=>simp [e,qI,aheadE,show ¬ T<=0 by omega]
 | some x =>
   have:=hx x hr
   simp [e,qI,aheadE,show ¬ min x T<=0 by omega]
theorem wR:∀ {rs:List Rw} {a:Int},Til (some a) rs->T<=a->0 < T->zT rs (S0 T)=[]
 | [],_,h,_,_=>h.elim
 | r :: rs, a, ⟨h1, h2, h3, h4⟩, ha, hT => by
   unfold zT
   rw [List.filterMap_cons,part_over h1 ha hT]
   cases hx:r.2.1 with
   | none=>rw [h3 hx]; rfl
   | some x=>exact wR (h4 x hx) (by have:=h2 a x rfl hx; omega) hT
theorem parts_tl2:∀ {rs:List Rw} {a:Int},Til (some a) rs->AdjV rs->0<=a->a < T->Tl T a (zT rs (S0 T))/\∃ s t r t',zT rs (S0 T)=s::t/\rs=r::t'/\s.2.2=r.2.2
 | [],_,h,_,_,_=>h.elim
 | r :: rs, a, ⟨h1, h2, h3, h4⟩, ad, h0, ha => by
   have hp:=part_in (T:=T) h1 h0 ha (fun x hx=>h2 a x rfl hx)
   have e:zT (r::rs) (S0 T)=(some a,some (match r.2.1 with | none=>T | some x=>min x T),r.2.2)::zT rs (S0 T):=by
    unfold zT
    rw [List.filterMap_cons,hp]
   rw [e]
   refine ⟨?_,_,_,r,rs,rfl,rfl,rfl⟩
   cases hx:r.2.1 with
   | none =>
     rw [h3 hx]
     exact ⟨rfl,rfl,ha⟩
   | some x =>
     have hax:=h2 a x rfl hx
     by_cases hxT:x < T
     · obtain ⟨ih, s, t, r', t', e2, e3, e4⟩ := parts_tl2 (h4 x hx) ad.tail (by omega) hxT
       rw [e2] at ih ⊢
       refine ⟨x,rfl,?_,hax,?_,ih⟩
       · show some (min x T) = some x
         rw [show min x T=x by omega]
       · rw [e4]
         rw [e3] at ad
         exact ad.1
     · rw [wR (h4 x hx) (by omega) (by omega)]
       refine ⟨rfl,?_,ha⟩
       show some (min x T)=some T
       rw [show min x T=T by omega]
theorem parts_tl1 (hT:0 < T):∀ {rs:List Rw} {here:Option Int},Til here rs->AdjV rs->(∀ h,here=some h->h<=0)->Tl T 0 (zT rs (S0 T))
 | [],_,h,_,_=>h.elim
 | r :: rs, here, ⟨h1, h2, h3, h4⟩, ad, hh => by
   cases hx:r.2.1 with
   | none =>
     have hp:=part_first (T:=T) (r:=r) (fun a e=>hh a (by rw [<- h1]; exact e)) hT (fun x e=>by rw [hx] at e; cases e)
     have e:zT (r::rs) (S0 T)=[(some 0,some T,r.2.2)]:=by
      unfold zT
      rw [List.filterMap_cons,hp,hx,h3 hx]
      rfl
     rw [e]
     exact ⟨rfl,rfl,hT⟩
   | some x =>
     by_cases h0:x<=0
     · have e:zT (r::rs) (S0 T)=zT rs (S0 T):=by
        unfold zT
        rw [List.filterMap_cons,part_low hx h0]
       rw [e]
       exact parts_tl1 hT (h4 x hx) ad.tail (fun h z=>by cases z; exact h0)
     · have hp := part_first (T := T) (r := r) (fun a e => hh a (by rw [<- h1]; exact e)) hT (fun y e => by rw [hx] at e; cases e; omega)
       have e:zT (r::rs) (S0 T)=(some 0,some (min x T),r.2.2)::zT rs (S0 T):=by
        unfold zT
        rw [List.filterMap_cons,hp,hx]
       rw [e]
       by_cases hxT:x < T
       · obtain ⟨ih, s, t, r', t', e2, e3, e4⟩ := parts_tl2 (h4 x hx) ad.tail (by omega) hxT
         rw [e2] at ih ⊢
         refine ⟨x,rfl,?_,by omega,?_,ih⟩
         · show some (min x T) = some x
           rw [show min x T=x by omega]
         · rw [e4]
           rw [e3] at ad
           exact ad.1
       · rw [wR (h4 x hx) (by omega) hT]
         refine ⟨rfl,?_,hT⟩
         show some (min x T)=some T
         rw [show min x T=T by omega]
end
theorem til_low {p:Int} : ∀ {rs:List Rw} {x:Int},Til (some x) rs->∀ {r:Rw},r∈rs->has3 r p=true->x<=p
 | [],_,h,_,_,_=>h.elim
 | q :: rs, x, ⟨h1, h2, h3, h4⟩, r, hr, hp => by
   rcases List.mem_cons.mp hr with rfl | hr
   · exact ((qT r p).mp hp).1 x h1
   · cases hq : q.2.1 with
     | none=>rw [h3 hq] at hr; cases hr
     | some y =>
       have a:=til_low (h4 y hq) hr hp
       have b:=h2 x y rfl hq
       omega
theorem til_val {p:Int} : ∀ {rs:List Rw} {here:Option Int},Til here rs->∀ {r:Rw},r∈rs->has3 r p=true->atB p rs=r.2.2
 | [],_,h,_,_,_=>h.elim
 | q :: rs, here, ⟨h1, h2, h3, h4⟩, r, hr, hp => by
   rcases List.mem_cons.mp hr with rfl | hr
   · refine atB_hd ?_
     have:=((qT r p).mp hp).2
     unfold befB
     cases hx:r.2.1 with
     | none=>rfl
     | some x=>simpa using this x hx
   · cases hq : q.2.1 with
     | none=>rw [h3 hq] at hr; cases hr
     | some y =>
       have a:=til_low (h4 y hq) hr hp
       rw [atB_tl (by unfold befB; rw [hq]; simp; exact a)]
       exact til_val (h4 y hq) hr hp
def turnR (Q:List Rw) (T:Int):List Rw:=zT (qF Q) (S0 T)
theorem turn_tl {Q:List Rw} (m:MapF Q) {T:Int} (hT:0 < T):Tl T 0 (turnR Q T):=parts_tl1 hT (jP m.ord) (runs_adj Q none true m) (fun h e=>by cases e)
theorem turn_val {Q:List Rw} (m:MapF Q) {T:Int} {r:Rw} (hr:r∈turnR Q T) {p:Int} (hp:has3 r p=true):0<=p/\p < T/\valL Q p=r.2.2:=by
 obtain ⟨r',h1,h2⟩:=mem_parts.mp hr
 obtain ⟨_,e,f,_⟩:=jE h2
 rw [f p,Bool.and_eq_true,xQ] at hp
 refine ⟨hp.2.1 0 rfl,hp.2.2 T rfl,?_⟩
 rw [<- atB_val m.ord,e]
 exact til_val (jP m.ord) h1 hp.1
def gOf (Q:List Rw) (T:Int):Int->Option Int:=fun p=>valL Q (p % T)
theorem yU (Q:List Rw) (T:Int):Per (gOf Q T) T:=fun p=>by
 unfold gOf
 rw [Int.add_emod_right]
theorem gOf_in {Q:List Rw} {T p:Int} (h0:0<=p) (h1:p < T):gOf Q T p=valL Q p:=by
 unfold gOf
 rw [Int.emod_eq_of_lt h0 h1]
def lowC (r:Rw):Ch:=(r.1.getD 0,r.2.2)
theorem tl_ch {g:Int->Option Int} {b:Int} : ∀ {rows:List Rw} {a:Int},Tl b a rows->(∀ r∈rows,∀ p,has3 r p=true->g p=r.2.2) →
  (∀ c∈rows.tail.map lowC,a < c.1/\c.1 < b/\g c.1=c.2/\g (c.1 - 1)≠g c.1)/\(rows.tail.map lowC).Pairwise (fun x y=>x.1 < y.1)/\(∀ p,a < p->p < b->g (p - 1)≠g p->∃ c∈rows.tail.map lowC,c.1=p) ∧
  (∃ r,rows.head? = some r/\g a=r.2.2)/\(∃ r,rows.getLast? = some r/\g (b - 1)=r.2.2)/\∀ r∈rows,∃ x,r.1=some x
 | [],_,h,_=>h.elim
 | [r], a, ⟨h1, h2, h3⟩, hv => by
   have inr:∀ p,a<=p->p < b->g p=r.2.2:=fun p p1 p2=>hv r List.mem_cons_self p ((qT r p).mpr ⟨fun x e=>by rw [h1] at e; cases e; exact p1,fun x e=>by rw [h2] at e; cases e; exact p2⟩)
   refine ⟨(fun c hc=>by cases hc),List.Pairwise.nil,fun p p1 p2 hc=>?_,⟨r,rfl,inr a (Int.le_refl _) h3⟩,⟨r,rfl,inr _ (by omega) (by omega)⟩,fun q hq=>?_⟩
   · rw [inr p (by omega) p2, inr (p - 1) (by omega) (by omega)] at hc
     exact (hc rfl).elim
   · rcases List.mem_cons.mp hq with rfl | hq
     · exact ⟨a,h1⟩
     · cases hq
 | r :: s :: t, a, ⟨m, h1, h2, h3, h4, h5⟩, hv => by
   obtain ⟨i1,i2,i3,⟨s',hs',i4⟩,⟨l,hl,i5⟩,i6⟩:=tl_ch h5 fun q hq=>hv q (List.mem_cons_of_mem _ hq)
   cases hs'
   have inr:∀ p,a<=p->p < m->g p=r.2.2:=fun p p1 p2=>hv r List.mem_cons_self p ((qT r p).mpr ⟨fun x e=>by rw [h1] at e; cases e; exact p1,fun x e=>by rw [h2] at e; cases e; exact p2⟩)
   have hm:=Tl.lt h5
   obtain ⟨y,hy⟩:=i6 s List.mem_cons_self
   have hy':s.1=some m:=by
    cases t with
    | nil=>exact h5.1
    | cons u t=>obtain ⟨_,q,_⟩:=h5; exact q
   have ec:lowC s=(m,s.2.2):=by unfold lowC; rw [hy']; rfl
   have et:(r::s::t).tail.map lowC=(m,s.2.2)::(s::t).tail.map lowC:=by
    show (s::t).map lowC=_
    rw [List.map_cons,ec]
    rfl
   rw [et]
   refine ⟨fun c hc=>?_,?_,fun p p1 p2 hc=>?_,⟨r,rfl,inr a (Int.le_refl _) h3⟩,⟨l,by rw [List.getLast?_cons_cons]; exact hl,i5⟩,fun q hq=>?_⟩
   · rcases List.mem_cons.mp hc with rfl | hc
     · refine ⟨h3, hm, i4, ?_⟩
       show g (m - 1)≠g m
       rw [i4,inr (m - 1) (by omega) (by omega)]
       exact h4
     · obtain ⟨c1, c2, c3, c4⟩ := i1 c hc
       exact ⟨by omega,c2,c3,c4⟩
   · exact List.pairwise_cons.mpr ⟨fun c hc=>(i1 c hc).1,i2⟩
   · rcases Int.lt_trichotomy p m with q | q | q
     · rw [inr p (by omega) q, inr (p - 1) (by omega) (by omega)] at hc
       exact (hc rfl).elim
     · exact ⟨_,List.mem_cons_self,q.symm⟩
     · obtain ⟨c, c1, c2⟩ := i3 p q p2 hc
       exact ⟨c,List.mem_cons_of_mem _ c1,c2⟩
   · rcases List.mem_cons.mp hq with rfl | hq
     · exact ⟨a,h1⟩
     · exact i6 q hq
def chgF (Q:List Rw) (T:Int):List Ch:=match (turnR Q T).head?,(turnR Q T).getLast? with
 | some r,some l=>(turnR Q T).tail.map lowC++(if r.2.2≠l.2.2 then [(T,r.2.2)] else [])
 | _,_=>[]
theorem chg_is {Q:List Rw} (m:MapF Q) {T:Int} (hT:0 < T):IsCh (gOf Q T) T (chgF Q T):=by
 obtain ⟨i1,i2,i3,⟨r,hr,i4⟩,⟨l,hl,i5⟩,i6⟩:=tl_ch (g:=gOf Q T) (turn_tl m hT) fun r hr p hp=>by
  obtain ⟨a,b,c⟩:=turn_val m hr hp
  rw [gOf_in a b,c]
 unfold chgF
 rw [hr,hl]
 simp only
 have e0:gOf Q T T=r.2.2:=by
  have:=yU Q T 0
  rw [Int.zero_add] at this
  rw [this,i4]
 refine ⟨fun c hc=>?_,?_,fun p p1 p2 hc=>?_⟩
 · rcases List.mem_append.mp hc with hc | hc
   · obtain ⟨c1, c2, c3, c4⟩ := i1 c hc
     exact ⟨c1,by omega,c3,c4⟩
   · split at hc
     · rename_i hne
       rcases List.mem_cons.mp hc with rfl | hc
       · refine ⟨hT, Int.le_refl _, e0, ?_⟩
         show gOf Q T (T - 1)≠gOf Q T T
         rw [e0,i5]
         exact fun z=>hne z.symm
       · cases hc
     · cases hc
 · refine List.pairwise_append.mpr ⟨i2, ?_, fun x hx y hy => ?_⟩
   · split
     · exact List.pairwise_singleton _ _
     · exact List.Pairwise.nil
   · split at hy
     · rcases List.mem_cons.mp hy with rfl | hy
       · exact (i1 x hx).2.1
       · cases hy
     · cases hy
 · by_cases e : p = T
   · subst e
     rw [e0,i5] at hc
     exact ⟨(p,r.2.2),List.mem_append.mpr (.inr (by rw [if_pos (fun z=>hc z.symm)]; exact List.mem_cons_self)),rfl⟩
   · obtain ⟨c, c1, c2⟩ := i3 p p1 (by omega) hc
     exact ⟨c,List.mem_append.mpr (.inl c1),c2⟩
theorem chg_len (Q:List Rw) (T:Int):(chgF Q T).length<=2 * Q.length+1:=by
 have h1:=yY (qF Q) (S0 T)
 have h2:=jQ Q
 unfold chgF
 split
 · rename_i r l hr hl
   rw [List.length_append,List.length_map,List.length_tail]
   have:0 < (turnR Q T).length:=by
    cases h:turnR Q T with
    | nil=>rw [h] at hr; cases hr
    | cons a b=>simp
   have h3:(turnR Q T).length<=2 * Q.length+1:=Nat.le_trans h1 h2
   split
   · simp; omega
   · simp; omega
 · simp
open Builtin.Int (intBits)
def chD (c:Ch):D:=.tup [.int c.1,oi c.2]
theorem flats_ch (l:List Ch):flats (l.map chD)=true:=by
 induction l with
 | nil=>rfl
 | cons a l ih=>simp [chD,ih]
theorem eqv_ch (a b:Ch):eqvD (chD a) (chD b)=decide (a=b):=by
 obtain ⟨a1,a2⟩:=a
 obtain ⟨b1,b2⟩:=b
 have e:decide ((a1,a2)=(b1,b2))=(decide (a1=b1) && decide (a2=b2)):=by
  rw [Bool.eq_iff_iff]
  simp
 rw [e]
 cases a2 <;> cases b2 <;> simp [chD,eqvD,toPy,toPys,PyData.eqv,PyData.eqvAll] <;> rfl
theorem neD_ch (a b:Ch):neD (chD a) (chD b)=some (.bl (!decide (a=b))):=by
 rw [kA (by simp [chD]) (by simp [chD]),eqv_ch]
theorem changes_eq {Q:List Rw} (m:MapF Q) {T:Int} (hT:0 < T) (hl:Q.length<=10000):GP.changes_on.f [.int T,.lst (Q.map rwD)]=some (.fresh ((chgF Q T).map chD)):=by
 have h1:=vC Q (by omega)
 have hr:=jQ Q
 have h2:=wL (qF Q) (S0 T) (by omega)
 have hp:=yY (qF Q) (S0 T)
 obtain ⟨_,_,_,⟨r,er,_⟩,⟨l,el,_⟩,i6⟩:=tl_ch (g:=gOf Q T) (turn_tl m hT) fun r hr p hp=>by
  obtain ⟨a,b,c⟩:=turn_val m hr hp
  rw [gOf_in a b,c]
 have eC:chgF Q T=(turnR Q T).tail.map lowC++(if r.2.2≠l.2.2 then [(T,r.2.2)] else []):=by
  unfold chgF
  rw [er,el]
 have hturn:zT (qF Q) (S0 T)=turnR Q T:=rfl
 rw [hturn] at h2 hp
 rw [eC]
 have low:∀ q∈turnR Q T,D.tup [oi q.1,oi q.2.2]=chD (lowC q):=fun q hq=>by
  obtain ⟨x,hx⟩:=i6 q hq
  unfold lowC
  rw [hx]
  rfl
 generalize turnR Q T=R at *
 cases R with
 | nil=>cases er
 | cons r' t =>
   cases er
   have cu:cutD ((r::t).map rwD) (some 1) none=t.map rwD:=cutD_from _ 1
   have cm:∀ A B:Sl,(compG (viaA (mkL (sliA (zL 2) (soP (zF (.int 1))) noP)) asLT) [none,none,none] (tupG 3 (zO (zV 0) (zO (zV 1) (zO (zV 2) tgNil)))) (fun _=>some true) (mkT (qE (zD (qY 0) (zD (qY 2) zS))))) [A,B,.v (.lst ((r::t).map rwD)),.no]=some ((t.map lowC).map chD):=by
    intro A B
    have hlen:t.length<=16777216:=by simp at hp; omega
    refine yS (items:=t.map rwD) (by simp [cu]; simpa using cu) (by simp; exact hlen) ?_
    rw [List.map_map]
    refine vS rwD _ t fun q hq=>⟨_,by simp [yB]; rfl,?_⟩
    simp
    exact low q (List.mem_cons_of_mem _ hq)
   have il:=last_rw el
   have e0:ixD (.lst ((r::t).map rwD)) (.int 0)=some (rwD r):=by simp
   have fl:=flats_ch ((r::t).tail.map lowC++if r.2.2≠l.2.2 then [(T,r.2.2)] else [])
   have hsp:(D.tup [.int 0,.int T])=spD (S0 T):=rfl
   have et:(r::t).tail=t:=rfl
   rw [et] at fl ⊢
   have hs1:(t.map lowC).length < 16777216:=by simp at hp ⊢; omega
   generalize (r::t).map rwD=L at *
   generalize t.map lowC=M at *
   generalize qF Q=RR at *
   unfold GP.changes_on.f runG GP.changes_on.g
   by_cases hne:r.2.2=l.2.2
   · have ei : (if r.2.2 ≠ l.2.2 then [(T, r.2.2)] else []) = ([] : List Ch) := if_neg (fun z => z hne)
     rw [ei,List.append_nil] at fl ⊢
     have ff:flatF (M.map chD)=some (.rt (.fresh (M.map chD))):=if_pos fl
     generalize M.map chD=ML at *
     simp [args,h1,h2,hsp,cm,e0,il,hne,ff]
   · have ei : (if r.2.2 ≠ l.2.2 then [(T, r.2.2)] else []) = [(T, r.2.2)] := if_pos hne
     rw [ei,List.map_append,List.map_cons,List.map_nil] at fl ⊢
     have ff:flatF (M.map chD++[chD (T,r.2.2)])=some (.rt (.fresh (M.map chD++[chD (T,r.2.2)]))):=if_pos fl
     have ec:D.tup [.int T,oi r.2.2]=chD (T,r.2.2):=rfl
     have hs2:(M.map chD).length < 16777216:=by simpa using hs1
     generalize M.map chD=ML at *
     simp [args,h1,h2,hsp,cm,e0,il,hne,ec,hs2,ff]
theorem change_by_eq {T:Int} {C:List Ch} (hn:C≠[]) (hl:C.length<=100000) (k:Nat) (hk:k < 1000000):GP.change_by.f [.int T,.lst (C.map chD),.int (k:Int)]=some (.val (chD (chP T C k,chV C k))):=by
 have h0:0 < C.length:=List.length_pos_iff.mpr hn
 have hm:=Nat.mod_lt k h0
 have ix:ixD (.lst (C.map chD)) (.int ((k:Int) % (C.length:Int)))=some (chD (C.getD (k % C.length) (0,none))):=by
  rw [<- Int.natCast_emod,wX _ (by omega) (by simp; omega),Int.toNat_natCast,List.getElem?_map,List.getElem?_eq_getElem hm,List.getD_eq_getElem?_getD,List.getElem?_eq_getElem hm]
  rfl
 have hne:C.isEmpty=false:=by cases C with | nil=>exact (hn rfl).elim | cons a b=>rfl
 have hd:jC (.int (k:Int)) (.int (C.length:Int))=some (.int ((k / C.length:Nat):Int)):=by
  rw [wC _ (by omega) (by omega),Int.natCast_ediv]
 have hmod:xV (.int (k:Int)) (.int (C.length:Int))=some (.int ((k:Int) % (C.length:Int))):=yT _ (by omega)
 have hk2:k / C.length < 1000000:=Nat.lt_of_le_of_lt (Nat.div_le_self _ _) hk
 have hmul:yF (.int ((k / C.length:Nat):Int)) (.int T)=some (.int (((k / C.length:Nat):Int) * T)):=jW (.of_left (jH (Nat.lt_trans (show (((k / C.length:Nat):Int)).natAbs < 1000000 by rw [Int.natAbs_natCast]; exact hk2) (by decide))))
 unfold GP.change_by.f runG GP.change_by.g
 have e:D.tup [.int (chP T C k),oi (chV C k)]=chD (chP T C k,chV C k):=rfl
 simp only [chP,chV] at e ⊢
 generalize C.getD (k % C.length) (0,none)=c at *
 obtain ⟨c1,c2⟩:=c
 simp only [chD] at ix
 generalize hL:(C.map chD)=L at *
 have hLl:(L.length:Int)=C.length:=by rw [<- hL]; simp
 have hLe:L.isEmpty=false:=by rw [<- hL]; cases C with | nil=>exact (hn rfl).elim | cons a b=>rfl
 generalize ((k / C.length:Nat):Int)=qq at *
 simp [args,hLe,hLl,hmod,ix,hd,hmul,chD]
def comesB (T:Int) (C:List Ch) (t:Nat):Bool:=C.zipIdx.all fun p=>decide ((chP T C (p.2+C.length / t),chV C (p.2+C.length / t))=(p.1.1+T / (t:Int),p.1.2))
theorem enumD_zip (C:List Ch):enumD (C.map chD)=C.zipIdx.map fun p=>.tup [.int (p.2:Int),chD p.1]:=by
 unfold enumD
 apply List.ext_getElem?
 intro i
 simp only [List.getElem?_mapIdx,List.getElem?_map,List.getElem?_zipIdx]
 cases C[i]? <;> simp
theorem comes_eq {T:Int} {C:List Ch} (hn:C≠[]) (hl:C.length<=100000) (t:Nat) (ht:0 < t) (ht2:t<=100000):GP.comes_again.f [.int T,.lst (C.map chD),.int (t:Int)]=some (.val (.bl (comesB T C t))):=by
 have hd:jC (.int (C.length:Int)) (.int (t:Int))=some (.int ((C.length / t:Nat):Int)):=by
  rw [wC _ (by omega) (by omega),Int.natCast_ediv]
 have hd2:jC (.int T) (.int (t:Int))=some (.int (T / (t:Int))):=wC _ (by omega) (by omega)
 have hq:C.length / t<=C.length:=Nat.div_le_self _ _
 have lp:=loop_all (ga:=tupG 2 (zO (zV 5) (zO (zV 6) tgNil))) (body:=GP.comes_again.b1) (fun p:Ch×Nat=>D.tup [.int (p.2:Int),chD p.1])
  (fun p=>decide ((chP T C (p.2+C.length / t),chV C (p.2+C.length / t))=(p.1.1+T / (t:Int),p.1.2)))
  (fun ds=>∃ x y,ds=[.v (.int T),.v (.lst (C.map chD)),.v (.int (t:Int)),.v (.int ((C.length / t:Nat):Int)),.v (.int (T / (t:Int))),x,y]) (.val (.bl false)) C.zipIdx
  [.v (.int T),.v (.lst (C.map chD)),.v (.int (t:Int)),.v (.int ((C.length / t:Nat):Int)),.v (.int (T / (t:Int))),.no,.no] ⟨_,_,rfl⟩ (by
   rintro ⟨c,i⟩ hp ds ⟨x,y,rfl⟩
   have hi:i < C.length:=by
    have:=List.mem_zipIdx hp
    omega
   have hb:=change_by_eq (T:=T) hn hl (i+C.length / t) (by omega)
   have hcast:((i+C.length / t:Nat):Int)=(i:Int)+((C.length / t:Nat):Int):=by omega
   rw [hcast] at hb
   refine ⟨[.v (.int T),.v (.lst (C.map chD)),.v (.int (t:Int)),.v (.int ((C.length / t:Nat):Int)),.v (.int (T / (t:Int))),.v (.int (i:Int)),.v (chD c)],by simp,?_⟩
   have ne:=neD_ch (chP T C (i+C.length / t),chV C (i+C.length / t)) (c.1+T / (t:Int),c.2)
   obtain ⟨c1,c2⟩:=c
   simp only [chD] at ne hb ⊢
   unfold GP.comes_again.b1
   generalize C.map chD=L at *
   generalize ((C.length / t:Nat):Int)=qq at *
   by_cases e:(chP T C (i+C.length / t),chV C (i+C.length / t))=(c1+T / (t:Int),c2)
   · left
     simp only [e,decide_true,Bool.not_true] at ne
     refine ⟨by simpa using e,[.v (.int T),.v (.lst L),.v (.int (t:Int)),.v (.int qq),.v (.int (T / (t:Int))),.v (.int (i:Int)),.v (.tup [.int c1,oi c2])],?_,_,_,rfl⟩
     simp [hb,ne]
   · right
     have e':decide ((chP T C (i+C.length / t),chV C (i+C.length / t))=(c1+T / (t:Int),c2))=false:=decide_eq_false e
     rw [e'] at ne
     refine ⟨e',?_⟩
     simp [hb,ne])
 unfold GP.comes_again.f runG GP.comes_again.g
 have en:=enumD_zip C
 have hen:enuA (qY 1) [.v (.int T),.v (.lst (C.map chD)),.v (.int (t:Int)),.v (.int ((C.length / t:Nat):Int)),.v (.int (T / (t:Int))),.no,.no]=some (C.zipIdx.map fun p:Ch×Nat=>D.tup [.int (p.2:Int),chD p.1]):=by
  simp [enuA,en]
 unfold comesB
 have hlen:((C.map chD).length:Int)=C.length:=by simp
 generalize ((C.length / t:Nat):Int)=qq at *
 rcases lp with ⟨l1,ds',l2,x,y,rfl⟩ | ⟨l1,l2⟩
 · rw [l1]
   generalize C.map chD=L at *
   simp [args,hlen,hd,hd2,hen,l2]
 · rw [l1]
   generalize C.map chD=L at *
   simp [args,hlen,hd,hd2,hen,l2]
theorem comesB_iff {T:Int} {C:List Ch} {t:Nat} : comesB T C t=true↔∀ k,k < C.length->chP T C (k+C.length / t)=chP T C k+T / (t:Int)/\chV C (k+C.length / t)=chV C k:=by
 unfold comesB
 rw [List.all_eq_true]
 have at_:∀ k (hk:k < C.length),chP T C k=C[k].1/\chV C k=C[k].2:=fun k hk=>by
  unfold chP chV
  rw [Nat.mod_eq_of_lt hk,Nat.div_eq_of_lt hk,List.getD_eq_getElem?_getD,List.getElem?_eq_getElem hk]
  simp
 constructor
 · intro h k hk
   have:=h (C[k],k) (List.mem_zipIdx_iff_getElem?.mpr (by simp [hk]))
   simp only [decide_eq_true_eq,Prod.mk.injEq] at this
   rw [(at_ k hk).1,(at_ k hk).2]
   exact this
 · rintro h ⟨c, i⟩ hp
   have hi:=List.mem_zipIdx_iff_getElem?.mp hp
   obtain ⟨hk,e⟩:=List.getElem?_eq_some_iff.mp hi
   simp only at hk e
   have:=h i hk
   rw [(at_ i hk).1,(at_ i hk).2,e] at this
   simpa using this
def goodT (T:Int) (C:List Ch) (t:Nat):Bool:=decide (C.length % t=0) && (decide (T % (t:Int)=0) && comesB T C t)
theorem goodT_iff {T:Int} {C:List Ch} {t:Nat} : goodT T C t=true↔ComesT T C t:=by
 unfold goodT ComesT
 rw [Bool.and_eq_true,Bool.and_eq_true,decide_eq_true_eq,decide_eq_true_eq,comesB_iff]
theorem times_turn {T:Int} {C:List Ch} (hn:C≠[]) (hl:C.length<=100000) (t:Nat) (ht:0 < t) (ht2:t<=100000) :
  GP.times_on.b1 [.v (.int T),.v (.lst (C.map chD)),.v (.int (t:Int))]=if goodT T C t=true then some (.rt (.val (.int (t:Int)))) else some (.nx [.v (.int T),.v (.lst (C.map chD)),.v (.int (t:Int))]):=by
 have hc:=comes_eq (T:=T) hn hl t ht ht2
 have m1:xV (.int (C.length:Int)) (.int (t:Int))=some (.int ((C.length % t:Nat):Int)):=by rw [yT _ (by omega),Int.natCast_emod]
 have m2:xV (.int T) (.int (t:Int))=some (.int (T % (t:Int))):=yT _ (by omega)
 have hlen:((C.map chD).length:Int)=C.length:=by simp
 have e1:decide (((C.length % t:Nat):Int)=0)=decide (C.length % t=0):=by
  rw [Bool.eq_iff_iff]; simp only [decide_eq_true_eq]; omega
 unfold GP.times_on.b1 goodT
 generalize C.map chD=L at *
 generalize ((C.length % t:Nat):Int)=qq at *
 cases h1:decide (C.length % t=0) <;> cases h2:decide (T % (t:Int)=0) <;> cases h3:comesB T C t <;> rw [h3] at hc <;> rw [h1] at e1 <;> simp [hlen,m1,m2,hc,h2,eqD_int,e1]
theorem times_loop {T:Int} {C:List Ch} (hn:C≠[]) (hl:C.length<=100000):∀ (j n:Nat) (x:Sl),j < n->n<=100000 →
  (∃ t:Nat,n - j < t/\t<=n/\goodT T C t=true/\(∀ t',t < t'->t'<=n->goodT T C t'=false)/\jK (zV 2) GP.times_on.b1 (range3D (n:Int) (-1) j) [.v (.int T),.v (.lst (C.map chD)),x]=some (.rt (.val (.int (t:Int))))) ∨
  ((∀ t',n - j < t'->t'<=n->goodT T C t'=false)/\∃ y,jK (zV 2) GP.times_on.b1 (range3D (n:Int) (-1) j) [.v (.int T),.v (.lst (C.map chD)),x]=some (.nx [.v (.int T),.v (.lst (C.map chD)),y]))
 | 0,n,x,_,_=>.inr ⟨fun t' h1 h2=>by omega,x,rfl⟩
 | j + 1, n, x, hj, hn2 => by
   have e:range3D (n:Int) (-1) (j+1)=D.int (n:Int)::range3D ((n - 1:Nat):Int) (-1) j:=by
    unfold range3D
    rw [List.range_succ_eq_map,List.map_cons,List.map_map]
    have e0:(n:Int)+((0:Nat):Int) * -1=(n:Int):=by omega
    rw [e0]
    congr 1
    refine List.map_congr_left fun k _=>?_
    have e1:(n:Int)+((k.succ:Nat):Int) * -1=((n - 1:Nat):Int)+(k:Int) * -1:=by omega
    show D.int ((n:Int)+((k.succ:Nat):Int) * -1)=_
    rw [e1]
   have tt:=times_turn (T:=T) hn hl n (by omega) (by omega)
   rw [e]
   cases hg:goodT T C n with
   | true =>
     left
     rw [hg] at tt
     refine ⟨n,by omega,Nat.le_refl _,hg,fun t' h1 h2=>by omega,?_⟩
     simp [jK,tt]
   | false =>
     rw [hg] at tt
     have st:∀ rest,jK (zV 2) GP.times_on.b1 (D.int (n:Int)::rest) [.v (.int T),.v (.lst (C.map chD)),x]=jK (zV 2) GP.times_on.b1 rest [.v (.int T),.v (.lst (C.map chD)),.v (.int (n:Int))]:=fun rest=>by
      simp [jK,tt]
     rw [st]
     rcases times_loop hn hl j (n - 1) (.v (.int (n:Int))) (by omega) (by omega) with ⟨t,t1,t2,t3,t4,t5⟩ | ⟨t1,y,t2⟩
     · refine .inl ⟨t, by omega, by omega, t3, fun t' h1 h2 => ?_, t5⟩
       by_cases z:t'=n
       · subst z; exact hg
       · exact t4 t' h1 (by omega)
     · refine .inr ⟨fun t' h1 h2 => ?_, y, t2⟩
       by_cases z:t'=n
       · subst z; exact hg
       · exact t1 t' (by omega) (by omega)
theorem times_ex {T:Int} {C:List Ch} (hl:C.length<=100000):∃ t,Times T C t/\GP.times_on.f [.int T,.lst (C.map chD)]=some (.val (.int t)):=by
 by_cases hn:C=[]
 · subst hn
   refine ⟨T,⟨fun _=>rfl,fun z=>(z rfl).elim⟩,?_⟩
   unfold GP.times_on.f runG GP.times_on.g
   simp [args]
 · have h0 : 0 < C.length := List.length_pos_iff.mpr hn
   have hlp:=times_loop (T:=T) hn hl (C.length - 1) C.length .no (by omega) (by omega)
   have rg:∀ x:Sl,rngB (callB lenD (zD (zL 1) zS)) (zF (.int 1)) (un1 negD (zF (.int 1))) [.v (.int T),.v (.lst (C.map chD)),x]=some (range3D (C.length:Int) (-1) (C.length - 1)):=by
    intro x
    have ok:okRB (C.length:Int) 1:=⟨by omega,by omega,by decide,by decide⟩
    have e2:((C.length:Int) - 1).toNat=C.length - 1:=by omega
    simp [rngB,ok,e2]
   have hne:(C.map chD).isEmpty=false:=by cases C with | nil=>exact (hn rfl).elim | cons a b=>rfl
   unfold GP.times_on.f runG GP.times_on.g
   rcases hlp with ⟨t,t1,t2,t3,t4,t5⟩ | ⟨t1,y,t2⟩
   · refine ⟨(t : Int), ⟨fun z => (hn z).elim, fun _ => ⟨t, rfl, by omega, t2, .inr (goodT_iff.mp t3), fun n' h1 h2 z => ?_⟩⟩, ?_⟩
     · have := t4 n' h1 h2
       rw [goodT_iff.mpr z] at this
       cases this
     · generalize C.map chD = L at *
       simp [args,hne,rg,t5]
   · refine ⟨1, ⟨fun z => (hn z).elim, fun _ => ⟨1, rfl, by omega, h0, .inl rfl, fun n' h1 h2 z => ?_⟩⟩, ?_⟩
     · have := t1 n' (by omega) h2
       rw [goodT_iff.mpr z] at this
       cases this
     · generalize C.map chD = L at *
       simp [args,hne,rg,t2]
def whD (L:Int) (ps:List Rw):D:=.tup [.int L,.lst (ps.map rwD)]
theorem divOk_bits {j:Int} (h:0 < j) (h2:j < 10 ^ 200):divOk j:=by
 refine ⟨h,?_⟩
 have e:j.natAbs < 10 ^ 200:=by
  have h3:((10 ^ 200:Nat):Int)=(10:Int) ^ 200:=by norm_cast
  omega
 have:j.natAbs.log2 < 8000:=(Nat.log2_lt (by omega)).mpr (Nat.lt_trans e (by decide +kernel))
 omega
theorem qP {i j:Int} (h:0 < j) (h2:j < 10 ^ 200):jC (.int i) (.int j)=some (.int (i / j)):=if_pos (divOk_bits h h2)
theorem xX {Q:List Rw} (m:MapF Q) {T:Int} (hT:0 < T) (hb:T < 10 ^ 200) (hl:Q.length<=10000) :
  ∃ t,Times T (chgF Q T) t/\GP.wheel_of.f [.int T,.lst (Q.map rwD)]=some (.val (whD (T / t) (zT Q (S0 (T / t))))):=by
 have hc:=changes_eq m hT hl
 have hcl:=chg_len Q T
 obtain ⟨t,ht,e⟩:=times_ex (T:=T) (C:=chgF Q T) (by omega)
 obtain ⟨t0,t1,t2,_⟩:=least_of (yU Q T) (chg_is m hT) hT ht
 have htT:t<=T:=by
  have a:t * 1<=t * (T / t):=Int.mul_le_mul_of_nonneg_left (by omega) (Int.le_of_lt t0)
  omega
 have hd:jC (.int T) (.int t)=some (.int (T / t)):=qP t0 (Int.lt_of_le_of_lt htT hb)
 have hp:=wL Q (S0 (T / t)) (by omega)
 have hsp:(D.tup [.int 0,.int (T / t)])=spD (S0 (T / t)):=rfl
 have hfl:=jV (zT Q (S0 (T / t)))
 refine ⟨t,ht,?_⟩
 unfold GP.wheel_of.f runG GP.wheel_of.g
 have h1 : ¬ T < 1:=by omega
 generalize (chgF Q T).map chD=CL at *
 generalize Q.map rwD=QL at *
 generalize hPL:(zT Q (S0 (T / t))).map rwD=PL at *
 have hw:whD (T / t) (zT Q (S0 (T / t))) = .tup [.int (T / t),.lst PL]:=by rw [<- hPL]; rfl
 simp [args,h1,hc,e,hd,flV,flA,hsp,hp,hfl,hw]
end FL
namespace FL
open PySem PySem.Spec PyProof.Rows L2
open Builtin.Int (intBits)
def Ins (ps:List Rw) (L:Int):Prop:=∀ r∈ps,∃ lo bh,r.1=some lo/\r.2.1=some bh/\0<=lo/\bh<=L
def adjC:List Rw->Prop
 | r::s::t=>¬ (r.2.1=s.1/\r.2.2=s.2.2)/\adjC (s::t)
 | _=>True
theorem adj_of:∀ {ps:List Rw},adjC ps->∀ (i:Nat) (a b:Rw),ps[i]? = some a->ps[i+1]? = some b->¬ (a.2.1=b.1/\a.2.2=b.2.2)
 | [],_,i,a,b,e,_=>by simp at e
 | [x],_,i,a,b,_,e=>by simp at e
 | x :: y :: t, h, 0, a, b, e1, e2 => by
   simp at e1 e2
   subst e1 e2
   exact h.1
 | x::y::t,h,i+1,a,b,e1,e2=>adj_of h.2 i a b (by simpa using e1) (by simpa using e2)
theorem part_both {r s r' s':Rw} {S:Spn} (h:ahead r s) (h1:part1 S r=some r') (h2:part1 S s=some s'):r'.2.1=r.2.1/\s'.1=s.1:=by
 obtain ⟨x,y,hx,hy,hxy⟩:=h
 have a1:=jE h1
 have a2:=jE h2
 obtain ⟨S1,S2⟩:=S
 unfold part1 at h1 h2
 rw [Option.map_eq_some_iff] at h1 h2
 obtain ⟨u,hu,rfl⟩:=h1
 obtain ⟨w,hw,rfl⟩:=h2
 have ou:=meetS_ok hu
 have ow:=meetS_ok hw
 unfold meetS at hu hw
 split at hu
 · cases hu
 split at hw
 · cases hw
 rename_i n1 n2
 cases hu
 cases hw
 simp only at *
 rw [hx,hy] at *
 constructor
 · cases S2 with
   | none=>rfl
   | some b =>
     simp only [qI]
     have:y < b:=by
      cases hs:s.2.1 with
      | none =>
        rw [hs] at n2
        cases S1 <;> simp [qI,lateL,aheadE] at n2 <;> omega
      | some z =>
        rw [hs] at n2
        cases S1 <;> simp [qI,lateL,aheadE] at n2 <;> omega
     rw [show min x b=x by omega]
 · cases S1 with
   | none=>rfl
   | some a =>
     simp only [lateL]
     have:a < x:=by
      cases hs:r.1 with
      | none =>
        rw [hs] at n1
        cases S2 <;> simp [qI,lateL,aheadE] at n1 <;> omega
      | some z =>
        rw [hs] at n1
        cases S2 <;> simp [qI,lateL,aheadE] at n1 <;> omega
     rw [show max y a=y by omega]
theorem ord_tail {r:Rw} {t:List Rw} (o:Ord (r::t)):Ord t:=⟨fun z hz=>o.ok z (List.mem_cons_of_mem _ hz),(List.pairwise_cons.mp o.pw).2⟩
theorem vT {Q:List Rw} (m:MapF Q) (S:Spn):MapF (zT Q S):=by
 refine ⟨parts_ord m.ord S,fun r hr=>?_,?_⟩
 · obtain ⟨q, h1, h2⟩ := mem_parts.mp hr
   rw [(jE h2).2.1]
   exact m.val q h1
 · refine adj_of ?_
   have go:∀ ps:List Rw,Ord ps->(∀ (i:Nat) (a b:Rw),ps[i]? = some a->ps[i+1]? = some b->¬ (a.2.1=b.1/\a.2.2=b.2.2))->adjC (zT ps S):=by
    intro ps
    induction ps with
    | nil=>intro _ _; trivial
    | cons r t ih =>
      intro o ad
      have ih':=ih (ord_tail o) fun i a b e1 e2=>ad (i+1) a b (by simpa using e1) (by simpa using e2)
      unfold zT at ih' ⊢
      rw [List.filterMap_cons]
      cases h1:part1 S r with
      | none=>exact ih'
      | some r' =>
        simp only
        cases hp:t.filterMap (part1 S) with
        | nil=>trivial
        | cons s' u =>
          rw [hp] at ih'
          refine ⟨?_,ih'⟩
          have hs':s'∈t.filterMap (part1 S):=by rw [hp]; exact List.mem_cons_self
          obtain ⟨s,q1,q2⟩:=List.mem_filterMap.mp hs'
          have ah:=(List.pairwise_cons.mp o.pw).1 s q1
          obtain ⟨e1,e2⟩:=part_both ah h1 q2
          rintro ⟨z1,z2⟩
          rw [e1,e2] at z1
          rw [(jE h1).2.1,(jE q2).2.1] at z2
          cases t with
          | nil=>cases q1
          | cons s0 t' =>
            rcases List.mem_cons.mp q1 with rfl | q1
            · exact ad 0 r s rfl rfl ⟨z1,z2⟩
            · obtain ⟨x, y, hx, hy, hxy⟩ := (List.pairwise_cons.mp o.pw).1 s0 List.mem_cons_self
              obtain ⟨x2,y2,hx2,hy2,hxy2⟩:=(List.pairwise_cons.mp (ord_tail o).pw).1 s q1
              have:=o.ok s0 (List.mem_cons_of_mem _ List.mem_cons_self) y x2 hy hx2
              rw [hx,hy2] at z1
              cases z1
              omega
   exact go Q m.ord m.adj
theorem parts_ins {Q:List Rw} {L:Int} : Ins (zT Q (S0 L)) L:=fun r hr=>by
 obtain ⟨q,h1,h2⟩:=mem_parts.mp hr
 obtain ⟨_,_,_,_,_,g1,g2⟩:=jE h2
 obtain ⟨x',e1,l1⟩:=g1 L rfl
 obtain ⟨y',e2,l2⟩:=g2 0 rfl
 exact ⟨y',x',e2,e1,l2,l1⟩
theorem parts_val {Q:List Rw} (o:Ord Q) {L p:Int} (h0:0<=p) (h1:p < L):valL (zT Q (S0 L)) p=valL Q p :=
 valL_same (parts_ord o _) o fun v=>by
  rw [vM]
  exact ⟨fun h=>h.2,fun h=>⟨(xQ _ _).mpr ⟨fun a e=>by cases e; exact h0,fun b e=>by cases e; exact h1⟩,h⟩⟩
end FL
namespace FL
open PySem PySem.Spec PyProof.Rows L2
open Builtin.Int (intBits)
end FL
namespace FL
open PySem PySem.Spec PyProof.Rows L2
open Builtin.Int (intBits)
theorem ord_app {a b:List Rw} (oa:Ord a) (ob:Ord b) (h:∀ x∈a,∀ y∈b,ahead x y):Ord (a++b) :=
 ⟨fun r hr=>(List.mem_append.mp hr).elim (oa.ok r) (ob.ok r),List.pairwise_append.mpr ⟨oa.pw,ob.pw,h⟩⟩
theorem tel_sh {ps:List Rw} {f p v:Int} : Tel (ps.map (shR f)) p v↔Tel ps (p - f) v:=tel_map (T:=shR f) (c:=fun p=>p - f) (has_sh f) (fun _=>rfl) ps p v
theorem tel_app {a b:List Rw} {p v:Int} : Tel (a++b) p v↔Tel a p v \/ Tel b p v:=by
 constructor
 · rintro ⟨q, h1, h2⟩
   rcases List.mem_append.mp h1 with h1 | h1
   · exact .inl ⟨q,h1,h2⟩
   · exact .inr ⟨q,h1,h2⟩
 · rintro (⟨q, h1, h2⟩ | ⟨q, h1, h2⟩)
   · exact ⟨q,List.mem_append_left _ h1,h2⟩
   · exact ⟨q,List.mem_append_right _ h1,h2⟩
end FL
namespace FL
open PySem PySem.Spec PyProof.Rows L2
open Builtin.Int (intBits)
theorem Per.mod {g:Int->Option Int} {a b:Int} (ha:Per g a) (hb:Per g b):Per g (a % b):=fun p=>by
 have e:a % b=a - b * (a / b):=by have:=Int.emod_add_mul_ediv a b; omega
 have h:=hb.int (p+a % b) (a / b)
 have e2:p+a % b+a / b * b=p+a:=by rw [Int.mul_comm (a / b) b]; omega
 rw [e2] at h
 rw [<- h,ha]
theorem per_gcd {g:Int->Option Int} : ∀ (a b:Nat),Per g (a:Int)->Per g (b:Int)->Per g ((Nat.gcd a b:Nat):Int):=by
 intro a b
 induction a,b using Nat.gcd.induction with
 | H0 n=>intro _ h; simpa using h
 | H1 m n hm ih =>
   intro h1 h2
   rw [Nat.gcd_rec]
   exact ih (by rw [Int.natCast_emod]; exact h2.mod h1) h1
structure Whl (L:Int) (ps:List Rw):Prop where
 pos:0 < L
 bnd:L < 10 ^ 200
 map:MapF ps
 ins:Ins ps L
 len:ps.length<=100
 least:∀ far s,0 < far->L=s * far->Per (gOf ps L) far->L<=far
theorem least_gcd {g:Int->Option Int} {L M:Int} (hL:0 < L) (hM:0 < M) (pL:Per g L) (pM:Per g M) (h:∀ far s,0 < far->L=s * far->Per g far->L<=far):L<=M:=by
 obtain ⟨a,rfl⟩:=Int.eq_ofNat_of_zero_le (Int.le_of_lt hL)
 obtain ⟨b,rfl⟩:=Int.eq_ofNat_of_zero_le (Int.le_of_lt hM)
 have d1:Nat.gcd a b ∣ a:=Nat.gcd_dvd_left a b
 have d2:Nat.gcd a b ∣ b:=Nat.gcd_dvd_right a b
 have hg:0 < Nat.gcd a b:=Nat.gcd_pos_of_pos_left b (by omega)
 have:=h ((Nat.gcd a b:Nat):Int) ((a / Nat.gcd a b:Nat):Int) (by omega) (by rw [<- Int.natCast_mul,Nat.div_mul_cancel d1]) (per_gcd a b pL pM)
 have:=Nat.le_of_dvd (by omega) d2
 omega
theorem xI {ps:List Rw} {L:Int} (o:Ord ps) (hi:Ins ps L) (p v:Int):Tel ps p v↔(0<=p/\p < L)/\gOf ps L p=some v:=by
 constructor
 · rintro ⟨r, hr, h1, h2⟩
   obtain ⟨lo,bh,q1,q2,q3,q4⟩:=hi r hr
   have a:=((qT _ _).mp h1).1 lo q1
   have b:=((qT _ _).mp h1).2 bh q2
   exact ⟨⟨by omega,by omega⟩,by rw [gOf_in (by omega) (by omega),yA o]; exact ⟨r,hr,h1,h2⟩⟩
 · rintro ⟨⟨h0, h1⟩, h2⟩
   rw [gOf_in h0 h1,yA o] at h2
   exact h2
theorem whl_one {L M:Int} {ps qs:List Rw} (a:Whl L ps) (b:Whl M qs) (h:gOf ps L=gOf qs M):L=M/\ps=qs:=by
 have e:L=M:=by
  have h1:=least_gcd a.pos b.pos (yU ps L) (by rw [h]; exact yU qs M) a.least
  have h2:=least_gcd b.pos a.pos (yU qs M) (by rw [<- h]; exact yU ps L) b.least
  omega
 subst e
 refine ⟨rfl,map_one a.map b.map fun p v=>?_⟩
 rw [xI a.map.ord a.ins,xI b.map.ord b.ins,h]
def First (g h:Int->Option Int) (p:Int):Prop:=0<=p/\g p≠h p/\∀ q,0<=q->q < p->g q=h q
theorem First.symm {g h:Int->Option Int} {p:Int} (a:First g h p):First h g p:=⟨a.1,fun z=>a.2.1 z.symm,fun q q0 q1=>(a.2.2 q q0 q1).symm⟩
section
variable {g h:Int->Option Int} {L M:Int} {C D:List Ch}
end
end FL
namespace FL
open PySem PySem.Spec PyProof.Rows L2
open Builtin.Int (intBits)
end FL
namespace FL
open PySem PySem.Spec PyProof.Rows L2
open Builtin.Int (intBits)
theorem vN {Q:List Rw} (m:MapF Q) {T:Int} (hT:0 < T) (hb:T < 10 ^ 200) (hl:Q.length<=100) :
  ∃ (L:Int) (ps:List Rw),Whl L ps/\gOf ps L=gOf Q T/\L<=T/\ps.length<=Q.length/\GP.wheel_of.f [.int T,.lst (Q.map rwD)]=some (.val (whD L ps)):=by
 obtain ⟨t,ht,ew⟩:=xX m hT hb (by omega)
 obtain ⟨t0,tL,tF,tper,tmin⟩:=least_of (yU Q T) (chg_is m hT) hT ht
 have hLF:T / t<=T:=by
  have:1 * (T / t)<=t * (T / t):=Int.mul_le_mul_of_nonneg_right (by omega) (by omega)
  omega
 have lp:=yY Q (S0 (T / t))
 have val:gOf (zT Q (S0 (T / t))) (T / t)=gOf Q T:=funext fun p=>by
  have d2:=Int.emod_nonneg p (Int.ne_of_gt tL)
  have d3:=Int.emod_lt_of_pos p tL
  show valL (zT Q (S0 (T / t))) (p % (T / t))=_
  rw [parts_val m.ord d2 d3,<- gOf_in (Q:=Q) (T:=T) d2 (by omega),tper.emod]
 refine ⟨T / t,zT Q (S0 (T / t)),⟨tL,by omega,vT m _,parts_ins,by omega,fun far s hf hs hp=>?_⟩,val,hLF,lp,ew⟩
 rw [val] at hp
 have hs0:0 < s:=by
  rcases Int.lt_or_le 0 s with z | z
  · exact z
  · have := Int.mul_nonpos_of_nonpos_of_nonneg z (Int.le_of_lt hf)
    omega
 refine tmin far hf ⟨(t * s).toNat,?_⟩ hp
 have:0<=t * s:=Int.mul_nonneg (by omega) (by omega)
 rw [Int.toNat_of_nonneg this,Int.mul_assoc,<- hs,tF]
section
variable {g h:Int->Option Int} {L M:Int} {C D:List Ch}
end
end FL
namespace FL
open PySem PySem.Spec PyProof.Rows L2
theorem til_lowJ:∀ {rs:List Rw} {x:Int},Til (some x) rs->∀ r∈rs,∃ y,r.1=some y/\x<=y
 | [],_,h,_,_=>h.elim
 | r0 :: rs, x, ⟨h1, h2, h3, h4⟩, r, hr => by
   rcases List.mem_cons.mp hr with rfl | hr
   · exact ⟨x,h1,Int.le_refl _⟩
   · cases e : r0.2.1 with
     | none=>rw [h3 e] at hr; cases hr
     | some z =>
       obtain ⟨y,e1,e2⟩:=til_lowJ (h4 z e) r hr
       have:=h2 x z rfl e
       exact ⟨y,e1,by omega⟩
theorem wA:∀ {rs:List Rw} {here:Option Int},Til here rs->Ord rs
 | [],_,h=>h.elim
 | r :: rs, here, ⟨h1, h2, h3, h4⟩ => by
   have ok:ok3 r:=fun a b e1 e2=>h2 a b (h1.symm.trans e1) e2
   cases e:r.2.1 with
   | none =>
     rw [h3 e]
     exact ⟨fun z hz=>by rw [List.mem_singleton.mp hz]; exact ok,List.pairwise_singleton _ _⟩
   | some x =>
     have o:=wA (h4 x e)
     refine ⟨fun z hz=>(List.mem_cons.mp hz).elim (fun e=>e ▸ ok) (o.ok z),List.pairwise_cons.mpr ⟨fun z hz=>?_,o.pw⟩⟩
     obtain ⟨y,e1,e2⟩:=til_lowJ (h4 x e) z hz
     exact ⟨x,y,e,e1,e2⟩
theorem til_ex (p:Int):∀ {rs:List Rw} {here:Option Int},Til here rs->∃ r,rs.find? (befB p)=some r
 | [],_,h=>h.elim
 | r :: rs, here, ⟨h1, h2, h3, h4⟩ => by
   rw [List.find?_cons]
   cases hb:befB p r with
   | true=>exact ⟨r,rfl⟩
   | false =>
     cases e:r.2.1 with
     | none=>unfold befB at hb; rw [e] at hb; cases hb
     | some x=>exact til_ex p (h4 x e)
theorem til_valJ {rs:List Rw} (h:Til none rs) (p:Int):valL rs p=atB p rs:=by
 rw [valL_find (wA h),til_find p rs none h (fun _ e=>nomatch e)]
 rfl
def mapR (W:Option Int->Option Int) (rs:List Rw):List Rw:=rs.map fun r=>(r.1,r.2.1,W r.2.2)
theorem til_map (W:Option Int->Option Int):∀ {rs:List Rw} {here:Option Int},Til here rs->Til here (mapR W rs)
 | [],_,h=>h
 | r::rs,here,⟨h1,h2,h3,h4⟩=>⟨h1,h2,fun e=>by rw [h3 e]; rfl,fun x e=>til_map W (h4 x e)⟩
theorem atB_map (W:Option Int->Option Int) {rs:List Rw} {p:Int} (h:∃ r,rs.find? (befB p)=some r):atB p (mapR W rs)=W (atB p rs):=by
 obtain ⟨r,hr⟩:=h
 have e:(mapR W rs).find? (befB p)=some (r.1,r.2.1,W r.2.2):=by
  unfold mapR
  rw [List.find?_map]
  have:(befB p ∘ fun r:Rw=>((r.1,r.2.1,W r.2.2):Rw))=befB p:=rfl
  rw [this,hr]
  rfl
 unfold atB
 rw [hr,e]
def turnF (W:Option Int->Option Int) (ps:List Rw):List Rw:=knitF (mapR W (qF ps))
theorem wE (W:Option Int->Option Int) {ps:List Rw} (o:Ord ps):MapF (turnF W ps):=wO (wA (til_map W (jP o)))
theorem turn_at (W:Option Int->Option Int) {ps:List Rw} (o:Ord ps) (p:Int):valL (turnF W ps) p=W (valL ps p):=by
 have t:=til_map W (jP o)
 rw [show valL (turnF W ps) p=valL (mapR W (qF ps)) p from valL_same (wE W o).ord (wA t) fun v=>vH (wA t) p v,til_valJ t,atB_map W (til_ex p (jP o)),atB_val o]
theorem turn_len (W:Option Int->Option Int) (ps:List Rw):(turnF W ps).length<=2 * ps.length+1:=Nat.le_trans (wF _) (by unfold mapR; rw [List.length_map]; exact jQ ps)
theorem noclo_oi (o:Option Int):noclo (oi o)=true:=by cases o <;> simp [noclo]
theorem noclos_rw:∀ l:List Rw,noclos (l.map rwD)=true
 | []=>rfl
 | r::l=>by simp [noclos,noclo,rwD,noclo_oi,noclos_rw l]
theorem turned_comp {Φ : Fun2} {c:D} {W:Option Int->Option Int} (hW:∀ v,Φ c [oi v]=some (.val (oi (W v)))) (s0:List Sl) (x y z:Sl) (hs:s0=[x,y,z,.v c]):∀ rs:List Rw,
  compL (tupG 3 (zO (zV 0) (zO (zV 1) (zO (zV 2) tgNil)))) (fun _=>some true) (mkT (qE (zD (qY 0) (zD (qY 1) (zD (callW Φ 3 (zD (zL 2) zS)) zS))))) s0 (rs.map rwD)=some ((mapR W rs).map rwD)
 | []=>by simp [compL,mapR]
 | r :: rs => by
   have ih:=turned_comp hW s0 x y z hs rs
   subst hs
   have hw:=hW r.2.2
   rw [List.map_cons,compL]
   have e1:tupG 3 (zO (zV 0) (zO (zV 1) (zO (zV 2) tgNil))) (rwD r) [x,y,z,.v c]=some [.v (oi r.1),.v (oi r.2.1),.v (oi r.2.2),.v c]:=by
    simp [rwD]
   have e2:mkT (qE (zD (qY 0) (zD (qY 1) (zD (callW Φ 3 (zD (zL 2) zS)) zS)))) [.v (oi r.1),.v (oi r.2.1),.v (oi r.2.2),.v c]=some (rwD (r.1,r.2.1,W r.2.2)):=by
    simp [callW,hw,rwD,retV]
   rw [e1]
   simp only [Option.bind_some,if_true,e2,ih,Option.map_some]
   rfl
theorem turned_eq {Φ : Fun2} {c:D} {W:Option Int->Option Int} (hW:∀ v,Φ c [oi v]=some (.val (oi (W v)))) {ps:List Rw} (hl:ps.length<=100000):GP.turned.f Φ [.lst (ps.map rwD),c]=some (.fresh ((turnF W ps).map rwD)):=by
 have h1:=vC ps (by omega)
 have hln:=jQ ps
 have h2:=knit_eq (mapR W (qF ps)) (by unfold mapR; rw [List.length_map]; omega)
 have fl:=jV (turnF W ps)
 have comp:compG (viaA (zX 1 GP.runs_of.f (zD (zL 0) zS)) asLT) [none,none,none,some 1] (tupG 3 (zO (zV 0) (zO (zV 1) (zO (zV 2) tgNil)))) (fun _=>some true) (mkT (qE (zD (qY 0) (zD (qY 1) (zD (callW Φ 3 (zD (zL 2) zS)) zS))))) [.v (.lst (ps.map rwD)),.v c]=some ((mapR W (qF ps)).map rwD):=by
  refine yS (items:=(qF ps).map rwD) (by simp [h1,retV]) (by simp; omega) ?_
  exact turned_comp hW _ .no .no .no rfl _
 unfold turnF at fl ⊢
 generalize knitF (mapR W (qF ps))=T at *
 generalize (mapR W (qF ps)).map rwD=M at *
 unfold GP.turned.f runG GP.turned.g
 simp [args,comp,h2,fl]
theorem turned_nc {Φ : Fun2} {c:D} {W:Option Int->Option Int} (hW:∀ v,Φ c [oi v]=some (.val (oi (W v)))) {ps:List Rw} (hl:ps.length<=100000):ncF (GP.turned.f Φ) [.lst (ps.map rwD),c]=some (.fresh ((turnF W ps).map rwD)):=by
 unfold ncF
 rw [turned_eq hW hl]
 simp [ncR,noclos_rw]
open Builtin.Int (intBits)
def joinR (W:Option Int->Option Int->Option Int) (L:List R4):List Rw:=L.map fun r=>(r.1,r.2.1,W r.2.2.1 r.2.2.2)
theorem pair_til (W:Option Int->Option Int->Option Int):∀ (n:Nat) (here:Option Int) (as bs:List Rw),as.length+bs.length<=n->Rem here as->Rem here bs->Til here (joinR W (yQ n here as bs))
 | _,_,[],_,_,h,_=>h.elim
 | _,_,_::_,[],_,_,h=>h.elim
 | 0,_,_::_,_::_,h,_,_=>by simp at h
 | n + 1, here, a :: as, b :: bs, hn, ha, hb => by
   have two:=stp_two a b as bs
   simp only [List.length_cons] at hn
   show Til here ((here,qI a.2.1 b.2.1,W a.2.2 b.2.2)::joinR W (yQ n (qI a.2.1 b.2.1) (stp (qI a.2.1 b.2.1) (a::as)) (stp (qI a.2.1 b.2.1) (b::bs))))
   refine ⟨rfl,fun h x e1 e2=>?_,fun e=>?_,fun x e=>?_⟩
   · have e2 : qI a.2.1 b.2.1 = some x := e2
     cases h1:a.2.1 with
     | none =>
       rw [h1] at e2
       cases h2:b.2.1 with
       | none=>rw [h2] at e2; cases e2
       | some y=>rw [h2] at e2; cases e2; exact hb.1 h _ e1 h2
     | some y =>
       rw [h1] at e2
       cases h2:b.2.1 with
       | none=>rw [h2] at e2; cases e2; exact ha.1 h _ e1 h1
       | some z =>
         rw [h2] at e2
         have e3:min y z=x:=Option.some.inj e2
         have:=ha.1 h _ e1 h1
         have:=hb.1 h _ e1 h2
         omega
   · have e : qI a.2.1 b.2.1 = none := e
     rw [e,(both_none ha hb e).1,pair_nil]
     rfl
   · have e : qI a.2.1 b.2.1 = some x := e
     rw [e] at two ⊢
     have xa:∀ y,a.2.1=some y->x<=y:=fun y h1=>by
      rw [h1] at e
      cases h2:b.2.1 with
      | none=>rw [h2] at e; cases e; exact Int.le_refl _
      | some z=>rw [h2] at e; have e3:min y z=x:=Option.some.inj e; omega
     have xb:∀ y,b.2.1=some y->x<=y:=fun y h2=>by
      rw [h2] at e
      cases h1:a.2.1 with
      | none=>rw [h1] at e; cases e; exact Int.le_refl _
      | some z=>rw [h1] at e; have e3:min z y=x:=Option.some.inj e; omega
     refine pair_til W n (some x) _ _ (by omega) ?_ ?_
     · rcases xO ha xa with h | h
       · exact h.2.2
       · exact h.2
     · rcases xO hb xb with h | h
       · exact h.2.2
       · exact h.2
theorem pair_len:∀ (n:Nat) (here:Option Int) (as bs:List Rw),(yQ n here as bs).length<=n
 | 0,_,_,_=>by simp [yQ]
 | n+1,_,[],_=>by simp [yQ]
 | n+1,_,_::_,[]=>by simp [yQ]
 | n + 1, here, a :: as, b :: bs => by
   have:=pair_len n (qI a.2.1 b.2.1) (stp (qI a.2.1 b.2.1) (a::as)) (stp (qI a.2.1 b.2.1) (b::bs))
   rw [yQ,List.length_cons]
   omega
abbrev pairR (ps qs:List Rw):List R4:=yQ ((qF ps).length+(qF qs).length) none (qF ps) (qF qs)
def kK (W:Option Int->Option Int->Option Int) (ps qs:List Rw):List Rw:=knitF (joinR W (pairR ps qs))
section
variable (W:Option Int->Option Int->Option Int) {ps qs:List Rw}
theorem join_til (o1:Ord ps) (o2:Ord qs):Til none (joinR W (pairR ps qs)):=pair_til W _ none _ _ (Nat.le_refl _) (jP o1).rem (jP o2).rem
theorem join_mapF (o1:Ord ps) (o2:Ord qs):MapF (kK W ps qs):=wO (wA (join_til W o1 o2))
end
theorem join_len (W:Option Int->Option Int->Option Int) (ps qs:List Rw):(kK W ps qs).length<=2 * ps.length+2 * qs.length+2:=by
 have h1:=jQ ps
 have h2:=jQ qs
 have h3:=pair_len ((qF ps).length+(qF qs).length) none (qF ps) (qF qs)
 have h4:=wF (joinR W (pairR ps qs))
 have h5:(joinR W (pairR ps qs)).length=(yQ ((qF ps).length+(qF qs).length) none (qF ps) (qF qs)).length:=List.length_map _
 unfold kK
 omega
theorem joined_comp {Φ : Fun2} {c:D} {W:Option Int->Option Int->Option Int} (hW:∀ u v,Φ c [oi u,oi v]=some (.val (oi (W u v)))) (s0:List Sl) (x y z t:Sl) (hs:s0=[x,y,z,t,.v c]):∀ L:List R4,
  compL (tupG 4 (zO (zV 0) (zO (zV 1) (zO (zV 2) (zO (zV 3) tgNil))))) (fun _=>some true) (mkT (qE (zD (qY 0) (zD (qY 1) (zD (callW Φ 4 (zD (zL 2) (zD (zL 3) zS))) zS))))) s0 (L.map r4D)=some ((joinR W L).map rwD)
 | []=>by simp [compL,joinR]
 | r :: L => by
   have ih:=joined_comp hW s0 x y z t hs L
   subst hs
   have hw:=hW r.2.2.1 r.2.2.2
   rw [List.map_cons,compL]
   have e1:tupG 4 (zO (zV 0) (zO (zV 1) (zO (zV 2) (zO (zV 3) tgNil)))) (r4D r) [x,y,z,t,.v c]=some [.v (oi r.1),.v (oi r.2.1),.v (oi r.2.2.1),.v (oi r.2.2.2),.v c]:=by
    simp [r4D]
   have e2:mkT (qE (zD (qY 0) (zD (qY 1) (zD (callW Φ 4 (zD (zL 2) (zD (zL 3) zS))) zS)))) [.v (oi r.1),.v (oi r.2.1),.v (oi r.2.2.1),.v (oi r.2.2.2),.v c]=some (rwD (r.1,r.2.1,W r.2.2.1 r.2.2.2)):=by
    simp [callW,hw,rwD,retV]
   rw [e1]
   simp only [Option.bind_some,if_true,e2,ih,Option.map_some]
   rfl
theorem joined_eq {Φ : Fun2} {c:D} {W:Option Int->Option Int->Option Int} (hW:∀ u v,Φ c [oi u,oi v]=some (.val (oi (W u v)))) {ps qs:List Rw} (o1:Ord ps) (o2:Ord qs) (h1:ps.length<=10000) (h2:qs.length<=10000) :
  GP.joined.f Φ [.lst (ps.map rwD),.lst (qs.map rwD),c]=some (.fresh ((kK W ps qs).map rwD)):=by
 have pe:=paired_eq o1 o2 h1 h2
 have l1:=jQ ps
 have l2:=jQ qs
 have l3:=pair_len ((qF ps).length+(qF qs).length) none (qF ps) (qF qs)
 have h5:(joinR W (pairR ps qs)).length=(yQ ((qF ps).length+(qF qs).length) none (qF ps) (qF qs)).length:=List.length_map _
 have l6:(pairR ps qs).length<=(qF ps).length+(qF qs).length:=l3
 have kn:=knit_eq (joinR W (pairR ps qs)) (by omega)
 have fl:=jV (kK W ps qs)
 have comp:∀ (a b:Sl),compG (viaA (qY 3) asLT) [none,none,none,none,some 2] (tupG 4 (zO (zV 0) (zO (zV 1) (zO (zV 2) (zO (zV 3) tgNil))))) (fun _=>some true) (mkT (qE (zD (qY 0) (zD (qY 1) (zD (callW Φ 4 (zD (zL 2) (zD (zL 3) zS))) zS))))) [a,b,.v c,.v (.lst ((pairR ps qs).map r4D))]=some ((joinR W (pairR ps qs)).map rwD):=fun a b=>by
  refine yS (items:=(pairR ps qs).map r4D) (by simp) (by simp; omega) ?_
  exact joined_comp hW _ .no .no .no .no rfl _
 unfold kK at fl ⊢
 unfold pairR at *
 generalize knitF (joinR W (yQ ((qF ps).length+(qF qs).length) none (qF ps) (qF qs)))=T at *
 generalize (joinR W (yQ ((qF ps).length+(qF qs).length) none (qF ps) (qF qs))).map rwD=M at *
 generalize (yQ ((qF ps).length+(qF qs).length) none (qF ps) (qF qs)).map r4D=N at *
 unfold GP.joined.f runG GP.joined.g
 simp [args,pe,comp,kn,fl]
end FL
namespace FL
open PySem PySem.Spec PyProof.Rows L2
open Builtin.Int (intBits)
def cntP (f:Int->Bool) (a:Int):Nat->Int
 | 0=>0
 | n+1=>cntP f a n+(if f (a+n)=true then 1 else 0)
def freeC (ps:List Rw) (a b:Int):Int:=cntP (fun p=>decide (valL ps p=none)) a (b - a).toNat
end FL
namespace FL
open PySem PySem.Spec PyProof.Rows L2
def LongF (U:Int->Bool) (n p:Int):Prop:=∀ q,p<=q->q < p+n->U q=true
def frF (n:Int):List Spn->List Rw->Option Int×List Spn
 | acc,[]=>(none,acc)
 | acc, r :: rs => match r.2.2 with
   | none=>frF n (acc++[(r.1,r.2.1)]) rs
   | some _ => match r.2.1 with
     | none=>(r.1,acc)
     | some x => match r.1 with
       | some a=>if n<=x - a then (some a,acc) else frF n acc rs
       | none=>(none,acc)
def foundD (o:Option Int×List Spn):D:=.tup [oi o.1,.lst (o.2.map spD)]
theorem fr_loop {Φ : Fun2} (P S C:Sl) (n:Int):∀ (rows:List Rw) (acc:List Spn) (a b c:Sl),(∀ r∈rows,∃ y,r.1=some y)->acc.length+rows.length < 16777216 →
  (∃ y pp,frF n acc rows=(some y,pp)/\jK (tupG 3 (zO (zV 5) (zO (zV 6) (zO (zV 7) tgNil)))) (GP.first_run.b1 Φ) (rows.map rwD) [P,S,.v (.int n),C,.own (acc.map spD),a,b,c]=some (.rt (.val (foundD (some y,pp))))) ∨
  (∃ pp a' b' c',frF n acc rows=(none,pp)/\jK (tupG 3 (zO (zV 5) (zO (zV 6) (zO (zV 7) tgNil)))) (GP.first_run.b1 Φ) (rows.map rwD) [P,S,.v (.int n),C,.own (acc.map spD),a,b,c]=some (.nx [P,S,.v (.int n),C,.own (pp.map spD),a',b',c']))
 | [],acc,a,b,c,_,_=>.inr ⟨acc,a,b,c,rfl,by simp [jK]⟩
 | r :: rows, acc, a, b, c, hl, hz => by
   simp only [List.length_cons] at hz
   have hl':∀ r∈rows,∃ y,r.1=some y:=fun z hz=>hl z (List.mem_cons_of_mem _ hz)
   obtain ⟨y,ey⟩:=hl r List.mem_cons_self
   have st:tupG 3 (zO (zV 5) (zO (zV 6) (zO (zV 7) tgNil))) (rwD r) [P,S,.v (.int n),C,.own (acc.map spD),a,b,c]=some [P,S,.v (.int n),C,.own (acc.map spD),.v (.int y),.v (oi r.2.1),.v (oi r.2.2)]:=by simp [ey]
   have fl:=flats_spn acc
   cases hv:r.2.2 with
   | none =>
     have turn:GP.first_run.b1 Φ [P,S,.v (.int n),C,.own (acc.map spD),.v (.int y),.v (oi r.2.1),.v .non]=some (.nx [P,S,.v (.int n),C,.own ((acc++[(r.1,r.2.1)]).map spD),.v (.int y),.v (oi r.2.1),.v .non]):=by
      have e0:D.tup [.int y,oi r.2.1]=spD (r.1,r.2.1):=by rw [ey]; rfl
      have hs:acc.length < 16777216:=by omega
      simp [GP.first_run.b1,e0,hs]
     have ih:=fr_loop (Φ:=Φ) P S C n rows (acc++[(r.1,r.2.1)]) (.v (.int y)) (.v (oi r.2.1)) (.v .non) hl' (by simp; omega)
     have e1:frF n acc (r::rows)=frF n (acc++[(r.1,r.2.1)]) rows:=by rw [frF,hv]
     rw [e1,List.map_cons,jK,st]
     simp only [hv,show oi none=D.non from rfl,Option.bind_some,turn]
     exact ih
   | some v =>
     cases hx:r.2.1 with
     | none =>
       left
       refine ⟨y,acc,by rw [frF,hv,hx]; simp [ey],?_⟩
       have turn:GP.first_run.b1 Φ [P,S,.v (.int n),C,.own (acc.map spD),.v (.int y),.v .non,.v (.int v)]=some (.rt (.val (foundD (some y,acc)))):=by
        simp [GP.first_run.b1,getO,fl,foundD,retDG,flV]
       rw [List.map_cons,jK,st]
       simp only [hv,hx,oi,Option.bind_some,turn]
     | some x =>
       by_cases h:n<=x - y
       · left
         refine ⟨y,acc,by rw [frF,hv,hx,ey]; simp [h],?_⟩
         have turn:GP.first_run.b1 Φ [P,S,.v (.int n),C,.own (acc.map spD),.v (.int y),.v (.int x),.v (.int v)]=some (.rt (.val (foundD (some y,acc)))):=by
          simp [GP.first_run.b1,getO,fl,foundD,retDG,flV,h]
         rw [List.map_cons,jK,st]
         simp only [hv,hx,oi,Option.bind_some,turn]
       · have turn:GP.first_run.b1 Φ [P,S,.v (.int n),C,.own (acc.map spD),.v (.int y),.v (.int x),.v (.int v)]=some (.nx [P,S,.v (.int n),C,.own (acc.map spD),.v (.int y),.v (.int x),.v (.int v)]):=by
          simp [GP.first_run.b1,h]
         have ih:=fr_loop (Φ:=Φ) P S C n rows acc (.v (.int y)) (.v (.int x)) (.v (.int v)) hl' (by omega)
         have e1:frF n acc (r::rows)=frF n acc rows:=by rw [frF,hv,hx,ey]; simp [h]
         rw [e1,List.map_cons,jK,st]
         simp only [hv,hx,oi,Option.bind_some,turn]
         exact ih
theorem part_on {s:Int} {r:Rw} (h:∀ x,r.2.1=some x->s < x) (hl:∀ a,r.1=some a->a<=s):part1 (some s,none) r=some (some s,r.2.1,r.2.2):=by
 unfold part1 meetS
 have e:lateL r.1 (some s)=some s:=by
  cases hr:r.1 with
  | none=>rfl
  | some a=>have:=hl a hr; simp [lateL]; omega
 cases hr:r.2.1 with
 | none=>simp [e,qI,aheadE]
 | some x =>
   have:=h x hr
   simp [e,qI,aheadE,show ¬ x<=s by omega]
theorem part_off {s x:Int} {r:Rw} (h:r.2.1=some x) (hx:x<=s):part1 (some s,none) r=none:=by
 unfold part1 meetS
 rw [h]
 cases hr:r.1 with
 | none=>simp [qI,lateL,aheadE,hx]
 | some a=>simp [qI,lateL,aheadE,show x<=max a s by omega]
theorem part_keep {s a:Int} {r:Rw} (ha:r.1=some a) (h:s<=a) (hx:∀ x,r.2.1=some x->a < x):part1 (some s,none) r=some r:=by
 unfold part1 meetS
 obtain ⟨r1,r2,r3⟩:=r
 simp only at ha hx ⊢
 subst ha
 have e:max a s=a:=by omega
 cases r2 with
 | none=>simp [qI,lateL,aheadE,e]
 | some x =>
   have:=hx x rfl
   simp [qI,lateL,aheadE,e,show ¬ x<=a by omega]
theorem parts_keep {s:Int} : ∀ {rs:List Rw} {a:Int},Til (some a) rs->s<=a->zT rs (some s,none)=rs
 | [],_,h,_=>h.elim
 | r :: rs, a, ⟨h1, h2, h3, h4⟩, hs => by
   unfold zT
   rw [List.filterMap_cons_some (part_keep h1 hs fun x e=>h2 a x rfl e)]
   cases e:r.2.1 with
   | none=>rw [h3 e]; rfl
   | some x =>
     have:=h2 a x rfl e
     have ih:=parts_keep (s:=s) (h4 x e) (by omega)
     unfold zT at ih
     rw [ih]
theorem parts_from {s:Int} : ∀ {rs:List Rw} {here:Option Int},Til here rs->(∀ h,here=some h->h<=s)->AdjV rs →
  Til (some s) (zT rs (some s,none))/\AdjV (zT rs (some s,none))/\∀ p,s<=p->atB p (zT rs (some s,none))=atB p rs
 | [],_,h,_,_=>h.elim
 | r :: rs, here, ⟨h1, h2, h3, h4⟩, hh, ha => by
   by_cases hc:∃ x,r.2.1=some x/\x<=s
   · obtain ⟨x, e, hx⟩ := hc
     have ih:=parts_from (s:=s) (h4 x e) (fun h e=>by cases e; exact hx) ha.tail
     have e1:zT (r::rs) (some s,none)=zT rs (some s,none):=by
      unfold zT
      rw [List.filterMap_cons_none (part_off e hx)]
     rw [e1]
     refine ⟨ih.1,ih.2.1,fun p hp=>?_⟩
     rw [ih.2.2 p hp,atB_tl (by unfold befB; rw [e]; simp; omega)]
   · have hx:∀ x,r.2.1=some x->s < x:=fun x e=>by
      rcases Int.lt_or_le s x with z | z
      · exact z
      · exact absurd ⟨x,e,z⟩ hc
     have hk:zT rs (some s,none)=rs:=by
      cases e:r.2.1 with
      | none=>rw [h3 e]; rfl
      | some x=>exact parts_keep (h4 x e) (Int.le_of_lt (hx x e))
     have e1:zT (r::rs) (some s,none)=(some s,r.2.1,r.2.2)::rs:=by
      have hk':=hk
      unfold zT at hk' ⊢
      rw [List.filterMap_cons_some (part_on hx fun a e=>hh a (h1 ▸ e)),hk']
     rw [e1]
     refine ⟨⟨rfl,fun h x e1 e2=>by cases e1; exact hx x e2,h3,h4⟩,?_,fun p hp=>?_⟩
     · cases rs with
       | nil=>trivial
       | cons z t=>exact ⟨ha.1,ha.2⟩
     · by_cases hb : befB p r = true
       · rw [atB_hd hb,atB_hd (show befB p (some s,r.2.1,r.2.2)=true from hb)]
       · have hb : befB p r = false := by simpa using hb
         rw [atB_tl hb,atB_tl (show befB p (some s,r.2.1,r.2.2)=false from hb)]
structure FrOk (U:Int->Bool) (n s:Int) (acc:List Spn) (o:Option Int×List Spn):Prop where
 yes:∀ y,o.1=some y->s<=y/\LongF U n y/\(∀ p,s<=p->p < y->¬ LongF U n p)/\(y=s->o.2=acc)
 no:o.1=none->∀ p,s<=p->¬ LongF U n p
theorem frF_ok {n:Int} (hn:1<=n):∀ (rows:List Rw) (s:Int) (acc:List Spn),Til (some s) rows->AdjV rows->(∀ r∈rows,r.2.2=none \/ r.2.2=some 1)->FrOk (fun q=>(atB q rows).isSome) n s acc (frF n acc rows)
 | [],_,_,h,_,_=>h.elim
 | r :: rs, s, acc, ⟨h1, h2, h3, h4⟩, ha, hv => by
   have hv':∀ z∈rs,z.2.2=none \/ z.2.2=some 1:=fun z hz=>hv z (List.mem_cons_of_mem _ hz)
   have here:∀ q,s<=q->(∀ x,r.2.1=some x->q < x)->atB q (r::rs)=r.2.2:=fun q _ h=>atB_hd (by
    unfold befB
    cases e:r.2.1 with
    | none=>rfl
    | some x=>simpa using h x e)
   have there:∀ x q,r.2.1=some x->x<=q->atB q (r::rs)=atB q rs:=fun x q e h=>atB_tl (by unfold befB; rw [e]; simpa using h)
   cases hr:r.2.2 with
   | none =>
     have e1:frF n acc (r::rs)=frF n (acc++[(r.1,r.2.1)]) rs:=by rw [frF,hr]
     rw [e1]
     cases e:r.2.1 with
     | none =>
       rw [h3 e]
       refine ⟨fun y z=>by simp [frF] at z,fun _ p hp hL=>?_⟩
       have:=hL p (Int.le_refl _) (by omega)
       rw [h3 e] at here
       simp only [here p hp (fun x z=>by rw [e] at z; cases z),hr] at this
       cases this
     | some x =>
       have hx:=h2 s x rfl e
       have ih:=frF_ok hn rs x (acc++[(r.1,r.2.1)]) (h4 x e) ha.tail hv'
       rw [e] at ih
       have sm:∀ p,x<=p->(LongF (fun q=>(atB q (r::rs)).isSome) n p↔LongF (fun q=>(atB q rs).isSome) n p):=fun p hp =>
        ⟨fun h q q1 q2=>by have:=h q q1 q2; simp only [there x q e (by omega)] at this; exact this,fun h q q1 q2=>by simp only [there x q e (by omega)]; exact h q q1 q2⟩
       have lo:∀ p,s<=p->p < x->¬ LongF (fun q=>(atB q (r::rs)).isSome) n p:=fun p p1 p2 h=>by
        have:=h p (Int.le_refl _) (by omega)
        simp only [here p p1 (fun z q=>by rw [e] at q; cases q; exact p2),hr] at this
        cases this
       refine ⟨fun y z=>?_,fun z p hp=>?_⟩
       · obtain ⟨q1, q2, q3, q4⟩ := ih.yes y z
         refine ⟨by omega,(sm y q1).mpr q2,fun p p1 p2=>?_,fun z=>by omega⟩
         by_cases hp:p < x
         · exact lo p p1 hp
         · exact fun h=>q3 p (by omega) p2 ((sm p (by omega)).mp h)
       · by_cases hp2 : p < x
         · exact lo p hp hp2
         · exact fun h=>ih.no z p (by omega) ((sm p (by omega)).mp h)
   | some v =>
     cases e:r.2.1 with
     | none =>
       have e1:frF n acc (r::rs)=(some s,acc):=by rw [frF,hr,e,h1]
       rw [e1]
       refine ⟨fun y z=>?_,fun z=>by cases z⟩
       cases z
       refine ⟨Int.le_refl _,fun q q1 q2=>?_,fun p p1 p2=>by omega,fun _=>rfl⟩
       simp only [here q q1 (fun x z=>by rw [e] at z; cases z),hr]
       rfl
     | some x =>
       have hx:=h2 s x rfl e
       by_cases hc:n<=x - s
       · have e1 : frF n acc (r :: rs) = (some s, acc) := by rw [frF, hr, e, h1]; simp [hc]
         rw [e1]
         refine ⟨fun y z=>?_,fun z=>by cases z⟩
         cases z
         refine ⟨Int.le_refl _,fun q q1 q2=>?_,fun p p1 p2=>by omega,fun _=>rfl⟩
         simp only [here q q1 (fun x' z=>by rw [e] at z; cases z; omega),hr]
         rfl
       · have e1 : frF n acc (r :: rs) = frF n acc rs := by rw [frF, hr, e, h1]; simp [hc]
         rw [e1]
         have ih:=frF_ok hn rs x acc (h4 x e) ha.tail hv'
         have sm:∀ p,x<=p->(LongF (fun q=>(atB q (r::rs)).isSome) n p↔LongF (fun q=>(atB q rs).isSome) n p):=fun p hp =>
          ⟨fun h q q1 q2=>by have:=h q q1 q2; simp only [there x q e (by omega)] at this; exact this,fun h q q1 q2=>by simp only [there x q e (by omega)]; exact h q q1 q2⟩
         have nx:(atB x rs).isSome=false:=by
          cases rs with
          | nil=>exact (h4 x e).elim
          | cons z t =>
            obtain ⟨z1,z2,z3,z4⟩:=h4 x e
            have hb:befB x z=true:=by
             unfold befB
             cases ez:z.2.1 with
             | none=>rfl
             | some w=>simpa using z2 x w rfl ez
            rw [atB_hd hb]
            have h0:=ha.1
            rcases hv' z List.mem_cons_self with q | q
            · rw [q]; rfl
            · rcases hv r List.mem_cons_self with q' | q'
              · rw [hr] at q'; cases q'
              · exact absurd (q'.trans q.symm) h0
         have lo:∀ p,s<=p->p < x->¬ LongF (fun q=>(atB q (r::rs)).isSome) n p:=fun p p1 p2 h=>by
          have:=h x (by omega) (by omega)
          simp only [there x x e (Int.le_refl _),nx] at this
          cases this
         refine ⟨fun y z=>?_,fun z p hp=>?_⟩
         · obtain ⟨q1, q2, q3, q4⟩ := ih.yes y z
           refine ⟨by omega,(sm y q1).mpr q2,fun p p1 p2=>?_,fun z=>by omega⟩
           by_cases hp:p < x
           · exact lo p p1 hp
           · exact fun h=>q3 p (by omega) p2 ((sm p (by omega)).mp h)
         · by_cases hp2 : p < x
           · exact lo p hp hp2
           · exact fun h=>ih.no z p (by omega) ((sm p (by omega)).mp h)
theorem FrOk.same {U V:Int->Bool} {n s:Int} {a:List Spn} {o:Option Int×List Spn} (h:FrOk U n s a o) (e:∀ p,s<=p->U p=V p):FrOk V n s a o:=by
 have lf:∀ p,s<=p->(LongF U n p↔LongF V n p):=fun p hp=>⟨fun h q q1 q2=>by rw [<- e q (by omega)]; exact h q q1 q2,fun h q q1 q2=>by rw [e q (by omega)]; exact h q q1 q2⟩
 refine ⟨fun y z=>?_,fun z p hp k=>h.no z p hp ((lf p hp).mpr k)⟩
 obtain ⟨a1,a2,a3,a4⟩:=h.yes y z
 exact ⟨a1,(lf y a1).mp a2,fun p p1 p2 k=>a3 p p1 p2 ((lf p p1).mpr k),a4⟩
open Builtin.Int (intBits)
def hWF (T:Option Int->Bool):Option Int->Option Int:=fun v=>if T v=true then some 1 else none
theorem hWF_some (T:Option Int->Bool) (v:Option Int):(hWF T v).isSome=T v:=by
 unfold hWF
 cases T v <;> rfl
theorem wU {Φ : Fun2} {c:D} {T:Option Int->Bool} (hH:∀ v,Φ (.clo 4 0 [c]) [oi v]=some (.val (oi (hWF T v)))) {ps:List Rw} (hl:ps.length<=100000):GP.holding.f Φ [.lst (ps.map rwD),c]=some (.fresh ((turnF (hWF T) ps).map rwD)):=by
 have h:=turned_nc (W:=hWF T) hH hl
 have fl:=jV (turnF (hWF T) ps)
 unfold GP.holding.f runG GP.holding.g
 generalize (turnF (hWF T) ps).map rwD=Q at *
 generalize ps.map rwD=P at *
 simp [args,lamA,capsA,h,retF,fl]
theorem first_run_ex {Φ : Fun2} {c:D} {T:Option Int->Bool} (hH:∀ v,Φ (.clo 4 0 [c]) [oi v]=some (.val (oi (hWF T v)))) {ps:List Rw} (o:Ord ps) (hl:ps.length<=100000) {n:Int} (hn:1<=n) (s:Int) :
  ∃ w,FrOk (fun p=>T (valL ps p)) n s [] w/\GP.first_run.f Φ [.lst (ps.map rwD),.int s,.int n,c]=some (.val (foundD w)):=by
 have e1:=wU hH hl
 have mQ:=wE (hWF T) o
 have lQ:=turn_len (hWF T) ps
 have vQ:=turn_at (hWF T) o
 generalize turnF (hWF T) ps=Q at e1 mQ lQ vQ
 have e2:GP.runs_of.f [.lst (Q.map rwD)]=some (.fresh ((qF Q).map rwD)):=vC Q (by omega)
 have lR:=jQ Q
 have e3:GP.parts_in.f [.lst ((qF Q).map rwD),.tup [.int s,.non]]=some (.fresh ((zT (qF Q) (some s,none)).map rwD)):=wL (qF Q) (some s,none) (by omega)
 have lP:=yY (qF Q) (some s,none)
 obtain ⟨t1,a1,v1⟩:=parts_from (s:=s) (jP mQ.ord) (fun h e=>nomatch e) (runs_adj Q none true mQ)
 have vR:∀ p,s<=p->atB p (zT (qF Q) (some s,none))=hWF T (valL ps p):=fun p hp=>by rw [v1 p hp,atB_val mQ.ord,vQ]
 clear v1
 generalize zT (qF Q) (some s,none)=R at *
 have low:=til_lowJ t1
 have hv:∀ r∈R,r.2.2=none \/ r.2.2=some 1:=fun r hr=>by
  obtain ⟨y,y1,y2⟩:=low r hr
  have hp:has3 r y=true:=(qT r y).mpr ⟨fun a e=>by rw [y1] at e; cases e; exact Int.le_refl _,fun b e=>(wA t1).ok r hr y b y1 e⟩
  have:=til_val t1 hr hp
  rw [vR y y2] at this
  rw [<- this]
  unfold hWF
  split
  · exact .inr rfl
  · exact .inl rfl
 have F:=(frF_ok hn R s [] t1 a1 hv).same (V:=fun p=>T (valL ps p)) fun p hp=>by rw [vR p hp,hWF_some]
 refine ⟨_,F,?_⟩
 have hn' : ¬ n < 1:=by omega
 have lo:∀ r∈R,∃ y,r.1=some y:=fun r hr=>let ⟨y,y1,_⟩:=low r hr; ⟨y,y1⟩
 have zl:(R.map rwD).length<=16777216:=by rw [List.length_map]; omega
 rcases fr_loop (Φ:=Φ) (.v (.lst (ps.map rwD))) (.v (.int s)) (.v c) n R [] .no .no .no lo (by simp; omega) with ⟨y,pp,h1,h2⟩ | ⟨pp,a',b',c',h1,h2⟩
 · rw [h1]
   simp only [List.map_nil] at h2
   refine xF ?_
   unfold GP.first_run.g
   generalize R.map rwD=RL at *
   generalize (qF Q).map rwD=QL at *
   generalize Q.map rwD=PL at *
   generalize ps.map rwD=SL at *
   simp [args,hn',e1,e2,e3,h2,zl]
 · rw [h1]
   simp only [List.map_nil] at h2
   have fl:=flats_spn pp
   refine xF ?_
   unfold GP.first_run.g
   generalize R.map rwD=RL at *
   generalize (qF Q).map rwD=QL at *
   generalize Q.map rwD=PL at *
   generalize ps.map rwD=SL at *
   simp [args,hn',e1,e2,e3,h2,zl,flV,getO,fl,retDG,foundD]
theorem vW {ga:D->List Sl->Option (List Sl)} {body:FS} (lo:Int) (P:Nat->List Sl->Prop) (N:Nat) (H:∀ k,k < N->∀ ds,P k ds->∃ ds1 ds2,ga (.int (lo+(k:Int))) ds=some ds1/\body ds1=some (.nx ds2)/\P (k+1) ds2) :
  ∀ n k ds,k+n=N->P k ds->∃ ds',jK ga body ((List.range' k n).map fun (j:Nat)=>D.int (lo+(j:Int))) ds=some (.nx ds')/\P N ds'
 | 0, k, ds, h, hp => ⟨ds, rfl, by have : k = N := by omega
                                   subst this; exact hp⟩
 | n + 1, k, ds, h, hp => by
   obtain ⟨ds1,ds2,e1,e2,h2⟩:=H k (by omega) ds hp
   obtain ⟨ds',e,h'⟩:=vW lo P N H n (k+1) ds2 (by omega) h2
   refine ⟨ds',?_,h'⟩
   rw [List.range'_succ,List.map_cons,jK]
   rw [e1,Option.bind_some,e2,Option.bind_some]
   exact e
theorem bits_380 {x:Int} (h1 : -(10 ^ 380)<=x) (h2:x<=10 ^ 380):intBits x<=1300:=jH (by
 have:(10:Nat) ^ 380 < 2 ^ 1300:=by decide +kernel
 have e:((10 ^ 380:Nat):Int)=10 ^ 380:=Int.natCast_pow 10 380
 generalize (10:Int) ^ 380=B at *
 generalize (10:Nat) ^ 380=B' at *
 generalize 2 ^ 1300=C at *
 omega)
theorem bits_200 {x:Int} (h1:0 < x) (h2:x < 10 ^ 200):intBits x<=700:=jH (by
 have:(10:Nat) ^ 200 < 2 ^ 700:=by decide +kernel
 have e:((10 ^ 200:Nat):Int)=10 ^ 200:=Int.natCast_pow 10 200
 generalize (10:Int) ^ 200=B at *
 generalize (10:Nat) ^ 200=B' at *
 generalize 2 ^ 700=C at *
 omega)
theorem rolled_many {L:Int} {ps:List Rw} (w:Whl L ps) (hl:ps.length<=100) (hL:2<=L) {s e:Int} (hse:s < e) (hk:(e - 1) / L - s / L<=10) (h1 : -(10 ^ 380) < s) (h2:e < 10 ^ 380) :
  ∃ qs:List Rw,MapF qs/\qs.length<=1100/\(∀ p v,Tel qs p v↔(s<=p/\p < e)/\gOf ps L p=some v)/\GP.rolled_out.f [whD L ps,.tup [.int s,.int e]]=some (.fresh (qs.map rwD)):=by
 have wp:=w.pos
 have fd1:=qP (i:=s) wp w.bnd
 have fd2:=qP (i:=e - 1) wp w.bnd
 have d1:=Int.emod_add_mul_ediv s L
 have d2:=Int.emod_nonneg s (Int.ne_of_gt wp)
 have d3:=Int.emod_lt_of_pos s wp
 have d4:=Int.emod_add_mul_ediv (e - 1) L
 have d5:=Int.emod_nonneg (e - 1) (Int.ne_of_gt wp)
 have d6:=Int.emod_lt_of_pos (e - 1) wp
 have mono:s / L<=(e - 1) / L:=Int.ediv_le_ediv wp (by omega)
 have b1 : -(10 ^ 380)<=s / L:=by
  rcases Int.lt_or_le s 0 with z | z
  · have:s<=s / L:=by
     have:=Int.ediv_le_ediv (a:=s) (b:=s / 1) (c:=1) (by decide) (by simp)
     have h3:L * (s / L)<=s:=by omega
     rcases Int.lt_or_le (s / L) s with q | q
     · exfalso
       have hn:s / L<=-1:=by omega
       have h5:L * (s / L)<=1 * (s / L):=by
        have:=Int.mul_le_mul_of_nonpos_right (a:=L) (b:=1) (c:=s / L) (by omega) (by omega)
        exact this
       have h6:s < L * (s / L)+L:=by omega
       have h7:s / L+1<=s:=by omega
       have h8:L * (s / L+1)<=L * s:=Int.mul_le_mul_of_nonneg_left h7 (by omega)
       have h9:L * s<=1 * s:=Int.mul_le_mul_of_nonpos_right (by omega) (by omega)
       rw [Int.mul_add] at h8
       omega
     · exact q
    generalize (10:Int) ^ 380=B at *
    omega
  · have : 0 <= s / L := Int.ediv_nonneg z (by omega)
    have:(0:Int)<=10 ^ 380:=by decide +kernel
    generalize (10:Int) ^ 380=B at *
    omega
 have b2:(e - 1) / L<=10 ^ 380:=by
  rcases Int.lt_or_le (e - 1) 0 with z | z
  · have:(e - 1) / L<=0:=by
     have:=Int.ediv_le_ediv wp (Int.le_of_lt z)
     simpa using this
    have:(0:Int)<=10 ^ 380:=by decide +kernel
    generalize (10:Int) ^ 380=B at *
    omega
  · have : (e - 1) / L <= e - 1 := Int.ediv_le_self _ z
    generalize (10:Int) ^ 380=B at *
    omega
 generalize hk0:s / L=k0 at *
 generalize hk1:(e - 1) / L=k1 at *
 obtain ⟨N,hN⟩:∃ N:Nat,(N:Int)=k1+1 - k0:=⟨(k1+1 - k0).toNat,by omega⟩
 have key:=vW (ga:=zV 4) (body:=GP.rolled_out.b1) k0 (fun i ds=>∃ (acc:List Rw) (y:Sl),Ord acc/\(∀ r∈acc,∃ bh,r.2.1=some bh/\bh<=(k0+(i:Int)) * L)/\acc.length=i * ps.length/\(∀ p v,Tel acc p v↔(k0 * L<=p/\p < (k0+(i:Int)) * L)/\gOf ps L p=some v)/\ds=[.v (whD L ps),.v (.tup [.int s,.int e]),.v (.int L),.own (acc.map rwD),y]) N (by
  rintro i hi _ ⟨acc,y,q1,q2,q3,q4,rfl⟩
  have hmul:yF (.int (k0+(i:Int))) (.int L)=some (.int ((k0+(i:Int)) * L)):=jW (mulOk_of_bits (bits_380 (by omega) (by omega)) (bits_200 wp w.bnd) (by decide))
  have eL:(k0+((i+1:Nat):Int)) * L=(k0+(i:Int)) * L+L:=by
   have:k0+((i+1:Nat):Int)=(k0+(i:Int))+1:=by omega
   rw [this,Int.add_mul]; omega
  have sh:=shifted_eq ps ((k0+(i:Int)) * L) (by omega)
  have hper:∀ p,gOf ps L (p - (k0+(i:Int)) * L)=gOf ps L p:=fun p=>by
   have:=(yU ps L).int p (-(k0+(i:Int)))
   rw [Int.neg_mul] at this
   exact this
  have hmono:k0 * L<=(k0+(i:Int)) * L:=Int.mul_le_mul_of_nonneg_right (by omega) (by omega)
  have hal:acc.length<=1100:=by
   rw [q3]
   exact Nat.le_trans (Nat.mul_le_mul (show i<=11 by omega) hl) (by decide)
  generalize hf:(k0+(i:Int)) * L=f at *
  refine ⟨[.v (whD L ps),.v (.tup [.int s,.int e]),.v (.int L),.own (acc.map rwD),.v (.int (k0+(i:Int)))],[.v (whD L ps),.v (.tup [.int s,.int e]),.v (.int L),.own ((acc++ps.map (shR f)).map rwD),.v (.int (k0+(i:Int)))],rfl,?_,acc++ps.map (shR f),.v (.int (k0+(i:Int))),?_,?_,?_,?_,rfl⟩
  · have w1 : ixD (whD L ps) (.int 1) = some (.lst (ps.map rwD)) := by unfold whD; simp
    have l1:(acc.map rwD).length+((ps.map (shR f)).map rwD).length<=16777216:=by simp; omega
    unfold GP.rolled_out.b1
    rw [List.map_append]
    generalize (ps.map (shR f)).map rwD=SL at *
    generalize acc.map rwD=AL at *
    generalize ps.map rwD=PL at *
    generalize whD L ps=WL at *
    simp [extG,w1,hmul,sh,retF,l1]
  · refine ord_app q1 (sh_ord w.map.ord f) fun x hx y hy => ?_
    obtain ⟨bh,a1,a2⟩:=q2 x hx
    obtain ⟨r,hr,rfl⟩:=List.mem_map.mp hy
    obtain ⟨lo',bh',g1,g2,g3,g4⟩:=w.ins r hr
    exact ⟨bh,lo'+f,a1,by simp [shR,g1],by omega⟩
  · intro r hr
    rw [eL]
    rcases List.mem_append.mp hr with hr | hr
    · obtain ⟨bh, a1, a2⟩ := q2 r hr
      exact ⟨bh,a1,by omega⟩
    · obtain ⟨q, hq, rfl⟩ := List.mem_map.mp hr
      obtain ⟨lo',bh',g1,g2,g3,g4⟩:=w.ins q hq
      exact ⟨bh'+f,by simp [shR,g2],by omega⟩
  · rw [List.length_append, List.length_map, q3, Nat.add_mul]
    omega
  · intro p v
    rw [tel_app,tel_sh,q4,xI w.map.ord w.ins,hper,eL]
    constructor
    · rintro (⟨⟨a, b⟩, c⟩ | ⟨⟨a, b⟩, c⟩)
      · exact ⟨⟨a,by omega⟩,c⟩
      · exact ⟨⟨by omega,by omega⟩,c⟩
    · rintro ⟨⟨a, b⟩, c⟩
      by_cases z:p < f
      · exact .inl ⟨⟨a,z⟩,c⟩
      · exact .inr ⟨⟨by omega,by omega⟩,c⟩)
 obtain ⟨ds',er,acc,y,q1,q2,q3,q4,rfl⟩:=key N 0 [.v (whD L ps),.v (.tup [.int s,.int e]),.v (.int L),.own [],.no] (by omega) ⟨[],.no,⟨(fun _ h=>nomatch h),List.Pairwise.nil⟩,(fun _ h=>nomatch h),by simp,(fun p v=>⟨fun ⟨r,h,_⟩=>(nomatch h),fun ⟨⟨a,b⟩,_⟩=>by simp at b; omega⟩),rfl⟩
 have hal:acc.length<=1100:=by
  rw [q3]
  exact Nat.le_trans (Nat.mul_le_mul (show N<=11 by omega) hl) (by decide)
 have kl:=wF acc
 have e1:=knit_eq acc (by omega)
 have e2:GP.parts_in.f [.lst ((knitF acc).map rwD),.tup [.int s,.int e]]=some (.fresh ((zT (knitF acc) (some s,some e)).map rwD)):=wL (knitF acc) (some s,some e) (by omega)
 have pl:=yY (knitF acc) (some s,some e)
 refine ⟨zT (knitF acc) (some s,some e),vT (wO q1) _,by omega,fun p v=>?_,?_⟩
 · rw [vM, vH q1, q4]
   have hs:hasS (some s,some e) p=true↔s<=p/\p < e:=by simp [hasS]
   have c1:L * k0=k0 * L:=Int.mul_comm _ _
   have c2:(k0+(N:Int)) * L=L * k1+L:=by rw [hN,show k0+(k1+1 - k0)=k1+1 by omega,Int.add_mul,Int.mul_comm]; omega
   rw [hs,c2]
   constructor
   · rintro ⟨a, _, c⟩
     exact ⟨a,c⟩
   · rintro ⟨⟨a, b⟩, c⟩
     exact ⟨⟨a,b⟩,⟨by omega,by omega⟩,c⟩
 · have fl := jV (zT (knitF acc) (some s, some e))
   have e0:(k1+1 - k0).toNat=N:=by omega
   have er':jK (zV 4) GP.rolled_out.b1 (rangeD k0 N) [.v (whD L ps),.v (.tup [.int s,.int e]),.v (.int L),.own [],.no]=some (.nx [.v (whD L ps),.v (.tup [.int s,.int e]),.v (.int L),.own (acc.map rwD),y]):=by
    rw [rangeD,List.range_eq_range']; exact er
   have w0:ixD (whD L ps) (.int 0)=some (.int L):=by unfold whD; simp
   have hL1 : ¬ L=1:=by omega
   unfold GP.rolled_out.f runG GP.rolled_out.g
   generalize (zT (knitF acc) (some s,some e)).map rwD=RL at *
   generalize (knitF acc).map rwD=KL at *
   generalize acc.map rwD=AL at *
   generalize whD L ps=WL at *
   have ff:flatF RL=some (.rt (.fresh RL)):=if_pos fl
   simp [args,w0,hL1,hk0,hk1,fd1,fd2,e0,er',e1,e2,ff,retF]
end FL
namespace FL
open PySem PySem.Spec PyProof.Rows L2
open Builtin.Int (intBits)
theorem whl_unit {ps:List Rw} (w:Whl 1 ps):ps=[] \/ ∃ v:Int,ps=[(some 0,some 1,some v)]:=by
 cases ps with
 | nil=>exact .inl rfl
 | cons r t =>
   right
   obtain ⟨lo,bh,g1,g2,g3,g4⟩:=w.ins r List.mem_cons_self
   have ok:=w.map.ord.ok r List.mem_cons_self lo bh g1 g2
   have hv:=w.map.val r List.mem_cons_self
   obtain ⟨r1,r2,r3⟩:=r
   simp only at g1 g2 hv
   cases r3 with
   | none=>exact absurd rfl hv
   | some v =>
     refine ⟨v,?_⟩
     have e1:lo=0:=by omega
     have e2:bh=1:=by omega
     subst g1 g2 e1 e2
     cases t with
     | nil=>rfl
     | cons z t =>
       obtain ⟨lo',bh',q1,q2,q3,q4⟩:=w.ins z (List.mem_cons_of_mem _ List.mem_cons_self)
       obtain ⟨x,y,x1,y1,hxy⟩:=(List.pairwise_cons.mp w.map.ord.pw).1 z List.mem_cons_self
       have ok':=w.map.ord.ok z (List.mem_cons_of_mem _ List.mem_cons_self) lo' bh' q1 q2
       rw [q1] at y1
       cases y1
       cases x1
       omega
theorem rolled_unit {ps:List Rw} (w:Whl 1 ps) (s:Int):∃ qs:List Rw,Ord qs/\qs.length<=1/\(∀ p,s<=p->valL qs p=gOf ps 1 p)/\GP.rolled_out.f [whD 1 ps,.tup [.int s,.non]]=some (.fresh (qs.map rwD)):=by
 rcases whl_unit w with rfl | ⟨v,rfl⟩
 · refine ⟨[], ⟨(fun _ h => nomatch h), List.Pairwise.nil⟩, by simp, fun p _ => rfl, ?_⟩
   unfold GP.rolled_out.f runG GP.rolled_out.g whD
   have cm:compG (viaA (zN ixD (zL 0) (zF (.int 1))) asLT) [none,none,none,some 1] (tupG 3 (zO (zV 0) (zO (zV 1) (zO (zV 2) tgNil)))) (fun _=>some true) (mkT (qE (zD (zN ixD (zL 3) (zF (.int 0))) (zD (zN ixD (zL 3) (zF (.int 1))) (zD (qY 2) zS))))) [.v (.tup [.int 1,.lst []]),.v (.tup [.int s,.non]),.v (.int 1),.no,.no]=some []:=by
    refine yS (items:=[]) (by simp) (by simp) rfl
   have ff:flatF []=some (.rt (.fresh [])):=if_pos rfl
   simp [args,cm,ff]
 · refine ⟨[(some s, none, some v)], ⟨fun r hr => ?_, List.pairwise_singleton _ _⟩, by simp, fun p hp => ?_, ?_⟩
   · rw [List.mem_singleton.mp hr]
     intro a b _ e
     cases e
   · unfold gOf
     rw [Int.emod_one]
     simp [valL,has3,hasS,hp]
   · have cm:compG (viaA (zN ixD (zL 0) (zF (.int 1))) asLT) [none,none,none,some 1] (tupG 3 (zO (zV 0) (zO (zV 1) (zO (zV 2) tgNil)))) (fun _=>some true) (mkT (qE (zD (zN ixD (zL 3) (zF (.int 0))) (zD (zN ixD (zL 3) (zF (.int 1))) (zD (qY 2) zS))))) [.v (whD 1 [(some 0,some 1,some v)]),.v (.tup [.int s,.non]),.v (.int 1),.no,.no]=some [rwD (some s,none,some v)]:=by
      refine yS (items:=[rwD (some 0,some 1,some v)]) (by simp [whD]) (by simp) ?_
      simp [compL,yB,rwD]
     have w0:ixD (whD 1 [(some 0,some 1,some v)]) (.int 0)=some (.int 1):=by unfold whD; simp
     have fl:=jV [(some s,none,some v)]
     unfold GP.rolled_out.f runG GP.rolled_out.g
     generalize whD 1 [(some 0,some 1,some v)]=W at *
     have e0:[rwD (some s,none,some v)]=[(some s,none,some v)].map rwD:=rfl
     rw [e0] at cm
     generalize [((some s,none,some v):Rw)].map rwD=RL at *
     have ff:flatF RL=some (.rt (.fresh RL)):=if_pos fl
     simp [args,w0,cm,ff]
theorem noclos_sp:∀ l:List Spn,noclos (l.map spD)=true
 | []=>rfl
 | r::l=>by simp [noclos,noclo,spD,noclo_oi,noclos_sp l]
theorem noclo_found (o:Option Int×List Spn):noclo (foundD o)=true:=by simp [foundD,noclo,noclos,noclo_oi,noclos_sp]
theorem two_turns {g:Int->Option Int} {H n s:Int} (hH:2<=H) (pg:Per g H) {q0:Int} (hq:(g q0).isSome=false) {U:Int->Bool} (hU:∀ p,s<=p->(U p=true↔p < s+2 * H/\(g p).isSome=true)) (hn:1<=n) {o:Option Int×List Spn} (F:FrOk U n s [] o):FrOk (fun p=>(g p).isSome) n s [] (o.1,[]):=by
 have up:∀ p,s<=p->LongF U n p->LongF (fun p=>(g p).isSome) n p:=fun p hp h q q1 q2=>((hU q (by omega)).mp (h q q1 q2)).2
 refine ⟨fun y z=>?_,fun z p hp hL=>?_⟩
 · obtain ⟨a1, a2, a3, a4⟩ := F.yes y z
   have hy:y+n<=s+2 * H:=by
    have:=(hU (y+n - 1) (by omega)).mp (a2 (y+n - 1) (by omega) (by omega))
    omega
   refine ⟨a1,up y a1 a2,fun p p1 p2 h=>a3 p p1 p2 fun q q1 q2=>(hU q (by omega)).mpr ⟨by omega,h q q1 q2⟩,fun _=>rfl⟩
 · have hlt:n < H:=by
    rcases Int.lt_or_le n H with z | z
    · exact z
    · exfalso
      have d2:=Int.emod_nonneg (q0 - p) (show H≠0 by omega)
      have d3:=Int.emod_lt_of_pos (q0 - p) (show 0 < H by omega)
      have d1:=Int.emod_add_mul_ediv (q0 - p) H
      have:=hL (p+(q0 - p) % H) (by omega) (by omega)
      have e:=pg.int (p+(q0 - p) % H) ((q0 - p) / H)
      have e2:p+(q0 - p) % H+(q0 - p) / H * H=q0:=by rw [Int.mul_comm ((q0 - p) / H) H]; omega
      rw [e2] at e
      simp only [<- e,hq] at this
      cases this
   have d2:=Int.emod_nonneg (p - s) (show H≠0 by omega)
   have d3:=Int.emod_lt_of_pos (p - s) (show 0 < H by omega)
   have d1:=Int.emod_add_mul_ediv (p - s) H
   refine F.no z (s+(p - s) % H) (by omega) fun q q1 q2=>(hU q (by omega)).mpr ⟨by omega,?_⟩
   have e:=pg.int q ((p - s) / H)
   have:=hL (q+(p - s) / H * H) (by rw [Int.mul_comm ((p - s) / H) H]; omega) (by rw [Int.mul_comm ((p - s) / H) H]; omega)
   simp only [e] at this
   exact this
theorem wheel_run_ex {Φ : Fun2} {c:D} {T:Option Int->Bool} (hH:∀ v,Φ (.clo 4 0 [c]) [oi v]=some (.val (oi (hWF T v)))) (hN:∀ v,Φ (.clo 4 0 [.clo 9 0 []]) [oi v]=some (.val (oi (hWF Option.isSome v)))) {L:Int} {ps:List Rw} (w:Whl L ps) (hl:ps.length<=10) {n:Int} (hn:1<=n) {s:Int} (h1 : -(10 ^ 375) < s) (h2:s < 10 ^ 375) :
  ∃ y:Option Int,FrOk (fun p=>T (gOf ps L p)) n s [] (y,[])/\GP.wheel_run.f Φ [whD L ps,.int s,.int n,c]=some (.val (oi y)):=by
 have e1:=wU hH (ps:=ps) (by omega)
 have lQ:=turn_len (hWF T) ps
 obtain ⟨H,qs,wh,eg,hle,hql,ew⟩:=vN (wE (hWF T) w.map.ord) w.pos w.bnd (by omega)
 have vQ:∀ p,gOf qs H p=hWF T (gOf ps L p):=fun p=>by
  rw [eg]
  exact turn_at (hWF T) w.map.ord (p % L)
 have e2:GP.wheel_of.f [.int L,.lst ((turnF (hWF T) ps).map rwD)]=some (.val (whD H qs)):=ew
 have w0:ixD (whD L ps) (.int 0)=some (.int L):=by unfold whD; simp
 have w1:ixD (whD L ps) (.int 1)=some (.lst (ps.map rwD)):=by unfold whD; simp
 have u0:ixD (whD H qs) (.int 0)=some (.int H):=by unfold whD; simp
 have hsome:∀ p,(gOf qs H p).isSome=T (gOf ps L p):=fun p=>by rw [vQ,hWF_some]
 have found0:∀ w:Option Int×List Spn,ixD (foundD w) (.int 0)=some (oi w.1):=fun w=>by unfold foundD; simp
 by_cases hc:H=1
 · subst hc
   obtain ⟨rs,ro,rl,rv,re⟩:=rolled_unit wh s
   obtain ⟨o,F,ef⟩:=first_run_ex hN ro (by omega) hn s
   have F':FrOk (fun p=>T (gOf ps L p)) n s [] o:=F.same fun p hp=>by rw [rv p hp,hsome]
   refine ⟨o.1,⟨fun y z=>?_,F'.no⟩,?_⟩
   · obtain ⟨a1, a2, a3, a4⟩ := F'.yes y z
     exact ⟨a1,a2,a3,fun _=>rfl⟩
   · have nc:ncF (GP.first_run.f Φ) [.lst (rs.map rwD),.int s,.int n,.clo 9 0 []]=some (.val (foundD o)):=by
      unfold ncF
      rw [ef]
      simp [ncR,noclo_found]
     have f0:=found0 o
     refine xF ?_
     unfold GP.wheel_run.g
     generalize foundD o=FD at *
     generalize rs.map rwD=RL at *
     generalize (turnF (hWF T) ps).map rwD=QL at *
     generalize ps.map rwD=PL at *
     generalize whD L ps=WL at *
     generalize whD 1 qs=UL at *
     simp [args,w0,w1,u0,e1,e2,re,lamA,capsA,nc,f0,retV]
 · have hH2 : 2 <= H := by have := wh.pos; omega
   have nf:∃ q0,(gOf qs H q0).isSome=false:=by
    apply Classical.byContradiction
    intro z
    have all:∀ q,gOf qs H q=some 1:=fun q=>by
     cases e:(gOf qs H q).isSome with
     | false=>exact absurd ⟨q,e⟩ z
     | true =>
       rw [vQ] at e ⊢
       rw [hWF_some] at e
       unfold hWF
       rw [if_pos e]
    have:=wh.least 1 H (by decide) (by omega) fun p=>by rw [all,all]
    omega
   obtain ⟨q0,hq0⟩:=nf
   have wb:=wh.bnd
   have dv:(s+2 * H - 1) / H - s / H<=10:=by
    have e:s+2 * H - 1=(s - 1)+2 * H:=by omega
    rw [e,Int.add_mul_ediv_right _ _ (by omega)]
    have:=Int.ediv_le_ediv (a:=s - 1) (b:=s) wh.pos (by omega)
    omega
   have k1:(2:Int) * 10 ^ 200 < 10 ^ 375:=by decide +kernel
   have k2:(2:Int) * 10 ^ 375 < 10 ^ 380:=by decide +kernel
   obtain ⟨rs,rm,rl,rt,re⟩:=rolled_many wh (by omega) hH2 (s:=s) (e:=s+2 * H) (by omega) dv (by generalize (10:Int) ^ 380=B at *; generalize (10:Int) ^ 375=C at *; generalize (10:Int) ^ 200=E at *; omega) (by generalize (10:Int) ^ 380=B at *; generalize (10:Int) ^ 375=C at *; generalize (10:Int) ^ 200=E at *; omega)
   obtain ⟨o,F,ef⟩:=first_run_ex hN rm.ord (by omega) hn s
   have hU:∀ p,s<=p->((valL rs p).isSome=true↔p < s+2 * H/\(gOf qs H p).isSome=true):=fun p hp=>by
    constructor
    · intro h
      obtain ⟨v,hv⟩:=Option.isSome_iff_exists.mp h
      obtain ⟨⟨a,b⟩,c⟩:=(rt p v).mp ((yA rm.ord p v).mp hv)
      exact ⟨b,by rw [c]; rfl⟩
    · rintro ⟨a, b⟩
      obtain ⟨v,hv⟩:=Option.isSome_iff_exists.mp b
      rw [(yA rm.ord p v).mpr ((rt p v).mpr ⟨⟨hp,a⟩,hv⟩)]
      rfl
   have F2:=two_turns hH2 (yU qs H) hq0 hU hn F
   refine ⟨o.1,F2.same fun p _=>hsome p,?_⟩
   have nc:ncF (GP.first_run.f Φ) [.lst (rs.map rwD),.int s,.int n,.clo 9 0 []]=some (.val (foundD o)):=by
    unfold ncF
    rw [ef]
    simp [ncR,noclo_found]
   have f0:=found0 o
   have hm:yF (.int 2) (.int H)=some (.int (2 * H)):=jW (.of_left (jH (by decide)))
   refine xF ?_
   unfold GP.wheel_run.g
   generalize foundD o=FD at *
   generalize rs.map rwD=RL at *
   generalize (turnF (hWF T) ps).map rwD=QL at *
   generalize ps.map rwD=PL at *
   generalize whD L ps=WL at *
   generalize whD H qs=UL at *
   simp [args,w0,w1,u0,hc,hm,e1,e2,re,lamA,capsA,nc,f0,retV]
end FL
namespace FL
open PySem PySem.Spec PyProof.Rows L2
open Builtin.Int (intBits)
theorem wW {L:Int} {ps:List Rw} (w:Whl L ps) (hl:ps.length<=100) (hL:2<=L) {s e:Int} (hse:s < e) (hk:(e - 1) / L - s / L<=400) (h1 : -(10 ^ 380) < s) (h2:e < 10 ^ 380) :
  ∃ qs:List Rw,MapF qs/\qs.length<=((e - 1) / L - s / L+1).toNat * ps.length/\(∀ p v,Tel qs p v↔(s<=p/\p < e)/\gOf ps L p=some v)/\GP.rolled_out.f [whD L ps,.tup [.int s,.int e]]=some (.fresh (qs.map rwD)):=by
 have wp:=w.pos
 have fd1:=qP (i:=s) wp w.bnd
 have fd2:=qP (i:=e - 1) wp w.bnd
 have d1:=Int.emod_add_mul_ediv s L
 have d2:=Int.emod_nonneg s (Int.ne_of_gt wp)
 have d3:=Int.emod_lt_of_pos s wp
 have d4:=Int.emod_add_mul_ediv (e - 1) L
 have d5:=Int.emod_nonneg (e - 1) (Int.ne_of_gt wp)
 have d6:=Int.emod_lt_of_pos (e - 1) wp
 have mono:s / L<=(e - 1) / L:=Int.ediv_le_ediv wp (by omega)
 have b1 : -(10 ^ 380)<=s / L:=by
  rcases Int.lt_or_le s 0 with z | z
  · have:s<=s / L:=by
     have:=Int.ediv_le_ediv (a:=s) (b:=s / 1) (c:=1) (by decide) (by simp)
     have h3:L * (s / L)<=s:=by omega
     rcases Int.lt_or_le (s / L) s with q | q
     · exfalso
       have hn:s / L<=-1:=by omega
       have h5:L * (s / L)<=1 * (s / L):=by
        have:=Int.mul_le_mul_of_nonpos_right (a:=L) (b:=1) (c:=s / L) (by omega) (by omega)
        exact this
       have h6:s < L * (s / L)+L:=by omega
       have h7:s / L+1<=s:=by omega
       have h8:L * (s / L+1)<=L * s:=Int.mul_le_mul_of_nonneg_left h7 (by omega)
       have h9:L * s<=1 * s:=Int.mul_le_mul_of_nonpos_right (by omega) (by omega)
       rw [Int.mul_add] at h8
       omega
     · exact q
    generalize (10:Int) ^ 380=B at *
    omega
  · have : 0 <= s / L := Int.ediv_nonneg z (by omega)
    have:(0:Int)<=10 ^ 380:=by decide +kernel
    generalize (10:Int) ^ 380=B at *
    omega
 have b2:(e - 1) / L<=10 ^ 380:=by
  rcases Int.lt_or_le (e - 1) 0 with z | z
  · have:(e - 1) / L<=0:=by
     have:=Int.ediv_le_ediv wp (Int.le_of_lt z)
     simpa using this
    have:(0:Int)<=10 ^ 380:=by decide +kernel
    generalize (10:Int) ^ 380=B at *
    omega
  · have : (e - 1) / L <= e - 1 := Int.ediv_le_self _ z
    generalize (10:Int) ^ 380=B at *
    omega
 generalize hk0:s / L=k0 at *
 generalize hk1:(e - 1) / L=k1 at *
 obtain ⟨N,hN⟩:∃ N:Nat,(N:Int)=k1+1 - k0:=⟨(k1+1 - k0).toNat,by omega⟩
 have key:=vW (ga:=zV 4) (body:=GP.rolled_out.b1) k0 (fun i ds=>∃ (acc:List Rw) (y:Sl),Ord acc/\(∀ r∈acc,∃ bh,r.2.1=some bh/\bh<=(k0+(i:Int)) * L)/\acc.length=i * ps.length/\(∀ p v,Tel acc p v↔(k0 * L<=p/\p < (k0+(i:Int)) * L)/\gOf ps L p=some v)/\ds=[.v (whD L ps),.v (.tup [.int s,.int e]),.v (.int L),.own (acc.map rwD),y]) N (by
  rintro i hi _ ⟨acc,y,q1,q2,q3,q4,rfl⟩
  have hmul:yF (.int (k0+(i:Int))) (.int L)=some (.int ((k0+(i:Int)) * L)):=jW (mulOk_of_bits (bits_380 (by omega) (by omega)) (bits_200 wp w.bnd) (by decide))
  have eL:(k0+((i+1:Nat):Int)) * L=(k0+(i:Int)) * L+L:=by
   have:k0+((i+1:Nat):Int)=(k0+(i:Int))+1:=by omega
   rw [this,Int.add_mul]; omega
  have sh:=shifted_eq ps ((k0+(i:Int)) * L) (by omega)
  have hper:∀ p,gOf ps L (p - (k0+(i:Int)) * L)=gOf ps L p:=fun p=>by
   have:=(yU ps L).int p (-(k0+(i:Int)))
   rw [Int.neg_mul] at this
   exact this
  have hmono:k0 * L<=(k0+(i:Int)) * L:=Int.mul_le_mul_of_nonneg_right (by omega) (by omega)
  have hal:acc.length<=40100:=by
   rw [q3]
   exact Nat.le_trans (Nat.mul_le_mul (show i<=401 by omega) hl) (by decide)
  generalize hf:(k0+(i:Int)) * L=f at *
  refine ⟨[.v (whD L ps),.v (.tup [.int s,.int e]),.v (.int L),.own (acc.map rwD),.v (.int (k0+(i:Int)))],[.v (whD L ps),.v (.tup [.int s,.int e]),.v (.int L),.own ((acc++ps.map (shR f)).map rwD),.v (.int (k0+(i:Int)))],rfl,?_,acc++ps.map (shR f),.v (.int (k0+(i:Int))),?_,?_,?_,?_,rfl⟩
  · have w1 : ixD (whD L ps) (.int 1) = some (.lst (ps.map rwD)) := by unfold whD; simp
    have l1:(acc.map rwD).length+((ps.map (shR f)).map rwD).length<=16777216:=by simp; omega
    unfold GP.rolled_out.b1
    rw [List.map_append]
    generalize (ps.map (shR f)).map rwD=SL at *
    generalize acc.map rwD=AL at *
    generalize ps.map rwD=PL at *
    generalize whD L ps=WL at *
    simp [extG,w1,hmul,sh,retF,l1]
  · refine ord_app q1 (sh_ord w.map.ord f) fun x hx y hy => ?_
    obtain ⟨bh,a1,a2⟩:=q2 x hx
    obtain ⟨r,hr,rfl⟩:=List.mem_map.mp hy
    obtain ⟨lo',bh',g1,g2,g3,g4⟩:=w.ins r hr
    exact ⟨bh,lo'+f,a1,by simp [shR,g1],by omega⟩
  · intro r hr
    rw [eL]
    rcases List.mem_append.mp hr with hr | hr
    · obtain ⟨bh, a1, a2⟩ := q2 r hr
      exact ⟨bh,a1,by omega⟩
    · obtain ⟨q, hq, rfl⟩ := List.mem_map.mp hr
      obtain ⟨lo',bh',g1,g2,g3,g4⟩:=w.ins q hq
      exact ⟨bh'+f,by simp [shR,g2],by omega⟩
  · rw [List.length_append, List.length_map, q3, Nat.add_mul]
    omega
  · intro p v
    rw [tel_app,tel_sh,q4,xI w.map.ord w.ins,hper,eL]
    constructor
    · rintro (⟨⟨a, b⟩, c⟩ | ⟨⟨a, b⟩, c⟩)
      · exact ⟨⟨a,by omega⟩,c⟩
      · exact ⟨⟨by omega,by omega⟩,c⟩
    · rintro ⟨⟨a, b⟩, c⟩
      by_cases z:p < f
      · exact .inl ⟨⟨a,z⟩,c⟩
      · exact .inr ⟨⟨by omega,by omega⟩,c⟩)
 obtain ⟨ds',er,acc,y,q1,q2,q3,q4,rfl⟩:=key N 0 [.v (whD L ps),.v (.tup [.int s,.int e]),.v (.int L),.own [],.no] (by omega) ⟨[],.no,⟨(fun _ h=>nomatch h),List.Pairwise.nil⟩,(fun _ h=>nomatch h),by simp,(fun p v=>⟨fun ⟨r,h,_⟩=>(nomatch h),fun ⟨⟨a,b⟩,_⟩=>by simp at b; omega⟩),rfl⟩
 have hal:acc.length<=40100:=by
  rw [q3]
  exact Nat.le_trans (Nat.mul_le_mul (show N<=401 by omega) hl) (by decide)
 have kl:=wF acc
 have e1:=knit_eq acc (by omega)
 have e2:GP.parts_in.f [.lst ((knitF acc).map rwD),.tup [.int s,.int e]]=some (.fresh ((zT (knitF acc) (some s,some e)).map rwD)):=wL (knitF acc) (some s,some e) (by omega)
 have pl:=yY (knitF acc) (some s,some e)
 have hNt:(k1 - k0+1).toNat=N:=by omega
 refine ⟨zT (knitF acc) (some s,some e),vT (wO q1) _,by rw [hNt]; omega,fun p v=>?_,?_⟩
 · rw [vM, vH q1, q4]
   have hs:hasS (some s,some e) p=true↔s<=p/\p < e:=by simp [hasS]
   have c1:L * k0=k0 * L:=Int.mul_comm _ _
   have c2:(k0+(N:Int)) * L=L * k1+L:=by rw [hN,show k0+(k1+1 - k0)=k1+1 by omega,Int.add_mul,Int.mul_comm]; omega
   rw [hs,c2]
   constructor
   · rintro ⟨a, _, c⟩
     exact ⟨a,c⟩
   · rintro ⟨⟨a, b⟩, c⟩
     exact ⟨⟨a,b⟩,⟨by omega,by omega⟩,c⟩
 · have fl := jV (zT (knitF acc) (some s, some e))
   have e0:(k1+1 - k0).toNat=N:=by omega
   have er':jK (zV 4) GP.rolled_out.b1 (rangeD k0 N) [.v (whD L ps),.v (.tup [.int s,.int e]),.v (.int L),.own [],.no]=some (.nx [.v (whD L ps),.v (.tup [.int s,.int e]),.v (.int L),.own (acc.map rwD),y]):=by
    rw [rangeD,List.range_eq_range']; exact er
   have w0:ixD (whD L ps) (.int 0)=some (.int L):=by unfold whD; simp
   have hL1 : ¬ L=1:=by omega
   unfold GP.rolled_out.f runG GP.rolled_out.g
   generalize (zT (knitF acc) (some s,some e)).map rwD=RL at *
   generalize (knitF acc).map rwD=KL at *
   generalize acc.map rwD=AL at *
   generalize whD L ps=WL at *
   have ff:flatF RL=some (.rt (.fresh RL)):=if_pos fl
   simp [args,w0,hL1,hk0,hk1,fd1,fd2,e0,er',e1,e2,ff,retF]
theorem wh0 (L:Int) (ps:List Rw):ixD (whD L ps) (.int 0)=some (.int L):=by unfold whD; simp
theorem wh1 (L:Int) (ps:List Rw):ixD (whD L ps) (.int 1)=some (.lst (ps.map rwD)):=by unfold whD; simp
def sizeF (L:Int) (ps:List Rw) (n:Int):Int:=if L=1 then 1 else n * ((ps.length:Int)+1)
theorem sz1 {k:Nat} (h:k<=1000):(((k:Int)+1).natAbs) < 2 ^ 64:=by omega
theorem sz2 {n m:Int} (b:m.natAbs < 2 ^ 64):yF (.int n) (.int m)=some (.int (n * m)):=jW (.of_right (jH b))
theorem sz3 {n L m:Int} {WL:D} {PL:List D} (h0:ixD WL (.int 0)=some (.int L)) (h1:ixD WL (.int 1)=some (.lst PL)) (ln:(PL.length:Int)+1=m) (mu:yF (.int n) (.int m)=some (.int (n * m))) (h : ¬ L=1):GP.size_of.f [WL,.int n]=some (.val (.int (n * m))):=by
 refine xF ?_
 unfold GP.size_of.g
 simp [args,h0,h1,h,ln,mu]
theorem sz4 {n L:Int} {WL:D} (h0:ixD WL (.int 0)=some (.int L)) (h:L=1):GP.size_of.f [WL,.int n]=some (.val (.int 1)):=by
 refine xF ?_
 unfold GP.size_of.g
 simp [args,h0,h]
theorem xN (L:Int) {ps:List Rw} (hl:ps.length<=1000) (n:Int):GP.size_of.f [whD L ps,.int n]=some (.val (.int (sizeF L ps n))):=by
 unfold sizeF
 by_cases h:L=1
 · rw [if_pos h]
   exact sz4 (wh0 L ps) h
 · rw [if_neg h]
   exact sz3 (wh0 L ps) (wh1 L ps) (by rw [List.length_map]) (sz2 (sz1 hl)) h
theorem euc_step (A B:Sl) (d r:Nat) (hr:0 < r) (x:Sl):GP.least_multiple.b1 [A,B,.v (.int (d:Int)),.v (.int (r:Int)),x]=some (.nx [A,B,.v (.int (r:Int)),.v (.int ((d % r:Nat):Int)),.v (.int ((d % r:Nat):Int))]):=by
 have m:xV (.int (d:Int)) (.int (r:Int))=some (.int ((d % r:Nat):Int)):=by
  rw [yT _ (by omega)]
  rfl
 unfold GP.least_multiple.b1
 simp [m]
theorem euc_c (A B:Sl) (d r:D) (n:Int) (x:Sl) (h:r = .int n):qA (zN gtD (zL 3) (zF (.int 0))) [A,B,.v d,.v r,x]=some (decide (n > 0)):=by
 subst h
 simp
theorem euc_end (A B:Sl) (d:Nat) (x:Sl) (n:Nat):whileN (qA (zN gtD (zL 3) (zF (.int 0)))) GP.least_multiple.b1 (n+1) [A,B,.v (.int (d:Int)),.v (.int ((0:Nat):Int)),x]=some (.nx [A,B,.v (.int (d:Int)),.v (.int ((0:Nat):Int)),x]):=by
 rw [whileN,euc_c A B (.int (d:Int)) (.int ((0:Nat):Int)) ((0:Nat):Int) x rfl]
 simp
theorem euc_turn (A B:Sl) (d r:Nat) (hr:0 < r) (x:Sl) (n:Nat):whileN (qA (zN gtD (zL 3) (zF (.int 0)))) GP.least_multiple.b1 (n+1) [A,B,.v (.int (d:Int)),.v (.int (r:Int)),x]=whileN (qA (zN gtD (zL 3) (zF (.int 0)))) GP.least_multiple.b1 n [A,B,.v (.int (r:Int)),.v (.int ((d % r:Nat):Int)),.v (.int ((d % r:Nat):Int))]:=by
 have h:((r:Int) > 0):=by omega
 rw [whileN,euc_c A B (.int (d:Int)) (.int (r:Int)) (r:Int) x rfl,euc_step A B d r hr x,decide_eq_true h]
 rfl
theorem gcd_step (d r:Nat):Nat.gcd d r=Nat.gcd r (d % r):=by
 rw [Nat.gcd_comm d r,Nat.gcd_rec r d,Nat.gcd_comm]
theorem euc_loop (A B:Sl):∀ (k d r:Nat) (x:Sl),r < 2 ^ k->∀ n,2 * k+1<=n->∃ y,whileN (qA (zN gtD (zL 3) (zF (.int 0)))) GP.least_multiple.b1 n [A,B,.v (.int (d:Int)),.v (.int (r:Int)),x]=some (.nx [A,B,.v (.int ((Nat.gcd d r:Nat):Int)),.v (.int ((0:Nat):Int)),y])
 | k, d, 0, x, _, n, hn => by
   obtain ⟨m,rfl⟩:∃ m,n=m+1:=⟨n - 1,by omega⟩
   rw [euc_end,Nat.gcd_zero_right]
   exact ⟨x,rfl⟩
 | 0,d,r+1,x,h,n,hn=>by simp at h
 | k + 1, d, r + 1, x, h, n, hn => by
   obtain ⟨m,rfl⟩:∃ m,n=m+2:=⟨n - 2,by omega⟩
   rw [euc_turn A B d (r+1) (by omega) x (m+1)]
   have hlt:d % (r+1) < r+1:=Nat.mod_lt _ (by omega)
   have eg:=gcd_step d (r+1)
   generalize d % (r+1)=r1 at *
   cases r1 with
   | zero =>
     rw [euc_end,eg,Nat.gcd_zero_right]
     exact ⟨_,rfl⟩
   | succ r2 =>
     rw [euc_turn A B (r+1) (r2+1) (by omega) _ m,eg,gcd_step (r+1) (r2+1)]
     have hl2:(r+1) % (r2+1) < r2+1:=Nat.mod_lt _ (by omega)
     have hs:(r+1) % (r2+1)+(r2+1)<=r+1:=by
      have e:=Nat.mod_add_div (r+1) (r2+1)
      have:1<=(r+1) / (r2+1):=Nat.div_pos (by omega) (by omega)
      have:(r2+1) * 1<=(r2+1) * ((r+1) / (r2+1)):=Nat.mul_le_mul_left _ this
      omega
     rw [Nat.pow_succ] at h
     exact euc_loop A B k (r2+1) ((r+1) % (r2+1)) _ (by omega) m (by omega)
theorem lcm_eq {a b:Nat} (ha:0 < a) (hb:0 < b) (hb2:b < 2 ^ 4000) (hg:(Nat.gcd a b) < 10 ^ 200) (ha2:a < 10 ^ 200):GP.least_multiple.f [.int (a:Int),.int (b:Int)]=some (.val (.int ((a / Nat.gcd a b * b:Nat):Int))):=by
 obtain ⟨y,e⟩:=euc_loop (.v (.int (a:Int))) (.v (.int (b:Int))) 4000 a b .no hb2 100000 (by decide)
 have gp:0 < Nat.gcd a b:=Nat.gcd_pos_of_pos_left _ ha
 have fd:jC (.int (a:Int)) (.int ((Nat.gcd a b:Nat):Int))=some (.int ((a / Nat.gcd a b:Nat):Int)):=by
  rw [qP (by omega) (by exact_mod_cast hg)]
  rfl
 have bq:intBits ((a / Nat.gcd a b:Nat):Int)<=700:=by
  rcases Nat.eq_zero_or_pos (a / Nat.gcd a b) with z | z
  · rw [z]; exact jH (by decide)
  · refine bits_200 (by omega) ?_
    have h1:a / Nat.gcd a b<=a:=Nat.div_le_self _ _
    exact_mod_cast Nat.lt_of_le_of_lt h1 ha2
 have bb:intBits (b:Int)<=4000:=jH (by simpa using hb2)
 have mu:yF (.int ((a / Nat.gcd a b:Nat):Int)) (.int (b:Int))=some (.int ((a / Nat.gcd a b * b:Nat):Int)):=by
  rw [jW (mulOk_of_bits bq bb (by decide))]
  rfl
 refine xF ?_
 unfold GP.least_multiple.g
 generalize Nat.gcd a b=g at *
 generalize hq:((a / g:Nat):Int)=q at *
 generalize hp:((a / g * b:Nat):Int)=pr at *
 rw [qO (ds':=[.v (.int (a:Int)),.v (.int (b:Int)),.v (.int (a:Int)),.no,.no]) (by simp [args]),
  qO (ds':=[.v (.int (a:Int)),.v (.int (b:Int)),.v (.int (a:Int)),.v (.int (b:Int)),.no]) (by simp),
  qO e]
 simp [fd,mu]
theorem xG {rows:List Rw} {T u v:Int} (m:MapF rows) (hi:Ins rows T) (hl:rows.length<=100) (hb:T < 10 ^ 200) (hu:0 < u) (hT:u < T) (ht:∀ p,Tel rows p v↔0<=p/\p < u):Whl T rows:=by
 refine ⟨by omega,hb,m,hi,hl,fun far s hf hs hp=>?_⟩
 rcases Int.lt_or_le far T with z | z
 · exfalso
   have g0:gOf rows T 0=some v:=((xI m.ord hi 0 v).mp ((ht 0).mpr ⟨by omega,hu⟩)).2
   have g1:gOf rows T far=some v:=by
    have:=hp 0
    rw [Int.zero_add] at this
    rw [this,g0]
   have h1:=((ht far).mp ((xI m.ord hi far v).mpr ⟨⟨by omega,z⟩,g1⟩)).2
   have g2:gOf rows T (u - far)=some v:=((xI m.ord hi _ v).mp ((ht _).mpr ⟨by omega,by omega⟩)).2
   have g3:gOf rows T u=some v:=by
    have:=hp (u - far)
    rw [show u - far+far=u by omega] at this
    rw [this,g2]
   have h2:=((ht u).mp ((xI m.ord hi u v).mpr ⟨⟨by omega,hT⟩,g3⟩)).2
   omega
 · exact z
theorem yX {T:Int} {rows:List Rw} (w:Whl T rows):GP.wheel_of.f [.int T,.lst (rows.map rwD)]=some (.val (whD T rows)):=by
 obtain ⟨L,ps,w',eg,_,_,e⟩:=vN w.map w.pos w.bnd w.len
 obtain ⟨rfl,rfl⟩:=whl_one w' w eg
 exact e
theorem whl_none:Whl 1 []:=⟨by decide,by decide +kernel,MapF.nil,(fun _ h=>nomatch h),by simp,fun far s h _ _=>by omega⟩
theorem whl_fix (v:Int):Whl 1 [(some 0,some 1,some v)] :=
 ⟨by decide,by decide +kernel,((DrawM.nil 0).snoc (lo:=0) (bh:=1) (v:=v) (by decide) (by decide) (fun r h=>by simp at h)).map,fun r h=>⟨0,1,by rw [List.mem_singleton.mp h],by rw [List.mem_singleton.mp h],by decide,by decide⟩,by simp,fun far s h _ _=>by omega⟩
end FL
section
open PySem PyProof.Rows L2 FL
noncomputable def K86.L_sum.g:FS:=(qW (ifG (orT (qA (zN isD (zL 0) (zF .non))) (qA (zN isD (zL 1) (zF .non)))) (retG (zF .non)) qR)
 (retG (zN xP (zL 0) (zL 1))))
noncomputable def K86.L_sum.f:List D->Option Ret:=runG K86.L_sum.g 2
noncomputable def K86.L_none.g:FS:=(retG (zN isD (zL 0) (zF .non)))
noncomputable def K86.L_none.f:List D->Option Ret:=runG K86.L_none.g 1
noncomputable def K86.lam_wheel_run_0:FE:=(zN notD (zL 0) (zF .non))
noncomputable def K86.Phi0:Fun2:=phiOf [((1000,7),fnF 2 K86.L_sum.f),((1000,8),fnF 1 K86.L_none.f),((9,0),lamF 1 K86.lam_wheel_run_0)]
noncomputable def K86.lam_holding_0:FE:=(ifV (testT (callW K86.Phi0 1 (zD (zL 0) zS))) (zF (.int 1)) (zF .non))
noncomputable def K86.Phi:Fun2:=phiOf [((1000,7),fnF 2 K86.L_sum.f),((1000,8),fnF 1 K86.L_none.f),((9,0),lamF 1 K86.lam_wheel_run_0),((4,0),lamF 1 K86.lam_holding_0)]
noncomputable def K86.X_first_run_4.x:List Sl->Bool:=(ifX (qA (zN ltD (zL 2) (zF (.int 1)))) alwaysX neverX)
noncomputable def K86.X_first_run_4.f:List D->Bool:=runX K86.X_first_run_4.x 8
noncomputable def K86.X_wheel_of_4.x:List Sl->Bool:=(ifX (qA (zN ltD (zL 0) (zF (.int 1)))) alwaysX neverX)
noncomputable def K86.X_wheel_of_4.f:List D->Bool:=runX K86.X_wheel_of_4.x 3
noncomputable def K86.X_wheel_joined_4.x:List Sl->Bool:=(seqX (jT 3 (zX 2 GP.least_multiple.f (zD (zN ixD (zL 0) (zF (.int 0))) (zD (zN ixD (zL 1) (zF (.int 0))) zS))))
 (seqX (ifG (qA (zN gtD (zN xP (zX 2 GP.size_of.f (zD (zL 0) (zD (zN jC (zL 3) (zN ixD (zL 0) (zF (.int 0)))) zS))) (zX 2 GP.size_of.f (zD (zL 1) (zD (zN jC (zL 3) (zN ixD (zL 1) (zF (.int 0)))) zS)))) (zF (.int 300)))) (fun _=>none) qR)
 (seqX (jT 4 (mkT (qE (zD (zF (.int 0)) (zD (qY 3) zS)))))
 (callX 2 K86.X_wheel_of_4.f (zD (zL 3) (zD (zX 3 (GP.joined.f K86.Phi) (zD (zX 2 GP.rolled_out.f (zD (zL 0) (zD (zL 4) zS))) (zD (zX 2 GP.rolled_out.f (zD (zL 1) (zD (zL 4) zS))) (zD (zL 2) zS)))) zS))))))
noncomputable def K86.X_wheel_joined_4.f:List D->Bool:=runX K86.X_wheel_joined_4.x 5
noncomputable def K86.X_wheel_joined_10.x:List Sl->Bool:=(seqX (jT 3 (zX 2 GP.least_multiple.f (zD (zN ixD (zL 0) (zF (.int 0))) (zD (zN ixD (zL 1) (zF (.int 0))) zS))))
 (ifX (qA (zN gtD (zN xP (zX 2 GP.size_of.f (zD (zL 0) (zD (zN jC (zL 3) (zN ixD (zL 0) (zF (.int 0)))) zS))) (zX 2 GP.size_of.f (zD (zL 1) (zD (zN jC (zL 3) (zN ixD (zL 1) (zF (.int 0)))) zS)))) (zF (.int 300)))) alwaysX neverX))
noncomputable def K86.X_wheel_joined_10.f:List D->Bool:=runX K86.X_wheel_joined_10.x 5
noncomputable def K86.X_wheel_cut_2.x:List Sl->Bool:=(ifX (qA (zN isD (zX 1 GP.length.f (zD (zL 1) zS)) (zF .non))) alwaysX neverX)
noncomputable def K86.X_wheel_cut_2.f:List D->Bool:=runX K86.X_wheel_cut_2.x 3
noncomputable def K86.X_wheel_cut_10.x:List Sl->Bool:=(seqX (ifG (qA (zN isD (zX 1 GP.length.f (zD (zL 1) zS)) (zF .non))) (fun _=>none) qR)
 (seqX (jT 2 (zN xP (zN subD (zN jC (zN subD (zN ixD (zL 1) (zF (.int 1))) (zF (.int 1))) (zN ixD (zL 0) (zF (.int 0)))) (zN jC (zN ixD (zL 1) (zF (.int 0))) (zN ixD (zL 0) (zF (.int 0))))) (zF (.int 1))))
 (ifX (qA (zN gtD (zX 2 GP.size_of.f (zD (zL 0) (zD (zL 2) zS))) (zF (.int 300)))) alwaysX neverX)))
noncomputable def K86.X_wheel_cut_10.f:List D->Bool:=runX K86.X_wheel_cut_10.x 3
noncomputable def K86.X_wheel_run_4.x:List Sl->Bool:=(orX (callX 2 K86.X_wheel_of_4.f (zD (zN ixD (zL 0) (zF (.int 0))) (zD (zX 2 (GP.holding.f K86.Phi) (zD (zN ixD (zL 0) (zF (.int 1))) (zD (zL 3) zS))) zS)))
 (seqX (jT 4 (zX 2 GP.wheel_of.f (zD (zN ixD (zL 0) (zF (.int 0))) (zD (zX 2 (GP.holding.f K86.Phi) (zD (zN ixD (zL 0) (zF (.int 1))) (zD (zL 3) zS))) zS))))
 (seqX (jT 5 (ifV (qA (zN eqD (zN ixD (zL 4) (zF (.int 0))) (zF (.int 1)))) (mkT (qE (zD (qY 1) (zD (zF .non) zS)))) (mkT (qE (zD (qY 1) (zD (zN xP (zL 1) (zN yF (zF (.int 2)) (zN ixD (zL 4) (zF (.int 0))))) zS))))))
 (callX 4 K86.X_first_run_4.f (zD (zX 2 GP.rolled_out.f (zD (zL 4) (zD (zL 5) zS))) (zD (zL 1) (zD (zL 2) (zD (zF (.clo 9 0 [])) zS))))))))
noncomputable def K86.X_wheel_run_4.f:List D->Bool:=runX K86.X_wheel_run_4.x 6
noncomputable def K86.H__law_classes.g:FS:=(qW (jT 1 (mkL (qE (zD (isxG 0 [(2,false),(4,true),(10,false)]) (zD (isxG 0 [(2,true),(4,false),(10,false)]) (zD (isxG 0 [(2,false),(4,false),(10,true)]) (zD (isxG 0 [(2,false),(4,false),(10,false)]) zS)))))))
 (qW (jT 1 (mkL (catA (zL 1) (mkL (qE (zD (isxG 0 [(2,false),(4,false),(10,false)]) (zD (isxG 0 [(2,false),(4,false),(10,false)]) (zD (isxG 0 [(2,false),(4,false),(10,false)]) (zD (isxG 0 [(2,false),(4,false),(10,false)]) zS)))))))))
 (qW (jT 1 (mkL (catA (zL 1) (mkL (qE (zD (isxG 0 [(2,false),(4,false),(10,false)]) (zD (isxG 0 [(2,false),(4,false),(10,false)]) (zD (isxG 0 [(2,false),(4,false),(10,false)]) (zD (isxG 0 [(2,false),(4,false),(10,false)]) zS)))))))))
 (retOG (catA (zL 1) (mkL (qE (zD (isxG 0 [(2,true),(4,true),(10,true)]) zS))))))))
noncomputable def K86.H__law_classes.h:Nat->Option Ret:=runH K86.H__law_classes.g 2
noncomputable def K86.L_asked.g:FS:=(qW (ifG (qA (zN eqD (zL 0) (zF (.int 0)))) (retAG (zX 2 GP.wheel_of.f (zD (zL 1) (zD (zL 2) zS)))) qR)
 (qW (ifG (qA (zN eqD (zL 0) (zF (.int 1)))) (retAG (zX 2 GP.wheel_cut.f (zD (zL 1) (zD (zL 2) zS)))) qR)
 (qW (ifG (qA (zN eqD (zL 0) (zF (.int 2)))) (retAG (zX 3 (GP.wheel_joined.f K86.Phi) (zD (zL 1) (zD (zL 2) (zD (zF (.clo 1000 7 [])) zS))))) qR)
 (retAG (zX 4 (GP.wheel_run.f K86.Phi) (zD (zL 1) (zD (zL 2) (zD (zL 3) (zD (zF (.clo 1000 8 [])) zS)))))))))
noncomputable def K86.L_asked.f:List D->Option Ret:=runG K86.L_asked.g 4
noncomputable def K86.X__law_asked_2.x:List Sl->Bool:=(seqX (ifG (qA (zN eqD (zL 0) (zF (.int 0)))) (retAG (zX 2 GP.wheel_of.f (zD (zL 1) (zD (zL 2) zS)))) qR)
 (ifX (qA (zN eqD (zL 0) (zF (.int 1)))) (callX 2 K86.X_wheel_cut_2.f (zD (zL 1) (zD (zL 2) zS))) neverX))
noncomputable def K86.X__law_asked_2.f:List D->Bool:=runX K86.X__law_asked_2.x 4
noncomputable def K86.X__law_asked_4.x:List Sl->Bool:=(orX (ifX (qA (zN eqD (zL 0) (zF (.int 0)))) (callX 2 K86.X_wheel_of_4.f (zD (zL 1) (zD (zL 2) zS))) neverX)
 (seqX (ifG (qA (zN eqD (zL 0) (zF (.int 0)))) (retAG (zX 2 GP.wheel_of.f (zD (zL 1) (zD (zL 2) zS)))) qR)
 (seqX (ifG (qA (zN eqD (zL 0) (zF (.int 1)))) (retAG (zX 2 GP.wheel_cut.f (zD (zL 1) (zD (zL 2) zS)))) qR)
 (orX (ifX (qA (zN eqD (zL 0) (zF (.int 2)))) (callX 3 K86.X_wheel_joined_4.f (zD (zL 1) (zD (zL 2) (zD (zF (.clo 1000 7 [])) zS)))) neverX)
 (seqX (ifG (qA (zN eqD (zL 0) (zF (.int 2)))) (retAG (zX 3 (GP.wheel_joined.f K86.Phi) (zD (zL 1) (zD (zL 2) (zD (zF (.clo 1000 7 [])) zS))))) qR)
 (callX 4 K86.X_wheel_run_4.f (zD (zL 1) (zD (zL 2) (zD (zL 3) (zD (zF (.clo 1000 8 [])) zS))))))))))
noncomputable def K86.X__law_asked_4.f:List D->Bool:=runX K86.X__law_asked_4.x 4
noncomputable def K86.X__law_asked_10.x:List Sl->Bool:=(seqX (ifG (qA (zN eqD (zL 0) (zF (.int 0)))) (retAG (zX 2 GP.wheel_of.f (zD (zL 1) (zD (zL 2) zS)))) qR)
 (orX (ifX (qA (zN eqD (zL 0) (zF (.int 1)))) (callX 2 K86.X_wheel_cut_10.f (zD (zL 1) (zD (zL 2) zS))) neverX)
 (seqX (ifG (qA (zN eqD (zL 0) (zF (.int 1)))) (retAG (zX 2 GP.wheel_cut.f (zD (zL 1) (zD (zL 2) zS)))) qR)
 (ifX (qA (zN eqD (zL 0) (zF (.int 2)))) (callX 3 K86.X_wheel_joined_10.f (zD (zL 1) (zD (zL 2) (zD (zF (.clo 1000 7 [])) zS)))) neverX))))
noncomputable def K86.X__law_asked_10.f:List D->Bool:=runX K86.X__law_asked_10.x 4
noncomputable def K86.L_told.g:FS:=(qW (setOG 4 (qE zS))
 (qW (tryG3 5 2 4 10 (dropG (callA 4 K86.L_asked.f (zD (qY 0) (zD (qY 1) (zD (qY 2) (zD (qY 3) zS)))))) (callX 4 K86.X__law_asked_2.f (zD (zL 0) (zD (zL 1) (zD (zL 2) (zD (zL 3) zS))))) (callX 4 K86.X__law_asked_4.f (zD (zL 0) (zD (zL 1) (zD (zL 2) (zD (zL 3) zS))))) (callX 4 K86.X__law_asked_10.f (zD (zL 0) (zD (zL 1) (zD (zL 2) (zD (zL 3) zS)))))
 (setOG 4 (callHF 5 K86.H__law_classes.h)))
 (retXG 4)))
noncomputable def K86.L_told.f:List D->Option Ret:=runG K86.L_told.g 6
noncomputable def K86.L_due.g:FS:=(qW (ifG (notT (testT (zL 1))) (retOG (qE zS)) qR)
 (retOG (catA (mkL (compG (rng1 (zF (.int 12))) [none,some 0] (zV 0) (fun _=>some true) (zN eqD (zL 1) (zL 0)))) (mkL (qE (zD (zF (.bl true)) zS))))))
noncomputable def K86.L_due.f:List D->Option Ret:=runG K86.L_due.g 2
noncomputable def K86.law.b1:FS:=(ifG (qA (zN neD (zX 4 K86.L_told.f (zD (zF (.int 1)) (zD (zL 10) (zD (zL 8) (zD (zF (.int 0)) zS))))) (zX 2 K86.L_due.f (zD (zF (.int 1)) (zD (zF (.bl true)) zS))))) (retG (zF (.bl false))) qR)
noncomputable def K86.law.b2:FS:=(ifG (qA (zN neD (zX 4 K86.L_told.f (zD (zF (.int 3)) (zD (zL 10) (zD (zL 7) (zD (zL 16) zS))))) (zX 2 K86.L_due.f (zD (zF (.int 0)) (zD (zN ltD (zL 16) (zF (.int 1))) zS))))) (retG (zF (.bl false))) qR)
noncomputable def K86.law.g:FS:=(qW (jT 1 (zX 2 GL.nth.f (zD (zL 0) (zD (zF (.int 0)) zS))))
 (qW (jT 2 (zN subD (zN xP (zN yF (zN ixD (mkL (qE (zD (zF (.int 1)) (zD (un1 negD (zF (.int 1))) zS)))) (zN xV (zL 1) (zF (.int 2)))) (zN xV (zN jC (zL 1) (zF (.int 2))) (zN ixD (mkL (qE (zD (zF (.int 3)) (zD (zN powD (zF (.int 10)) (zF (.int 60))) zS)))) (zN xV (zN jC (zL 1) (zF (.int 2))) (zF (.int 2)))))) (zF (.int 1))) (zN xV (zL 1) (zF (.int 2)))))
 (qW (ifG (qA (zN neD (zX 4 K86.L_told.f (zD (zF (.int 0)) (zD (zL 2) (zD (mkL (qE (zD (mkT (qE (zD (zF (.int 0)) (zD (zF (.int 1)) (zD (zF (.int 5)) zS))))) zS))) (zD (zF (.int 0)) zS))))) (zX 2 K86.L_due.f (zD (zF (.int 0)) (zD (zN ltD (zL 2) (zF (.int 1))) zS))))) (retG (zF (.bl false))) qR)
 (qW (jT 3 (zN xP (zF (.int 1)) (zN xV (zX 2 GL.nth.f (zD (zL 0) (zD (zF (.int 1)) zS))) (zF (.int 4)))))
 (qW (jT 4 (zN xP (zF (.int 1)) (zN xV (zN jC (zX 2 GL.nth.f (zD (zL 0) (zD (zF (.int 1)) zS))) (zF (.int 4))) (zN powD (zF (.int 10)) (zF (.int 9))))))
 (qW (jT 5 (mkL (compG (rng1 (qY 3)) [none,some 4] (zV 0) (fun _=>some true) (mkT (qE (zD (zN yF (zN yF (zF (.int 2)) (zL 0)) (zL 1)) (zD (zN yF (zN xP (zN yF (zF (.int 2)) (zL 0)) (zF (.int 1))) (zL 1)) (zD (qY 0) zS))))))))
 (qW (jT 6 (zX 2 GP.wheel_of.f (zD (zN yF (zN yF (zF (.int 2)) (zL 3)) (zL 4)) (zD (zL 5) zS))))
 (qW (jT 1 (zX 2 GL.nth.f (zD (zL 0) (zD (zF (.int 2)) zS))))
 (qW (jT 7 (zN xV (zN jC (zL 1) (zF (.int 6))) (zN yF (zN yF (zF (.int 20)) (zL 3)) (zL 4))))
 (qW (jT 8 (zN ixD (mkL (qE (zD (mkT (qE (zD (zF .non) (zD (qY 7) zS)))) (zD (mkT (qE (zD (qY 7) (zD (zF .non) zS)))) (zD (mkT (qE (zD (zF .non) (zD (zF .non) zS)))) zS))))) (zN xV (zL 1) (zF (.int 3)))))
 (qW (jT 9 (zX 2 GP.wheel_of.f (zD (zF (.int 1)) (zD (zN ixD (mkL (qE (zD (mkL (qE zS)) (zD (mkL (qE (zD (mkT (qE (zD (zF (.int 0)) (zD (zF (.int 1)) (zD (zF (.int 5)) zS))))) zS))) zS)))) (zN xV (zN jC (zL 1) (zF (.int 3))) (zF (.int 2)))) zS))))
 (qW (forG (viaA (mkL (qE (zD (qY 6) (zD (qY 9) zS)))) asLT) (zV 10) K86.law.b1)
 (qW (jT 11 (zN subD (zN xP (zN jC (zF (.int 300)) (zN xP (zL 3) (zF (.int 1)))) (zN xV (zX 2 GL.nth.f (zD (zL 0) (zD (zF (.int 3)) zS))) (zF (.int 3)))) (zF (.int 1))))
 (qW (jT 12 (zN yF (zN yF (zN yF (zN xP (zN jC (zL 7) (zN yF (zN yF (zF (.int 2)) (zL 3)) (zL 4))) (zL 11)) (zF (.int 2))) (zL 3)) (zL 4)))
 (qW (ifG (qA (zN neD (zX 4 K86.L_told.f (zD (zF (.int 1)) (zD (zL 6) (zD (mkT (qE (zD (qY 7) (zD (qY 12) zS)))) (zD (zF (.int 0)) zS))))) (zX 2 K86.L_due.f (zD (zF (.int 2)) (zD (zN gtD (zN yF (zL 11) (zN xP (zL 3) (zF (.int 1)))) (zF (.int 300))) zS))))) (retG (zF (.bl false))) qR)
 (qW (jT 13 (zN xP (zF (.int 141)) (zN xV (zX 2 GL.nth.f (zD (zL 0) (zD (zF (.int 4)) zS))) (zF (.int 16)))))
 (qW (jT 10 (zX 2 GP.wheel_of.f (zD (zN yF (zF (.int 2)) (zL 4)) (zD (mkL (qE (zD (mkT (qE (zD (zF (.int 0)) (zD (qY 4) (zD (zF (.int 1)) zS))))) zS))) zS))))
 (qW (jT 14 (zX 2 GP.wheel_of.f (zD (zN yF (zL 13) (zL 4)) (zD (mkL (qE (zD (mkT (qE (zD (zF (.int 0)) (zD (qY 4) (zD (zF (.int 2)) zS))))) zS))) zS))))
 (qW (jT 15 (zN xP (zN yF (zF (.int 2)) (zL 13)) (zF (.int 4))))
 (qW (ifG (qA (zN eqD (zN xV (zL 13) (zF (.int 2))) (zF (.int 0)))) (jT 15 (zN xP (zL 13) (zF (.int 2)))) qR)
 (qW (ifG (qA (zN neD (zX 4 K86.L_told.f (zD (zF (.int 2)) (zD (zL 10) (zD (zL 14) (zD (zF (.int 0)) zS))))) (zX 2 K86.L_due.f (zD (zF (.int 2)) (zD (zN gtD (zL 15) (zF (.int 300))) zS))))) (retG (zF (.bl false))) qR)
 (qW (jT 16 (zN subD (zN xV (zX 2 GL.nth.f (zD (zL 0) (zD (zF (.int 5)) zS))) (zN ixD (mkL (qE (zD (zF (.int 5)) (zD (zN powD (zF (.int 10)) (zF (.int 60))) zS)))) (zN xV (zX 2 GL.nth.f (zD (zL 0) (zD (zF (.int 6)) zS))) (zF (.int 2))))) (zF (.int 2))))
 (qW (forG (viaA (mkL (qE (zD (qY 6) (zD (qY 9) zS)))) asLT) (zV 10) K86.law.b2)
 (retG (zF (.bl true))))))))))))))))))))))))))
noncomputable def K86.law.f:List D->Option Ret:=runG K86.law.g 17
end
namespace K86
open PySem PyProof.Rows L2 FL
def top (i:Nat):Stmt:=PySem.Challenge.pw_spanmap_k86_refused_wheels.main.body.getD i (.Pass ⟨0,0,0,0⟩)
structure Glb (K:Frag) (mg:Str->Option Value):Prop where
 b_ValueError:mg "ValueError" = none
 b_enumerate:mg "enumerate" = none
 b_isinstance:mg "isinstance" = none
 b_len:mg "len" = none
 b_max:mg "max" = none
 b_min:mg "min" = none
 b_range:mg "range" = none
 c_MOST_SIZE:∃ t,mg "MOST_SIZE" = some (.int 300 t)
 isx_Empty_2_4_10:∃ D,mg "Empty" = some (.ref D)/\IsxOk K (.ref D) [(2,false),(4,false),(10,false)]
 isx_Clash_2_4_10:∃ D,mg "Clash" = some (.ref D)/\IsxOk K (.ref D) [(2,false),(4,false),(10,false)]
 isx_NoShare_2_4_10:∃ D,mg "NoShare" = some (.ref D)/\IsxOk K (.ref D) [(2,false),(4,false),(10,false)]
 isx_NoName_2_4_10:∃ D,mg "NoName" = some (.ref D)/\IsxOk K (.ref D) [(2,false),(4,false),(10,false)]
 isx_NoMark_2_4_10:∃ D,mg "NoMark" = some (.ref D)/\IsxOk K (.ref D) [(2,false),(4,false),(10,false)]
 isx_NoDeed_2_4_10:∃ D,mg "NoDeed" = some (.ref D)/\IsxOk K (.ref D) [(2,false),(4,false),(10,false)]
 isx_NoRule_2_4_10:∃ D,mg "NoRule" = some (.ref D)/\IsxOk K (.ref D) [(2,false),(4,false),(10,false)]
 isx_NoText_2_4_10:∃ D,mg "NoText" = some (.ref D)/\IsxOk K (.ref D) [(2,false),(4,false),(10,false)]
 isx_NoRow_2_4_10:∃ D,mg "NoRow" = some (.ref D)/\IsxOk K (.ref D) [(2,false),(4,false),(10,false)]
 isx_TooMuch_2_4_10:∃ D,mg "TooMuch" = some (.ref D)/\IsxOk K (.ref D) [(2,false),(4,false),(10,true)]
 isx_NoCount_2_4_10:∃ D,mg "NoCount" = some (.ref D)/\IsxOk K (.ref D) [(2,false),(4,true),(10,false)]
 isx_NoEnd_2_4_10:∃ D,mg "NoEnd" = some (.ref D)/\IsxOk K (.ref D) [(2,true),(4,false),(10,false)]
 isxB_ValueError_2_4_10:IsxOk K (.type "ValueError") [(2,true),(4,true),(10,true)]
 fv_8:FnV K mg 8
 fv_7:FnV K mg 7
section
variable {P:Program} {w:World} {K:Frag} {mg:Str->Option Value} {base:Heap}
theorem sc_later_low:FnScope ["one","other"] ["one","other"] (zC (top 18)):=⟨rfl,rfl,rfl,by decide +kernel,rfl,by decide +kernel,by decide +kernel⟩
theorem body_later_low {f:Addr} (T:Glb K mg)  (cdv:Value) (A:Around) (outer:List Env) (s:Shared) (H:Hp) (E:XK) (hr:Room 0 (A.deeper (envOfC "later_low" (zC (top 18)) s.heap.objs.size f cdv))) :
  PSsv (cxOf CX0 P w K mg base ["one","other"] "later_low" (zC (top 18)) f cdv A outer s H E).nox (zJ (top 18)) GP.later_low.g:=by
 have nd:(["one","other"]:List Str).Nodup:=sc_later_low.nd
 exact (zH (qJ (xY (PVw.n (zB 0)) (PV.n qN)) (zI (qK (zB 1))) zR)
  (zH (qJ (xY (PVw.n (zB 1)) (PV.n qN)) (zI (qK (zB 0))) zR)
  (zI (qK (PV.w (pv_max2 rfl T.b_max (jI (zB 0) (jI (zB 1) yN))))))))
theorem fok_later_low {f:Addr} {fd:FuncData} (Fn:Fun K "later_low" "later_low" (top 18) f fd) (T:Glb K mg)  : FnOk P w K mg base CX0 1 f fd ["one","other"] (spF K 2 GP.later_low.f) :=
 jD (k:=0) (F:=GP.later_low.f) (g:=GP.later_low.g) Fn sc_later_low (fun cdv A outer s H E hr=>body_later_low T  cdv A outer s H E hr) (fun ds r hl e=>qD e)
theorem sc_earlier_behind:FnScope ["one","other"] ["one","other"] (zC (top 19)):=⟨rfl,rfl,rfl,by decide +kernel,rfl,by decide +kernel,by decide +kernel⟩
theorem body_earlier_behind {f:Addr} (T:Glb K mg)  (cdv:Value) (A:Around) (outer:List Env) (s:Shared) (H:Hp) (E:XK) (hr:Room 0 (A.deeper (envOfC "earlier_behind" (zC (top 19)) s.heap.objs.size f cdv))) :
  PSsv (cxOf CX0 P w K mg base ["one","other"] "earlier_behind" (zC (top 19)) f cdv A outer s H E).nox (zJ (top 19)) GP.earlier_behind.g:=by
 have nd:(["one","other"]:List Str).Nodup:=sc_earlier_behind.nd
 exact (zH (qJ (xY (PVw.n (zB 0)) (PV.n qN)) (zI (qK (zB 1))) zR)
  (zH (qJ (xY (PVw.n (zB 1)) (PV.n qN)) (zI (qK (zB 0))) zR)
  (zI (qK (PV.w (pv_min2 rfl T.b_min (jI (zB 0) (jI (zB 1) yN))))))))
theorem fok_earlier_behind {f:Addr} {fd:FuncData} (Fn:Fun K "earlier_behind" "earlier_behind" (top 19) f fd) (T:Glb K mg)  : FnOk P w K mg base CX0 1 f fd ["one","other"] (spF K 2 GP.earlier_behind.f) :=
 jD (k:=0) (F:=GP.earlier_behind.f) (g:=GP.earlier_behind.g) Fn sc_earlier_behind (fun cdv A outer s H E hr=>body_earlier_behind T  cdv A outer s H E hr) (fun ds r hl e=>qD e)
theorem sc_ends_ahead:FnScope ["behind","low"] ["behind","low"] (zC (top 17)):=⟨rfl,rfl,rfl,by decide +kernel,rfl,by decide +kernel,by decide +kernel⟩
theorem body_ends_ahead {f:Addr} (T:Glb K mg)  (cdv:Value) (A:Around) (outer:List Env) (s:Shared) (H:Hp) (E:XK) (hr:Room 0 (A.deeper (envOfC "ends_ahead" (zC (top 17)) s.heap.objs.size f cdv))) :
  PSsv (cxOf CX0 P w K mg base ["behind","low"] "ends_ahead" (zC (top 17)) f cdv A outer s H E).nox (zJ (top 17)) GP.ends_ahead.g:=by
 have nd:(["behind","low"]:List Str).Nodup:=sc_ends_ahead.nd
 exact (zI (qK (PV.w (pv_and (pv_isnot (PVw.n (zB 0)) (PV.n qN)) (pv_and (pv_isnot (PVw.n (zB 1)) (PV.n qN)) (pv_one (pv_le (zB 0) (zB 1))))))))
theorem fok_ends_ahead {f:Addr} {fd:FuncData} (Fn:Fun K "ends_ahead" "ends_ahead" (top 17) f fd) (T:Glb K mg)  : FnOk P w K mg base CX0 1 f fd ["behind","low"] (spF K 2 GP.ends_ahead.f) :=
 jD (k:=0) (F:=GP.ends_ahead.f) (g:=GP.ends_ahead.g) Fn sc_ends_ahead (fun cdv A outer s H E hr=>body_ends_ahead T  cdv A outer s H E hr) (fun ds r hl e=>qD e)
theorem sc_meet:FnScope ["one","other","low","behind"] ["one","other"] (zC (top 15)):=⟨rfl,rfl,rfl,by decide +kernel,rfl,by decide +kernel,by decide +kernel⟩
theorem body_meet {f:Addr} (T:Glb K mg) (C_later_low:Cal P w K mg base "later_low" 1 2 GP.later_low.f) (C_earlier_behind:Cal P w K mg base "earlier_behind" 1 2 GP.earlier_behind.f) (C_ends_ahead:Cal P w K mg base "ends_ahead" 1 2 GP.ends_ahead.f) (cdv:Value) (A:Around) (outer:List Env) (s:Shared) (H:Hp) (E:XK) (hr:Room 1 (A.deeper (envOfC "meet" (zC (top 15)) s.heap.objs.size f cdv))) :
  PSsv (cxOf CX0 P w K mg base ["one","other","low","behind"] "meet" (zC (top 15)) f cdv A outer s H E).nox (zJ (top 15)) GP.meet.g:=by
 have nd:(["one","other","low","behind"]:List Str).Nodup:=sc_meet.nd
 exact (zH (zQ (i:=2) nd (zM C_later_low hr (zA (PV.n (qH (zB 0) (PV.w zG))) (zA (PV.n (qH (zB 1) (PV.w zG))) zK))))
  (zH (zQ (i:=3) nd (zM C_earlier_behind hr (zA (PV.n (qH (zB 0) (PV.w zG))) (zA (PV.n (qH (zB 1) (PV.w zG))) zK))))
  (zH (qJ (PVn.t (PV.n (zM C_ends_ahead hr (zA (PVw.n (zB 3)) (zA (PVw.n (zB 2)) zK))))) (zI (qK (PV.w qN))) zR)
  (zI (qK (PV.w (qQ (zE (zU 2) (zE (zU 3) zP)))))))))
theorem fok_meet {f:Addr} {fd:FuncData} (Fn:Fun K "meet" "meet" (top 15) f fd) (T:Glb K mg) (C_later_low:Cal P w K mg base "later_low" 1 2 GP.later_low.f) (C_earlier_behind:Cal P w K mg base "earlier_behind" 1 2 GP.earlier_behind.f) (C_ends_ahead:Cal P w K mg base "ends_ahead" 1 2 GP.ends_ahead.f):FnOk P w K mg base CX0 2 f fd ["one","other"] (spF K 2 GP.meet.f) :=
 jD (k:=1) (F:=GP.meet.f) (g:=GP.meet.g) Fn sc_meet (fun cdv A outer s H E hr=>body_meet T C_later_low C_earlier_behind C_ends_ahead cdv A outer s H E hr) (fun ds r hl e=>qD e)
theorem sc_length:FnScope ["one"] ["one"] (zC (top 16)):=⟨rfl,rfl,rfl,by decide +kernel,rfl,by decide +kernel,by decide +kernel⟩
theorem body_length {f:Addr} (T:Glb K mg)  (cdv:Value) (A:Around) (outer:List Env) (s:Shared) (H:Hp) (E:XK) (hr:Room 0 (A.deeper (envOfC "length" (zC (top 16)) s.heap.objs.size f cdv))) :
  PSsv (cxOf CX0 P w K mg base ["one"] "length" (zC (top 16)) f cdv A outer s H E).nox (zJ (top 16)) GP.length.g:=by
 have nd:(["one"]:List Str).Nodup:=sc_length.nd
 exact (zH (qJ (PWv.t (pwv_or (xY (PV.n (qH (zB 0) (PV.w zG))) (PV.n qN)) (pwv_or1 (xY (PV.n (qH (zB 0) (PV.w zG))) (PV.n qN))))) (zI (qK (PV.w qN))) zR)
  (zI (qK (PV.w (yV (PV.w (qH (zB 0) (PV.w zG))) (PV.w (qH (zB 0) (PV.w zG))))))))
theorem fok_length {f:Addr} {fd:FuncData} (Fn:Fun K "length" "length" (top 16) f fd) (T:Glb K mg)  : FnOk P w K mg base CX0 1 f fd ["one"] (spF K 1 GP.length.f) :=
 jD (k:=0) (F:=GP.length.f) (g:=GP.length.g) Fn sc_length (fun cdv A outer s H E hr=>body_length T  cdv A outer s H E hr) (fun ds r hl e=>qD e)
theorem sc_knit:FnScope ["rows","pieces","low","behind","value"] ["rows"] (zC (top 21)):=⟨rfl,rfl,rfl,by decide +kernel,rfl,by decide +kernel,by decide +kernel⟩
theorem body_knit {f:Addr} (T:Glb K mg)  (cdv:Value) (A:Around) (outer:List Env) (s:Shared) (H:Hp) (E:XK) (hr:Room 0 (A.deeper (envOfC "knit" (zC (top 21)) s.heap.objs.size f cdv))) :
  PSsv (cxOf CX0 P w K mg base ["rows","pieces","low","behind","value"] "knit" (zC (top 21)) f cdv A outer s H E).nox (zJ (top 21)) GP.knit.g:=by
 have nd:(["rows","pieces","low","behind","value"]:List Str).Nodup:=sc_knit.nd
 exact (zH (yR (i:=1) nd (qV zP))
  (zH (xA PassesOwn.never rfl (yP (zU 0)) (yW (n:=3) rfl (zY (zZ (i:=2) nd) (zY (zZ (i:=3) nd) (zY (zZ (i:=4) nd) yH)))) (zH (qJ (xY (PVw.n (zB 4)) (PV.n qN)) (zI psv_continue) zR)
  (zI (qJ (PWv.t (pwv_and (PVn.t (PVw.n (zB 1))) (pwv_and (yI hr (PV.n (qH (PV.w (qH (zB 1) (PV.w (vO zG)))) (PV.w zG))) (PVw.n (zB 2))) (pwv_and1 (yI hr (PV.n (qH (PV.w (qH (zB 1) (PV.w (vO zG)))) (PV.w zG))) (PVw.n (zB 4))))))) (zI (psv_put (i:=1) (qQ (zE (qH (PV.w (qH (zB 1) (PV.w (vO zG)))) (PV.w zG)) (zE (zU 3) (zE (zU 4) zP)))) (vO zG))) (zI (xL (i:=1) (qQ (zE (zU 2) (zE (zU 3) (zE (zU 4) zP))))))))))
  (zI (xT 1))))
theorem fok_knit {f:Addr} {fd:FuncData} (Fn:Fun K "knit" "knit" (top 21) f fd) (T:Glb K mg)  : FnOk P w K mg base CX0 1 f fd ["rows"] (spF K 1 GP.knit.f) :=
 jD (k:=0) (F:=GP.knit.f) (g:=GP.knit.g) Fn sc_knit (fun cdv A outer s H E hr=>body_knit T  cdv A outer s H E hr) (fun ds r hl e=>qD e)
theorem sc_parts_in:FnScope ["pieces","within","parts","low","behind","value","common"] ["pieces","within"] (zC (top 22)):=⟨rfl,rfl,rfl,by decide +kernel,rfl,by decide +kernel,by decide +kernel⟩
theorem body_parts_in {f:Addr} (T:Glb K mg) (C_meet:Cal P w K mg base "meet" 2 2 GP.meet.f) (cdv:Value) (A:Around) (outer:List Env) (s:Shared) (H:Hp) (E:XK) (hr:Room 2 (A.deeper (envOfC "parts_in" (zC (top 22)) s.heap.objs.size f cdv))) :
  PSsv (cxOf CX0 P w K mg base ["pieces","within","parts","low","behind","value","common"] "parts_in" (zC (top 22)) f cdv A outer s H E).nox (zJ (top 22)) GP.parts_in.g:=by
 have nd:(["pieces","within","parts","low","behind","value","common"]:List Str).Nodup:=sc_parts_in.nd
 exact (zH (yR (i:=2) nd (qV zP))
  (zH (xA PassesOwn.never rfl (yP (zU 0)) (yW (n:=3) rfl (zY (zZ (i:=3) nd) (zY (zZ (i:=4) nd) (zY (zZ (i:=5) nd) yH)))) (zH (zQ (i:=6) nd (zM C_meet hr (zA (PV.n (qQ (zE (zU 3) (zE (zU 4) zP)))) (zA (PVw.n (zB 1)) zK))))
  (zI (qJ (pt_isnot (PVw.n (zB 6)) (PV.n qN)) (zI (xL (i:=2) (qQ (zE (qH (zB 6) (PV.w zG)) (zE (qH (zB 6) (PV.w zG)) (zE (zU 5) zP)))))) zR))))
  (zI (xT 2))))
theorem fok_parts_in {f:Addr} {fd:FuncData} (Fn:Fun K "parts_in" "parts_in" (top 22) f fd) (T:Glb K mg) (C_meet:Cal P w K mg base "meet" 2 2 GP.meet.f):FnOk P w K mg base CX0 3 f fd ["pieces","within"] (spF K 2 GP.parts_in.f) :=
 jD (k:=2) (F:=GP.parts_in.f) (g:=GP.parts_in.g) Fn sc_parts_in (fun cdv A outer s H E hr=>body_parts_in T C_meet cdv A outer s H E hr) (fun ds r hl e=>qD e)
theorem sc_runs_of:FnScope ["pieces","runs","here","low","behind","value"] ["pieces"] (zC (top 23)):=⟨rfl,rfl,rfl,by decide +kernel,rfl,by decide +kernel,by decide +kernel⟩
theorem body_runs_of {f:Addr} (T:Glb K mg)  (cdv:Value) (A:Around) (outer:List Env) (s:Shared) (H:Hp) (E:XK) (hr:Room 0 (A.deeper (envOfC "runs_of" (zC (top 23)) s.heap.objs.size f cdv))) :
  PSsv (cxOf CX0 P w K mg base ["pieces","runs","here","low","behind","value"] "runs_of" (zC (top 23)) f cdv A outer s H E).nox (zJ (top 23)) GP.runs_of.g:=by
 have nd:(["pieces","runs","here","low","behind","value"]:List Str).Nodup:=sc_runs_of.nd
 exact (zH (yR (i:=1) nd (qV zP))
  (zH (zQ (i:=2) nd qN)
  (zH (xA PassesOwn.never rfl (yP (zU 0)) (yW (n:=3) rfl (zY (zZ (i:=3) nd) (zY (zZ (i:=4) nd) (zY (zZ (i:=5) nd) yH)))) (zH (qJ (pt_ne hr (PVw.n (zB 3)) (PVw.n (zB 2))) (zI (xL (i:=1) (qQ (zE (zU 2) (zE (zU 3) (zE qN zP)))))) zR)
  (zH (xL (i:=1) (qQ (zE (zU 3) (zE (zU 4) (zE (zU 5) zP)))))
  (zI (zQ (i:=2) nd (zU 4))))))
  (zH (qJ (PWv.t (pwv_or (pt_isnot (PVw.n (zB 2)) (PV.n qN)) (pwv_or1 (ptv_not (PVn.t (PVw.n (zB 0))))))) (zI (xL (i:=1) (qQ (zE (zU 2) (zE qN (zE qN zP)))))) zR)
  (zI (xT 1))))))
theorem fok_runs_of {f:Addr} {fd:FuncData} (Fn:Fun K "runs_of" "runs_of" (top 23) f fd) (T:Glb K mg)  : FnOk P w K mg base CX0 1 f fd ["pieces"] (spF K 1 GP.runs_of.f) :=
 jD (k:=0) (F:=GP.runs_of.f) (g:=GP.runs_of.g) Fn sc_runs_of (fun cdv A outer s H E hr=>body_runs_of T  cdv A outer s H E hr) (fun ds r hl e=>qD e)
theorem sc_paired:FnScope ["one","other","runs","other_runs","rows","here","at","other_at","run","other_run","behind"] ["one","other"] (zC (top 24)):=⟨rfl,rfl,rfl,by decide +kernel,rfl,by decide +kernel,by decide +kernel⟩
theorem body_paired {f:Addr} (T:Glb K mg) (C_runs_of:Cal P w K mg base "runs_of" 1 1 GP.runs_of.f) (C_earlier_behind:Cal P w K mg base "earlier_behind" 1 2 GP.earlier_behind.f) (cdv:Value) (A:Around) (outer:List Env) (s:Shared) (H:Hp) (E:XK) (hr:Room 1 (A.deeper (envOfC "paired" (zC (top 24)) s.heap.objs.size f cdv))) :
  PSsv (cxOf CX0 P w K mg base ["one","other","runs","other_runs","rows","here","at","other_at","run","other_run","behind"] "paired" (zC (top 24)) f cdv A outer s H E).nox (zJ (top 24)) GP.paired.g:=by
 have nd:(["one","other","runs","other_runs","rows","here","at","other_at","run","other_run","behind"]:List Str).Nodup:=sc_paired.nd
 exact (zH (zQ (i:=2) nd (zM C_runs_of hr (zA (PVw.n (zB 0)) zK)))
  (zH (zQ (i:=3) nd (zM C_runs_of hr (zA (PVw.n (zB 1)) zK)))
  (zH (yR (i:=4) nd (qV zP))
  (zH (zQ (i:=5) nd qN)
  (zH (zQ (i:=6) nd zG)
  (zH (zQ (i:=7) nd zG)
  (zH (psv_while 100000 PassesOwn.never (pt_lt (zB 6) (PV.w (vE T.b_len (jI (zB 2) yN)))) (zH (zQ (i:=8) nd (qH (zB 2) (zB 6)))
  (zH (zQ (i:=9) nd (qH (zB 3) (zB 7)))
  (zH (zQ (i:=10) nd (zM C_earlier_behind hr (zA (PV.n (qH (zB 8) (PV.w zG))) (zA (PV.n (qH (zB 9) (PV.w zG))) zK))))
  (zH (xL (i:=4) (qQ (zE (zU 5) (zE (zU 10) (zE (qH (zB 8) (PV.w zG)) (zE (qH (zB 9) (PV.w zG)) zP))))))
  (zH (qJ (yI hr (PV.n (qH (zB 8) (PV.w zG))) (PVw.n (zB 10))) (zI (psv_augA (i:=6) nd zG)) zR)
  (zH (qJ (yI hr (PV.n (qH (zB 9) (PV.w zG))) (PVw.n (zB 10))) (zI (psv_augA (i:=7) nd zG)) zR)
  (zI (zQ (i:=5) nd (zU 10))))))))))
  (zI (xT 4)))))))))
theorem fok_paired {f:Addr} {fd:FuncData} (Fn:Fun K "paired" "paired" (top 24) f fd) (T:Glb K mg) (C_runs_of:Cal P w K mg base "runs_of" 1 1 GP.runs_of.f) (C_earlier_behind:Cal P w K mg base "earlier_behind" 1 2 GP.earlier_behind.f):FnOk P w K mg base CX0 2 f fd ["one","other"] (spF K 2 GP.paired.f) :=
 jD (k:=1) (F:=GP.paired.f) (g:=GP.paired.g) Fn sc_paired (fun cdv A outer s H E hr=>body_paired T C_runs_of C_earlier_behind cdv A outer s H E hr) (fun ds r hl e=>qD e)
theorem sc_farther:FnScope ["side","far"] ["side","far"] (zC (top 27)):=⟨rfl,rfl,rfl,by decide +kernel,rfl,by decide +kernel,by decide +kernel⟩
theorem body_farther {f:Addr} (T:Glb K mg)  (cdv:Value) (A:Around) (outer:List Env) (s:Shared) (H:Hp) (E:XK) (hr:Room 0 (A.deeper (envOfC "farther" (zC (top 27)) s.heap.objs.size f cdv))) :
  PSsv (cxOf CX0 P w K mg base ["side","far"] "farther" (zC (top 27)) f cdv A outer s H E).nox (zJ (top 27)) GP.farther.g:=by
 have nd:(["side","far"]:List Str).Nodup:=sc_farther.nd
 exact (zI (qK (PV.w (pv_if (xY (PVw.n (zB 0)) (PV.n qN)) qN (qU (zB 0) (zB 1))))))
theorem fok_farther {f:Addr} {fd:FuncData} (Fn:Fun K "farther" "farther" (top 27) f fd) (T:Glb K mg)  : FnOk P w K mg base CX0 1 f fd ["side","far"] (spF K 2 GP.farther.f) :=
 jD (k:=0) (F:=GP.farther.f) (g:=GP.farther.g) Fn sc_farther (fun cdv A outer s H E hr=>body_farther T  cdv A outer s H E hr) (fun ds r hl e=>qD e)
theorem sc_shifted:FnScope ["pieces","far"] ["pieces","far"] (zC (top 26)):=⟨rfl,rfl,rfl,by decide +kernel,rfl,by decide +kernel,by decide +kernel⟩
theorem body_shifted {f:Addr} (T:Glb K mg) (C_farther:Cal P w K mg base "farther" 1 2 GP.farther.f) (cdv:Value) (A:Around) (outer:List Env) (s:Shared) (H:Hp) (E:XK) (hr:Room 1 (A.deeper (envOfC "shifted" (zC (top 26)) s.heap.objs.size f cdv))) :
  PSsv (cxOf CX0 P w K mg base ["pieces","far"] "shifted" (zC (top 26)) f cdv A outer s H E).nox (zJ (top 26)) GP.shifted.g:=by
 have nd:(["pieces","far"]:List Str).Nodup:=sc_shifted.nd
 have nI0:(["low","behind","value","far"]:List Str).Nodup:=by decide +kernel
 exact (zI (yE (wH (NY:=["low","behind","value","far"]) (mp:=[none,none,none,some 1]) (yC (by kernel_rfl)) rfl (yP (zU 0)) (fun c=>(yW (n:=3) rfl (zY (zZ (i:=0) nI0) (zY (zZ (i:=1) nI0) (zY (zZ (i:=2) nI0) yH))))) (fun c=>wB) (fun c=>(qQ (zE (zM C_farther hr (zA (PVw.n (zB 0)) (zA (PVw.n (zB 3)) zK))) (zE (zM C_farther hr (zA (PVw.n (zB 1)) (zA (PVw.n (zB 3)) zK))) (zE (zU 2) zP))))))))
theorem fok_shifted {f:Addr} {fd:FuncData} (Fn:Fun K "shifted" "shifted" (top 26) f fd) (T:Glb K mg) (C_farther:Cal P w K mg base "farther" 1 2 GP.farther.f):FnOk P w K mg base CX0 2 f fd ["pieces","far"] (spF K 2 GP.shifted.f) :=
 jD (k:=1) (F:=GP.shifted.f) (g:=GP.shifted.g) Fn sc_shifted (fun cdv A outer s H E hr=>body_shifted T C_farther cdv A outer s H E hr) (fun ds r hl e=>qD e)
theorem sc__law_sum:FnScope ["_law_one","_law_other"] ["_law_one","_law_other"] (zC (top 52)):=⟨rfl,rfl,rfl,by decide +kernel,rfl,by decide +kernel,by decide +kernel⟩
theorem body__law_sum {f:Addr} (T:Glb K mg)  (cdv:Value) (A:Around) (outer:List Env) (s:Shared) (H:Hp) (E:XK) (hr:Room 0 (A.deeper (envOfC "_law_sum" (zC (top 52)) s.heap.objs.size f cdv))) :
  PSsv (cxOf CX0 P w K mg base ["_law_one","_law_other"] "_law_sum" (zC (top 52)) f cdv A outer s H E).nox (zJ (top 52)) K86.L_sum.g:=by
 have nd:(["_law_one","_law_other"]:List Str).Nodup:=sc__law_sum.nd
 exact (zH (qJ (PWv.t (pwv_or (xY (PVw.n (zB 0)) (PV.n qN)) (pwv_or1 (xY (PVw.n (zB 1)) (PV.n qN))))) (zI (qK (PV.w qN))) zR)
  (zI (qK (PV.w (qU (zB 0) (zB 1))))))
theorem fok__law_sum {f:Addr} {fd:FuncData} (Fn:Fun K "_law_sum" "_law_sum" (top 52) f fd) (T:Glb K mg)  : FnOk P w K mg base CX0 1 f fd ["_law_one","_law_other"] (spF K 2 K86.L_sum.f) :=
 jD (k:=0) (F:=K86.L_sum.f) (g:=K86.L_sum.g) Fn sc__law_sum (fun cdv A outer s H E hr=>body__law_sum T  cdv A outer s H E hr) (fun ds r hl e=>qD e)
theorem sc__law_none:FnScope ["_law_one"] ["_law_one"] (zC (top 53)):=⟨rfl,rfl,rfl,by decide +kernel,rfl,by decide +kernel,by decide +kernel⟩
theorem body__law_none {f:Addr} (T:Glb K mg)  (cdv:Value) (A:Around) (outer:List Env) (s:Shared) (H:Hp) (E:XK) (hr:Room 0 (A.deeper (envOfC "_law_none" (zC (top 53)) s.heap.objs.size f cdv))) :
  PSsv (cxOf CX0 P w K mg base ["_law_one"] "_law_none" (zC (top 53)) f cdv A outer s H E).nox (zJ (top 53)) K86.L_none.g:=by
 have nd:(["_law_one"]:List Str).Nodup:=sc__law_none.nd
 exact (zI (qK (PV.w (pv_is (PVw.n (zB 0)) (PV.n qN)))))
theorem fok__law_none {f:Addr} {fd:FuncData} (Fn:Fun K "_law_none" "_law_none" (top 53) f fd) (T:Glb K mg)  : FnOk P w K mg base CX0 1 f fd ["_law_one"] (spF K 1 K86.L_none.f) :=
 jD (k:=0) (F:=K86.L_none.f) (g:=K86.L_none.g) Fn sc__law_none (fun cdv A outer s H E hr=>body__law_none T  cdv A outer s H E hr) (fun ds r hl e=>qD e)
theorem lamg_wheel_run_0 {f mc mp:Addr} (T:Glb K mg) (M:Mkr K "wheel_run" 9 (top 44) f mc mp)   : LamGood P w K mg base 1 9 0 (lamF 1 K86.lam_wheel_run_0):=by
 refine lam_good (k:=0) (ps:=["value"]) (t:=(laT "wheel_run" (exA 3 (exA 0 (stE (stN 2 (zJ (top 44)))))))) ((M.tx 0).trans (by kernel_rfl)) (lam_scope (by kernel_rfl)) rfl ?_ ?_
 · intro fd h1 h2 h3 us hl
   cases fd
   cases h1
   cases h2
   cases h3
   exact match us,hl with | [_],_=>rfl
 · intro f' cd cl A outer s H hr
   exact (PV.n (pv_isnot (PVw.n (zB 0)) (PV.n qN)))
theorem lamg_holding_0 {f mc mp:Addr} (T:Glb K mg) (M:Mkr K "holding" 4 (top 33) f mc mp) (CO:CloOk P w K mg base 1 K86.Phi0)  : LamGood P w K mg base 2 4 0 (lamF 1 K86.lam_holding_0):=by
 refine lam_good (k:=1) (ps:=["value"]) (t:=(laT "holding" (exA 1 (stE (stN 0 (zJ (top 33))))))) ((M.tx 0).trans (by kernel_rfl)) (lam_scope (by kernel_rfl)) rfl ?_ ?_
 · intro fd h1 h2 h3 us hl
   cases fd
   cases h1
   cases h2
   cases h3
   exact match us,hl with | [_],_=>rfl
 · intro f' cd cl A outer s H hr
   exact (PV.n (pv_if (PVn.t (PV.n (pv_callW (i:=1) CO hr (zA (PVw.n (zB 0)) zK)))) zG qN))
theorem clo_ok0 (T:Glb K mg)  {f_holding mc_holding mp_holding:Addr} (M_holding:Mkr K "holding" 4 (top 33) f_holding mc_holding mp_holding) {f_wheel_run mc_wheel_run mp_wheel_run:Addr} (M_wheel_run:Mkr K "wheel_run" 9 (top 44) f_wheel_run mc_wheel_run mp_wheel_run) (V__law_sum:CalV P w K mg base 7 1 2 K86.L_sum.f) (V__law_none:CalV P w K mg base 8 1 1 K86.L_none.f):CloOk P w K mg base 1 K86.Phi0:=by
 refine clo_of (fun p hp=>?_) fun p hp hm=>?_
 · rcases List.mem_cons.mp hp with rfl | hp
   · exact (LamGood.mono (k:=1) (fn_good V__law_sum) (by decide))
   rcases List.mem_cons.mp hp with rfl | hp
   · exact (LamGood.mono (k:=1) (fn_good V__law_none) (by decide))
   rcases List.mem_cons.mp hp with rfl | hp
   · exact (lamg_wheel_run_0 T M_wheel_run  )
   cases hp
 · rcases List.mem_cons.mp hp with rfl | hp
   · exact V__law_sum.fin
   rcases List.mem_cons.mp hp with rfl | hp
   · exact V__law_none.fin
   rcases List.mem_cons.mp hp with rfl | hp
   · exact absurd (show (9:Nat)=1000 from hm) (by decide)
   cases hp
theorem clo_ok (T:Glb K mg) (CO:CloOk P w K mg base 1 K86.Phi0) {f_holding mc_holding mp_holding:Addr} (M_holding:Mkr K "holding" 4 (top 33) f_holding mc_holding mp_holding) {f_wheel_run mc_wheel_run mp_wheel_run:Addr} (M_wheel_run:Mkr K "wheel_run" 9 (top 44) f_wheel_run mc_wheel_run mp_wheel_run) (V__law_sum:CalV P w K mg base 7 1 2 K86.L_sum.f) (V__law_none:CalV P w K mg base 8 1 1 K86.L_none.f):CloOk P w K mg base 2 K86.Phi:=by
 refine clo_of (fun p hp=>?_) fun p hp hm=>?_
 · rcases List.mem_cons.mp hp with rfl | hp
   · exact (LamGood.mono (LamGood.mono (k:=1) (fn_good V__law_sum) (by decide)) (by decide))
   rcases List.mem_cons.mp hp with rfl | hp
   · exact (LamGood.mono (LamGood.mono (k:=1) (fn_good V__law_none) (by decide)) (by decide))
   rcases List.mem_cons.mp hp with rfl | hp
   · exact (LamGood.mono (lamg_wheel_run_0 T M_wheel_run  ) (by decide))
   rcases List.mem_cons.mp hp with rfl | hp
   · exact (lamg_holding_0 T M_holding CO )
   cases hp
 · rcases List.mem_cons.mp hp with rfl | hp
   · exact V__law_sum.fin
   rcases List.mem_cons.mp hp with rfl | hp
   · exact V__law_none.fin
   rcases List.mem_cons.mp hp with rfl | hp
   · exact absurd (show (9:Nat)=1000 from hm) (by decide)
   rcases List.mem_cons.mp hp with rfl | hp
   · exact absurd (show (4:Nat)=1000 from hm) (by decide)
   cases hp
theorem sc_joined:FnScope ["one","other","way","rows"] ["one","other","way"] (zC (top 29)):=⟨rfl,rfl,rfl,by decide +kernel,rfl,by decide +kernel,by decide +kernel⟩
theorem body_joined {f:Addr} (T:Glb K mg) (C_paired:Cal P w K mg base "paired" 2 2 GP.paired.f) (C_knit:Cal P w K mg base "knit" 1 1 GP.knit.f) (CO:CloOk P w K mg base 2 K86.Phi) (cdv:Value) (A:Around) (outer:List Env) (s:Shared) (H:Hp) (E:XK) (hr:Room 2 (A.deeper (envOfC "joined" (zC (top 29)) s.heap.objs.size f cdv))) :
  PSsv (cxOf CX0 P w K mg base ["one","other","way","rows"] "joined" (zC (top 29)) f cdv A outer s H E).nox (zJ (top 29)) (GP.joined.g K86.Phi):=by
 have nd:(["one","other","way","rows"]:List Str).Nodup:=sc_joined.nd
 have nI0:(["low","behind","value","other_value","way"]:List Str).Nodup:=by decide +kernel
 exact (zH (zQ (i:=3) nd (zM C_paired hr (zA (PVw.n (zB 0)) (zA (PVw.n (zB 1)) zK))))
  (zI (yE (yZ C_knit hr (zA (PV.n (PVf.s (wH (NY:=["low","behind","value","other_value","way"]) (mp:=[none,none,none,none,some 2]) (yC (by kernel_rfl)) rfl (yP (zU 3)) (fun c=>(yW (n:=4) rfl (zY (zZ (i:=0) nI0) (zY (zZ (i:=1) nI0) (zY (zZ (i:=2) nI0) (zY (zZ (i:=3) nI0) yH)))))) (fun c=>wB) (fun c=>(qQ (zE (zU 0) (zE (zU 1) (zE (pv_callW (i:=4) CO hr (zA (PVw.n (zB 2)) (zA (PVw.n (zB 3)) zK))) zP)))))))) zK)))))
theorem fok_joined {f:Addr} {fd:FuncData} (Fn:Fun K "joined" "joined" (top 29) f fd) (T:Glb K mg) (C_paired:Cal P w K mg base "paired" 2 2 GP.paired.f) (C_knit:Cal P w K mg base "knit" 1 1 GP.knit.f) (CO:CloOk P w K mg base 2 K86.Phi):FnOk P w K mg base CX0 3 f fd ["one","other","way"] (spF K 3 (GP.joined.f K86.Phi)) :=
 jD (k:=2) (F:=(GP.joined.f K86.Phi)) (g:=(GP.joined.g K86.Phi)) Fn sc_joined (fun cdv A outer s H E hr=>body_joined T C_paired C_knit CO cdv A outer s H E hr) (fun ds r hl e=>qD e)
theorem sc_turned:FnScope ["pieces","way"] ["pieces","way"] (zC (top 30)):=⟨rfl,rfl,rfl,by decide +kernel,rfl,by decide +kernel,by decide +kernel⟩
theorem body_turned {f:Addr} (T:Glb K mg) (C_knit:Cal P w K mg base "knit" 1 1 GP.knit.f) (C_runs_of:Cal P w K mg base "runs_of" 1 1 GP.runs_of.f) (CO:CloOk P w K mg base 2 K86.Phi) (cdv:Value) (A:Around) (outer:List Env) (s:Shared) (H:Hp) (E:XK) (hr:Room 2 (A.deeper (envOfC "turned" (zC (top 30)) s.heap.objs.size f cdv))) :
  PSsv (cxOf CX0 P w K mg base ["pieces","way"] "turned" (zC (top 30)) f cdv A outer s H E).nox (zJ (top 30)) (GP.turned.g K86.Phi):=by
 have nd:(["pieces","way"]:List Str).Nodup:=sc_turned.nd
 have nI0:(["low","behind","value","way"]:List Str).Nodup:=by decide +kernel
 exact (zI (yE (yZ C_knit hr (zA (PV.n (PVf.s (wH (NY:=["low","behind","value","way"]) (mp:=[none,none,none,some 1]) (yC (by kernel_rfl)) rfl (yP (zM C_runs_of hr (zA (PVw.n (zB 0)) zK))) (fun c=>(yW (n:=3) rfl (zY (zZ (i:=0) nI0) (zY (zZ (i:=1) nI0) (zY (zZ (i:=2) nI0) yH))))) (fun c=>wB) (fun c=>(qQ (zE (zU 0) (zE (zU 1) (zE (pv_callW (i:=3) CO hr (zA (PVw.n (zB 2)) zK)) zP)))))))) zK))))
theorem fok_turned {f:Addr} {fd:FuncData} (Fn:Fun K "turned" "turned" (top 30) f fd) (T:Glb K mg) (C_knit:Cal P w K mg base "knit" 1 1 GP.knit.f) (C_runs_of:Cal P w K mg base "runs_of" 1 1 GP.runs_of.f) (CO:CloOk P w K mg base 2 K86.Phi):FnOk P w K mg base CX0 3 f fd ["pieces","way"] (spF K 2 (GP.turned.f K86.Phi)) :=
 jD (k:=2) (F:=(GP.turned.f K86.Phi)) (g:=(GP.turned.g K86.Phi)) Fn sc_turned (fun cdv A outer s H E hr=>body_turned T C_knit C_runs_of CO cdv A outer s H E hr) (fun ds r hl e=>qD e)
theorem sc_holding:FnScope ["pieces","test"] ["pieces","test"] (zC (top 33)):=⟨rfl,rfl,rfl,by decide +kernel,rfl,by decide +kernel,by decide +kernel⟩
theorem body_holding {f:Addr} (T:Glb K mg) (C_turned:Cal P w K mg base "turned" 3 2 (GP.turned.f K86.Phi)) {mc mp:Addr} (M:Mkr K "holding" 4 (top 33) f mc mp) (A:Around) (outer:List Env) (s:Shared) (H:Hp) (E:XK) (hr:Room 3 (A.deeper (envOfC "holding" (zC (top 33)) s.heap.objs.size f (.ref mc)))) :
  PSsv (cxOf CX0 P w K mg base ["pieces","test"] "holding" (zC (top 33)) f (.ref mc) A outer s H E).nox (zJ (top 33)) (GP.holding.g K86.Phi):=by
 have nd:(["pieces","test"]:List Str).Nodup:=sc_holding.nd
 exact (zI (yE (pvf_callL (t:=laT "holding" (exA 1 (stE (stN 0 (zJ (top 33)))))) (j:=0) (is:=[1]) C_turned hr M (vB (PVw.n (zB 0)) (pal_lamM (is:=[1]) M (by kernel_rfl))) (by kernel_rfl) (by kernel_rfl))))
theorem fok_holding {f:Addr} {fd:FuncData} (Fn:Fun K "holding" "holding" (top 33) f fd) (T:Glb K mg) (C_turned:Cal P w K mg base "turned" 3 2 (GP.turned.f K86.Phi)) {mc mp:Addr} (M:Mkr K "holding" 4 (top 33) f mc mp):FnOk P w K mg base CX0 4 f fd ["pieces","test"] (spF K 2 (GP.holding.f K86.Phi)) :=
 fun_okM (k:=3) (F:=(GP.holding.f K86.Phi)) (g:=(GP.holding.g K86.Phi)) Fn sc_holding M (fun A outer s H E hr=>body_holding T C_turned M A outer s H E hr) (fun ds r hl e=>qD e)
theorem sc_first_run:FnScope ["pieces","start","many","test","paper","low","behind","held"] ["pieces","start","many","test"] (zC (top 32)):=⟨rfl,rfl,rfl,by decide +kernel,rfl,by decide +kernel,by decide +kernel⟩
theorem body_first_run {f:Addr} (T:Glb K mg) (C_parts_in:Cal P w K mg base "parts_in" 3 2 GP.parts_in.f) (C_runs_of:Cal P w K mg base "runs_of" 1 1 GP.runs_of.f) (C_holding:Cal P w K mg base "holding" 4 2 (GP.holding.f K86.Phi)) (cdv:Value) (A:Around) (outer:List Env) (s:Shared) (H:Hp) (E:XK) (hr:Room 4 (A.deeper (envOfC "first_run" (zC (top 32)) s.heap.objs.size f cdv))) :
  PSsv (cxOf CX0 P w K mg base ["pieces","start","many","test","paper","low","behind","held"] "first_run" (zC (top 32)) f cdv A outer s H E).nox (zJ (top 32)) (GP.first_run.g K86.Phi):=by
 have nd:(["pieces","start","many","test","paper","low","behind","held"]:List Str).Nodup:=sc_first_run.nd
 exact (zH (qJ (pt_lt (zB 2) (PV.w zG)) (zI yM) zR)
  (zH (yR (i:=4) nd (qV zP))
  (zH (xA PassesOwn.never rfl (yP (zM C_parts_in hr (zA (PV.n (zM C_runs_of hr (zA (PV.n (zM C_holding hr (zA (PVw.n (zB 0)) (zA (PVw.n (zB 3)) zK)))) zK))) (zA (PV.n (qQ (zE (zU 1) (zE qN zP)))) zK)))) (yW (n:=3) rfl (zY (zZ (i:=5) nd) (zY (zZ (i:=6) nd) (zY (zZ (i:=7) nd) yH)))) (zI (qJ (xY (PVw.n (zB 7)) (PV.n qN)) (zI (xL (i:=4) (qQ (zE (zU 5) (zE (zU 6) zP))))) (zI (qJ (PWv.t (pwv_or (xY (PVw.n (zB 6)) (PV.n qN)) (pwv_or1 (pt_ge (PV.w (yV (zB 6) (zB 5))) (zB 2))))) (zI (psv_retE (pve_tup (xR (PVd.e (PV.d (zU 5))) (xR (pve_own 4) pae_nil))))) zR)))))
  (zI (psv_retE (pve_tup (xR (PVd.e (PV.d qN)) (xR (pve_own 4) pae_nil))))))))
theorem fok_first_run {f:Addr} {fd:FuncData} (Fn:Fun K "first_run" "first_run" (top 32) f fd) (T:Glb K mg) (C_parts_in:Cal P w K mg base "parts_in" 3 2 GP.parts_in.f) (C_runs_of:Cal P w K mg base "runs_of" 1 1 GP.runs_of.f) (C_holding:Cal P w K mg base "holding" 4 2 (GP.holding.f K86.Phi)):FnOk P w K mg base CX0 5 f fd ["pieces","start","many","test"] (spF K 4 (GP.first_run.f K86.Phi)) :=
 jD (k:=4) (F:=(GP.first_run.f K86.Phi)) (g:=(GP.first_run.g K86.Phi)) Fn sc_first_run (fun cdv A outer s H E hr=>body_first_run T C_parts_in C_runs_of C_holding cdv A outer s H E hr) (fun ds r hl e=>qD e)
theorem body_first_run_4 {f XC:Addr} (T:Glb K mg) (C_parts_in:Cal P w K mg base "parts_in" 3 2 GP.parts_in.f) (C_runs_of:Cal P w K mg base "runs_of" 1 1 GP.runs_of.f) (C_holding:Cal P w K mg base "holding" 4 2 (GP.holding.f K86.Phi)) (R:XR K mg 4 XC) (cdv:Value) (A:Around) (outer:List Env) (s:Shared) (H:Hp) (E:XK) (hr:Room 4 (A.deeper (envOfC "first_run" (zC (top 32)) s.heap.objs.size f cdv))) :
  PSsy (cxOf (CXM P w) P w K mg base ["pieces","start","many","test","paper","low","behind","held"] "first_run" (zC (top 32)) f cdv A outer s H E) E XC (zJ (top 32)) K86.X_first_run_4.x:=by
 have nd:(["pieces","start","many","test","paper","low","behind","held"]:List Str).Nodup:=sc_first_run.nd
 exact (qL (xW (pt_lt (zB 2) (PV.w zG)) (qL (PSx.y (xH R.cls R.gl))
  qM) (jN qM))
  qM)
theorem fokx_first_run_4 {f XC:Addr} {fd:FuncData} (Fn:Fun K "first_run" "first_run" (top 32) f fd) (T:Glb K mg) (C_parts_in:Cal P w K mg base "parts_in" 3 2 GP.parts_in.f) (C_runs_of:Cal P w K mg base "runs_of" 1 1 GP.runs_of.f) (C_holding:Cal P w K mg base "holding" 4 2 (GP.holding.f K86.Phi)) (R:XR K mg 4 XC):FnOk P w K mg base (CXM P w) 5 f fd ["pieces","start","many","test"] (spX K 4 K86.X_first_run_4.f XC) :=
 xD (k:=4) (g:=K86.X_first_run_4.x) Fn sc_first_run (fun cdv A outer s H E hr=>body_first_run_4 T C_parts_in C_runs_of C_holding R cdv A outer s H E hr) (fun ds hl e=>e)
theorem sc_change_by:FnScope ["turn","changes","number","change"] ["turn","changes","number"] (zC (top 37)):=⟨rfl,rfl,rfl,by decide +kernel,rfl,by decide +kernel,by decide +kernel⟩
theorem body_change_by {f:Addr} (T:Glb K mg)  (cdv:Value) (A:Around) (outer:List Env) (s:Shared) (H:Hp) (E:XK) (hr:Room 0 (A.deeper (envOfC "change_by" (zC (top 37)) s.heap.objs.size f cdv))) :
  PSsv (cxOf CX0 P w K mg base ["turn","changes","number","change"] "change_by" (zC (top 37)) f cdv A outer s H E).nox (zJ (top 37)) GP.change_by.g:=by
 have nd:(["turn","changes","number","change"]:List Str).Nodup:=sc_change_by.nd
 exact (zH (qJ (ptv_not (PVn.t (PVw.n (zB 1)))) (zI (qK (PV.w qN))) zR)
  (zH (zQ (i:=3) nd (qH (zB 1) (PV.w (jO (zB 2) (PV.w (vE T.b_len (jI (zB 1) yN)))))))
  (zI (qK (PV.w (qQ (zE (qU (PV.w (qH (zB 3) (PV.w zG))) (PV.w (jA (PV.w (jB (zB 2) (PV.w (vE T.b_len (jI (zB 1) yN))))) (zB 0)))) (zE (qH (zB 3) (PV.w zG)) zP))))))))
theorem fok_change_by {f:Addr} {fd:FuncData} (Fn:Fun K "change_by" "change_by" (top 37) f fd) (T:Glb K mg)  : FnOk P w K mg base CX0 1 f fd ["turn","changes","number"] (spF K 3 GP.change_by.f) :=
 jD (k:=0) (F:=GP.change_by.f) (g:=GP.change_by.g) Fn sc_change_by (fun cdv A outer s H E hr=>body_change_by T  cdv A outer s H E hr) (fun ds r hl e=>qD e)
theorem sc_comes_again:FnScope ["turn","changes","times","many","far","number","change"] ["turn","changes","times"] (zC (top 39)):=⟨rfl,rfl,rfl,by decide +kernel,rfl,by decide +kernel,by decide +kernel⟩
theorem body_comes_again {f:Addr} (T:Glb K mg) (C_change_by:Cal P w K mg base "change_by" 1 3 GP.change_by.f) (cdv:Value) (A:Around) (outer:List Env) (s:Shared) (H:Hp) (E:XK) (hr:Room 1 (A.deeper (envOfC "comes_again" (zC (top 39)) s.heap.objs.size f cdv))) :
  PSsv (cxOf CX0 P w K mg base ["turn","changes","times","many","far","number","change"] "comes_again" (zC (top 39)) f cdv A outer s H E).nox (zJ (top 39)) GP.comes_again.g:=by
 have nd:(["turn","changes","times","many","far","number","change"]:List Str).Nodup:=sc_comes_again.nd
 exact (zH (zQ (i:=3) nd (jB (PV.w (vE T.b_len (jI (zB 1) yN))) (zB 2)))
  (zH (zQ (i:=4) nd (jB (zB 0) (zB 2)))
  (zH (xA PassesOwn.never rfl (piv_enum T.b_enumerate (zU 1)) (yW (n:=2) rfl (zY (zZ (i:=5) nd) (zY (zZ (i:=6) nd) yH))) (zI (qJ (pt_ne hr (PV.n (zM C_change_by hr (zA (PVw.n (zB 0)) (zA (PVw.n (zB 1)) (zA (PV.n (qU (zB 5) (zB 3))) zK))))) (PV.n (qQ (zE (qU (PV.w (qH (zB 6) (PV.w zG))) (zB 4)) (zE (qH (zB 6) (PV.w zG)) zP))))) (zI (qK (PV.w vZ))) zR)))
  (zI (qK (PV.w vZ))))))
theorem fok_comes_again {f:Addr} {fd:FuncData} (Fn:Fun K "comes_again" "comes_again" (top 39) f fd) (T:Glb K mg) (C_change_by:Cal P w K mg base "change_by" 1 3 GP.change_by.f):FnOk P w K mg base CX0 2 f fd ["turn","changes","times"] (spF K 3 GP.comes_again.f) :=
 jD (k:=1) (F:=GP.comes_again.f) (g:=GP.comes_again.g) Fn sc_comes_again (fun cdv A outer s H E hr=>body_comes_again T C_change_by cdv A outer s H E hr) (fun ds r hl e=>qD e)
theorem sc_times_on:FnScope ["turn","changes","times"] ["turn","changes"] (zC (top 38)):=⟨rfl,rfl,rfl,by decide +kernel,rfl,by decide +kernel,by decide +kernel⟩
theorem body_times_on {f:Addr} (T:Glb K mg) (C_comes_again:Cal P w K mg base "comes_again" 2 3 GP.comes_again.f) (cdv:Value) (A:Around) (outer:List Env) (s:Shared) (H:Hp) (E:XK) (hr:Room 2 (A.deeper (envOfC "times_on" (zC (top 38)) s.heap.objs.size f cdv))) :
  PSsv (cxOf CX0 P w K mg base ["turn","changes","times"] "times_on" (zC (top 38)) f cdv A outer s H E).nox (zJ (top 38)) GP.times_on.g:=by
 have nd:(["turn","changes","times"]:List Str).Nodup:=sc_times_on.nd
 exact (zH (qJ (ptv_not (PVn.t (PVw.n (zB 1)))) (zI (qK (zB 0))) zR)
  (zH (xA PassesOwn.never rfl (piv_rangeB T.b_range (PV.w (vE T.b_len (jI (zB 1) yN))) (PV.w zG) (PV.w (vO zG))) (zZ (i:=2) nd) (zI (qJ (PWv.t (pwv_and (yI hr (PV.n (jO (PV.w (vE T.b_len (jI (zB 1) yN))) (zB 2))) (PV.n zG)) (pwv_and (yI hr (PV.n (jO (zB 0) (zB 2))) (PV.n zG)) (pwv_and1 (PVn.t (PV.n (zM C_comes_again hr (zA (PVw.n (zB 0)) (zA (PVw.n (zB 1)) (zA (PVw.n (zB 2)) zK)))))))))) (zI (qK (zB 2))) zR)))
  (zI (qK (PV.w zG)))))
theorem fok_times_on {f:Addr} {fd:FuncData} (Fn:Fun K "times_on" "times_on" (top 38) f fd) (T:Glb K mg) (C_comes_again:Cal P w K mg base "comes_again" 2 3 GP.comes_again.f):FnOk P w K mg base CX0 3 f fd ["turn","changes"] (spF K 2 GP.times_on.f) :=
 jD (k:=2) (F:=GP.times_on.f) (g:=GP.times_on.g) Fn sc_times_on (fun cdv A outer s H E hr=>body_times_on T C_comes_again cdv A outer s H E hr) (fun ds r hl e=>qD e)
theorem sc_changes_on:FnScope ["turn","pieces","runs","changes"] ["turn","pieces"] (zC (top 36)):=⟨rfl,rfl,rfl,by decide +kernel,rfl,by decide +kernel,by decide +kernel⟩
theorem body_changes_on {f:Addr} (T:Glb K mg) (C_parts_in:Cal P w K mg base "parts_in" 3 2 GP.parts_in.f) (C_runs_of:Cal P w K mg base "runs_of" 1 1 GP.runs_of.f) (cdv:Value) (A:Around) (outer:List Env) (s:Shared) (H:Hp) (E:XK) (hr:Room 3 (A.deeper (envOfC "changes_on" (zC (top 36)) s.heap.objs.size f cdv))) :
  PSsv (cxOf CX0 P w K mg base ["turn","pieces","runs","changes"] "changes_on" (zC (top 36)) f cdv A outer s H E).nox (zJ (top 36)) GP.changes_on.g:=by
 have nd:(["turn","pieces","runs","changes"]:List Str).Nodup:=sc_changes_on.nd
 have nI0:(["low","behind","value"]:List Str).Nodup:=by decide +kernel
 exact (zH (zQ (i:=2) nd (zM C_parts_in hr (zA (PV.n (zM C_runs_of hr (zA (PVw.n (zB 1)) zK))) (zA (PV.n (qQ (zE zG (zE (zU 0) zP)))) zK))))
  (zH (psv_comp (i:=3) nd (NY:=["low","behind","value"]) (mp:=[none,none,none]) (yC (by kernel_rfl)) rfl (yP (PVf.s (pvf_slice (zB 2) (pov_so (PV.w zG)) pov_no))) (fun c=>(yW (n:=3) rfl (zY (zZ (i:=0) nI0) (zY (zZ (i:=1) nI0) (zY (zZ (i:=2) nI0) yH))))) (fun c=>wB) (fun c=>(qQ (zE (zU 0) (zE (zU 2) zP)))))
  (zH (qJ (pt_ne hr (PV.n (qH (PV.w (qH (zB 2) (PV.w zG))) (PV.w zG))) (PV.n (qH (PV.w (qH (zB 2) (PV.w (vO zG)))) (PV.w zG)))) (zI (xL (i:=3) (qQ (zE (zU 0) (zE (qH (PV.w (qH (zB 2) (PV.w zG))) (PV.w zG)) zP))))) zR)
  (zI (xT 3)))))
theorem fok_changes_on {f:Addr} {fd:FuncData} (Fn:Fun K "changes_on" "changes_on" (top 36) f fd) (T:Glb K mg) (C_parts_in:Cal P w K mg base "parts_in" 3 2 GP.parts_in.f) (C_runs_of:Cal P w K mg base "runs_of" 1 1 GP.runs_of.f):FnOk P w K mg base CX0 4 f fd ["turn","pieces"] (spF K 2 GP.changes_on.f) :=
 jD (k:=3) (F:=GP.changes_on.f) (g:=GP.changes_on.g) Fn sc_changes_on (fun cdv A outer s H E hr=>body_changes_on T C_parts_in C_runs_of cdv A outer s H E hr) (fun ds r hl e=>qD e)
theorem sc_wheel_of:FnScope ["turn","pieces","least"] ["turn","pieces"] (zC (top 35)):=⟨rfl,rfl,rfl,by decide +kernel,rfl,by decide +kernel,by decide +kernel⟩
theorem body_wheel_of {f:Addr} (T:Glb K mg) (C_times_on:Cal P w K mg base "times_on" 3 2 GP.times_on.f) (C_parts_in:Cal P w K mg base "parts_in" 3 2 GP.parts_in.f) (C_changes_on:Cal P w K mg base "changes_on" 4 2 GP.changes_on.f) (cdv:Value) (A:Around) (outer:List Env) (s:Shared) (H:Hp) (E:XK) (hr:Room 4 (A.deeper (envOfC "wheel_of" (zC (top 35)) s.heap.objs.size f cdv))) :
  PSsv (cxOf CX0 P w K mg base ["turn","pieces","least"] "wheel_of" (zC (top 35)) f cdv A outer s H E).nox (zJ (top 35)) GP.wheel_of.g:=by
 have nd:(["turn","pieces","least"]:List Str).Nodup:=sc_wheel_of.nd
 exact (zH (qJ (pt_lt (zB 0) (PV.w zG)) (zI yM) zR)
  (zH (zQ (i:=2) nd (jB (zB 0) (PV.w (zM C_times_on hr (zA (PVw.n (zB 0)) (zA (PV.n (zM C_changes_on hr (zA (PVw.n (zB 0)) (zA (PVw.n (zB 1)) zK)))) zK))))))
  (zI (psv_retE (pve_tup (xR (PVd.e (PV.d (zU 2))) (xR (PVd.e (PVf.d (yZ C_parts_in hr (zA (PVw.n (zB 1)) (zA (PV.n (qQ (zE zG (zE (zU 2) zP)))) zK))))) pae_nil)))))))
theorem fok_wheel_of {f:Addr} {fd:FuncData} (Fn:Fun K "wheel_of" "wheel_of" (top 35) f fd) (T:Glb K mg) (C_times_on:Cal P w K mg base "times_on" 3 2 GP.times_on.f) (C_parts_in:Cal P w K mg base "parts_in" 3 2 GP.parts_in.f) (C_changes_on:Cal P w K mg base "changes_on" 4 2 GP.changes_on.f):FnOk P w K mg base CX0 5 f fd ["turn","pieces"] (spF K 2 GP.wheel_of.f) :=
 jD (k:=4) (F:=GP.wheel_of.f) (g:=GP.wheel_of.g) Fn sc_wheel_of (fun cdv A outer s H E hr=>body_wheel_of T C_times_on C_parts_in C_changes_on cdv A outer s H E hr) (fun ds r hl e=>qD e)
theorem body_wheel_of_4 {f XC:Addr} (T:Glb K mg) (C_times_on:Cal P w K mg base "times_on" 3 2 GP.times_on.f) (C_parts_in:Cal P w K mg base "parts_in" 3 2 GP.parts_in.f) (C_changes_on:Cal P w K mg base "changes_on" 4 2 GP.changes_on.f) (R:XR K mg 4 XC) (cdv:Value) (A:Around) (outer:List Env) (s:Shared) (H:Hp) (E:XK) (hr:Room 4 (A.deeper (envOfC "wheel_of" (zC (top 35)) s.heap.objs.size f cdv))) :
  PSsy (cxOf (CXM P w) P w K mg base ["turn","pieces","least"] "wheel_of" (zC (top 35)) f cdv A outer s H E) E XC (zJ (top 35)) K86.X_wheel_of_4.x:=by
 have nd:(["turn","pieces","least"]:List Str).Nodup:=sc_wheel_of.nd
 exact (qL (xW (pt_lt (zB 0) (PV.w zG)) (qL (PSx.y (xH R.cls R.gl))
  qM) (jN qM))
  qM)
theorem fokx_wheel_of_4 {f XC:Addr} {fd:FuncData} (Fn:Fun K "wheel_of" "wheel_of" (top 35) f fd) (T:Glb K mg) (C_times_on:Cal P w K mg base "times_on" 3 2 GP.times_on.f) (C_parts_in:Cal P w K mg base "parts_in" 3 2 GP.parts_in.f) (C_changes_on:Cal P w K mg base "changes_on" 4 2 GP.changes_on.f) (R:XR K mg 4 XC):FnOk P w K mg base (CXM P w) 5 f fd ["turn","pieces"] (spX K 2 K86.X_wheel_of_4.f XC) :=
 xD (k:=4) (g:=K86.X_wheel_of_4.x) Fn sc_wheel_of (fun cdv A outer s H E hr=>body_wheel_of_4 T C_times_on C_parts_in C_changes_on R cdv A outer s H E hr) (fun ds hl e=>e)
theorem sc_least_multiple:FnScope ["one","other","divisor","rest","more"] ["one","other"] (zC (top 47)):=⟨rfl,rfl,rfl,by decide +kernel,rfl,by decide +kernel,by decide +kernel⟩
theorem body_least_multiple {f:Addr} (T:Glb K mg)  (cdv:Value) (A:Around) (outer:List Env) (s:Shared) (H:Hp) (E:XK) (hr:Room 0 (A.deeper (envOfC "least_multiple" (zC (top 47)) s.heap.objs.size f cdv))) :
  PSsv (cxOf CX0 P w K mg base ["one","other","divisor","rest","more"] "least_multiple" (zC (top 47)) f cdv A outer s H E).nox (zJ (top 47)) GP.least_multiple.g:=by
 have nd:(["one","other","divisor","rest","more"]:List Str).Nodup:=sc_least_multiple.nd
 exact (zH (zQ (i:=2) nd (zU 0))
  (zH (zQ (i:=3) nd (zU 1))
  (zH (psv_while 100000 PassesOwn.never (pt_gt (zB 3) (PV.w zG)) (zH (zQ (i:=4) nd (jO (zB 2) (zB 3)))
  (zH (zQ (i:=2) nd (zU 3))
  (zI (zQ (i:=3) nd (zU 4))))))
  (zI (qK (PV.w (jA (PV.w (jB (zB 0) (zB 2))) (zB 1))))))))
theorem fok_least_multiple {f:Addr} {fd:FuncData} (Fn:Fun K "least_multiple" "least_multiple" (top 47) f fd) (T:Glb K mg)  : FnOk P w K mg base CX0 1 f fd ["one","other"] (spF K 2 GP.least_multiple.f) :=
 jD (k:=0) (F:=GP.least_multiple.f) (g:=GP.least_multiple.g) Fn sc_least_multiple (fun cdv A outer s H E hr=>body_least_multiple T  cdv A outer s H E hr) (fun ds r hl e=>qD e)
theorem sc_size_of:FnScope ["wheel","turns"] ["wheel","turns"] (zC (top 45)):=⟨rfl,rfl,rfl,by decide +kernel,rfl,by decide +kernel,by decide +kernel⟩
theorem body_size_of {f:Addr} (T:Glb K mg)  (cdv:Value) (A:Around) (outer:List Env) (s:Shared) (H:Hp) (E:XK) (hr:Room 0 (A.deeper (envOfC "size_of" (zC (top 45)) s.heap.objs.size f cdv))) :
  PSsv (cxOf CX0 P w K mg base ["wheel","turns"] "size_of" (zC (top 45)) f cdv A outer s H E).nox (zJ (top 45)) GP.size_of.g:=by
 have nd:(["wheel","turns"]:List Str).Nodup:=sc_size_of.nd
 exact (zI (qK (PV.w (pv_if (yI hr (PV.n (qH (zB 0) (PV.w zG))) (PV.n zG)) zG (jA (zB 1) (PV.w (qU (PV.w (vE T.b_len (jI (PV.w (qH (zB 0) (PV.w zG))) yN))) (PV.w zG))))))))
theorem fok_size_of {f:Addr} {fd:FuncData} (Fn:Fun K "size_of" "size_of" (top 45) f fd) (T:Glb K mg)  : FnOk P w K mg base CX0 1 f fd ["wheel","turns"] (spF K 2 GP.size_of.f) :=
 jD (k:=0) (F:=GP.size_of.f) (g:=GP.size_of.g) Fn sc_size_of (fun cdv A outer s H E hr=>body_size_of T  cdv A outer s H E hr) (fun ds r hl e=>qD e)
theorem sc_rolled_out:FnScope ["wheel","over","turn","rows","number"] ["wheel","over"] (zC (top 46)):=⟨rfl,rfl,rfl,by decide +kernel,rfl,by decide +kernel,by decide +kernel⟩
theorem body_rolled_out {f:Addr} (T:Glb K mg) (C_parts_in:Cal P w K mg base "parts_in" 3 2 GP.parts_in.f) (C_knit:Cal P w K mg base "knit" 1 1 GP.knit.f) (C_shifted:Cal P w K mg base "shifted" 2 2 GP.shifted.f) (cdv:Value) (A:Around) (outer:List Env) (s:Shared) (H:Hp) (E:XK) (hr:Room 3 (A.deeper (envOfC "rolled_out" (zC (top 46)) s.heap.objs.size f cdv))) :
  PSsv (cxOf CX0 P w K mg base ["wheel","over","turn","rows","number"] "rolled_out" (zC (top 46)) f cdv A outer s H E).nox (zJ (top 46)) GP.rolled_out.g:=by
 have nd:(["wheel","over","turn","rows","number"]:List Str).Nodup:=sc_rolled_out.nd
 have nI0:(["low","behind","value","over"]:List Str).Nodup:=by decide +kernel
 exact (zH (zQ (i:=2) nd (qH (zB 0) (PV.w zG)))
  (zH (qJ (yI hr (PVw.n (zB 2)) (PV.n zG)) (zI (yE (wH (NY:=["low","behind","value","over"]) (mp:=[none,none,none,some 1]) (yC (by kernel_rfl)) rfl (yP (qH (zB 0) (PV.w zG))) (fun c=>(yW (n:=3) rfl (zY (zZ (i:=0) nI0) (zY (zZ (i:=1) nI0) (zY (zZ (i:=2) nI0) yH))))) (fun c=>wB) (fun c=>(qQ (zE (qH (zB 3) (PV.w zG)) (zE (qH (zB 3) (PV.w zG)) (zE (zU 2) zP)))))))) zR)
  (zH (yR (i:=3) nd (qV zP))
  (zH (xA PassesOwn.never rfl (piv_rangeL T.b_range (PV.w (jB (PV.w (qH (zB 1) (PV.w zG))) (zB 2))) (PV.w (qU (PV.w (jB (PV.w (yV (PV.w (qH (zB 1) (PV.w zG))) (PV.w zG))) (zB 2))) (PV.w zG)))) (zZ (i:=4) nd) (zI (psv_ext (i:=3) (yZ C_shifted hr (zA (PV.n (qH (zB 0) (PV.w zG))) (zA (PV.n (jA (zB 4) (zB 2))) zK))))))
  (zI (yE (yZ C_parts_in hr (zA (PV.n (zM C_knit hr (zA (PVw.n (zB 3)) zK))) (zA (PVw.n (zB 1)) zK)))))))))
theorem fok_rolled_out {f:Addr} {fd:FuncData} (Fn:Fun K "rolled_out" "rolled_out" (top 46) f fd) (T:Glb K mg) (C_parts_in:Cal P w K mg base "parts_in" 3 2 GP.parts_in.f) (C_knit:Cal P w K mg base "knit" 1 1 GP.knit.f) (C_shifted:Cal P w K mg base "shifted" 2 2 GP.shifted.f):FnOk P w K mg base CX0 4 f fd ["wheel","over"] (spF K 2 GP.rolled_out.f) :=
 jD (k:=3) (F:=GP.rolled_out.f) (g:=GP.rolled_out.g) Fn sc_rolled_out (fun cdv A outer s H E hr=>body_rolled_out T C_parts_in C_knit C_shifted cdv A outer s H E hr) (fun ds r hl e=>qD e)
theorem sc_wheel_joined:FnScope ["one","other","way","most","over"] ["one","other","way"] (zC (top 42)):=⟨rfl,rfl,rfl,by decide +kernel,rfl,by decide +kernel,by decide +kernel⟩
theorem body_wheel_joined {f:Addr} (T:Glb K mg) (C_least_multiple:Cal P w K mg base "least_multiple" 1 2 GP.least_multiple.f) (C_wheel_of:Cal P w K mg base "wheel_of" 5 2 GP.wheel_of.f) (C_joined:Cal P w K mg base "joined" 3 3 (GP.joined.f K86.Phi)) (C_size_of:Cal P w K mg base "size_of" 1 2 GP.size_of.f) (C_rolled_out:Cal P w K mg base "rolled_out" 4 2 GP.rolled_out.f) (cdv:Value) (A:Around) (outer:List Env) (s:Shared) (H:Hp) (E:XK) (hr:Room 5 (A.deeper (envOfC "wheel_joined" (zC (top 42)) s.heap.objs.size f cdv))) :
  PSsv (cxOf CX0 P w K mg base ["one","other","way","most","over"] "wheel_joined" (zC (top 42)) f cdv A outer s H E).nox (zJ (top 42)) (GP.wheel_joined.g K86.Phi):=by
 have nd:(["one","other","way","most","over"]:List Str).Nodup:=sc_wheel_joined.nd
 exact (zH (zQ (i:=3) nd (zM C_least_multiple hr (zA (PV.n (qH (zB 0) (PV.w zG))) (zA (PV.n (qH (zB 1) (PV.w zG))) zK))))
  (zH (qJ (pt_gt (PV.w (qU (PV.w (zM C_size_of hr (zA (PVw.n (zB 0)) (zA (PV.n (jB (zB 3) (PV.w (qH (zB 0) (PV.w zG))))) zK)))) (PV.w (zM C_size_of hr (zA (PVw.n (zB 1)) (zA (PV.n (jB (zB 3) (PV.w (qH (zB 1) (PV.w zG))))) zK)))))) (PV.w (wN T.c_MOST_SIZE))) (zI yM) zR)
  (zH (zQ (i:=4) nd (qQ (zE zG (zE (zU 3) zP))))
  (zI (psv_retD (pvd_callC C_wheel_of hr (zA (PVw.n (zB 3)) (zA (PV.n (zM C_joined hr (zA (PV.n (zM C_rolled_out hr (zA (PVw.n (zB 0)) (zA (PVw.n (zB 4)) zK)))) (zA (PV.n (zM C_rolled_out hr (zA (PVw.n (zB 1)) (zA (PVw.n (zB 4)) zK)))) (zA (PVw.n (zB 2)) zK))))) zK))))))))
theorem fok_wheel_joined {f:Addr} {fd:FuncData} (Fn:Fun K "wheel_joined" "wheel_joined" (top 42) f fd) (T:Glb K mg) (C_least_multiple:Cal P w K mg base "least_multiple" 1 2 GP.least_multiple.f) (C_wheel_of:Cal P w K mg base "wheel_of" 5 2 GP.wheel_of.f) (C_joined:Cal P w K mg base "joined" 3 3 (GP.joined.f K86.Phi)) (C_size_of:Cal P w K mg base "size_of" 1 2 GP.size_of.f) (C_rolled_out:Cal P w K mg base "rolled_out" 4 2 GP.rolled_out.f):FnOk P w K mg base CX0 6 f fd ["one","other","way"] (spF K 3 (GP.wheel_joined.f K86.Phi)) :=
 jD (k:=5) (F:=(GP.wheel_joined.f K86.Phi)) (g:=(GP.wheel_joined.g K86.Phi)) Fn sc_wheel_joined (fun cdv A outer s H E hr=>body_wheel_joined T C_least_multiple C_wheel_of C_joined C_size_of C_rolled_out cdv A outer s H E hr) (fun ds r hl e=>qD e)
theorem body_wheel_joined_4 {f XC:Addr} (T:Glb K mg) (C_least_multiple:Cal P w K mg base "least_multiple" 1 2 GP.least_multiple.f) (C_wheel_of:Cal P w K mg base "wheel_of" 5 2 GP.wheel_of.f) (C_joined:Cal P w K mg base "joined" 3 3 (GP.joined.f K86.Phi)) (C_size_of:Cal P w K mg base "size_of" 1 2 GP.size_of.f) (C_rolled_out:Cal P w K mg base "rolled_out" 4 2 GP.rolled_out.f) (CX_wheel_of_4:CalX P w K mg base "wheel_of" 5 2 K86.X_wheel_of_4.f XC) (cdv:Value) (A:Around) (outer:List Env) (s:Shared) (H:Hp) (E:XK) (hr:Room 5 (A.deeper (envOfC "wheel_joined" (zC (top 42)) s.heap.objs.size f cdv))) :
  PSsy (cxOf (CXM P w) P w K mg base ["one","other","way","most","over"] "wheel_joined" (zC (top 42)) f cdv A outer s H E) E XC (zJ (top 42)) K86.X_wheel_joined_4.x:=by
 have nd:(["one","other","way","most","over"]:List Str).Nodup:=sc_wheel_joined.nd
 exact (jU (zQ (i:=3) nd (zM C_least_multiple hr (zA (PV.n (qH (zB 0) (PV.w zG))) (zA (PV.n (qH (zB 1) (PV.w zG))) zK))))
  (jU (qJ (pt_gt (PV.w (qU (PV.w (zM C_size_of hr (zA (PVw.n (zB 0)) (zA (PV.n (jB (zB 3) (PV.w (qH (zB 0) (PV.w zG))))) zK)))) (PV.w (zM C_size_of hr (zA (PVw.n (zB 1)) (zA (PV.n (jB (zB 3) (PV.w (qH (zB 1) (PV.w zG))))) zK)))))) (PV.w (wN T.c_MOST_SIZE))) (zI yM) zR)
  (jU (zQ (i:=4) nd (qQ (zE zG (zE (zU 3) zP))))
  (qL (xJ (yL xB CX_wheel_of_4 hr (zA (PVw.n (zB 3)) (zA (PV.n (zM C_joined hr (zA (PV.n (zM C_rolled_out hr (zA (PVw.n (zB 0)) (zA (PVw.n (zB 4)) zK)))) (zA (PV.n (zM C_rolled_out hr (zA (PVw.n (zB 1)) (zA (PVw.n (zB 4)) zK)))) (zA (PVw.n (zB 2)) zK))))) zK))))
  qM))))
theorem fokx_wheel_joined_4 {f XC:Addr} {fd:FuncData} (Fn:Fun K "wheel_joined" "wheel_joined" (top 42) f fd) (T:Glb K mg) (C_least_multiple:Cal P w K mg base "least_multiple" 1 2 GP.least_multiple.f) (C_wheel_of:Cal P w K mg base "wheel_of" 5 2 GP.wheel_of.f) (C_joined:Cal P w K mg base "joined" 3 3 (GP.joined.f K86.Phi)) (C_size_of:Cal P w K mg base "size_of" 1 2 GP.size_of.f) (C_rolled_out:Cal P w K mg base "rolled_out" 4 2 GP.rolled_out.f) (CX_wheel_of_4:CalX P w K mg base "wheel_of" 5 2 K86.X_wheel_of_4.f XC):FnOk P w K mg base (CXM P w) 6 f fd ["one","other","way"] (spX K 3 K86.X_wheel_joined_4.f XC) :=
 xD (k:=5) (g:=K86.X_wheel_joined_4.x) Fn sc_wheel_joined (fun cdv A outer s H E hr=>body_wheel_joined_4 T C_least_multiple C_wheel_of C_joined C_size_of C_rolled_out CX_wheel_of_4 cdv A outer s H E hr) (fun ds hl e=>e)
theorem body_wheel_joined_10 {f XC:Addr} (T:Glb K mg) (C_least_multiple:Cal P w K mg base "least_multiple" 1 2 GP.least_multiple.f) (C_wheel_of:Cal P w K mg base "wheel_of" 5 2 GP.wheel_of.f) (C_joined:Cal P w K mg base "joined" 3 3 (GP.joined.f K86.Phi)) (C_size_of:Cal P w K mg base "size_of" 1 2 GP.size_of.f) (C_rolled_out:Cal P w K mg base "rolled_out" 4 2 GP.rolled_out.f) (R:XR K mg 10 XC) (cdv:Value) (A:Around) (outer:List Env) (s:Shared) (H:Hp) (E:XK) (hr:Room 5 (A.deeper (envOfC "wheel_joined" (zC (top 42)) s.heap.objs.size f cdv))) :
  PSsy (cxOf (CXM P w) P w K mg base ["one","other","way","most","over"] "wheel_joined" (zC (top 42)) f cdv A outer s H E) E XC (zJ (top 42)) K86.X_wheel_joined_10.x:=by
 have nd:(["one","other","way","most","over"]:List Str).Nodup:=sc_wheel_joined.nd
 exact (jU (zQ (i:=3) nd (zM C_least_multiple hr (zA (PV.n (qH (zB 0) (PV.w zG))) (zA (PV.n (qH (zB 1) (PV.w zG))) zK))))
  (qL (xW (pt_gt (PV.w (qU (PV.w (zM C_size_of hr (zA (PVw.n (zB 0)) (zA (PV.n (jB (zB 3) (PV.w (qH (zB 0) (PV.w zG))))) zK)))) (PV.w (zM C_size_of hr (zA (PVw.n (zB 1)) (zA (PV.n (jB (zB 3) (PV.w (qH (zB 1) (PV.w zG))))) zK)))))) (PV.w (wN T.c_MOST_SIZE))) (qL (PSx.y (xH R.cls R.gl))
  qM) (jN qM))
  qM))
theorem fokx_wheel_joined_10 {f XC:Addr} {fd:FuncData} (Fn:Fun K "wheel_joined" "wheel_joined" (top 42) f fd) (T:Glb K mg) (C_least_multiple:Cal P w K mg base "least_multiple" 1 2 GP.least_multiple.f) (C_wheel_of:Cal P w K mg base "wheel_of" 5 2 GP.wheel_of.f) (C_joined:Cal P w K mg base "joined" 3 3 (GP.joined.f K86.Phi)) (C_size_of:Cal P w K mg base "size_of" 1 2 GP.size_of.f) (C_rolled_out:Cal P w K mg base "rolled_out" 4 2 GP.rolled_out.f) (R:XR K mg 10 XC):FnOk P w K mg base (CXM P w) 6 f fd ["one","other","way"] (spX K 3 K86.X_wheel_joined_10.f XC) :=
 xD (k:=5) (g:=K86.X_wheel_joined_10.x) Fn sc_wheel_joined (fun cdv A outer s H E hr=>body_wheel_joined_10 T C_least_multiple C_wheel_of C_joined C_size_of C_rolled_out R cdv A outer s H E hr) (fun ds hl e=>e)
theorem sc_wheel_cut:FnScope ["wheel","span","turns"] ["wheel","span"] (zC (top 43)):=⟨rfl,rfl,rfl,by decide +kernel,rfl,by decide +kernel,by decide +kernel⟩
theorem body_wheel_cut {f:Addr} (T:Glb K mg) (C_rolled_out:Cal P w K mg base "rolled_out" 4 2 GP.rolled_out.f) (C_length:Cal P w K mg base "length" 1 1 GP.length.f) (C_size_of:Cal P w K mg base "size_of" 1 2 GP.size_of.f) (cdv:Value) (A:Around) (outer:List Env) (s:Shared) (H:Hp) (E:XK) (hr:Room 4 (A.deeper (envOfC "wheel_cut" (zC (top 43)) s.heap.objs.size f cdv))) :
  PSsv (cxOf CX0 P w K mg base ["wheel","span","turns"] "wheel_cut" (zC (top 43)) f cdv A outer s H E).nox (zJ (top 43)) GP.wheel_cut.g:=by
 have nd:(["wheel","span","turns"]:List Str).Nodup:=sc_wheel_cut.nd
 exact (zH (qJ (xY (PV.n (zM C_length hr (zA (PVw.n (zB 1)) zK))) (PV.n qN)) (zI yM) zR)
  (zH (zQ (i:=2) nd (qU (PV.w (yV (PV.w (jB (PV.w (yV (PV.w (qH (zB 1) (PV.w zG))) (PV.w zG))) (PV.w (qH (zB 0) (PV.w zG))))) (PV.w (jB (PV.w (qH (zB 1) (PV.w zG))) (PV.w (qH (zB 0) (PV.w zG))))))) (PV.w zG)))
  (zH (qJ (pt_gt (PV.w (zM C_size_of hr (zA (PVw.n (zB 0)) (zA (PVw.n (zB 2)) zK)))) (PV.w (wN T.c_MOST_SIZE))) (zI yM) zR)
  (zI (yE (yZ C_rolled_out hr (zA (PVw.n (zB 0)) (zA (PVw.n (zB 1)) zK))))))))
theorem fok_wheel_cut {f:Addr} {fd:FuncData} (Fn:Fun K "wheel_cut" "wheel_cut" (top 43) f fd) (T:Glb K mg) (C_rolled_out:Cal P w K mg base "rolled_out" 4 2 GP.rolled_out.f) (C_length:Cal P w K mg base "length" 1 1 GP.length.f) (C_size_of:Cal P w K mg base "size_of" 1 2 GP.size_of.f):FnOk P w K mg base CX0 5 f fd ["wheel","span"] (spF K 2 GP.wheel_cut.f) :=
 jD (k:=4) (F:=GP.wheel_cut.f) (g:=GP.wheel_cut.g) Fn sc_wheel_cut (fun cdv A outer s H E hr=>body_wheel_cut T C_rolled_out C_length C_size_of cdv A outer s H E hr) (fun ds r hl e=>qD e)
theorem body_wheel_cut_2 {f XC:Addr} (T:Glb K mg) (C_rolled_out:Cal P w K mg base "rolled_out" 4 2 GP.rolled_out.f) (C_length:Cal P w K mg base "length" 1 1 GP.length.f) (C_size_of:Cal P w K mg base "size_of" 1 2 GP.size_of.f) (R:XR K mg 2 XC) (cdv:Value) (A:Around) (outer:List Env) (s:Shared) (H:Hp) (E:XK) (hr:Room 4 (A.deeper (envOfC "wheel_cut" (zC (top 43)) s.heap.objs.size f cdv))) :
  PSsy (cxOf (CXM P w) P w K mg base ["wheel","span","turns"] "wheel_cut" (zC (top 43)) f cdv A outer s H E) E XC (zJ (top 43)) K86.X_wheel_cut_2.x:=by
 have nd:(["wheel","span","turns"]:List Str).Nodup:=sc_wheel_cut.nd
 exact (qL (xW (xY (PV.n (zM C_length hr (zA (PVw.n (zB 1)) zK))) (PV.n qN)) (qL (PSx.y (xH R.cls R.gl))
  qM) (jN qM))
  qM)
theorem fokx_wheel_cut_2 {f XC:Addr} {fd:FuncData} (Fn:Fun K "wheel_cut" "wheel_cut" (top 43) f fd) (T:Glb K mg) (C_rolled_out:Cal P w K mg base "rolled_out" 4 2 GP.rolled_out.f) (C_length:Cal P w K mg base "length" 1 1 GP.length.f) (C_size_of:Cal P w K mg base "size_of" 1 2 GP.size_of.f) (R:XR K mg 2 XC):FnOk P w K mg base (CXM P w) 5 f fd ["wheel","span"] (spX K 2 K86.X_wheel_cut_2.f XC) :=
 xD (k:=4) (g:=K86.X_wheel_cut_2.x) Fn sc_wheel_cut (fun cdv A outer s H E hr=>body_wheel_cut_2 T C_rolled_out C_length C_size_of R cdv A outer s H E hr) (fun ds hl e=>e)
theorem body_wheel_cut_10 {f XC:Addr} (T:Glb K mg) (C_rolled_out:Cal P w K mg base "rolled_out" 4 2 GP.rolled_out.f) (C_length:Cal P w K mg base "length" 1 1 GP.length.f) (C_size_of:Cal P w K mg base "size_of" 1 2 GP.size_of.f) (R:XR K mg 10 XC) (cdv:Value) (A:Around) (outer:List Env) (s:Shared) (H:Hp) (E:XK) (hr:Room 4 (A.deeper (envOfC "wheel_cut" (zC (top 43)) s.heap.objs.size f cdv))) :
  PSsy (cxOf (CXM P w) P w K mg base ["wheel","span","turns"] "wheel_cut" (zC (top 43)) f cdv A outer s H E) E XC (zJ (top 43)) K86.X_wheel_cut_10.x:=by
 have nd:(["wheel","span","turns"]:List Str).Nodup:=sc_wheel_cut.nd
 exact (jU (qJ (xY (PV.n (zM C_length hr (zA (PVw.n (zB 1)) zK))) (PV.n qN)) (zI yM) zR)
  (jU (zQ (i:=2) nd (qU (PV.w (yV (PV.w (jB (PV.w (yV (PV.w (qH (zB 1) (PV.w zG))) (PV.w zG))) (PV.w (qH (zB 0) (PV.w zG))))) (PV.w (jB (PV.w (qH (zB 1) (PV.w zG))) (PV.w (qH (zB 0) (PV.w zG))))))) (PV.w zG)))
  (qL (xW (pt_gt (PV.w (zM C_size_of hr (zA (PVw.n (zB 0)) (zA (PVw.n (zB 2)) zK)))) (PV.w (wN T.c_MOST_SIZE))) (qL (PSx.y (xH R.cls R.gl))
  qM) (jN qM))
  qM)))
theorem fokx_wheel_cut_10 {f XC:Addr} {fd:FuncData} (Fn:Fun K "wheel_cut" "wheel_cut" (top 43) f fd) (T:Glb K mg) (C_rolled_out:Cal P w K mg base "rolled_out" 4 2 GP.rolled_out.f) (C_length:Cal P w K mg base "length" 1 1 GP.length.f) (C_size_of:Cal P w K mg base "size_of" 1 2 GP.size_of.f) (R:XR K mg 10 XC):FnOk P w K mg base (CXM P w) 5 f fd ["wheel","span"] (spX K 2 K86.X_wheel_cut_10.f XC) :=
 xD (k:=4) (g:=K86.X_wheel_cut_10.x) Fn sc_wheel_cut (fun cdv A outer s H E hr=>body_wheel_cut_10 T C_rolled_out C_length C_size_of R cdv A outer s H E hr) (fun ds hl e=>e)
theorem sc_wheel_run:FnScope ["wheel","start","many","test","held","over"] ["wheel","start","many","test"] (zC (top 44)):=⟨rfl,rfl,rfl,by decide +kernel,rfl,by decide +kernel,by decide +kernel⟩
theorem body_wheel_run {f:Addr} (T:Glb K mg) (C_wheel_of:Cal P w K mg base "wheel_of" 5 2 GP.wheel_of.f) (C_holding:Cal P w K mg base "holding" 4 2 (GP.holding.f K86.Phi)) (C_first_run:Cal P w K mg base "first_run" 5 4 (GP.first_run.f K86.Phi)) (C_rolled_out:Cal P w K mg base "rolled_out" 4 2 GP.rolled_out.f) {mc mp:Addr} (M:Mkr K "wheel_run" 9 (top 44) f mc mp) (A:Around) (outer:List Env) (s:Shared) (H:Hp) (E:XK) (hr:Room 5 (A.deeper (envOfC "wheel_run" (zC (top 44)) s.heap.objs.size f (.ref mc)))) :
  PSsv (cxOf CX0 P w K mg base ["wheel","start","many","test","held","over"] "wheel_run" (zC (top 44)) f (.ref mc) A outer s H E).nox (zJ (top 44)) (GP.wheel_run.g K86.Phi):=by
 have nd:(["wheel","start","many","test","held","over"]:List Str).Nodup:=sc_wheel_run.nd
 exact (zH (zQ (i:=4) nd (zM C_wheel_of hr (zA (PV.n (qH (zB 0) (PV.w zG))) (zA (PV.n (zM C_holding hr (zA (PV.n (qH (zB 0) (PV.w zG))) (zA (PVw.n (zB 3)) zK)))) zK))))
  (zH (zQ (i:=5) nd (pv_if (yI hr (PV.n (qH (zB 4) (PV.w zG))) (PV.n zG)) (qQ (zE (zU 1) (zE qN zP))) (qQ (zE (zU 1) (zE (qU (zB 1) (PV.w (jA (PV.w zG) (PV.w (qH (zB 4) (PV.w zG)))))) zP)))))
  (zI (qK (PV.w (qH (PV.w (pv_callL (t:=laT "wheel_run" (exA 3 (exA 0 (stE (stN 2 (zJ (top 44))))))) (j:=0) (is:=[]) C_first_run hr M (vB (PV.n (zM C_rolled_out hr (zA (PVw.n (zB 4)) (zA (PVw.n (zB 5)) zK)))) (vB (PVw.n (zB 1)) (vB (PVw.n (zB 2)) (pal_lamM (is:=[]) M (by kernel_rfl))))) (by kernel_rfl) (by kernel_rfl))) (PV.w zG)))))))
theorem fok_wheel_run {f:Addr} {fd:FuncData} (Fn:Fun K "wheel_run" "wheel_run" (top 44) f fd) (T:Glb K mg) (C_wheel_of:Cal P w K mg base "wheel_of" 5 2 GP.wheel_of.f) (C_holding:Cal P w K mg base "holding" 4 2 (GP.holding.f K86.Phi)) (C_first_run:Cal P w K mg base "first_run" 5 4 (GP.first_run.f K86.Phi)) (C_rolled_out:Cal P w K mg base "rolled_out" 4 2 GP.rolled_out.f) {mc mp:Addr} (M:Mkr K "wheel_run" 9 (top 44) f mc mp):FnOk P w K mg base CX0 6 f fd ["wheel","start","many","test"] (spF K 4 (GP.wheel_run.f K86.Phi)) :=
 fun_okM (k:=5) (F:=(GP.wheel_run.f K86.Phi)) (g:=(GP.wheel_run.g K86.Phi)) Fn sc_wheel_run M (fun A outer s H E hr=>body_wheel_run T C_wheel_of C_holding C_first_run C_rolled_out M A outer s H E hr) (fun ds r hl e=>qD e)
theorem body_wheel_run_4 {f XC:Addr} (T:Glb K mg) (C_wheel_of:Cal P w K mg base "wheel_of" 5 2 GP.wheel_of.f) (C_holding:Cal P w K mg base "holding" 4 2 (GP.holding.f K86.Phi)) (C_first_run:Cal P w K mg base "first_run" 5 4 (GP.first_run.f K86.Phi)) (C_rolled_out:Cal P w K mg base "rolled_out" 4 2 GP.rolled_out.f) {mc mp:Addr} (M:Mkr K "wheel_run" 9 (top 44) f mc mp) (CX_wheel_of_4:CalX P w K mg base "wheel_of" 5 2 K86.X_wheel_of_4.f XC) (CX_first_run_4:CalX P w K mg base "first_run" 5 4 K86.X_first_run_4.f XC) (A:Around) (outer:List Env) (s:Shared) (H:Hp) (E:XK) (hr:Room 5 (A.deeper (envOfC "wheel_run" (zC (top 44)) s.heap.objs.size f (.ref mc)))) :
  PSsy (cxOf (CXM P w) P w K mg base ["wheel","start","many","test","held","over"] "wheel_run" (zC (top 44)) f (.ref mc) A outer s H E) E XC (zJ (top 44)) K86.X_wheel_run_4.x:=by
 have nd:(["wheel","start","many","test","held","over"]:List Str).Nodup:=sc_wheel_run.nd
 exact (wK (psy_set (i:=4) nd (yL xB CX_wheel_of_4 hr (zA (PV.n (qH (zB 0) (PV.w zG))) (zA (PV.n (zM C_holding hr (zA (PV.n (qH (zB 0) (PV.w zG))) (zA (PVw.n (zB 3)) zK)))) zK))))
  (zQ (i:=4) nd (zM C_wheel_of hr (zA (PV.n (qH (zB 0) (PV.w zG))) (zA (PV.n (zM C_holding hr (zA (PV.n (qH (zB 0) (PV.w zG))) (zA (PVw.n (zB 3)) zK)))) zK))))
  (jU (zQ (i:=5) nd (pv_if (yI hr (PV.n (qH (zB 4) (PV.w zG))) (PV.n zG)) (qQ (zE (zU 1) (zE qN zP))) (qQ (zE (zU 1) (zE (qU (zB 1) (PV.w (jA (PV.w zG) (PV.w (qH (zB 4) (PV.w zG)))))) zP)))))
  (qL (xJ (pey_ix (yL xB CX_first_run_4 hr (zA (PV.n (zM C_rolled_out hr (zA (PVw.n (zB 4)) (zA (PVw.n (zB 5)) zK)))) (zA (PVw.n (zB 1)) (zA (PVw.n (zB 2)) (zA (PV.n (pv_lam0 (j:=0) M (by kernel_rfl) (by kernel_rfl))) zK))))) (PV.w zG)))
  qM)))
theorem fokx_wheel_run_4 {f XC:Addr} {fd:FuncData} (Fn:Fun K "wheel_run" "wheel_run" (top 44) f fd) (T:Glb K mg) (C_wheel_of:Cal P w K mg base "wheel_of" 5 2 GP.wheel_of.f) (C_holding:Cal P w K mg base "holding" 4 2 (GP.holding.f K86.Phi)) (C_first_run:Cal P w K mg base "first_run" 5 4 (GP.first_run.f K86.Phi)) (C_rolled_out:Cal P w K mg base "rolled_out" 4 2 GP.rolled_out.f) {mc mp:Addr} (M:Mkr K "wheel_run" 9 (top 44) f mc mp) (CX_wheel_of_4:CalX P w K mg base "wheel_of" 5 2 K86.X_wheel_of_4.f XC) (CX_first_run_4:CalX P w K mg base "first_run" 5 4 K86.X_first_run_4.f XC):FnOk P w K mg base (CXM P w) 6 f fd ["wheel","start","many","test"] (spX K 4 K86.X_wheel_run_4.f XC) :=
 fun_okYM (k:=5) (g:=K86.X_wheel_run_4.x) Fn sc_wheel_run M (fun A outer s H E hr=>body_wheel_run_4 T C_wheel_of C_holding C_first_run C_rolled_out M CX_wheel_of_4 CX_first_run_4 A outer s H E hr) (fun ds hl e=>e)
theorem sc__law_nth:FnScope ["_law_script","_law_k","_law_cells"] ["_law_script","_law_k"] (zC (top 49)):=⟨rfl,rfl,rfl,by decide +kernel,rfl,by decide +kernel,by decide +kernel⟩
theorem body__law_nth {f:Addr} (T:Glb K mg)  (cdv:Value) (A:Around) (outer:List Env) (s:Shared) (H:Hp) (E:XK) (hr:Room 0 (A.deeper (envOfC "_law_nth" (zC (top 49)) s.heap.objs.size f cdv))) :
  PSsv (cxOf CX0 P w K mg base ["_law_script","_law_k","_law_cells"] "_law_nth" (zC (top 49)) f cdv A outer s H E).nox (zJ (top 49)) GL.nth.g:=by
 have nd:(["_law_script","_law_k","_law_cells"]:List Str).Nodup:=sc__law_nth.nd
 exact (zH (zQ (i:=2) nd (PVf.s (vK (PV.w (PVf.s (pvf_slice (zB 0) (pov_so (zB 1)) (pov_so (PV.w (qU (zB 1) (PV.w zG))))))) (PV.w (PVf.s (qV (zE zG zP)))))))
  (zI (qK (PV.w (qH (zB 2) (PV.w zG))))))
theorem fok__law_nth {f:Addr} {fd:FuncData} (Fn:Fun K "_law_nth" "_law_nth" (top 49) f fd) (T:Glb K mg)  : FnOk P w K mg base CX0 1 f fd ["_law_script","_law_k"] (spF K 2 GL.nth.f) :=
 jD (k:=0) (F:=GL.nth.f) (g:=GL.nth.g) Fn sc__law_nth (fun cdv A outer s H E hr=>body__law_nth T  cdv A outer s H E hr) (fun ds r hl e=>qD e)
theorem sc__law_classes:FnScope ["_law_e","_law_found"] ["_law_e"] (zC (top 51)):=⟨rfl,rfl,rfl,by decide +kernel,rfl,by decide +kernel,by decide +kernel⟩
theorem fokh__law_classes {f:Addr} {fd:FuncData} (Fn:Fun K "_law_classes" "_law_classes" (top 51) f fd) (T:Glb K mg):FnOkH P w K mg base 1 f fd ["_law_e"] (spH K K86.H__law_classes.h):=by
 have nd:(["_law_e","_law_found"]:List Str).Nodup:=sc__law_classes.nd
 exact fun_okH (k:=0) (g:=K86.H__law_classes.g) Fn sc__law_classes fun cdv A outer s H E=>(zH (zQ (i:=1) nd (PVf.s (qV (zE (xE (i:=0) T.b_isinstance T.isx_NoCount_2_4_10) (zE (xE (i:=0) T.b_isinstance T.isx_NoEnd_2_4_10) (zE (xE (i:=0) T.b_isinstance T.isx_TooMuch_2_4_10) (zE (xE (i:=0) T.b_isinstance T.isx_Empty_2_4_10) zP)))))))
  (zH (zQ (i:=1) nd (PVf.s (vK (zB 1) (PV.w (PVf.s (qV (zE (xE (i:=0) T.b_isinstance T.isx_Clash_2_4_10) (zE (xE (i:=0) T.b_isinstance T.isx_NoName_2_4_10) (zE (xE (i:=0) T.b_isinstance T.isx_NoMark_2_4_10) (zE (xE (i:=0) T.b_isinstance T.isx_NoDeed_2_4_10) zP))))))))))
  (zH (zQ (i:=1) nd (PVf.s (vK (zB 1) (PV.w (PVf.s (qV (zE (xE (i:=0) T.b_isinstance T.isx_NoRule_2_4_10) (zE (xE (i:=0) T.b_isinstance T.isx_NoShare_2_4_10) (zE (xE (i:=0) T.b_isinstance T.isx_NoText_2_4_10) (zE (xE (i:=0) T.b_isinstance T.isx_NoRow_2_4_10) zP))))))))))
  (zI (yE (vK (zB 1) (PV.w (PVf.s (qV (zE (pv_isxB (i:=0) T.b_isinstance T.b_ValueError T.isxB_ValueError_2_4_10) zP))))))))))
theorem sc__law_asked:FnScope ["_law_which","_law_one","_law_two","_law_three"] ["_law_which","_law_one","_law_two","_law_three"] (zC (top 54)):=⟨rfl,rfl,rfl,by decide +kernel,rfl,by decide +kernel,by decide +kernel⟩
theorem body__law_asked {f:Addr} (T:Glb K mg) (C_wheel_run:Cal P w K mg base "wheel_run" 6 4 (GP.wheel_run.f K86.Phi)) (C_wheel_of:Cal P w K mg base "wheel_of" 5 2 GP.wheel_of.f) (C_wheel_cut:Cal P w K mg base "wheel_cut" 5 2 GP.wheel_cut.f) (C_wheel_joined:Cal P w K mg base "wheel_joined" 6 3 (GP.wheel_joined.f K86.Phi)) (cdv:Value) (A:Around) (outer:List Env) (s:Shared) (H:Hp) (E:XK) (hr:Room 6 (A.deeper (envOfC "_law_asked" (zC (top 54)) s.heap.objs.size f cdv))) :
  PSsv (cxOf CX0 P w K mg base ["_law_which","_law_one","_law_two","_law_three"] "_law_asked" (zC (top 54)) f cdv A outer s H E).nox (zJ (top 54)) K86.L_asked.g:=by
 have nd:(["_law_which","_law_one","_law_two","_law_three"]:List Str).Nodup:=sc__law_asked.nd
 exact (zH (qJ (yI hr (PVw.n (zB 0)) (PV.n zG)) (zI (yG (zM C_wheel_of hr (zA (PVw.n (zB 1)) (zA (PVw.n (zB 2)) zK))))) zR)
  (zH (qJ (yI hr (PVw.n (zB 0)) (PV.n zG)) (zI (yG (zM C_wheel_cut hr (zA (PVw.n (zB 1)) (zA (PVw.n (zB 2)) zK))))) zR)
  (zH (qJ (yI hr (PVw.n (zB 0)) (PV.n zG)) (zI (yG (zM C_wheel_joined hr (zA (PVw.n (zB 1)) (zA (PVw.n (zB 2)) (zA (PV.n (pv_fn T.fv_7)) zK)))))) zR)
  (zI (yG (zM C_wheel_run hr (zA (PVw.n (zB 1)) (zA (PVw.n (zB 2)) (zA (PVw.n (zB 3)) (zA (PV.n (pv_fn T.fv_8)) zK))))))))))
theorem fok__law_asked {f:Addr} {fd:FuncData} (Fn:Fun K "_law_asked" "_law_asked" (top 54) f fd) (T:Glb K mg) (C_wheel_run:Cal P w K mg base "wheel_run" 6 4 (GP.wheel_run.f K86.Phi)) (C_wheel_of:Cal P w K mg base "wheel_of" 5 2 GP.wheel_of.f) (C_wheel_cut:Cal P w K mg base "wheel_cut" 5 2 GP.wheel_cut.f) (C_wheel_joined:Cal P w K mg base "wheel_joined" 6 3 (GP.wheel_joined.f K86.Phi)):FnOk P w K mg base CX0 7 f fd ["_law_which","_law_one","_law_two","_law_three"] (spA K 4 K86.L_asked.f) :=
 fun_okA (k:=6) (n:=4) (F:=K86.L_asked.f) (g:=K86.L_asked.g) Fn sc__law_asked (fun cdv A outer s H E hr=>body__law_asked T C_wheel_run C_wheel_of C_wheel_cut C_wheel_joined cdv A outer s H E hr) rfl (fun ds r hl e=>qD e)
theorem body__law_asked_2 {f XC:Addr} (T:Glb K mg) (C_wheel_run:Cal P w K mg base "wheel_run" 6 4 (GP.wheel_run.f K86.Phi)) (C_wheel_of:Cal P w K mg base "wheel_of" 5 2 GP.wheel_of.f) (C_wheel_cut:Cal P w K mg base "wheel_cut" 5 2 GP.wheel_cut.f) (C_wheel_joined:Cal P w K mg base "wheel_joined" 6 3 (GP.wheel_joined.f K86.Phi)) (CX_wheel_cut_2:CalX P w K mg base "wheel_cut" 5 2 K86.X_wheel_cut_2.f XC) (cdv:Value) (A:Around) (outer:List Env) (s:Shared) (H:Hp) (E:XK) (hr:Room 6 (A.deeper (envOfC "_law_asked" (zC (top 54)) s.heap.objs.size f cdv))) :
  PSsy (cxOf (CXM P w) P w K mg base ["_law_which","_law_one","_law_two","_law_three"] "_law_asked" (zC (top 54)) f cdv A outer s H E) E XC (zJ (top 54)) K86.X__law_asked_2.x:=by
 have nd:(["_law_which","_law_one","_law_two","_law_three"]:List Str).Nodup:=sc__law_asked.nd
 exact (jU (qJ (yI hr (PVw.n (zB 0)) (PV.n zG)) (zI (yG (zM C_wheel_of hr (zA (PVw.n (zB 1)) (zA (PVw.n (zB 2)) zK))))) zR)
  (qL (xW (yI hr (PVw.n (zB 0)) (PV.n zG)) (qL (xJ (yL xB CX_wheel_cut_2 hr (zA (PVw.n (zB 1)) (zA (PVw.n (zB 2)) zK))))
  qM) (jN qM))
  qM))
theorem fokx__law_asked_2 {f XC:Addr} {fd:FuncData} (Fn:Fun K "_law_asked" "_law_asked" (top 54) f fd) (T:Glb K mg) (C_wheel_run:Cal P w K mg base "wheel_run" 6 4 (GP.wheel_run.f K86.Phi)) (C_wheel_of:Cal P w K mg base "wheel_of" 5 2 GP.wheel_of.f) (C_wheel_cut:Cal P w K mg base "wheel_cut" 5 2 GP.wheel_cut.f) (C_wheel_joined:Cal P w K mg base "wheel_joined" 6 3 (GP.wheel_joined.f K86.Phi)) (CX_wheel_cut_2:CalX P w K mg base "wheel_cut" 5 2 K86.X_wheel_cut_2.f XC):FnOk P w K mg base (CXM P w) 7 f fd ["_law_which","_law_one","_law_two","_law_three"] (spX K 4 K86.X__law_asked_2.f XC) :=
 xD (k:=6) (g:=K86.X__law_asked_2.x) Fn sc__law_asked (fun cdv A outer s H E hr=>body__law_asked_2 T C_wheel_run C_wheel_of C_wheel_cut C_wheel_joined CX_wheel_cut_2 cdv A outer s H E hr) (fun ds hl e=>e)
theorem body__law_asked_4 {f XC:Addr} (T:Glb K mg) (C_wheel_run:Cal P w K mg base "wheel_run" 6 4 (GP.wheel_run.f K86.Phi)) (C_wheel_of:Cal P w K mg base "wheel_of" 5 2 GP.wheel_of.f) (C_wheel_cut:Cal P w K mg base "wheel_cut" 5 2 GP.wheel_cut.f) (C_wheel_joined:Cal P w K mg base "wheel_joined" 6 3 (GP.wheel_joined.f K86.Phi)) (CX_wheel_run_4:CalX P w K mg base "wheel_run" 6 4 K86.X_wheel_run_4.f XC) (CX_wheel_of_4:CalX P w K mg base "wheel_of" 5 2 K86.X_wheel_of_4.f XC) (CX_wheel_joined_4:CalX P w K mg base "wheel_joined" 6 3 K86.X_wheel_joined_4.f XC) (cdv:Value) (A:Around) (outer:List Env) (s:Shared) (H:Hp) (E:XK) (hr:Room 6 (A.deeper (envOfC "_law_asked" (zC (top 54)) s.heap.objs.size f cdv))) :
  PSsy (cxOf (CXM P w) P w K mg base ["_law_which","_law_one","_law_two","_law_three"] "_law_asked" (zC (top 54)) f cdv A outer s H E) E XC (zJ (top 54)) K86.X__law_asked_4.x:=by
 have nd:(["_law_which","_law_one","_law_two","_law_three"]:List Str).Nodup:=sc__law_asked.nd
 exact (wK (xW (yI hr (PVw.n (zB 0)) (PV.n zG)) (qL (xJ (yL xB CX_wheel_of_4 hr (zA (PVw.n (zB 1)) (zA (PVw.n (zB 2)) zK))))
  qM) (jN qM))
  (qJ (yI hr (PVw.n (zB 0)) (PV.n zG)) (zI (yG (zM C_wheel_of hr (zA (PVw.n (zB 1)) (zA (PVw.n (zB 2)) zK))))) zR)
  (jU (qJ (yI hr (PVw.n (zB 0)) (PV.n zG)) (zI (yG (zM C_wheel_cut hr (zA (PVw.n (zB 1)) (zA (PVw.n (zB 2)) zK))))) zR)
  (wK (xW (yI hr (PVw.n (zB 0)) (PV.n zG)) (qL (xJ (yL xB CX_wheel_joined_4 hr (zA (PVw.n (zB 1)) (zA (PVw.n (zB 2)) (zA (PV.n (pv_fn T.fv_7)) zK)))))
  qM) (jN qM))
  (qJ (yI hr (PVw.n (zB 0)) (PV.n zG)) (zI (yG (zM C_wheel_joined hr (zA (PVw.n (zB 1)) (zA (PVw.n (zB 2)) (zA (PV.n (pv_fn T.fv_7)) zK)))))) zR)
  (qL (xJ (yL xB CX_wheel_run_4 hr (zA (PVw.n (zB 1)) (zA (PVw.n (zB 2)) (zA (PVw.n (zB 3)) (zA (PV.n (pv_fn T.fv_8)) zK))))))
  qM))))
theorem fokx__law_asked_4 {f XC:Addr} {fd:FuncData} (Fn:Fun K "_law_asked" "_law_asked" (top 54) f fd) (T:Glb K mg) (C_wheel_run:Cal P w K mg base "wheel_run" 6 4 (GP.wheel_run.f K86.Phi)) (C_wheel_of:Cal P w K mg base "wheel_of" 5 2 GP.wheel_of.f) (C_wheel_cut:Cal P w K mg base "wheel_cut" 5 2 GP.wheel_cut.f) (C_wheel_joined:Cal P w K mg base "wheel_joined" 6 3 (GP.wheel_joined.f K86.Phi)) (CX_wheel_run_4:CalX P w K mg base "wheel_run" 6 4 K86.X_wheel_run_4.f XC) (CX_wheel_of_4:CalX P w K mg base "wheel_of" 5 2 K86.X_wheel_of_4.f XC) (CX_wheel_joined_4:CalX P w K mg base "wheel_joined" 6 3 K86.X_wheel_joined_4.f XC):FnOk P w K mg base (CXM P w) 7 f fd ["_law_which","_law_one","_law_two","_law_three"] (spX K 4 K86.X__law_asked_4.f XC) :=
 xD (k:=6) (g:=K86.X__law_asked_4.x) Fn sc__law_asked (fun cdv A outer s H E hr=>body__law_asked_4 T C_wheel_run C_wheel_of C_wheel_cut C_wheel_joined CX_wheel_run_4 CX_wheel_of_4 CX_wheel_joined_4 cdv A outer s H E hr) (fun ds hl e=>e)
theorem body__law_asked_10 {f XC:Addr} (T:Glb K mg) (C_wheel_run:Cal P w K mg base "wheel_run" 6 4 (GP.wheel_run.f K86.Phi)) (C_wheel_of:Cal P w K mg base "wheel_of" 5 2 GP.wheel_of.f) (C_wheel_cut:Cal P w K mg base "wheel_cut" 5 2 GP.wheel_cut.f) (C_wheel_joined:Cal P w K mg base "wheel_joined" 6 3 (GP.wheel_joined.f K86.Phi)) (CX_wheel_cut_10:CalX P w K mg base "wheel_cut" 5 2 K86.X_wheel_cut_10.f XC) (CX_wheel_joined_10:CalX P w K mg base "wheel_joined" 6 3 K86.X_wheel_joined_10.f XC) (cdv:Value) (A:Around) (outer:List Env) (s:Shared) (H:Hp) (E:XK) (hr:Room 6 (A.deeper (envOfC "_law_asked" (zC (top 54)) s.heap.objs.size f cdv))) :
  PSsy (cxOf (CXM P w) P w K mg base ["_law_which","_law_one","_law_two","_law_three"] "_law_asked" (zC (top 54)) f cdv A outer s H E) E XC (zJ (top 54)) K86.X__law_asked_10.x:=by
 have nd:(["_law_which","_law_one","_law_two","_law_three"]:List Str).Nodup:=sc__law_asked.nd
 exact (jU (qJ (yI hr (PVw.n (zB 0)) (PV.n zG)) (zI (yG (zM C_wheel_of hr (zA (PVw.n (zB 1)) (zA (PVw.n (zB 2)) zK))))) zR)
  (wK (xW (yI hr (PVw.n (zB 0)) (PV.n zG)) (qL (xJ (yL xB CX_wheel_cut_10 hr (zA (PVw.n (zB 1)) (zA (PVw.n (zB 2)) zK))))
  qM) (jN qM))
  (qJ (yI hr (PVw.n (zB 0)) (PV.n zG)) (zI (yG (zM C_wheel_cut hr (zA (PVw.n (zB 1)) (zA (PVw.n (zB 2)) zK))))) zR)
  (qL (xW (yI hr (PVw.n (zB 0)) (PV.n zG)) (qL (xJ (yL xB CX_wheel_joined_10 hr (zA (PVw.n (zB 1)) (zA (PVw.n (zB 2)) (zA (PV.n (pv_fn T.fv_7)) zK)))))
  qM) (jN qM))
  qM)))
theorem fokx__law_asked_10 {f XC:Addr} {fd:FuncData} (Fn:Fun K "_law_asked" "_law_asked" (top 54) f fd) (T:Glb K mg) (C_wheel_run:Cal P w K mg base "wheel_run" 6 4 (GP.wheel_run.f K86.Phi)) (C_wheel_of:Cal P w K mg base "wheel_of" 5 2 GP.wheel_of.f) (C_wheel_cut:Cal P w K mg base "wheel_cut" 5 2 GP.wheel_cut.f) (C_wheel_joined:Cal P w K mg base "wheel_joined" 6 3 (GP.wheel_joined.f K86.Phi)) (CX_wheel_cut_10:CalX P w K mg base "wheel_cut" 5 2 K86.X_wheel_cut_10.f XC) (CX_wheel_joined_10:CalX P w K mg base "wheel_joined" 6 3 K86.X_wheel_joined_10.f XC):FnOk P w K mg base (CXM P w) 7 f fd ["_law_which","_law_one","_law_two","_law_three"] (spX K 4 K86.X__law_asked_10.f XC) :=
 xD (k:=6) (g:=K86.X__law_asked_10.x) Fn sc__law_asked (fun cdv A outer s H E hr=>body__law_asked_10 T C_wheel_run C_wheel_of C_wheel_cut C_wheel_joined CX_wheel_cut_10 CX_wheel_joined_10 cdv A outer s H E hr) (fun ds hl e=>e)
theorem sc__law_told:FnScope ["_law_which","_law_one","_law_two","_law_three","_law_found","_law_e"] ["_law_which","_law_one","_law_two","_law_three"] (zC (top 55)):=⟨rfl,rfl,rfl,by decide +kernel,rfl,by decide +kernel,by decide +kernel⟩
theorem body__law_told {f:Addr} (T:Glb K mg) (C__law_asked:CalA P w K mg base "_law_asked" 7 4 K86.L_asked.f) (CH__law_classes:CalH P w K mg base "_law_classes" 1 K86.H__law_classes.h) {XS0:Addr} {XC2:Addr} (XT_2:XT K mg 2 "SpanError" XC2 XS0) (CX__law_asked_2:CalX P w K mg base "_law_asked" 7 4 K86.X__law_asked_2.f XC2) {XC4:Addr} (XT_4:XT K mg 4 "SpanError" XC4 XS0) (CX__law_asked_4:CalX P w K mg base "_law_asked" 7 4 K86.X__law_asked_4.f XC4) {XC10:Addr} (XT_10:XT K mg 10 "SpanError" XC10 XS0) (CX__law_asked_10:CalX P w K mg base "_law_asked" 7 4 K86.X__law_asked_10.f XC10) (cdv:Value) (A:Around) (outer:List Env) (s:Shared) (H:Hp) (E:XK) (hr:Room 7 (A.deeper (envOfC "_law_told" (zC (top 55)) s.heap.objs.size f cdv))) :
  PSsv (cxOf CX0 P w K mg base ["_law_which","_law_one","_law_two","_law_three","_law_found","_law_e"] "_law_told" (zC (top 55)) f cdv A outer s H E).nox (zJ (top 55)) K86.L_told.g:=by
 have nd:(["_law_which","_law_one","_law_two","_law_three","_law_found","_law_e"]:List Str).Nodup:=sc__law_told.nd
 exact (zH (yR (i:=4) nd (qV zP))
  (zH (psv_try3 (i:=5) (t:=2) (u:=4) (v:=10) nd XT_2.gl XT_2.cat XT_4.cat XT_10.cat XT_2.nm XT_4.nm XT_10.nm (fun W=>(psv_drop (pv_callA C__law_asked hr (zE (zU 0) (zE (zU 1) (zE (zU 2) (zE (zU 3) zP)))))))
  (fun W=>thr_expr CX__law_asked_2 hr (zA (PVw.n (zB 0)) (zA (PVw.n (zB 1)) (zA (PVw.n (zB 2)) (zA (PVw.n (zB 3)) zK)))))
  (fun W=>thr_expr CX__law_asked_4 hr (zA (PVw.n (zB 0)) (zA (PVw.n (zB 1)) (zA (PVw.n (zB 2)) (zA (PVw.n (zB 3)) zK)))))
  (fun W=>thr_expr CX__law_asked_10 hr (zA (PVw.n (zB 0)) (zA (PVw.n (zB 1)) (zA (PVw.n (zB 2)) (zA (PVw.n (zB 3)) zK)))))
  (fun ea xe=>(zI (yR (i:=4) nd (pvf_callH (i:=5) CH__law_classes (RoomH.of hr))))))
  (zI (xT 4))))
theorem fok__law_told {f:Addr} {fd:FuncData} (Fn:Fun K "_law_told" "_law_told" (top 55) f fd) (T:Glb K mg) (C__law_asked:CalA P w K mg base "_law_asked" 7 4 K86.L_asked.f) (CH__law_classes:CalH P w K mg base "_law_classes" 1 K86.H__law_classes.h) {XS0:Addr} {XC2:Addr} (XT_2:XT K mg 2 "SpanError" XC2 XS0) (CX__law_asked_2:CalX P w K mg base "_law_asked" 7 4 K86.X__law_asked_2.f XC2) {XC4:Addr} (XT_4:XT K mg 4 "SpanError" XC4 XS0) (CX__law_asked_4:CalX P w K mg base "_law_asked" 7 4 K86.X__law_asked_4.f XC4) {XC10:Addr} (XT_10:XT K mg 10 "SpanError" XC10 XS0) (CX__law_asked_10:CalX P w K mg base "_law_asked" 7 4 K86.X__law_asked_10.f XC10):FnOk P w K mg base CX0 8 f fd ["_law_which","_law_one","_law_two","_law_three"] (spF K 4 K86.L_told.f) :=
 jD (k:=7) (F:=K86.L_told.f) (g:=K86.L_told.g) Fn sc__law_told (fun cdv A outer s H E hr=>body__law_told T C__law_asked CH__law_classes XT_2 CX__law_asked_2 XT_4 CX__law_asked_4 XT_10 CX__law_asked_10 cdv A outer s H E hr) (fun ds r hl e=>qD e)
theorem sc__law_due:FnScope ["_law_which","_law_bad"] ["_law_which","_law_bad"] (zC (top 56)):=⟨rfl,rfl,rfl,by decide +kernel,rfl,by decide +kernel,by decide +kernel⟩
theorem body__law_due {f:Addr} (T:Glb K mg)  (cdv:Value) (A:Around) (outer:List Env) (s:Shared) (H:Hp) (E:XK) (hr:Room 0 (A.deeper (envOfC "_law_due" (zC (top 56)) s.heap.objs.size f cdv))) :
  PSsv (cxOf CX0 P w K mg base ["_law_which","_law_bad"] "_law_due" (zC (top 56)) f cdv A outer s H E).nox (zJ (top 56)) K86.L_due.g:=by
 have nd:(["_law_which","_law_bad"]:List Str).Nodup:=sc__law_due.nd
 have nI0:(["_law_k","_law_which"]:List Str).Nodup:=by decide +kernel
 exact (zH (qJ (ptv_not (PVn.t (PVw.n (zB 1)))) (zI (yE (qV zP))) zR)
  (zI (yE (vK (PV.w (PVf.s (wH (NY:=["_law_k","_law_which"]) (mp:=[none,some 0]) (yC (by kernel_rfl)) rfl (piv_range1 T.b_range zG) (fun c=>(zZ (i:=0) nI0)) (fun c=>wB) (fun c=>(pv_eq hr (PVw.n (zB 1)) (PVw.n (zB 0))))))) (PV.w (PVf.s (qV (zE vZ zP))))))))
theorem fok__law_due {f:Addr} {fd:FuncData} (Fn:Fun K "_law_due" "_law_due" (top 56) f fd) (T:Glb K mg)  : FnOk P w K mg base CX0 1 f fd ["_law_which","_law_bad"] (spF K 2 K86.L_due.f) :=
 jD (k:=0) (F:=K86.L_due.f) (g:=K86.L_due.g) Fn sc__law_due (fun cdv A outer s H E hr=>body__law_due T  cdv A outer s H E hr) (fun ds r hl e=>qD e)
theorem sc_law:FnScope ["_law_script","_law_cell","_law_turn","_law_many","_law_unit","_law_pieces","_law_wheel","_law_low","_law_over","_law_constant","_law_one","_law_turns","_law_behind","_law_far","_law_other","_law_heavy","_law_times"] ["_law_script"] (zC (top 57)):=⟨rfl,rfl,rfl,by decide +kernel,rfl,by decide +kernel,by decide +kernel⟩
theorem body_law {f:Addr} (T:Glb K mg) (C__law_nth:Cal P w K mg base "_law_nth" 1 2 GL.nth.f) (C_wheel_of:Cal P w K mg base "wheel_of" 5 2 GP.wheel_of.f) (C__law_told:Cal P w K mg base "_law_told" 8 4 K86.L_told.f) (C__law_due:Cal P w K mg base "_law_due" 1 2 K86.L_due.f) (cdv:Value) (A:Around) (outer:List Env) (s:Shared) (H:Hp) (E:XK) (hr:Room 8 (A.deeper (envOfC "law" (zC (top 57)) s.heap.objs.size f cdv))) :
  PSsv (cxOf CX0 P w K mg base ["_law_script","_law_cell","_law_turn","_law_many","_law_unit","_law_pieces","_law_wheel","_law_low","_law_over","_law_constant","_law_one","_law_turns","_law_behind","_law_far","_law_other","_law_heavy","_law_times"] "law" (zC (top 57)) f cdv A outer s H E).nox (zJ (top 57)) K86.law.g:=by
 have nd:(["_law_script","_law_cell","_law_turn","_law_many","_law_unit","_law_pieces","_law_wheel","_law_low","_law_over","_law_constant","_law_one","_law_turns","_law_behind","_law_far","_law_other","_law_heavy","_law_times"]:List Str).Nodup:=sc_law.nd
 have nI0:(["_law_k","_law_unit"]:List Str).Nodup:=by decide +kernel
 exact (zH (zQ (i:=1) nd (zM C__law_nth hr (zA (PVw.n (zB 0)) (zA (PV.n zG) zK))))
  (zH (zQ (i:=2) nd (yV (PV.w (qU (PV.w (jA (PV.w (qH (PV.w (PVf.s (qV (zE zG (zE (vO zG) zP))))) (PV.w (jO (zB 1) (PV.w zG))))) (PV.w (jO (PV.w (jB (zB 1) (PV.w zG))) (PV.w (qH (PV.w (PVf.s (qV (zE zG (zE (pv_powI (PV.w zG) (PV.w zG)) zP))))) (PV.w (jO (PV.w (jB (zB 1) (PV.w zG))) (PV.w zG))))))))) (PV.w zG))) (PV.w (jO (zB 1) (PV.w zG)))))
  (zH (qJ (pt_ne hr (PV.n (zM C__law_told hr (zA (PV.n zG) (zA (PVw.n (zB 2)) (zA (PV.n (PVf.s (qV (zE (qQ (zE zG (zE zG (zE zG zP)))) zP)))) (zA (PV.n zG) zK)))))) (PV.n (zM C__law_due hr (zA (PV.n zG) (zA (PV.n (pv_lt (zB 2) (PV.w zG))) zK))))) (zI (qK (PV.w vZ))) zR)
  (zH (zQ (i:=3) nd (qU (PV.w zG) (PV.w (jO (PV.w (zM C__law_nth hr (zA (PVw.n (zB 0)) (zA (PV.n zG) zK)))) (PV.w zG)))))
  (zH (zQ (i:=4) nd (qU (PV.w zG) (PV.w (jO (PV.w (jB (PV.w (zM C__law_nth hr (zA (PVw.n (zB 0)) (zA (PV.n zG) zK)))) (PV.w zG))) (PV.w (pv_powI (PV.w zG) (PV.w zG)))))))
  (zH (psv_compV (i:=5) nd (NY:=["_law_k","_law_unit"]) (mp:=[none,some 4]) (yC (by kernel_rfl)) rfl (piv_range1 T.b_range (zU 3)) (fun c=>(zZ (i:=0) nI0)) (fun c=>wB) (fun c=>(qQ (zE (jA (PV.w (jA (PV.w zG) (zB 0))) (zB 1)) (zE (jA (PV.w (qU (PV.w (jA (PV.w zG) (zB 0))) (PV.w zG))) (zB 1)) (zE (zU 0) zP))))))
  (zH (zQ (i:=6) nd (zM C_wheel_of hr (zA (PV.n (jA (PV.w (jA (PV.w zG) (zB 3))) (zB 4))) (zA (PVw.n (zB 5)) zK))))
  (zH (zQ (i:=1) nd (zM C__law_nth hr (zA (PVw.n (zB 0)) (zA (PV.n zG) zK))))
  (zH (zQ (i:=7) nd (jO (PV.w (jB (zB 1) (PV.w zG))) (PV.w (jA (PV.w (jA (PV.w zG) (zB 3))) (zB 4)))))
  (zH (zQ (i:=8) nd (qH (PV.w (PVf.s (qV (zE (qQ (zE qN (zE (zU 7) zP))) (zE (qQ (zE (zU 7) (zE qN zP))) (zE (qQ (zE qN (zE qN zP))) zP)))))) (PV.w (jO (zB 1) (PV.w zG)))))
  (zH (zQ (i:=9) nd (zM C_wheel_of hr (zA (PV.n zG) (zA (PV.n (qH (PV.w (PVf.s (qV (zE (PVf.s (qV zP)) (zE (PVf.s (qV (zE (qQ (zE zG (zE zG (zE zG zP)))) zP))) zP))))) (PV.w (jO (PV.w (jB (zB 1) (PV.w zG))) (PV.w zG))))) zK))))
  (zH (xA PassesOwn.never rfl (yP (PVf.s (qV (zE (zU 6) (zE (zU 9) zP))))) (zZ (i:=10) nd) (zI (qJ (pt_ne hr (PV.n (zM C__law_told hr (zA (PV.n zG) (zA (PVw.n (zB 10)) (zA (PVw.n (zB 8)) (zA (PV.n zG) zK)))))) (PV.n (zM C__law_due hr (zA (PV.n zG) (zA (PV.n vZ) zK))))) (zI (qK (PV.w vZ))) zR)))
  (zH (zQ (i:=11) nd (yV (PV.w (qU (PV.w (jB (PV.w zG) (PV.w (qU (zB 3) (PV.w zG))))) (PV.w (jO (PV.w (zM C__law_nth hr (zA (PVw.n (zB 0)) (zA (PV.n zG) zK)))) (PV.w zG))))) (PV.w zG)))
  (zH (zQ (i:=12) nd (jA (PV.w (jA (PV.w (jA (PV.w (qU (PV.w (jB (zB 7) (PV.w (jA (PV.w (jA (PV.w zG) (zB 3))) (zB 4))))) (zB 11))) (PV.w zG))) (zB 3))) (zB 4)))
  (zH (qJ (pt_ne hr (PV.n (zM C__law_told hr (zA (PV.n zG) (zA (PVw.n (zB 6)) (zA (PV.n (qQ (zE (zU 7) (zE (zU 12) zP)))) (zA (PV.n zG) zK)))))) (PV.n (zM C__law_due hr (zA (PV.n zG) (zA (PV.n (pv_gt (PV.w (jA (zB 11) (PV.w (qU (zB 3) (PV.w zG))))) (PV.w zG))) zK))))) (zI (qK (PV.w vZ))) zR)
  (zH (zQ (i:=13) nd (qU (PV.w zG) (PV.w (jO (PV.w (zM C__law_nth hr (zA (PVw.n (zB 0)) (zA (PV.n zG) zK)))) (PV.w zG)))))
  (zH (zQ (i:=10) nd (zM C_wheel_of hr (zA (PV.n (jA (PV.w zG) (zB 4))) (zA (PV.n (PVf.s (qV (zE (qQ (zE zG (zE (zU 4) (zE zG zP)))) zP)))) zK))))
  (zH (zQ (i:=14) nd (zM C_wheel_of hr (zA (PV.n (jA (zB 13) (zB 4))) (zA (PV.n (PVf.s (qV (zE (qQ (zE zG (zE (zU 4) (zE zG zP)))) zP)))) zK))))
  (zH (zQ (i:=15) nd (qU (PV.w (jA (PV.w zG) (zB 13))) (PV.w zG)))
  (zH (qJ (yI hr (PV.n (jO (zB 13) (PV.w zG))) (PV.n zG)) (zI (zQ (i:=15) nd (qU (zB 13) (PV.w zG)))) zR)
  (zH (qJ (pt_ne hr (PV.n (zM C__law_told hr (zA (PV.n zG) (zA (PVw.n (zB 10)) (zA (PVw.n (zB 14)) (zA (PV.n zG) zK)))))) (PV.n (zM C__law_due hr (zA (PV.n zG) (zA (PV.n (pv_gt (zB 15) (PV.w zG))) zK))))) (zI (qK (PV.w vZ))) zR)
  (zH (zQ (i:=16) nd (yV (PV.w (jO (PV.w (zM C__law_nth hr (zA (PVw.n (zB 0)) (zA (PV.n zG) zK)))) (PV.w (qH (PV.w (PVf.s (qV (zE zG (zE (pv_powI (PV.w zG) (PV.w zG)) zP))))) (PV.w (jO (PV.w (zM C__law_nth hr (zA (PVw.n (zB 0)) (zA (PV.n zG) zK)))) (PV.w zG))))))) (PV.w zG)))
  (zH (xA PassesOwn.never rfl (yP (PVf.s (qV (zE (zU 6) (zE (zU 9) zP))))) (zZ (i:=10) nd) (zI (qJ (pt_ne hr (PV.n (zM C__law_told hr (zA (PV.n zG) (zA (PVw.n (zB 10)) (zA (PVw.n (zB 7)) (zA (PVw.n (zB 16)) zK)))))) (PV.n (zM C__law_due hr (zA (PV.n zG) (zA (PV.n (pv_lt (zB 16) (PV.w zG))) zK))))) (zI (qK (PV.w vZ))) zR)))
  (zI (qK (PV.w vZ))))))))))))))))))))))))))
theorem fok_law {f:Addr} {fd:FuncData} (Fn:Fun K "law" "law" (top 57) f fd) (T:Glb K mg) (C__law_nth:Cal P w K mg base "_law_nth" 1 2 GL.nth.f) (C_wheel_of:Cal P w K mg base "wheel_of" 5 2 GP.wheel_of.f) (C__law_told:Cal P w K mg base "_law_told" 8 4 K86.L_told.f) (C__law_due:Cal P w K mg base "_law_due" 1 2 K86.L_due.f):FnOk P w K mg base CX0 9 f fd ["_law_script"] (spF K 1 K86.law.f) :=
 jD (k:=8) (F:=K86.law.f) (g:=K86.law.g) Fn sc_law (fun cdv A outer s H E hr=>body_law T C__law_nth C_wheel_of C__law_told C__law_due cdv A outer s H E hr) (fun ds r hl e=>qD e)
end
end K86
namespace K86
open PySem PyProof.Rows L2 FL
open Builtin.Int (intBits)
def dueL (k:Nat):List D:=[.bl (k == 0),.bl (k == 1),.bl (k == 2),.bl false,.bl false,.bl false,.bl false,.bl false,.bl false,.bl false,.bl false,.bl false,.bl true]
theorem cls2:K86.H__law_classes.h 2=some (.fresh (dueL 1)):=by
 unfold K86.H__law_classes.h runH K86.H__law_classes.g
 simp [argsE,isxG,List.lookup,dueL]
theorem cls4:K86.H__law_classes.h 4=some (.fresh (dueL 0)):=by
 unfold K86.H__law_classes.h runH K86.H__law_classes.g
 simp [argsE,isxG,List.lookup,dueL]
theorem cls10:K86.H__law_classes.h 10=some (.fresh (dueL 2)):=by
 unfold K86.H__law_classes.h runH K86.H__law_classes.g
 simp [argsE,isxG,List.lookup,dueL]
theorem flat_due (k:Nat):flats (dueL k)=true:=by simp [dueL]
section
variable {a b c d:D}
theorem told_x2 (h:K86.X__law_asked_2.f [a,b,c,d]=true):K86.L_told.f [a,b,c,d]=some (.fresh (dueL 1)):=by
 have fl:=flat_due 1
 unfold K86.L_told.f runG K86.L_told.g tryG3 callX callHF
 simp [args,h,cls2,goneO,fl]
theorem told_x4 (h2:K86.X__law_asked_2.f [a,b,c,d]=false) (h:K86.X__law_asked_4.f [a,b,c,d]=true):K86.L_told.f [a,b,c,d]=some (.fresh (dueL 0)):=by
 have fl:=flat_due 0
 unfold K86.L_told.f runG K86.L_told.g tryG3 callX callHF
 simp [args,h2,h,cls4,goneO,fl]
theorem told_x10 (h2:K86.X__law_asked_2.f [a,b,c,d]=false) (h4:K86.X__law_asked_4.f [a,b,c,d]=false) (h:K86.X__law_asked_10.f [a,b,c,d]=true):K86.L_told.f [a,b,c,d]=some (.fresh (dueL 2)):=by
 have fl:=flat_due 2
 unfold K86.L_told.f runG K86.L_told.g tryG3 callX callHF
 simp [args,h2,h4,h,cls10,goneO,fl]
theorem told_no (h2:K86.X__law_asked_2.f [a,b,c,d]=false) (h4:K86.X__law_asked_4.f [a,b,c,d]=false) (h:K86.X__law_asked_10.f [a,b,c,d]=false) {r:D} (hr:K86.L_asked.f [a,b,c,d]=some (.any r)):K86.L_told.f [a,b,c,d]=some (.fresh []):=by
 unfold K86.L_told.f runG K86.L_told.g tryG3 callX callHF
 simp [args,h2,h4,h,hr,dropG,callA,retA]
end
theorem kF {t:FT} {f:FE} {x:List Sl->Bool} {ds:List Sl} (h:t ds=some true):seqX (ifG t (retAG f) qR) x ds=false:=by
 unfold seqX
 rw [show ifG t (retAG f) qR ds=retAG f ds by simp [h]]
 unfold retAG
 cases f ds <;> rfl
theorem wD {t:FT} {f:FE} {x:List Sl->Bool} {ds:List Sl} (h:t ds=some false):seqX (ifG t (retAG f) qR) x ds=x ds:=by
 unfold seqX
 rw [show ifG t (retAG f) qR ds=some (.nx ds) by simp [h]]
theorem tst (w k:Int) (x y z:Sl):qA (zN eqD (zL 0) (zF (.int k))) [.v (.int w),x,y,z]=some (decide (w=k)):=by simp
section
variable {b c d:D}
theorem ea (w:Int):args 4 [.int w,b,c,d]=[.v (.int w),.v b,.v c,.v d]:=by simp [args]
theorem a2_0:K86.X__law_asked_2.f [.int 0,b,c,d]=false:=by
 unfold K86.X__law_asked_2.f runX K86.X__law_asked_2.x
 rw [ea]
 exact kF (by simp)
theorem a2_1:K86.X__law_asked_2.f [.int 1,b,c,d]=K86.X_wheel_cut_2.f [b,c]:=by
 unfold K86.X__law_asked_2.f runX K86.X__law_asked_2.x
 rw [ea,wD (by simp)]
 simp [ifX,callX]
theorem a2_2:K86.X__law_asked_2.f [.int 2,b,c,d]=false:=by
 unfold K86.X__law_asked_2.f runX K86.X__law_asked_2.x
 rw [ea,wD (by simp)]
 simp [ifX,neverX]
theorem a2_3:K86.X__law_asked_2.f [.int 3,b,c,d]=false:=by
 unfold K86.X__law_asked_2.f runX K86.X__law_asked_2.x
 rw [ea,wD (by simp)]
 simp [ifX,neverX]
theorem a4_0:K86.X__law_asked_4.f [.int 0,b,c,d]=K86.X_wheel_of_4.f [b,c]:=by
 unfold K86.X__law_asked_4.f runX K86.X__law_asked_4.x orX
 rw [ea,kF (by simp)]
 simp [ifX,callX]
theorem a4_1:K86.X__law_asked_4.f [.int 1,b,c,d]=false:=by
 unfold K86.X__law_asked_4.f runX K86.X__law_asked_4.x orX
 rw [ea,wD (by simp),kF (by simp)]
 simp [ifX,neverX]
theorem a4_2:K86.X__law_asked_4.f [.int 2,b,c,d]=K86.X_wheel_joined_4.f [b,c,.clo 1000 7 []]:=by
 unfold K86.X__law_asked_4.f runX K86.X__law_asked_4.x orX
 rw [ea,wD (by simp),wD (by simp),kF (by simp)]
 simp [ifX,neverX,callX]
theorem a4_3:K86.X__law_asked_4.f [.int 3,b,c,d]=K86.X_wheel_run_4.f [b,c,d,.clo 1000 8 []]:=by
 unfold K86.X__law_asked_4.f runX K86.X__law_asked_4.x orX
 rw [ea,wD (by simp),wD (by simp),wD (by simp)]
 simp [ifX,neverX,callX]
theorem a10_0:K86.X__law_asked_10.f [.int 0,b,c,d]=false:=by
 unfold K86.X__law_asked_10.f runX K86.X__law_asked_10.x
 rw [ea]
 exact kF (by simp)
theorem a10_1:K86.X__law_asked_10.f [.int 1,b,c,d]=K86.X_wheel_cut_10.f [b,c]:=by
 unfold K86.X__law_asked_10.f runX K86.X__law_asked_10.x orX
 rw [ea,wD (by simp),kF (by simp)]
 simp [ifX,callX]
theorem a10_2:K86.X__law_asked_10.f [.int 2,b,c,d]=K86.X_wheel_joined_10.f [b,c,.clo 1000 7 []]:=by
 unfold K86.X__law_asked_10.f runX K86.X__law_asked_10.x orX
 rw [ea,wD (by simp),wD (by simp)]
 simp [ifX,neverX,callX]
theorem a10_3:K86.X__law_asked_10.f [.int 3,b,c,d]=false:=by
 unfold K86.X__law_asked_10.f runX K86.X__law_asked_10.x orX
 rw [ea,wD (by simp),wD (by simp)]
 simp [ifX,neverX,callX]
theorem as_0 {r:D} (h:GP.wheel_of.f [b,c]=some (.val r)):K86.L_asked.f [.int 0,b,c,d]=some (.any r):=by
 unfold K86.L_asked.f runG K86.L_asked.g
 simp [args,h,retAG,retV]
theorem as_1 {l:List D} (h:GP.wheel_cut.f [b,c]=some (.fresh l)):K86.L_asked.f [.int 1,b,c,d]=some (.any (.lst l)):=by
 unfold K86.L_asked.f runG K86.L_asked.g
 simp [args,h,retAG,retV]
theorem as_2 {r:D} (h:GP.wheel_joined.f K86.Phi [b,c,.clo 1000 7 []]=some (.val r)):K86.L_asked.f [.int 2,b,c,d]=some (.any r):=by
 unfold K86.L_asked.f runG K86.L_asked.g
 simp [args,h,retAG,retV]
theorem as_3 {r:D} (h:GP.wheel_run.f K86.Phi [b,c,d,.clo 1000 8 []]=some (.val r)):K86.L_asked.f [.int 3,b,c,d]=some (.any r):=by
 unfold K86.L_asked.f runG K86.L_asked.g
 simp [args,h,retAG,retV]
end
theorem due_eq (w:Int) (hw:w=0 \/ w=1 \/ w=2) (bad:Bool):K86.L_due.f [.int w,.bl bad]=some (.fresh (if bad=true then dueL w.toNat else [])):=by
 have ok:okR (12:Int):=okR_small (by omega) (by omega)
 unfold K86.L_due.f runG K86.L_due.g
 cases bad with
 | false=>simp [args]
 | true =>
   have rg:rng1 (zF (.int 12)) [.v (.int w),.v (.bl true)]=some [.int 0,.int 1,.int 2,.int 3,.int 4,.int 5,.int 6,.int 7,.int 8,.int 9,.int 10,.int 11]:=by
    simp [ok]
    rfl
   have cm:compG (rng1 (zF (.int 12))) [none,some 0] (zV 0) (fun _=>some true) (zN eqD (zL 1) (zL 0)) [.v (.int w),.v (.bl true)]=some ([0,1,2,3,4,5,6,7,8,9,10,11].map fun k:Int=>D.bl (decide (w=k))):=by
    refine yS (items:=[.int 0,.int 1,.int 2,.int 3,.int 4,.int 5,.int 6,.int 7,.int 8,.int 9,.int 10,.int 11]) rg (by simp) ?_
    simp [compL,yB]
   rcases hw with rfl | rfl | rfl <;> simp [args,cm,dueL]
theorem neD_due (l:List D) (k:Nat):neD (.lst (dueL k)) (.lst (dueL k))=some (.bl false):=by
 have s:shal 40 (.lst (dueL k))=true:=by simp [shal,shals,dueL]
 rw [kA s s]
 have:eqvD (.lst (dueL k)) (.lst (dueL k))=true:=by
  simp [eqvD,dueL,toPy,toPys,PyData.eqv,PyData.eqvAll]
 rw [this]
 rfl
theorem neD_nn:neD (.lst []) (.lst [])=some (.bl false):=neD_rw_nil []
theorem wof_x (T:Int) (q:D):K86.X_wheel_of_4.f [.int T,q]=decide (T < 1):=by
 unfold K86.X_wheel_of_4.f runX K86.X_wheel_of_4.x ifX
 by_cases h:T < 1 <;> simp [args,h,alwaysX,neverX]
theorem told0 (t:Int) (hb:t < 10 ^ 100):K86.L_told.f [.int 0,.int t,.lst [.tup [.int 0,.int 1,.int 5]],.int 0]=some (.fresh (if t < 1 then dueL 0 else [])):=by
 by_cases h:t < 1
 · rw [if_pos h]
   exact told_x4 a2_0 (by rw [a4_0,wof_x]; simpa using h)
 · rw [if_neg h]
   have m:MapF [((some 0,some 1,some 5):Rw)]:=((DrawM.nil 0).snoc (lo:=0) (bh:=1) (v:=5) (by decide) (by decide) (fun r h=>by simp at h)).map
   obtain ⟨u,_,e⟩:=xX m (T:=t) (by omega) (by
    have:(10:Int) ^ 100 < 10 ^ 200:=by decide +kernel
    generalize (10:Int) ^ 200=B at *
    generalize (10:Int) ^ 100=C at *
    omega) (by simp)
   exact told_no a2_0 (by rw [a4_0,wof_x]; simpa using h) a10_0 (as_0 e)
theorem cut2 (W:D) (s:Spn) (h:s.1=none \/ s.2=none):K86.X_wheel_cut_2.f [W,spD s]=true:=by
 have ln:GP.length.f [spD s]=some (.val .non):=by
  rw [wI s]
  rcases h with h | h
  · rw [h]; rfl
  · rw [h]; cases s.1 <;> rfl
 unfold K86.X_wheel_cut_2.f runX K86.X_wheel_cut_2.x ifX
 generalize spD s=S at *
 simp [args,ln,alwaysX]
theorem told1n (W:D) (s:Spn) (h:s.1=none \/ s.2=none):K86.L_told.f [.int 1,W,spD s,.int 0]=some (.fresh (dueL 1)) :=
 told_x2 (by rw [a2_1]; exact cut2 W s h)
section
variable {L:Int} {ps:List Rw} (w:Whl L ps) (hL:2<=L) {a b:Int}
include w
theorem cut2':K86.X_wheel_cut_2.f [whD L ps,.tup [.int a,.int b]]=false:=by
 have ln:GP.length.f [.tup [.int a,.int b]]=some (.val (.int (b - a))):=wI (some a,some b)
 unfold K86.X_wheel_cut_2.f runX K86.X_wheel_cut_2.x ifX
 simp [args,ln,neverX]
theorem cut10:K86.X_wheel_cut_10.f [whD L ps,.tup [.int a,.int b]]=decide (sizeF L ps ((b - 1) / L - a / L+1) > 300):=by
 have ln:GP.length.f [.tup [.int a,.int b]]=some (.val (.int (b - a))):=wI (some a,some b)
 have w0:=wh0 L ps
 have f1:jC (.int (b - 1)) (.int L)=some (.int ((b - 1) / L)):=qP w.pos w.bnd
 have f2:jC (.int a) (.int L)=some (.int (a / L)):=qP w.pos w.bnd
 have sz:=xN L (ps:=ps) (by have:=w.len; omega) ((b - 1) / L - a / L+1)
 generalize sizeF L ps ((b - 1) / L - a / L+1)=z at *
 generalize whD L ps=WL at *
 unfold K86.X_wheel_cut_10.f runX K86.X_wheel_cut_10.x seqX
 by_cases h:z > 300
 · simp [args,ln,w0,f1,f2,sz,ifX,h,alwaysX,retV]
 · simp [args,ln,w0,f1,f2,sz,ifX,h,neverX,retV]
include hL in
theorem cut_ok (hab:a < b) (h1 : -(10 ^ 380) < a) (h2:b < 10 ^ 380) (hp:1<=ps.length) (hz:sizeF L ps ((b - 1) / L - a / L+1)<=300):∃ l,GP.wheel_cut.f [whD L ps,.tup [.int a,.int b]]=some (.fresh l):=by
 have ln:GP.length.f [.tup [.int a,.int b]]=some (.val (.int (b - a))):=wI (some a,some b)
 have w0:=wh0 L ps
 have f1:jC (.int (b - 1)) (.int L)=some (.int ((b - 1) / L)):=qP w.pos w.bnd
 have f2:jC (.int a) (.int L)=some (.int (a / L)):=qP w.pos w.bnd
 have sz:=xN L (ps:=ps) (by have:=w.len; omega) ((b - 1) / L - a / L+1)
 have mono:a / L<=(b - 1) / L:=Int.ediv_le_ediv w.pos (by omega)
 have hk:(b - 1) / L - a / L<=400:=by
  unfold sizeF at hz
  rw [if_neg (by omega)] at hz
  have:((b - 1) / L - a / L+1) * 1<=((b - 1) / L - a / L+1) * ((ps.length:Int)+1):=Int.mul_le_mul_of_nonneg_left (by omega) (by omega)
  omega
 obtain ⟨qs,_,_,_,er⟩:=wW w w.len hL hab hk h1 h2
 have fl:=jV qs
 refine ⟨qs.map rwD,xF ?_⟩
 have hz' : ¬ sizeF L ps ((b - 1) / L - a / L+1) > 300:=by omega
 generalize sizeF L ps ((b - 1) / L - a / L+1)=z at *
 generalize whD L ps=WL at *
 generalize qs.map rwD=QL at *
 unfold GP.wheel_cut.g
 simp [args,ln,w0,f1,f2,sz,hz',er,fl,retV]
include hL in
theorem told1 (hab:a < b) (h1 : -(10 ^ 380) < a) (h2:b < 10 ^ 380) (hp:1<=ps.length):K86.L_told.f [.int 1,whD L ps,.tup [.int a,.int b],.int 0]=some (.fresh (if sizeF L ps ((b - 1) / L - a / L+1) > 300 then dueL 2 else [])):=by
 by_cases h:sizeF L ps ((b - 1) / L - a / L+1) > 300
 · rw [if_pos h]
   exact told_x10 (by rw [a2_1]; exact cut2' w) a4_1 (by rw [a10_1,cut10 w]; simpa using h)
 · rw [if_neg h]
   obtain ⟨l,e⟩:=cut_ok w hL hab h1 h2 hp (by omega)
   exact told_no (by rw [a2_1]; exact cut2' w) a4_1 (by rw [a10_1,cut10 w]; simpa using h) (as_1 e)
end
def sumW (u v:Option Int):Option Int:=match u,v with | some x,some y=>some (x+y) | _,_=>none
theorem sum_eq (u v:Option Int):K86.L_sum.f [oi u,oi v]=some (.val (oi (sumW u v))):=by
 unfold K86.L_sum.f runG K86.L_sum.g
 cases u <;> cases v <;> simp [args,sumW]
theorem phi_s (u v:Option Int):K86.Phi (.clo 1000 7 []) [oi u,oi v]=some (.val (oi (sumW u v))):=by
 have e:K86.Phi (.clo 1000 7 []) [oi u,oi v]=fnF 2 K86.L_sum.f [] [oi u,oi v]:=rfl
 rw [e,<- sum_eq]; rfl
section
variable {L1 L2 M:Int} {ps qs:List Rw} (w1:Whl L1 ps) (w2:Whl L2 qs) (h1:2<=L1) (h2:2<=L2) (hM:GP.least_multiple.f [.int L1,.int L2]=some (.val (.int M))) (hp:1<=M) (hb:M < 10 ^ 200)
include w1 w2 hM
theorem joi10:K86.X_wheel_joined_10.f [whD L1 ps,whD L2 qs,.clo 1000 7 []]=decide (sizeF L1 ps (M / L1)+sizeF L2 qs (M / L2) > 300):=by
 have x0:=wh0 L1 ps
 have y0:=wh0 L2 qs
 have f1:jC (.int M) (.int L1)=some (.int (M / L1)):=qP w1.pos w1.bnd
 have f2:jC (.int M) (.int L2)=some (.int (M / L2)):=qP w2.pos w2.bnd
 have s1:=xN L1 (ps:=ps) (by have:=w1.len; omega) (M / L1)
 have s2:=xN L2 (ps:=qs) (by have:=w2.len; omega) (M / L2)
 generalize sizeF L1 ps (M / L1)=z1 at *
 generalize sizeF L2 qs (M / L2)=z2 at *
 generalize whD L1 ps=X at *
 generalize whD L2 qs=Y at *
 unfold K86.X_wheel_joined_10.f runX K86.X_wheel_joined_10.x seqX
 by_cases h:z1+z2 > 300
 · simp [args,x0,y0,hM,f1,f2,s1,s2,ifX,h,alwaysX,retV]
 · simp [args,x0,y0,hM,f1,f2,s1,s2,ifX,h,neverX,retV]
include hp in
theorem joi4:K86.X_wheel_joined_4.f [whD L1 ps,whD L2 qs,.clo 1000 7 []]=false:=by
 have x0:=wh0 L1 ps
 have y0:=wh0 L2 qs
 have f1:jC (.int M) (.int L1)=some (.int (M / L1)):=qP w1.pos w1.bnd
 have f2:jC (.int M) (.int L2)=some (.int (M / L2)):=qP w2.pos w2.bnd
 have s1:=xN L1 (ps:=ps) (by have:=w1.len; omega) (M / L1)
 have s2:=xN L2 (ps:=qs) (by have:=w2.len; omega) (M / L2)
 have hp' : ¬ M < 1:=by omega
 generalize sizeF L1 ps (M / L1)=z1 at *
 generalize sizeF L2 qs (M / L2)=z2 at *
 generalize whD L1 ps=X at *
 generalize whD L2 qs=Y at *
 unfold K86.X_wheel_joined_4.f runX K86.X_wheel_joined_4.x seqX
 by_cases h:z1+z2 > 300
 · simp [args,x0,y0,hM,f1,f2,s1,s2,h,retV]
 · simp [args, x0, y0, hM, f1, f2, s1, s2, h, retV, callX]
   split
   · rename_i l hl
     obtain ⟨d,_,e⟩:=Option.bind_eq_some_iff.mp hl
     simp at e
     subst e
     rw [wof_x]
     simp [hp']
   · rfl
include h1 h2 hp hb in
theorem joi_ok (d1:∃ k,M=k * L1) (d2:∃ k,M=k * L2) (l1:ps.length=1) (l2:qs.length=1) (hz:sizeF L1 ps (M / L1)+sizeF L2 qs (M / L2)<=300):∃ r,GP.wheel_joined.f K86.Phi [whD L1 ps,whD L2 qs,.clo 1000 7 []]=some (.val r):=by
 have x0:=wh0 L1 ps
 have y0:=wh0 L2 qs
 have f1:jC (.int M) (.int L1)=some (.int (M / L1)):=qP w1.pos w1.bnd
 have f2:jC (.int M) (.int L2)=some (.int (M / L2)):=qP w2.pos w2.bnd
 have s1:=xN L1 (ps:=ps) (by have:=w1.len; omega) (M / L1)
 have s2:=xN L2 (ps:=qs) (by have:=w2.len; omega) (M / L2)
 have one:∀ {L:Int},2<=L->(∃ k,M=k * L)->(M - 1) / L - 0 / L=M / L - 1:=fun {L} hL ⟨k,hk⟩=>by
  have e1:M - 1=(-1)+k * L:=by omega
  have e2:M / L=k:=by rw [hk,Int.mul_ediv_cancel _ (by omega)]
  have e3:(-1:Int) / L = -1:=by
   have d1:=Int.emod_add_mul_ediv (-1) L
   have d2:=Int.emod_nonneg (-1) (show L≠0 by omega)
   have d3:=Int.emod_lt_of_pos (-1) (show 0 < L by omega)
   generalize (-1:Int) % L=m at *
   generalize (-1:Int) / L=q at *
   rcases Int.lt_or_le q (-1) with z | z
   · have : L * q <= L * (-2) := Int.mul_le_mul_of_nonneg_left (by omega) (by omega)
     omega
   · rcases Int.lt_or_le (-1) q with y | y
     · have : L * 0 <= L * q := Int.mul_le_mul_of_nonneg_left (by omega) (by omega)
       omega
     · omega
  rw [e1,Int.add_mul_ediv_right _ _ (by omega),e3,e2,Int.zero_ediv]
  omega
 have q0:∀ {L:Int},2<=L->0<=M / L:=fun {L} hL=>Int.ediv_nonneg (by omega) (by omega)
 have n1:=q0 h1
 have n2:=q0 h2
 have u1:sizeF L1 ps (M / L1)=M / L1 * 2:=by unfold sizeF; rw [if_neg (by omega),l1]; rfl
 have u2:sizeF L2 qs (M / L2)=M / L2 * 2:=by unfold sizeF; rw [if_neg (by omega),l2]; rfl
 have B:(10:Int) ^ 200 < 10 ^ 380:=by decide +kernel
 have B0:(0:Int) < 10 ^ 380:=by decide +kernel
 have b1 : -(10 ^ 380) < (0:Int):=by generalize (10:Int) ^ 380=C at *; omega
 have b2:M < 10 ^ 380:=by generalize (10:Int) ^ 380=C at *; generalize (10:Int) ^ 200=E at *; omega
 obtain ⟨as,ma,la,_,ea'⟩:=wW w1 w1.len h1 (s:=0) (e:=M) (by omega) (by rw [one h1 d1]; omega) b1 b2
 obtain ⟨bs,mb,lb,_,eb⟩:=wW w2 w2.len h2 (s:=0) (e:=M) (by omega) (by rw [one h2 d2]; omega) b1 b2
 rw [one h1 d1,l1] at la
 rw [one h2 d2,l2] at lb
 have je:=joined_eq phi_s ma.ord mb.ord (by omega) (by omega)
 have mj:=join_mapF sumW ma.ord mb.ord
 have lj:=join_len sumW as bs
 obtain ⟨t,_,we⟩:=xX mj (T:=M) (by omega) hb (by omega)
 have hz' : ¬ sizeF L1 ps (M / L1)+sizeF L2 qs (M / L2) > 300:=by omega
 refine ⟨whD (M / t) (zT (kK sumW as bs) (S0 (M / t))),xF ?_⟩
 unfold GP.wheel_joined.g
 generalize whD (M / t) (zT (kK sumW as bs) (S0 (M / t)))=R at *
 generalize sizeF L1 ps (M / L1)=z1 at *
 generalize sizeF L2 qs (M / L2)=z2 at *
 generalize whD L1 ps=X at *
 generalize whD L2 qs=Y at *
 generalize (kK sumW as bs).map rwD=J at *
 generalize as.map rwD=A at *
 generalize bs.map rwD=Bl at *
 simp [args,x0,y0,hM,f1,f2,s1,s2,hz',ea',eb,je,we,retV,retDG]
end
theorem told2 {L1 L2 M:Int} {ps qs:List Rw} (w1:Whl L1 ps) (w2:Whl L2 qs) (h1:2<=L1) (h2:2<=L2) (hM:GP.least_multiple.f [.int L1,.int L2]=some (.val (.int M))) (hp:1<=M) (hb:M < 10 ^ 200) (d1:∃ k,M=k * L1) (d2:∃ k,M=k * L2) (l1:ps.length=1) (l2:qs.length=1) :
  K86.L_told.f [.int 2,whD L1 ps,whD L2 qs,.int 0]=some (.fresh (if sizeF L1 ps (M / L1)+sizeF L2 qs (M / L2) > 300 then dueL 2 else [])):=by
 by_cases h:sizeF L1 ps (M / L1)+sizeF L2 qs (M / L2) > 300
 · rw [if_pos h]
   exact told_x10 a2_2 (by rw [a4_2]; exact joi4 w1 w2 hM hp) (by rw [a10_2,joi10 w1 w2 hM]; simpa using h)
 · rw [if_neg h]
   obtain ⟨r,e⟩:=joi_ok w1 w2 h1 h2 hM hp hb d1 d2 l1 l2 (by omega)
   exact told_no a2_2 (by rw [a4_2]; exact joi4 w1 w2 hM hp) (by rw [a10_2,joi10 w1 w2 hM]; simpa using h) (as_2 e)
theorem none_eq (v:Option Int):K86.L_none.f [oi v]=some (.val (.bl v.isNone)):=by
 unfold K86.L_none.f runG K86.L_none.g
 cases v <;> simp [args]
theorem phi_h (v:Option Int):K86.Phi (.clo 4 0 [.clo 1000 8 []]) [oi v]=some (.val (oi (hWF Option.isNone v))):=by
 have e:K86.Phi (.clo 4 0 [.clo 1000 8 []]) [oi v]=lamF 1 K86.lam_holding_0 [.clo 1000 8 []] [oi v]:=rfl
 have p:K86.Phi0 (.clo 1000 8 []) [oi v]=some (.val (.bl v.isNone)):=by
  have e:K86.Phi0 (.clo 1000 8 []) [oi v]=fnF 1 K86.L_none.f [] [oi v]:=rfl
  rw [e,<- none_eq]; rfl
 rw [e]
 unfold K86.lam_holding_0 lamF lamR
 cases v with
 | none=>simp only [vJ] at p; simp [callW,p,retV,hWF]
 | some x=>simp only [oi_some] at p; simp [callW,p,retV,hWF]
theorem phi_n (v:Option Int):K86.Phi (.clo 4 0 [.clo 9 0 []]) [oi v]=some (.val (oi (hWF Option.isSome v))):=by
 have e:K86.Phi (.clo 4 0 [.clo 9 0 []]) [oi v]=lamF 1 K86.lam_holding_0 [.clo 9 0 []] [oi v]:=rfl
 have p:K86.Phi0 (.clo 9 0 []) [oi v]=some (.val (.bl v.isSome)):=by
  have e:K86.Phi0 (.clo 9 0 []) [oi v]=lamF 1 K86.lam_wheel_run_0 [] [oi v]:=rfl
  rw [e]
  unfold lamF lamR K86.lam_wheel_run_0
  cases v <;> simp
 rw [e]
 unfold K86.lam_holding_0 lamF lamR
 cases v with
 | none=>simp only [vJ] at p; simp [callW,p,retV,hWF]
 | some x=>simp only [oi_some] at p; simp [callW,p,retV,hWF]
theorem fr_x (a b d:D) (n:Int):K86.X_first_run_4.f [a,b,.int n,d]=decide (n < 1):=by
 unfold K86.X_first_run_4.f runX K86.X_first_run_4.x ifX
 by_cases h:n < 1 <;> simp [args,h,alwaysX,neverX]
theorem run_x {L:Int} {ps:List Rw} (w:Whl L ps) (hl:ps.length<=10) (n:Int) {s:Int} (h1 : -(10 ^ 375) < s) (h2:s < 10 ^ 375):K86.X_wheel_run_4.f [whD L ps,.int s,.int n,.clo 1000 8 []]=decide (n < 1):=by
 have e1:=wU phi_h (ps:=ps) (by omega)
 have lQ:=turn_len (hWF Option.isNone) ps
 obtain ⟨H,qs,wh,eg,hle,hql,ew⟩:=vN (wE (hWF Option.isNone) w.map.ord) w.pos w.bnd (by omega)
 have e2:GP.wheel_of.f [.int L,.lst ((turnF (hWF Option.isNone) ps).map rwD)]=some (.val (whD H qs)):=ew
 have w0:=wh0 L ps
 have w1:=wh1 L ps
 have u0:=wh0 H qs
 have hL1 : ¬ L < 1:=by have:=w.pos; omega
 have wx:=fun q=>wof_x L q
 unfold K86.X_wheel_run_4.f runX K86.X_wheel_run_4.x orX seqX callX
 by_cases hc:H=1
 · subst hc
   obtain ⟨rs,ro,rl,rv,re⟩:=rolled_unit wh s
   generalize rs.map rwD=RL at *
   generalize (turnF (hWF Option.isNone) ps).map rwD=QL at *
   generalize ps.map rwD=PL at *
   generalize whD L ps=WL at *
   generalize whD 1 qs=UL at *
   simp [args,w0,w1,u0,e1,e2,re,retV,wx,hL1,fr_x]
 · have hH2 : 2 <= H := by have := wh.pos; omega
   have wb:=wh.bnd
   have dv:(s+2 * H - 1) / H - s / H<=10:=by
    have e:s+2 * H - 1=(s - 1)+2 * H:=by omega
    rw [e,Int.add_mul_ediv_right _ _ (by omega)]
    have:=Int.ediv_le_ediv (a:=s - 1) (b:=s) wh.pos (by omega)
    omega
   have k1:(2:Int) * 10 ^ 200 < 10 ^ 375:=by decide +kernel
   have k2:(2:Int) * 10 ^ 375 < 10 ^ 380:=by decide +kernel
   obtain ⟨rs,rm,rl,rt,re⟩:=rolled_many wh (by omega) hH2 (s:=s) (e:=s+2 * H) (by omega) dv (by generalize (10:Int) ^ 380=B at *; generalize (10:Int) ^ 375=C at *; generalize (10:Int) ^ 200=E at *; omega) (by generalize (10:Int) ^ 380=B at *; generalize (10:Int) ^ 375=C at *; generalize (10:Int) ^ 200=E at *; omega)
   have hm:yF (.int 2) (.int H)=some (.int (2 * H)):=jW (.of_left (jH (by decide)))
   clear k1 k2 dv h1 h2 wb
   generalize rs.map rwD=RL at *
   generalize (turnF (hWF Option.isNone) ps).map rwD=QL at *
   generalize ps.map rwD=PL at *
   generalize whD L ps=WL at *
   generalize whD H qs=UL at *
   simp [args,w0,w1,u0,hc,hm,e1,e2,re,retV,wx,hL1,fr_x]
theorem told3 {L:Int} {ps:List Rw} (w:Whl L ps) (hl:ps.length<=10) (n:Int) {s:Int} (h1 : -(10 ^ 375) < s) (h2:s < 10 ^ 375):K86.L_told.f [.int 3,whD L ps,.int s,.int n]=some (.fresh (if n < 1 then dueL 0 else [])):=by
 have x:=run_x w hl n h1 h2
 by_cases h:n < 1
 · rw [if_pos h]
   exact told_x4 a2_3 (by rw [a4_3,x]; simpa using h)
 · rw [if_neg h]
   obtain ⟨y,_,e⟩:=wheel_run_ex phi_h phi_n w hl (n:=n) (by omega) h1 h2
   exact told_no a2_3 (by rw [a4_3,x]; simpa using h) a10_3 (as_3 e)
def pcs (m:Nat) (u:Int):List Rw:=(List.range' 0 m).map fun (k:Nat)=>(some (2 * (k:Int) * u),some ((2 * (k:Int)+1) * u),some (k:Int))
theorem pcs_whl {m:Nat} {u:Int} (hm:1<=m) (hm4:m<=4) (hu:0 < u) (hb:u<=10 ^ 9):Whl (2 * (m:Int) * u) (pcs m u):=by
 have hB:2 * (m:Int) * u < 10 ^ 200:=by
  have:(10:Int) ^ 10 < 10 ^ 200:=by decide +kernel
  have e:(10:Int) ^ 9=1000000000:=by decide
  have e':(10:Int) ^ 10=10000000000:=by decide
  rw [e] at hb
  rw [e'] at this
  generalize (10:Int) ^ 200=B at *
  rcases (by omega:m=1 \/ m=2 \/ m=3 \/ m=4) with rfl | rfl | rfl | rfl <;> omega
 have one:DrawM [((some 0,some u,some 0):Rw)] u:=(DrawM.nil 0).snoc (lo:=0) (bh:=u) (v:=0) (by omega) hu (fun r h=>by simp at h)
 have two:DrawM [((some 0,some u,some 0):Rw),(some (2 * u),some (3 * u),some 1)] (3 * u):=one.snoc (by omega) (by omega) (fun r _ h=>by omega)
 have thr:DrawM [((some 0,some u,some 0):Rw),(some (2 * u),some (3 * u),some 1),(some (4 * u),some (5 * u),some 2)] (5 * u):=two.snoc (by omega) (by omega) (fun r _ h=>by omega)
 have fou:DrawM [((some 0,some u,some 0):Rw),(some (2 * u),some (3 * u),some 1),(some (4 * u),some (5 * u),some 2),(some (6 * u),some (7 * u),some 3)] (7 * u):=thr.snoc (by omega) (by omega) (fun r _ h=>by omega)
 rcases (by omega:m=1 \/ m=2 \/ m=3 \/ m=4) with rfl | rfl | rfl | rfl
 · have e : pcs 1 u = [((some 0, some u, some 0) : Rw)] := by simp [pcs, List.range']
   rw [e]
   refine xG (u:=u) (v:=0) one.map (fun r h=>?_) (by simp) hB hu (by omega) fun p=>?_
   · simp only [List.mem_cons, List.not_mem_nil, or_false] at h
     subst h
     exact ⟨_,_,rfl,rfl,by omega,by omega⟩
   · simp [Tel,has3,hasS]
 · have e : pcs 2 u = [((some 0, some u, some 0) : Rw), (some (2 * u), some (3 * u), some 1)] := by simp [pcs, List.range']
   rw [e]
   refine xG (u:=u) (v:=0) two.map (fun r h=>?_) (by simp) hB hu (by omega) fun p=>?_
   · simp only [List.mem_cons, List.not_mem_nil, or_false] at h
     rcases h with rfl | rfl
     all_goals exact ⟨_,_,rfl,rfl,by omega,by omega⟩
   · simp [Tel,has3,hasS]
 · have e : pcs 3 u = [((some 0, some u, some 0) : Rw), (some (2 * u), some (3 * u), some 1), (some (4 * u), some (5 * u), some 2)] := by simp [pcs, List.range']
   rw [e]
   refine xG (u:=u) (v:=0) thr.map (fun r h=>?_) (by simp) hB hu (by omega) fun p=>?_
   · simp only [List.mem_cons, List.not_mem_nil, or_false] at h
     rcases h with rfl | rfl | rfl
     all_goals exact ⟨_,_,rfl,rfl,by omega,by omega⟩
   · simp [Tel,has3,hasS]
 · have e : pcs 4 u = [((some 0, some u, some 0) : Rw), (some (2 * u), some (3 * u), some 1), (some (4 * u), some (5 * u), some 2), (some (6 * u), some (7 * u), some 3)] := by simp [pcs, List.range']
   rw [e]
   refine xG (u:=u) (v:=0) fou.map (fun r h=>?_) (by simp) hB hu (by omega) fun p=>?_
   · simp only [List.mem_cons, List.not_mem_nil, or_false] at h
     rcases h with rfl | rfl | rfl | rfl
     all_goals exact ⟨_,_,rfl,rfl,by omega,by omega⟩
   · simp [Tel,has3,hasS]
theorem one_whl {k:Nat} {u v:Int} (hk:2<=k) (hk2:k<=200) (hu:0 < u) (hb:u<=10 ^ 9):Whl ((k:Int) * u) [((some 0,some u,some v):Rw)]:=by
 have hB:(k:Int) * u < 10 ^ 200:=by
  have h1:(k:Int) * u<=200 * u:=Int.mul_le_mul_of_nonneg_right (by omega) (by omega)
  have:(10:Int) ^ 12 < 10 ^ 200:=by decide +kernel
  have e:(10:Int) ^ 9=1000000000:=by decide
  have e':(10:Int) ^ 12=1000000000000:=by decide
  rw [e] at hb
  rw [e'] at this
  generalize (10:Int) ^ 200=B at *
  omega
 have h2:2 * u<=(k:Int) * u:=Int.mul_le_mul_of_nonneg_right (by omega) (by omega)
 have one:DrawM [((some 0,some u,some v):Rw)] u:=(DrawM.nil 0).snoc (lo:=0) (bh:=u) (v:=v) (by omega) hu (fun r h=>by simp at h)
 refine xG (u:=u) (v:=v) one.map (fun r h=>?_) (by simp) hB hu (by omega) fun p=>?_
 · simp only [List.mem_cons, List.not_mem_nil, or_false] at h
   subst h
   exact ⟨_,_,rfl,rfl,by omega,by omega⟩
 · simp [Tel,has3,hasS]
theorem lcm_two (f u:Nat) (hu:0 < u) (hub:u<=10 ^ 9) (hf:2<=f) (hf2:f<=200):GP.least_multiple.f [.int (2 * (u:Int)),.int ((f:Int) * (u:Int))]=some (.val (.int (if f % 2=0 then (f:Int) * u else 2 * ((f:Int) * u)))):=by
 have e9:(10:Nat) ^ 9=1000000000:=by decide
 have h1:f * u<=200 * u:=Nat.mul_le_mul_right _ hf2
 have g:Nat.gcd (2 * u) (f * u)=Nat.gcd 2 f * u:=Nat.gcd_mul_right _ _ _
 have g2:Nat.gcd 2 f=if f % 2=0 then 2 else 1:=by
  rw [Nat.gcd_rec]
  rcases (by omega:f % 2=0 \/ f % 2=1) with h | h <;> rw [h] <;> rfl
 have big:(10:Nat) ^ 12 < 10 ^ 200:=by decide +kernel
 have big2:(10:Nat) ^ 12 < 2 ^ 4000:=by decide +kernel
 have e12:(10:Nat) ^ 12=1000000000000:=by decide
 rw [e12] at big big2
 rw [e9] at hub
 have fu:0 < f * u:=Nat.mul_pos (by omega) hu
 have k:=lcm_eq (a:=2 * u) (b:=f * u) (by omega) fu (by generalize (2:Nat) ^ 4000=B at *; omega) (by
  have:Nat.gcd (2 * u) (f * u)<=2 * u:=Nat.gcd_le_left _ (by omega)
  generalize (10:Nat) ^ 200=B at *
  omega) (by generalize (10:Nat) ^ 200=B at *; omega)
 rw [g,g2] at k
 have c1:((2 * u:Nat):Int)=2 * (u:Int):=by simp
 have c2:((f * u:Nat):Int)=(f:Int) * (u:Int):=by simp
 rw [c1,c2] at k
 rw [k]
 by_cases h:f % 2=0
 · rw [if_pos h,if_pos h,Nat.div_self (by omega),Nat.one_mul,c2]
 · rw [if_neg h, if_neg h, Nat.one_mul, Nat.mul_div_cancel _ hu, Int.natCast_mul, c2]
   rfl
theorem told2f (f u:Nat) (hu:0 < u) (hub:u<=10 ^ 9) (hf:141<=f) (hf2:f<=156):K86.L_told.f [.int 2,whD (2 * (u:Int)) [(some 0,some (u:Int),some 1)],whD ((f:Int) * (u:Int)) [(some 0,some (u:Int),some 2)],.int 0]=some (.fresh (if (if f % 2=0 then (f:Int)+2 else 2 * (f:Int)+4) > 300 then dueL 2 else [])):=by
 have hub':(u:Int)<=10 ^ 9:=by exact_mod_cast hub
 have w1:Whl (2 * (u:Int)) [((some 0,some (u:Int),some 1):Rw)]:=one_whl (k:=2) (by omega) (by omega) (by omega) hub'
 have w2:Whl ((f:Int) * (u:Int)) [((some 0,some (u:Int),some 2):Rw)]:=one_whl (k:=f) (by omega) (by omega) (by omega) hub'
 have hM:=lcm_two f u hu hub (by omega) (by omega)
 have u0:(0:Int) < u:=by omega
 have h2:2 * (u:Int)<=(f:Int) * u:=Int.mul_le_mul_of_nonneg_right (by omega) (by omega)
 have bd:(f:Int) * u < 10 ^ 150:=by
  have h1:(f:Int) * u<=200 * u:=Int.mul_le_mul_of_nonneg_right (by omega) (by omega)
  have:(10:Int) ^ 12 < 10 ^ 150:=by decide +kernel
  have e:(10:Int) ^ 9=1000000000:=by decide
  have e':(10:Int) ^ 12=1000000000000:=by decide
  rw [e] at hub'
  rw [e'] at this
  generalize (10:Int) ^ 150=B at *
  omega
 have B:(2:Int) * 10 ^ 150 < 10 ^ 200:=by decide +kernel
 have fu0:(f:Int) * u≠0:=by omega
 by_cases h:f % 2=0
 · rw [if_pos h] at hM ⊢
   obtain ⟨j,hj⟩:∃ j:Nat,f=2 * j:=⟨f / 2,by omega⟩
   have e1:(f:Int) * u=(j:Int) * (2 * (u:Int)):=by
    rw [hj,Int.natCast_mul,Int.mul_comm (2:Nat) (j:Int),Int.mul_assoc]
    rfl
   have q1:(f:Int) * u / (2 * (u:Int))=j:=by rw [e1,Int.mul_ediv_cancel _ (by omega)]
   have q2:(f:Int) * u / ((f:Int) * u)=1:=Int.ediv_self fu0
   have r:=told2 w1 w2 (by omega) (by omega) hM (by omega) (by generalize (10:Int) ^ 200=C at *; generalize (10:Int) ^ 150=E at *; omega) ⟨j,e1⟩ ⟨1,by omega⟩ rfl rfl
   rw [q1,q2] at r
   have z:sizeF (2 * (u:Int)) [((some 0,some (u:Int),some 1):Rw)] (j:Int)+sizeF ((f:Int) * u) [((some 0,some (u:Int),some 2):Rw)] 1=(f:Int)+2:=by
    unfold sizeF
    rw [if_neg (by omega),if_neg (by omega)]
    simp
    omega
   rw [z] at r
   exact r
 · rw [if_neg h] at hM ⊢
   have e1:2 * ((f:Int) * u)=(f:Int) * (2 * (u:Int)):=by rw [<- Int.mul_assoc,Int.mul_comm 2 (f:Int),Int.mul_assoc]
   have q1:2 * ((f:Int) * u) / (2 * (u:Int))=f:=by rw [e1,Int.mul_ediv_cancel _ (by omega)]
   have q2:2 * ((f:Int) * u) / ((f:Int) * u)=2:=Int.mul_ediv_cancel _ fu0
   have r:=told2 w1 w2 (by omega) (by omega) hM (by omega) (by generalize (10:Int) ^ 200=C at *; generalize (10:Int) ^ 150=E at *; omega) ⟨f,e1⟩ ⟨2,rfl⟩ rfl rfl
   rw [q1,q2] at r
   have z:sizeF (2 * (u:Int)) [((some 0,some (u:Int),some 1):Rw)] (f:Int)+sizeF ((f:Int) * u) [((some 0,some (u:Int),some 2):Rw)] 2=2 * (f:Int)+4:=by
    unfold sizeF
    rw [if_neg (by omega),if_neg (by omega)]
    simp
    omega
   rw [z] at r
   exact r
theorem pred_div {x T:Int} (hT:1<=T):(x * T - 1) / T=x - 1:=by
 have e1:x * T - 1=(T - 1)+(x - 1) * T:=by
  rw [Int.sub_mul]
  omega
 rw [e1,Int.add_mul_ediv_right _ _ (by omega),Int.ediv_eq_zero_of_lt (by omega) (by omega)]
 omega
theorem kI (p:Prop) [Decidable p] (k:Nat):neD (.lst (if p then dueL k else [])) (.lst (if p then dueL k else []))=some (.bl false):=by
 split
 · exact neD_due [] k
 · exact neD_nn
theorem pieces_eq (m:Nat) (hm:m<=4) (u:Int) (a b c:Sl) (hu:u.natAbs < 2 ^ 64):compG (rng1 (qY 3)) [none,some 4] (zV 0) (fun _=>some true) (mkT (qE (zD (zN yF (zN yF (zF (.int 2)) (zL 0)) (zL 1)) (zD (zN yF (zN xP (zN yF (zF (.int 2)) (zL 0)) (zF (.int 1))) (zL 1)) (zD (qY 0) zS))))) ([a,b,c,.v (.int (m:Int)),.v (.int u)]++List.replicate 12 .no)=some ((pcs m u).map rwD):=by
 have ok:okR (m:Int):=okR_small (by omega) (by omega)
 have it:rng1 (qY 3) ([a,b,c,.v (.int (m:Int)),.v (.int u)]++List.replicate 12 .no)=some ((List.range' 0 m).map fun (i:Nat)=>D.int (i:Int)):=by
  rw [<- rangeD_nat]
  simp [ok]
 refine yS it (by simp; omega) ?_
 have:=compL_filt (ga:=zV 0) (tt:=fun _=>some true) (fe:=mkT (qE (zD (zN yF (zN yF (zF (.int 2)) (zL 0)) (zL 1)) (zD (zN yF (zN xP (zN yF (zF (.int 2)) (zL 0)) (zF (.int 1))) (zL 1)) (zD (qY 0) zS))))) (s0:=[.no,.v (.int u)]) (fun (i:Nat)=>D.int (i:Int)) (fun _=>true) (fun (k:Nat)=>rwD (some (2 * (k:Int) * u),some ((2 * (k:Int)+1) * u),some (k:Int))) (List.range' 0 m) fun k hk=>by
  have m1:yF (.int 2) (.int (k:Int))=some (.int (2 * (k:Int))):=jW (.of_left (jH (by decide)))
  have m2:∀ x,yF (.int x) (.int u)=some (.int (x * u)):=fun x=>jW (.of_right (jH hu))
  refine ⟨[.v (.int (k:Int)),.v (.int u)],by simp,rfl,fun _=>?_⟩
  simp [m1,m2,rwD]
 rw [List.filter_eq_self.mpr (fun _ _=>rfl)] at this
 simp only [yB,List.map_cons,List.map_nil]
 unfold pcs
 rw [List.map_map]
 exact this
theorem turn1 {ds:List Sl} {W:D} {s:Spn} (hs:s.1=none \/ s.2=none) (h10:ds[10]? = some (.v W)) (h8:ds[8]? = some (.v (spD s))):K86.law.b1 ds=some (.nx ds):=by
 have e:=told1n W s hs
 have d:K86.L_due.f [.int 1,.bl true]=some (.fresh (dueL 1)):=due_eq 1 (.inr (.inl rfl)) true
 have n:=neD_due [] 1
 generalize spD s=S at *
 unfold K86.law.b1
 simp [h10,h8,e,d,n,retV]
theorem turn2 {ds:List Sl} {L:Int} {ps:List Rw} (w:Whl L ps) (hl:ps.length<=10) (n:Int) {s:Int} (h1 : -(10 ^ 375) < s) (h2:s < 10 ^ 375) (h10:ds[10]? = some (.v (whD L ps))) (h7:ds[7]? = some (.v (.int s))) (h16:ds[16]? = some (.v (.int n))):K86.law.b2 ds=some (.nx ds):=by
 have e:=told3 w hl n h1 h2
 have d:=due_eq 0 (.inl rfl) (decide (n < 1))
 have nn:=kI (n < 1) 0
 simp only [decide_eq_true_eq,show (0:Int).toNat=0 from rfl] at d
 generalize whD L ps=WL at *
 generalize (if n < 1 then dueL 0 else [])=R at *
 unfold K86.law.b2
 simp [h10,h7,h16,e,d,nn,retV]
theorem run_law (ns:List Int) (hl:ns.length<=63) (hb:∀ c∈ns,intBits c<=1048576):K86.law.f [.lst (ns.map D.int)]=some (.val (.bl true)):=by
 have c0:GL.nth.f [.lst (ns.map D.int),.int 0]=some (.val (.int (cel ns 0))):=vI ns 0
 have c1:GL.nth.f [.lst (ns.map D.int),.int 1]=some (.val (.int (cel ns 1))):=vI ns 1
 have c2:GL.nth.f [.lst (ns.map D.int),.int 2]=some (.val (.int (cel ns 2))):=vI ns 2
 have c3:GL.nth.f [.lst (ns.map D.int),.int 3]=some (.val (.int (cel ns 3))):=vI ns 3
 have c4:GL.nth.f [.lst (ns.map D.int),.int 4]=some (.val (.int (cel ns 4))):=vI ns 4
 have c5:GL.nth.f [.lst (ns.map D.int),.int 5]=some (.val (.int (cel ns 5))):=vI ns 5
 have c6:GL.nth.f [.lst (ns.map D.int),.int 6]=some (.val (.int (cel ns 6))):=vI ns 6
 generalize cel ns 0=z0 at *
 generalize cel ns 1=z1 at *
 generalize cel ns 2=z2 at *
 generalize cel ns 3=z3 at *
 generalize cel ns 4=z4 at *
 generalize cel ns 5=z5 at *
 generalize cel ns 6=z6 at *
 generalize ns.map D.int=N at *
 have p60:powD (.int 10) (.int 60)=some (.int (10 ^ 60)):=pow10 (by decide) (by decide)
 have p9:powD (.int 10) (.int 9)=some (.int (10 ^ 9)):=pow10 (by decide) (by decide)
 have pos60:(0:Int) < 10 ^ 60:=by decide
 obtain ⟨g,hg,eg⟩:=two_ex 1 (-1) (r:=z0 % 2) (by omega) (by omega)
 obtain ⟨h,hh,eh⟩:=two_ex 3 (10 ^ 60) (r:=z0 / 2 % 2) (by omega) (by omega)
 have hp:0 < h:=by rcases hh with rfl | rfl; exact (by decide); exact pos60
 have hx0:=Int.emod_nonneg (z0 / 2) (show h≠0 by omega)
 have hx1:=Int.emod_lt_of_pos (z0 / 2) hp
 have hle:h<=10 ^ 60:=by
  rcases hh with rfl | rfl
  · decide
  · exact Int.le_refl _
 have mg:yF (.int g) (.int (z0 / 2 % h))=some (.int (g * (z0 / 2 % h))):=jW (.of_left (jH (by rcases hg with rfl | rfl <;> decide)))
 have mh:xV (.int (z0 / 2)) (.int h)=some (.int (z0 / 2 % h)):=yT _ hp
 have tb:g * (z0 / 2 % h)+1 - z0 % 2 < 10 ^ 100:=by
  have B:(10:Int) ^ 60+2 < 10 ^ 100:=by decide +kernel
  generalize (10:Int) ^ 100=C at *
  generalize (10:Int) ^ 60=E at *
  rcases hg with rfl | rfl <;> omega
 have e0:=told0 _ tb
 generalize htt:g * (z0 / 2 % h)+1 - z0 % 2=tt at *
 have d0:=due_eq 0 (.inl rfl) (decide (tt < 1))
 have n0:=kI (tt < 1) 0
 simp only [decide_eq_true_eq,show (0:Int).toNat=0 from rfl] at d0
 clear hle hx0 hx1 tb
 obtain ⟨m,hm⟩:∃ m:Nat,(m:Int)=1+z1 % 4:=⟨(1+z1 % 4).toNat,by omega⟩
 have hm1:1<=m:=by omega
 have hm4:m<=4:=by omega
 have r9:xV (.int (z1 / 4)) (.int (10 ^ 9))=some (.int (z1 / 4 % 10 ^ 9)):=yT _ (by decide)
 obtain ⟨u,hu⟩:∃ u:Nat,(u:Int)=1+z1 / 4 % 10 ^ 9:=⟨(1+z1 / 4 % 10 ^ 9).toNat,by
  have:=Int.emod_nonneg (z1 / 4) (show (10 ^ 9:Int)≠0 by decide)
  omega⟩
 have hu1:0 < u:=by
  have:=Int.emod_nonneg (z1 / 4) (show (10 ^ 9:Int)≠0 by decide)
  omega
 have hu9:u<=10 ^ 9:=by
  have:=Int.emod_lt_of_pos (z1 / 4) (show (0:Int) < 10 ^ 9 by decide)
  have e:(10:Int) ^ 9=1000000000:=by decide
  have e':(10:Nat) ^ 9=1000000000:=by decide
  rw [e] at this hu
  rw [e']
  omega
 have hu9':(u:Int)<=10 ^ 9:=by exact_mod_cast hu9
 have eN9:(10:Nat) ^ 9=1000000000:=by decide
 have eI9:(10:Int) ^ 9=1000000000:=by decide
 have ub:((u:Int)).natAbs < 2 ^ 64:=by rw [eN9] at hu9; omega
 have mb:((m:Int)).natAbs < 2 ^ 64:=by omega
 have mulu:∀ x,yF (.int x) (.int (u:Int))=some (.int (x * u)):=fun x=>jW (.of_right (jH ub))
 have mulm:∀ x,yF (.int x) (.int (m:Int))=some (.int (x * m)):=fun x=>jW (.of_right (jH mb))
 have mul2:∀ x,yF (.int x) (.int 2)=some (.int (x * 2)):=fun x=>jW (.of_right (jH (by decide)))
 have w:=pcs_whl hm1 hm4 (show (0:Int) < u by omega) hu9'
 have wl:(pcs m (u:Int)).length=m:=by simp [pcs]
 have pcl:=pieces_eq m hm4 (u:Int) (.v (.lst N)) (.v (.int z0)) (.v (.int tt)) ub
 have ew:=yX w
 have m1:(1:Int) * u<=(m:Int) * u:=Int.mul_le_mul_of_nonneg_right (by omega) (by omega)
 have m4:(m:Int) * u<=4 * u:=Int.mul_le_mul_of_nonneg_right (by omega) (by omega)
 have Tm:2 * (m:Int) * u=2 * ((m:Int) * u):=Int.mul_assoc _ _ _
 have Tm20:20 * (m:Int) * u=20 * ((m:Int) * u):=Int.mul_assoc _ _ _
 have T2:2<=2 * (m:Int) * u:=by omega
 have rl:xV (.int (z2 / 6)) (.int (20 * (m:Int) * u))=some (.int (z2 / 6 % (20 * (m:Int) * u))):=yT _ (by omega)
 have l0:=Int.emod_nonneg (z2 / 6) (show 20 * (m:Int) * u≠0 by omega)
 have l1:=Int.emod_lt_of_pos (z2 / 6) (show 0 < 20 * (m:Int) * u by omega)
 generalize hlow:z2 / 6 % (20 * (m:Int) * u)=low at *
 obtain ⟨s,hs,es⟩:∃ s:Spn,(s.1=none \/ s.2=none)/\ixD (.lst [.tup [.non,.int low],.tup [.int low,.non],.tup [.non,.non]]) (.int (z2 % 3))=some (spD s):=by
  rcases (by omega:z2 % 3=0 \/ z2 % 3=1 \/ z2 % 3=2) with e | e | e <;> rw [e]
  · exact ⟨(none,some low),.inl rfl,rfl⟩
  · exact ⟨(some low,none),.inr rfl,rfl⟩
  · exact ⟨(none,none),.inl rfl,rfl⟩
 obtain ⟨ks,wk,lk,ek⟩:∃ ks:List Rw,Whl 1 ks/\ks.length<=1/\((ixD (.lst [.lst [],.lst [.tup [.int 0,.int 1,.int 5]]]) (.int (z2 / 3 % 2))).bind fun d=>(GP.wheel_of.f [.int 1,d]).bind retV)=some (whD 1 ks):=by
  rcases (by omega:z2 / 3 % 2=0 \/ z2 / 3 % 2=1) with e | e <;> rw [e]
  · refine ⟨[], whl_none, by simp, ?_⟩
    have:=yX whl_none
    simp only [List.map_nil] at this
    have i0:ixD (.lst [.lst [],.lst [.tup [.int 0,.int 1,.int 5]]]) (.int 0)=some (.lst []):=rfl
    rw [i0,Option.bind_some,this]
    rfl
  · refine ⟨[(some 0, some 1, some 5)], whl_fix 5, by simp, ?_⟩
    have:GP.wheel_of.f [.int 1,.lst [.tup [.int 0,.int 1,.int 5]]]=_:=yX (whl_fix 5)
    have i0:ixD (.lst [.lst [],.lst [.tup [.int 0,.int 1,.int 5]]]) (.int 1)=some (.lst [.tup [.int 0,.int 1,.int 5]]):=rfl
    rw [i0,Option.bind_some,this]
    rfl
 have f3:jC (.int 300) (.int ((m:Int)+1))=some (.int (300 / ((m:Int)+1))):=qP (by omega) (by
  have:(10:Int) ^ 3 < 10 ^ 200:=by decide +kernel
  have e:(10:Int) ^ 3=1000:=by decide
  rw [e] at this
  generalize (10:Int) ^ 200=B at *
  omega)
 have f4:jC (.int low) (.int (2 * (m:Int) * u))=some (.int (low / (2 * (m:Int) * u))):=qP (by omega) w.bnd
 have t60:60<=300 / ((m:Int)+1):=by rcases (by omega:m=1 \/ m=2 \/ m=3 \/ m=4) with rfl | rfl | rfl | rfl <;> decide
 have t150:300 / ((m:Int)+1)<=150:=by rcases (by omega:m=1 \/ m=2 \/ m=3 \/ m=4) with rfl | rfl | rfl | rfl <;> decide
 generalize htu:300 / ((m:Int)+1)+z3 % 3 - 1=tu at *
 have tu0:1<=tu:=by omega
 have tuB:tu<=200:=by omega
 have hx:=Int.emod_add_mul_ediv low (2 * (m:Int) * u)
 have hxa:=Int.emod_nonneg low (show 2 * (m:Int) * u≠0 by omega)
 have hxb:=Int.emod_lt_of_pos low (show 0 < 2 * (m:Int) * u by omega)
 have q0:0<=low / (2 * (m:Int) * u):=Int.ediv_nonneg l0 (by omega)
 have qB:low / (2 * (m:Int) * u)<=low:=Int.ediv_le_self _ l0
 have pd:=pred_div (x:=low / (2 * (m:Int) * u)+tu) (T:=2 * (m:Int) * u) (by omega)
 have assoc:(low / (2 * (m:Int) * u)+tu) * 2 * (m:Int) * u=(low / (2 * (m:Int) * u)+tu) * (2 * (m:Int) * u):=by rw [Int.mul_assoc,Int.mul_assoc,Int.mul_assoc]
 have hlt:low < (low / (2 * (m:Int) * u)+tu) * (2 * (m:Int) * u):=by
  have a1:(low / (2 * (m:Int) * u)+1) * (2 * (m:Int) * u)<=(low / (2 * (m:Int) * u)+tu) * (2 * (m:Int) * u):=Int.mul_le_mul_of_nonneg_right (by omega) (by omega)
  rw [Int.add_mul,Int.one_mul,Int.mul_comm (low / _)] at a1
  omega
 have B380:(10:Int) ^ 30 < 10 ^ 375:=by decide +kernel
 have B375:(10:Int) ^ 375 < 10 ^ 380:=by decide +kernel
 have e30:(10:Int) ^ 30=1000000000000000000000000000000:=by decide
 rw [e30] at B380
 rw [eI9] at hu9'
 have bhB:(low / (2 * (m:Int) * u)+tu) * (2 * (m:Int) * u)<=100000000000000000000000:=by
  have a1:(low / (2 * (m:Int) * u)+tu) * (2 * (m:Int) * u)<=100000000000 * (2 * (m:Int) * u):=Int.mul_le_mul_of_nonneg_right (by omega) (by omega)
  omega
 have lowB:low < 10 ^ 375:=by generalize (10:Int) ^ 375=C at *; omega
 have lowA : -(10 ^ 375) < low:=by generalize (10:Int) ^ 375=C at *; omega
 have ec:=told1 w T2 (a:=low) (b:=(low / (2 * (m:Int) * u)+tu) * (2 * (m:Int) * u)) hlt (by generalize (10:Int) ^ 380=C at *; generalize (10:Int) ^ 375=E at *; omega) (by generalize (10:Int) ^ 380=C at *; generalize (10:Int) ^ 375=E at *; omega) (by omega)
 rw [pd,show low / (2 * (m:Int) * u)+tu - 1 - low / (2 * (m:Int) * u)+1=tu by omega] at ec
 have zz:sizeF (2 * (m:Int) * u) (pcs m u) tu=tu * ((m:Int)+1):=by
  unfold sizeF
  rw [if_neg (by omega),wl]
 rw [zz] at ec
 have mtu:yF (.int tu) (.int ((m:Int)+1))=some (.int (tu * ((m:Int)+1))):=jW (.of_right (jH (by omega)))
 generalize hbh:(low / (2 * (m:Int) * u)+tu) * (2 * (m:Int) * u)=bh at *
 have dc:=due_eq 2 (.inr (.inr rfl)) (decide (tu * ((m:Int)+1) > 300))
 have nc:=kI (tu * ((m:Int)+1) > 300) 2
 simp only [decide_eq_true_eq,show (2:Int).toNat=2 from rfl] at dc
 generalize htm:tu * ((m:Int)+1)=tm at *
 obtain ⟨f,hf⟩:∃ f:Nat,(f:Int)=141+z4 % 16:=⟨(141+z4 % 16).toNat,by omega⟩
 have hf1:141<=f:=by omega
 have hf2:f<=156:=by omega
 have ej:=told2f f u hu1 hu9 hf1 hf2
 have v1:GP.wheel_of.f [.int (2 * (u:Int)),.lst [.tup [.int 0,.int (u:Int),.int 1]]]=some (.val (whD (2 * (u:Int)) [(some 0,some (u:Int),some 1)])):=yX (one_whl (k:=2) (by omega) (by omega) (show (0:Int) < u by omega) (by rw [eI9]; exact hu9'))
 have v2:GP.wheel_of.f [.int ((f:Int) * (u:Int)),.lst [.tup [.int 0,.int (u:Int),.int 2]]]=some (.val (whD ((f:Int) * (u:Int)) [(some 0,some (u:Int),some 2)])):=yX (one_whl (k:=f) (by omega) (by omega) (show (0:Int) < u by omega) (by rw [eI9]; exact hu9'))
 obtain ⟨hv,hhv⟩:∃ hv:Int,hv=if f % 2=0 then (f:Int)+2 else 2 * (f:Int)+4:=⟨_,rfl⟩
 rw [<- hhv] at ej
 have dj:=due_eq 2 (.inr (.inr rfl)) (decide (hv > 300))
 have nj:=kI (hv > 300) 2
 simp only [decide_eq_true_eq,show (2:Int).toNat=2 from rfl] at dj
 have mf:yF (.int 2) (.int (f:Int))=some (.int (2 * (f:Int))):=jW (.of_left (jH (by decide)))
 have m2m:yF (.int 2) (.int (m:Int))=some (.int (2 * (m:Int))):=mulm 2
 obtain ⟨y,hy,ey⟩:=two_ex 5 (10 ^ 60) (r:=z6 % 2) (by omega) (by omega)
 have yp:0 < y:=by rcases hy with rfl | rfl; exact (by decide); exact pos60
 have ry:xV (.int z5) (.int y)=some (.int (z5 % y)):=yT _ yp
 generalize hn:z5 % y - 2=n at *
 have hst:∀ X1 X2 X3 X4 X5 X6 X7:Sl,(ifG (qA (zN eqD (zN xV (zL 13) (zF (.int 2))) (zF (.int 0)))) (jT 15 (zN xP (zL 13) (zF (.int 2)))) qR) [X1,X2,X3,X4,X5,X6,X7,.v (.int low),.v (spD s),.v (whD 1 ks),.v (whD (2 * (u:Int)) [(some 0,some (u:Int),some 1)]),.v (.int tu),.v (.int bh),.v (.int (f:Int)),.v (whD ((f:Int) * (u:Int)) [(some 0,some (u:Int),some 2)]),.v (.int (2 * (f:Int)+4)),.no]=some (.nx [X1,X2,X3,X4,X5,X6,X7,.v (.int low),.v (spD s),.v (whD 1 ks),.v (whD (2 * (u:Int)) [(some 0,some (u:Int),some 1)]),.v (.int tu),.v (.int bh),.v (.int (f:Int)),.v (whD ((f:Int) * (u:Int)) [(some 0,some (u:Int),some 2)]),.v (.int hv),.no]):=by
  intro X1 X2 X3 X4 X5 X6 X7
  by_cases hpar:f % 2=0
  · have : (f : Int) % 2 = 0 := by omega
    rw [if_pos hpar] at hhv
    simp [this,hhv]
  · have : (f : Int) % 2 ≠ 0 := by omega
    rw [if_neg hpar] at hhv
    simp [this,hhv]
 have tn1:∀ (ds:List Sl) (W:D),ds[10]? = some (.v W)->ds[8]? = some (.v (spD s))->K86.law.b1 ds=some (.nx ds):=fun ds W a b=>turn1 hs a b
 have tw:∀ ds:List Sl,ds[10]? = some (.v (whD (2 * (m:Int) * u) (pcs m u)))->ds[7]? = some (.v (.int low))->ds[16]? = some (.v (.int n))->K86.law.b2 ds=some (.nx ds):=fun ds a b c=>turn2 w (by omega) n lowA lowB a b c
 have tk:∀ ds:List Sl,ds[10]? = some (.v (whD 1 ks))->ds[7]? = some (.v (.int low))->ds[16]? = some (.v (.int n))->K86.law.b2 ds=some (.nx ds):=fun ds a b c=>turn2 wk (by omega) n lowA lowB a b c
 clear w wk wl pd hlt bhB lowA lowB B380 B375 e30 hx hxa hxb qB q0 zz l0 l1 m1 m4 T2 t60 t150 tu0 tuB hu9 hu9' eN9 eI9 ub mb
 refine xF ?_
 unfold K86.law.g
 generalize hWm:whD (2 * (m:Int) * u) (pcs m u)=Wm at *
 generalize hPm:(pcs m (u:Int)).map rwD=Pm at *
 generalize hWk:whD 1 ks=Wk at *
 generalize hW1:whD (2 * (u:Int)) [(some 0,some (u:Int),some 1)]=W1 at *
 generalize hW2:whD ((f:Int) * (u:Int)) [(some 0,some (u:Int),some 2)]=W2 at *
 generalize spD s=S at *
 generalize (if tt < 1 then dueL 0 else [])=R0 at *
 generalize (if tm > 300 then dueL 2 else [])=R1 at *
 generalize (if hv > 300 then dueL 2 else [])=R2 at *
 have a1:=tn1 [.v (.lst N),.v (.int z2),.v (.int tt),.v (.int (m:Int)),.v (.int (u:Int)),.v (.lst Pm),.v Wm,.v (.int low),.v S,.v Wk,.v Wm,.no,.no,.no,.no,.no,.no] Wm rfl rfl
 have a2:=tn1 [.v (.lst N),.v (.int z2),.v (.int tt),.v (.int (m:Int)),.v (.int (u:Int)),.v (.lst Pm),.v Wm,.v (.int low),.v S,.v Wk,.v Wk,.no,.no,.no,.no,.no,.no] Wk rfl rfl
 have a3:=tw [.v (.lst N),.v (.int z2),.v (.int tt),.v (.int (m:Int)),.v (.int (u:Int)),.v (.lst Pm),.v Wm,.v (.int low),.v S,.v Wk,.v Wm,.v (.int tu),.v (.int bh),.v (.int (f:Int)),.v W2,.v (.int hv),.v (.int n)] rfl rfl rfl
 have a4:=tk [.v (.lst N),.v (.int z2),.v (.int tt),.v (.int (m:Int)),.v (.int (u:Int)),.v (.lst Pm),.v Wm,.v (.int low),.v S,.v Wk,.v Wk,.v (.int tu),.v (.int bh),.v (.int (f:Int)),.v W2,.v (.int hv),.v (.int n)] rfl rfl rfl
 rw [qO (ds':=[.v (.lst N),.v (.int z0),.no,.no,.no,.no,.no,.no,.no,.no,.no,.no,.no,.no,.no,.no,.no]) (by simp [args,c0,retV]),
  qO (ds':=[.v (.lst N),.v (.int z0),.v (.int tt),.no,.no,.no,.no,.no,.no,.no,.no,.no,.no,.no,.no,.no,.no]) (by simp [-Int.reducePow,-Nat.reducePow,p60,eg,eh,mh,mg,htt]),
  qO (ds':=[.v (.lst N),.v (.int z0),.v (.int tt),.no,.no,.no,.no,.no,.no,.no,.no,.no,.no,.no,.no,.no,.no]) (by simp [e0,d0,n0,retV]),
  qO (ds':=[.v (.lst N),.v (.int z0),.v (.int tt),.v (.int (m:Int)),.no,.no,.no,.no,.no,.no,.no,.no,.no,.no,.no,.no,.no]) (by simp [c1,hm,retV]),
  qO (ds':=[.v (.lst N),.v (.int z0),.v (.int tt),.v (.int (m:Int)),.v (.int (u:Int)),.no,.no,.no,.no,.no,.no,.no,.no,.no,.no,.no,.no]) (by simp [-Int.reducePow,-Nat.reducePow,c1,p9,r9,hu,retV]),
  qO (ds':=[.v (.lst N),.v (.int z0),.v (.int tt),.v (.int (m:Int)),.v (.int (u:Int)),.v (.lst Pm),.no,.no,.no,.no,.no,.no,.no,.no,.no,.no,.no]) (by
   have pcl':=pcl
   simp only [List.cons_append,List.nil_append,List.replicate] at pcl'
   simp [pcl']),
  qO (ds':=[.v (.lst N),.v (.int z0),.v (.int tt),.v (.int (m:Int)),.v (.int (u:Int)),.v (.lst Pm),.v Wm,.no,.no,.no,.no,.no,.no,.no,.no,.no,.no]) (by simp [m2m,mulu,ew,retV]),
  qO (ds':=[.v (.lst N),.v (.int z2),.v (.int tt),.v (.int (m:Int)),.v (.int (u:Int)),.v (.lst Pm),.v Wm,.no,.no,.no,.no,.no,.no,.no,.no,.no,.no]) (by simp [c2,retV]),
  qO (ds':=[.v (.lst N),.v (.int z2),.v (.int tt),.v (.int (m:Int)),.v (.int (u:Int)),.v (.lst Pm),.v Wm,.v (.int low),.no,.no,.no,.no,.no,.no,.no,.no,.no]) (by simp [mulm,mulu,rl,hlow]),
  qO (ds':=[.v (.lst N),.v (.int z2),.v (.int tt),.v (.int (m:Int)),.v (.int (u:Int)),.v (.lst Pm),.v Wm,.v (.int low),.v S,.no,.no,.no,.no,.no,.no,.no,.no]) (by simp [es]),
  qO (ds':=[.v (.lst N),.v (.int z2),.v (.int tt),.v (.int (m:Int)),.v (.int (u:Int)),.v (.lst Pm),.v Wm,.v (.int low),.v S,.v Wk,.no,.no,.no,.no,.no,.no,.no]) (by
   have:=ek
   cases hix:ixD (.lst [.lst [],.lst [.tup [.int 0,.int 1,.int 5]]]) (.int (z2 / 3 % 2)) with
   | none=>rw [hix] at this; cases this
   | some dd =>
     rw [hix] at this
     simp only [Option.bind_some] at this
     simp [hix,this]),
  qO (ds':=[.v (.lst N),.v (.int z2),.v (.int tt),.v (.int (m:Int)),.v (.int (u:Int)),.v (.lst Pm),.v Wm,.v (.int low),.v S,.v Wk,.v Wk,.no,.no,.no,.no,.no,.no]) (by simp [jK,a1,a2]),
  qO (ds':=[.v (.lst N),.v (.int z2),.v (.int tt),.v (.int (m:Int)),.v (.int (u:Int)),.v (.lst Pm),.v Wm,.v (.int low),.v S,.v Wk,.v Wk,.v (.int tu),.no,.no,.no,.no,.no]) (by simp [f3,c3,htu,retV]),
  qO (ds':=[.v (.lst N),.v (.int z2),.v (.int tt),.v (.int (m:Int)),.v (.int (u:Int)),.v (.lst Pm),.v Wm,.v (.int low),.v S,.v Wk,.v Wk,.v (.int tu),.v (.int bh),.no,.no,.no,.no]) (by simp [m2m,mulu,f4,mul2,mulm,assoc]),
  qO (ds':=[.v (.lst N),.v (.int z2),.v (.int tt),.v (.int (m:Int)),.v (.int (u:Int)),.v (.lst Pm),.v Wm,.v (.int low),.v S,.v Wk,.v Wk,.v (.int tu),.v (.int bh),.no,.no,.no,.no]) (by simp [ec,mtu,dc,nc,retV]),
  qO (ds':=[.v (.lst N),.v (.int z2),.v (.int tt),.v (.int (m:Int)),.v (.int (u:Int)),.v (.lst Pm),.v Wm,.v (.int low),.v S,.v Wk,.v Wk,.v (.int tu),.v (.int bh),.v (.int (f:Int)),.no,.no,.no]) (by simp [c4,hf,retV]),
  qO (ds':=[.v (.lst N),.v (.int z2),.v (.int tt),.v (.int (m:Int)),.v (.int (u:Int)),.v (.lst Pm),.v Wm,.v (.int low),.v S,.v Wk,.v W1,.v (.int tu),.v (.int bh),.v (.int (f:Int)),.no,.no,.no]) (by simp [mulu,v1,retV]),
  qO (ds':=[.v (.lst N),.v (.int z2),.v (.int tt),.v (.int (m:Int)),.v (.int (u:Int)),.v (.lst Pm),.v Wm,.v (.int low),.v S,.v Wk,.v W1,.v (.int tu),.v (.int bh),.v (.int (f:Int)),.v W2,.no,.no]) (by simp [mulu,v2,retV]),
  qO (ds':=[.v (.lst N),.v (.int z2),.v (.int tt),.v (.int (m:Int)),.v (.int (u:Int)),.v (.lst Pm),.v Wm,.v (.int low),.v S,.v Wk,.v W1,.v (.int tu),.v (.int bh),.v (.int (f:Int)),.v W2,.v (.int (2 * (f:Int)+4)),.no]) (by simp [mf]),
  qO (hst _ _ _ _ _ _ _),
  qO (ds':=[.v (.lst N),.v (.int z2),.v (.int tt),.v (.int (m:Int)),.v (.int (u:Int)),.v (.lst Pm),.v Wm,.v (.int low),.v S,.v Wk,.v W1,.v (.int tu),.v (.int bh),.v (.int (f:Int)),.v W2,.v (.int hv),.no]) (by simp [ej,dj,nj,retV]),
  qO (ds':=[.v (.lst N),.v (.int z2),.v (.int tt),.v (.int (m:Int)),.v (.int (u:Int)),.v (.lst Pm),.v Wm,.v (.int low),.v S,.v Wk,.v W1,.v (.int tu),.v (.int bh),.v (.int (f:Int)),.v W2,.v (.int hv),.v (.int n)]) (by simp [-Int.reducePow,-Nat.reducePow,c5,c6,p60,ey,ry,hn,retV]),
  qO (ds':=[.v (.lst N),.v (.int z2),.v (.int tt),.v (.int (m:Int)),.v (.int (u:Int)),.v (.lst Pm),.v Wm,.v (.int low),.v S,.v Wk,.v Wk,.v (.int tu),.v (.int bh),.v (.int (f:Int)),.v W2,.v (.int hv),.v (.int n)]) (by simp [jK,a3,a4])]
 simp
end K86
namespace K86
open PySem PyProof.Rows L2 FL
set_option maxHeartbeats 0 in
theorem all_mk {l:PySem.W.OpenLaw} {w:World} {K:PySem.W.Frag} {h:Heap} {mg:Str->Option Value} {fa:Addr} (X:K.In h) (G:h.Ns mainGlobals mg) (hfa:mg "law" = some (.ref fa))
  {f0:Addr} {od0 an0:Option Addr} {sl0:Array (Option Value)} {oc0 kV0 dc0 pm0 cd0 ct0:Value}
  {f1:Addr} {od1 an1:Option Addr} {sl1:Array (Option Value)} {oc1 kV1 dc1 pm1 cd1 ct1:Value}
  {f2:Addr} {od2 an2:Option Addr} {sl2:Array (Option Value)} {oc2 kV2 dc2 pm2 cd2 ct2:Value}
  {f3:Addr} {od3 an3:Option Addr} {sl3:Array (Option Value)} {oc3 kV3 dc3 pm3 cd3 ct3:Value}
  {f4:Addr} {od4 an4:Option Addr} {sl4:Array (Option Value)} {oc4 kV4 dc4 pm4 cd4 ct4:Value}
  {f5:Addr} {od5 an5:Option Addr} {sl5:Array (Option Value)} {oc5 kV5 dc5 pm5 cd5 ct5:Value}
  {f6:Addr} {od6 an6:Option Addr} {sl6:Array (Option Value)} {oc6 kV6 dc6 pm6 cd6 ct6:Value}
  {f7:Addr} {od7 an7:Option Addr} {sl7:Array (Option Value)} {oc7 kV7 dc7 pm7 cd7 ct7:Value}
  {f8:Addr} {od8 an8:Option Addr} {sl8:Array (Option Value)} {oc8 kV8 dc8 pm8 cd8 ct8:Value}
  {f9:Addr} {od9 an9:Option Addr} {sl9:Array (Option Value)} {oc9 kV9 dc9 pm9 cd9 ct9:Value}
  {f10:Addr} {od10 an10:Option Addr} {sl10:Array (Option Value)} {oc10 kV10 dc10 pm10 cd10 ct10:Value}
  {f11:Addr} {od11 an11:Option Addr} {sl11:Array (Option Value)} {oc11 kV11 dc11 pm11 cd11 ct11:Value}
  {f12:Addr} {od12 an12:Option Addr} {sl12:Array (Option Value)} {oc12 kV12 dc12 pm12 cd12 ct12:Value}
  {f13:Addr} {od13 an13:Option Addr} {sl13:Array (Option Value)} {oc13 kV13 dc13 pm13 cd13 ct13:Value}
  {f14:Addr} {od14 an14:Option Addr} {sl14:Array (Option Value)} {oc14 kV14 dc14 pm14 cd14 ct14:Value}
  {f15:Addr} {od15 an15:Option Addr} {sl15:Array (Option Value)} {oc15 kV15 dc15 pm15 cd15 ct15:Value}
  {mc15 mq15:Addr} {mo15:Value} {md15:Option Addr} {mv15:Array Value} {ms15:Array (Option Value)}
  {f16:Addr} {od16 an16:Option Addr} {sl16:Array (Option Value)} {oc16 kV16 dc16 pm16 cd16 ct16:Value}
  {f17:Addr} {od17 an17:Option Addr} {sl17:Array (Option Value)} {oc17 kV17 dc17 pm17 cd17 ct17:Value}
  {f18:Addr} {od18 an18:Option Addr} {sl18:Array (Option Value)} {oc18 kV18 dc18 pm18 cd18 ct18:Value}
  {f19:Addr} {od19 an19:Option Addr} {sl19:Array (Option Value)} {oc19 kV19 dc19 pm19 cd19 ct19:Value}
  {f20:Addr} {od20 an20:Option Addr} {sl20:Array (Option Value)} {oc20 kV20 dc20 pm20 cd20 ct20:Value}
  {f21:Addr} {od21 an21:Option Addr} {sl21:Array (Option Value)} {oc21 kV21 dc21 pm21 cd21 ct21:Value}
  {f22:Addr} {od22 an22:Option Addr} {sl22:Array (Option Value)} {oc22 kV22 dc22 pm22 cd22 ct22:Value}
  {f23:Addr} {od23 an23:Option Addr} {sl23:Array (Option Value)} {oc23 kV23 dc23 pm23 cd23 ct23:Value}
  {f24:Addr} {od24 an24:Option Addr} {sl24:Array (Option Value)} {oc24 kV24 dc24 pm24 cd24 ct24:Value}
  {f25:Addr} {od25 an25:Option Addr} {sl25:Array (Option Value)} {oc25 kV25 dc25 pm25 cd25 ct25:Value}
  {f26:Addr} {od26 an26:Option Addr} {sl26:Array (Option Value)} {oc26 kV26 dc26 pm26 cd26 ct26:Value}
  {f27:Addr} {od27 an27:Option Addr} {sl27:Array (Option Value)} {oc27 kV27 dc27 pm27 cd27 ct27:Value}
  {mc27 mq27:Addr} {mo27:Value} {md27:Option Addr} {mv27:Array Value} {ms27:Array (Option Value)}
  {f28:Addr} {od28 an28:Option Addr} {sl28:Array (Option Value)} {oc28 kV28 dc28 pm28 cd28 ct28:Value}
  {f29:Addr} {od29 an29:Option Addr} {sl29:Array (Option Value)} {oc29 kV29 dc29 pm29 cd29 ct29:Value}
  {f30:Addr} {od30 an30:Option Addr} {sl30:Array (Option Value)} {oc30 kV30 dc30 pm30 cd30 ct30:Value}
  {f31:Addr} {od31 an31:Option Addr} {sl31:Array (Option Value)} {oc31 kV31 dc31 pm31 cd31 ct31:Value}
  {f32:Addr} {od32 an32:Option Addr} {sl32:Array (Option Value)} {oc32 kV32 dc32 pm32 cd32 ct32:Value}
  {f33:Addr} {od33 an33:Option Addr} {sl33:Array (Option Value)} {oc33 kV33 dc33 pm33 cd33 ct33:Value}
  {E0:Addr}
  {E1:Addr}
  {E2:Addr}
  {E3:Addr}
  {E4:Addr}
  {E5:Addr}
  {E6:Addr}
  {E7:Addr}
  {E8:Addr}
  {E9:Addr}
  {E10:Addr}
  {E11:Addr}
  {E12:Addr}
  {t0:Tok}
  (a0:PySem.W.nsIn K mainGlobals "later_low" = some (some (.ref f0))) (l0:K.lookup f0=some ⟨oc0,od0,.func (PySem.W.fnOf "later_low" "later_low" (qG (top 18)) (zJ (top 18)) (zC (top 18)) .none kV0 dc0 pm0 an0 cd0 ct0),sl0⟩) (c0:PySem.W.codeIn K cd0 "later_low" = true) (k0:PySem.W.keepIn K (.ref f0)=true)
  (a1:PySem.W.nsIn K mainGlobals "earlier_behind" = some (some (.ref f1))) (l1:K.lookup f1=some ⟨oc1,od1,.func (PySem.W.fnOf "earlier_behind" "earlier_behind" (qG (top 19)) (zJ (top 19)) (zC (top 19)) .none kV1 dc1 pm1 an1 cd1 ct1),sl1⟩) (c1:PySem.W.codeIn K cd1 "earlier_behind" = true) (k1:PySem.W.keepIn K (.ref f1)=true)
  (a2:PySem.W.nsIn K mainGlobals "ends_ahead" = some (some (.ref f2))) (l2:K.lookup f2=some ⟨oc2,od2,.func (PySem.W.fnOf "ends_ahead" "ends_ahead" (qG (top 17)) (zJ (top 17)) (zC (top 17)) .none kV2 dc2 pm2 an2 cd2 ct2),sl2⟩) (c2:PySem.W.codeIn K cd2 "ends_ahead" = true) (k2:PySem.W.keepIn K (.ref f2)=true)
  (a3:PySem.W.nsIn K mainGlobals "meet" = some (some (.ref f3))) (l3:K.lookup f3=some ⟨oc3,od3,.func (PySem.W.fnOf "meet" "meet" (qG (top 15)) (zJ (top 15)) (zC (top 15)) .none kV3 dc3 pm3 an3 cd3 ct3),sl3⟩) (c3:PySem.W.codeIn K cd3 "meet" = true) (k3:PySem.W.keepIn K (.ref f3)=true)
  (a4:PySem.W.nsIn K mainGlobals "length" = some (some (.ref f4))) (l4:K.lookup f4=some ⟨oc4,od4,.func (PySem.W.fnOf "length" "length" (qG (top 16)) (zJ (top 16)) (zC (top 16)) .none kV4 dc4 pm4 an4 cd4 ct4),sl4⟩) (c4:PySem.W.codeIn K cd4 "length" = true) (k4:PySem.W.keepIn K (.ref f4)=true)
  (a5:PySem.W.nsIn K mainGlobals "knit" = some (some (.ref f5))) (l5:K.lookup f5=some ⟨oc5,od5,.func (PySem.W.fnOf "knit" "knit" (qG (top 21)) (zJ (top 21)) (zC (top 21)) .none kV5 dc5 pm5 an5 cd5 ct5),sl5⟩) (c5:PySem.W.codeIn K cd5 "knit" = true) (k5:PySem.W.keepIn K (.ref f5)=true)
  (a6:PySem.W.nsIn K mainGlobals "parts_in" = some (some (.ref f6))) (l6:K.lookup f6=some ⟨oc6,od6,.func (PySem.W.fnOf "parts_in" "parts_in" (qG (top 22)) (zJ (top 22)) (zC (top 22)) .none kV6 dc6 pm6 an6 cd6 ct6),sl6⟩) (c6:PySem.W.codeIn K cd6 "parts_in" = true) (k6:PySem.W.keepIn K (.ref f6)=true)
  (a7:PySem.W.nsIn K mainGlobals "runs_of" = some (some (.ref f7))) (l7:K.lookup f7=some ⟨oc7,od7,.func (PySem.W.fnOf "runs_of" "runs_of" (qG (top 23)) (zJ (top 23)) (zC (top 23)) .none kV7 dc7 pm7 an7 cd7 ct7),sl7⟩) (c7:PySem.W.codeIn K cd7 "runs_of" = true) (k7:PySem.W.keepIn K (.ref f7)=true)
  (a8:PySem.W.nsIn K mainGlobals "paired" = some (some (.ref f8))) (l8:K.lookup f8=some ⟨oc8,od8,.func (PySem.W.fnOf "paired" "paired" (qG (top 24)) (zJ (top 24)) (zC (top 24)) .none kV8 dc8 pm8 an8 cd8 ct8),sl8⟩) (c8:PySem.W.codeIn K cd8 "paired" = true) (k8:PySem.W.keepIn K (.ref f8)=true)
  (a9:PySem.W.nsIn K mainGlobals "farther" = some (some (.ref f9))) (l9:K.lookup f9=some ⟨oc9,od9,.func (PySem.W.fnOf "farther" "farther" (qG (top 27)) (zJ (top 27)) (zC (top 27)) .none kV9 dc9 pm9 an9 cd9 ct9),sl9⟩) (c9:PySem.W.codeIn K cd9 "farther" = true) (k9:PySem.W.keepIn K (.ref f9)=true)
  (a10:PySem.W.nsIn K mainGlobals "shifted" = some (some (.ref f10))) (l10:K.lookup f10=some ⟨oc10,od10,.func (PySem.W.fnOf "shifted" "shifted" (qG (top 26)) (zJ (top 26)) (zC (top 26)) .none kV10 dc10 pm10 an10 cd10 ct10),sl10⟩) (c10:PySem.W.codeIn K cd10 "shifted" = true) (k10:PySem.W.keepIn K (.ref f10)=true)
  (a11:PySem.W.nsIn K mainGlobals "_law_sum" = some (some (.ref f11))) (l11:K.lookup f11=some ⟨oc11,od11,.func (PySem.W.fnOf "_law_sum" "_law_sum" (qG (top 52)) (zJ (top 52)) (zC (top 52)) .none kV11 dc11 pm11 an11 cd11 ct11),sl11⟩) (c11:PySem.W.codeIn K cd11 "_law_sum" = true) (k11:PySem.W.keepIn K (.ref f11)=true)
  (a12:PySem.W.nsIn K mainGlobals "_law_none" = some (some (.ref f12))) (l12:K.lookup f12=some ⟨oc12,od12,.func (PySem.W.fnOf "_law_none" "_law_none" (qG (top 53)) (zJ (top 53)) (zC (top 53)) .none kV12 dc12 pm12 an12 cd12 ct12),sl12⟩) (c12:PySem.W.codeIn K cd12 "_law_none" = true) (k12:PySem.W.keepIn K (.ref f12)=true)
  (a13:PySem.W.nsIn K mainGlobals "joined" = some (some (.ref f13))) (l13:K.lookup f13=some ⟨oc13,od13,.func (PySem.W.fnOf "joined" "joined" (qG (top 29)) (zJ (top 29)) (zC (top 29)) .none kV13 dc13 pm13 an13 cd13 ct13),sl13⟩) (c13:PySem.W.codeIn K cd13 "joined" = true) (k13:PySem.W.keepIn K (.ref f13)=true)
  (a14:PySem.W.nsIn K mainGlobals "turned" = some (some (.ref f14))) (l14:K.lookup f14=some ⟨oc14,od14,.func (PySem.W.fnOf "turned" "turned" (qG (top 30)) (zJ (top 30)) (zC (top 30)) .none kV14 dc14 pm14 an14 cd14 ct14),sl14⟩) (c14:PySem.W.codeIn K cd14 "turned" = true) (k14:PySem.W.keepIn K (.ref f14)=true)
  (a15:PySem.W.nsIn K mainGlobals "holding" = some (some (.ref f15))) (l15:K.lookup f15=some ⟨oc15,od15,.func (PySem.W.fnOf "holding" "holding" (qG (top 33)) (zJ (top 33)) (zC (top 33)) .none kV15 dc15 pm15 an15 cd15 ct15),sl15⟩) (c15:PySem.W.codeIn K cd15 "holding" = true) (k15:PySem.W.keepIn K (.ref f15)=true)
  (mt15:cd15 = .ref mc15) (ml15:K.lookup mc15=some ⟨mo15,md15,.fields mv15,ms15⟩) (mp15:(mv15[11]? : Option Value)=some (.ref mq15))
  (a16:PySem.W.nsIn K mainGlobals "first_run" = some (some (.ref f16))) (l16:K.lookup f16=some ⟨oc16,od16,.func (PySem.W.fnOf "first_run" "first_run" (qG (top 32)) (zJ (top 32)) (zC (top 32)) .none kV16 dc16 pm16 an16 cd16 ct16),sl16⟩) (c16:PySem.W.codeIn K cd16 "first_run" = true) (k16:PySem.W.keepIn K (.ref f16)=true)
  (a17:PySem.W.nsIn K mainGlobals "change_by" = some (some (.ref f17))) (l17:K.lookup f17=some ⟨oc17,od17,.func (PySem.W.fnOf "change_by" "change_by" (qG (top 37)) (zJ (top 37)) (zC (top 37)) .none kV17 dc17 pm17 an17 cd17 ct17),sl17⟩) (c17:PySem.W.codeIn K cd17 "change_by" = true) (k17:PySem.W.keepIn K (.ref f17)=true)
  (a18:PySem.W.nsIn K mainGlobals "comes_again" = some (some (.ref f18))) (l18:K.lookup f18=some ⟨oc18,od18,.func (PySem.W.fnOf "comes_again" "comes_again" (qG (top 39)) (zJ (top 39)) (zC (top 39)) .none kV18 dc18 pm18 an18 cd18 ct18),sl18⟩) (c18:PySem.W.codeIn K cd18 "comes_again" = true) (k18:PySem.W.keepIn K (.ref f18)=true)
  (a19:PySem.W.nsIn K mainGlobals "times_on" = some (some (.ref f19))) (l19:K.lookup f19=some ⟨oc19,od19,.func (PySem.W.fnOf "times_on" "times_on" (qG (top 38)) (zJ (top 38)) (zC (top 38)) .none kV19 dc19 pm19 an19 cd19 ct19),sl19⟩) (c19:PySem.W.codeIn K cd19 "times_on" = true) (k19:PySem.W.keepIn K (.ref f19)=true)
  (a20:PySem.W.nsIn K mainGlobals "changes_on" = some (some (.ref f20))) (l20:K.lookup f20=some ⟨oc20,od20,.func (PySem.W.fnOf "changes_on" "changes_on" (qG (top 36)) (zJ (top 36)) (zC (top 36)) .none kV20 dc20 pm20 an20 cd20 ct20),sl20⟩) (c20:PySem.W.codeIn K cd20 "changes_on" = true) (k20:PySem.W.keepIn K (.ref f20)=true)
  (a21:PySem.W.nsIn K mainGlobals "wheel_of" = some (some (.ref f21))) (l21:K.lookup f21=some ⟨oc21,od21,.func (PySem.W.fnOf "wheel_of" "wheel_of" (qG (top 35)) (zJ (top 35)) (zC (top 35)) .none kV21 dc21 pm21 an21 cd21 ct21),sl21⟩) (c21:PySem.W.codeIn K cd21 "wheel_of" = true) (k21:PySem.W.keepIn K (.ref f21)=true)
  (a22:PySem.W.nsIn K mainGlobals "least_multiple" = some (some (.ref f22))) (l22:K.lookup f22=some ⟨oc22,od22,.func (PySem.W.fnOf "least_multiple" "least_multiple" (qG (top 47)) (zJ (top 47)) (zC (top 47)) .none kV22 dc22 pm22 an22 cd22 ct22),sl22⟩) (c22:PySem.W.codeIn K cd22 "least_multiple" = true) (k22:PySem.W.keepIn K (.ref f22)=true)
  (a23:PySem.W.nsIn K mainGlobals "size_of" = some (some (.ref f23))) (l23:K.lookup f23=some ⟨oc23,od23,.func (PySem.W.fnOf "size_of" "size_of" (qG (top 45)) (zJ (top 45)) (zC (top 45)) .none kV23 dc23 pm23 an23 cd23 ct23),sl23⟩) (c23:PySem.W.codeIn K cd23 "size_of" = true) (k23:PySem.W.keepIn K (.ref f23)=true)
  (a24:PySem.W.nsIn K mainGlobals "rolled_out" = some (some (.ref f24))) (l24:K.lookup f24=some ⟨oc24,od24,.func (PySem.W.fnOf "rolled_out" "rolled_out" (qG (top 46)) (zJ (top 46)) (zC (top 46)) .none kV24 dc24 pm24 an24 cd24 ct24),sl24⟩) (c24:PySem.W.codeIn K cd24 "rolled_out" = true) (k24:PySem.W.keepIn K (.ref f24)=true)
  (a25:PySem.W.nsIn K mainGlobals "wheel_joined" = some (some (.ref f25))) (l25:K.lookup f25=some ⟨oc25,od25,.func (PySem.W.fnOf "wheel_joined" "wheel_joined" (qG (top 42)) (zJ (top 42)) (zC (top 42)) .none kV25 dc25 pm25 an25 cd25 ct25),sl25⟩) (c25:PySem.W.codeIn K cd25 "wheel_joined" = true) (k25:PySem.W.keepIn K (.ref f25)=true)
  (a26:PySem.W.nsIn K mainGlobals "wheel_cut" = some (some (.ref f26))) (l26:K.lookup f26=some ⟨oc26,od26,.func (PySem.W.fnOf "wheel_cut" "wheel_cut" (qG (top 43)) (zJ (top 43)) (zC (top 43)) .none kV26 dc26 pm26 an26 cd26 ct26),sl26⟩) (c26:PySem.W.codeIn K cd26 "wheel_cut" = true) (k26:PySem.W.keepIn K (.ref f26)=true)
  (a27:PySem.W.nsIn K mainGlobals "wheel_run" = some (some (.ref f27))) (l27:K.lookup f27=some ⟨oc27,od27,.func (PySem.W.fnOf "wheel_run" "wheel_run" (qG (top 44)) (zJ (top 44)) (zC (top 44)) .none kV27 dc27 pm27 an27 cd27 ct27),sl27⟩) (c27:PySem.W.codeIn K cd27 "wheel_run" = true) (k27:PySem.W.keepIn K (.ref f27)=true)
  (mt27:cd27 = .ref mc27) (ml27:K.lookup mc27=some ⟨mo27,md27,.fields mv27,ms27⟩) (mp27:(mv27[11]? : Option Value)=some (.ref mq27))
  (a28:PySem.W.nsIn K mainGlobals "_law_nth" = some (some (.ref f28))) (l28:K.lookup f28=some ⟨oc28,od28,.func (PySem.W.fnOf "_law_nth" "_law_nth" (qG (top 49)) (zJ (top 49)) (zC (top 49)) .none kV28 dc28 pm28 an28 cd28 ct28),sl28⟩) (c28:PySem.W.codeIn K cd28 "_law_nth" = true) (k28:PySem.W.keepIn K (.ref f28)=true)
  (a29:PySem.W.nsIn K mainGlobals "_law_classes" = some (some (.ref f29))) (l29:K.lookup f29=some ⟨oc29,od29,.func (PySem.W.fnOf "_law_classes" "_law_classes" (qG (top 51)) (zJ (top 51)) (zC (top 51)) .none kV29 dc29 pm29 an29 cd29 ct29),sl29⟩) (c29:PySem.W.codeIn K cd29 "_law_classes" = true) (k29:PySem.W.keepIn K (.ref f29)=true)
  (a30:PySem.W.nsIn K mainGlobals "_law_asked" = some (some (.ref f30))) (l30:K.lookup f30=some ⟨oc30,od30,.func (PySem.W.fnOf "_law_asked" "_law_asked" (qG (top 54)) (zJ (top 54)) (zC (top 54)) .none kV30 dc30 pm30 an30 cd30 ct30),sl30⟩) (c30:PySem.W.codeIn K cd30 "_law_asked" = true) (k30:PySem.W.keepIn K (.ref f30)=true)
  (a31:PySem.W.nsIn K mainGlobals "_law_told" = some (some (.ref f31))) (l31:K.lookup f31=some ⟨oc31,od31,.func (PySem.W.fnOf "_law_told" "_law_told" (qG (top 55)) (zJ (top 55)) (zC (top 55)) .none kV31 dc31 pm31 an31 cd31 ct31),sl31⟩) (c31:PySem.W.codeIn K cd31 "_law_told" = true) (k31:PySem.W.keepIn K (.ref f31)=true)
  (a32:PySem.W.nsIn K mainGlobals "_law_due" = some (some (.ref f32))) (l32:K.lookup f32=some ⟨oc32,od32,.func (PySem.W.fnOf "_law_due" "_law_due" (qG (top 56)) (zJ (top 56)) (zC (top 56)) .none kV32 dc32 pm32 an32 cd32 ct32),sl32⟩) (c32:PySem.W.codeIn K cd32 "_law_due" = true) (k32:PySem.W.keepIn K (.ref f32)=true)
  (a33:PySem.W.nsIn K mainGlobals "law" = some (some (.ref f33))) (l33:K.lookup f33=some ⟨oc33,od33,.func (PySem.W.fnOf "law" "law" (qG (top 57)) (zJ (top 57)) (zC (top 57)) .none kV33 dc33 pm33 an33 cd33 ct33),sl33⟩) (c33:PySem.W.codeIn K cd33 "law" = true) (k33:PySem.W.keepIn K (.ref f33)=true)
  (xn0:PySem.W.nsIn K mainGlobals "SpanError" = some (some (.ref E0)))
  (xn1:PySem.W.nsIn K mainGlobals "Empty" = some (some (.ref E1)))
  (xn2:PySem.W.nsIn K mainGlobals "NoEnd" = some (some (.ref E2)))
  (xn3:PySem.W.nsIn K mainGlobals "Clash" = some (some (.ref E3)))
  (xn4:PySem.W.nsIn K mainGlobals "NoCount" = some (some (.ref E4)))
  (xn5:PySem.W.nsIn K mainGlobals "NoShare" = some (some (.ref E5)))
  (xn6:PySem.W.nsIn K mainGlobals "NoName" = some (some (.ref E6)))
  (xn7:PySem.W.nsIn K mainGlobals "NoMark" = some (some (.ref E7)))
  (xn8:PySem.W.nsIn K mainGlobals "NoDeed" = some (some (.ref E8)))
  (xn9:PySem.W.nsIn K mainGlobals "NoRule" = some (some (.ref E9)))
  (xn10:PySem.W.nsIn K mainGlobals "TooMuch" = some (some (.ref E10)))
  (xn11:PySem.W.nsIn K mainGlobals "NoText" = some (some (.ref E11)))
  (xn12:PySem.W.nsIn K mainGlobals "NoRow" = some (some (.ref E12)))
  (xe2:PySem.W.excIn K E2 [.type "ValueError",.type "Exception",.type "BaseException",.type "object"] "ValueError.__new__" = true) (xg2:PySem.W.findIn K (.ref E2) "__getattribute__" = some (some (.builtin "BaseException.__getattribute__"))) (xh2:PySem.W.findIn K (.ref E2) "__getattr__" = some none) (xc2:PySem.W.findIn K (.ref E2) "__class__" = some (some (.builtin "object.__class__"))) (xo2:PySem.W.mroIn K E2 (.type "object")=some true)
  (xe4:PySem.W.excIn K E4 [.type "ValueError",.type "Exception",.type "BaseException",.type "object"] "ValueError.__new__" = true) (xg4:PySem.W.findIn K (.ref E4) "__getattribute__" = some (some (.builtin "BaseException.__getattribute__"))) (xh4:PySem.W.findIn K (.ref E4) "__getattr__" = some none) (xc4:PySem.W.findIn K (.ref E4) "__class__" = some (some (.builtin "object.__class__"))) (xo4:PySem.W.mroIn K E4 (.type "object")=some true)
  (xe10:PySem.W.excIn K E10 [.type "ValueError",.type "Exception",.type "BaseException",.type "object"] "ValueError.__new__" = true) (xg10:PySem.W.findIn K (.ref E10) "__getattribute__" = some (some (.builtin "BaseException.__getattribute__"))) (xh10:PySem.W.findIn K (.ref E10) "__getattr__" = some none) (xc10:PySem.W.findIn K (.ref E10) "__class__" = some (some (.builtin "object.__class__"))) (xo10:PySem.W.mroIn K E10 (.type "object")=some true)
  (xb0:PySem.W.mroIn K E0 (.type "BaseException")=some true)
  (xb2:PySem.W.mroIn K E2 (.type "BaseException")=some true)
  (xb4:PySem.W.mroIn K E4 (.type "BaseException")=some true)
  (xb10:PySem.W.mroIn K E10 (.type "BaseException")=some true)
  (xu0:PySem.W.isClsIn K E0=true) (xy0:PySem.W.typeIn K (.ref E0)=some (.type "type"))
  (xu1:PySem.W.isClsIn K E1=true) (xy1:PySem.W.typeIn K (.ref E1)=some (.type "type"))
  (xu2:PySem.W.isClsIn K E2=true) (xy2:PySem.W.typeIn K (.ref E2)=some (.type "type"))
  (xu3:PySem.W.isClsIn K E3=true) (xy3:PySem.W.typeIn K (.ref E3)=some (.type "type"))
  (xu4:PySem.W.isClsIn K E4=true) (xy4:PySem.W.typeIn K (.ref E4)=some (.type "type"))
  (xu5:PySem.W.isClsIn K E5=true) (xy5:PySem.W.typeIn K (.ref E5)=some (.type "type"))
  (xu6:PySem.W.isClsIn K E6=true) (xy6:PySem.W.typeIn K (.ref E6)=some (.type "type"))
  (xu7:PySem.W.isClsIn K E7=true) (xy7:PySem.W.typeIn K (.ref E7)=some (.type "type"))
  (xu8:PySem.W.isClsIn K E8=true) (xy8:PySem.W.typeIn K (.ref E8)=some (.type "type"))
  (xu9:PySem.W.isClsIn K E9=true) (xy9:PySem.W.typeIn K (.ref E9)=some (.type "type"))
  (xu10:PySem.W.isClsIn K E10=true) (xy10:PySem.W.typeIn K (.ref E10)=some (.type "type"))
  (xu11:PySem.W.isClsIn K E11=true) (xy11:PySem.W.typeIn K (.ref E11)=some (.type "type"))
  (xu12:PySem.W.isClsIn K E12=true) (xy12:PySem.W.typeIn K (.ref E12)=some (.type "type"))
  (xs2_0:PySem.W.subIn K (.ref E2) (.ref E0)=some true)
  (xs2_1:PySem.W.subIn K (.ref E2) (.ref E1)=some false)
  (xq2_1:(Value.ref E2 == Value.ref E1)=false)
  (xs2_3:PySem.W.subIn K (.ref E2) (.ref E3)=some false)
  (xq2_3:(Value.ref E2 == Value.ref E3)=false)
  (xs2_4:PySem.W.subIn K (.ref E2) (.ref E4)=some false)
  (xq2_4:(Value.ref E2 == Value.ref E4)=false)
  (xs2_5:PySem.W.subIn K (.ref E2) (.ref E5)=some false)
  (xq2_5:(Value.ref E2 == Value.ref E5)=false)
  (xs2_6:PySem.W.subIn K (.ref E2) (.ref E6)=some false)
  (xq2_6:(Value.ref E2 == Value.ref E6)=false)
  (xs2_7:PySem.W.subIn K (.ref E2) (.ref E7)=some false)
  (xq2_7:(Value.ref E2 == Value.ref E7)=false)
  (xs2_8:PySem.W.subIn K (.ref E2) (.ref E8)=some false)
  (xq2_8:(Value.ref E2 == Value.ref E8)=false)
  (xs2_9:PySem.W.subIn K (.ref E2) (.ref E9)=some false)
  (xq2_9:(Value.ref E2 == Value.ref E9)=false)
  (xs2_10:PySem.W.subIn K (.ref E2) (.ref E10)=some false)
  (xq2_10:(Value.ref E2 == Value.ref E10)=false)
  (xs2_11:PySem.W.subIn K (.ref E2) (.ref E11)=some false)
  (xq2_11:(Value.ref E2 == Value.ref E11)=false)
  (xs2_12:PySem.W.subIn K (.ref E2) (.ref E12)=some false)
  (xq2_12:(Value.ref E2 == Value.ref E12)=false)
  (xs4_0:PySem.W.subIn K (.ref E4) (.ref E0)=some true)
  (xs4_1:PySem.W.subIn K (.ref E4) (.ref E1)=some false)
  (xq4_1:(Value.ref E4 == Value.ref E1)=false)
  (xs4_2:PySem.W.subIn K (.ref E4) (.ref E2)=some false)
  (xq4_2:(Value.ref E4 == Value.ref E2)=false)
  (xs4_3:PySem.W.subIn K (.ref E4) (.ref E3)=some false)
  (xq4_3:(Value.ref E4 == Value.ref E3)=false)
  (xs4_5:PySem.W.subIn K (.ref E4) (.ref E5)=some false)
  (xq4_5:(Value.ref E4 == Value.ref E5)=false)
  (xs4_6:PySem.W.subIn K (.ref E4) (.ref E6)=some false)
  (xq4_6:(Value.ref E4 == Value.ref E6)=false)
  (xs4_7:PySem.W.subIn K (.ref E4) (.ref E7)=some false)
  (xq4_7:(Value.ref E4 == Value.ref E7)=false)
  (xs4_8:PySem.W.subIn K (.ref E4) (.ref E8)=some false)
  (xq4_8:(Value.ref E4 == Value.ref E8)=false)
  (xs4_9:PySem.W.subIn K (.ref E4) (.ref E9)=some false)
  (xq4_9:(Value.ref E4 == Value.ref E9)=false)
  (xs4_10:PySem.W.subIn K (.ref E4) (.ref E10)=some false)
  (xq4_10:(Value.ref E4 == Value.ref E10)=false)
  (xs4_11:PySem.W.subIn K (.ref E4) (.ref E11)=some false)
  (xq4_11:(Value.ref E4 == Value.ref E11)=false)
  (xs4_12:PySem.W.subIn K (.ref E4) (.ref E12)=some false)
  (xq4_12:(Value.ref E4 == Value.ref E12)=false)
  (xs10_0:PySem.W.subIn K (.ref E10) (.ref E0)=some true)
  (xs10_1:PySem.W.subIn K (.ref E10) (.ref E1)=some false)
  (xq10_1:(Value.ref E10 == Value.ref E1)=false)
  (xs10_2:PySem.W.subIn K (.ref E10) (.ref E2)=some false)
  (xq10_2:(Value.ref E10 == Value.ref E2)=false)
  (xs10_3:PySem.W.subIn K (.ref E10) (.ref E3)=some false)
  (xq10_3:(Value.ref E10 == Value.ref E3)=false)
  (xs10_4:PySem.W.subIn K (.ref E10) (.ref E4)=some false)
  (xq10_4:(Value.ref E10 == Value.ref E4)=false)
  (xs10_5:PySem.W.subIn K (.ref E10) (.ref E5)=some false)
  (xq10_5:(Value.ref E10 == Value.ref E5)=false)
  (xs10_6:PySem.W.subIn K (.ref E10) (.ref E6)=some false)
  (xq10_6:(Value.ref E10 == Value.ref E6)=false)
  (xs10_7:PySem.W.subIn K (.ref E10) (.ref E7)=some false)
  (xq10_7:(Value.ref E10 == Value.ref E7)=false)
  (xs10_8:PySem.W.subIn K (.ref E10) (.ref E8)=some false)
  (xq10_8:(Value.ref E10 == Value.ref E8)=false)
  (xs10_9:PySem.W.subIn K (.ref E10) (.ref E9)=some false)
  (xq10_9:(Value.ref E10 == Value.ref E9)=false)
  (xs10_11:PySem.W.subIn K (.ref E10) (.ref E11)=some false)
  (xq10_11:(Value.ref E10 == Value.ref E11)=false)
  (xs10_12:PySem.W.subIn K (.ref E10) (.ref E12)=some false)
  (xq10_12:(Value.ref E10 == Value.ref E12)=false)
  (xs2_ValueError:PySem.W.subIn K (.ref E2) (.type "ValueError")=some true)
  (xs4_ValueError:PySem.W.subIn K (.ref E4) (.type "ValueError")=some true)
  (xs10_ValueError:PySem.W.subIn K (.ref E10) (.type "ValueError")=some true)
  (z0:PySem.W.nsIn K mainGlobals "ValueError" = some none)
  (z1:PySem.W.nsIn K mainGlobals "enumerate" = some none)
  (z2:PySem.W.nsIn K mainGlobals "isinstance" = some none)
  (z3:PySem.W.nsIn K mainGlobals "len" = some none)
  (z4:PySem.W.nsIn K mainGlobals "max" = some none)
  (z5:PySem.W.nsIn K mainGlobals "min" = some none)
  (z6:PySem.W.nsIn K mainGlobals "range" = some none)
  (v0:PySem.W.nsIn K mainGlobals "MOST_SIZE" = some (some (.int 300 t0))) :
  ∃ fd:FuncData,(∀ (s:Shared) (v:Value),BindsTo s fd ⟨[v],[]⟩ [("_law_script",v)])/\∀ base:Heap,K.In base->base.Ns mainGlobals mg->FnOk l.prog w K mg base CX0 9 fa fd ["_law_script"] (spLawB K 63):=by
 have e:=hfa.symm.trans (PySem.W.mg_of X G a33)
 cases e
 have T:Glb K mg:=⟨PySem.W.mg_none_of X G z0,PySem.W.mg_none_of X G z1,PySem.W.mg_none_of X G z2,PySem.W.mg_none_of X G z3,PySem.W.mg_none_of X G z4,PySem.W.mg_none_of X G z5,PySem.W.mg_none_of X G z6,⟨_,PySem.W.mg_of X G v0⟩,⟨E1,PySem.W.mg_of X G xn1,(zW (t:=2) (by exact xn2) ⟨xg2,xh2,xc2,xo2,xb2⟩ (qZ xu1 xy1 xs2_1 xq2_1) (zW (t:=4) (by exact xn4) ⟨xg4,xh4,xc4,xo4,xb4⟩ (qZ xu1 xy1 xs4_1 xq4_1) (zW (t:=10) (by exact xn10) ⟨xg10,xh10,xc10,xo10,xb10⟩ (qZ xu1 xy1 xs10_1 xq10_1) yD)))⟩,⟨E3,PySem.W.mg_of X G xn3,(zW (t:=2) (by exact xn2) ⟨xg2,xh2,xc2,xo2,xb2⟩ (qZ xu3 xy3 xs2_3 xq2_3) (zW (t:=4) (by exact xn4) ⟨xg4,xh4,xc4,xo4,xb4⟩ (qZ xu3 xy3 xs4_3 xq4_3) (zW (t:=10) (by exact xn10) ⟨xg10,xh10,xc10,xo10,xb10⟩ (qZ xu3 xy3 xs10_3 xq10_3) yD)))⟩,⟨E5,PySem.W.mg_of X G xn5,(zW (t:=2) (by exact xn2) ⟨xg2,xh2,xc2,xo2,xb2⟩ (qZ xu5 xy5 xs2_5 xq2_5) (zW (t:=4) (by exact xn4) ⟨xg4,xh4,xc4,xo4,xb4⟩ (qZ xu5 xy5 xs4_5 xq4_5) (zW (t:=10) (by exact xn10) ⟨xg10,xh10,xc10,xo10,xb10⟩ (qZ xu5 xy5 xs10_5 xq10_5) yD)))⟩,⟨E6,PySem.W.mg_of X G xn6,(zW (t:=2) (by exact xn2) ⟨xg2,xh2,xc2,xo2,xb2⟩ (qZ xu6 xy6 xs2_6 xq2_6) (zW (t:=4) (by exact xn4) ⟨xg4,xh4,xc4,xo4,xb4⟩ (qZ xu6 xy6 xs4_6 xq4_6) (zW (t:=10) (by exact xn10) ⟨xg10,xh10,xc10,xo10,xb10⟩ (qZ xu6 xy6 xs10_6 xq10_6) yD)))⟩,⟨E7,PySem.W.mg_of X G xn7,(zW (t:=2) (by exact xn2) ⟨xg2,xh2,xc2,xo2,xb2⟩ (qZ xu7 xy7 xs2_7 xq2_7) (zW (t:=4) (by exact xn4) ⟨xg4,xh4,xc4,xo4,xb4⟩ (qZ xu7 xy7 xs4_7 xq4_7) (zW (t:=10) (by exact xn10) ⟨xg10,xh10,xc10,xo10,xb10⟩ (qZ xu7 xy7 xs10_7 xq10_7) yD)))⟩,⟨E8,PySem.W.mg_of X G xn8,(zW (t:=2) (by exact xn2) ⟨xg2,xh2,xc2,xo2,xb2⟩ (qZ xu8 xy8 xs2_8 xq2_8) (zW (t:=4) (by exact xn4) ⟨xg4,xh4,xc4,xo4,xb4⟩ (qZ xu8 xy8 xs4_8 xq4_8) (zW (t:=10) (by exact xn10) ⟨xg10,xh10,xc10,xo10,xb10⟩ (qZ xu8 xy8 xs10_8 xq10_8) yD)))⟩,⟨E9,PySem.W.mg_of X G xn9,(zW (t:=2) (by exact xn2) ⟨xg2,xh2,xc2,xo2,xb2⟩ (qZ xu9 xy9 xs2_9 xq2_9) (zW (t:=4) (by exact xn4) ⟨xg4,xh4,xc4,xo4,xb4⟩ (qZ xu9 xy9 xs4_9 xq4_9) (zW (t:=10) (by exact xn10) ⟨xg10,xh10,xc10,xo10,xb10⟩ (qZ xu9 xy9 xs10_9 xq10_9) yD)))⟩,⟨E11,PySem.W.mg_of X G xn11,(zW (t:=2) (by exact xn2) ⟨xg2,xh2,xc2,xo2,xb2⟩ (qZ xu11 xy11 xs2_11 xq2_11) (zW (t:=4) (by exact xn4) ⟨xg4,xh4,xc4,xo4,xb4⟩ (qZ xu11 xy11 xs4_11 xq4_11) (zW (t:=10) (by exact xn10) ⟨xg10,xh10,xc10,xo10,xb10⟩ (qZ xu11 xy11 xs10_11 xq10_11) yD)))⟩,⟨E12,PySem.W.mg_of X G xn12,(zW (t:=2) (by exact xn2) ⟨xg2,xh2,xc2,xo2,xb2⟩ (qZ xu12 xy12 xs2_12 xq2_12) (zW (t:=4) (by exact xn4) ⟨xg4,xh4,xc4,xo4,xb4⟩ (qZ xu12 xy12 xs4_12 xq4_12) (zW (t:=10) (by exact xn10) ⟨xg10,xh10,xc10,xo10,xb10⟩ (qZ xu12 xy12 xs10_12 xq10_12) yD)))⟩,⟨E10,PySem.W.mg_of X G xn10,(zW (t:=2) (by exact xn2) ⟨xg2,xh2,xc2,xo2,xb2⟩ (qZ xu10 xy10 xs2_10 xq2_10) (zW (t:=4) (by exact xn4) ⟨xg4,xh4,xc4,xo4,xb4⟩ (qZ xu10 xy10 xs4_10 xq4_10) (zW (t:=10) (by exact xn10) ⟨xg10,xh10,xc10,xo10,xb10⟩ (kit_self E10) yD)))⟩,⟨E4,PySem.W.mg_of X G xn4,(zW (t:=2) (by exact xn2) ⟨xg2,xh2,xc2,xo2,xb2⟩ (qZ xu4 xy4 xs2_4 xq2_4) (zW (t:=4) (by exact xn4) ⟨xg4,xh4,xc4,xo4,xb4⟩ (kit_self E4) (zW (t:=10) (by exact xn10) ⟨xg10,xh10,xc10,xo10,xb10⟩ (qZ xu4 xy4 xs10_4 xq10_4) yD)))⟩,⟨E2,PySem.W.mg_of X G xn2,(zW (t:=2) (by exact xn2) ⟨xg2,xh2,xc2,xo2,xb2⟩ (kit_self E2) (zW (t:=4) (by exact xn4) ⟨xg4,xh4,xc4,xo4,xb4⟩ (qZ xu2 xy2 xs4_2 xq4_2) (zW (t:=10) (by exact xn10) ⟨xg10,xh10,xc10,xo10,xb10⟩ (qZ xu2 xy2 xs10_2 xq10_2) yD)))⟩,(zW (t:=2) (by exact xn2) ⟨xg2,xh2,xc2,xo2,xb2⟩ (kitB_yes (by decide +kernel) xs2_ValueError) (zW (t:=4) (by exact xn4) ⟨xg4,xh4,xc4,xo4,xb4⟩ (kitB_yes (by decide +kernel) xs4_ValueError) (zW (t:=10) (by exact xn10) ⟨xg10,xh10,xc10,xo10,xb10⟩ (kitB_yes (by decide +kernel) xs10_ValueError) yD))),⟨f12,by exact a12,by exact PySem.W.mg_of X G a12⟩,⟨f11,by exact a11,by exact PySem.W.mg_of X G a11⟩⟩
 have XR_2:XR K mg 2 E2:=⟨by exact xn2,by exact PySem.W.mg_of X G xn2,⟨xe2,⟨xg2,xh2,xc2,xo2,xb2⟩⟩⟩
 have XR_4:XR K mg 4 E4:=⟨by exact xn4,by exact PySem.W.mg_of X G xn4,⟨xe4,⟨xg4,xh4,xc4,xo4,xb4⟩⟩⟩
 have XR_10:XR K mg 10 E10:=⟨by exact xn10,by exact PySem.W.mg_of X G xn10,⟨xe10,⟨xg10,xh10,xc10,xo10,xb10⟩⟩⟩
 have XT_2:XT K mg 2 "SpanError" E2 E0:=⟨by exact xn2,PySem.W.mg_of X G xn0,⟨wS xu0 xy0 xs2_0,xb0⟩⟩
 have XT_4:XT K mg 4 "SpanError" E4 E0:=⟨by exact xn4,PySem.W.mg_of X G xn0,⟨wS xu0 xy0 xs4_0,xb0⟩⟩
 have XT_10:XT K mg 10 "SpanError" E10 E0:=⟨by exact xn10,PySem.W.mg_of X G xn0,⟨wS xu0 xy0 xs10_0,xb0⟩⟩
 have F0:=qX (st:=(top 18)) l0 c0 k0
 have b0:=F0.binds (ps:=["one","other"]) fun _ _ _ _ _ _ us hl=>match us,hl with | [_,_],_=>rfl
 have F1:=qX (st:=(top 19)) l1 c1 k1
 have b1:=F1.binds (ps:=["one","other"]) fun _ _ _ _ _ _ us hl=>match us,hl with | [_,_],_=>rfl
 have F2:=qX (st:=(top 17)) l2 c2 k2
 have b2:=F2.binds (ps:=["behind","low"]) fun _ _ _ _ _ _ us hl=>match us,hl with | [_,_],_=>rfl
 have F3:=qX (st:=(top 15)) l3 c3 k3
 have b3:=F3.binds (ps:=["one","other"]) fun _ _ _ _ _ _ us hl=>match us,hl with | [_,_],_=>rfl
 have F4:=qX (st:=(top 16)) l4 c4 k4
 have b4:=F4.binds (ps:=["one"]) fun _ _ _ _ _ _ us hl=>match us,hl with | [_],_=>rfl
 have F5:=qX (st:=(top 21)) l5 c5 k5
 have b5:=F5.binds (ps:=["rows"]) fun _ _ _ _ _ _ us hl=>match us,hl with | [_],_=>rfl
 have F6:=qX (st:=(top 22)) l6 c6 k6
 have b6:=F6.binds (ps:=["pieces","within"]) fun _ _ _ _ _ _ us hl=>match us,hl with | [_,_],_=>rfl
 have F7:=qX (st:=(top 23)) l7 c7 k7
 have b7:=F7.binds (ps:=["pieces"]) fun _ _ _ _ _ _ us hl=>match us,hl with | [_],_=>rfl
 have F8:=qX (st:=(top 24)) l8 c8 k8
 have b8:=F8.binds (ps:=["one","other"]) fun _ _ _ _ _ _ us hl=>match us,hl with | [_,_],_=>rfl
 have F9:=qX (st:=(top 27)) l9 c9 k9
 have b9:=F9.binds (ps:=["side","far"]) fun _ _ _ _ _ _ us hl=>match us,hl with | [_,_],_=>rfl
 have F10:=qX (st:=(top 26)) l10 c10 k10
 have b10:=F10.binds (ps:=["pieces","far"]) fun _ _ _ _ _ _ us hl=>match us,hl with | [_,_],_=>rfl
 have F11:=qX (st:=(top 52)) l11 c11 k11
 have b11:=F11.binds (ps:=["_law_one","_law_other"]) fun _ _ _ _ _ _ us hl=>match us,hl with | [_,_],_=>rfl
 have F12:=qX (st:=(top 53)) l12 c12 k12
 have b12:=F12.binds (ps:=["_law_one"]) fun _ _ _ _ _ _ us hl=>match us,hl with | [_],_=>rfl
 have F13:=qX (st:=(top 29)) l13 c13 k13
 have b13:=F13.binds (ps:=["one","other","way"]) fun _ _ _ _ _ _ us hl=>match us,hl with | [_,_,_],_=>rfl
 have F14:=qX (st:=(top 30)) l14 c14 k14
 have b14:=F14.binds (ps:=["pieces","way"]) fun _ _ _ _ _ _ us hl=>match us,hl with | [_,_],_=>rfl
 have F15:=qX (st:=(top 33)) l15 c15 k15
 have M_holding:Mkr K "holding" 4 (top 33) _ mc15 mq15:=mkr_mk rfl a15 l15 mt15 ml15 mp15
 have b15:=F15.binds (ps:=["pieces","test"]) fun _ _ _ _ _ _ us hl=>match us,hl with | [_,_],_=>rfl
 have F16:=qX (st:=(top 32)) l16 c16 k16
 have b16:=F16.binds (ps:=["pieces","start","many","test"]) fun _ _ _ _ _ _ us hl=>match us,hl with | [_,_,_,_],_=>rfl
 have F17:=qX (st:=(top 37)) l17 c17 k17
 have b17:=F17.binds (ps:=["turn","changes","number"]) fun _ _ _ _ _ _ us hl=>match us,hl with | [_,_,_],_=>rfl
 have F18:=qX (st:=(top 39)) l18 c18 k18
 have b18:=F18.binds (ps:=["turn","changes","times"]) fun _ _ _ _ _ _ us hl=>match us,hl with | [_,_,_],_=>rfl
 have F19:=qX (st:=(top 38)) l19 c19 k19
 have b19:=F19.binds (ps:=["turn","changes"]) fun _ _ _ _ _ _ us hl=>match us,hl with | [_,_],_=>rfl
 have F20:=qX (st:=(top 36)) l20 c20 k20
 have b20:=F20.binds (ps:=["turn","pieces"]) fun _ _ _ _ _ _ us hl=>match us,hl with | [_,_],_=>rfl
 have F21:=qX (st:=(top 35)) l21 c21 k21
 have b21:=F21.binds (ps:=["turn","pieces"]) fun _ _ _ _ _ _ us hl=>match us,hl with | [_,_],_=>rfl
 have F22:=qX (st:=(top 47)) l22 c22 k22
 have b22:=F22.binds (ps:=["one","other"]) fun _ _ _ _ _ _ us hl=>match us,hl with | [_,_],_=>rfl
 have F23:=qX (st:=(top 45)) l23 c23 k23
 have b23:=F23.binds (ps:=["wheel","turns"]) fun _ _ _ _ _ _ us hl=>match us,hl with | [_,_],_=>rfl
 have F24:=qX (st:=(top 46)) l24 c24 k24
 have b24:=F24.binds (ps:=["wheel","over"]) fun _ _ _ _ _ _ us hl=>match us,hl with | [_,_],_=>rfl
 have F25:=qX (st:=(top 42)) l25 c25 k25
 have b25:=F25.binds (ps:=["one","other","way"]) fun _ _ _ _ _ _ us hl=>match us,hl with | [_,_,_],_=>rfl
 have F26:=qX (st:=(top 43)) l26 c26 k26
 have b26:=F26.binds (ps:=["wheel","span"]) fun _ _ _ _ _ _ us hl=>match us,hl with | [_,_],_=>rfl
 have F27:=qX (st:=(top 44)) l27 c27 k27
 have M_wheel_run:Mkr K "wheel_run" 9 (top 44) _ mc27 mq27:=mkr_mk rfl a27 l27 mt27 ml27 mp27
 have b27:=F27.binds (ps:=["wheel","start","many","test"]) fun _ _ _ _ _ _ us hl=>match us,hl with | [_,_,_,_],_=>rfl
 have F28:=qX (st:=(top 49)) l28 c28 k28
 have b28:=F28.binds (ps:=["_law_script","_law_k"]) fun _ _ _ _ _ _ us hl=>match us,hl with | [_,_],_=>rfl
 have F29:=qX (st:=(top 51)) l29 c29 k29
 have b29:=F29.binds (ps:=["_law_e"]) fun _ _ _ _ _ _ us hl=>match us,hl with | [_],_=>rfl
 have F30:=qX (st:=(top 54)) l30 c30 k30
 have b30:=F30.binds (ps:=["_law_which","_law_one","_law_two","_law_three"]) fun _ _ _ _ _ _ us hl=>match us,hl with | [_,_,_,_],_=>rfl
 have F31:=qX (st:=(top 55)) l31 c31 k31
 have b31:=F31.binds (ps:=["_law_which","_law_one","_law_two","_law_three"]) fun _ _ _ _ _ _ us hl=>match us,hl with | [_,_,_,_],_=>rfl
 have F32:=qX (st:=(top 56)) l32 c32 k32
 have b32:=F32.binds (ps:=["_law_which","_law_bad"]) fun _ _ _ _ _ _ us hl=>match us,hl with | [_,_],_=>rfl
 have F33:=qX (st:=(top 57)) l33 c33 k33
 refine ⟨PySem.W.fnOf "law" "law" (qG (top 57)) (zJ (top 57)) (zC (top 57)) .none kV33 dc33 pm33 an33 cd33 ct33,fun s v=>.of_eq rfl,fun base _ _=>?_⟩
 have G0:=fok_later_low (P:=l.prog) (w:=w) (base:=base) F0 T
 have C_later_low:Cal l.prog w K mg base "later_low" 1 2 GP.later_low.f:=⟨f0,_,_,G0,b0,k0,PySem.W.mg_of X G a0⟩
 have G1:=fok_earlier_behind (P:=l.prog) (w:=w) (base:=base) F1 T
 have C_earlier_behind:Cal l.prog w K mg base "earlier_behind" 1 2 GP.earlier_behind.f:=⟨f1,_,_,G1,b1,k1,PySem.W.mg_of X G a1⟩
 have G2:=fok_ends_ahead (P:=l.prog) (w:=w) (base:=base) F2 T
 have C_ends_ahead:Cal l.prog w K mg base "ends_ahead" 1 2 GP.ends_ahead.f:=⟨f2,_,_,G2,b2,k2,PySem.W.mg_of X G a2⟩
 have G3:=fok_meet (P:=l.prog) (w:=w) (base:=base) F3 T C_later_low C_earlier_behind C_ends_ahead
 have C_meet:Cal l.prog w K mg base "meet" 2 2 GP.meet.f:=⟨f3,_,_,G3,b3,k3,PySem.W.mg_of X G a3⟩
 have G4:=fok_length (P:=l.prog) (w:=w) (base:=base) F4 T
 have C_length:Cal l.prog w K mg base "length" 1 1 GP.length.f:=⟨f4,_,_,G4,b4,k4,PySem.W.mg_of X G a4⟩
 have G5:=fok_knit (P:=l.prog) (w:=w) (base:=base) F5 T
 have C_knit:Cal l.prog w K mg base "knit" 1 1 GP.knit.f:=⟨f5,_,_,G5,b5,k5,PySem.W.mg_of X G a5⟩
 have G6:=fok_parts_in (P:=l.prog) (w:=w) (base:=base) F6 T C_meet
 have C_parts_in:Cal l.prog w K mg base "parts_in" 3 2 GP.parts_in.f:=⟨f6,_,_,G6,b6,k6,PySem.W.mg_of X G a6⟩
 have G7:=fok_runs_of (P:=l.prog) (w:=w) (base:=base) F7 T
 have C_runs_of:Cal l.prog w K mg base "runs_of" 1 1 GP.runs_of.f:=⟨f7,_,_,G7,b7,k7,PySem.W.mg_of X G a7⟩
 have G8:=fok_paired (P:=l.prog) (w:=w) (base:=base) F8 T C_runs_of C_earlier_behind
 have C_paired:Cal l.prog w K mg base "paired" 2 2 GP.paired.f:=⟨f8,_,_,G8,b8,k8,PySem.W.mg_of X G a8⟩
 have G9:=fok_farther (P:=l.prog) (w:=w) (base:=base) F9 T
 have C_farther:Cal l.prog w K mg base "farther" 1 2 GP.farther.f:=⟨f9,_,_,G9,b9,k9,PySem.W.mg_of X G a9⟩
 have G10:=fok_shifted (P:=l.prog) (w:=w) (base:=base) F10 T C_farther
 have C_shifted:Cal l.prog w K mg base "shifted" 2 2 GP.shifted.f:=⟨f10,_,_,G10,b10,k10,PySem.W.mg_of X G a10⟩
 have G11:=fok__law_sum (P:=l.prog) (w:=w) (base:=base) F11 T
 have V__law_sum:CalV l.prog w K mg base 7 1 2 K86.L_sum.f:=⟨f11,_,_,_,_,_,G11,b11,by exact a11,l11⟩
 have C__law_sum:Cal l.prog w K mg base "_law_sum" 1 2 K86.L_sum.f:=⟨f11,_,_,G11,b11,k11,PySem.W.mg_of X G a11⟩
 have G12:=fok__law_none (P:=l.prog) (w:=w) (base:=base) F12 T
 have V__law_none:CalV l.prog w K mg base 8 1 1 K86.L_none.f:=⟨f12,_,_,_,_,_,G12,b12,by exact a12,l12⟩
 have C__law_none:Cal l.prog w K mg base "_law_none" 1 1 K86.L_none.f:=⟨f12,_,_,G12,b12,k12,PySem.W.mg_of X G a12⟩
 have CO0:=clo_ok0 (P:=l.prog) (w:=w) (base:=base) T M_holding M_wheel_run V__law_sum V__law_none
 have CO:=clo_ok (P:=l.prog) (w:=w) (base:=base) T CO0 M_holding M_wheel_run V__law_sum V__law_none
 have G13:=fok_joined (P:=l.prog) (w:=w) (base:=base) F13 T C_paired C_knit CO
 have C_joined:Cal l.prog w K mg base "joined" 3 3 (GP.joined.f K86.Phi):=⟨f13,_,_,G13,b13,k13,PySem.W.mg_of X G a13⟩
 have G14:=fok_turned (P:=l.prog) (w:=w) (base:=base) F14 T C_knit C_runs_of CO
 have C_turned:Cal l.prog w K mg base "turned" 3 2 (GP.turned.f K86.Phi):=⟨f14,_,_,G14,b14,k14,PySem.W.mg_of X G a14⟩
 have G15:=fok_holding (P:=l.prog) (w:=w) (base:=base) F15 T C_turned M_holding
 have C_holding:Cal l.prog w K mg base "holding" 4 2 (GP.holding.f K86.Phi):=⟨f15,_,_,G15,b15,k15,PySem.W.mg_of X G a15⟩
 have GX16_4:=fokx_first_run_4 (P:=l.prog) (w:=w) (base:=base) F16 T C_parts_in C_runs_of C_holding XR_4
 have CX_first_run_4:CalX l.prog w K mg base "first_run" 5 4 K86.X_first_run_4.f E4:=⟨f16,_,_,GX16_4,b16,k16,PySem.W.mg_of X G a16⟩
 have G16:=fok_first_run (P:=l.prog) (w:=w) (base:=base) F16 T C_parts_in C_runs_of C_holding
 have C_first_run:Cal l.prog w K mg base "first_run" 5 4 (GP.first_run.f K86.Phi):=⟨f16,_,_,G16,b16,k16,PySem.W.mg_of X G a16⟩
 have G17:=fok_change_by (P:=l.prog) (w:=w) (base:=base) F17 T
 have C_change_by:Cal l.prog w K mg base "change_by" 1 3 GP.change_by.f:=⟨f17,_,_,G17,b17,k17,PySem.W.mg_of X G a17⟩
 have G18:=fok_comes_again (P:=l.prog) (w:=w) (base:=base) F18 T C_change_by
 have C_comes_again:Cal l.prog w K mg base "comes_again" 2 3 GP.comes_again.f:=⟨f18,_,_,G18,b18,k18,PySem.W.mg_of X G a18⟩
 have G19:=fok_times_on (P:=l.prog) (w:=w) (base:=base) F19 T C_comes_again
 have C_times_on:Cal l.prog w K mg base "times_on" 3 2 GP.times_on.f:=⟨f19,_,_,G19,b19,k19,PySem.W.mg_of X G a19⟩
 have G20:=fok_changes_on (P:=l.prog) (w:=w) (base:=base) F20 T C_parts_in C_runs_of
 have C_changes_on:Cal l.prog w K mg base "changes_on" 4 2 GP.changes_on.f:=⟨f20,_,_,G20,b20,k20,PySem.W.mg_of X G a20⟩
 have GX21_4:=fokx_wheel_of_4 (P:=l.prog) (w:=w) (base:=base) F21 T C_times_on C_parts_in C_changes_on XR_4
 have CX_wheel_of_4:CalX l.prog w K mg base "wheel_of" 5 2 K86.X_wheel_of_4.f E4:=⟨f21,_,_,GX21_4,b21,k21,PySem.W.mg_of X G a21⟩
 have G21:=fok_wheel_of (P:=l.prog) (w:=w) (base:=base) F21 T C_times_on C_parts_in C_changes_on
 have C_wheel_of:Cal l.prog w K mg base "wheel_of" 5 2 GP.wheel_of.f:=⟨f21,_,_,G21,b21,k21,PySem.W.mg_of X G a21⟩
 have G22:=fok_least_multiple (P:=l.prog) (w:=w) (base:=base) F22 T
 have C_least_multiple:Cal l.prog w K mg base "least_multiple" 1 2 GP.least_multiple.f:=⟨f22,_,_,G22,b22,k22,PySem.W.mg_of X G a22⟩
 have G23:=fok_size_of (P:=l.prog) (w:=w) (base:=base) F23 T
 have C_size_of:Cal l.prog w K mg base "size_of" 1 2 GP.size_of.f:=⟨f23,_,_,G23,b23,k23,PySem.W.mg_of X G a23⟩
 have G24:=fok_rolled_out (P:=l.prog) (w:=w) (base:=base) F24 T C_parts_in C_knit C_shifted
 have C_rolled_out:Cal l.prog w K mg base "rolled_out" 4 2 GP.rolled_out.f:=⟨f24,_,_,G24,b24,k24,PySem.W.mg_of X G a24⟩
 have GX25_4:=fokx_wheel_joined_4 (P:=l.prog) (w:=w) (base:=base) F25 T C_least_multiple C_wheel_of C_joined C_size_of C_rolled_out CX_wheel_of_4
 have CX_wheel_joined_4:CalX l.prog w K mg base "wheel_joined" 6 3 K86.X_wheel_joined_4.f E4:=⟨f25,_,_,GX25_4,b25,k25,PySem.W.mg_of X G a25⟩
 have GX25_10:=fokx_wheel_joined_10 (P:=l.prog) (w:=w) (base:=base) F25 T C_least_multiple C_wheel_of C_joined C_size_of C_rolled_out XR_10
 have CX_wheel_joined_10:CalX l.prog w K mg base "wheel_joined" 6 3 K86.X_wheel_joined_10.f E10:=⟨f25,_,_,GX25_10,b25,k25,PySem.W.mg_of X G a25⟩
 have G25:=fok_wheel_joined (P:=l.prog) (w:=w) (base:=base) F25 T C_least_multiple C_wheel_of C_joined C_size_of C_rolled_out
 have C_wheel_joined:Cal l.prog w K mg base "wheel_joined" 6 3 (GP.wheel_joined.f K86.Phi):=⟨f25,_,_,G25,b25,k25,PySem.W.mg_of X G a25⟩
 have GX26_2:=fokx_wheel_cut_2 (P:=l.prog) (w:=w) (base:=base) F26 T C_rolled_out C_length C_size_of XR_2
 have CX_wheel_cut_2:CalX l.prog w K mg base "wheel_cut" 5 2 K86.X_wheel_cut_2.f E2:=⟨f26,_,_,GX26_2,b26,k26,PySem.W.mg_of X G a26⟩
 have GX26_10:=fokx_wheel_cut_10 (P:=l.prog) (w:=w) (base:=base) F26 T C_rolled_out C_length C_size_of XR_10
 have CX_wheel_cut_10:CalX l.prog w K mg base "wheel_cut" 5 2 K86.X_wheel_cut_10.f E10:=⟨f26,_,_,GX26_10,b26,k26,PySem.W.mg_of X G a26⟩
 have G26:=fok_wheel_cut (P:=l.prog) (w:=w) (base:=base) F26 T C_rolled_out C_length C_size_of
 have C_wheel_cut:Cal l.prog w K mg base "wheel_cut" 5 2 GP.wheel_cut.f:=⟨f26,_,_,G26,b26,k26,PySem.W.mg_of X G a26⟩
 have GX27_4:=fokx_wheel_run_4 (P:=l.prog) (w:=w) (base:=base) F27 T C_wheel_of C_holding C_first_run C_rolled_out M_wheel_run CX_wheel_of_4 CX_first_run_4
 have CX_wheel_run_4:CalX l.prog w K mg base "wheel_run" 6 4 K86.X_wheel_run_4.f E4:=⟨f27,_,_,GX27_4,b27,k27,PySem.W.mg_of X G a27⟩
 have G27:=fok_wheel_run (P:=l.prog) (w:=w) (base:=base) F27 T C_wheel_of C_holding C_first_run C_rolled_out M_wheel_run
 have C_wheel_run:Cal l.prog w K mg base "wheel_run" 6 4 (GP.wheel_run.f K86.Phi):=⟨f27,_,_,G27,b27,k27,PySem.W.mg_of X G a27⟩
 have G28:=fok__law_nth (P:=l.prog) (w:=w) (base:=base) F28 T
 have C__law_nth:Cal l.prog w K mg base "_law_nth" 1 2 GL.nth.f:=⟨f28,_,_,G28,b28,k28,PySem.W.mg_of X G a28⟩
 have GH29:=fokh__law_classes (P:=l.prog) (w:=w) (base:=base) F29 T
 have CH__law_classes:CalH l.prog w K mg base "_law_classes" 1 K86.H__law_classes.h:=⟨f29,_,_,GH29,b29,k29,PySem.W.mg_of X G a29⟩
 have GX30_2:=fokx__law_asked_2 (P:=l.prog) (w:=w) (base:=base) F30 T C_wheel_run C_wheel_of C_wheel_cut C_wheel_joined CX_wheel_cut_2
 have CX__law_asked_2:CalX l.prog w K mg base "_law_asked" 7 4 K86.X__law_asked_2.f E2:=⟨f30,_,_,GX30_2,b30,k30,PySem.W.mg_of X G a30⟩
 have GX30_4:=fokx__law_asked_4 (P:=l.prog) (w:=w) (base:=base) F30 T C_wheel_run C_wheel_of C_wheel_cut C_wheel_joined CX_wheel_run_4 CX_wheel_of_4 CX_wheel_joined_4
 have CX__law_asked_4:CalX l.prog w K mg base "_law_asked" 7 4 K86.X__law_asked_4.f E4:=⟨f30,_,_,GX30_4,b30,k30,PySem.W.mg_of X G a30⟩
 have GX30_10:=fokx__law_asked_10 (P:=l.prog) (w:=w) (base:=base) F30 T C_wheel_run C_wheel_of C_wheel_cut C_wheel_joined CX_wheel_cut_10 CX_wheel_joined_10
 have CX__law_asked_10:CalX l.prog w K mg base "_law_asked" 7 4 K86.X__law_asked_10.f E10:=⟨f30,_,_,GX30_10,b30,k30,PySem.W.mg_of X G a30⟩
 have G30:=fok__law_asked (P:=l.prog) (w:=w) (base:=base) F30 T C_wheel_run C_wheel_of C_wheel_cut C_wheel_joined
 have C__law_asked:CalA l.prog w K mg base "_law_asked" 7 4 K86.L_asked.f:=⟨f30,_,_,G30,b30,k30,PySem.W.mg_of X G a30⟩
 have G31:=fok__law_told (P:=l.prog) (w:=w) (base:=base) F31 T C__law_asked CH__law_classes XT_2 CX__law_asked_2 XT_4 CX__law_asked_4 XT_10 CX__law_asked_10
 have C__law_told:Cal l.prog w K mg base "_law_told" 8 4 K86.L_told.f:=⟨f31,_,_,G31,b31,k31,PySem.W.mg_of X G a31⟩
 have G32:=fok__law_due (P:=l.prog) (w:=w) (base:=base) F32 T
 have C__law_due:Cal l.prog w K mg base "_law_due" 1 2 K86.L_due.f:=⟨f32,_,_,G32,b32,k32,PySem.W.mg_of X G a32⟩
 exact law_ofB (F:=K86.law.f) (fok_law F33 T C__law_nth C_wheel_of C__law_told C__law_due) run_law
end K86
def PySem.W.Fast.tw17468951582080116780:Unit:=()
def PySem.W.Fast.tw18151603244180474945:Unit:=()
def PySem.W.Fast.tw17567839351277691229:Unit:=()
def PySem.W.Fast.tw6828176036986592008:Unit:=()
def PySem.W.Fast.tw5884362451155011101:Unit:=()
def PySem.W.Fast.tw4978732733153749536:Unit:=()
def PySem.W.Fast.tw2228720528431005045:Unit:=()
def PySem.W.Fast.tw4709604735987564087:Unit:=()
def PySem.W.Fast.tw10257600130905573706:Unit:=()
def PySem.W.Fast.tw3751023033062792514:Unit:=()
def PySem.W.Fast.tw14303884958782454954:Unit:=()
def PySem.W.Fast.tw1335038109771225838:Unit:=()
def PySem.W.Fast.tw583504691742745018:Unit:=()
def PySem.W.Fast.tw2743233655802012519:Unit:=()
def PySem.W.Fast.tw10093227229789814636:Unit:=()
def PySem.W.Fast.tw2376931887523785709:Unit:=()
def PySem.W.Fast.tw3015757393184623229:Unit:=()
def PySem.W.Fast.tw3590090786173179484:Unit:=()
def PySem.W.Fast.tw4185550968341748738:Unit:=()
open PySem PySem.W PyProof.Rows
set_option maxRecDepth 100000 in
set_option maxHeartbeats 0 in
theorem PySem.Challenge.cw_spanmap_k86_refused_wheels_holds : PySem.Challenge.rw_spanmap_k86_refused_wheels.Holds := by
 w_on; o_law; k_head; (case hw=>w_witness2)
 k_fill
 refine' FL.walkB (l:=PySem.Challenge.rw_spanmap_k86_refused_wheels) (k:=9) rfl rfl ⟨rfl,by decide,by decide⟩ (fun w h Y=>PySem.W.km_in_of Y) (fun w=>by kernel_rfl) ?T ?F
 case T =>
  intro w
  dsimp only [L2.makers]
  repeat (first
   | exact FL.TabL.nil
   | (apply FL.tabL_no; k_is)
   | (apply FL.tabL_yes; k_is; k_is; exact rfl; k_is; exact rfl; kernel_rfl))
  all_goals decide
 case F =>
  intro w mg fa h KX G hmg
  refine' K86.all_mk KX G hmg ?a0 ?l0 ?c0 ?k0 ?a1 ?l1 ?c1 ?k1 ?a2 ?l2 ?c2 ?k2 ?a3 ?l3 ?c3 ?k3 ?a4 ?l4 ?c4 ?k4 ?a5 ?l5 ?c5 ?k5 ?a6 ?l6 ?c6 ?k6 ?a7 ?l7 ?c7 ?k7 ?a8 ?l8 ?c8 ?k8 ?a9 ?l9 ?c9 ?k9 ?a10 ?l10 ?c10 ?k10 ?a11 ?l11 ?c11 ?k11 ?a12 ?l12 ?c12 ?k12 ?a13 ?l13 ?c13 ?k13 ?a14 ?l14 ?c14 ?k14 ?a15 ?l15 ?c15 ?k15 ?mt15 ?ml15 ?mp15 ?a16 ?l16 ?c16 ?k16 ?a17 ?l17 ?c17 ?k17 ?a18 ?l18 ?c18 ?k18 ?a19 ?l19 ?c19 ?k19 ?a20 ?l20 ?c20 ?k20 ?a21 ?l21 ?c21 ?k21 ?a22 ?l22 ?c22 ?k22 ?a23 ?l23 ?c23 ?k23 ?a24 ?l24 ?c24 ?k24 ?a25 ?l25 ?c25 ?k25 ?a26 ?l26 ?c26 ?k26 ?a27 ?l27 ?c27 ?k27 ?mt27 ?ml27 ?mp27 ?a28 ?l28 ?c28 ?k28 ?a29 ?l29 ?c29 ?k29 ?a30 ?l30 ?c30 ?k30 ?a31 ?l31 ?c31 ?k31 ?a32 ?l32 ?c32 ?k32 ?a33 ?l33 ?c33 ?k33 ?xn0 ?xn1 ?xn2 ?xn3 ?xn4 ?xn5 ?xn6 ?xn7 ?xn8 ?xn9 ?xn10 ?xn11 ?xn12 ?xe2 ?xg2 ?xh2 ?xc2 ?xo2 ?xe4 ?xg4 ?xh4 ?xc4 ?xo4 ?xe10 ?xg10 ?xh10 ?xc10 ?xo10 ?xb0 ?xb2 ?xb4 ?xb10 ?xu0 ?xy0 ?xu1 ?xy1 ?xu2 ?xy2 ?xu3 ?xy3 ?xu4 ?xy4 ?xu5 ?xy5 ?xu6 ?xy6 ?xu7 ?xy7 ?xu8 ?xy8 ?xu9 ?xy9 ?xu10 ?xy10 ?xu11 ?xy11 ?xu12 ?xy12 ?xs2_0 ?xs2_1 ?xq2_1 ?xs2_3 ?xq2_3 ?xs2_4 ?xq2_4 ?xs2_5 ?xq2_5 ?xs2_6 ?xq2_6 ?xs2_7 ?xq2_7 ?xs2_8 ?xq2_8 ?xs2_9 ?xq2_9 ?xs2_10 ?xq2_10 ?xs2_11 ?xq2_11 ?xs2_12 ?xq2_12 ?xs4_0 ?xs4_1 ?xq4_1 ?xs4_2 ?xq4_2 ?xs4_3 ?xq4_3 ?xs4_5 ?xq4_5 ?xs4_6 ?xq4_6 ?xs4_7 ?xq4_7 ?xs4_8 ?xq4_8 ?xs4_9 ?xq4_9 ?xs4_10 ?xq4_10 ?xs4_11 ?xq4_11 ?xs4_12 ?xq4_12 ?xs10_0 ?xs10_1 ?xq10_1 ?xs10_2 ?xq10_2 ?xs10_3 ?xq10_3 ?xs10_4 ?xq10_4 ?xs10_5 ?xq10_5 ?xs10_6 ?xq10_6 ?xs10_7 ?xq10_7 ?xs10_8 ?xq10_8 ?xs10_9 ?xq10_9 ?xs10_11 ?xq10_11 ?xs10_12 ?xq10_12 ?xs2_ValueError ?xs4_ValueError ?xs10_ValueError ?z0 ?z1 ?z2 ?z3 ?z4 ?z5 ?z6 ?v0
  (case a0=>k_is)
  (case l0=>k_is)
  (case c0=>k_is)
  (case k0=>k_is)
  (case a1=>k_is)
  (case l1=>k_is)
  (case c1=>k_is)
  (case k1=>k_is)
  (case a2=>k_is)
  (case l2=>k_is)
  (case c2=>k_is)
  (case k2=>k_is)
  (case a3=>k_is)
  (case l3=>k_is)
  (case c3=>k_is)
  (case k3=>k_is)
  (case a4=>k_is)
  (case l4=>k_is)
  (case c4=>k_is)
  (case k4=>k_is)
  (case a5=>k_is)
  (case l5=>k_is)
  (case c5=>k_is)
  (case k5=>k_is)
  (case a6=>k_is)
  (case l6=>k_is)
  (case c6=>k_is)
  (case k6=>k_is)
  (case a7=>k_is)
  (case l7=>k_is)
  (case c7=>k_is)
  (case k7=>k_is)
  (case a8=>k_is)
  (case l8=>k_is)
  (case c8=>k_is)
  (case k8=>k_is)
  (case a9=>k_is)
  (case l9=>k_is)
  (case c9=>k_is)
  (case k9=>k_is)
  (case a10=>k_is)
  (case l10=>k_is)
  (case c10=>k_is)
  (case k10=>k_is)
  (case a11=>k_is)
  (case l11=>k_is)
  (case c11=>k_is)
  (case k11=>k_is)
  (case a12=>k_is)
  (case l12=>k_is)
  (case c12=>k_is)
  (case k12=>k_is)
  (case a13=>k_is)
  (case l13=>k_is)
  (case c13=>k_is)
  (case k13=>k_is)
  (case a14=>k_is)
  (case l14=>k_is)
  (case c14=>k_is)
  (case k14=>k_is)
  (case a15=>k_is)
  (case l15=>k_is)
  (case c15=>k_is)
  (case k15=>k_is)
  (case mt15=>exact rfl)
  (case ml15=>k_is)
  (case mp15=>exact rfl)
  (case a16=>k_is)
  (case l16=>k_is)
  (case c16=>k_is)
  (case k16=>k_is)
  (case a17=>k_is)
  (case l17=>k_is)
  (case c17=>k_is)
  (case k17=>k_is)
  (case a18=>k_is)
  (case l18=>k_is)
  (case c18=>k_is)
  (case k18=>k_is)
  (case a19=>k_is)
  (case l19=>k_is)
  (case c19=>k_is)
  (case k19=>k_is)
  (case a20=>k_is)
  (case l20=>k_is)
  (case c20=>k_is)
  (case k20=>k_is)
  (case a21=>k_is)
  (case l21=>k_is)
  (case c21=>k_is)
  (case k21=>k_is)
  (case a22=>k_is)
  (case l22=>k_is)
  (case c22=>k_is)
  (case k22=>k_is)
  (case a23=>k_is)
  (case l23=>k_is)
  (case c23=>k_is)
  (case k23=>k_is)
  (case a24=>k_is)
  (case l24=>k_is)
  (case c24=>k_is)
  (case k24=>k_is)
  (case a25=>k_is)
  (case l25=>k_is)
  (case c25=>k_is)
  (case k25=>k_is)
  (case a26=>k_is)
  (case l26=>k_is)
  (case c26=>k_is)
  (case k26=>k_is)
  (case a27=>k_is)
  (case l27=>k_is)
  (case c27=>k_is)
  (case k27=>k_is)
  (case mt27=>exact rfl)
  (case ml27=>k_is)
  (case mp27=>exact rfl)
  (case a28=>k_is)
  (case l28=>k_is)
  (case c28=>k_is)
  (case k28=>k_is)
  (case a29=>k_is)
  (case l29=>k_is)
  (case c29=>k_is)
  (case k29=>k_is)
  (case a30=>k_is)
  (case l30=>k_is)
  (case c30=>k_is)
  (case k30=>k_is)
  (case a31=>k_is)
  (case l31=>k_is)
  (case c31=>k_is)
  (case k31=>k_is)
  (case a32=>k_is)
  (case l32=>k_is)
  (case c32=>k_is)
  (case k32=>k_is)
  (case a33=>k_is)
  (case l33=>k_is)
  (case c33=>k_is)
  (case k33=>k_is)
  (case xn0=>k_is)
  (case xn1=>k_is)
  (case xn2=>k_is)
  (case xn3=>k_is)
  (case xn4=>k_is)
  (case xn5=>k_is)
  (case xn6=>k_is)
  (case xn7=>k_is)
  (case xn8=>k_is)
  (case xn9=>k_is)
  (case xn10=>k_is)
  (case xn11=>k_is)
  (case xn12=>k_is)
  (case xe2=>k_exc)
  (case xg2=>k_is)
  (case xh2=>k_is)
  (case xc2=>k_is)
  (case xo2=>k_is)
  (case xe4=>k_exc)
  (case xg4=>k_is)
  (case xh4=>k_is)
  (case xc4=>k_is)
  (case xo4=>k_is)
  (case xe10=>k_exc)
  (case xg10=>k_is)
  (case xh10=>k_is)
  (case xc10=>k_is)
  (case xo10=>k_is)
  (case xb0=>k_is)
  (case xb2=>k_is)
  (case xb4=>k_is)
  (case xb10=>k_is)
  (case xu0=>k_is)
  (case xy0=>k_is)
  (case xu1=>k_is)
  (case xy1=>k_is)
  (case xu2=>k_is)
  (case xy2=>k_is)
  (case xu3=>k_is)
  (case xy3=>k_is)
  (case xu4=>k_is)
  (case xy4=>k_is)
  (case xu5=>k_is)
  (case xy5=>k_is)
  (case xu6=>k_is)
  (case xy6=>k_is)
  (case xu7=>k_is)
  (case xy7=>k_is)
  (case xu8=>k_is)
  (case xy8=>k_is)
  (case xu9=>k_is)
  (case xy9=>k_is)
  (case xu10=>k_is)
  (case xy10=>k_is)
  (case xu11=>k_is)
  (case xy11=>k_is)
  (case xu12=>k_is)
  (case xy12=>k_is)
  (case xs2_0=>k_is)
  (case xs2_1=>k_is)
  (case xq2_1=>decide)
  (case xs2_3=>k_is)
  (case xq2_3=>decide)
  (case xs2_4=>k_is)
  (case xq2_4=>decide)
  (case xs2_5=>k_is)
  (case xq2_5=>decide)
  (case xs2_6=>k_is)
  (case xq2_6=>decide)
  (case xs2_7=>k_is)
  (case xq2_7=>decide)
  (case xs2_8=>k_is)
  (case xq2_8=>decide)
  (case xs2_9=>k_is)
  (case xq2_9=>decide)
  (case xs2_10=>k_is)
  (case xq2_10=>decide)
  (case xs2_11=>k_is)
  (case xq2_11=>decide)
  (case xs2_12=>k_is)
  (case xq2_12=>decide)
  (case xs4_0=>k_is)
  (case xs4_1=>k_is)
  (case xq4_1=>decide)
  (case xs4_2=>k_is)
  (case xq4_2=>decide)
  (case xs4_3=>k_is)
  (case xq4_3=>decide)
  (case xs4_5=>k_is)
  (case xq4_5=>decide)
  (case xs4_6=>k_is)
  (case xq4_6=>decide)
  (case xs4_7=>k_is)
  (case xq4_7=>decide)
  (case xs4_8=>k_is)
  (case xq4_8=>decide)
  (case xs4_9=>k_is)
  (case xq4_9=>decide)
  (case xs4_10=>k_is)
  (case xq4_10=>decide)
  (case xs4_11=>k_is)
  (case xq4_11=>decide)
  (case xs4_12=>k_is)
  (case xq4_12=>decide)
  (case xs10_0=>k_is)
  (case xs10_1=>k_is)
  (case xq10_1=>decide)
  (case xs10_2=>k_is)
  (case xq10_2=>decide)
  (case xs10_3=>k_is)
  (case xq10_3=>decide)
  (case xs10_4=>k_is)
  (case xq10_4=>decide)
  (case xs10_5=>k_is)
  (case xq10_5=>decide)
  (case xs10_6=>k_is)
  (case xq10_6=>decide)
  (case xs10_7=>k_is)
  (case xq10_7=>decide)
  (case xs10_8=>k_is)
  (case xq10_8=>decide)
  (case xs10_9=>k_is)
  (case xq10_9=>decide)
  (case xs10_11=>k_is)
  (case xq10_11=>decide)
  (case xs10_12=>k_is)
  (case xq10_12=>decide)
  (case xs2_ValueError=>k_is)
  (case xs4_ValueError=>k_is)
  (case xs10_ValueError=>k_is)
  (case z0=>k_is)
  (case z1=>k_is)
  (case z2=>k_is)
  (case z3=>k_is)
  (case z4=>k_is)
  (case z5=>k_is)
  (case z6=>k_is)
  (case v0=>k_is)
#print axioms PySem.Challenge.cw_spanmap_k86_refused_wheels_holds
