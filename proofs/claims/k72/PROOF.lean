import PyProof.Rows.All
import Wide.All
import OpenK.AllK
import Wide.FinOn
import Lean
import PyProof.EqAt
import PyProof.EqKinds
import PyProof.TupleCall
import PyProof.ListRange
import PyProof.P3In
import PyProof.NeData
import PyProof.NsDelKeeps
import PyProof.SliceList
import KE.KLam
import PySem.Challenge.RW_spanmap_k72_laid
set_option Elab.async false
set_option linter.all false
set_option maxRecDepth 100000
namespace HT
def sIx (n d:Nat):Option Int->Nat
 | none=>d
 | some v=>if v < 0 then (v+(n:Int)).toNat else min v.toNat n
end HT
namespace L2
open PySem
abbrev Key:=Sum Int Str
def ixN (n:Nat) (i:Int):Option Nat:=if 0<=i then (if i < n then some i.toNat else none) else if -(n:Int)<=i then some (i+n).toNat else none
def atI {α : Type} (xs:List α) (i:Int):Option α:=(ixN xs.length i).bind fun j=>xs[j]?
end L2
namespace FL
open PySem PySem.Spec PyProof.Rows L2
def clsName:Nat->Str
 | 0=>"Put" | 1=>"Widen" | 2=>"Narrow" | 3=>"Move" | 4=>"Stretch" | 5=>"Mirror" | 6=>"Deed" | 7=>"Shut" | 8=>"Open" | 9=>"Endless" | 10=>"End" | _=>""
def clsFlds:Nat->List Str
 | 0=>["span","fill"] | 1=>["fill","at","many"] | 2=>["fill","at","many"] | 3=>["fill","far"] | 4=>["fill","top","bottom"] | 5=>["fill"] | 6=>["fill"] | 7=>["place"] | 8=>["place"] | _=>[]
def fnName:Nat->Str
 | 0=>"either" | 1=>"if_both" | 2=>"if_alone" | 3=>"summed" | 4=>"_law_first" | 5=>"_law_both" | 6=>"_law_left" | 7=>"_law_sum" | 8=>"_law_none" | _=>""
inductive D where
 | non | bl (b:Bool) | int (i:Int) | str (x:Str) | tup (ds:List D) | lst (ds:List D)
 | dct (ks:List Key) (ds:List D) | ins (t:Nat) (ds:List D) | clo (m n:Nat) (ds:List D)
mutual
def flat:D->Bool
 | .non | .bl _ | .int _ | .str _=>true
 | .tup ds=>flats ds
 | _=>false
def flats:List D->Bool
 | []=>true
 | d::r=>flat d && flats r
end
def xName:Nat->Str
 | 0=>"SpanError" | 1=>"Empty" | 2=>"NoEnd" | 3=>"Clash" | 4=>"NoCount" | 5=>"NoShare" | 6=>"NoName" | 7=>"NoMark" | 8=>"NoDeed" | 9=>"NoRule" | 10=>"TooMuch" | 11=>"NoText" | _=>"NoRow"
inductive Sl where
 | no | v (d:D) | own (l:List D) | exc (t:Nat) | fr (l:List D)
abbrev FE:=List Sl->Option D
abbrev FT:=List Sl->Option Bool
abbrev FA:=List Sl->Option (List D)
def mkL (f:FA):FE:=fun ds=>(f ds).map D.lst
def jN (i:Nat):FE:=fun ds=>match ds[i]? with | some (.v d)=>some d | _=>none
def zI (i:Nat):FE:=fun ds=>match ds[i]? with | some (.v d)=>some d | some (.own l)=>some (.lst l) | _=>none
def zE (d:D):FE:=fun _=>some d
def zJ (op:D->D->Option D) (fa fb:FE):FE:=fun ds=>(fa ds).bind fun x=>(fb ds).bind fun y=>op x y
def isB:D->Option Bool
 | .bl b=>some b
 | _=>none
def zT (f:FE):FT:=fun ds=>(f ds).bind isB
def xD:D->D->Option D
 | .int i,.int j=>some (.int (i+j))
 | .str x,.str y=>if x.length+y.length<=sizeLine then some (.str (x++y)) else none
 | _,_=>none
def subD:D->D->Option D
 | .int i,.int j=>some (.int (i - j))
 | _,_=>none
def divOk (j:Int):Prop:=0 < j/\j.natAbs.log2 < 9000
noncomputable instance divOkD (j:Int):Decidable (divOk j):=Classical.propDecidable _
noncomputable def yL:D->D->Option D
 | .int i,.int j=>if divOk j then some (.int (i / j)) else none
 | _,_=>none
def yU:D->D->Option D
 | .int i,.int j=>if 0 < j then some (.int (i % j)) else none
 | _,_=>none
def cmpI (p:Int->Int->Bool):D->D->Option D
 | .int i,.int j=>some (.bl (p i j))
 | _,_=>none
def andT (c d:FT):FT:=fun ds=>(c ds).bind fun b=>if b=true then d ds else some false
def orT (c d:FT):FT:=fun ds=>(c ds).bind fun b=>if b=true then some true else d ds
def notT (c:FT):FT:=fun ds=>(c ds).map not
def andV (f g:FE):FE:=fun ds=>(f ds).bind fun d=>match d with | .bl true=>g ds | .bl false=>some (.bl false) | _=>none
def orV (f g:FE):FE:=fun ds=>(f ds).bind fun d=>match d with | .bl true=>some (.bl true) | .bl false=>g ds | _=>none
def notV (f:FE):FE:=fun ds=>(f ds).bind fun d=>match d with | .bl b=>some (.bl (!b)) | _=>none
def ifV (c:FT) (f g:FE):FE:=fun ds=>(c ds).bind fun b=>if b=true then f ds else g ds
def chain (op op':D->D->Option D) (fa fb fc:FE):FE:=fun ds=>(fa ds).bind fun x=>(fb ds).bind fun y=>(op x y).bind fun z=>match z with
 | .bl true=>(fc ds).bind fun w=>op' y w
 | .bl false=>some (.bl false)
 | _=>none
def zG (f:FE) (g:FA):FA:=fun ds=>(f ds).bind fun x=>(g ds).map fun r=>x::r
def zZ:FA:=fun _=>some []
def qH (f:FA):FA:=fun ds=>(f ds).bind fun l=>if l.length<=sizeLine then some l else none
def mkT (f:FA):FE:=fun ds=>(f ds).map D.tup
def ixD:D->D->Option D
 | .lst l,.int i=>atI l i
 | .tup l,.int i=>atI l i
 | .str x,.int i=>if x.length<=sizeLine then (atI x.cps.toList i).map fun c=>.str ⟨#[c]⟩ else none
 | _,_=>none
inductive Ret where
 | val (d:D) | fresh (l:List D) | any (d:D)
def retV:Ret->Option D
 | .val d=>some d
 | .fresh l=>some (.lst l)
 | .any _=>none
def retF:Ret->Option (List D)
 | .fresh l=>some l
 | _=>none
def jG (n:Nat) (F:List D->Option Ret) (g:FA):FE:=fun ds=>(g ds).bind fun l=>if l.length=n then (F l).bind retV else none
def vE (n:Nat) (F:List D->Option Ret) (g:FA):FA:=fun ds=>(g ds).bind fun l=>if l.length=n then (F l).bind retF else none
def callB (F:List D->Option D) (g:FA):FE:=fun ds=>(g ds).bind F
def lenD:List D->Option D
 | [.lst l]=>some (.int l.length)
 | [.tup l]=>some (.int l.length)
 | [.str x]=>if x.length<=sizeLine then some (.int x.length) else none
 | _=>none
inductive Out where
 | nx (ds:List Sl) | rt (r:Ret) | bk (ds:List Sl) | ct (ds:List Sl)
abbrev FS:=List Sl->Option Out
def jB:FS:=fun ds=>some (.nx ds)
def qO (f g:FS):FS:=fun ds=>(f ds).bind fun o=>match o with | .nx ds'=>g ds' | o=>some o
def ifG (c:FT) (f g:FS):FS:=fun ds=>(c ds).bind fun b=>if b=true then f ds else g ds
def yO (i:Nat) (f:FE):FS:=fun ds=>(f ds).map fun d=>.nx (ds.set i (.v d))
def setOG (i:Nat) (f:FA):FS:=fun ds=>(f ds).map fun l=>.nx (ds.set i (.own l))
def flatR (d:D):Option Out:=if flat d=true then some (.rt (.val d)) else none
def retG (f:FE):FS:=fun ds=>(f ds).bind flatR
def flatF (l:List D):Option Out:=if flats l=true then some (.rt (.fresh l)) else none
def retOG (f:FA):FS:=fun ds=>(f ds).bind flatF
def retXG (i:Nat):FS:=fun ds=>match ds[i]? with | some (.own l)=>flatF l | _=>none
def putG (i:Nat) (fk fe:FE):FS:=fun ds=>match ds[i]? with
 | some (.own l) => (fe ds).bind fun d => (fk ds).bind fun k => match k with
   | .int n=>(ixN l.length n).map fun j=>.nx (ds.set i (.own (l.set j d)))
   | _=>none
 | _=>none
def appG (i:Nat) (fe:FE):FS:=fun ds=>match ds[i]? with
 | some (.own l)=>(fe ds).bind fun d=>if l.length < sizeLine then some (.nx (ds.set i (.own (l++[d])))) else none
 | _=>none
def args (n:Nat) (ds:List D):List Sl:=ds.map Sl.v++List.replicate (n - ds.length) Sl.no
def viaA (f:FE) (k:D->Option (List D)):FA:=fun ds=>(f ds).bind k
def rangeD (lo:Int) (n:Nat):List D:=(List.range n).map fun (k:Nat)=>D.int (lo+(k:Int))
def okR (j:Int):Prop:=-(2 ^ 62)<=j/\j < 2 ^ 62
noncomputable instance okRD (j:Int):Decidable (okR j):=Classical.propDecidable _
noncomputable def rng1 (f:FE):FA:=fun ds=>(f ds).bind fun d=>match d with | .int j=>if okR j then some (rangeD 0 j.toNat) else none | _=>none
def zO (i:Nat):D->List Sl->Option (List Sl):=fun d ds=>some (ds.set i (.v d))
def tgNil:List D->List Sl->Option (List Sl)
 | [],ds=>some ds
 | _,_=>none
def qA (g:D->List Sl->Option (List Sl)) (h:List D->List Sl->Option (List Sl)):List D->List Sl->Option (List Sl)
 | d::r,ds=>(g d ds).bind fun ds'=>h r ds'
 | _,_=>none
def tupG (n:Nat) (h:List D->List Sl->Option (List Sl)):D->List Sl->Option (List Sl)
 | .tup l,ds=>if l.length=n then h l ds else none
 | _,_=>none
def jC (ga:D->List Sl->Option (List Sl)) (body:FS):List D->List Sl->Option Out
 | [],ds=>some (.nx ds)
 | d :: r, ds => (ga d ds).bind fun ds1 => (body ds1).bind fun o => match o with
   | .nx ds2=>jC ga body r ds2
   | .ct ds2=>jC ga body r ds2
   | .bk ds2=>some (.nx ds2)
   | .rt r=>some (.rt r)
def forG (fi:FA) (ga:D->List Sl->Option (List Sl)) (body:FS):FS:=fun ds=>(fi ds).bind fun items=>jC ga body items ds
def compL (ga:D->List Sl->Option (List Sl)) (tt:FT) (fe:FE) (s0:List Sl):List D->Option (List D)
 | []=>some []
 | d::r=>(ga d s0).bind fun ds1=>(tt ds1).bind fun b=>if b=true then (fe ds1).bind fun y=>(compL ga tt fe s0 r).map fun ys=>y::ys else compL ga tt fe s0 r
def qZ (mp:List (Option Nat)) (ds:List Sl):List Sl:=mp.map fun o=>match o with
 | some j=>(match ds[j]? with | some (.v d)=>.v d | _=>.no)
 | none=>.no
def compG (fi:FA) (mp:List (Option Nat)) (ga:D->List Sl->Option (List Sl)) (tt:FT) (fe:FE):FA:=fun ds=>(fi ds).bind fun items=>if items.length<=sizeLine then compL ga tt fe (qZ mp ds) items else none
def tyD:D->Option String
 | .non=>some "NoneType"
 | .bl _=>some "bool"
 | .int _=>some "int"
 | .str _=>some "str"
 | .tup _=>some "tuple"
 | .lst _=>some "list"
 | .dct _ _=>some "dict"
 | .ins _ _=>none
 | .clo _ _ _=>none
def kitN:List String:=["NoneType","bool","int","str","tuple","list","dict"]
def kitT:List String:=["bool","int","str","tuple","list","dict"]
def kitF (t T:String):Option Bool:=if t∈kitN/\T∈kitT then some (t == T || (t == "bool" && T == "int")) else none
def isiD (T:String) (d:D):Option D:=(tyD d).bind fun t=>(kitF t T).map D.bl
def isiG (T:String) (f:FE):FE:=fun ds=>(f ds).bind (isiD T)
def blsD:List D->Option (List Bool)
 | []=>some []
 | .bl b::r=>(blsD r).map fun bs=>b::bs
 | _=>none
def allD:List D->Option D
 | [.lst l]=>(blsD l).map fun bs=>.bl (bs.all id)
 | _=>none
def negD:D->Option D
 | .int i=>some (.int (-i))
 | _=>none
def un1 (op:D->Option D) (f:FE):FE:=fun ds=>(f ds).bind op
def retDG (f:FE):FS:=fun ds=>(f ds).map fun d=>.rt (.val d)
def runG (g:FS) (n:Nat):List D->Option Ret:=fun ds=>match g (args n ds) with
 | some (.rt r)=>some r
 | some (.nx _)=>some (.val .non)
 | _=>none
def CPowB (i j:Int):Prop:=0<=j/\(Builtin.Int.intBits i:Int) * j<=2 ^ 27
mutual
def toPy:D->PyData
 | .non=>.none
 | .bl b=>.bool b
 | .int i=>.int i
 | .str x=>.str x
 | .tup ds=>.tuple (toPys ds)
 | .lst ds=>.list (toPys ds)
 | .dct _ _=>.none
 | .ins _ _=>.none
 | .clo _ _ _=>.none
def toPys:List D->List PyData
 | []=>[]
 | d::r=>toPy d::toPys r
end
mutual
def shal:Nat->D->Bool
 | _,.non=>true
 | _,.bl _=>true
 | _,.int _=>true
 | _,.str x=>PyData.strOk x
 | n,.tup ds=>shals n ds
 | n,.lst ds=>shals n ds
 | _,.dct _ _=>false
 | _,.ins _ _=>false
 | _,.clo _ _ _=>false
def shals:Nat->List D->Bool
 | _,[]=>true
 | 0,_::_=>false
 | n+1,d::r=>shal n d && shals (n+1) r
end
def eqvD (x y:D):Bool:=PyData.eqv (toPy x) (toPy y)
def eqvs (x y:List D):Bool:=PyData.eqvAll (toPys x) (toPys y)
def eqD (x y:D):Option D:=if shal 40 x=true/\shal 40 y=true then some (.bl (eqvD x y)) else none
def neD (x y:D):Option D:=if shal 40 x=true/\shal 40 y=true then some (.bl (!eqvD x y)) else none
def isD:D->D->Option D
 | .non,.non=>some (.bl true)
 | _,.non=>some (.bl false)
 | _,_=>none
def notD:D->D->Option D
 | .non,.non=>some (.bl false)
 | _,.non=>some (.bl true)
 | _,_=>none
def asLT:D->Option (List D)
 | .lst l=>some l
 | .tup l=>some l
 | _=>none
noncomputable instance mulOkD (i j:Int):Decidable (IntMulOk i j):=Classical.propDecidable _
noncomputable instance powOkD (i j:Int):Decidable (CPowB i j):=Classical.propDecidable _
noncomputable def yV:D->D->Option D
 | .int i,.int j=>if IntMulOk i j then some (.int (i * j)) else none
 | _,_=>none
noncomputable def powD:D->D->Option D
 | .int i,.int j=>if CPowB i j then some (.int (i ^ j.toNat)) else none
 | _,_=>none
def catA (fa fb:FE):FA:=fun ds=>(fa ds).bind fun x=>(fb ds).bind fun y=>match x,y with
 | .lst a,.lst b=>if a.length+b.length<=sizeLine then some (a++b) else none
 | _,_=>none
def noP:List Sl->Option (Option Int):=fun _=>some none
def soP (f:FE):List Sl->Option (Option Int):=fun ds=>(f ds).bind fun d=>match d with | .int i=>some (some i) | _=>none
def cutD (l:List D) (lo hi:Option Int):List D:=(l.drop (HT.sIx l.length 0 lo)).take (HT.sIx l.length l.length hi - HT.sIx l.length 0 lo)
def sliA (f:FE) (lo hi:List Sl->Option (Option Int)):FA:=fun ds=>(f ds).bind fun d=>(lo ds).bind fun a=>(hi ds).bind fun b=>match d with
 | .lst l=>some (cutD l a b)
 | _=>none
def lisA (f:FE):FA:=fun ds=>(f ds).bind asLT
def mxD:List D->Option D
 | [.int i,.int j]=>some (.int (if j > i then j else i))
 | _=>none
def mnD:List D->Option D
 | [.int i,.int j]=>some (.int (if j < i then j else i))
 | _=>none
def absD:List D->Option D
 | [.int i]=>some (.int (if i < 0 then -i else i))
 | _=>none
def truD:D->Option Bool
 | .non=>some false
 | .bl b=>some b
 | .int i=>some (i != 0)
 | .str x=>if x.length<=sizeLine then some ((x.length:Int) != 0) else none
 | .tup l=>some (!l.isEmpty)
 | .lst l=>some (!l.isEmpty)
 | _=>none
def testT (f:FE):FT:=fun ds=>(f ds).bind truD
def relS (i:Nat) (ds:List Sl):List Sl:=match ds[i]? with | some (.own l)=>ds.set i (.v (.lst l)) | _=>ds
def whileN (c:FT) (b:FS):Nat->FS
 | 0,_=>none
 | n + 1, ds => (c ds).bind fun k => if k = true then (b ds).bind fun o => match o with
   | .nx ds2=>whileN c b n ds2
   | .ct ds2=>whileN c b n ds2
   | .bk ds2=>some (.nx ds2)
   | .rt r=>some (.rt r) else some (.nx ds)
def asgG (ga:D->List Sl->Option (List Sl)) (f:FE):FS:=fun ds=>(f ds).bind fun d=>(ga d ds).map .nx
def extG (i:Nat) (fe:FA):FS:=fun ds=>match ds[i]? with
 | some (.own l)=>(fe ds).bind fun d=>if l.length+d.length<=sizeLine then some (.nx (ds.set i (.own (l++d)))) else none
 | _=>none
def clrG (i:Nat):FS:=fun ds=>match ds[i]? with
 | some (.own l)=>some (.nx (ds.set i (.own [])))
 | _=>none
def anyD:List D->Option D
 | [.lst l]=>(blsD l).map fun bs=>.bl (bs.any id)
 | _=>none
def ltD:D->D->Option D:=cmpI fun i j=>decide (i < j)
def leD:D->D->Option D:=cmpI fun i j=>decide (i<=j)
def gtD:D->D->Option D:=cmpI fun i j=>decide (j < i)
def geD:D->D->Option D:=cmpI fun i j=>decide (j<=i)
noncomputable def rng2 (fa fb:FE):FA:=fun ds=>(fa ds).bind fun x=>(fb ds).bind fun y=>match x,y with
 | .int i,.int j=>if okR i/\okR j then some (rangeD i (j - i).toNat) else none
 | _,_=>none
def range3D (lo c:Int) (n:Nat):List D:=(List.range n).map fun (k:Nat)=>D.int (lo+(k:Int) * c)
def steps3 (i j c:Int):Nat:=if i < j then ((j - i - 1) / c+1).toNat else 0
def okR3 (i j c:Int):Prop:=-(2 ^ 61)<=i/\i < 2 ^ 61/\-(2 ^ 61)<=j/\j < 2 ^ 61/\0 < c/\c < 1000000
noncomputable instance okR3D (i j c:Int):Decidable (okR3 i j c):=Classical.propDecidable _
noncomputable def rng3 (fa fb fc:FE):FA:=fun ds=>(fa ds).bind fun x=>(fb ds).bind fun y=>(fc ds).bind fun z=>match x,y,z with
 | .int i,.int j,.int c=>if okR3 i j c then some (range3D i c (steps3 i j c)) else none
 | _,_,_=>none
def revA (f:FE):FA:=fun ds=>(f ds).bind fun d=>match d with
 | .lst l=>some l.reverse
 | _=>none
def augA (i:Nat) (f:FE):FS:=fun ds=>(jN i ds).bind fun x=>(f ds).bind fun y=>match x,y with
 | .int a,.int b=>some (.nx (ds.set i (.v (.int (a+b)))))
 | _,_=>none
def parG (i j:Nat) (f:FA):FS:=fun ds=>(f ds).bind fun l=>match l with
 | [a,b]=>some (.nx ((ds.set i (.v a)).set j (.v b)))
 | _=>none
def int1D:List D->Option D
 | [.int i]=>some (.int i)
 | [.bl b]=>some (.int (if b then 1 else 0))
 | _=>none
def intsD:List D->Option (List Int)
 | []=>some []
 | .int b::r=>(intsD r).map fun bs=>b::bs
 | _=>none
abbrev Fun2:=D->List D->Option Ret
end FL
namespace FL
open PySem PyProof.Rows L2
def sumD:List D->Option D
 | [.lst l]=>(intsD l).map fun ns=>.int ns.sum
 | _=>none
def fldD (ix:List (Nat×Nat)):D->Option D
 | .ins t ds=>(ix.lookup t).bind fun i=>ds[i]?
 | _=>none
def fldG (ix:List (Nat×Nat)) (f:FE):FE:=fun ds=>(f ds).bind (fldD ix)
def methR (n:Nat) (cs:List Nat) (F:Nat->List D->Option Ret) (o:D) (l:List D):Option Ret:=match o with
 | .ins t es=>if t∈cs/\l.length=n then F t (.ins t es::l) else none
 | _=>none
def methV (n:Nat) (cs:List Nat) (F:Nat->List D->Option Ret) (fo:FE) (g:FA):FE:=fun ds=>(fo ds).bind fun o=>(g ds).bind fun l=>(methR n cs F o l).bind retV
def methF (n:Nat) (cs:List Nat) (F:Nat->List D->Option Ret) (fo:FE) (g:FA):FA:=fun ds=>(fo ds).bind fun o=>(g ds).bind fun l=>(methR n cs F o l).bind retF
def makeG (t n:Nat) (G:List D->Option (List D)) (g:FA):FE:=fun ds=>(g ds).bind fun l=>if l.length=n/\flats l=true then (G l).map (D.ins t) else none
end FL
namespace FL
open PySem
def ifX (c:FT) (a b:List Sl->Bool):List Sl->Bool:=fun ds=>match c ds with
 | some true=>a ds
 | some false=>b ds
 | none=>false
def neverX:List Sl->Bool:=fun _=>false
def alwaysX:List Sl->Bool:=fun _=>true
def seqX (f:FS) (x:List Sl->Bool):List Sl->Bool:=fun ds=>match f ds with
 | some (.nx ds')=>x ds'
 | _=>false
def callX (n:Nat) (R:List D->Bool) (g:FA):List Sl->Bool:=fun ds=>match g ds with
 | some l=>decide (l.length=n) && R l
 | none=>false
def runX (x:List Sl->Bool) (n:Nat):List D->Bool:=fun ds=>x (args n ds)
def dropG (f:FE):FS:=fun ds=>(f ds).map fun _=>.nx ds
def goneO (i:Nat):Out->Out
 | .nx ds=>.nx (ds.set i .no)
 | .bk ds=>.bk (ds.set i .no)
 | .ct ds=>.ct (ds.set i .no)
 | .rt r=>.rt r
def isxG (i:Nat) (tb:List (Nat×Bool)):FE:=fun ds=>match ds[i]? with
 | some (.exc t)=>(tb.lookup t).map D.bl
 | _=>none
def tryG2 (i t u:Nat) (g:FS) (x y:List Sl->Bool) (h:FS):FS:=fun ds=>if x ds=true then (h (ds.set i (.exc t))).map (goneO i) else if y ds=true then (h (ds.set i (.exc u))).map (goneO i) else g ds
def okRB (i j:Int):Prop:=-(2 ^ 61)<=i/\i < 2 ^ 61/\-(2 ^ 61)<=j/\j < 2 ^ 61
noncomputable instance okRBD (i j:Int):Decidable (okRB i j):=Classical.propDecidable _
end FL
namespace FL
def insU (k:Int):List Int->List Int
 | []=>[k]
 | a::l=>if k < a then k::a::l else if k=a then a::l else a::insU k l
def srtU (ns:List Int):List Int:=ns.foldr insU []
def srtSA (f:FE):FA:=fun ds=>(f ds).bind fun d=>match d with
 | .lst l=>(intsD l).bind fun ns=>if ns.length+1 < 4096 then some ((srtU ns).map D.int) else none
 | _=>none
def sltW (f:FE) (lo hi:List Sl->Option (Option Int)):FE:=fun ds=>(f ds).bind fun d=>(lo ds).bind fun a=>(hi ds).bind fun b=>match d with
 | .tup l=>some (.tup (cutD l a b))
 | _=>none
theorem vR (k a:Int):∀ l:List Int,a∈insU k l↔a=k \/ a∈l
 | []=>by simp [insU]
 | b :: l => by
   unfold insU
   split
   · simp
   · split
     · rename_i e
       rw [e]; simp
     · rw [List.mem_cons, vR k a l, List.mem_cons]
       constructor
       · rintro (h | h | h)
         · exact .inr (.inl h)
         · exact .inl h
         · exact .inr (.inr h)
       · rintro (h | h | h)
         · exact .inr (.inl h)
         · exact .inl h
         · exact .inr (.inr h)
theorem mem_srtU (a:Int):∀ ns:List Int,a∈srtU ns↔a∈ns
 | []=>Iff.rfl
 | k :: ns => by
   show a∈insU k (srtU ns)↔_
   rw [vR,mem_srtU a ns,List.mem_cons]
theorem insU_lt (k:Int):∀ l:List Int,l.Pairwise (· < ·)->(insU k l).Pairwise (· < ·)
 | [],_=>List.pairwise_singleton _ _
 | a :: l, h => by
   obtain ⟨h1,h2⟩:=List.pairwise_cons.mp h
   unfold insU
   split
   · rename_i hk
     refine List.pairwise_cons.mpr ⟨fun b hb=>?_,h⟩
     rcases List.mem_cons.mp hb with e | hb
     · rw [e]; exact hk
     · exact Int.lt_trans hk (h1 b hb)
   · split
     · exact h
     · rename_i h3 h4
       refine List.pairwise_cons.mpr ⟨fun b hb=>?_,insU_lt k l h2⟩
       rcases (vR k b l).mp hb with e | hb
       · rw [e]; omega
       · exact h1 b hb
theorem srtU_lt:∀ ns:List Int,(srtU ns).Pairwise (· < ·)
 | []=>List.Pairwise.nil
 | k::ns=>insU_lt k _ (srtU_lt ns)
theorem lt_unique:∀ (l m:List Int),(∀ a,a∈l↔a∈m)->l.Pairwise (· < ·)->m.Pairwise (· < ·)->l=m
 | [],[],_,_,_=>rfl
 | [],b::m,h,_,_=>absurd ((h b).mpr (.head _)) (by simp)
 | a::l,[],h,_,_=>absurd ((h a).mp (.head _)) (by simp)
 | a :: l, b :: m, h, h1, h2 => by
   obtain ⟨p1,p2⟩:=List.pairwise_cons.mp h1
   obtain ⟨q1,q2⟩:=List.pairwise_cons.mp h2
   have ha:a<=b:=by
    rcases List.mem_cons.mp ((h b).mpr (.head _)) with e | e
    · rw [e]; exact Int.le_refl _
    · exact Int.le_of_lt (p1 b e)
   have hb:b<=a:=by
    rcases List.mem_cons.mp ((h a).mp (.head _)) with e | e
    · rw [e]; exact Int.le_refl _
    · exact Int.le_of_lt (q1 a e)
   have e:a=b:=Int.le_antisymm ha hb
   subst e
   rw [lt_unique l m (fun c=>?_) p2 q2]
   constructor
   · intro hc
     rcases List.mem_cons.mp ((h c).mp (.tail _ hc)) with e | e
     · exact absurd (p1 c hc) (by rw [e]; exact Int.lt_irrefl _)
     · exact e
   · intro hc
     rcases List.mem_cons.mp ((h c).mpr (.tail _ hc)) with e | e
     · exact absurd (q1 c hc) (by rw [e]; exact Int.lt_irrefl _)
     · exact e
end FL
namespace FL
open PySem PyProof.Rows L2
def loopX (ga:D->List Sl->Option (List Sl)) (body:FS) (x:List Sl->Bool):List D->List Sl->Bool
 | [],_=>false
 | d :: r, ds => match ga d ds with
   | none=>false
   | some ds1 => x ds1 || (match body ds1 with
     | some (.nx ds2)=>loopX ga body x r ds2
     | some (.ct ds2)=>loopX ga body x r ds2
     | _=>false)
def forX (fi:FA) (ga:D->List Sl->Option (List Sl)) (body:FS) (x:List Sl->Bool):List Sl->Bool:=fun ds=>match fi ds with
 | some items=>loopX ga body x items ds
 | none=>false
def insG (i:Nat) (fk fe:FE):FS:=fun ds=>match ds[i]? with
 | some (.own l) => (fk ds).bind fun k => (fe ds).bind fun d => match k with
   | .int n=>if 0<=n/\n<=l.length/\l.length < sizeLine then some (.nx (ds.set i (.own (l.take n.toNat++d::l.drop n.toNat)))) else none
   | _=>none
 | _=>none
noncomputable def dvmD:List D->Option D
 | [.int i,.int j]=>if divOk j then some (.tup [.int (i / j),.int (i % j)]) else none
 | _=>none
def rngL (fa fb:FE):FA:=fun ds=>(fa ds).bind fun x=>(fb ds).bind fun y=>match x,y with
 | .int i,.int j=>some (rangeD i (j - i).toNat)
 | _,_=>none
@[simp] theorem rngL_eq (fa fb:FE) (ds:List Sl):rngL fa fb ds=(fa ds).bind fun x=>(fb ds).bind fun y=>match x,y with
 | .int i,.int j=>some (rangeD i (j - i).toNat)
 | _,_=>none:=rfl
def extX (i:Nat) (y:List Sl->Bool):List Sl->Bool:=fun ds=>match ds[i]? with
 | some (.own _)=>y ds
 | _=>false
end FL
namespace L2
open PySem PySem.Spec PyProof.Rows
def keyIs:Key->Value->Bool
 | .inl k,v=>Value.isInt k v
 | .inr x,v=>Value.isStrOf x v
def keyH (w:World):Key->Int
 | .inl k=>hashInt k
 | .inr x=>hashStr w x
theorem qU:∀ {k:Key} {v:Value},keyIs k v=true->(∃ i t,k=Sum.inl i/\v=Value.int i t) \/ (∃ x t,k=Sum.inr x/\v=Value.str x t)
 | .inl i, v, h => by
   obtain ⟨t,e⟩:=Value.isInt_shape (k:=i) (v:=v) h
   exact .inl ⟨i,t,rfl,e⟩
 | .inr x, v, h => by
   obtain ⟨t,e⟩:=Value.isStrOf_shape (x:=x) (v:=v) h
   exact .inr ⟨x,t,rfl,e⟩
theorem key_ll (a b:Int):decide ((Sum.inl a:Key)=Sum.inl b)=(a == b):=by
 by_cases e:a=b
 · subst e; simp
 · have h : ¬ (Sum.inl a : Key) = Sum.inl b := fun q => e (Sum.inl.inj q)
   rw [decide_eq_false h]
   exact (beq_eq_false_iff_ne.mpr e).symm
theorem key_rr (a b:Str):decide ((Sum.inr a:Key)=Sum.inr b)=decide (a=b):=by
 by_cases e:a=b
 · subst e; simp
 · have h : ¬ (Sum.inr a : Key) = Sum.inr b := fun q => e (Sum.inr.inj q)
   rw [decide_eq_false h,decide_eq_false e]
theorem key_lr (a:Int) (b:Str):decide ((Sum.inl a:Key)=Sum.inr b)=false:=decide_eq_false (fun q=>nomatch q)
theorem key_rl (a:Str) (b:Int):decide ((Sum.inr a:Key)=Sum.inl b)=false:=decide_eq_false (fun q=>nomatch q)
def mixKind (prog:Program) (w:World):PySem.KeyKind prog w Key where
 is:=keyIs
 hash:=keyH w
 inj:=fun v a b ha hb=>by
  rcases qU ha with ⟨i,t,rfl,rfl⟩ | ⟨x,t,rfl,rfl⟩
  · rcases qU hb with ⟨j, u, rfl, e⟩ | ⟨y, u, rfl, e⟩
    · injection e with e1 _; rw [e1]
    · exact nomatch e
  · rcases qU hb with ⟨j, u, rfl, e⟩ | ⟨y, u, rfl, e⟩
    · exact nomatch e
    · injection e with e1 _; rw [e1]
 byValue:=fun k v h=>by
  rcases qU h with ⟨i,t,rfl,rfl⟩ | ⟨x,t,rfl,rfl⟩ <;> rfl
 pyHash:=fun hv h=>by
  rcases qU hv with ⟨i,t,rfl,rfl⟩ | ⟨x,t,rfl,rfl⟩
  · exact wpAny_pyHash_int h
  · exact wpAny_pyHash_str h
 eqBool:=fun hu hv h=>by
  rcases qU hu with ⟨i,t,rfl,rfl⟩ | ⟨x,t,rfl,rfl⟩
  · rcases qU hv with ⟨j, u, rfl, rfl⟩ | ⟨y, u, rfl, rfl⟩
    · rw [key_ll] at h; exact wpAny_eqBool_int h
    · rw [key_lr] at h; exact SeqAt.EqAt.int_str i t y u _ _ _ _ h
  · rcases qU hv with ⟨j, u, rfl, rfl⟩ | ⟨y, u, rfl, rfl⟩
    · rw [key_rl] at h; exact SeqAt.EqAt.str_int x t j u _ _ _ _ h
    · rw [key_rr] at h; exact wpAny_eqBool_str h
 «strs»:=fun k x t v h=>by
  rcases qU h with ⟨i,u,rfl,e⟩ | ⟨y,u,rfl,e⟩
  · exact nomatch e
  · injection e with e1 _
    subst e1
    cases v <;> rfl
end L2
namespace L2
open PySem PySem.Spec PyProof.Rows
inductive V where
 | non | bl (b:Bool) | int (i:Int) | str (x:Str) | byt (b:Array UInt8) | flt (b:UInt64) | ref (a:Addr) | ty (n:String)
 deriving DecidableEq
def RelV:V->Value->Prop
 | .non,u=>u=Value.none
 | .bl b,u=>u=Value.bool b
 | .int i,u=>∃ t,u=Value.int i t
 | .str x,u=>∃ t,u=Value.str x t
 | .byt b,u=>∃ t,u=Value.bytes b t
 | .flt b,u=>∃ t,u=Value.float b t
 | .ref a,u=>u=Value.ref a
 | .ty n,u=>u=Value.type n
abbrev Vals:List V->List Value->Prop:=Paired RelV
theorem Vals.length {xs:List V} {us:List Value} (r:Vals xs us):xs.length=us.length:=Paired.length r
theorem Vals.get:∀ {xs:List V} {us:List Value} {i:Nat} {x:V},Vals xs us->xs[i]? = some x->∃ u,us[i]? = some u/\RelV x u
 | _,_,_,_,.nil,e=>by simp at e
 | _,_,0,_,.cons r _,e=>by simp at e; subst e; exact ⟨_,rfl,r⟩
 | _, _, i + 1, x, .cons _ t, e => by
   obtain ⟨u,h1,h2⟩:=Vals.get (i:=i) (x:=x) t (by simpa using e)
   exact ⟨u,by simpa using h1,h2⟩
theorem Vals.set {x:V} {u:Value} (r:RelV x u):∀ {xs:List V} {us:List Value} (i:Nat),Vals xs us->Vals (xs.set i x) (us.set i u)
 | _,_,_,.nil=>.nil
 | _,_,0,.cons _ t=>.cons r t
 | _,_,i+1,.cons q t=>.cons q (Vals.set r i t)
theorem Vals.append:∀ {xs ys:List V} {us ws:List Value},Vals xs us->Vals ys ws->Vals (xs++ys) (us++ws)
 | _,_,_,_,.nil,s=>s
 | _,_,_,_,.cons r t,s=>.cons r (Vals.append t s)
theorem Vals.take:∀ {xs:List V} {us:List Value} (n:Nat),Vals xs us->Vals (xs.take n) (us.take n)
 | _,_,0,_=>.nil
 | _,_,_+1,.nil=>.nil
 | _,_,n+1,.cons r t=>.cons r (Vals.take n t)
theorem Vals.drop:∀ {xs:List V} {us:List Value} (n:Nat),Vals xs us->Vals (xs.drop n) (us.drop n)
 | _,_,0,r=>r
 | _,_,_+1,.nil=>.nil
 | _,_,n+1,.cons _ t=>Vals.drop n t
def RelO:Option V->Option Value->Prop
 | some v,some u=>RelV v u
 | none,none=>True
 | _,_=>False
def KV {κ : Type} : List (κ×V)->List (κ×Value)->Prop:=Paired fun (p : κ×V) (q : κ×Value)=>p.1=q.1/\RelV p.2 q.2
def kV:Key->V
 | .inl i=>.int i
 | .inr x=>.str x
inductive HO where
 | lst (xs:List V)
 | tup (xs:List V)
 | dK (kvs:List (Key×V)) | dT (kvs:List (List Key×V))
 | set (S:Int->Bool) (n:Nat)
 | ins (C dx:Addr) (fs:List (Str×V))
 | own (x:Addr)
 | xd (fs:List (Str×V))
 | met (f x:Addr)
 | rng (lo hi:Int)
 | frz (o:Obj) (u:HO)
 | tbl (q:Nat->Nat->Str)
 | ext (φ : Heap->Prop)
abbrev Hp:=Addr->Option HO
def upd (H:Hp) (a:Addr) (o:HO):Hp:=fun b=>if b=a then some o else H b
theorem qG {H:Hp} {a:Addr} {o:HO} : upd H a o a=some o:=by unfold upd; rw [if_pos rfl]
theorem zS {H:Hp} {a b:Addr} {o:HO} (h:b≠a):upd H a o b=H b:=by unfold upd; rw [if_neg h]
theorem jV {H:Hp} {a b:Addr} {o:HO} (h:H a=some o) (h':H b=none):a≠b:=by
 intro e; subst e; rw [h] at h'; cases h'
def TblOk (H:Hp) (q:Nat->Nat->Str) (ps:Array Value):Prop:=TriplesOk ps.toList/\∀ pos v,codeAmong pos ps.toList=some v->∃ c o u vs t,v = .ref c/\H c=some (.frz o u)/\o.data = .fields vs/\vs[1]? = some (.str (q pos.line pos.col) t)
def Fixed:HO->Prop
 | .tup _=>True
 | .frz o _=>∃ vs,o.data = .fields vs
 | _=>False
def Fx:={ u:HO // Fixed u }
section
variable (P:Program) (w:World)
def ObjOk (H:Hp) (h:Heap) (a:Addr):HO->Prop
 | .lst xs=>xs.length<=sizeLine/\∃ (its:List Value) (n:Nat),Vals xs its/\h.get? a=some { cls:=.type "list",data:=.seq its.toArray n }
 | .tup xs=>xs.length<=sizeLine/\∃ its:List Value,Vals xs its/\IsTup h a its.toArray
 | .dK kvs=>kvs.length<=sizeLine/\(a == sysModules)=false/\∃ vs,KV kvs vs/\h.DictOf (mixKind P w) a vs
 | .dT kvs=>kvs.length<=sizeLine/\(a == sysModules)=false/\∃ xs:List (List Key×Addr×Value),
    Paired (fun (p:List Key×V) (q:List Key×Addr×Value)=>p.1=q.1/\H q.2.1=some (.tup (p.1.map kV))/\RelV p.2 q.2.2) kvs xs ∧
    ∃ o es ep,h.get? a=some o/\o.ExactDict/\o.data = .dict es ep/\es.toList=xs.map (entryOfKey (tupleKind (mixKind P w)))/\(xs.map (·.1)).Nodup
 | .set S n=>h.SetOf (intKind P w) a S n
 | .ins C dx fs=>H dx=some (.own a)/\fs.length<=1000/\dx≠a/\h.get? a=some (PySem.W.instObj C dx) ∧
    ∃ mA,h.Ns1 dx mA/\(∀ f,RelO (fs.lookup f) (mA f))/\PySem.Within mA (fs.map (·.1))
 | .own _=>∃ o,h.get? a=some o
 | .xd fs=>∃ mA,h.Ns1 a mA/\∀ f,RelO (fs.lookup f) (mA f)
 | .rng lo hi=>∃ t u v,h.get? a=some { cls:=.type "range",data:=.fields #[.int lo t,.int hi u,.int 1 v] }
 | .frz o u=>h.get? a=some o/\ObjOk H h a u
 | .tbl q=>∃ ps,h.get? a=some (PySem.W.tabObj ps)/\TblOk H q ps
 | .met f x=>h.get? a=some (PySem.W.methodObj (.ref f) (.ref x))
 | .ext φ=>φ h/\(∃ o,h.get? a=some o)/\∀ h1 h2:Heap,φ h1->(∀ o,h1.get? a=some o->h2.get? a=some o)->φ h2
def HOk (H:Hp) (h:Heap):Prop:=∀ a o,H a=some o->ObjOk P w H h a o
end
section
variable {P:Program} {w:World} {H H':Hp} {h h':Heap} {a:Addr} {o:HO}
theorem ObjOk.lt (x:ObjOk P w H h a o):a < h.objs.size:=by
 cases o with
 | lst xs=>obtain ⟨_,_,_,_,e⟩:=x; exact Heap.lt_size e
 | tup xs=>obtain ⟨_,_,_,p⟩:=x; exact p.lt
 | dK kvs=>obtain ⟨_,_,_,_,o,_,_,e,_⟩:=x; exact Heap.lt_size e
 | dT kvs=>obtain ⟨_,_,_,_,o,_,_,e,_⟩:=x; exact Heap.lt_size e
 | set S n=>obtain ⟨o,_,_,_,e,_⟩:=x; exact Heap.lt_size e
 | ins C dx fs=>obtain ⟨_,_,_,e,_⟩:=x; exact Heap.lt_size e
 | own y=>obtain ⟨_,e⟩:=x; exact Heap.lt_size e
 | xd fs=>obtain ⟨_,⟨_,_,_,e,_⟩,_⟩:=x; exact Heap.lt_size e
 | rng lo hi=>obtain ⟨_,_,_,e⟩:=x; exact Heap.lt_size e
 | frz ob u=>obtain ⟨e,_⟩:=x; exact Heap.lt_size e
 | tbl q=>obtain ⟨_,e,_⟩:=x; exact Heap.lt_size e
 | met f y=>exact Heap.lt_size (show h.get? a=some _ from x)
 | ext φ=>obtain ⟨_,⟨_,e⟩,_⟩:=x; exact Heap.lt_size e
theorem Paired.mapP {α β : Type} {F G : α->β->Prop} : ∀ {l₁ : List α} {l₂ : List β},Paired F l₁ l₂->(∀ a b,F a b->G a b)->Paired G l₁ l₂
 | _,_,.nil,_=>.nil
 | _,_,.cons r t,f=>.cons (f _ _ r) (Paired.mapP t f)
theorem ObjOk.stay (x:ObjOk P w H h a o) (k:∀ b u,(b=a \/ H b=some (.own a))->h.get? b=some u->h'.get? b=some u)
  (ho:∀ b,H b=some (.own a)->H' b=some (.own a)) (ht:∀ b (xs:Fx),H b=some xs.1->H' b=some xs.1):ObjOk P w H' h' a o:=by
 induction o with
 | lst xs=>obtain ⟨z,its,n,r,e⟩:=x; exact ⟨z,its,n,r,k _ _ (.inl rfl) e⟩
 | tup xs=>obtain ⟨z,its,r,ob,e,c⟩:=x; exact ⟨z,its,r,ob,k _ _ (.inl rfl) e,c⟩
 | dK kvs=>obtain ⟨z,y,vs,r,ob,es,ep,e,c⟩:=x; exact ⟨z,y,vs,r,ob,es,ep,k _ _ (.inl rfl) e,c⟩
 | dT kvs =>
   obtain ⟨z,y,xs,r,ob,es,ep,e,c⟩:=x
   exact ⟨z,y,xs,Paired.mapP r fun p q z=>⟨z.1,ht _ ⟨.tup _,trivial⟩ z.2.1,z.2.2⟩,ob,es,ep,k _ _ (.inl rfl) e,c⟩
 | set S n=>obtain ⟨ob,es,ep,t,e,c⟩:=x; exact ⟨ob,es,ep,t,k _ _ (.inl rfl) e,c⟩
 | ins C dx fs =>
   obtain ⟨d,z,ne,e,mA,⟨od,es,ep,e2,c⟩,r⟩:=x
   exact ⟨ho _ d,z,ne,k _ _ (.inl rfl) e,mA,⟨od,es,ep,k _ _ (.inr d) e2,c⟩,r⟩
 | own y=>obtain ⟨ob,e⟩:=x; exact ⟨ob,k _ _ (.inl rfl) e⟩
 | xd fs=>obtain ⟨mA,⟨od,es,ep,e,c⟩,r⟩:=x; exact ⟨mA,⟨od,es,ep,k _ _ (.inl rfl) e,c⟩,r⟩
 | rng lo hi=>obtain ⟨t,u,v,e⟩:=x; exact ⟨t,u,v,k _ _ (.inl rfl) e⟩
 | frz ob u ih=>obtain ⟨e,q⟩:=x; exact ⟨k _ _ (.inl rfl) e,ih q⟩
 | tbl q =>
   obtain ⟨ps,e,t1,t2⟩:=x
   refine ⟨ps,k a _ (.inl rfl) e,t1,fun pos v z=>?_⟩
   obtain ⟨c,o,u,vs,t,h1,h2,h3,h4⟩:=t2 pos v z
   exact ⟨c,o,u,vs,t,h1,ht c ⟨.frz o u,vs,h3⟩ h2,h3,h4⟩
 | met f y =>
   have e:h.get? a=some (PySem.W.methodObj (.ref f) (.ref y)):=x
   show h'.get? a=some (PySem.W.methodObj (.ref f) (.ref y))
   exact k a _ (.inl rfl) e
 | ext φ=>obtain ⟨p,⟨o,e⟩,st⟩:=x; exact ⟨st _ _ p fun o q=>k _ _ (.inl rfl) q,⟨o,k _ _ (.inl rfl) e⟩,st⟩
theorem HOk.lt (x:HOk P w H h) (e:H a=some o):a < h.objs.size:=(x a o e).lt
theorem HOk.fresh (x:HOk P w H h) (e:h.objs.size<=a):H a=none:=by
 cases q:H a with
 | none=>rfl
 | some u=>exact absurd (Nat.lt_of_lt_of_le (x.lt q) e) (Nat.lt_irrefl _)
theorem HOk.kept (x:HOk P w H h) (k:∀ b u,h.get? b=some u->h'.get? b=some u):HOk P w H h':=fun a o e =>
 (x a o e).stay (fun b u _ q=>k b u q) (fun _ q=>q) fun _ _ q=>q
theorem HOk.laid (x:HOk P w H h) (k:∀ b u,h.get? b=some u->h'.get? b=some u) (hp:h.objs.size<=a) (new:ObjOk P w (upd H a o) h' a o):HOk P w (upd H a o) h':=fun b u e=>by
 have hn:=x.fresh hp
 by_cases hb:b=a
 · subst hb; rw [qG] at e; cases e; exact new
 · rw [zS hb] at e
   exact (x b u e).stay (fun c v _ q=>k c v q) (fun c q=>by rw [zS (jV q hn)]; exact q) fun c xs q=>by rw [zS (jV q hn)]; exact q
end
def Rd (H:Hp) (a:Addr) (u:HO):Prop:=H a=some u \/ ∃ o,H a=some (.frz o u)
theorem Rd.ok {P:Program} {w:World} {H:Hp} {h:Heap} {a:Addr} {u:HO} (r:Rd H a u) (x:HOk P w H h):ObjOk P w H h a u:=by
 rcases r with r | ⟨o,r⟩
 · exact x a u r
 · obtain ⟨_, q⟩ := x a _ r
   exact q
def Mut:Option HO->Prop
 | some (.lst _)=>True
 | some (.dK _)=>True
 | some (.dT _)=>True
 | some (.set _ _)=>True
 | some (.ins _ _ _)=>True
 | some (.ext _)=>True
 | _=>False
section
variable {P:Program} {w:World} {H:Hp} {h h':Heap} {x e:Addr} {o':HO}
theorem HOk.write (ok:HOk P w H h) (mu:Mut (H x)) (he:e=x \/ H e=some (.own x)) (k:∀ b u,b≠e->h.get? b=some u->h'.get? b=some u) (heo:∃ u,h'.get? e=some u)
  (new:ObjOk P w (upd H x o') h' x o'):HOk P w (upd H x o') h':=fun b u q=>by
 have nown:∀ c y,H c=some (.own y)->c≠x:=fun c y r z=>by subst z; rw [r] at mu; exact mu
 have ntup:∀ c (xs:Fx),H c=some xs.1->c≠x:=fun c xs r z=>by
  subst z; rw [r] at mu; obtain ⟨u,hu⟩:=xs
  cases u <;> first | exact False.elim mu | exact False.elim hu
 by_cases hb:b=x
 · subst hb; rw [qG] at q; cases q; exact new
 · rw [zS hb] at q
   by_cases hbe:b=e
   · have q':H b=some (.own x):=by
      rcases he with z | z
      · exact absurd (hbe.trans z) hb
      · rw [hbe]; exact z
     rw [q] at q'; cases q'
     obtain ⟨v,hv⟩:=heo
     exact ⟨v,by rw [hbe]; exact hv⟩
   · refine (ok b u q).stay (fun c v hc r => k c v ?_ r) (fun c r => by rw [zS (nown c b r)]; exact r) fun c xs r => by rw [zS (ntup c xs r)]; exact r
     rcases hc with rfl | hc
     · exact hbe
     · rintro rfl
       rcases he with z | z
       · exact nown c b hc z
       · rw [hc] at z; cases z; exact hb rfl
end
structure Un (fs ex:List Addr) (H H':Hp) (h h':Heap):Prop where
 keep:∀ b o,h.get? b=some o->H b=none->b ∉ fs->b ∉ ex->h'.get? b=some o
 slot:∀ b o,h.get? b=some o->H b=none->b∈fs->b ∉ ex->∃ sl,h'.get? b=some { o with slots:=sl }
 free:∀ b o,h.get? b=some o->H b=none->b ∉ ex->H' b=none
 there:∀ b o,h.get? b=some o->b ∉ ex->∃ o',h'.get? b=some o'
 tups:∀ b xs,H b=some (.tup xs)->H' b=some (.tup xs)
 frzs:∀ b o u,H b=some (.frz o u)->H' b=some (.frz o u)
 tbls:∀ b ps,H b=some (.tbl ps)->H' b=some (.tbl ps)
section
variable {fs fs' ex ex':List Addr} {H H1 H2:Hp} {h h1 h2 h':Heap} {a x e:Addr} {o:HO}
theorem Un.any (u:Un fs ex H H1 h h1) {b:Addr} {ob:Obj} (q:h.get? b=some ob) (n:H b=none) (hx:b ∉ ex):∃ sl,h1.get? b=some { ob with slots:=sl }:=by
 by_cases hb:b∈fs
 · exact u.slot b ob q n hb hx
 · exact ⟨ob.slots,u.keep b ob q n hb hx⟩
theorem Un.trans (a:Un fs ex H H1 h h1) (b:Un fs ex H1 H2 h1 h2):Un fs ex H H2 h h2 where
 keep:=fun c ob q n hc hx=>b.keep c ob (a.keep c ob q n hc hx) (a.free c ob q n hx) hc hx
 slot:=fun c ob q n hc hx=>by
  obtain ⟨sl,e1⟩:=a.slot c ob q n hc hx
  obtain ⟨sl',e2⟩:=b.slot c _ e1 (a.free c ob q n hx) hc hx
  exact ⟨sl',e2⟩
 free:=fun c ob q n hx=>by
  obtain ⟨o',e1⟩:=a.there c ob q hx
  exact b.free c o' e1 (a.free c ob q n hx) hx
 there:=fun c ob q hx=>by
  obtain ⟨o',e1⟩:=a.there c ob q hx
  exact b.there c o' e1 hx
 tups:=fun c xs q=>b.tups c xs (a.tups c xs q)
 frzs:=fun c ob xs q=>b.frzs c ob xs (a.frzs c ob xs q)
 tbls:=fun c ps q=>b.tbls c ps (a.tbls c ps q)
theorem Un.kept (k:∀ b u,h.get? b=some u->h'.get? b=some u):Un fs ex H H h h' :=
 ⟨fun b ob q _ _ _=>k b ob q,fun b ob q _ _ _=>⟨ob.slots,k b ob q⟩,fun _ _ _ n _=>n,fun b ob q _=>⟨ob,k b ob q⟩,fun _ _ q=>q,fun _ _ _ q=>q,fun _ _ q=>q⟩
theorem Un.refl:Un fs ex H H h h:=Un.kept fun _ _ q=>q
theorem Un.laid (k:∀ b u,h.get? b=some u->h'.get? b=some u) (hp:h.objs.size<=a) (hn:H a=none):Un fs ex H (upd H a o) h h' where
 keep:=fun b u q _ _ _=>k b u q
 slot:=fun b u q _ _ _=>⟨u.slots,k b u q⟩
 free:=fun b u q n _=>by rw [zS (Nat.ne_of_lt (Nat.lt_of_lt_of_le (Heap.lt_size q) hp))]; exact n
 there:=fun b u q _=>⟨u,k b u q⟩
 tups:=fun b xs q=>by rw [zS (jV q hn)]; exact q
 frzs:=fun b u xs q=>by rw [zS (jV q hn)]; exact q
 tbls:=fun b ps q=>by rw [zS (jV q hn)]; exact q
theorem Un.write (mu:Mut (H x)) (he:e=x \/ H e=some (.own x)) (k:∀ b u,b≠e->h.get? b=some u->h'.get? b=some u) (heo:∃ u,h'.get? e=some u):Un fs ex H (upd H x o) h h':=by
 have hx:∀ b,H b=none->b≠x:=fun b n z=>by subst z; rw [n] at mu; exact mu
 have hb:∀ b,H b=none->b≠e:=fun b n z=>by
  subst z
  rcases he with r | r
  · exact hx b n r
  · rw [n] at r; cases r
 have hm:∀ b u,H b=some u->¬ Mut (some u)->b≠x:=fun b u q nm z=>by subst z; rw [q] at mu; exact nm mu
 refine ⟨fun b u q n _ _=>k b u (hb b n) q,fun b u q n _ _=>⟨u.slots,k b u (hb b n) q⟩,fun b u q n _=>by rw [zS (hx b n)]; exact n,fun b u q _=>?_,
  fun b xs q=>by rw [zS (hm b _ q fun z=>z)]; exact q,fun b u xs q=>by rw [zS (hm b _ q fun z=>z)]; exact q,fun b ps q=>by rw [zS (hm b _ q fun z=>z)]; exact q⟩
 by_cases hbe:b=e
 · subst hbe; exact heo
 · exact ⟨u,k b u hbe q⟩
end
def trk (h:Heap) (H:Hp):List Addr:=(List.range h.objs.size).filter fun a=>(H a).isSome
def hidT (h:Heap) (H:Hp):Heap:=PySem.W.hideAll h (trk h H)
theorem hidT_size (h:Heap) (H:Hp):(hidT h H).objs.size=h.objs.size:=PySem.W.hideAll_size _ _
theorem hidT_get {h:Heap} {H:Hp} {b:Addr} {o:Obj} (e:h.get? b=some o) (n:H b=none):(hidT h H).get? b=some o :=
 PySem.W.hideAll_get _ e fun hm=>by
  have q:(H b).isSome=true:=(List.mem_filter.mp hm).2
  rw [n] at q; simp at q
theorem of_hidT {h:Heap} {H:Hp} {b:Addr} {o:Obj} (e:(hidT h H).get? b=some o):h.get? b=some o/\H b=none:=by
 have e':h.get? b=some o:=PySem.W.of_hideAll (trk h H) e
 refine ⟨e',?_⟩
 cases q:H b with
 | none=>rfl
 | some x =>
   have hm:b∈trk h H:=List.mem_filter.mpr ⟨List.mem_range.mpr (Heap.lt_size e'),by simp [q]⟩
   have z:(hidT h H).get? b=none:=PySem.W.hideAll_none (trk h H) hm
   rw [z] at e; cases e
def allNews (g h:Heap) (L:Addr):List (Addr×Obj):=(List.range h.objs.size).filterMap fun a=>if a=L \/ (g.get? a).isSome=true then none else (h.get? a).map fun o=>(a,o)
def rest (g h:Heap) (L d:Addr):List (Addr×Obj):=(allNews g h L).filter fun p=>decide (p.1≠d)
end L2
namespace L2
open PySem PySem.Spec PyProof.Rows
structure Mod (K:PySem.W.Frag) (mg:Str->Option Value) (base:Heap):Prop where
 kin:K.In base
 glob:base.Ns mainGlobals mg
 blt:∃ mb,base.Ns builtinsNs mb/\∀ x:Str,x≠"__name__"->mb x=bootBuiltins x
 nolimit:base.NoLimit
structure Cx where
 prog:Program
 w:World
 K:PySem.W.Frag
 mg:Str->Option Value
 base:Heap
 A:Around
 N:List Str
 s₀ : Shared
 H₀ : Hp
 env:Env
 outer:List Env
 stack:List Env
 ex:List Addr
 fn:Str->Bool
 calm:Bool
 pn:List (Addr×Obj)
 xe:Value->Shared->Prop
def frs (l:List Env):List Addr:=l.filterMap (·.frame)
abbrev Cx.fs (X:Cx):List Addr:=frs X.outer
def Vis (sc:Scope) (x:Str):Prop:=sc.names.lookup x=some .local \/ sc.names.lookup x=some .cell \/ sc.names.lookup x=some .free
def Loc (sc:Scope) (x:Str):Prop:=sc.names.lookup x=some .local \/ sc.names.lookup x=some .cell
def Look (env:Env) (h:Heap) (m:Str->Option Value) (x:Str) (u:Value):Prop :=
 (env.kindOf x=some .local/\m x=some u) \/ ((env.kindOf x=some .cell \/ env.kindOf x=some .free)/\∃ c,env.cells.lookup x=some c/\h.IsCell c (some u))
def makers:List Str:=["law","_law_with_itself","_law_ways","_law_way","holding","_law_any_test","_law_test","_law_turned","_law_right","wheel_run","answer_run"]
def innerN:List Stmt->Nat->Nat->Str
 | [],_,_=>"<lambda>"
 | .FunctionDef n _ _ _ _ _ _ _ _ pos::r,l,c=>if pos.line=l/\pos.col=c then n else innerN r l c
 | _::r,l,c=>innerN r l c
def innerQ (K:PySem.W.Frag) (x:Str) (l c:Nat):Str:=match PySem.W.nsIn K mainGlobals x with
 | some (some (.ref f)) => (match K.lookup f with
   | some ⟨_, _, .func fd, _⟩ => (match fd.body with
     | .stmts b=>x++".<locals>."++innerN b l c
     | _=>x)
   | _=>x)
 | _=>x
structure TabsK (K:PySem.W.Frag) (mg:Str->Option Value) (base:Heap) (H:Hp):Prop where
 bm:∃ bm ob,mg "__builtins__" = some (.ref bm)/\bm≠builtinsNs/\base.get? bm=some ob/\ob.cls = .type "module"/\ob.dict=some builtinsNs/\ob.data = .plain
 tab:∀ x c P,x∈makers->PySem.W.tabIn K x=some (c,P)->PySem.W.CodeHd base c P/\H P=some (.tbl (innerQ K x))
def Bsz (K:PySem.W.Frag) (mg:Str->Option Value) (base h:Heap) (H:Hp):Prop:=base.objs.size<=h.objs.size/\TabsK K mg base H
def FreeC (X:Cx) (H:Hp) (x:Str) (c:Addr):Prop:=H c=none \/ (X.fn x=false/\∃ o u,H c=some (.frz o u))
theorem FreeC.now {X:Cx} {H:Hp} {x:Str} {c:Addr} (h:FreeC X H x c) (hf:X.fn x=true):H c=none:=h.elim id fun z=>by rw [hf] at z; cases z.1
structure Cx.Ok (X:Cx):Prop where
 mod:Mod X.K X.mg X.base
 kind:X.env.scope.kind = .function
 glob:X.env.globals=mainGlobals
 blt:X.env.builtins=builtinsNs
 above:X.s₀.heap.objs.size<=X.env.locals
 inj:∀ x y c,X.env.cells.lookup x=some c->X.env.cells.lookup y=some c->x=y
 has:∀ x,(X.env.kindOf x=some .cell \/ X.env.kindOf x=some .free)->∃ c,X.env.cells.lookup x=some c
 cab:∀ x c,X.fn x=true->X.env.cells.lookup x=some c->X.s₀.heap.objs.size<=c
 hd:X.calm=true->X.A.handled=none
 frames:X.A.frames=some X.stack
 stk:X.stack=X.outer \/ (X.stack=X.env::X.outer/\X.env.frame=some X.env.locals)
 exf:∀ b∈X.ex,b≠X.env.locals/\∀ x c,X.env.cells.lookup x=some c->c≠b
 bs:∀ b o,X.base.get? b=some o->X.s₀.heap.get? b=some o/\X.H₀ b=none
 bsz:Bsz X.K X.mg X.base X.s₀.heap X.H₀
 noex:∀ b o,X.base.get? b=some o->b ∉ X.ex
 exfs:∀ b∈X.ex,b ∉ X.fs
 funs:X.s₀.heap.FunFrames X.base X.outer
 frf:∀ b∈X.fs,X.H₀ b=none
structure Inv (X:Cx) (pins:List (Addr×Obj)) (σ : List (Option V)) (H:Hp) (s:Shared):Prop where
 ok:X.Ok
 os:s.os=X.s₀.os
 bare:AllBare s.gens
 base:Un X.fs X.ex X.H₀ H X.s₀.heap s.heap
 loc:∃ m,s.heap.Ns X.env.locals m/\∀ (i:Nat) (x:Str) (v:V),X.N[i]? = some x->σ[i]? = some (some v)->Vis X.env.scope x->∃ u,RelV v u/\Look X.env s.heap m x u
 cell:∀ x c,X.env.cells.lookup x=some c->∃ v,s.heap.IsCell c v
 free:H X.env.locals=none
 freeC:∀ x c,X.env.cells.lookup x=some c->FreeC X H x c
 pin:∀ p∈X.pn++pins,s.heap.get? p.1=some p.2/\H p.1=none/\p.1≠X.env.locals/\p.1 ∉ X.fs/\∀ v,p.2.data≠.cell v
 hok:HOk X.prog X.w H s.heap
 len : σ.length=X.N.length
section
variable {X:Cx} {pins:List (Addr×Obj)} {σ : List (Option V)} {H H':Hp} {s:Shared} {h':Heap}
theorem Cx.Ok.nofr (ok:X.Ok) {b:Addr} {o:Obj} (e:X.base.get? b=some o):b ∉ X.fs:=fun hb=>by
 have:=(ok.funs.mem hb).1
 rw [e] at this; cases this
theorem Inv.bs (I:Inv X pins σ H s):∀ b o,X.base.get? b=some o->s.heap.get? b=some o/\H b=none:=fun b o e =>
 ⟨I.base.keep b o (I.ok.bs b o e).1 (I.ok.bs b o e).2 (I.ok.nofr e) (I.ok.noex b o e),I.base.free b o (I.ok.bs b o e).1 (I.ok.bs b o e).2 (I.ok.noex b o e)⟩
theorem Inv.bk (I:Inv X pins σ H s):∀ b o,X.base.get? b=some o->s.heap.get? b=some o:=fun b o e=>(I.bs b o e).1
theorem Inv.mod (I:Inv X pins σ H s):Mod X.K X.mg X.base:=I.ok.mod
theorem Inv.kIn (I:Inv X pins σ H s):X.K.In s.heap:=I.ok.mod.kin.keeps I.bk
theorem Inv.lt (I:Inv X pins σ H s):X.env.locals < s.heap.objs.size:=let ⟨_,hn,_⟩:=I.loc; hn.lt
theorem Inv.sz (I:Inv X pins σ H s):X.s₀.heap.objs.size<=s.heap.objs.size:=Nat.le_trans I.ok.above (Nat.le_of_lt I.lt)
theorem Inv.nofs (I:Inv X pins σ H s) {a:Addr} (h:s.heap.objs.size<=a):a ∉ X.fs:=fun hb=>by
 obtain ⟨_,o,ho,_⟩:=I.ok.funs.mem hb
 exact absurd (Nat.lt_of_lt_of_le (Heap.lt_size ho) (Nat.le_trans I.sz h)) (Nat.lt_irrefl _)
theorem Inv.cne (I:Inv X pins σ H s):∀ x c,X.env.cells.lookup x=some c->c≠X.env.locals:=fun x c e z=>by
 obtain ⟨v,o,ho,hd⟩:=I.cell x c e
 obtain ⟨m,⟨o',es,ep,ho',hd',_⟩,_⟩:=I.loc
 rw [z,ho'] at ho; cases ho; rw [hd'] at hd; cases hd
theorem Inv.funs (I:Inv X pins σ H s):s.heap.FunFrames X.base X.outer:=by
 have all:∀ (l:List Env),(∀ b∈frs l,b∈X.fs)->X.s₀.heap.FunFrames X.base l->s.heap.FunFrames X.base l:=by
  intro l
  induction l with
  | nil=>intro _ _; trivial
  | cons env r ih =>
    intro hs hl
    obtain ⟨hk,⟨L,o,hf,hn,ho,hd⟩,hr⟩:=hl
    have hL:L∈X.fs:=hs L (by unfold frs; rw [List.filterMap_cons,hf]; exact List.mem_cons_self)
    obtain ⟨sl,e⟩:=I.base.slot L o ho (I.ok.frf L hL) hL fun z=>I.ok.exfs L z hL
    exact ⟨hk,⟨L,_,hf,hn,e,hd⟩,ih (fun b hb=>hs b (by unfold frs; rw [List.filterMap_cons,hf]; exact List.mem_cons_of_mem _ hb)) hr⟩
 exact all X.outer (fun _ hb=>hb) I.ok.funs
theorem Inv.stack (I:Inv X pins σ H s):s.heap.FunFrames X.base X.stack:=by
 rcases I.ok.stk with e | ⟨e,hf⟩
 · rw [e]; exact I.funs
 · rw [e]
   obtain ⟨m,hn,_⟩:=I.loc
   refine .cons (by rw [I.ok.kind]; decide) hf hn ?_ I.funs
   exact Heap.get?_none_of_le (Nat.le_trans I.ok.bsz.1 I.ok.above)
theorem Inv.stkSub (I:Inv X pins σ H s):∀ b∈frs X.stack,b∈X.env.locals::X.fs:=fun b hb=>by
 rcases I.ok.stk with e | ⟨e,hf⟩
 · rw [e] at hb; exact List.mem_cons_of_mem _ hb
 · rw [e] at hb
   unfold frs at hb
   rw [List.filterMap_cons,hf] at hb
   exact hb
theorem Inv.stkFree (I:Inv X pins σ H s):∀ b∈frs X.stack,H b=none:=fun b hb=>by
 rcases List.mem_cons.mp (I.stkSub b hb) with e | hb
 · rw [e]; exact I.free
 · obtain ⟨_, o, ho, _⟩ := I.ok.funs.mem hb
   exact I.base.free b o ho (I.ok.frf b hb) fun z=>I.ok.exfs b z hb
theorem Inv.step {g':Array GenState} {t':Nat} {d':Drawn} {ch:List Addr} (I:Inv X pins σ H s)
  (hch:∀ b∈ch,(b∈X.ex \/ X.s₀.heap.objs.size<=b)/\b≠X.env.locals/\(∀ x c,X.env.cells.lookup x=some c->c≠b)/\∀ p∈X.pn++pins,p.1≠b)
  (keep:∀ b o,b≠X.env.locals->b ∉ X.fs->b ∉ ch->s.heap.get? b=some o->H b=none->h'.get? b=some o)
  (slot:∀ b o,b≠X.env.locals->b∈X.fs->b ∉ ch->s.heap.get? b=some o->H b=none->∃ sl,h'.get? b=some { o with slots:=sl }) (free:∀ b o,b ∉ ch->s.heap.get? b=some o->H b=none->H' b=none)
  (there:∀ b o,b ∉ ch->s.heap.get? b=some o->∃ o',h'.get? b=some o')
  (tups:∀ b xs,H b=some (.tup xs)->H' b=some (.tup xs)) (frzs:∀ b o u,H b=some (.frz o u)->H' b=some (.frz o u)) (tbls:∀ b ps,H b=some (.tbl ps)->H' b=some (.tbl ps))
  (ns:∀ m,s.heap.Ns X.env.locals m->h'.Ns X.env.locals m) (hok:HOk X.prog X.w H' h') (hg:AllBare g') :
  Inv X pins σ H' { s with heap:=h',gens:=g',drawn:=d',toks:=t' }:=by
 have neL:∀ b o,X.s₀.heap.get? b=some o->b≠X.env.locals:=fun b o e=>Nat.ne_of_lt (Nat.lt_of_lt_of_le (Heap.lt_size e) I.ok.above)
 have neC:∀ b o,X.s₀.heap.get? b=some o->b ∉ X.ex->b ∉ ch:=fun b o e hx hb=>by
  rcases (hch b hb).1 with z | z
  · exact hx z
  · exact absurd (Nat.lt_of_lt_of_le (Heap.lt_size e) z) (Nat.lt_irrefl _)
 have cellK:∀ x c,X.env.cells.lookup x=some c->∀ v,s.heap.IsCell c v->h'.IsCell c v:=fun x c e v ⟨o,ho,hd⟩=>by
  have nch:c ∉ ch:=fun z=>(hch c z).2.2.1 x c e rfl
  rcases I.freeC x c e with fr | ⟨_,of,uf,fr⟩
  · by_cases hc : c ∈ X.fs
    · obtain ⟨sl, q⟩ := slot c o (I.cne x c e) hc nch ho fr
      exact ⟨_,q,hd⟩
    · exact ⟨o,keep c o (I.cne x c e) hc nch ho fr,hd⟩
  · obtain ⟨e1, _⟩ := I.hok c _ fr
    obtain ⟨e2,_⟩:=hok c _ (frzs c of uf fr)
    rw [ho] at e1; cases e1
    exact ⟨o,e2,hd⟩
 refine ⟨I.ok,I.os,hg,⟨fun b o e n hb hx=>?_,fun b o e n hb hx=>?_,fun b o e n hx=>?_,fun b o e hx=>?_,fun b xs e=>tups b xs (I.base.tups b xs e),fun b o xs e=>frzs b o xs (I.base.frzs b o xs e),fun b ps e=>?_⟩,?_,fun x c e=>?_,?_,fun x c e=>?_,fun p hp=>?_,hok,I.len⟩
 · exact keep b o (neL b o e) hb (neC b o e hx) (I.base.keep b o e n hb hx) (I.base.free b o e n hx)
 · obtain ⟨sl, e1⟩ := I.base.slot b o e n hb hx
   obtain ⟨sl',e2⟩:=slot b _ (neL b o e) hb (neC b o e hx) e1 (I.base.free b o e n hx)
   exact ⟨sl',e2⟩
 · obtain ⟨o', e1⟩ := I.base.there b o e hx
   exact free b o' (neC b o e hx) e1 (I.base.free b o e n hx)
 · obtain ⟨o', e1⟩ := I.base.there b o e hx
   exact there b o' (neC b o e hx) e1
 · exact tbls b ps (I.base.tbls b ps e)
 · obtain ⟨m, hn, hl⟩ := I.loc
   refine ⟨m,ns m hn,fun i x v e1 e2 e3=>?_⟩
   obtain ⟨u,r,l⟩:=hl i x v e1 e2 e3
   refine ⟨u,r,?_⟩
   rcases l with l | ⟨k,c,e,z⟩
   · exact .inl l
   · exact .inr ⟨k,c,e,cellK x c e _ z⟩
 · obtain ⟨v, z⟩ := I.cell x c e
   exact ⟨v,cellK x c e v z⟩
 · obtain ⟨m, ⟨o, _, _, ho, _⟩, _⟩ := I.loc
   exact free _ o (fun z=>(hch _ z).2.1 rfl) ho I.free
 · obtain ⟨v, o, ho, hd⟩ := I.cell x c e
   exact (I.freeC x c e).elim (fun fr=>.inl (free c o (fun z=>(hch c z).2.2.1 x c e rfl) ho fr)) fun ⟨h1,of,uf,fr⟩=>.inr ⟨h1,of,uf,frzs c of uf fr⟩
 · obtain ⟨e, n, ne, nf, d⟩ := I.pin p hp
   have nch:p.1 ∉ ch:=fun z=>(hch p.1 z).2.2.2 p hp rfl
   exact ⟨keep p.1 p.2 ne nf nch e n,free p.1 p.2 nch e n,ne,nf,d⟩
theorem Inv.un {t':Nat} (I:Inv X pins σ H s) (u:Un X.fs [] H H' s.heap h') (hok:HOk X.prog X.w H' h'):Inv X pins σ H' { s with heap:=h',toks:=t' }:=by
 obtain ⟨m,⟨o,es,ep,ho,r⟩,_⟩:=id I.loc
 obtain ⟨sl,hL⟩:=u.any ho I.free (by simp)
 exact I.step (g':=s.gens) (d':=s.drawn) (ch:=[]) (fun _ z=>nomatch z) (fun b o _ hb _ e n=>u.keep b o e n hb (by simp)) (fun b o _ hb _ e n=>u.slot b o e n hb (by simp)) (fun b o _ e n=>u.free b o e n (by simp)) (fun b o _ e=>u.there b o e (by simp)) u.tups u.frzs u.tbls (fun m' hm=>by
  obtain ⟨o',es',ep',ho',r'⟩:=hm
  rw [ho] at ho'; cases ho'
  exact ⟨_,es',ep',hL,r'⟩) hok I.bare
theorem Inv.call {g':Array GenState} {t':Nat} {d':Drawn} {ch:List Addr} (I:Inv X pins σ H s) (u:Un (frs X.stack) ch H H' s.heap h') (hok:HOk X.prog X.w H' h') (hg:AllBare g')
  (hch:∀ b∈ch,(b∈X.ex \/ X.s₀.heap.objs.size<=b)/\b≠X.env.locals/\(∀ x c,X.env.cells.lookup x=some c->c≠b)/\∀ p∈X.pn++pins,p.1≠b) :
  Inv X pins σ H' { s with heap:=h',gens:=g',drawn:=d',toks:=t' }:=by
 obtain ⟨m,⟨o,es,ep,ho,r⟩,_⟩:=id I.loc
 obtain ⟨sl,hL⟩:=u.any ho I.free fun z=>(hch _ z).2.1 rfl
 exact I.step (ch:=ch) hch (fun b o hL hb hc e n=>u.keep b o e n (fun z=>(List.mem_cons.mp (I.stkSub b z)).elim hL hb) hc) (fun b o _ _ hc e n=>u.any e n hc) (fun b o hc e n=>u.free b o e n hc) (fun b o hc e=>u.there b o e hc) u.tups u.frzs u.tbls (fun m' hm=>by
  obtain ⟨o',es',ep',ho',r'⟩:=hm
  rw [ho] at ho'; cases ho'
  exact ⟨_,es',ep',hL,r'⟩) hok hg
theorem Inv.turned {t':Nat} {it:Addr} (I:Inv X pins σ H s) (k:∀ b o,b≠it->s.heap.get? b=some o->h'.get? b=some o) (hn:H it=none) (hL:it≠X.env.locals)
  (h1:it∈X.ex \/ X.s₀.heap.objs.size<=it) (h2:∀ x c,X.env.cells.lookup x=some c->c≠it) (h3:∀ p∈X.pn++pins,p.1≠it):Inv X pins σ H { s with heap:=h',toks:=t' }:=by
 have nit:∀ b u,H b=some u->b≠it:=fun b u e z=>by rw [z,hn] at e; cases e
 refine I.step (g':=s.gens) (d':=s.drawn) (ch:=[it]) (fun b hb=>?_) (fun b o _ _ hc e _=>k b o (fun z=>hc (by simp [z])) e) (fun b o _ _ hc e _=>⟨o.slots,k b o (fun z=>hc (by simp [z])) e⟩) (fun _ _ _ _ n=>n)
  (fun b o hc e=>⟨o,k b o (fun z=>hc (by simp [z])) e⟩) (fun _ _ e=>e) (fun _ _ _ e=>e) (fun _ _ e=>e) (fun m hm=>?_) (fun b u e=>?_) I.bare
 · have e : b = it := by simpa using hb
   subst e
   exact ⟨h1,hL,h2,h3⟩
 · obtain ⟨o, es, ep, ho, r⟩ := hm
   exact ⟨o,es,ep,k _ o (Ne.symm hL) ho,r⟩
 · refine (I.hok b u e).stay (fun c v hc q => k c v ?_ q) (fun _ q => q) fun _ _ q => q
   rcases hc with z | z
   · rw [z]; exact nit b u e
   · exact nit c _ z
theorem Inv.tok (I:Inv X pins σ H s) (t:Nat):Inv X pins σ H { s with toks:=t }:=I.un (h':=s.heap) (t':=t) Un.refl I.hok
theorem Inv.kept {t':Nat} (I:Inv X pins σ H s) (k:∀ b u,s.heap.get? b=some u->h'.get? b=some u):Inv X pins σ H { s with heap:=h',toks:=t' }:=I.un (Un.kept k) (I.hok.kept k)
theorem Inv.laid {a:Addr} {o:HO} {t':Nat} (I:Inv X pins σ H s) (k:∀ b u,s.heap.get? b=some u->h'.get? b=some u) (hp:s.heap.objs.size<=a) (new:ObjOk X.prog X.w (upd H a o) h' a o) :
  Inv X pins σ (upd H a o) { s with heap:=h',toks:=t' }:=I.un (Un.laid k hp (I.hok.fresh hp)) (I.hok.laid k hp new)
theorem Inv.write {x e:Addr} {o:HO} {t':Nat} (I:Inv X pins σ H s) (mu:Mut (H x)) (he:e=x \/ H e=some (.own x)) (k:∀ b u,b≠e->s.heap.get? b=some u->h'.get? b=some u) (heo:∃ u,h'.get? e=some u)
  (new:ObjOk X.prog X.w (upd H x o) h' x o):Inv X pins σ (upd H x o) { s with heap:=h',toks:=t' }:=I.un (Un.write mu he k heo) (I.hok.write mu he k heo new)
theorem Inv.pins_of {pins':List (Addr×Obj)} (I:Inv X pins σ H s) (h:∀ p∈pins',s.heap.get? p.1=some p.2/\H p.1=none/\p.1≠X.env.locals/\p.1 ∉ X.fs/\∀ v,p.2.data≠.cell v):Inv X pins' σ H s :=
 ⟨I.ok,I.os,I.bare,I.base,I.loc,I.cell,I.free,I.freeC,fun p hp=>(List.mem_append.mp hp).elim (fun z=>I.pin p (List.mem_append_left _ z)) (h p),I.hok,I.len⟩
theorem vJ {N:List Str} (hN:N.Nodup) {i j:Nat} {x:Str} (a:N[i]? = some x) (b:N[j]? = some x):i=j:=by
 obtain ⟨h1,e1⟩:=List.getElem?_eq_some_iff.mp a
 obtain ⟨h2,e2⟩:=List.getElem?_eq_some_iff.mp b
 exact (List.getElem_inj hN).mp (e1.trans e2.symm)
theorem store_ok2 {M:Model} {A:Around} {E:Value->Shared->Prop} {i:Nat} {x:Str} {v:V} {u:Value} {Q:Unit->Shared->Prop} (I:Inv X pins σ H s) (hN:X.N.Nodup) (hi:X.N[i]? = some x) (hx:Loc X.env.scope x) (r:RelV v u)
  (h:∀ s',Inv X pins (σ.set i (some v)) H s'->(∃ a,Heap.SameBut a s.heap s'.heap/\(a=X.env.locals \/ X.env.cells.lookup x=some a))->Q () s') (hf:X.fn x=true \/ X.env.scope.names.lookup x=some .local:=by first | exact .inl rfl | exact .inr rfl | assumption):wpAny M A (storeName X.env x u) Q E s:=by
 obtain ⟨m,hn,hl⟩:=id I.loc
 have hcls:(X.env.scope.kind == .class || (X.env.scope.kind == .module && X.env.locals != X.env.globals))=false:=by rw [I.ok.kind]; rfl
 have hiσ : i < σ.length:=by rw [I.len]; exact (List.getElem?_eq_some_iff.mp hi).1
 have cne:=I.cne
 have tracked:∀ {a:Addr} {h':Heap},(∃ o,s.heap.get? a=some o/\H a=none)->Heap.SameBut a s.heap h'->HOk X.prog X.w H h':=fun {a h'} ha hs b ob e=>by
  obtain ⟨_,_,hfree⟩:=ha
  refine (I.hok b ob e).stay (fun c w' hc q=>(hs.2 c ?_).trans q) (fun _ q=>q) fun _ _ q=>q
  rintro rfl
  rcases hc with rfl | hc
  · rw [hfree] at e; cases e
  · rw [hfree] at hc; cases hc
 rcases hx with hk | hk
 · refine wpAny_storeName_local hk hn (fun h' hn' hs => ?_) hcls
   obtain ⟨oL,_,_,hoL,_⟩:=id hn
   refine h _ ⟨I.ok,I.os,I.bare,⟨fun b o e n hb hx=>?_,fun b o e n hb hx=>?_,I.base.free,fun b o e hx=>?_,I.base.tups,I.base.frzs,I.base.tbls⟩,⟨_,hn',fun j y v' e1 e2 e3=>?_⟩,fun y c e=>?_,I.free,I.freeC,fun p hp=>?_,tracked ⟨oL,hoL,I.free⟩ hs,by simpa using I.len⟩ ⟨_,hs,.inl rfl⟩
   · exact (hs.2 b (Nat.ne_of_lt (Nat.lt_of_lt_of_le (Heap.lt_size e) I.ok.above))).trans (I.base.keep b o e n hb hx)
   · obtain ⟨sl, e1⟩ := I.base.slot b o e n hb hx
     exact ⟨sl,(hs.2 b (Nat.ne_of_lt (Nat.lt_of_lt_of_le (Heap.lt_size e) I.ok.above))).trans e1⟩
   · obtain ⟨o', e1⟩ := I.base.there b o e hx
     exact ⟨o',(hs.2 b (Nat.ne_of_lt (Nat.lt_of_lt_of_le (Heap.lt_size e) I.ok.above))).trans e1⟩
   · by_cases hj : j = i
     · subst hj
       rw [hi] at e1; cases e1
       rw [List.getElem?_set_self hiσ] at e2
       cases e2
       exact ⟨u,r,.inl ⟨hk,by simp⟩⟩
     · rw [List.getElem?_set_ne (Ne.symm hj)] at e2
       obtain ⟨u',r',q⟩:=hl j y v' e1 e2 e3
       refine ⟨u',r',?_⟩
       rcases q with ⟨k,e⟩ | ⟨k,c,e,z⟩
       · refine .inl ⟨k, ?_⟩
         have:y≠x:=fun e=>hj (vJ hN e1 (e ▸ hi))
         simp [this,e]
       · exact .inr ⟨k,c,e,z.sameBut hs (cne y c e)⟩
   · obtain ⟨w', z⟩ := I.cell y c e
     exact ⟨w',z.sameBut hs (cne y c e)⟩
   · obtain ⟨e, n, ne, nf, d⟩ := I.pin p hp
     exact ⟨(hs.2 p.1 ne).trans e,n,ne,nf,d⟩
 · have hfn:X.fn x=true:=by
    rcases hf with z | z
    · exact z
    · rw [z] at hk; cases hk
   obtain ⟨c,hc⟩:=I.ok.has x (.inl hk)
   obtain ⟨w',z⟩:=I.cell x c hc
   refine wpAny_storeName_cell I.ok.kind hk hc z (fun h' hc' hs=>?_)
   obtain ⟨oc,hoc,hocd⟩:=id z
   refine h { s with heap:=h' } ⟨I.ok,I.os,I.bare,⟨fun b o e n hb hx=>?_,fun b o e n hb hx=>?_,I.base.free,fun b o e hx=>?_,I.base.tups,I.base.frzs,I.base.tbls⟩,⟨m,hn.sameBut hs (Ne.symm (cne x c hc)),fun j y v' e1 e2 e3=>?_⟩,fun y c' e=>?_,I.free,I.freeC,fun p hp=>?_,tracked ⟨oc,hoc,(I.freeC x c hc).now hfn⟩ hs,by simpa using I.len⟩ ⟨c,hs,.inr hc⟩
   · exact (hs.2 b (Nat.ne_of_lt (Nat.lt_of_lt_of_le (Heap.lt_size e) (I.ok.cab x c hfn hc)))).trans (I.base.keep b o e n hb hx)
   · obtain ⟨sl, e1⟩ := I.base.slot b o e n hb hx
     exact ⟨sl,(hs.2 b (Nat.ne_of_lt (Nat.lt_of_lt_of_le (Heap.lt_size e) (I.ok.cab x c hfn hc)))).trans e1⟩
   · obtain ⟨o', e1⟩ := I.base.there b o e hx
     exact ⟨o',(hs.2 b (Nat.ne_of_lt (Nat.lt_of_lt_of_le (Heap.lt_size e) (I.ok.cab x c hfn hc)))).trans e1⟩
   · by_cases hj : j = i
     · subst hj
       rw [hi] at e1; cases e1
       rw [List.getElem?_set_self hiσ] at e2
       cases e2
       exact ⟨u,r,.inr ⟨.inl hk,c,hc,hc'⟩⟩
     · rw [List.getElem?_set_ne (Ne.symm hj)] at e2
       obtain ⟨u',r',q⟩:=hl j y v' e1 e2 e3
       refine ⟨u',r',?_⟩
       rcases q with q | ⟨k,c',e,z'⟩
       · exact .inl q
       · refine .inr ⟨k, c', e, z'.sameBut hs ?_⟩
         rintro rfl
         exact hj (vJ hN e1 (I.ok.inj _ _ _ e hc ▸ hi))
   · by_cases hcc : c' = c
     · subst hcc; exact ⟨_,hc'⟩
     · obtain ⟨w2, z2⟩ := I.cell y c' e
       exact ⟨w2,z2.sameBut hs hcc⟩
   · obtain ⟨e, n, ne, nf, d⟩ := I.pin p hp
     refine ⟨(hs.2 p.1 ?_).trans e,n,ne,nf,d⟩
     intro q
     rw [q,hoc] at e
     have q':oc=p.2:=Option.some.inj e
     exact d w' (by rw [<- q']; exact hocd)
theorem vN {M:Model} {A:Around} {E:Value->Shared->Prop} {i:Nat} {x:Str} {v:V} {u:Value} {Q:Unit->Shared->Prop} (I:Inv X pins σ H s) (hN:X.N.Nodup) (hi:X.N[i]? = some x) (hx:Loc X.env.scope x) (r:RelV v u)
  (h:∀ s',Inv X pins (σ.set i (some v)) H s'->Q () s') (hf:X.fn x=true \/ X.env.scope.names.lookup x=some .local:=by first | exact .inl rfl | exact .inr rfl | assumption):wpAny M A (storeName X.env x u) Q E s :=
 store_ok2 I hN hi hx r (fun s' I' _=>h s' I') hf
theorem Inv.call' {s':Shared} {ch:List Addr} (I:Inv X pins σ H s) (ho:s'.os=s.os) (u:Un (frs X.stack) ch H H' s.heap s'.heap) (hok:HOk X.prog X.w H' s'.heap) (hg:AllBare s'.gens)
  (hch:∀ b∈ch,(b∈X.ex \/ X.s₀.heap.objs.size<=b)/\b≠X.env.locals/\(∀ x c,X.env.cells.lookup x=some c->c≠b)/\∀ p∈X.pn++pins,p.1≠b):Inv X pins σ H' s':=by
 obtain ⟨h',g',d',t',o'⟩:=s'
 have e:o'=s.os:=ho
 subst e
 exact I.call (g':=g') (t':=t') (d':=d') u hok hg hch
end
abbrev XK:=Value->Option Addr->Hp->Prop
abbrev St:=List (Option V)
abbrev VK:=V->Hp->Prop
abbrev TE:=St->Hp->VK->Prop
abbrev TT:=St->Hp->(Bool->Hp->Prop)->Prop
abbrev TA:=St->Hp->(List V->Hp->Prop)->Prop
structure Ends where
 nx:St->Hp->Prop
 rt:VK
 bk:St->Hp->Prop:=fun _ _=>False
 ct:St->Hp->Prop:=fun _ _=>False
abbrev TS:=Ends->St->Hp->Prop
def EP (X:Cx) (pins:List (Addr×Obj)) (σ : St) (Q:VK) (u:Value) (s':Shared):Prop:=∃ v H',Inv X pins σ H' s'/\RelV v u/\Q v H'
def TP (X:Cx) (pins:List (Addr×Obj)) (σ : St) (Q:Bool->Hp->Prop) (b:Bool) (s':Shared):Prop:=∃ H',Inv X pins σ H' s'/\Q b H'
def AP (X:Cx) (pins:List (Addr×Obj)) (σ : St) (Q:List V->Hp->Prop) (us:List Value) (s':Shared):Prop:=∃ vs H',Inv X pins σ H' s'/\Vals vs us/\Q vs H'
def SP (X:Cx) (pins:List (Addr×Obj)) (D:Ends) (f:Flow) (s':Shared):Prop :=
 match f with
 | .next=>∃ σ' H',Inv X pins σ' H' s'/\D.nx σ' H'
 | .brk=>∃ σ' H',Inv X pins σ' H' s'/\D.bk σ' H'
 | .cont=>∃ σ' H',Inv X pins σ' H' s'/\D.ct σ' H'
 | .ret u=>∃ v σ' H',Inv X pins σ' H' s'/\RelV v u/\D.rt v H'
def PE (X:Cx) (e:Expr) (t:TE):Prop :=
 ∀ (pins:List (Addr×Obj)) (s:Shared) (σ : St) (H:Hp) (Q:VK),Inv X pins σ H s->t σ H Q->wpAny (model X.prog X.w) X.A (eval e X.env) (EP X pins σ Q) X.xe s
def PT (X:Cx) (e:Expr) (t:TT):Prop :=
 ∀ (pins:List (Addr×Obj)) (s:Shared) (σ : St) (H:Hp) (Q:Bool->Hp->Prop),Inv X pins σ H s->t σ H Q->wpAny (model X.prog X.w) X.A (isTrue e X.env (eval e X.env)) (TP X pins σ Q) X.xe s
def PW (X:Cx) (e:Expr) (t:TT):Prop :=
 ∀ (whole:Sem Value) (pins:List (Addr×Obj)) (s:Shared) (σ : St) (H:Hp) (Q:Bool->Hp->Prop),Inv X pins σ H s->t σ H Q->wpAny (model X.prog X.w) X.A (isTrue e X.env whole) (TP X pins σ Q) X.xe s
theorem PW.pt {X:Cx} {e:Expr} {t:TT} (h:PW X e t):PT X e t:=h _
def PA (X:Cx) (es:List Expr) (t:TA):Prop :=
 ∀ (pos:Pos) (pins:List (Addr×Obj)) (s:Shared) (σ : St) (H:Hp) (Q:List V->Hp->Prop),Inv X pins σ H s->t σ H Q->wpAny (model X.prog X.w) X.A (spliced (backTo pos (starEach es X.env))) (AP X pins σ Q) X.xe s
def PS (X:Cx) (st:Stmt) (t:TS):Prop :=
 ∀ (pins:List (Addr×Obj)) (s:Shared) (σ : St) (H:Hp) (D:Ends),Inv X pins σ H s->t D σ H->wpAny (model X.prog X.w) X.A (exec st X.env) (SP X pins D) X.xe s
def PSs (X:Cx) (st:List Stmt) (t:TS):Prop :=
 ∀ (pins:List (Addr×Obj)) (s:Shared) (σ : St) (H:Hp) (D:Ends),Inv X pins σ H s->t D σ H->wpAny (model X.prog X.w) X.A (execs st X.env) (SP X pins D) X.xe s
theorem thn {α : Type} {t:Sem α} {Q Q' : α->Shared->Prop} {M:Model} {A:Around} {E:Value->Shared->Prop} {s:Shared} (h:wpAny M A t Q E s) (hQ:∀ a s,Q a s->Q' a s):wpAny M A t Q' E s:=wpAny_mono h hQ fun _ _ x=>x
end L2
namespace L2
open PySem PySem.Spec PyProof.Rows
section
variable {X:Cx}
def tVar (i:Nat):TE:=fun σ H Q=>∃ v,σ[i]? = some (some v)/\Q v H
def tC (v:V):TE:=fun _ H Q=>Q v H
theorem yY {i:Nat} {x:Str} {pos:Pos} (hN:X.N[i]? = some x) (hv:Vis X.env.scope x) (hd:(x == ("__debug__" : Str))=false:=by decide) (hcd:(x == ("__classdict__" : Str))=false:=by decide):PE X (.Name x pos) (tVar i):=by
 intro pins s σ H Q I h
 obtain ⟨v,e,h⟩:=h
 obtain ⟨m,hn,hl⟩:=I.loc
 obtain ⟨u,r,l⟩:=hl i x v hN e hv
 have fin:EP X pins σ Q u s:=⟨v,H,I,r,h⟩
 rcases l with ⟨hk,hm⟩ | ⟨hk,c,hc,hcell⟩
 · exact wpAny_Name (wpAny_loadName_local I.ok.kind hk hn hm fin) hd
 · rcases hk with hk | hk
   · exact wpAny_Name (wpAny_loadName_cell I.ok.kind hk hc hcell fin) hd
   · exact wpAny_Name (wpAny_loadName_free I.ok.kind hk hc hcell fin hcd) hd
theorem pe_int {i j pos} : PE X (.Constant (.int i) j pos) (tC (.int i)):=fun _ _ _ H _ I h=>wpAny_Constant_int ⟨.int i,H,I.tok _,⟨_,rfl⟩,h⟩
theorem pe_bl {b j pos} : PE X (.Constant (.bool b) j pos) (tC (.bl b)):=fun _ _ _ H _ I h=>Constant_bool ⟨.bl b,H,I,rfl,h⟩
theorem pe_non {j pos} : PE X (.Constant .none j pos) (tC .non):=fun _ _ _ H _ I h=>Constant_none ⟨.non,H,I,rfl,h⟩
def Gl (X:Cx) (x:Str):Prop:=X.env.kindOf x=some .globalImplicit
theorem vC {E:Value->Shared->Prop} {pins:List (Addr×Obj)} {s:Shared} {σ : St} {H:Hp} {x:Str} {u:Value} {pos:Pos} {Q:Value->Shared->Prop} (I:Inv X pins σ H s) (hg:Gl X x) (hm:X.mg x=some u) (h:Q u s)
  (hd:(x == ("__debug__" : Str))=false:=by decide):wpAny (model X.prog X.w) X.A (eval (.Name x pos) X.env) Q E s :=
 Calls.Name_function_global I.ok.kind hg (Calls.loadGlobal_global (by rw [I.ok.glob]; exact I.mod.glob.keeps I.bk) hm h) hd
theorem wP {E:Value->Shared->Prop} {pins:List (Addr×Obj)} {s:Shared} {σ : St} {H:Hp} {x:Str} {u:Value} {pos:Pos} {Q:Value->Shared->Prop} (I:Inv X pins σ H s) (hg:Gl X x) (hm:X.mg x=none) (hv:bootBuiltins x=some u) (h:Q u s)
  (hn:x≠"__name__":=by decide) (hd:(x == ("__debug__" : Str))=false:=by decide):wpAny (model X.prog X.w) X.A (eval (.Name x pos) X.env) Q E s:=by
 obtain ⟨mb,h1,h2⟩:=I.mod.blt
 exact Calls.Name_function_global I.ok.kind hg (Calls.loadGlobal_builtin (by rw [I.ok.glob]; exact I.mod.glob.keeps I.bk) hm (by rw [I.ok.blt]; exact h1.keeps I.bk) ((h2 x hn).trans hv) h) hd
theorem kG {x:Str} {v:V} {u:Value} {pos:Pos} (hg:Gl X x) (hm:X.mg x=some u) (r:RelV v u) (hd:(x == ("__debug__" : Str))=false:=by decide):PE X (.Name x pos) (tC v) :=
 fun _ _ _ H _ I h=>vC I hg hm ⟨v,H,I,r,h⟩ hd
theorem pe_bltn {x:Str} {v:V} {u:Value} {pos:Pos} (hg:Gl X x) (hm:X.mg x=none) (hv:bootBuiltins x=some u) (r:RelV v u) (hn:x≠"__name__":=by decide) (hd:(x == ("__debug__" : Str))=false:=by decide):PE X (.Name x pos) (tC v) :=
 fun _ _ _ H _ I h=>wP I hg hm hv ⟨v,H,I,r,h⟩ hn hd
variable {a b:Expr} {ta tb:TE} {pos:Pos}
def tB (t:TE):TT:=fun σ H Q=>t σ H fun x H1=>∃ c,x = .bl c/\Q c H1
theorem pt_val {e:Expr} {t:TE} (h:PE X e t) (he:∀ whole,isTrue e X.env whole=(do let v <- whole; standAt e.pos; holding [v] (truthy v)):=by intro _; rfl):PT X e (tB t):=by
 intro pins s σ H Q I hw
 refine isTrue_plain (thn (h pins s σ H _ I hw) fun v s1 ⟨x,H1,I1,r1,q1⟩=>?_) (he _)
 obtain ⟨d,rfl,q⟩:=q1
 cases r1
 exact wpAny_truthy_bool ⟨H1,I1,q⟩
variable {tA tB':TT} {rest:List Expr}
def tAnd (t u:TT):TT:=fun σ H Q=>t σ H fun c H1=>if c=true then u σ H1 Q else Q false H1
def tOr (t u:TT):TT:=fun σ H Q=>t σ H fun c H1=>if c=true then Q true H1 else u σ H1 Q
def tNot (t:TT):TT:=fun σ H Q=>t σ H fun c H1=>Q (!c) H1
theorem pw_and1 (ha:PT X a tA):PW X (.BoolOp .And [a] pos) tA:=by
 intro wh pins s σ H Q I h
 refine isTrue_and (thn (ha pins s σ H Q I h) fun c s1 e=>?_)
 cases c with
 | true=>exact isTrue_and_nil e
 | false=>exact e
theorem pw_or1 (ha:PT X a tA):PW X (.BoolOp .Or [a] pos) tA:=by
 intro wh pins s σ H Q I h
 refine isTrue_or (thn (ha pins s σ H Q I h) fun c s1 e=>?_)
 cases c with
 | false=>exact isTrue_or_nil e
 | true=>exact e
theorem pw_and (ha:PT X a tA) (hb:PW X (.BoolOp .And (b::rest) pos) tB'):PW X (.BoolOp .And (a::b::rest) pos) (tAnd tA tB'):=by
 intro wh pins s σ H Q I h
 refine isTrue_and (thn (ha pins s σ H _ I h) fun c s1 ⟨H1,I1,q1⟩=>?_)
 cases c with
 | true=>exact hb wh pins s1 σ H1 Q I1 q1
 | false=>exact ⟨H1,I1,q1⟩
theorem pw_or (ha:PT X a tA) (hb:PW X (.BoolOp .Or (b::rest) pos) tB'):PW X (.BoolOp .Or (a::b::rest) pos) (tOr tA tB'):=by
 intro wh pins s σ H Q I h
 refine isTrue_or (thn (ha pins s σ H _ I h) fun c s1 ⟨H1,I1,q1⟩=>?_)
 cases c with
 | true=>exact ⟨H1,I1,q1⟩
 | false=>exact hb wh pins s1 σ H1 Q I1 q1
theorem pt_not (ha:PT X a tA):PT X (.UnaryOp .Not a pos) (tNot tA):=by
 intro pins s σ H Q I h
 exact isTrue_not (ha pins s σ H (fun c H1=>Q (!c) H1) I h)
def tAndV (ta tb:TE):TE:=fun σ H Q=>ta σ H fun x H1=>∃ c,x = .bl c/\if c=true then tb σ H1 Q else Q (.bl false) H1
def tNotV (ta:TE):TE:=fun σ H Q=>ta σ H fun x H1=>∃ c,x = .bl c/\Q (.bl (!c)) H1
theorem pe_one {op} {t:TE} (h:PE X a t):PE X (.BoolOp op [a] pos) t:=fun pins s σ H Q I hw=>BoolOp_one (h pins s σ H Q I hw)
theorem pe_and (ha:PE X a ta) (hb:PE X (.BoolOp .And (b::rest) pos) tb):PE X (.BoolOp .And (a::b::rest) pos) (tAndV ta tb):=by
 intro pins s σ H Q I h
 refine BoolOp_and (thn (ha pins s σ H _ I h) fun v s1 ⟨x,H1,I1,r1,q1⟩=>?_)
 obtain ⟨c,rfl,q1⟩:=q1
 cases r1
 refine wpAny_truthy_bool ?_
 cases c with
 | true=>exact hb pins s1 σ H1 Q I1 q1
 | false=>exact ⟨.bl false,H1,I1,rfl,q1⟩
theorem pe_not (ha:PE X a ta):PE X (.UnaryOp .Not a pos) (tNotV ta):=by
 intro pins s σ H Q I h
 refine UnaryOp_ (thn (ha pins s σ H _ I h) fun v s1 ⟨x,H1,I1,r1,q1⟩=>?_)
 obtain ⟨c,rfl,q1⟩:=q1
 cases r1
 exact not_of (wpAny_truthy_bool ⟨.bl (!c),H1,I1,rfl,q1⟩)
def tIf (t:TT) (ta tb:TE):TE:=fun σ H Q=>t σ H fun c H1=>if c=true then ta σ H1 Q else tb σ H1 Q
theorem pe_ifExp {c:Expr} (hc:PT X c tA) (ha:PE X a ta) (hb:PE X b tb):PE X (.IfExp c a b pos) (tIf tA ta tb):=by
 intro pins s σ H Q I h
 refine wpAny_IfExp (thn (hc pins s σ H _ I h) fun d s1 ⟨H1,I1,q1⟩=>?_)
 cases d with
 | true=>exact ha pins s1 σ H1 Q I1 q1
 | false=>exact hb pins s1 σ H1 Q I1 q1
end
end L2
namespace L2
open PySem PySem.Spec PyProof.Rows
def SqL (K:PySem.W.Frag) (H:Hp) (a:Addr) (xs:List V):Prop :=
 Rd H a (.lst xs) ∨
  ∃ (o:Obj) (its:Array Value) (n:Nat),K.lookup a=some o/\o.cls = .type "list"/\o.dict=none/\o.data = .seq its n/\its.size<=sizeLine/\Vals xs its.toList
def SqT (K:PySem.W.Frag) (H:Hp) (a:Addr) (xs:List V):Prop :=
 Rd H a (.tup xs) ∨
  ∃ (o:Obj) (its:Array Value) (n:Nat),K.lookup a=some o/\o.cls = .type "tuple"/\o.data = .seq its n/\its.size<=sizeLine/\Vals xs its.toList
def absV:Value->Option V
 | .none=>some .non
 | .bool b=>some (.bl b)
 | .int i _=>some (.int i)
 | .str x _=>some (.str x)
 | .bytes b _=>some (.byt b)
 | .float b _=>some (.flt b)
 | .ref a=>some (.ref a)
 | .type n=>some (.ty n)
 | _=>none
theorem RelV.abs {x:V} {u:Value} (r:RelV x u):absV u=some x:=by
 cases x with
 | non=>cases r; rfl
 | bl _=>cases r; rfl
 | int _=>obtain ⟨t,rfl⟩:=r; rfl
 | str _=>obtain ⟨t,rfl⟩:=r; rfl
 | byt _=>obtain ⟨t,rfl⟩:=r; rfl
 | flt _=>obtain ⟨t,rfl⟩:=r; rfl
 | ref _=>cases r; rfl
 | ty _=>cases r; rfl
theorem RelV.inj {x y:V} {u:Value} (r:RelV x u) (q:RelV y u):x=y:=Option.some.inj (r.abs.symm.trans q.abs)
theorem Vals.inj:∀ {xs ys:List V} {us:List Value},Vals xs us->Vals ys us->xs=ys
 | _,_,_,.nil,.nil=>rfl
 | _,_,_,.cons r t,.cons r' t'=>by rw [r.inj r',Vals.inj t t']
section
variable {X:Cx} {pins:List (Addr×Obj)} {σ : St} {H:Hp} {s:Shared} {a:Addr} {xs ys:List V}
theorem SqL.of {K:PySem.W.Frag} (h:H a=some (.lst xs)):SqL K H a xs:=.inl (.inl h)
theorem Inv.list (I:Inv X pins σ H s) (h:SqL X.K H a xs):∃ its:List Value,Vals xs its/\PlainL s.heap a its.toArray/\xs.length<=sizeLine:=by
 rcases h with h | ⟨o,its,n,hk,hc,hd,hs,hz,r⟩
 · obtain ⟨z, its, n, r, e⟩ := h.ok I.hok
   exact ⟨its,r,⟨_,n,e,rfl,rfl,rfl⟩,z⟩
 · refine ⟨its.toList, r, ⟨o, n, I.kIn a o hk, hc, hd, by simpa using hs⟩, ?_⟩
   have e:=r.length
   simp only [Array.length_toList] at e
   omega
theorem Inv.tuple (I:Inv X pins σ H s) (h:SqT X.K H a xs):∃ its:List Value,Vals xs its/\IsTup s.heap a its.toArray/\xs.length<=sizeLine:=by
 rcases h with h | ⟨o,its,n,hk,hc,hs,hz,r⟩
 · obtain ⟨z, its, r, p⟩ := h.ok I.hok
   exact ⟨its,r,p,z⟩
 · refine ⟨its.toList, r, ⟨o, I.kIn a o hk, hc, n, by simpa using hs⟩, ?_⟩
   have e:=r.length
   simp only [Array.length_toList] at e
   omega
theorem Inv.list_inj (I:Inv X pins σ H s) (h:SqL X.K H a xs) (h':SqL X.K H a ys):xs=ys:=by
 obtain ⟨its,r,⟨o,n,e,_,_,d⟩,_⟩:=I.list h
 obtain ⟨its',r',⟨o',n',e',_,_,d'⟩,_⟩:=I.list h'
 rw [e] at e'; cases e'
 rw [d] at d'
 injection d' with d1 _
 have:its=its':=by simpa using congrArg Array.toList d1
 subst this
 exact r.inj r'
theorem Inv.tuple_inj (I:Inv X pins σ H s) (h:SqT X.K H a xs) (h':SqT X.K H a ys):xs=ys:=by
 obtain ⟨its,r,⟨o,e,_,n,d⟩,_⟩:=I.tuple h
 obtain ⟨its',r',⟨o',e',_,n',d'⟩,_⟩:=I.tuple h'
 rw [e] at e'; cases e'
 rw [d] at d'
 injection d' with d1 _
 have:its=its':=by simpa using congrArg Array.toList d1
 subst this
 exact r.inj r'
end
abbrev Cx.wish (X:Cx) (E:Value->Shared->Prop):Cx:={ X with xe:=E }
abbrev Cx.nox (X:Cx):Cx:=X.wish fun _ _=>False
theorem Cx.Ok.wish {X:Cx} (ok:X.Ok) (E:Value->Shared->Prop):(X.wish E).Ok :=
 ⟨ok.mod,ok.kind,ok.glob,ok.blt,ok.above,ok.inj,ok.has,ok.cab,ok.hd,ok.frames,ok.stk,ok.exf,ok.bs,ok.bsz,ok.noex,ok.exfs,ok.funs,ok.frf⟩
theorem Cx.Ok.unwish {X:Cx} {E:Value->Shared->Prop} (ok:(X.wish E).Ok):X.Ok :=
 ⟨ok.mod,ok.kind,ok.glob,ok.blt,ok.above,ok.inj,ok.has,ok.cab,ok.hd,ok.frames,ok.stk,ok.exf,ok.bs,ok.bsz,ok.noex,ok.exfs,ok.funs,ok.frf⟩
section
variable {X:Cx} {pins:List (Addr×Obj)} {σ : St} {H:Hp} {s:Shared} {E:Value->Shared->Prop}
theorem Inv.wish (I:Inv X pins σ H s) (E:Value->Shared->Prop):Inv (X.wish E) pins σ H s:=⟨I.ok.wish E,I.os,I.bare,I.base,I.loc,I.cell,I.free,I.freeC,I.pin,I.hok,I.len⟩
theorem Inv.unwish (I:Inv (X.wish E) pins σ H s):Inv X pins σ H s:=⟨I.ok.unwish,I.os,I.bare,I.base,I.loc,I.cell,I.free,I.freeC,I.pin,I.hok,I.len⟩
theorem SP.unwish {D:Ends} {f:Flow} {s':Shared} (h:SP (X.wish E) pins D f s'):SP X pins D f s':=by
 cases f with
 | next=>obtain ⟨σ',H',I,q⟩:=h; exact ⟨σ',H',I.unwish,q⟩
 | brk=>obtain ⟨σ',H',I,q⟩:=h; exact ⟨σ',H',I.unwish,q⟩
 | cont=>obtain ⟨σ',H',I,q⟩:=h; exact ⟨σ',H',I.unwish,q⟩
 | ret u=>obtain ⟨v,σ',H',I,r,q⟩:=h; exact ⟨v,σ',H',I.unwish,r,q⟩
theorem PE.nox {e:Expr} {t:TE} (h:PE X.nox e t):PE X e t:=fun pins s σ H Q I hw =>
 wpAny_mono (h pins s σ H Q (I.wish _) hw) (fun _ _ ⟨v,H',I',r,q⟩=>⟨v,H',I'.unwish,r,q⟩) fun _ _ z=>False.elim z
theorem PT.nox {e:Expr} {t:TT} (h:PT X.nox e t):PT X e t:=fun pins s σ H Q I hw =>
 wpAny_mono (h pins s σ H Q (I.wish _) hw) (fun _ _ ⟨H',I',q⟩=>⟨H',I'.unwish,q⟩) fun _ _ z=>False.elim z
theorem PSs.nox {st:List Stmt} {t:TS} (h:PSs X.nox st t):PSs X st t:=fun pins s σ H D I hw =>
 wpAny_mono (h pins s σ H D (I.wish _) hw) (fun _ _ q=>q.unwish) fun _ _ z=>False.elim z
end
section
variable {X:Cx} {st:Stmt} {rest:List Stmt} {t u:TS} {e:Expr} {te:TE} {pos:Pos}
def tNext:TS:=fun D σ H=>D.nx σ H
def tSeq (t u:TS):TS:=fun D σ H=>t { D with nx:=u D } σ H
theorem pss_nil:PSs X [] tNext:=fun _ _ σ H _ I h=>wpAny_execs_nil ⟨σ,H,I,h⟩
theorem wD (h1:PS X st t) (h2:PSs X rest u):PSs X (st::rest) (tSeq t u):=by
 intro pins s σ H D I h
 refine wpAny_execs_cons (thn (h1 pins s σ H { D with nx:=u D } I h) fun f s1 q=>?_)
 cases f with
 | next =>
   obtain ⟨σ',H',I',q⟩:=q
   exact h2 pins s1 σ' H' D I' q
 | ret v=>exact q
 | brk=>exact q
 | cont=>exact q
theorem pss_one (h1:PS X st t):PSs X [st] t:=by
 intro pins s σ H D I h
 refine wpAny_execs_cons (thn (h1 pins s σ H D I h) fun f s1 q=>?_)
 cases f with
 | next=>exact wpAny_execs_nil q
 | ret v=>exact q
 | brk=>exact q
 | cont=>exact q
def tCont:TS:=fun D σ H=>D.ct σ H
theorem ps_continue:PS X (.Continue pos) tCont:=fun _ _ σ H _ I h=>wpAny_Continue ⟨σ,H,I,h⟩
theorem Inv.quiet {pins:List (Addr×Obj)} {σ : St} {H:Hp} {s:Shared} (I:Inv X pins σ H s):interactive X.env=false:=by simp [interactive,I.ok.kind]
def tDrop (te:TE):TS:=fun D σ H=>te σ H fun _ H1=>D.nx σ H1
theorem wZ (he:PE X e te) (hs:swapsWith e none pos.line X.env=pure false:=by rfl):PS X (.Expr e pos) (tDrop te):=by
 intro pins s σ H D I h
 exact wpAny_Expr_any (thn (he pins s σ H _ I h) fun v s1 ⟨x,H1,I1,r1,q1⟩=>⟨σ,H1,I1,q1⟩) I.quiet hs
def tRet (te:TE):TS:=fun D σ H=>te σ H D.rt
theorem ps_ret (he:PE X e te):PS X (.Return (some e) pos) (tRet te):=by
 intro pins s σ H D I h
 exact wpAny_Return_some (thn (he pins s σ H _ I h) fun v s1 ⟨x,H1,I1,r1,q1⟩=>⟨x,σ,H1,I1,r1,q1⟩)
def tIfS (c:TT) (t u:TS):TS:=fun D σ H=>c σ H fun b H1=>if b=true then t D σ H1 else u D σ H1
theorem ps_if {c:Expr} {a b:List Stmt} {tc:TT} (hc:PT X c tc) (ha:PSs X a t) (hb:PSs X b u):PS X (.If c a b pos) (tIfS tc t u):=by
 intro pins s σ H D I h
 refine wpAny_If (thn (hc pins s σ H _ I h) fun d s1 ⟨H1,I1,q1⟩=>?_)
 cases d with
 | true=>exact ha pins s1 σ H1 D I1 q1
 | false=>exact hb pins s1 σ H1 D I1 q1
def tNever:TS:=fun _ _ _=>False
theorem ps_never:PS X st tNever:=fun _ _ _ _ _ _ h=>h.elim
end
abbrev TG:=V->St->Hp->(St->Hp->Prop)->Prop
abbrev TGs:=List V->St->Hp->(St->Hp->Prop)->Prop
def PG (X:Cx) (target:Expr) (t:TG):Prop :=
 ∀ (pins:List (Addr×Obj)) (s:Shared) (σ : St) (H:Hp) (v:V) (u:Value) (Q:St->Hp->Prop),Inv X pins σ H s->RelV v u->t v σ H Q →
  wpAny (model X.prog X.w) X.A (assign target X.env u) (fun _ s'=>∃ σ' H',Inv X pins σ' H' s'/\Q σ' H') X.xe s
def PGs (X:Cx) (ts:List Expr) (t:TGs):Prop :=
 ∀ (pins:List (Addr×Obj)) (s:Shared) (σ : St) (H:Hp) (vs:List V) (us:List Value) (Q:St->Hp->Prop),Inv X pins σ H s->Vals vs us->t vs σ H Q →
  wpAny (model X.prog X.w) X.A (assignInOrder ((assignEach ts X.env).map (·.2)) us) (fun _ s'=>∃ σ' H',Inv X pins σ' H' s'/\Q σ' H') X.xe s
abbrev TSet:=V->V->V->Hp->(Hp->Prop)->Prop
def PSet (X:Cx) (t:TSet):Prop :=
 ∀ (pins:List (Addr×Obj)) (s:Shared) (σ : St) (H:Hp) (o i v:V) (ov iv u:Value) (Q:Hp->Prop),Inv X pins σ H s->RelV o ov->RelV i iv->RelV v u->t o i v H Q →
  wpAny (model X.prog X.w) X.A (setItem ov iv u) (fun _ s'=>∃ H',Inv X pins σ H' s'/\Q H') X.xe s
section
variable {X:Cx} {pos:Pos}
def gName (i:Nat):TG:=fun v σ H Q=>Q (σ.set i (some v)) H
theorem pg_name {i:Nat} {x:Str} (hN:X.N.Nodup) (hi:X.N[i]? = some x) (hx:Loc X.env.scope x) (hf:X.fn x=true \/ X.env.scope.names.lookup x=some .local:=by first | exact .inl rfl | exact .inr rfl | assumption):PG X (.Name x pos) (gName i):=by
 intro pins s σ H v u Q I r h
 exact wpAny_assign_Name (vN I hN hi hx r (fun s' I'=>⟨_,H,I',h⟩) hf)
def gNil:TGs:=fun vs σ H Q=>vs=[]/\Q σ H
def gCons (t:TG) (u:TGs):TGs:=fun vs σ H Q=>∃ v r,vs=v::r/\t v σ H fun σ' H'=>u r σ' H' Q
theorem pgs_nil:PGs X [] gNil:=by
 intro pins s σ H vs us Q I r h
 obtain ⟨e,h⟩:=h
 subst e
 cases r
 exact assignInOrder_nil ⟨σ,H,I,h⟩
theorem pgs_cons {e:Expr} {es:List Expr} {t:TG} {u:TGs} (h1:PG X e t) (h2:PGs X es u)
  (hs:(assignEach (e::es) X.env).map (·.2)=assign e X.env::(assignEach es X.env).map (·.2):=by rfl):PGs X (e::es) (gCons t u):=by
 intro pins s σ H vs us Q I r h
 obtain ⟨v,vr,e1,h⟩:=h
 subst e1
 cases r with
 | cons r rr =>
   rw [hs]
   refine assignInOrder_cons (thn (h1 pins s σ H _ _ _ I r h) fun _ s1 ⟨σ1,H1,I1,q1⟩=>?_)
   exact h2 pins s1 σ1 H1 _ _ Q I1 rr q1
def gTup (K:PySem.W.Frag) (n:Nat) (t:TGs):TG:=fun v σ H Q=>∃ a xs,v = .ref a/\SqT K H a xs/\xs.length=n/\t xs σ H Q
theorem pg_tup {es:List Expr} {k:Nat} {t:TGs} {n:Nat} (hc:X.calm=true) (h:PGs X es t)
  (hn:(assignEach es X.env).length=n:=by rfl) (hst:(assignEach es X.env).findIdx? (·.1)=none:=by rfl):PG X (.Tuple es k pos) (gTup X.K n t):=by
 intro pins s σ H v u Q I r hw
 obtain ⟨a,xs,e1,hq,hl,hw⟩:=hw
 subst e1
 cases r
 obtain ⟨its,rv,ht,hz⟩:=I.tuple hq
 refine assign_Tuple_tuple (I.ok.hd hc) ht (by simp [hn,<- hl,rv.length]) hst fun h' hx=>?_
 have I1:Inv X pins σ H { s with heap:=h' }:=I.kept (t':=s.toks) fun b o e=>hx b o (Nat.ne_of_lt (Heap.lt_size e)) e
 exact h pins _ σ H xs _ Q I1 (by simpa using rv) hw
def gSub (to ti:TE) (t:TSet):TG:=fun v σ H Q=>to σ H fun o H1=>ti σ H1 fun i H2=>t o i v H2 fun H3=>Q σ H3
theorem pg_sub {o i:Expr} {to ti:TE} {t:TSet} (ho:PE X o to) (hi:PE X i ti) (hs:PSet X t)
  (ha:∀ v,assign (.Subscript o i pos) X.env v=(do
    let ov <- holding [v] (eval o X.env)
    let iv <- holding [v,ov] (eval i X.env)
    standAt pos
    holding [v,ov,iv] (setItem ov iv v)
    release [v,ov,iv] []):=by intro _; rfl):PG X (.Subscript o i pos) (gSub to ti t):=by
 intro pins s σ H v u Q I r h
 rw [ha]
 refine wpAny_bind (wpAny_holding (thn (ho pins s σ H _ I h) fun ov s1 ⟨x,H1,I1,r1,q1⟩=>?_))
 refine wpAny_bind (wpAny_holding (thn (hi pins s1 σ H1 _ I1 q1) fun iv s2 ⟨y,H2,I2,r2,q2⟩=>?_))
 refine wpAny_bind (wpAny_standAt (wpAny_bind (wpAny_holding (thn (hs pins s2 σ H2 x y v ov iv u _ I2 r1 r2 r q2) fun _ s3 ⟨H3,I3,q3⟩=>?_))))
 exact wpAny_release ⟨σ,H3,I3,q3⟩
def tAsg (te:TE) (g:TG):TS:=fun D σ H=>te σ H fun x H1=>g x σ H1 D.nx
theorem ps_asg {tg e:Expr} {te:TE} {g:TG} (he:PE X e te) (hg:PG X tg g) (hs:swapsWithSole [tg] e pos.line X.env=pure false:=by rfl) (hw:swappedStores [tg] e X.env=pure none:=by rfl)
  (h1:(assignEach [tg] X.env).map (·.2)=[assign tg X.env]:=by rfl):PS X (.Assign [tg] e pos) (tAsg te g):=by
 intro pins s σ H D I h
 refine wpAny_Assign_stores (thn (he pins s σ H _ I h) fun v s1 ⟨x,H1,I1,r1,q1⟩=>?_) hs hw
 rw [h1]
 exact thn (hg pins s1 σ H1 x v _ I1 r1 q1) fun _ s2 q=>q
theorem ps_set {i:Nat} {x:Str} {e:Expr} {te:TE} {pos':Pos} (hN:X.N.Nodup) (hi:X.N[i]? = some x) (hx:Loc X.env.scope x) (he:PE X e te) (hs:swapsWith e (some (.Name x pos')) pos.line X.env=pure false:=by rfl) (hf:X.fn x=true \/ X.env.scope.names.lookup x=some .local:=by first | exact .inl rfl | exact .inr rfl | assumption) :
  PS X (.Assign [.Name x pos'] e pos) (tAsg te (gName i)):=by
 intro pins s σ H D I h
 refine wpAny_Assign_Name (thn (he pins s σ H _ I h) fun v s1 ⟨y,H1,I1,r1,q1⟩=>?_) hs
 exact vN I1 hN hi hx r1 (fun s2 I2=>⟨_,H1,I2,q1⟩) hf
end
section
variable {X:Cx} {pos:Pos}
def tWhile (c:TT) (tb:TS):TS:=fun D σ H=>∃ W:Nat->St->Hp->Prop,(∃ m,W m σ H)/\∀ m σ H,W m σ H →
 c σ H fun b H1=>if b=true then ∃ N:St->Hp->Prop,(∀ σ' H',N σ' H'->∃ m',m' < m/\W m' σ' H')/\tb { D with nx:=N,ct:=N,bk:=D.nx } σ H1 else D.nx σ H1
theorem ps_while {c:Expr} {body:List Stmt} {tc:TT} {tb:TS} (hp:PassesOwn (model X.prog X.w) X.A X.env X.xe) (hc:PT X c tc) (hb:PSs X body tb):PS X (.While c body [] pos) (tWhile tc tb):=by
 intro pins s σ H D I h
 obtain ⟨W,⟨m0,w0⟩,turn⟩:=h
 refine wpAny_While (codeAny_whileLoop (fun n s'=>∃ σ' H',Inv X pins σ' H' s'/\W n σ' H') ?_ m0 ⟨σ,H,I,w0⟩)
 rintro n s1 ⟨σ1,H1,I1,w1⟩
 refine wpAny_passesOwn hp (thn (hc pins s1 σ1 H1 _ I1 (turn n σ1 H1 w1)) fun b s2 ⟨H2,I2,q2⟩=>?_)
 cases b with
 | true =>
   obtain ⟨N,hN,q2⟩:=q2
   rw [if_pos rfl]
   refine wpAny_passesOwn hp (thn (hb pins s2 σ1 H2 _ I2 q2) fun f s3 q3=>?_)
   cases f with
   | next =>
     obtain ⟨σ3,H3,I3,n3⟩:=q3
     obtain ⟨m',hm,w3⟩:=hN σ3 H3 n3
     exact ⟨m',hm,σ3,H3,I3,w3⟩
   | cont =>
     obtain ⟨σ3,H3,I3,n3⟩:=q3
     obtain ⟨m',hm,w3⟩:=hN σ3 H3 n3
     exact ⟨m',hm,σ3,H3,I3,w3⟩
   | brk=>exact q3
   | ret v=>exact q3
 | false =>
   rw [if_neg Bool.false_ne_true]
   exact wpAny_execs_nil ⟨σ1,H2,I2,q2⟩
end
structure It where
 go:Nat->Hp->Prop
 yld:Nat->Hp->V->Hp->Prop
 stop:Nat->Hp->Prop
def FpOk (X:Cx) (pins:List (Addr×Obj)) (H:Hp) (b:Addr):Prop :=
 H b=none/\b≠X.env.locals/\b ∉ X.fs/\(b∈X.ex \/ X.s₀.heap.objs.size<=b)/\(∀ x c,X.env.cells.lookup x=some c->c≠b)/\∀ p∈X.pn++pins,p.1≠b
theorem Inv.fpOk {X:Cx} {pins:List (Addr×Obj)} {σ : St} {H H':Hp} {s:Shared} {b:Addr} (I:Inv X pins σ H s) (hb:s.heap.objs.size<=b) (hn:H' b=none):FpOk X pins H' b:=by
 refine ⟨hn,Nat.ne_of_gt (Nat.lt_of_lt_of_le I.lt hb),I.nofs hb,.inr (Nat.le_trans I.sz hb),fun x c e z=>?_,fun p hp z=>?_⟩
 · obtain ⟨v, q⟩ := I.cell x c e
   exact absurd (Nat.lt_of_lt_of_le q.lt (by rw [z]; exact hb)) (Nat.lt_irrefl _)
 · exact absurd (Nat.lt_of_lt_of_le (Heap.lt_size (I.pin p hp).1) (by rw [z]; exact hb)) (Nat.lt_irrefl _)
structure Turn (P:Program) (w:World) (K:PySem.W.Frag) (tg:Expr) (J:It) (fp:List Addr) (it:Addr) (tn:Nat->Heap->Prop):Prop where
 mem:it∈fp
 obj:∀ i h,tn i h->∀ b∈fp,∃ o,h.get? b=some o/\∀ v,o.data≠.cell v
 keep:∀ i h h',tn i h->(∀ b∈fp,∀ o,h.get? b=some o->h'.get? b=some o)->tn i h'
 item:∀ (X:Cx),X.prog=P->X.w=w->X.K=K->X.calm=true->∀ (i:Nat) (pins:List (Addr×Obj)) (s:Shared) (σ : St) (H:Hp) (E:Value->Shared->Prop),Inv X pins σ H s->(∀ b∈fp,FpOk X pins H b)->tn i s.heap->J.go i H →
  wpAny (model P w) X.A (pyNext (.ref it)) (fun r s1=>∃ u,r=some u ∧
   wpAny (model P w) X.A (letOwnedTupleGo tg (.ref it) u) (fun _ s2=>∃ x H',Inv X pins σ H' s2/\RelV x u/\J.yld i H x H'/\tn (i+1) s2.heap/\∀ b∈fp,H' b=none) E s1) E s
 done:∀ (X:Cx),X.prog=P->X.w=w->X.K=K->X.calm=true->∀ (i:Nat) (pins:List (Addr×Obj)) (s:Shared) (σ : St) (H:Hp) (E:Value->Shared->Prop),Inv X pins σ H s->(∀ b∈fp,FpOk X pins H b)->tn i s.heap->J.stop i H →
  wpAny (model P w) X.A (pyNext (.ref it)) (fun r s1=>r=none/\Inv X pins σ H s1) E s
 self:∀ (A:Around) (i:Nat) (s:Shared) (Q:Value->Shared->Prop) (E:Value->Shared->Prop),tn i s.heap->Q (.ref it) s->wpAny (model P w) A (pyIter (.ref it)) Q E s
abbrev TI:=St->Hp->(It->Hp->Prop)->Prop
def PIE (X:Cx) (pins:List (Addr×Obj)) (σ : St) (tg:Expr) (R:It->Hp->Prop) (itv:Value) (s2:Shared):Prop :=
 ∃ (it:Addr) (fp:List Addr) (tn:Nat->Heap->Prop) (J:It) (H':Hp),itv = .ref it/\Inv X pins σ H' s2/\Turn X.prog X.w X.K tg J fp it tn/\tn 0 s2.heap/\(∀ b∈fp,FpOk X pins H' b)/\R J H'
def PI (X:Cx) (tg iter:Expr) (wi:TI):Prop :=
 ∀ (pins:List (Addr×Obj)) (s:Shared) (σ : St) (H:Hp) (R:It->Hp->Prop),Inv X pins σ H s->wi σ H R →
  wpAny (model X.prog X.w) X.A (eval iter X.env) (fun v s1=>wpAny (model X.prog X.w) X.A (pyIter v) (PIE X pins σ tg R) X.xe s1) X.xe s
theorem go_of {M:Model} {A:Around} {E:Value->Shared->Prop} {s:Shared} {tg:Expr} {it:Addr} {u:Value} {o:Obj} {n:String} {vs:Array Value} {Q:Unit->Shared->Prop} (ho:s.heap.get? it=some o) (hc:o.cls = .type n) (hd:o.data = .fields vs)
  (hn:["enumerate","zip","dict_itemiterator","dict_reverseitemiterator","odict_iterator","itertools.zip_longest","itertools.pairwise"].contains n=false) (hQ:Q () s):wpAny M A (letOwnedTupleGo tg (.ref it) u) Q E s:=by
 unfold letOwnedTupleGo
 cases tg <;> first
  | exact wpAny_pure hQ
  | (cases u <;> first
      | exact wpAny_pure hQ
      | (refine wpAny_bind (wpAny_load ho ?_)
         rw [hc,hd]
         show wpAny M A (if (["enumerate","zip","dict_itemiterator","dict_reverseitemiterator","odict_iterator","itertools.zip_longest","itertools.pairwise"].contains n && vs[0]? == some (rawInt _))=true then _ else _) Q E s
         rw [if_neg (by intro h; rw [hn,Bool.false_and] at h; cases h)]
         exact wpAny_pure hQ))
def Itl (K:PySem.W.Frag) (a:Addr):It :=
 ⟨fun i H=>∃ xs x,SqL K H a xs/\xs[i]? = some x,fun i H x H'=>H'=H/\∀ xs,SqL K H a xs->xs[i]? = some x,fun i H=>∃ xs,SqL K H a xs/\xs.length<=i⟩
def Itt (K:PySem.W.Frag) (a:Addr):It :=
 ⟨fun i H=>∃ xs x,SqT K H a xs/\xs[i]? = some x,fun i H x H'=>H'=H/\∀ xs,SqT K H a xs->xs[i]? = some x,fun i H=>∃ xs,SqT K H a xs/\xs.length<=i⟩
def Itr (lo:Int) (n:Nat):It:=⟨fun i _=>i < n,fun i H x H'=>H'=H/\x = .int (lo+i),fun i _=>n<=i⟩
theorem turn_list {P:Program} {w:World} {K:PySem.W.Frag} {tg:Expr} (a it:Addr):Turn P w K tg (Itl K a) [it] it (fun i h=>h.IsListIter it a i) where
 mem:=by simp
 obj:=fun i h st b hb=>by
  have e:b=it:=by simpa using hb
  subst e
  obtain ⟨o,e,c,d⟩:=st
  exact ⟨o,e,fun v z=>by rw [d] at z; cases z⟩
 keep:=fun i h h' st k=>st.at fun o e=>k it (by simp) o e
 item:=by
  intro X hP hw hK hc i pins s σ H E I hf st hg
  subst hP hw hK
  obtain ⟨xs,x,hq,hx⟩:=hg
  obtain ⟨its,rv,p,hz⟩:=I.list hq
  obtain ⟨u,hu,ru⟩:=rv.get hx
  obtain ⟨f0,f1,f2,f3,f4,f5⟩:=hf it (by simp)
  refine wpAny_pyNext_list_item st p.isList (x:=u) (by simpa using hu) fun h' st' sb=>?_
  have I1:Inv X pins σ H { s with heap:=h' }:=I.turned (t':=s.toks) (fun b o hb e=>(sb.2 b hb).trans e) f0 f1 f3 f4 f5
  obtain ⟨o,e,c,d⟩:=id st'
  exact ⟨u,rfl,go_of (s:={ s with heap:=h' }) e c d (by decide) ⟨x,H,I1,ru,⟨rfl,fun ys hy=>by rw [I.list_inj hy hq]; exact hx⟩,st',fun b hb=>(hf b hb).1⟩⟩
 done:=by
  intro X hP hw hK hc i pins s σ H E I hf st hg
  subst hP hw hK
  obtain ⟨xs,hq,hx⟩:=hg
  obtain ⟨its,rv,p,hz⟩:=I.list hq
  obtain ⟨f0,f1,f2,f3,f4,f5⟩:=hf it (by simp)
  have hl:=rv.length
  exact wpAny_pyNext_list_end (I.ok.hd hc) st p.isList (by simp; omega) fun h' eb=>⟨rfl,I.turned (t':=s.toks) (fun b o hb e=>eb b o hb e) f0 f1 f3 f4 f5⟩
 self:=fun _ _ _ _ _ st h=>wpAny_pyIter_listiter st h
theorem turn_tuple {P:Program} {w:World} {K:PySem.W.Frag} {tg:Expr} (a it:Addr):Turn P w K tg (Itt K a) [it] it (fun i h=>h.IsTupleIter it a i) where
 mem:=by simp
 obj:=fun i h st b hb=>by
  have e:b=it:=by simpa using hb
  subst e
  obtain ⟨o,e,c,d⟩:=st
  exact ⟨o,e,fun v z=>by rw [d] at z; cases z⟩
 keep:=fun i h h' st k=>st.at fun o e=>k it (by simp) o e
 item:=by
  intro X hP hw hK hc i pins s σ H E I hf st hg
  subst hP hw hK
  obtain ⟨xs,x,hq,hx⟩:=hg
  obtain ⟨its,rv,p,hz⟩:=I.tuple hq
  obtain ⟨u,hu,ru⟩:=rv.get hx
  obtain ⟨f0,f1,f2,f3,f4,f5⟩:=hf it (by simp)
  refine wpAny_pyNext_tuple_item st (show s.heap.IsTuple a its.toArray from p) (x:=u) (by simpa using hu) fun h' st' sb=>?_
  have I1:Inv X pins σ H { s with heap:=h' }:=I.turned (t':=s.toks) (fun b o hb e=>(sb.2 b hb).trans e) f0 f1 f3 f4 f5
  obtain ⟨o,e,c,d⟩:=id st'
  exact ⟨u,rfl,go_of (s:={ s with heap:=h' }) e c d (by decide) ⟨x,H,I1,ru,⟨rfl,fun ys hy=>by rw [I.tuple_inj hy hq]; exact hx⟩,st',fun b hb=>(hf b hb).1⟩⟩
 done:=by
  intro X hP hw hK hc i pins s σ H E I hf st hg
  subst hP hw hK
  obtain ⟨xs,hq,hx⟩:=hg
  obtain ⟨its,rv,p,hz⟩:=I.tuple hq
  obtain ⟨f0,f1,f2,f3,f4,f5⟩:=hf it (by simp)
  have hl:=rv.length
  exact wpAny_pyNext_tuple_end (I.ok.hd hc) st (show s.heap.IsTuple a its.toArray from p) (by simp; omega) fun h' eb=>⟨rfl,I.turned (t':=s.toks) (fun b o hb e=>eb b o hb e) f0 f1 f3 f4 f5⟩
 self:=fun _ _ _ _ _ st h=>wpAny_pyIter_tupleiter st h
theorem turn_range {P:Program} {w:World} {K:PySem.W.Frag} {tg:Expr} (it:Addr) (lo:Int) (n:Nat):Turn P w K tg (Itr lo n) [it] it (fun i h=>IsRangeIter h it (lo+(i:Nat) * 1) ((n:Int) - (i:Nat)) 1) where
 mem:=by simp
 obj:=fun i h st b hb=>by
  have e:b=it:=by simpa using hb
  subst e
  exact ⟨_,st,fun v z=>by
   have z':Data.fields _=Data.cell v:=z
   cases z'⟩
 keep:=fun i h h' st k=>k it (by simp) _ st
 item:=by
  intro X hP hw hK hc i pins s σ H E I hf st hg
  subst hP hw hK
  obtain ⟨f0,f1,f2,f3,f4,f5⟩:=hf it (by simp)
  have W:=Walks.range (prog:=X.prog) (w:=X.w) (I.ok.hd hc) it lo 1 n
  refine W.item i s _ _ hg st fun v h' tk hv st' kk=>?_
  obtain ⟨t,rfl⟩:=hv
  have I1:Inv X pins σ H { s with heap:=h',toks:=tk }:=I.turned (fun b o hb e=>kk b o (by simpa using hb) e) f0 f1 f3 f4 f5
  refine ⟨_,rfl,go_of (s:={ s with heap:=h',toks:=tk }) (n:="range_iterator") st' rfl rfl (by decide) ⟨.int (lo+i),H,I1,⟨t,?_⟩,⟨rfl,rfl⟩,st',fun b hb=>(hf b hb).1⟩⟩
  rw [Int.mul_one]
 done:=by
  intro X hP hw hK hc i pins s σ H E I hf st hg
  subst hP hw hK
  obtain ⟨f0,f1,f2,f3,f4,f5⟩:=hf it (by simp)
  exact wpAny_pyNext_range_end (I.ok.hd hc) st (by have:n<=i:=hg; omega) fun h' eb=>⟨rfl,I.turned (t':=s.toks) (fun b o hb e=>eb b o hb e) f0 f1 f3 f4 f5⟩
 self:=fun _ _ _ _ _ st h=>wpAny_pyIter_rangeiter st h
end L2
namespace L2
open PySem PySem.Spec PyProof.Rows
section
variable {X:Cx} {tg:Expr}
def iList (K:PySem.W.Frag) (tl:TE):TI:=fun σ H R=>tl σ H fun x H1=>∃ a,x = .ref a/\(∃ xs,SqL K H1 a xs)/\R (Itl K a) H1
def iTup (K:PySem.W.Frag) (tl:TE):TI:=fun σ H R=>tl σ H fun x H1=>∃ a,x = .ref a/\(∃ xs,SqT K H1 a xs)/\R (Itt K a) H1
theorem pi_list {l:Expr} {tl:TE} (hl:PE X l tl):PI X tg l (iList X.K tl):=by
 intro pins s σ H R I h
 refine thn (hl pins s σ H _ I h) fun v s1 ⟨x,H1,I1,r1,q1⟩=>?_
 obtain ⟨a,e,⟨xs,hq⟩,q⟩:=q1
 subst e
 cases r1
 obtain ⟨its,rv,p,hz⟩:=I1.list hq
 refine wpAny_pyIter_list p.isList ?_
 refine ⟨s1.heap.objs.size,[s1.heap.objs.size],_,_,H1,rfl,I1.kept (t':=s1.toks) fun b o e=>Heap.get?_push_of_some _ e,turn_list a _,⟨_,Heap.get?_push_size _ rfl,rfl,rfl⟩,fun b hb=>?_,q⟩
 have e:b=s1.heap.objs.size:=by simpa using hb
 subst e
 exact I1.fpOk (Nat.le_refl _) (I1.hok.fresh (Nat.le_refl _))
theorem pi_tup {l:Expr} {tl:TE} (hl:PE X l tl):PI X tg l (iTup X.K tl):=by
 intro pins s σ H R I h
 refine thn (hl pins s σ H _ I h) fun v s1 ⟨x,H1,I1,r1,q1⟩=>?_
 obtain ⟨a,e,⟨xs,hq⟩,q⟩:=q1
 subst e
 cases r1
 obtain ⟨its,rv,p,hz⟩:=I1.tuple hq
 refine wpAny_pyIter_tuple (show s1.heap.IsTuple a its.toArray from p) ?_
 refine ⟨s1.heap.objs.size,[s1.heap.objs.size],_,_,H1,rfl,I1.kept (t':=s1.toks) fun b o e=>Heap.get?_push_of_some _ e,turn_tuple a _,⟨_,Heap.get?_push_size _ rfl,rfl,rfl⟩,fun b hb=>?_,q⟩
 have e:b=s1.heap.objs.size:=by simpa using hb
 subst e
 exact I1.fpOk (Nat.le_refl _) (I1.hok.fresh (Nat.le_refl _))
theorem range_it {pins:List (Addr×Obj)} {σ : St} {H:Hp} {s:Shared} {R:It->Hp->Prop} {E:Value->Shared->Prop} {lo hi:Int} {t u v:Tok} {tk:Nat} (I:Inv X pins σ H s) (h1 : -(2 ^ 62)<=lo) (h2:lo < 2 ^ 62) (h3 : -(2 ^ 62)<=hi) (h4:hi < 2 ^ 62)
  (q:R (Itr lo (hi - lo).toNat) H):wpAny (model X.prog X.w) X.A (pyIter (.ref s.heap.objs.size)) (PIE X pins σ tg R) E { s with heap:=s.heap.push { cls:=.type "range",data:=.fields #[.int lo t,.int hi u,.int 1 v] },toks:=tk }:=by
 refine wpAny_pyIter_range (IsRange.new ..) (small_one h1 h2 h3 h4) ?_
 have I1:Inv X pins σ H { s with heap:=s.heap.push { cls:=.type "range",data:=.fields #[.int lo t,.int hi u,.int 1 v] },toks:=tk }:=I.kept fun b o e=>Heap.get?_push_of_some _ e
 refine ⟨(s.heap.push { cls:=.type "range",data:=.fields #[.int lo t,.int hi u,.int 1 v] }).objs.size,[(s.heap.push { cls:=.type "range",data:=.fields #[.int lo t,.int hi u,.int 1 v] }).objs.size],_,_,H,rfl,
  I1.kept (t':=tk) fun b o e=>Heap.get?_push_of_some _ e,turn_range _ lo (hi - lo).toNat,?_,fun b hb=>?_,q⟩
 · have e1 : lo + ((0 : Nat) : Int) * 1 = lo := by simp
   have e2:(((hi - lo).toNat:Nat):Int) - ((0:Nat):Int)=Builtin.Range.rangeSize lo hi 1:=by rw [rangeSize_one]; split <;> omega
   show IsRangeIter _ _ (lo+((0:Nat):Int) * 1) ((((hi - lo).toNat:Nat):Int) - ((0:Nat):Int)) 1
   rw [e1,e2]
   exact Heap.get?_push_size _ rfl
 · have e : b = (s.heap.push { cls := .type "range", data := .fields #[.int lo t, .int hi u, .int 1 v] }).objs.size := by simpa using hb
   subst e
   exact I1.fpOk (Nat.le_refl _) (I1.hok.fresh (Nat.le_refl _))
def iRng1 (ta:TA):TI:=fun σ H R=>ta σ H fun vs H1=>∃ j:Int,vs=[.int j]/\-(2 ^ 62)<=j/\j < 2 ^ 62/\R (Itr 0 j.toNat) H1
theorem pi_range1 {a:Expr} {ta:TA} {p pos:Pos} (hg:Gl X "range") (hm:X.mg "range" = none) (ha:PA X [a] ta) (hs:starEach [a] X.env=[(false,eval a X.env)]:=by rfl):PI X tg (.Call (.Name "range" p) [a] [] pos) (iRng1 ta):=by
 intro pins s σ H R I h
 refine Call_ (wP I hg hm boot_range (PyProof.Rows.callWith_type1 (thn (ha pos pins s σ H _ I h) fun us s1 ⟨vs,H1,I1,r1,q1⟩=>?_) hs rfl))
 obtain ⟨j,e,q1,q2,q⟩:=q1
 subst e
 cases r1 with
 | cons r rr =>
   cases rr
   obtain ⟨t,rfl⟩:=r
   exact call_range_1 (range_it I1 (by omega) (by omega) q1 q2 (by simpa using q))
def tFor (wi:TI) (g:TG) (tb:TS):TS:=fun D σ H=>wi σ H fun J H1=>∃ W:Nat->Nat->St->Hp->Prop,(∃ m,W 0 m σ H1)/\∀ i m σ H,W i m σ H →
 (J.stop i H/\D.nx σ H) \/ (J.go i H/\∃ N:St->Hp->Prop,(∀ σ' H',N σ' H'->∃ m',m' < m/\W (i+1) m' σ' H')/\∀ x H',J.yld i H x H'->g x σ H' fun σ2 H2=>tb { D with nx:=N,ct:=N,bk:=D.nx } σ2 H2)
def pinsAt (fp:List Addr) (h:Heap):List (Addr×Obj):=fp.filterMap fun b=>(h.get? b).map fun o=>(b,o)
theorem xF {fp:List Addr} {h:Heap} {b:Addr} {o:Obj} (hb:b∈fp) (e:h.get? b=some o):(b,o)∈pinsAt fp h:=List.mem_filterMap.mpr ⟨b,hb,by rw [e]; rfl⟩
theorem of_pinsAt {fp:List Addr} {h:Heap} {p:Addr×Obj} (hp:p∈pinsAt fp h):p.1∈fp/\h.get? p.1=some p.2:=by
 obtain ⟨b,hb,e⟩:=List.mem_filterMap.mp hp
 cases q:h.get? b with
 | none=>rw [q] at e; cases e
 | some o =>
   rw [q] at e
   have e':(b,o)=p:=Option.some.inj e
   subst e'
   exact ⟨hb,q⟩
theorem Inv.pinned {pins:List (Addr×Obj)} {σ : St} {H:Hp} {s:Shared} {fp:List Addr} (I:Inv X pins σ H s) (hf:∀ b∈fp,FpOk X pins H b) (ho:∀ b∈fp,∃ o,s.heap.get? b=some o/\∀ v,o.data≠.cell v):Inv X (pins++pinsAt fp s.heap) σ H s :=
 I.pins_of fun p hp=>(List.mem_append.mp hp).elim (fun z=>I.pin p (List.mem_append_right _ z)) fun z=>by
  obtain ⟨hb,e⟩:=of_pinsAt z
  obtain ⟨f0,f1,f2,_⟩:=hf p.1 hb
  obtain ⟨o,e',d⟩:=ho p.1 hb
  rw [e] at e'; cases e'
  exact ⟨e,f0,f1,f2,d⟩
theorem Inv.unpinned {pins pl:List (Addr×Obj)} {σ : St} {H:Hp} {s:Shared} (I:Inv X (pins++pl) σ H s):Inv X pins σ H s:=I.pins_of fun p hp=>I.pin p (List.mem_append_right _ (List.mem_append_left _ hp))
theorem ps_for {iter:Expr} {body:List Stmt} {wi:TI} {g:TG} {tb:TS} {pos:Pos} (hp:PassesOwn (model X.prog X.w) X.A X.env X.xe) (hc:X.calm=true) (hi:PI X tg iter wi) (hg:PG X tg g) (hb:PSs X body tb)
  (hs:∀ x,foldedSetIterable iter X.env x=pure x:=by intro _; rfl):PS X (.For tg iter body [] pos) (tFor wi g tb):=by
 intro pins s σ H D I h
 refine wpAny_For (thn (hi pins s σ H _ I h) fun v s1 h1=>thn h1 fun itv s2 h2=>?_) hs
 obtain ⟨it,fp,tn,J,H2,e,I2,T,st2,f2,W,⟨m0,w0⟩,turn⟩:=h2
 subst e
 have stat:∀ {H':Hp},(∀ b∈fp,H' b=none)->∀ b∈fp,FpOk X pins H' b:=fun hn b hb=>⟨hn b hb,(f2 b hb).2⟩
 refine codeAny_forLoop_any (fun n s'=>∃ i σ' H',Inv X pins σ' H' s'/\tn i s'.heap/\(∀ b∈fp,H' b=none)/\W i n σ' H') ?_ m0 ⟨0,σ,H2,I2,st2,fun b hb=>(f2 b hb).1,w0⟩
 rintro n s3 ⟨i,σ3,H3,I3,st3,fr3,w3⟩
 rcases turn i n σ3 H3 w3 with ⟨stop,qn⟩ | ⟨go,N,hN,step⟩
 · refine wpAny_passesOwn hp (thn (T.done X rfl rfl rfl hc i pins s3 σ3 H3 X.xe I3 (stat fr3) st3 stop) fun r s4 ⟨hr, I4⟩ => ?_)
   subst hr
   exact wpAny_execs_nil ⟨σ3,H3,I4,qn⟩
 · refine wpAny_passesOwn hp (thn (T.item X rfl rfl rfl hc i pins s3 σ3 H3 X.xe I3 (stat fr3) st3 go) fun r s4 ⟨u, hr, h4⟩ => ?_)
   subst hr
   refine wpAny_passesOwn hp (thn h4 fun _ s5 ⟨x,H5,I5,r5,y5,st5,fr5⟩=>?_)
   have I5':=I5.pinned (stat fr5) (T.obj _ _ st5)
   refine wpAny_passesOwn hp (thn (hg _ s5 σ3 H5 x u _ I5' r5 (step x H5 y5)) fun _ s6 ⟨σ6,H6,I6,q6⟩=>?_)
   refine wpAny_passesOwn hp (thn (hb _ s6 σ6 H6 _ I6 q6) fun f s7 q7=>?_)
   have again:∀ {σ7:St} {H7:Hp},Inv X (pins++pinsAt fp s5.heap) σ7 H7 s7->N σ7 H7->∃ m,m < n/\∃ i σ' H',Inv X pins σ' H' s7/\tn i s7.heap/\(∀ b∈fp,H' b=none)/\W i m σ' H':=fun {σ7 H7} I7 n7=>by
    obtain ⟨m',hm,w7⟩:=hN σ7 H7 n7
    refine ⟨m',hm,i+1,σ7,H7,I7.unpinned,T.keep _ _ _ st5 fun b hb o e=>(I7.pin (b,o) (List.mem_append_right _ (List.mem_append_right _ (xF hb e)))).1,fun b hb=>?_,w7⟩
    obtain ⟨o,e,d⟩:=T.obj _ _ st5 b hb
    exact (I7.pin (b,o) (List.mem_append_right _ (List.mem_append_right _ (xF hb e)))).2.1
   cases f with
   | next=>obtain ⟨σ7,H7,I7,n7⟩:=q7; exact again I7 n7
   | cont=>obtain ⟨σ7,H7,I7,n7⟩:=q7; exact again I7 n7
   | brk=>obtain ⟨σ7,H7,I7,q7⟩:=q7; exact ⟨σ7,H7,I7.unpinned,q7⟩
   | ret v=>obtain ⟨x7,σ7,H7,I7,r7,q7⟩:=q7; exact ⟨x7,σ7,H7,I7.unpinned,r7,q7⟩
end
end L2
namespace L2
open PySem PySem.Spec PyProof.Rows
abbrev R2:=V->V->Hp->VK->Prop
def OpR (X:Cx) (f:Value->Value->Sem Value) (r:R2):Prop :=
 ∀ (pins:List (Addr×Obj)) (s:Shared) (σ : St) (H:Hp) (x y:V) (v u:Value) (Q:VK),Inv X pins σ H s->RelV x v->RelV y u->r x y H Q →
  wpAny (model X.prog X.w) X.A (f v u) (EP X pins σ Q) X.xe s
def UnR (X:Cx) (f:Value->Sem Value) (r:V->Hp->VK->Prop):Prop :=
 ∀ (pins:List (Addr×Obj)) (s:Shared) (σ : St) (H:Hp) (x:V) (v:Value) (Q:VK),Inv X pins σ H s->RelV x v->r x H Q →
  wpAny (model X.prog X.w) X.A (f v) (EP X pins σ Q) X.xe s
def CallR (X:Cx) (f:Value) (r:List V->Hp->VK->Prop):Prop :=
 ∀ (pins:List (Addr×Obj)) (s:Shared) (σ : St) (H:Hp) (xs:List V) (us:List Value) (Q:VK),Inv X pins σ H s->Vals xs us->r xs H Q →
  wpAny (model X.prog X.w) X.A (call f us) (EP X pins σ Q) X.xe s
def TruR (X:Cx) (r:V->Hp->(Bool->Hp->Prop)->Prop):Prop :=
 ∀ (pins:List (Addr×Obj)) (s:Shared) (σ : St) (H:Hp) (x:V) (v:Value) (Q:Bool->Hp->Prop),Inv X pins σ H s->RelV x v->r x H Q →
  wpAny (model X.prog X.w) X.A (truthy v) (TP X pins σ Q) X.xe s
def tOp (r:R2) (ta tb:TE):TE:=fun σ H Q=>ta σ H fun x H1=>tb σ H1 fun y H2=>r x y H2 Q
def tUn (r:V->Hp->VK->Prop) (ta:TE):TE:=fun σ H Q=>ta σ H fun x H1=>r x H1 Q
def rI (C:Int->Int->Prop) (g:Int->Int->V):R2:=fun x y H Q=>∃ i j,x = .int i/\y = .int j/\C i j/\Q (g i j) H
def rI0 (g:Int->Int->V):R2:=fun x y H Q=>∃ i j,x = .int i/\y = .int j/\Q (g i j) H
def rU (g:Int->V):V->Hp->VK->Prop:=fun x H Q=>∃ i,x = .int i/\Q (g i) H
section
variable {X:Cx} {a b c:Expr} {ta tb tc:TE} {pos:Pos}
theorem binT (ha:PE X a ta) (hb:PE X b tb) {pins:List (Addr×Obj)} {s:Shared} {σ : St} {H:Hp} {R:V->V->Hp->Prop} (I:Inv X pins σ H s)
  (h:ta σ H fun x H1=>tb σ H1 fun y H2=>R x y H2) {Q:Value->Shared->Prop} {f:Value->Value->Sem Value}
  (hf:∀ v u s2 x y H2,Inv X pins σ H2 s2->RelV x v->RelV y u->R x y H2->wpAny (model X.prog X.w) X.A (f v u) Q X.xe s2) :
  wpAny (model X.prog X.w) X.A (eval a X.env) (fun v s₁=>wpAny (model X.prog X.w) X.A (eval b X.env) (fun u s₂=>wpAny (model X.prog X.w) X.A (f v u) Q X.xe s₂) X.xe s₁) X.xe s:=by
 refine thn (ha pins s σ H _ I h) fun v s1 ⟨x,H1,I1,r1,q1⟩=>?_
 refine thn (hb pins s1 σ H1 _ I1 q1) fun u s2 ⟨y,H2,I2,r2,q2⟩=>?_
 exact hf v u s2 x y H2 I2 r1 r2 q2
theorem pe_op {op:Operator} {r:R2} (ho:OpR X (binaryOp op) r) (ha:PE X a ta) (hb:PE X b tb):PE X (.BinOp a op b pos) (tOp r ta tb):=by
 intro pins s σ H Q I h
 exact wpAny_BinOp (binT ha hb I h fun v u s2 x y H2 I2 rx ry q=>ho pins s2 σ H2 x y v u Q I2 rx ry q)
theorem pe_un {op:UnaryOp} {r:V->Hp->VK->Prop} (ho:UnR X (unaryOp op) r) (ha:PE X a ta):PE X (.UnaryOp op a pos) (tUn r ta):=by
 intro pins s σ H Q I h
 exact UnaryOp_ (thn (ha pins s σ H _ I h) fun v s1 ⟨x,H1,I1,r1,q1⟩=>ho pins s1 σ H1 x v Q I1 r1 q1)
theorem opI {f:Value->Value->Sem Value} {C:Int->Int->Prop} {g:Int->Int->Int}
  (rule:∀ (i j:Int) (t u:Tok) (s:Shared) (Q:Value->Shared->Prop) (E:Value->Shared->Prop),C i j->Q (.int (g i j) s.toks) { s with toks:=s.toks+1 }->wpAny (model X.prog X.w) X.A (f (.int i t) (.int j u)) Q E s) :
  OpR X f (rI C fun i j=>.int (g i j)):=by
 intro pins s σ H x y v u Q I rx ry h
 obtain ⟨i,j,rfl,rfl,hc,q⟩:=h
 obtain ⟨t,rfl⟩:=rx
 obtain ⟨t',rfl⟩:=ry
 exact rule i j t t' s _ _ hc ⟨.int (g i j),H,I.tok _,⟨_,rfl⟩,q⟩
theorem opI0 {f:Value->Value->Sem Value} {g:Int->Int->Int}
  (rule:∀ (i j:Int) (t u:Tok) (s:Shared) (Q:Value->Shared->Prop) (E:Value->Shared->Prop),Q (.int (g i j) s.toks) { s with toks:=s.toks+1 }->wpAny (model X.prog X.w) X.A (f (.int i t) (.int j u)) Q E s) :
  OpR X f (rI0 fun i j=>.int (g i j)):=by
 intro pins s σ H x y v u Q I rx ry h
 obtain ⟨i,j,rfl,rfl,q⟩:=h
 obtain ⟨t,rfl⟩:=rx
 obtain ⟨t',rfl⟩:=ry
 exact rule i j t t' s _ _ ⟨.int (g i j),H,I.tok _,⟨_,rfl⟩,q⟩
theorem opB0 {f:Value->Value->Sem Value} {g:Int->Int->Bool}
  (rule:∀ (i j:Int) (t u:Tok) (s:Shared) (Q:Value->Shared->Prop) (E:Value->Shared->Prop),Q (.bool (g i j)) s->wpAny (model X.prog X.w) X.A (f (.int i t) (.int j u)) Q E s) :
  OpR X f (rI0 fun i j=>.bl (g i j)):=by
 intro pins s σ H x y v u Q I rx ry h
 obtain ⟨i,j,rfl,rfl,q⟩:=h
 obtain ⟨t,rfl⟩:=rx
 obtain ⟨t',rfl⟩:=ry
 exact rule i j t t' s _ _ ⟨.bl (g i j),H,I,rfl,q⟩
def CMul (i j:Int):Prop:=(-(2 ^ 64) < i/\i < 2 ^ 64) \/ (-(2 ^ 64) < j/\j < 2 ^ 64)
theorem CMul.ok {i j:Int} (h:CMul i j):IntMulOk i j:=by
 rcases h with ⟨h1,h2⟩ | ⟨h1,h2⟩
 · exact .of_left (intBits_le_64 h1 h2)
 · exact .of_right (intBits_le_64 h1 h2)
theorem op_add:OpR X (binaryOp .Add) (rI0 fun i j=>.int (i+j)):=opI0 fun _ _ _ _ _ _ _ q=>add_int q
theorem op_sub:OpR X (binaryOp .Sub) (rI0 fun i j=>.int (i - j)):=opI0 fun _ _ _ _ _ _ _ q=>sub_int q
theorem op_mod:OpR X (binaryOp .Mod) (rI (fun _ j=>0 < j) fun i j=>.int (i % j)):=opI fun i j _ _ _ _ _ hc q=>by
 have h1:(0:Int) < j:=hc
 exact mod_int' (by omega) (by rw [Int.fmod_eq_emod_of_nonneg i (by omega)]; exact q)
theorem unI {f:Value->Sem Value} {g:Int->Int}
  (rule:∀ (i:Int) (t:Tok) (s:Shared) (Q:Value->Shared->Prop) (E:Value->Shared->Prop),Q (.int (g i) s.toks) { s with toks:=s.toks+1 }->wpAny (model X.prog X.w) X.A (f (.int i t)) Q E s) :
  UnR X f (rU fun i=>.int (g i)):=by
 intro pins s σ H x v Q I rx h
 obtain ⟨i,rfl,q⟩:=h
 obtain ⟨t,rfl⟩:=rx
 exact rule i t s _ _ ⟨.int (g i),H,I.tok _,⟨_,rfl⟩,q⟩
theorem un_neg:UnR X (unaryOp .USub) (rU fun i=>.int (-i)):=unI fun _ _ _ _ _ q=>neg_int q
end
section
variable {X:Cx} {a b c:Expr} {ta tb tc:TE} {pos:Pos}
theorem fin_bl {pins:List (Addr×Obj)} {σ : St} {H:Hp} {s:Shared} {Q:VK} {k k':Bool} (I:Inv X pins σ H s) (q:Q (.bl k) H) (e:k=k'):EP X pins σ Q (.bool k') s:=by
 subst e
 exact ⟨.bl k,H,I,rfl,q⟩
theorem op_lt:OpR X (compareOp .Lt) (rI0 fun i j=>.bl (decide (i < j))):=opB0 fun _ _ _ _ _ _ _ q=>lt_int q
theorem op_le:OpR X (compareOp .LtE) (rI0 fun i j=>.bl (decide (i<=j))):=opB0 fun _ _ _ _ _ _ _ q=>le_int q
theorem op_gt:OpR X (compareOp .Gt) (rI0 fun i j=>.bl (decide (j < i))):=opB0 fun _ _ _ _ _ _ _ q=>gt_int q
theorem op_ge:OpR X (compareOp .GtE) (rI0 fun i j=>.bl (decide (j<=i))):=opB0 fun _ _ _ _ _ _ _ q=>ge_int q
theorem op_isN:OpR X (compareOp .Is) (fun x y H Q=>y = .non/\Q (.bl (decide (x = .non))) H):=by
 intro pins s σ H x y v u Q I rx ry h
 obtain ⟨rfl,q⟩:=h
 cases ry
 refine is_none_gen (fin_bl I q ?_)
 cases x <;> first
  | (cases rx; rfl)
  | (obtain ⟨t,rfl⟩:=rx; rfl)
theorem op_notN:OpR X (compareOp .IsNot) (fun x y H Q=>y = .non/\Q (.bl (!decide (x = .non))) H):=by
 intro pins s σ H x y v u Q I rx ry h
 obtain ⟨rfl,q⟩:=h
 cases ry
 refine isnot_none_gen (fin_bl I q ?_)
 cases x <;> first
  | (cases rx; rfl)
  | (obtain ⟨t,rfl⟩:=rx; rfl)
theorem OpR.or {f:Value->Value->Sem Value} {r r':R2} (h:OpR X f r) (h':OpR X f r'):OpR X f (fun x y H Q=>r x y H Q \/ r' x y H Q):=by
 intro pins s σ H x y v u Q I rx ry q
 rcases q with q | q
 · exact h pins s σ H x y v u Q I rx ry q
 · exact h' pins s σ H x y v u Q I rx ry q
theorem nomark (b:Expr) {op:CmpOp} (h:op≠.In:=by decide) (h2:op≠.NotIn:=by decide):behindInMarks op b=false:=by
 have e1:(op == CmpOp.In)=false:=by cases op <;> first | rfl | exact absurd rfl h
 have e2:(op == CmpOp.NotIn)=false:=by cases op <;> first | rfl | exact absurd rfl h2
 cases b <;> simp [behindInMarks,e1,e2]
theorem pe_cmpR {op:CmpOp} {r:R2} (ho:OpR X (compareOp op) r) (ha:PE X a ta) (hb:PE X b tb) (hm:behindInMarks op b=false):PE X (.Compare a [op] [b] pos) (tOp r ta tb):=by
 intro pins s σ H Q I h
 exact wpAny_Compare1 (binT ha hb I h fun v u s2 x y H2 I2 rx ry q=>ho pins s2 σ H2 x y v u Q I2 rx ry q) hm
def tTest (t:TE):TT:=fun σ H Q=>t σ H fun x H'=>∃ k,x = .bl k/\Q k H'
theorem pt_cmpR {op:CmpOp} {r:R2} (ho:OpR X (compareOp op) r) (ha:PE X a ta) (hb:PE X b tb) (hm:behindInMarks op b=false):PT X (.Compare a [op] [b] pos) (tTest (tOp r ta tb)):=by
 intro pins s σ H Q I h
 refine wpAny_isTrue_Compare1 (thn (ha pins s σ H _ I h) fun v s1 ⟨x,H1,I1,r1,q1⟩=>thn (hb pins s1 σ H1 _ I1 q1) fun u s2 ⟨y,H2,I2,r2,q2⟩ =>
  thn (ho pins s2 σ H2 x y v u _ I2 r1 r2 q2) fun c s3 ⟨z,H3,I3,r3,k,e,q3⟩=>?_) hm
 subst e
 cases r3
 exact wpAny_truthy_bool ⟨H3,I3,q3⟩
def tChain (r r':R2) (ta tb tc:TE):TE:=fun σ H Q=>ta σ H fun x H1=>tb σ H1 fun y H2=>r x y H2 fun z H3=>∃ k,z = .bl k ∧
 (if k=true then tc σ H3 fun w' H4=>r' y w' H4 Q else Q (.bl false) H3)
theorem pt_chain {op op':CmpOp} {r r':R2} (ho:OpR X (compareOp op) r) (ho':OpR X (compareOp op') r') (ha:PE X a ta) (hb:PE X b tb) (hc:PE X c tc)
  (hm:lastMarks [op,op'] [b,c]=false:=by with_unfolding_all rfl):PT X (.Compare a [op,op'] [b,c] pos) (tTest (tChain r r' ta tb tc)):=by
 intro pins s σ H Q I h
 refine isTrue_chain (thn (ha pins s σ H _ I h) fun v s1 ⟨x,H1,I1,r1,q1⟩=>test_link (thn (hb pins s1 σ H1 _ I1 q1) fun u s2 ⟨y,H2,I2,r2,q2⟩ =>
  thn (ho pins s2 σ H2 x y v u _ I2 r1 r2 q2) fun d s3 ⟨z,H3,I3,r3,k,e,q3⟩=>?_)) hm
 subst e
 cases r3
 refine wpAny_truthy_bool ?_
 cases k with
 | false =>
   obtain ⟨k',e',q'⟩:=q3
   cases e'
   exact ite_ff ⟨H3,I3,q'⟩
 | true =>
   refine ite_tt (test_last (thn (hc pins s3 σ H3 _ I3 q3) fun w' s4 ⟨z',H4,I4,r4,q4⟩=>thn (ho' pins s4 σ H4 y z' u w' _ I4 r2 r4 q4) fun d' s5 ⟨z2,H5,I5,r5,k2,e2,q5⟩=>?_))
   subst e2
   cases r5
   exact wpAny_truthy_bool ⟨H5,I5,q5⟩
def TruV (K:PySem.W.Frag) (x:V) (H:Hp) (k:Bool):Prop :=
 match x with
 | .non=>k=false
 | .bl b=>k=b
 | .int i=>k=(i != 0)
 | .str y=>y.length<=sizeLine/\k=((y.length:Int) != 0)
 | .byt y=>y.size<=sizeLine/\k=((y.size:Int) != 0)
 | .ref p=>(∃ xs,SqL K H p xs/\k = !xs.isEmpty) \/ (∃ xs,SqT K H p xs/\k = !xs.isEmpty) \/ ∃ kvs,H p=some (.dK kvs)/\k = !kvs.isEmpty
 | _=>False
theorem isEmpty_kv {κ : Type} {kvs:List (κ×V)} {vs:List (κ×Value)} (r:KV kvs vs):(!vs.isEmpty) = !kvs.isEmpty:=by
 cases r <;> rfl
theorem isEmpty_of {xs:List V} {its:List Value} (r:Vals xs its):(!its.toArray.isEmpty) = !xs.isEmpty:=by
 cases r <;> simp
theorem line63:(sizeLine:Nat) < 2 ^ 63:=by rw [sizeLine_eq]; decide
theorem tru_ok:TruR X (fun x H Q=>∃ k,TruV X.K x H k/\Q k H):=by
 intro pins s σ H x v Q I rx h
 obtain ⟨k,e,q⟩:=h
 have hl:=line63
 have hs:sizeLine=16777216:=sizeLine_eq
 cases x with
 | non =>
   cases rx
   have e':k=false:=e
   subst e'
   exact truthy_none ⟨H,I,q⟩
 | bl b =>
   cases rx
   have e':k=b:=e
   subst e'
   exact wpAny_truthy_bool ⟨H,I,q⟩
 | int i =>
   obtain ⟨t,rfl⟩:=rx
   have e':k=(i != 0):=e
   subst e'
   exact PySem.P.truthy_int ⟨H,I,q⟩
 | str y =>
   obtain ⟨t,rfl⟩:=rx
   obtain ⟨hy,e'⟩:y.length<=sizeLine/\k=((y.length:Int) != 0):=e
   subst e'
   exact PySem.P.truthy_str (by omega) ⟨H,I.tok _,q⟩
 | byt y =>
   obtain ⟨t,rfl⟩:=rx
   obtain ⟨hy,e'⟩:y.size<=sizeLine/\k=((y.size:Int) != 0):=e
   subst e'
   exact PySem.W.truthy_bytes (by omega) ⟨H,I.tok _,q⟩
 | ref p =>
   cases rx
   have e':(∃ xs,SqL X.K H p xs/\k = !xs.isEmpty) \/ (∃ xs,SqT X.K H p xs/\k = !xs.isEmpty) \/ ∃ kvs,H p=some (.dK kvs)/\k = !kvs.isEmpty:=e
   rcases e' with ⟨xs,hx,e'⟩ | ⟨xs,hx,e'⟩ | ⟨kvs,hx,e'⟩
   · subst e'
     obtain ⟨its,r,pl,hz⟩:=I.list hx
     have hlen:=r.length
     exact wpAny_truthy_list pl.isList (by simp only [List.size_toArray]; omega) ⟨H,I.tok _,by rw [isEmpty_of r]; exact q⟩
   · subst e'
     obtain ⟨its,r,pl,hz⟩:=I.tuple hx
     have hlen:=r.length
     exact truthy_tuple pl (by simp only [List.size_toArray]; omega) ⟨H,I.tok _,by rw [isEmpty_of r]; exact q⟩
   · subst e'
     obtain ⟨hz,hS,vs,r,m⟩:kvs.length<=sizeLine/\(p == sysModules)=false/\∃ vs,KV kvs vs/\s.heap.DictOf (mixKind X.prog X.w) p vs:=I.hok p _ hx
     have hlen:kvs.length=vs.length:=Paired.length r
     exact wpAny_truthy_dict hS m (by omega) ⟨H,I.tok _,by rw [isEmpty_kv r]; exact q⟩
 | _=>exact (show False from e).elim
theorem pt_truth (ha:PE X a ta) (he:∀ whole,isTrue a X.env whole=(do let v <- whole; standAt a.pos; holding [v] (truthy v))) :
  PT X a (fun σ H Q=>ta σ H fun x H'=>∃ k,TruV X.K x H' k/\Q k H'):=by
 intro pins s σ H Q I h
 exact isTrue_plain (thn (ha pins s σ H _ I h) fun v s1 ⟨x,H1,I1,r1,q1⟩=>tru_ok pins s1 σ H1 x v Q I1 r1 q1) (he _)
theorem op_add_str:OpR X (binaryOp .Add) (fun x y H Q=>∃ i j,x = .str i/\y = .str j/\i.length+j.length<=sizeLine/\Q (.str (i++j)) H):=by
 intro pins s σ H x y v u Q I rx ry h
 obtain ⟨i,j,rfl,rfl,hz,q⟩:=h
 obtain ⟨t,rfl⟩:=rx
 obtain ⟨t',rfl⟩:=ry
 exact add_str (fun t' tk=>⟨.str (i++j),H,I.tok _,⟨_,rfl⟩,q⟩) hz
theorem vals1 {x:V} {us:List Value} (r:Vals [x] us):∃ u,us=[u]/\RelV x u:=by
 cases r with
 | cons r1 r2=>cases r2; exact ⟨_,rfl,r1⟩
theorem vals2 {x y:V} {us:List Value} (r:Vals [x,y] us):∃ u w',us=[u,w']/\RelV x u/\RelV y w':=by
 cases r with
 | cons r1 r2 =>
   cases r2 with
   | cons r3 r4=>cases r4; exact ⟨_,_,rfl,r1,r3⟩
theorem call_max2 (hc:X.calm=true):CallR X (.builtin "max") (fun xs H Q=>∃ i j,xs=[.int i,.int j]/\Q (.int (if j > i then j else i)) H):=by
 intro pins s σ H xs us Q I r h
 obtain ⟨i,j,rfl,q⟩:=h
 obtain ⟨u,w',rfl,⟨t,rfl⟩,⟨t',rfl⟩⟩:=vals2 r
 refine max_two_ints (I.ok.hd hc) fun h' tk k=>⟨_,H,I.kept k,?_,q⟩
 by_cases hj:j > i
 · rw [if_pos hj,if_pos hj]; exact ⟨_,rfl⟩
 · rw [if_neg hj,if_neg hj]; exact ⟨_,rfl⟩
theorem call_min2 (hc:X.calm=true):CallR X (.builtin "min") (fun xs H Q=>∃ i j,xs=[.int i,.int j]/\Q (.int (if j < i then j else i)) H):=by
 intro pins s σ H xs us Q I r h
 obtain ⟨i,j,rfl,q⟩:=h
 obtain ⟨u,w',rfl,⟨t,rfl⟩,⟨t',rfl⟩⟩:=vals2 r
 refine min_two_ints (I.ok.hd hc) fun h' tk k=>⟨_,H,I.kept k,?_,q⟩
 by_cases hj:j < i
 · rw [if_pos hj,if_pos hj]; exact ⟨_,rfl⟩
 · rw [if_neg hj,if_neg hj]; exact ⟨_,rfl⟩
end
end L2
namespace L2
open PySem PySem.Spec PyProof.Rows
structure ObjM (h:Heap) (x dx C:Addr) (mA:Str->Option Value):Prop where
 obj:h.get? x=some (PySem.W.instObj C dx)
 ns:h.Ns1 dx mA
 ne:dx≠x
theorem lookIn_ns {h:Heap} {dx:Addr} {mA:Str->Option Value} (n:h.Ns1 dx mA):∃ od,h.get? dx=some od/\∀ name,PySem.W.lookIn name od=some (mA name):=by
 obtain ⟨o,es,ep,ho,hd,hk,_,hm⟩:=n
 refine ⟨o,ho,fun name=>?_⟩
 have e:=hm name
 unfold nsFind findBy at e
 rw [<- Array.find?_toList] at e
 unfold PySem.W.lookIn
 rw [hd]
 dsimp only
 split
 · rename_i y q
   rw [q] at e
   exact congrArg some e
 · rename_i q
   rw [q] at e
   have a:es.toList.any (·.refKey)=false:=by
    rw [List.any_eq_false]
    intro y hy
    obtain ⟨z,t,hkey⟩:=hk y (Array.mem_toList_iff.mp hy)
    simp [DictEntry.refKey,hkey]
   have a' : ¬ es.toList.any (·.refKey)=true:=by rw [a]; exact Bool.false_ne_true
   rw [if_neg a']
   exact congrArg some e
theorem ObjM.look {h:Heap} {x dx C:Addr} {mA:Str->Option Value} (I:ObjM h x dx C mA):∃ od,PySem.W.InstAt h x (PySem.W.instObj C dx) C (some od)/\∀ name,PySem.W.lookIn name od=some (mA name) :=
 let ⟨od,ho,hl⟩:=lookIn_ns I.ns
 ⟨od,⟨I.obj,rfl,rfl,ho⟩,hl⟩
section
variable {prog:Program} {w:World} {A:Around} {E:Value->Shared->Prop} {s:Shared} {K:PySem.W.Frag} {x dx C f:Addr} {mA:Str->Option Value} {name:Str} {v:Value}
end
section
variable {P:Program} {w:World} {H H':Hp} {h h':Heap} {a C dx:Addr} {fs fs':List (Str×V)}
theorem ins_get (hok:HOk P w H h) (e:H a=some (.ins C dx fs)):∃ mA,ObjM h a dx C mA/\(∀ f,RelO (fs.lookup f) (mA f))/\PySem.Within mA (fs.map (·.1))/\fs.length<=1000/\H dx=some (.own a):=by
 obtain ⟨d,z,ne,ob,mA,n,r,q⟩:=(show ObjOk P w H h a (.ins C dx fs) from hok a _ e)
 exact ⟨mA,⟨ob,n,ne⟩,r,q,z,d⟩
end
structure Cls (K:PySem.W.Frag) (C:Addr):Prop where
 pg:PySem.W.plainGet K C Str.empty=true
 hd:PySem.W.hasDictIn K C=true
 po:PySem.W.plainOver K C=true
 sa:PySem.W.findIn K (.ref C) "__setattr__" = some (some (.builtin "object.__setattr__"))
theorem Cls.get {K:PySem.W.Frag} {C:Addr} (c:Cls K C) (f:Str):PySem.W.plainGet K C f=true:=c.pg
section
variable {X:Cx} {pins:List (Addr×Obj)} {σ : St} {H:Hp} {s:Shared} {a C dx:Addr} {fs:List (Str×V)} {f:Str} {v:V} {A:Around} {E:Value->Shared->Prop}
end
section
variable {X:Cx} {o e value:Expr} {f:Str} {pos pos' tpos:Pos} {ta tv:TE}
end
section
variable {X:Cx} {pins:List (Addr×Obj)} {σ : St} {H:Hp} {s:Shared} {A:Around} {E:Value->Shared->Prop} {Q:Value->Shared->Prop} {c:Value} {b:Bool}
inductive TyOf (K:PySem.W.Frag) (H:Hp):V->Value->Prop where
 | non:TyOf K H .non (.type "NoneType")
 | bl (x:Bool):TyOf K H (.bl x) (.type "bool")
 | int (i:Int):TyOf K H (.int i) (.type "int")
 | str (x:Str):TyOf K H (.str x) (.type "str")
 | flt (x:UInt64):TyOf K H (.flt x) (.type "float")
 | lst {a:Addr} {xs:List V} (e:H a=some (.lst xs)):TyOf K H (.ref a) (.type "list")
 | frz {a:Addr} {o:Obj} {xs:List V} (e:H a=some (.frz o (.lst xs))):TyOf K H (.ref a) (.type "list")
 | tup {a:Addr} {xs:List V} (e:H a=some (.tup xs)):TyOf K H (.ref a) (.type "tuple")
 | dK {a:Addr} {kvs:List (Key×V)} (e:H a=some (.dK kvs)):TyOf K H (.ref a) (.type "dict")
 | dT {a:Addr} {kvs:List (List Key×V)} (e:H a=some (.dT kvs)):TyOf K H (.ref a) (.type "dict")
 | ins {a C dx:Addr} {fs:List (Str×V)} (e:H a=some (.ins C dx fs)) (cl:Cls K C) (ha:PySem.W.findIn K (.ref C) "__class__" = some (some (.builtin "object.__class__")))
    (hn:PySem.W.specialIn K (.builtin "object.__class__") "__get__" = some (some (.builtin "getset_descriptor.__get__"))) (htk:PySem.W.takesIn K (.builtin "object.__class__")=some true)
    (hm:PySem.W.mroIn K C (.type "object")=some true):TyOf K H (.ref a) (.ref C)
theorem isinst_ok {x:V} {u t:Value} (I:Inv X pins σ H s) (rx:RelV x u) (ty:TyOf X.K H x t) (e:PySem.W.kitOne X.K t c=some b) (h:∀ tk,Q (.bool b) { s with toks:=tk }) :
  wpAny (model X.prog X.w) A (call (.builtin "isinstance") [u,c]) Q E s:=by
 cases ty with
 | non=>cases (show u=Value.none from rx); exact PySem.W.kia_one PySem.W.kitx_none I.kIn True.intro e (fun z=>nomatch z) h
 | bl y=>cases (show u=Value.bool y from rx); exact PySem.W.kia_one PySem.W.kitx_bool I.kIn True.intro e (fun z=>nomatch z) h
 | int i=>obtain ⟨t,q⟩:=(show ∃ t,u=Value.int i t from rx); cases q; exact PySem.W.kia_one PySem.W.kitx_int I.kIn True.intro e (fun z=>nomatch z) h
 | str y=>obtain ⟨t,q⟩:=(show ∃ t,u=Value.str y t from rx); cases q; exact PySem.W.kia_one PySem.W.kitx_str I.kIn True.intro e (fun z=>nomatch z) h
 | flt y=>obtain ⟨t,q⟩:=(show ∃ t,u=Value.float y t from rx); cases q; exact PySem.W.kia_one PySem.W.kitx_float I.kIn True.intro e (fun z=>nomatch z) h
 | @lst a xs ea =>
   cases (show u=Value.ref a from rx)
   obtain ⟨_,_,n,_,h1⟩:=(show ObjOk X.prog X.w H s.heap a (.lst xs) from I.hok a _ ea)
   exact PySem.W.kia_one PySem.W.kitx_list I.kIn ⟨_,h1,rfl⟩ e (fun z=>nomatch z) h
 | @frz a ob xs ea =>
   cases (show u=Value.ref a from rx)
   obtain ⟨_,_,_,n,_,h1⟩:=(show ObjOk X.prog X.w H s.heap a (.frz ob (.lst xs)) from I.hok a _ ea)
   exact PySem.W.kia_one PySem.W.kitx_list I.kIn ⟨_,h1,rfl⟩ e (fun z=>nomatch z) h
 | @tup a xs ea =>
   cases (show u=Value.ref a from rx)
   obtain ⟨_,_,_,p⟩:=(show ObjOk X.prog X.w H s.heap a (.tup xs) from I.hok a _ ea)
   obtain ⟨o,h1,h2,_⟩:=p
   exact PySem.W.kia_one PySem.W.kitx_tuple I.kIn ⟨o,h1,h2⟩ e (fun z=>nomatch z) h
 | @dK a kvs ea =>
   cases (show u=Value.ref a from rx)
   obtain ⟨_,_,vs,_,p⟩:=(show ObjOk X.prog X.w H s.heap a (.dK kvs) from I.hok a _ ea)
   obtain ⟨o,es,ep,h1,h2,_⟩:=p
   exact PySem.W.kia_one PySem.W.kitx_dict I.kIn ⟨o,h1,h2.1⟩ e (fun z=>nomatch z) h
 | @dT a kvs ea =>
   cases (show u=Value.ref a from rx)
   obtain ⟨_,_,xs,_,o,es,ep,h1,h2,_⟩:=(show ObjOk X.prog X.w H s.heap a (.dT kvs) from I.hok a _ ea)
   exact PySem.W.kia_one PySem.W.kitx_dict I.kIn ⟨o,h1,h2.1⟩ e (fun z=>nomatch z) h
 | @ins a C dx fs ea cl ha hn htk hm =>
   cases (show u=Value.ref a from rx)
   obtain ⟨mA,O,_⟩:=ins_get I.hok ea
   obtain ⟨od,J,_⟩:=O.look
   exact PySem.W.kia_one (PySem.W.kitx_own (cl.get _) cl.hd ha hn htk hm) I.kIn J e (fun z=>nomatch z) h
end
end L2
namespace L2
open PySem PySem.Spec PyProof.Rows
structure Room (k:Nat) (A:Around):Prop where
 hd:A.handled=none
 dp:A.depth+3 * k+5 < recursionLimit
 un:A.units+16 * k+200 < cLine
theorem Room.mono {j k:Nat} {A:Around} (r:Room k A) (h:j<=k):Room j A:=⟨r.hd,by have:=r.dp; omega,by have:=r.un; omega⟩
theorem Room.deeper {k:Nat} {A:Around} (r:Room (k+1) A) (env:Env):Room k (A.deeper env) :=
 ⟨r.hd,by have:=r.dp; show A.depth+1+3 * k+5 < _; omega,by have:=r.un; show A.units+3+16 * k+200 < _; omega⟩
theorem Room.depth {k:Nat} {A:Around} (r:Room k A):A.depth < recursionLimit:=by have:=r.dp; omega
def tNil:TA:=fun _ H Q=>Q [] H
def tCons (ta:TE) (tr:TA):TA:=fun σ H Q=>ta σ H fun x H1=>tr σ H1 fun xs H2=>Q (x::xs) H2
section
variable {X:Cx} {e:Expr} {es:List Expr} {te:TE} {t:TA} {pos:Pos}
theorem yC:PA X [] tNil:=fun _ _ _ _ H Q I h=>Calls.spliced_nil ⟨[],H,I,.nil,h⟩
theorem qS (ha:PE X e te) (hr:PA X es t) (hs:starEach (e::es) X.env=(false,eval e X.env)::starEach es X.env:=by rfl):PA X (e::es) (tCons te t):=by
 intro pos pins s σ H Q I h
 rw [hs]
 show wpAny _ _ (spliced ((false,eval e X.env)::backTo pos (starEach es X.env))) _ _ s
 refine Calls.spliced_cons (thn (ha pins s σ H _ I h) fun u s1 ⟨x,H1,I1,r1,q1⟩=>?_)
 exact thn (hr pos pins s1 σ H1 _ I1 q1) fun us s2 ⟨xs,H2,I2,r2,q2⟩=>⟨x::xs,H2,I2,.cons r1 r2,q2⟩
def tTup (t:TA):TE:=fun σ H Q=>t σ H fun xs H1=>xs.length<=sizeLine/\∀ p,H1 p=none->Q (.ref p) (upd H1 p (.tup xs))
def tLst (t:TA):TE:=fun σ H Q=>t σ H fun xs H1=>xs.length<=sizeLine/\∀ p,H1 p=none->Q (.ref p) (upd H1 p (.lst xs))
theorem pe_tup {x1} (h:PA X es t):PE X (.Tuple es x1 pos) (tTup t):=by
 intro pins s σ H Q I hq
 refine wpAny_Tuple_spliced (thn (h pos pins s σ H _ I hq) fun us s1 ⟨xs,H1,I1,r,z,q⟩=>⟨by rw [<- r.length]; exact z,?_⟩)
 have hf:H1 s1.heap.objs.size=none:=I1.hok.fresh (Nat.le_refl _)
 refine ⟨.ref s1.heap.objs.size,upd H1 s1.heap.objs.size (.tup xs),I1.laid (t':=s1.toks) (fun b u e=>Heap.get?_push_of_some _ e) (Nat.le_refl _) ?_,rfl,q _ hf⟩
 exact ⟨z,us,r,⟨_,Heap.get?_push_size _ rfl,rfl,_,rfl⟩⟩
theorem pe_lst (h:PA X es t):PE X (.List es pos) (tLst t):=by
 intro pins s σ H Q I hq
 refine wpAny_List_spliced (thn (h pos pins s σ H _ I hq) fun us s1 ⟨xs,H1,I1,r,z,q⟩=>⟨by rw [<- r.length]; exact z,?_⟩)
 have hf:H1 s1.heap.objs.size=none:=I1.hok.fresh (Nat.le_refl _)
 refine ⟨.ref s1.heap.objs.size,upd H1 s1.heap.objs.size (.lst xs),I1.laid (t':=s1.toks) (fun b u e=>Heap.get?_push_of_some _ e) (Nat.le_refl _) ?_,rfl,q _ hf⟩
 exact ⟨z,us,0,r,Heap.get?_push_size _ rfl⟩
end
abbrev Sp:=List V->Hp->VK->XK->Prop
abbrev CXT:=List Env->Hp->Shared->XK->Value->Shared->Prop
structure Env0 (P:Program) (w:World) (K:PySem.W.Frag) (mg:Str->Option Value) (base:Heap) (A:Around) (outer:List Env) (s:Shared) (H:Hp):Prop where
 frames:A.frames=some outer
 mod:Mod K mg base
 bs:∀ b o,base.get? b=some o->s.heap.get? b=some o/\H b=none
 bsz:Bsz K mg base s.heap H
 funs:s.heap.FunFrames base outer
 frf:∀ b∈frs outer,H b=none
 hok:HOk P w H s.heap
 bare:AllBare s.gens
def CE (outer:List Env) (P:Program) (w:World) (H:Hp) (s:Shared) (Q:VK) (u:Value) (s':Shared):Prop :=
 ∃ v H',s'.os=s.os/\AllBare s'.gens/\Un (frs outer) [] H H' s.heap s'.heap/\HOk P w H' s'.heap/\RelV v u/\Q v H'
def CR (CX:CXT) (outer:List Env) (P:Program) (w:World) (H:Hp) (s:Shared) (Q:VK) (E:XK) (r:Result) (s':Shared):Prop :=
 match r with
 | .ok (.ret u)=>CE outer P w H s Q u s'
 | .ok _=>False
 | .error e=>CX outer H s E e s'
structure FnOk (P:Program) (w:World) (K:PySem.W.Frag) (mg:Str->Option Value) (base:Heap) (CX:CXT) (k:Nat) (f:Addr) (fd:FuncData) (ps:List Str) (sp:Sp):Prop where
 len:∀ vs H Q E,sp vs H Q E->vs.length=ps.length
 run:∀ (A:Around) (outer:List Env) (s:Shared) (H:Hp) (args:Args) (us:List Value) (vs:List V) (Q:VK) (E:XK),Room k A->Env0 P w K mg base A outer s H->BindsTo s fd args (ps.zip us)->Vals vs us->sp vs H Q E →
  codeAny (model P w) A (.call (.ref f) args) (CR CX outer P w H s Q E) s
theorem FnOk.imp {P:Program} {w:World} {K:PySem.W.Frag} {mg:Str->Option Value} {base:Heap} {CX:CXT} {k:Nat} {f:Addr} {fd:FuncData} {ps:List Str} {sp sp':Sp} (F:FnOk P w K mg base CX k f fd ps sp)
  (h:∀ vs H Q E,sp' vs H Q E->sp vs H Q E):FnOk P w K mg base CX k f fd ps sp' :=
 ⟨fun vs H Q E q=>F.len vs H Q E (h _ _ _ _ q),fun A outer s H args us vs Q E hr he hb hv hs=>F.run A outer s H args us vs Q E hr he hb hv (h _ _ _ _ hs)⟩
section
variable {X:Cx} {pins:List (Addr×Obj)} {σ : St} {H:Hp} {s s':Shared}
theorem Inv.tabsH (I:Inv X pins σ H s):TabsK X.K X.mg X.base H:=⟨I.ok.bsz.2.bm,fun x c P hx ht=>⟨(I.ok.bsz.2.tab x c P hx ht).1,I.base.tbls _ _ (I.ok.bsz.2.tab x c P hx ht).2⟩⟩
theorem Inv.env0 (I:Inv X pins σ H s):Env0 X.prog X.w X.K X.mg X.base X.A X.stack s H :=
 ⟨I.ok.frames,I.ok.mod,I.bs,⟨Nat.le_trans I.ok.bsz.1 I.sz,I.tabsH⟩,I.stack,I.stkFree,I.hok,I.bare⟩
theorem Inv.after {Q:VK} {u:Value} (I:Inv X pins σ H s) (h:CE X.stack X.prog X.w H s Q u s'):EP X pins σ Q u s':=by
 obtain ⟨v,H',os,bare,un,hok,r,q⟩:=h
 obtain ⟨hh,g,d,t,os'⟩:=s'
 obtain rfl:os'=s.os:=os
 exact ⟨v,H',I.call (h':=hh) (g':=g) (d':=d) (t':=t) (ch:=[]) un hok bare (fun b z=>absurd z (by simp)),r,q⟩
end
def tCall (sp:Sp) (dvs:List V) (E:XK) (t:TA):TE:=fun σ H Q=>t σ H fun vs H1=>sp (vs++dvs) H1 Q E
def Binds (K:PySem.W.Frag) (fd:FuncData) (ps:List Str) (ds:List Value):Prop :=
 ∀ (s:Shared) (us:List Value),K.In s.heap->(us++ds).length=ps.length->BindsTo s fd ⟨us,[]⟩ (ps.zip (us++ds))
theorem Binds.all {K:PySem.W.Frag} {fd:FuncData} {ps:List Str} (h:∀ us:List Value,us.length=ps.length->bindArgs fd ⟨us,[]⟩=pure (ps.zip us)):Binds K fd ps []:=fun s us _ hl=>by
 rw [List.append_nil] at hl ⊢
 exact .of_eq (h us hl)
def Passes (CX:CXT) (X:Cx) (E:XK):Prop:=∀ (pins:List (Addr×Obj)) (σ : St) (H:Hp) (s:Shared) (e:Value) (s':Shared),Inv X pins σ H s->CX X.stack H s E e s'->X.xe e s'
section
variable {X:Cx} {CX:CXT} {k:Nat} {f C:Addr} {fd:FuncData} {ps:List Str} {sp:Sp} {dvs:List V} {ds:List Value} {E:XK} {x m:Str} {p pos apos:Pos} {e o:Expr} {es:List Expr} {ta:TE} {t:TA}
theorem run_fn {pins:List (Addr×Obj)} {σ : St} {H:Hp} {s:Shared} {Q:VK} {us:List Value} {vs:List V} (F:FnOk X.prog X.w X.K X.mg X.base CX k f fd ps sp) (hr:Room k X.A) (hb:Binds X.K fd ps ds) (hd:Vals dvs ds) (hx:Passes CX X E)
  (I:Inv X pins σ H s) (r:Vals vs us) (h:sp (vs++dvs) H Q E):wpAny (model X.prog X.w) X.A (call (.ref f) us) (EP X pins σ Q) X.xe s:=by
 have r2:Vals (vs++dvs) (us++ds):=r.append hd
 have hl:(us++ds).length=ps.length:=by rw [<- r2.length]; exact F.len _ _ _ _ h
 refine wpAny_call (codeAny_mono (F.run X.A X.stack s H ⟨us,[]⟩ (us++ds) (vs++dvs) Q E hr I.env0 (hb s us I.kIn hl) r2 h) fun r s' hq=>?_)
 cases r with
 | error e=>exact hx pins σ H s e s' I hq
 | ok fl =>
   cases fl with
   | ret u=>exact I.after hq
   | next=>exact False.elim hq
   | brk=>exact False.elim hq
   | cont=>exact False.elim hq
theorem pe_call (F:FnOk X.prog X.w X.K X.mg X.base CX k f fd ps sp) (hr:Room k X.A) (hg:Gl X x) (hm:X.mg x=some (.ref f)) (hk:PySem.W.keepIn X.K (.ref f)=true) (hb:Binds X.K fd ps ds) (hd:Vals dvs ds) (hx:Passes CX X E)
  (ha:PA X (e::es) t) (hdb:(x == ("__debug__" : Str))=false:=by decide) (he:starEach (e::es) X.env=(false,eval e X.env)::starEach es X.env:=by rfl) (hpl:(backTo pos (starEach es X.env)).any (·.1)=false:=by rfl) :
  PE X (.Call (.Name x p) (e::es) [] pos) (tCall sp dvs E t):=by
 intro pins s σ H Q I h
 refine wpAny_Call_Name_kw (vC I hg hm ?_ hdb)
 refine PySem.W.callWith_K (h₀:=X.base) I.ok.mod.kin hk (thn (ha pos pins s σ H _ I h) fun us s1 ⟨vs,H1,I1,r,q⟩=>⟨I1.kIn,?_⟩) he hpl
 exact run_fn F hr hb hd hx I1 r q
end
section
variable {X:Cx} {CX:CXT} {k:Nat} {f C:Addr} {fd:FuncData} {ps ks:List Str} {sp:Sp} {E:XK} {x m:Str} {p pos apos kpos:Pos} {e o:Expr} {es:List Expr} {kws:List Keyword} {te ta:TE} {t tk:TA} {nm:Option Str}
variable {g:List Value->List Value->List Value} {gV:List V->List V->List V}
end
structure FnScope (N P:List Str) (sc:Scope):Prop where
 kind:sc.kind = .function
 co:sc.isCoroutine=false
 gen:sc.isGenerator=false
 nd:N.Nodup
 pre:N.take P.length=P
 par:∀ x∈P,sc.names.lookup x=some .local \/ sc.names.lookup x=some .cell
 nofree:∀ y∈sc.names,y.2≠.free
theorem bindL_out {kindOf:Str->Option NameKind} {x:Str} : ∀ {binds:List (Str×Value)} {m:Str->Option Value},(∀ v,(x,v) ∉ binds)->bindL kindOf binds m x=m x
 | [],_,_=>rfl
 | (n, v) :: r, m, h => by
   unfold bindL
   rw [bindL_out fun w hw=>h w (List.mem_cons_of_mem _ hw)]
   split
   · have : x ≠ n := by rintro rfl; exact h v List.mem_cons_self
     simp [this]
   · rfl
theorem bindC_out {kindOf:Str->Option NameKind} {x:Str} : ∀ {binds:List (Str×Value)} {m:Str->Option Value},(∀ v,(x,v) ∉ binds)->bindC kindOf binds m x=m x
 | [],_,_=>rfl
 | (n, v) :: r, m, h => by
   unfold bindC
   rw [bindC_out fun w hw=>h w (List.mem_cons_of_mem _ hw)]
   split
   · rfl
   · have : x ≠ n := by rintro rfl; exact h v List.mem_cons_self
     simp [this]
theorem bindL_get {kindOf:Str->Option NameKind} {x:Str} {v:Value} : ∀ {P:List Str} {vs:List Value} {i:Nat} {m:Str->Option Value},P.Nodup->P[i]? = some x->vs[i]? = some v->kindOf x=some .local →
  bindL kindOf (P.zip vs) m x=some v
 | [],_,_,_,_,h,_,_=>by simp at h
 | _::_,[],_,_,_,_,h,_=>by simp at h
 | p :: P, w :: vs, 0, m, nd, h1, h2, hk => by
   simp at h1 h2; subst h1; subst h2
   show bindL kindOf ((p,w)::P.zip vs) m p=_
   unfold bindL
   rw [bindL_out fun v hv=>(List.nodup_cons.mp nd).1 (List.of_mem_zip hv).1,if_pos hk]
   simp
 | p :: P, w :: vs, i + 1, m, nd, h1, h2, hk => by
   show bindL kindOf ((p,w)::P.zip vs) m x=_
   unfold bindL
   exact bindL_get (i:=i) (List.nodup_cons.mp nd).2 (by simpa using h1) (by simpa using h2) hk
theorem bindC_get {kindOf:Str->Option NameKind} {x:Str} {v:Value} : ∀ {P:List Str} {vs:List Value} {i:Nat} {m:Str->Option Value},P.Nodup->P[i]? = some x->vs[i]? = some v->kindOf x≠some .local →
  bindC kindOf (P.zip vs) m x=some v
 | [],_,_,_,_,h,_,_=>by simp at h
 | _::_,[],_,_,_,_,h,_=>by simp at h
 | p :: P, w :: vs, 0, m, nd, h1, h2, hk => by
   simp at h1 h2; subst h1; subst h2
   show bindC kindOf ((p,w)::P.zip vs) m p=_
   unfold bindC
   rw [bindC_out fun v hv=>(List.nodup_cons.mp nd).1 (List.of_mem_zip hv).1,if_neg hk]
   simp
 | p :: P, w :: vs, i + 1, m, nd, h1, h2, hk => by
   show bindC kindOf ((p,w)::P.zip vs) m x=_
   unfold bindC
   exact bindC_get (i:=i) (List.nodup_cons.mp nd).2 (by simpa using h1) (by simpa using h2) hk
def start (N:List Str) (vs:List V):St:=vs.map some++List.replicate (N.length - vs.length) none
def cxOf (CX:CXT) (P:Program) (w:World) (K:PySem.W.Frag) (mg:Str->Option Value) (base:Heap) (N:List Str) (qual:Str) (scope:Scope) (f:Addr) (cd:Value) (A:Around) (outer:List Env) (s:Shared) (H:Hp) (E:XK):Cx where
 prog:=P
 w:=w
 K:=K
 mg:=mg
 base:=base
 A:=A.deeper (envOfC qual scope s.heap.objs.size f cd)
 N:=N
 s₀:=s
 H₀:=H
 env:=envOfC qual scope s.heap.objs.size f cd
 outer:=outer
 stack:=envOfC qual scope s.heap.objs.size f cd::outer
 ex:=[]
 calm:=true
 fn:=fun _=>true
 pn:=[]
 xe:=fun e s'=>wpAny (model P w) (A.deeper (envOfC qual scope s.heap.objs.size f cd)) (leaving (envOfC qual scope s.heap.objs.size f cd) e) (fun _ s''=>CX outer H s E e s'') (fun e' s''=>CX outer H s E e' s'') s'
theorem cell_has {sc:Scope} {n:Nat} {x:Str} (h:sc.names.lookup x=some .cell):∃ c,(cellsFrom n sc.names []).lookup x=some c:=by
 have q:=PySem.W.cellsFrom_some sc.names n [] (.inl h)
 exact Option.isSome_iff_exists.mp q
theorem inv_start {CX:CXT} {P:Program} {w:World} {K:PySem.W.Frag} {mg:Str->Option Value} {base:Heap} {N ps:List Str} {qual:Str} {scope:Scope} {f:Addr} {cd:Value} {A:Around} {outer:List Env} {s s1:Shared} {H:Hp} {E:XK} {us:List Value} {vs:List V}
  (S:FnScope N ps scope) (hd:A.handled=none) (e0:Env0 P w K mg base A outer s H) (hl:vs.length=ps.length) (r:Vals vs us)
  (x:InCallC s s.heap.objs.size (bindL (envOfC qual scope s.heap.objs.size f cd).kindOf (ps.zip us) fun _=>none) (cellsFrom (s.heap.objs.size+1) scope.names []) (bindC (envOfC qual scope s.heap.objs.size f cd).kindOf (ps.zip us) fun _=>none) s1) :
  Inv (cxOf CX P w K mg base N qual scope f cd A outer s H E) [] (start N vs) H s1:=by
 have hpl:ps.length<=N.length:=by have:=congrArg List.length S.pre; rw [List.length_take] at this; omega
 obtain ⟨h1,tk,rfl,hk⟩:=x.done
 have noA:∀ b:Addr,b ∉ (cxOf CX P w K mg base N qual scope f cd A outer s H E).ex:=fun b z=>absurd (show b∈([]:List Addr) from z) (by simp)
 refine ⟨⟨e0.mod,S.kind,rfl,rfl,Nat.le_refl _,fun y z c h1 h2=>?_,fun y hy=>?_,fun y c _ h=>?_,fun _=>hd,Around.frames_deeper e0.frames,.inr ⟨rfl,rfl⟩,fun b z=>absurd z (noA b),e0.bs,e0.bsz,fun b _ _=>noA b,fun b z=>absurd z (noA b),e0.funs,e0.frf⟩,
  rfl,e0.bare,Un.kept hk,⟨_,x.toInCall.ns,fun i y v h1 h2 h3=>?_⟩,fun y c h=>⟨_,x.cell y c h⟩,e0.hok.fresh (Nat.le_refl _),fun y c h=>?_,fun p hp=>absurd (show p∈([]:List (Addr×Obj)) from hp) (by simp),e0.hok.kept hk,?_⟩
 · exact name_of_addr x.apart (PySem.mem_of_lookup h1) (PySem.mem_of_lookup h2)
 · have hy : scope.names.lookup y = some .cell \/ scope.names.lookup y = some .free := hy
   rcases hy with hy | hy
   · exact cell_has hy
   · exact absurd rfl (S.nofree _ (PySem.mem_of_lookup hy))
 · exact Nat.le_of_lt (x.above y c (PySem.mem_of_lookup h))
 · have hi:i < vs.length:=by
    unfold start at h2
    by_cases hi:i < vs.length
    · exact hi
    · rw [List.getElem?_append_right (by simpa using hi)] at h2
      rw [List.getElem?_replicate] at h2
      split at h2 <;> cases h2
   have ha:vs[i]? = some v:=by
    unfold start at h2
    rw [List.getElem?_append_left (by simpa using hi),List.getElem?_map] at h2
    cases e:vs[i]? with
    | none=>rw [e] at h2; cases h2
    | some a=>rw [e] at h2; cases h2; rfl
   obtain ⟨u,hu,rv⟩:=r.get ha
   have hp:ps[i]? = some y:=by
    rw [<- S.pre,List.getElem?_take_of_lt (by omega)]; exact h1
   have ndP:ps.Nodup:=by rw [<- S.pre]; exact S.nd.sublist (List.take_sublist _ _)
   refine ⟨u,rv,?_⟩
   rcases S.par y (List.mem_of_getElem? hp) with k | k
   · exact .inl ⟨k,bindL_get ndP hp hu k⟩
   · obtain ⟨c, e⟩ := cell_has (n := s.heap.objs.size + 1) k
     refine .inr ⟨.inl k,c,e,?_⟩
     have q:=x.cell y c e
     rw [bindC_get ndP hp hu (by show scope.names.lookup y≠_; rw [k]; decide)] at q
     exact q
 · exact .inl (e0.hok.fresh (Nat.le_of_lt (x.above y c (PySem.mem_of_lookup h))))
 · unfold start
   show _=N.length
   rw [List.length_append,List.length_map,List.length_replicate]
   omega
theorem fn_of {CX:CXT} {P:Program} {w:World} {K:PySem.W.Frag} {mg:Str->Option Value} {base:Heap} {k:Nat} {f:Addr} {name qual:Str} {params:Arguments} {body:List Stmt} {scope:Scope} {dV kV doc pm cdv ct oc:Value} {an od:Option Addr}
  {osl:Array (Option Value)} {N ps:List Str} {sp:Sp} (lk:K.lookup f=some ⟨oc,od,.func (PySem.W.fnOf name qual params body scope dV kV doc pm an cdv ct),osl⟩) (hcd:PySem.W.codeIn K cdv qual=true) (S:FnScope N ps scope)
  (len:∀ vs H Q E,sp vs H Q E->vs.length=ps.length)
  (hbody:∀ (A:Around) (outer:List Env) (s:Shared) (H:Hp) (vs:List V) (Q:VK) (E:XK),Room k (A.deeper (envOfC qual scope s.heap.objs.size f cdv))->sp vs H Q E →
    ∃ t,PSs (cxOf CX P w K mg base N qual scope f cdv A outer s H E) body t/\t { nx:=fun _ H'=>Q .non H',rt:=Q } (start N vs) H) :
  FnOk P w K mg base CX (k+1) f (PySem.W.fnOf name qual params body scope dV kV doc pm an cdv ct) ps sp:=by
 refine ⟨len,fun A outer s H args us vs Q E hr e0 hb r hsp=>?_⟩
 have hl:=len _ _ _ _ hsp
 have KX:K.In s.heap:=e0.mod.kin.keeps fun b o e=>(e0.bs b o e).1
 have lim:s.heap.NoLimit:=e0.mod.nolimit.keeps fun b o e=>(e0.bs b o e).1
 have hkind:∀ y∈ps.zip us,scope.names.lookup y.1=some .local \/ (scope.names.lookup y.1=some .cell/\((cellsFrom (s.heap.objs.size+1) scope.names []).lookup y.1).isSome=true):=fun ⟨n,v⟩ hy=>by
  rcases S.par n (List.of_mem_zip hy).1 with q | q
  · exact .inl q
  · exact .inr ⟨q,PySem.W.cellsFrom_some _ _ _ (.inl q)⟩
 refine codeAny_call_function hr.depth (KX _ _ lk) rfl S.co S.gen rfl (PySem.W.codeRec_of KX hcd) (hb _ _ _ _ ?_)
 refine wpAny_newFunctionEnv_cells S.kind hkind fun env he s1 x=>?_
 subst he
 refine ⟨lim.keeps x.toInCall.keep,codeAny_func ?_⟩
 obtain ⟨t,ht,hq⟩:=hbody A outer s H vs Q E (hr.deeper _) hsp
 have I:Inv (cxOf CX P w K mg base N qual scope f cdv A outer s H E) [] (start N vs) H s1:=inv_start S hr.hd e0 hl r x
 refine wpAny_mono (ht [] s1 (start N vs) H _ I hq) (fun fl s' hs=>?_) fun e s' hs=>hs
 have fin:∀ {σ':St} {H':Hp} {v:V} {u:Value},Inv (cxOf CX P w K mg base N qual scope f cdv A outer s H E) [] σ' H' s'->RelV v u->Q v H'->CE outer P w H s Q u s' :=
  fun {σ' H' v u} J rv q=>⟨v,H',J.os,J.bare,J.base,J.hok,rv,q⟩
 cases fl with
 | ret u =>
   obtain ⟨v,σ',H',J,rv,q⟩:=hs
   exact fin J rv q
 | next =>
   obtain ⟨σ',H',J,q⟩:=hs
   exact fin (v:=V.non) (u:=Value.none) J rfl q
 | brk =>
   obtain ⟨_,_,_,q⟩:=hs
   exact False.elim q
 | cont =>
   obtain ⟨_,_,_,q⟩:=hs
   exact False.elim q
end L2
namespace L2
open PySem PySem.Spec PyProof.Rows
section
variable {X:Cx} {x:Str} {p pos:Pos} {e:Expr} {es:List Expr} {t:TA} {id T:String} {r:List V->Hp->VK->Prop}
def tCB (r:List V->Hp->VK->Prop) (t:TA):TE:=fun σ H Q=>t σ H fun vs H1=>r vs H1 Q
theorem xK (hc:CallR X (.builtin id) r) (hg:Gl X x) (hm:X.mg x=none) (hv:bootBuiltins x=some (.builtin id)) (ha:PA X (e::es) t) (hn:x≠"__name__":=by decide) (hdb:(x == ("__debug__" : Str))=false:=by decide)
  (he:starEach (e::es) X.env=(false,eval e X.env)::starEach es X.env:=by rfl) (hpl:(backTo pos (starEach es X.env)).any (·.1)=false:=by rfl):PE X (.Call (.Name x p) (e::es) [] pos) (tCB r t):=by
 intro pins s σ H Q I h
 refine wpAny_Call_Name_kw (wP I hg hm hv ?_ hn hdb)
 exact PyProof.Rows.callWith_builtin1 (thn (ha pos pins s σ H _ I h) fun us s1 ⟨vs,H1,I1,r1,q1⟩=>hc pins s1 σ H1 vs us Q I1 r1 q1) he hpl
theorem pe_callTy (hc:CallR X (.type T) r) (hg:Gl X x) (hm:X.mg x=none) (hv:bootBuiltins x=some (.type T)) (ha:PA X (e::es) t) (hn:x≠"__name__":=by decide) (hdb:(x == ("__debug__" : Str))=false:=by decide)
  (he:starEach (e::es) X.env=(false,eval e X.env)::starEach es X.env:=by rfl) (hpl:(backTo pos (starEach es X.env)).any (·.1)=false:=by rfl):PE X (.Call (.Name x p) (e::es) [] pos) (tCB r t):=by
 intro pins s σ H Q I h
 refine wpAny_Call_Name_kw (wP I hg hm hv ?_ hn hdb)
 exact PyProof.Rows.callWith_type1 (thn (ha pos pins s σ H _ I h) fun us s1 ⟨vs,H1,I1,r1,q1⟩=>hc pins s1 σ H1 vs us Q I1 r1 q1) he hpl
end
end L2
namespace HT
open PySem PyProof.Rows
section
open PySem.SeqAt
open PySem.AutoSeq1 (wpAny_loadPart')
open PySem.MeetsSeq PySem.MeetsSeq2 PySem.MeetsSeq3
end
section
variable {prog:Program} {w:World} {A:Around} {E:Value->Shared->Prop} {s:Shared}
theorem sIx_le (n d:Nat) (hd:d<=n) (o:Option Int):sIx n d o<=n:=by
 cases o with
 | none=>exact hd
 | some v =>
   show (if v < 0 then (v+(n:Int)).toNat else min v.toNat n)<=n
   by_cases hv:v < 0
   · rw [if_pos hv]; omega
   · rw [if_neg hv]; exact Nat.min_le_right _ _
theorem clip_eq (v:Int) (n d:Nat):(if v < 0 then max (v+(n:Int)) 0 else min v (n:Int))=((sIx n d (some v):Nat):Int):=by
 show (if v < 0 then max (v+(n:Int)) 0 else min v (n:Int))=(((if v < 0 then (v+(n:Int)).toNat else min v.toNat n):Nat):Int)
 by_cases hv:v < 0
 · simp only [if_pos hv]; omega
 · simp only [if_neg hv]; omega
theorem adjust_gen (lo hi:Option Int) (n:Nat):Builtin.Slice.sliceAdjust lo hi 1 (n:Int)=(((sIx n 0 lo:Nat):Int),((sIx n n hi:Nat):Int)):=by
 have h1 : ¬ ((1:Int) < 0):=by omega
 unfold Builtin.Slice.sliceAdjust
 simp only [h1,if_false]
 refine Prod.ext ?_ ?_
 · cases lo with
   | none=>rfl
   | some v=>exact clip_eq v n 0
 · cases hi with
   | none=>rfl
   | some v=>exact clip_eq v n n
theorem places_gen (i j:Nat):Builtin.Slice.slicePlaces (i:Int) (j:Int) 1=j - i:=by
 unfold Builtin.Slice.slicePlaces
 have h1:(1:Int) > 0:=by omega
 simp only [h1,if_true,Int.ediv_one]
 split <;> omega
theorem slicePart_ {v:Value} {o:Option Int} {Q:Option Int->Shared->Prop} (p:IsPart v o) (h:Q o s):wpAny (model prog w) A (Builtin.Slice.slicePartIndex v) Q E s:=by
 cases p with
 | none=>exact slicePart_none h
 | int i t=>exact slicePart_int h
theorem sliceApplied_gen {sl:Addr} {vl vu:Value} {lo hi:Option Int} {n:Nat} {Q:Int×Int×Nat->Shared->Prop} (hs:s.heap.IsSliceOf sl vl vu .none) (pl:IsPart vl lo) (pu:IsPart vu hi)
  (h:Q (((sIx n 0 lo:Nat):Int),1,sIx n n hi - sIx n 0 lo) s):wpAny (model prog w) A (Builtin.Slice.sliceApplied (.ref sl) (pure (n:Int))) Q E s:=by
 obtain ⟨os,hos,hcs,hds⟩:=id hs
 unfold Builtin.Slice.sliceApplied Builtin.Slice.sliceFields
 refine wpAny_bind (wpAny_bind (wpAny_field hos hds (x:=vl) rfl (wpAny_bind (wpAny_field hos hds (x:=vu) rfl (wpAny_bind (wpAny_field hos hds (x:=.none) rfl (wpAny_pure ?_)))))))
 refine wpAny_bind (slicePart_none ?_)
 show wpAny _ _ (if ((1:Int) == 0)=true then _ else _) _ _ s
 rw [if_neg (by decide)]
 refine wpAny_bind (slicePart_ pl (wpAny_bind (slicePart_ pu (wpAny_bind (wpAny_pure ?_)))))
 show wpAny _ _ (match Builtin.Slice.sliceAdjust lo hi 1 (n:Int) with | (lo,hi)=>pure (lo,(1:Int),Builtin.Slice.slicePlaces lo hi 1)) _ _ s
 rw [adjust_gen lo hi n]
 show wpAny _ _ (pure (((sIx n 0 lo:Nat):Int),(1:Int),Builtin.Slice.slicePlaces ((sIx n 0 lo:Nat):Int) ((sIx n n hi:Nat):Int) 1)) _ _ s
 rw [places_gen]
 exact wpAny_pure h
theorem pick_gen (xs:Array Value) (i k:Nat):((List.range k).filterMap fun (m:Nat)=>xs[((i:Int)+(m:Int) * 1).toNat]?).toArray=((xs.toList.drop i).take k).toArray:=by
 have e:(fun (m:Nat)=>xs[((i:Int)+(m:Int) * 1).toNat]?)=fun m=>xs[i+m]?:=by
  funext m
  have:((i:Int)+(m:Int) * 1).toNat=i+m:=by omega
  rw [this]
 rw [e]
 have:=pick_run xs i k
 rw [List.filterMap_map] at this
 have e2:((fun x=>xs[x]?) ∘ fun x=>i+x)=fun m=>xs[i+m]?:=rfl
 rw [e2] at this
 rw [this]
theorem getItem_tuple_cut {t sl:Addr} {items:Array Value} {vl vu:Value} {lo hi:Option Int} {Q:Value->Shared->Prop} (ht:IsTup s.heap t items) (hs:s.heap.IsSliceOf sl vl vu .none) (pl:IsPart vl lo) (pu:IsPart vu hi)
  (hw : ¬ (sIx items.size 0 lo=0/\sIx items.size items.size hi=items.size))
  (h:Q (.ref s.heap.objs.size) { s with heap:=s.heap.push { cls:=.type "tuple",data:=.seq ((items.toList.drop (sIx items.size 0 lo)).take (sIx items.size items.size hi - sIx items.size 0 lo)).toArray } })
  (hsz:items.size<=sizeLine):wpAny (model prog w) A (getItem (.ref t) (.ref sl)) Q E s:=by
 have htake:sizeOk (.seq ((items.toList.drop (sIx items.size 0 lo)).take (sIx items.size items.size hi - sIx items.size 0 lo)).toArray):=by
  show ((items.toList.drop (sIx items.size 0 lo)).take (sIx items.size items.size hi - sIx items.size 0 lo)).toArray.size<=sizeLine
  rw [List.size_toArray,List.length_take,List.length_drop,Array.length_toList]
  omega
 have hj:sIx items.size items.size hi<=items.size:=sIx_le _ _ (Nat.le_refl _) hi
 obtain ⟨os,hos,hcs,hds⟩:=id hs
 have hTs:s.TypeIs (.ref sl) "slice":=⟨os,hos,hcs⟩
 unfold getItem
 try with_reducible refine wpAny_holding ?_
 first | refine wpAny_bind (wpAny_pure ?_) | skip
 refine wpAny_bind (wpAny_sequenceKey ht.typeIs (by decide) ?_)
 refine wpAny_bind (wpAny_callSpecial?_slot (name:=Str.ofString "__getitem__") ht.typeIs PyProof.Rows.slot_tuple_getitem
  (wpAny_call_entry PyProof.Rows.slot_tuple_getitem ht.typeIs entry_tuple_getitem ?_ (args_tuple_getitem _ _)))
 show wpAny _ _ (Builtin.Tuple.tupleItemsOf (.ref t) >>= _) _ _ s
 refine wpAny_bind (tupleItemsOf_ ht ?_)
 refine wpAny_bind (wpAny_typeOf hTs ?_)
 rw [if_pos (by decide)]
 refine wpAny_bind (sliceApplied_gen hs pl pu ?_)
 have hno : ¬ ((((sIx items.size 0 lo:Nat):Int) == 0 && (1:Int) == 1 && (sIx items.size items.size hi - sIx items.size 0 lo) == items.size)=true):=by
  intro q
  rw [Bool.and_eq_true,Bool.and_eq_true] at q
  have q1:((sIx items.size 0 lo:Nat):Int)=0:=eq_of_beq q.1.1
  have q2:sIx items.size items.size hi - sIx items.size 0 lo=items.size:=eq_of_beq q.2
  exact hw ⟨by omega,by omega⟩
 show wpAny _ _ (if (((sIx items.size 0 lo:Nat):Int) == 0 && (1:Int) == 1 && (sIx items.size items.size hi - sIx items.size 0 lo) == items.size)=true then _ else _) _ _ s
 rw [if_neg hno,pick_gen]
 first
  | exact wpAny_bind (m:=Builtin.Tuple.tupleExact _) (wpAny_newObj_type (wpAny_pure ⟨_,rfl,wpAny_pure h⟩) htake)
  | exact wpAny_bind (m:=Builtin.Tuple.tupleExact _) (wpAny_newObj_type (wpAny_bind (wpAny_pure (wpAny_pure ⟨_,rfl,wpAny_pure h⟩))) htake)
  | exact wpAny_bind (wpAny_bind (m:=Builtin.Tuple.tupleExact _) (wpAny_newObj_type (wpAny_pure (wpAny_pure ⟨_,rfl,wpAny_pure h⟩)) htake))
  | exact wpAny_bind (wpAny_bind (m:=Builtin.Tuple.tupleExact _) (wpAny_newObj_type (wpAny_pure ⟨_,rfl,wpAny_pure h⟩) htake))
end
end HT
namespace L2
open PySem PySem.Spec PyProof.Rows
abbrev TO:=St->Hp->(Option Int->Hp->Prop)->Prop
def PO (X:Cx) (e:Option Expr) (t:TO):Prop :=
 ∀ (pins:List (Addr×Obj)) (s:Shared) (σ : St) (H:Hp) (Q:Option Int->Hp->Prop),Inv X pins σ H s->t σ H Q →
  wpAny (model X.prog X.w) X.A (evalPart e X.env) (fun u s'=>∃ o H',Inv X pins σ H' s'/\IsPart u o/\Q o H') X.xe s
def tNoPart:TO:=fun _ H Q=>Q none H
def tPart (t:TE):TO:=fun σ H Q=>t σ H fun x H1=>∃ i,x = .int i/\Q (some i) H1
theorem intsAre_of {ns:List Int} : ∀ {us:List Value},Vals (ns.map V.int) us->IntsAre us ns:=by
 induction ns with
 | nil=>intro us r; rw [List.map_nil] at r; cases r; exact .nil
 | cons n ns ih =>
   intro us r
   rw [List.map_cons] at r
   cases r with
   | cons r1 r2 =>
     obtain ⟨t,e⟩:=r1
     subst e
     exact .cons n t (ih r2)
section
variable {X:Cx} {e:Expr} {te:TE} {lo hi:Option Expr} {tl th:TO} {pos p2:Pos}
theorem po_none:PO X none tNoPart:=by
 intro pins s σ H Q I h
 rw [evalPart_none]
 exact wpAny_pure ⟨none,H,I,.none,h⟩
theorem po_some (h:PE X e te):PO X (some e) (tPart te):=by
 intro pins s σ H Q I hw
 rw [evalPart_some]
 refine thn (h pins s σ H _ I hw) fun u s1 ⟨x,H1,I1,r1,q1⟩=>?_
 obtain ⟨i,rfl,q⟩:=q1
 obtain ⟨t,rfl⟩:=r1
 exact ⟨some i,H1,I1,.int i t,q⟩
def SlR (X:Cx) (r:V->Option Int->Option Int->Hp->VK->Prop):Prop :=
 ∀ (pins:List (Addr×Obj)) (s:Shared) (σ : St) (H:Hp) (x:V) (v vl vu:Value) (lo hi:Option Int) (sl:Addr) (Q:VK),Inv X pins σ H s->RelV x v->s.heap.IsSliceOf sl vl vu .none->IsPart vl lo->IsPart vu hi->r x lo hi H Q →
  ∃ T id,typeLookup (.type T) "__getitem__" = pure (some (.builtin id))/\s.TypeIs v T/\wpAny (model X.prog X.w) X.A (getItem v (.ref sl)) (EP X pins σ Q) X.xe s
def tSl (r:V->Option Int->Option Int->Hp->VK->Prop) (te:TE) (tl th:TO):TE:=fun σ H Q=>te σ H fun x H1=>tl σ H1 fun l H2=>th σ H2 fun u H3=>r x l u H3 Q
theorem pe_slice {r:V->Option Int->Option Int->Hp->VK->Prop} (hr:SlR X r) (he:PE X e te) (hl:PO X lo tl) (hu:PO X hi th):PE X (.Subscript e (.Slice lo hi none p2) pos) (tSl r te tl th):=by
 intro pins s σ H Q I h
 refine Subscript_ (thn (he pins s σ H _ I h) fun v s1 ⟨x,H1,I1,r1,q1⟩=>?_)
 refine wpAny_Slice (thn (hl pins s1 σ H1 _ I1 q1) fun vl s2 ⟨l,H2,I2,pl,q2⟩=>thn (hu pins s2 σ H2 _ I2 q2) fun vu s3 ⟨u,H3,I3,pu,q3⟩=>?_)
 rw [evalPart_none]
 refine wpAny_pure ?_
 have I4:Inv X pins σ H3 { s3 with heap:=s3.heap.push { cls:=.type "slice",data:=.fields #[vl,vu,.none] } }:=I3.kept (t':=s3.toks) fun b ob q=>Heap.get?_push_of_some _ q
 obtain ⟨T,id,hT,ht,hg⟩:=hr pins { s3 with heap:=s3.heap.push { cls:=.type "slice",data:=.fields #[vl,vu,.none] } } σ H3 x v vl vu l u s3.heap.objs.size Q I4 r1 (Heap.IsSliceOf.new ..) pl pu q3
 show wpAny (model X.prog X.w) X.A (subscriptTail e (.Slice lo hi none p2) v (.ref s3.heap.objs.size)) (EP X pins σ Q) X.xe { s3 with heap:=s3.heap.push { cls:=.type "slice",data:=.fields #[vl,vu,.none] } }
 exact tail_any (ops:=[.ref s3.heap.objs.size,v]) ht hT hg (by with_unfolding_all rfl)
def cutV (xs:List V) (lo hi:Option Int):List V:=(xs.drop (HT.sIx xs.length 0 lo)).take (HT.sIx xs.length xs.length hi - HT.sIx xs.length 0 lo)
theorem cutV_length (xs:List V) (lo hi:Option Int):(cutV xs lo hi).length<=xs.length:=by
 unfold cutV
 rw [List.length_take,List.length_drop]
 omega
def rSlT (K:PySem.W.Frag):V->Option Int->Option Int->Hp->VK->Prop:=fun x lo hi H Q=>∃ a xs,x = .ref a/\SqT K H a xs ∧
 ¬ (HT.sIx xs.length 0 lo=0/\HT.sIx xs.length xs.length hi=xs.length)/\∀ p,H p=none->Q (.ref p) (upd H p (.tup (cutV xs lo hi)))
theorem sl_tup:SlR X (rSlT X.K):=by
 intro pins s σ H x v vl vu lo hi sl Q I rx hs pl pu h
 obtain ⟨a,xs,rfl,hx,hw,q⟩:=h
 cases rx
 obtain ⟨its,r,ht,hz⟩:=I.tuple hx
 have hlen:its.toArray.size=xs.length:=by rw [List.size_toArray]; exact r.length.symm
 refine ⟨"tuple",_,PyProof.Rows.slot_tuple_getitem.lookup,ht.typeIs,?_⟩
 refine HT.getItem_tuple_cut ht hs pl pu (by rw [hlen]; exact hw) ?_ (by rw [hlen]; exact hz)
 rw [hlen]
 refine ⟨.ref s.heap.objs.size,_,I.laid (t':=s.toks) (o:=.tup (cutV xs lo hi)) (fun b ob q=>Heap.get?_push_of_some _ q) (Nat.le_refl _) ?_,rfl,q _ (I.hok.fresh (Nat.le_refl _))⟩
 exact ⟨Nat.le_trans (cutV_length xs lo hi) hz,_,(r.drop (HT.sIx xs.length 0 lo)).take (HT.sIx xs.length xs.length hi - HT.sIx xs.length 0 lo),IsTup.new _ _⟩
end
end L2
namespace L2
open PySem PySem.Spec PyProof.Rows
theorem ixN_seq {n:Nat} {i:Int} {j:Nat} (h:ixN n i=some j):seqIndex? i n=some j/\j < n/\-(n:Int)<=i/\i < n:=by
 unfold ixN at h
 by_cases h0:0<=i
 · rw [if_pos h0] at h
   by_cases h1:i < n
   · rw [if_pos h1] at h
     have e:i.toNat=j:=Option.some.inj h
     exact ⟨by rw [seqIndex_of h0 h1,e],by omega,by omega,h1⟩
   · rw [if_neg h1] at h; cases h
 · rw [if_neg h0] at h
   by_cases h1 : -(n:Int)<=i
   · rw [if_pos h1] at h
     have e:(i+n).toNat=j:=Option.some.inj h
     exact ⟨by rw [seqIndex_neg (by omega) h1,e],by omega,h1,by omega⟩
   · rw [if_neg h1] at h; cases h
theorem kF {α : Type} {xs:List α} {i:Int} {v : α} (h:atI xs i=some v):∃ j,seqIndex? i xs.length=some j/\xs[j]? = some v/\j < xs.length/\-(xs.length:Int)<=i/\i < xs.length:=by
 unfold atI at h
 cases e:ixN xs.length i with
 | none=>rw [e] at h; cases h
 | some j =>
   rw [e] at h
   obtain ⟨h1,h2,h3,h4⟩:=ixN_seq e
   exact ⟨j,h1,h,h2,h3,h4⟩
def PlainIx (b:Expr):Prop:=∀ o i,subscripted b false o i=operate [o,i] (getItem o i)
def IxR (X:Cx) (r:R2):Prop :=
 ∀ (value slice:Expr) (pins:List (Addr×Obj)) (s:Shared) (σ : St) (H:Hp) (x y:V) (v u:Value) (Q:VK),Inv X pins σ H s->RelV x v->RelV y u->r x y H Q →
  subscripted slice false v u=operate [v,u] (getItem v u)->wpAny (model X.prog X.w) X.A (subscriptTail value slice v u) (EP X pins σ Q) X.xe s
def MtR (X:Cx) (id:String) (r:V->List V->Hp->VK->Prop):Prop :=
 ∀ (pins:List (Addr×Obj)) (s:Shared) (σ : St) (H:Hp) (x:V) (xs:List V) (v:Value) (us:List Value) (Q:VK),Inv X pins σ H s->RelV x v->Vals xs us->r x xs H Q →
  wpAny (model X.prog X.w) X.A (call (.builtin id) (v::us)) (EP X pins σ Q) X.xe s
section
variable {X:Cx} {a b:Expr} {ta tb:TE} {pos:Pos}
theorem IxR.or {r r':R2} (h:IxR X r) (h':IxR X r'):IxR X (fun x y H Q=>r x y H Q \/ r' x y H Q):=by
 intro value slice pins s σ H x y v u Q I rx ry q hs
 rcases q with q | q
 · exact h value slice pins s σ H x y v u Q I rx ry q hs
 · exact h' value slice pins s σ H x y v u Q I rx ry q hs
theorem pe_ix {r:R2} (hr:IxR X r) (ha:PE X a ta) (hb:PE X b tb) (hs:PlainIx b):PE X (.Subscript a b pos) (tOp r ta tb):=by
 intro pins s σ H Q I h
 exact Subscript_ (binT ha hb I h fun v u s2 x y H2 I2 rx ry q=>hr a b pins s2 σ H2 x y v u Q I2 rx ry q (hs _ _))
def rIxL (K:PySem.W.Frag):R2:=fun x y H Q=>∃ p xs i v,x = .ref p/\y = .int i/\SqL K H p xs/\atI xs i=some v/\Q v H
def rIxT (K:PySem.W.Frag):R2:=fun x y H Q=>∃ p xs i v,x = .ref p/\y = .int i/\SqT K H p xs/\atI xs i=some v/\Q v H
def rIxS:R2:=fun x y H Q=>∃ z i c,x = .str z/\y = .int i/\z.length<=sizeLine/\atI z.cps.toList i=some c/\Q (.str ⟨#[c]⟩) H
theorem ix_list:IxR X (rIxL X.K):=by
 intro value slice pins s σ H x y v u Q I rx ry h hs
 obtain ⟨p,xs,i,z,rfl,rfl,hq,he,q⟩:=h
 cases rx
 obtain ⟨t,rfl⟩:=ry
 obtain ⟨its,r,pl,hz⟩:=I.list hq
 obtain ⟨j,h1,h2,h3,h4,h5⟩:=kF he
 obtain ⟨w,ew,rw'⟩:=r.get h2
 have hl:=r.length
 have hn:=line63
 have fin:EP X pins σ Q w s:=⟨z,H,I,rw',q⟩
 by_cases h0:0<=i
 · have hj:i.toNat=j:=by
    rw [seqIndex_of h0 h5] at h1
    exact Option.some.inj h1
   exact item_listR pl.isList h0 (by omega) (by rw [hj]; simpa using ew) fin hs
 · have hj:(i+(its.toArray.size:Int)).toNat=j:=by
    rw [seqIndex_neg (by omega) h4] at h1
    rw [List.size_toArray,<- hl]
    exact Option.some.inj h1
   exact subscriptTail_builtinR (x:=w) pl.isList.typeIs slot_list_getitem.lookup
    (wpAny_getItem_list_neg (Q:=fun r s'=>r=w/\EP X pins σ Q r s') pl.isList (by omega) (by rw [List.size_toArray] <;> omega) (by omega) (by rw [hj]; simpa using ew) ⟨rfl,fin⟩) hs
theorem ix_tup:IxR X (rIxT X.K):=by
 intro value slice pins s σ H x y v u Q I rx ry h hs
 obtain ⟨p,xs,i,z,rfl,rfl,hq,he,q⟩:=h
 cases rx
 obtain ⟨t,rfl⟩:=ry
 obtain ⟨its,r,pl,hz⟩:=I.tuple hq
 obtain ⟨j,h1,h2,h3,h4,h5⟩:=kF he
 obtain ⟨w,ew,rw'⟩:=r.get h2
 have hl:=r.length
 have hn:=line63
 have fin:EP X pins σ Q w s:=⟨z,H,I,rw',q⟩
 exact subscriptTail_builtinR (x:=w) pl.typeIs slot_tuple_getitem.lookup
  (getItem_tuple (j:=j) (Q:=fun r s'=>r=w/\EP X pins σ Q r s') pl (by omega) (by omega) (by rw [List.size_toArray,<- hl]; exact h1) (by simpa using ew) ⟨rfl,fin⟩) hs
theorem ix_str:IxR X rIxS:=by
 intro value slice pins s σ H x y v u Q I rx ry h hs
 obtain ⟨z,i,c,rfl,rfl,hz,he,q⟩:=h
 obtain ⟨t,rfl⟩:=rx
 obtain ⟨t',rfl⟩:=ry
 obtain ⟨j,h1,h2,h3,h4,h5⟩:=kF he
 have hl:z.cps.toList.length=z.length:=by simp [Str.length]
 rw [hl] at h1 h4 h5
 have hn:=line63
 exact tail_any (typeIs_str s z t) slot_str_getitem.lookup (getItem_str (c:=c) (by
  have e1:decide (i < -(2 ^ 63:Int))=false:=decide_eq_false (by omega)
  have e2:decide (i ≥ 2 ^ 63)=false:=decide_eq_false (by omega)
  rw [e1,e2,Bool.or_false]) (by rw [h1]; simpa using h2) ⟨.str ⟨#[c]⟩,H,I.tok _,⟨_,rfl⟩,q⟩) hs
def rIx (K:PySem.W.Frag):R2:=fun x y H Q=>rIxL K x y H Q \/ rIxT K x y H Q \/ rIxS x y H Q
theorem ix_seq:IxR X (rIx X.K):=ix_list.or (ix_tup.or ix_str)
theorem mapSeq_set (its:List Value) (n j:Nat) (u:Value):Obj.mapSeq (·.setIfInBounds j u) { cls:=.type "list",data:=.seq its.toArray n } = { cls:=.type "list",data:=.seq (its.set j u).toArray n }:=by
 simp [Obj.mapSeq]
theorem Inv.lst {pins:List (Addr×Obj)} {σ : St} {H:Hp} {s:Shared} {p:Addr} {xs:List V} (I:Inv X pins σ H s) (h:H p=some (.lst xs)) :
  ∃ (its:List Value) (n:Nat),Vals xs its/\s.heap.get? p=some { cls:=.type "list",data:=.seq its.toArray n }/\xs.length<=sizeLine:=by
 obtain ⟨z,its,n,r,e⟩:=I.hok p _ h
 exact ⟨its,n,r,e,z⟩
theorem Inv.lstUpd {pins:List (Addr×Obj)} {σ : St} {H:Hp} {s:Shared} {p:Addr} {xs ys:List V} {its its':List Value} {n n':Nat} {f:Obj->Obj} (I:Inv X pins σ H s) (h:H p=some (.lst xs))
  (ho:s.heap.get? p=some { cls:=.type "list",data:=.seq its.toArray n }) (hf:f { cls:=.type "list",data:=.seq its.toArray n } = { cls:=.type "list",data:=.seq its'.toArray n' }) (r:Vals ys its') (hz:ys.length<=sizeLine) (t:Nat) :
  Inv X pins σ (upd H p (.lst ys)) { s with heap:=s.heap.update p f,toks:=t }:=by
 have e:(s.heap.update p f).get? p=some { cls:=.type "list",data:=.seq its'.toArray n' }:=by
  rw [Heap.get?_update_self f ho (by rw [hf] <;> rfl),hf]
 refine I.write (x:=p) (e:=p) (by rw [h]; trivial) (.inl rfl) (fun b u hb q=>(Heap.get?_update_other _ _ (Ne.symm hb)).trans q) ⟨_,e⟩ ?_
 exact ⟨hz,its',n',r,e⟩
def rSetL:V->V->V->Hp->(Hp->Prop)->Prop:=fun o i v H Q=>∃ p xs k j,o = .ref p/\i = .int k/\H p=some (.lst xs)/\ixN xs.length k=some j/\Q (upd H p (.lst (xs.set j v)))
theorem set_list:PSet X rSetL:=by
 intro pins s σ H o i v ov iv u Q I ro ri rv h
 obtain ⟨p,xs,k,j,rfl,rfl,hp,hj,q⟩:=h
 cases ro
 obtain ⟨t,rfl⟩:=ri
 obtain ⟨its,n,r,ho,hz⟩:=I.lst hp
 obtain ⟨h1,h2,h3,h4⟩:=ixN_seq hj
 have hl:=r.length
 have hn:=line63
 have I':Inv X pins σ (upd H p (.lst (xs.set j v))) { s with heap:=s.heap.update p (Obj.mapSeq (·.setIfInBounds j u)) } :=
  I.lstUpd hp ho (mapSeq_set its n j u) (r.set rv j) (by rw [List.length_set]; exact hz) s.toks
 by_cases h0:0<=k
 · have hk:k.toNat=j:=by
    rw [seqIndex_of h0 h4] at h1
    exact Option.some.inj h1
   exact PySem.W.ki_setAt ho h0 (by omega) (by rw [List.size_toArray,<- hl]; exact h4) (by rw [hk]; exact ⟨_,I',q⟩)
 · have hk:(k+(its.toArray.size:Int)).toNat=j:=by
    rw [seqIndex_neg (by omega) h3] at h1
    rw [List.size_toArray,<- hl]
    exact Option.some.inj h1
   exact PySem.W.ki_setBack ho (by omega) (by rw [List.size_toArray,<- hl]; exact h3) (by omega) (by rw [hk]; exact ⟨_,I',q⟩)
theorem slice_bounds (lo hi:Option Int) (n:Nat):(sliceBounds lo hi none n).1=((HT.sIx n 0 lo:Nat):Int)/\(sliceBounds lo hi none n).2.1=((HT.sIx n n hi:Nat):Int)/\(sliceBounds lo hi none n).2.2=1:=by
 refine ⟨?_,?_,rfl⟩
 · cases lo with
   | none=>simp [sliceBounds,HT.sIx]
   | some i =>
     simp only [sliceBounds,HT.sIx,Option.getD_none,show (1:Int) > 0 by decide,if_true]
     by_cases h:i < 0
     · simp only [h,if_true] <;> omega
     · simp only [h,if_false] <;> omega
 · cases hi with
   | none=>simp [sliceBounds,HT.sIx]
   | some i =>
     simp only [sliceBounds,HT.sIx,Option.getD_none,show (1:Int) > 0 by decide,if_true]
     by_cases h:i < 0
     · simp only [h,if_true] <;> omega
     · simp only [h,if_false] <;> omega
theorem slicePick_cut (its:List Value) (lo hi:Option Int):slicePick its.toArray lo hi none=((its.drop (HT.sIx its.length 0 lo)).take (HT.sIx its.length its.length hi - HT.sIx its.length 0 lo)).toArray:=by
 obtain ⟨h1,h2,h3⟩:=slice_bounds lo hi its.toArray.size
 unfold slicePick
 rw [h1,h2,h3]
 simp only [sliceRange_one,pick_run,List.size_toArray] <;> rfl
def rSlL (K:PySem.W.Frag):V->Option Int->Option Int->Hp->VK->Prop:=fun x lo hi H Q=>∃ a xs,x = .ref a/\SqL K H a xs/\∀ p,H p=none->Q (.ref p) (upd H p (.lst (cutV xs lo hi)))
theorem sl_list:SlR X (rSlL X.K):=by
 intro pins s σ H x v vl vu lo hi sl Q I rx hs pl pu h
 obtain ⟨a,xs,rfl,hx,q⟩:=h
 cases rx
 obtain ⟨its,r,ht,hz⟩:=I.list hx
 have hlen:=r.length
 refine ⟨"list",_,slot_list_getitem.lookup,ht.isList.typeIs,?_⟩
 refine wpAny_getItem_list_slice ht.isList hs pl pu .none (by simp) ?_ (by rw [List.size_toArray] <;> omega)
 rw [slicePick_cut,<- hlen]
 refine ⟨.ref s.heap.objs.size,_,I.laid (t':=s.toks) (o:=.lst (cutV xs lo hi)) (fun b ob q=>Heap.get?_push_of_some _ q) (Nat.le_refl _) ?_,rfl,q _ (I.hok.fresh (Nat.le_refl _))⟩
 exact ⟨Nat.le_trans (cutV_length xs lo hi) hz,_,0,(r.drop (HT.sIx xs.length 0 lo)).take (HT.sIx xs.length xs.length hi - HT.sIx xs.length 0 lo),Heap.get?_push_size _ rfl⟩
theorem call_len_seq:CallR X (.builtin "len") (fun xs H Q=>∃ p ys,xs=[.ref p]/\(SqL X.K H p ys \/ SqT X.K H p ys)/\Q (.int ys.length) H):=by
 intro pins s σ H xs us Q I r h
 obtain ⟨p,ys,rfl,hq,q⟩:=h
 obtain ⟨u,rfl,rx⟩:=vals1 r
 cases rx
 have hn:=line63
 rcases hq with hq | hq
 · obtain ⟨its, r', pl, hz⟩ := I.list hq
   have hlen:=r'.length
   exact Calls.call_len_list pl.isList (by simp only [List.size_toArray] <;> omega) ⟨.int ys.length,H,I.tok _,⟨s.toks+1,by rw [List.size_toArray,hlen]⟩,q⟩
 · obtain ⟨its, r', pl, hz⟩ := I.tuple hq
   have hlen:=r'.length
   exact len_tuple pl (by simp only [List.size_toArray] <;> omega) ⟨.int ys.length,H,I.tok _,⟨s.toks+1,by rw [List.size_toArray,hlen]⟩,q⟩
theorem call_len_str:CallR X (.builtin "len") (fun xs H Q=>∃ z,xs=[.str z]/\z.length<=sizeLine/\Q (.int z.length) H):=by
 intro pins s σ H xs us Q I r h
 obtain ⟨z,rfl,hz,q⟩:=h
 obtain ⟨u,rfl,t,rfl⟩:=vals1 r
 have hn:=line63
 exact len_str (by omega) ⟨.int z.length,H,I.tok _,⟨_,rfl⟩,q⟩
theorem CallR.or {f:Value} {r r':List V->Hp->VK->Prop} (h:CallR X f r) (h':CallR X f r'):CallR X f (fun xs H Q=>r xs H Q \/ r' xs H Q):=by
 intro pins s σ H xs us Q I rs q
 rcases q with q | q
 · exact h pins s σ H xs us Q I rs q
 · exact h' pins s σ H xs us Q I rs q
theorem call_list_of:CallR X (.type "list") (fun xs H Q=>∃ p ys,xs=[.ref p]/\(SqL X.K H p ys \/ SqT X.K H p ys)/\∀ l,H l=none->Q (.ref l) (upd H l (.lst ys))):=by
 intro pins s σ H xs us Q I r h
 obtain ⟨p,ys,rfl,hq,q⟩:=h
 obtain ⟨u,rfl,rx⟩:=vals1 r
 cases rx
 have fin:∀ (its:List Value),Vals ys its->ys.length<=sizeLine->∀ (h':Heap) (c':Nat),(∀ b o',s.heap.get? b=some o'->h'.get? b=some o') →
   h'.get? s.heap.objs.size=some { cls:=.type "list",dict:=none,data:=.seq its.toArray c',slots:=#[] }->EP X pins σ Q (.ref s.heap.objs.size) { s with heap:=h' }:=fun its r' hz h' c' kp e =>
  ⟨.ref s.heap.objs.size,_,I.laid (t':=s.toks) kp (Nat.le_refl _) (show ObjOk X.prog X.w _ h' _ (.lst ys) from ⟨hz,its,c',r',e⟩),rfl,q _ (I.hok.fresh (Nat.le_refl _))⟩
 rcases hq with hq | hq
 · obtain ⟨its, r', pl, hz⟩ := I.list hq
   have hlen:=r'.length
   obtain ⟨o,ho,hc,n,hd⟩:=pl.isList
   exact call_list_seq p (.inl rfl) ho hc hd (fun h' c' kp e=>fin its r' hz h' c' kp e) (by simp only [List.size_toArray] <;> omega)
 · obtain ⟨its, r', pl, hz⟩ := I.tuple hq
   have hlen:=r'.length
   obtain ⟨o,ho,hc,n,hd⟩:=pl
   exact call_list_seq p (.inr rfl) ho hc hd (fun h' c' kp e=>fin its r' hz h' c' kp e) (by simp only [List.size_toArray] <;> omega)
def tyV (K:PySem.W.Frag) (T:String) (x:V) (H:Hp):Prop:=match x with
 | .str _=>T = "str"
 | .int _=>T = "int"
 | .ref p=>(T = "list"/\∃ xs,SqL K H p xs) \/ (T = "tuple"/\∃ o,K.lookup p=some o/\o.cls = .type "tuple"/\o.dict=none) ∨
    (T = "dict"/\((∃ kvs,H p=some (.dK kvs)) \/ ∃ kvs,H p=some (.dT kvs))) \/ (T = "set"/\∃ S n,H p=some (.set S n))
 | _=>False
theorem tyV_is {pins:List (Addr×Obj)} {σ : St} {H:Hp} {s:Shared} {T:String} {x:V} {v:Value} (I:Inv X pins σ H s) (r:RelV x v) (ty:tyV X.K T x H) :
  s.TypeIs v T/\∀ a,v = .ref a->∃ ob,s.heap.get? a=some ob/\ob.dict=none:=by
 cases x with
 | str z =>
   obtain ⟨t,rfl⟩:=r
   cases (show T = "str" from ty)
   exact ⟨typeIs_str s z t,fun _ e=>nomatch e⟩
 | int i =>
   obtain ⟨t,rfl⟩:=r
   cases (show T = "int" from ty)
   exact ⟨typeIs_int s i t,fun _ e=>nomatch e⟩
 | ref p =>
   cases r
   rcases ty with ⟨rfl,xs,hq⟩ | ⟨rfl,o,hk,hc,hd⟩ | ⟨rfl,hk⟩ | ⟨rfl,S,n,hk⟩
   · obtain ⟨its, _, pl, _⟩ := I.list hq
     refine ⟨pl.isList.typeIs,fun a e=>?_⟩
     cases e
     obtain ⟨o,n,e,c,hd,_⟩:=pl
     exact ⟨o,e,hd⟩
   · refine ⟨⟨o, I.kIn p o hk, hc⟩, fun a e => ?_⟩
     cases e
     exact ⟨o,I.kIn _ o hk,hd⟩
   · have z:∃ o,s.heap.get? p=some o/\o.ExactDict:=by
      rcases hk with ⟨kvs,hk⟩ | ⟨kvs,hk⟩
      · obtain ⟨_, _, _, _, o, _, _, e, ex, _⟩ := I.hok p _ hk
        exact ⟨o,e,ex⟩
      · obtain ⟨_, _, _, _, o, _, _, e, ex, _⟩ := I.hok p _ hk
        exact ⟨o,e,ex⟩
     obtain ⟨o,e,ex⟩:=z
     refine ⟨⟨o,e,ex.1⟩,fun a e2=>?_⟩
     cases e2
     exact ⟨o,e,ex.2.1⟩
   · obtain ⟨o, _, _, _, e, ex, _⟩ := I.hok p _ hk
     refine ⟨⟨o,e,ex.1⟩,fun a e2=>?_⟩
     cases e2
     exact ⟨o,e,ex.2.1⟩
 | _=>exact False.elim ty
def tBM (K:PySem.W.Frag) (T:String) (r:V->List V->Hp->VK->Prop) (to:TE) (t:TA):TE:=fun σ H Q=>to σ H fun x H1=>tyV K T x H1/\t σ H1 fun xs H2=>r x xs H2 Q
variable {o e:Expr} {es:List Expr} {to:TE} {t:TA} {name:Str} {apos cpos:Pos} {T id:String} {r:V->List V->Hp->VK->Prop}
theorem pe_bm (pa:PlainAttrs T) (slot:Slot T name id) (hty:typeOf (.builtin id)=pure (.type "method_descriptor")) (hm:MtR X id r) (ho:PE X o to) (ha:PA X (e::es) t)
  (hbase:attributeBase o name X.env (eval o X.env)=eval o X.env:=by rfl)
  (hfew:((backTo cpos (starEach (e::es) X.env)).all (fun x=>!x.1) && (backToKw cpos (keywordEach [] X.env)).all (fun x=>x.1.isSome)
    && decide ((e::es).length+([]:List Keyword).length+(if ([]:List Keyword).isEmpty then 0 else 1) < 30))=true:=by rfl)
  (hline:(apos.endLine == cpos.line)=true:=by rfl) (hs:starEach (e::es) X.env=(false,eval e X.env)::starEach es X.env:=by rfl) (hplain:(backTo cpos (starEach es X.env)).any (·.1)=false:=by rfl) :
  PE X (.Call (.Attribute o name apos) (e::es) [] cpos) (tBM X.K T r to t):=by
 intro pins s σ H Q I h
 refine wpAny_Call_method_late hbase hfew hline rfl (thn (ho pins s σ H _ I h) fun v s1 ⟨x,H1,I1,r1,ty,q1⟩=>?_)
 obtain ⟨h1,h2⟩:=tyV_is I1 r1 ty
 refine ⟨T,id,pa,slot,hty,h1,h2,?_⟩
 have hA:=ha cpos pins s1 σ H1 _ I1 q1
 rw [hs] at hA ⊢
 refine Calls.callWith_builtin (by show (false || (backTo cpos (starEach es X.env)).any (·.1))=false; rw [hplain] <;> rfl) (Calls.evalArgs_plain ?_)
 exact thn hA fun us s2 ⟨vs,H2,I2,r2,q2⟩=>hm pins s2 σ H2 x vs v us Q I2 r1 r2 q2
/- xs.append(e),list.index on a module's tuple .. are MtR facts of 06m -/
end
end L2
namespace L2
open PySem PySem.Spec PyProof.Rows
def MtM (X:Cx) (id:String) (r:V->List V->Hp->VK->Prop):Prop :=
 ∀ (pins:List (Addr×Obj)) (s:Shared) (σ : St) (H:Hp) (x:V) (xs:List V) (v:Value) (us:List Value) (Q:VK),Inv X pins σ H s->RelV x v->Vals xs us->r x xs H Q →
  wpAny (model X.prog X.w) X.A (call (.builtin id) (v::us)) (EP X pins σ Q) X.xe s
theorem Vals.one:∀ {x:V} {us:List Value},Vals [x] us->∃ u,us=[u]/\RelV x u
 | _,_,.cons r .nil=>⟨_,rfl,r⟩
theorem Vals.two:∀ {x y:V} {us:List Value},Vals [x,y] us->∃ u v,us=[u,v]/\RelV x u/\RelV y v
 | _,_,_,.cons r (.cons q .nil)=>⟨_,_,rfl,r,q⟩
theorem Vals.reverse {xs:List V} {us:List Value} (h:Vals xs us):Vals xs.reverse us.reverse:=by
 induction h with
 | nil=>exact .nil
 | cons r t ih=>rw [List.reverse_cons,List.reverse_cons]; exact Vals.append ih (.cons r .nil)
section
variable {X:Cx} {pins:List (Addr×Obj)} {σ : St} {H:Hp} {s:Shared} {l b:Addr} {xs ys zs:List V}
theorem Inv.lset {its its':List Value} {n:Nat} {f:Array Value->Array Value} {t':Nat} (I:Inv X pins σ H s) (hH:H l=some (.lst xs))
  (e:s.heap.get? l=some { cls:=.type "list",data:=.seq its.toArray n }) (hf:f its.toArray=its'.toArray) (hv:Vals ys its') (hz:ys.length<=sizeLine) :
  Inv X pins σ (upd H l (.lst ys)) { s with heap:=s.heap.update l (Obj.mapSeq f),toks:=t' }:=by
 have q:=PySem.IsL.update e f
 rw [hf] at q
 refine I.write (x:=l) (e:=l) (by rw [hH]; exact trivial) (.inl rfl) (fun b' u hb hu=>(Heap.get?_update_other s.heap (Obj.mapSeq f) (Ne.symm hb)).trans hu) ⟨_,q⟩ ?_
 exact ⟨hz,its',_,hv,q⟩
theorem Inv.lnew {its:List Value} {t':Nat} (I:Inv X pins σ H s) (hv:Vals ys its) (hz:ys.length<=sizeLine) :
  Inv X pins σ (upd H s.heap.objs.size (.lst ys)) { s with heap:=s.heap.push { cls:=.type "list",data:=.seq its.toArray },toks:=t' } :=
 I.laid (fun _ _ q=>Heap.get?_push_of_some _ q) (Nat.le_refl _) ⟨hz,its,0,hv,Heap.get?_push_size _ rfl⟩
theorem Inv.fresh (I:Inv X pins σ H s):H s.heap.objs.size=none:=I.hok.fresh (Nat.le_refl _)
theorem Inv.lstM (I:Inv X pins σ H s) (hH:H l=some (.lst xs)):xs.length<=sizeLine/\∃ (its:List Value) (n:Nat),Vals xs its/\xs.length=its.length/\s.heap.get? l=some { cls:=.type "list",data:=.seq its.toArray n }:=by
 obtain ⟨z,its,n,r,e⟩:=I.hok l _ hH
 exact ⟨z,its,n,r,r.length,e⟩
theorem notLongL {n:Nat} (h:n<=sizeLine):Builtin.List.listTooLong n=false:=by
 unfold Builtin.List.listTooLong
 exact decide_eq_false (by omega)
end
section
variable {X:Cx}
def rAppend:V->List V->Hp->VK->Prop:=fun x vs H Q=>∃ l xs y,x = .ref l/\vs=[y]/\H l=some (.lst xs)/\xs.length < sizeLine/\Q .non (upd H l (.lst (xs++[y])))
theorem mt_append:MtM X "list.append" rAppend:=by
 intro pins s σ H x vs v us Q I rx rv h
 obtain ⟨l,xs,y,rfl,rfl,hH,hz,q⟩:=h
 cases rx
 obtain ⟨u,rfl,ru⟩:=rv.one
 obtain ⟨z,its,n,r,hl,e⟩:=I.lstM hH
 refine call_meets F.slot_list_append ⟨_,e,rfl⟩ F.entry_list_append (F.args_list_append_2 _ _) (PySem.list_append l its.toArray n u (by rw [List.size_toArray]; omega)) ⟨e,?_⟩
 refine ⟨.non,_,I.lset (its':=its++[u]) hH e (by simp) (r.append (.cons ru .nil)) ?_,rfl,q⟩
 rw [List.length_append,List.length_singleton]
 omega
def rExtend:V->List V->Hp->VK->Prop:=fun x vs H Q=>∃ l b xs zs,x = .ref l/\vs=[.ref b]/\H l=some (.lst xs)/\H b=some (.lst zs)/\xs.length+zs.length<=sizeLine/\Q .non (upd H l (.lst (xs++zs)))
theorem mt_extend:MtM X "list.extend" rExtend:=by
 intro pins s σ H x vs v us Q I rx rv h
 obtain ⟨l,b,xs,zs,rfl,rfl,hH,hB,hz,q⟩:=h
 cases rx
 obtain ⟨u,rfl,ru⟩:=rv.one
 cases ru
 obtain ⟨z,its,n,r,hl,e⟩:=I.lstM hH
 obtain ⟨z2,its2,n2,r2,hl2,e2⟩:=I.lstM hB
 have hsz:its.toArray.size+its2.toArray.size<=sizeLine:=by rw [List.size_toArray,List.size_toArray]; omega
 have hlong : ¬ (!its.toArray.isEmpty && Builtin.List.listTooLong (its.toArray.size+its2.toArray.size))=true:=by
  rw [notLongL hsz,Bool.and_false]
  exact Bool.false_ne_true
 refine call_meets F.slot_list_extend ⟨_,e,rfl⟩ F.entry_list_extend (F.args_list_extend_2 _ _)
  (AutoSeq1.list_extend_list_list_0 l its.toArray n b its2.toArray n2 hlong (by rw [List.size_toArray]; omega) (by omega)) ⟨e,e2,?_⟩
 refine ⟨.non,_,I.lset (its':=its++its2) hH e (by simp) (r.append r2) ?_,rfl,q⟩
 rw [List.length_append]
 omega
end
section
variable {prog:Program} {w:World} {A:Around} {E:Value->Shared->Prop} {s:Shared}
end
section
variable {X:Cx}
end
end L2
namespace L2
open PySem PySem.Spec PyProof.Rows
section
variable {κ : Type} [DecidableEq κ]
def valV (kvs:List (κ×V)) (k : κ):Option V:=(kvs.find? fun kv=>decide (kv.1=k)).map (·.2)
def putK (kvs:List (κ×V)) (k : κ) (v:V):List (κ×V) :=
 if (kvs.any fun kv=>decide (kv.1=k))=true then kvs.map (fun kv=>if kv.1=k then (kv.1,v) else kv) else kvs++[(k,v)]
def dropK (kvs:List (κ×V)) (k : κ):List (κ×V):=kvs.filter fun kv=>decide (kv.1≠k)
theorem valV_pos {p : κ×V} {r:List (κ×V)} {k : κ} (e:p.1=k):valV (p::r) k=some p.2:=by simp [valV,List.find?_cons,e]
theorem valV_neg {p : κ×V} {r:List (κ×V)} {k : κ} (e : ¬ p.1=k):valV (p::r) k=valV r k:=by simp [valV,List.find?_cons,e]
theorem RelO.getD {o:Option V} {u:Option Value} {d:V} {d':Value} (r:RelO o u) (rd:RelV d d'):RelV (o.getD d) (u.getD d'):=by
 cases o with
 | none => cases u with
   | none=>exact rd
   | some _=>exact (show False from r).elim
 | some _ => cases u with
   | none=>exact (show False from r).elim
   | some _=>exact r
theorem KV.val {kvs:List (κ×V)} {vs:List (κ×Value)} (r:KV kvs vs) (k : κ):RelO (valV kvs k) (valueAt vs k):=by
 unfold KV at r
 induction r with
 | nil=>exact True.intro
 | @cons p q ps qs h t ih =>
   obtain ⟨h1,h2⟩:=h
   by_cases e:p.1=k
   · have e' : q.1 = k := h1.symm.trans e
     have b:valueAt (q::qs) k=some q.2:=by simp [valueAt,List.find?_cons,e']
     rw [valV_pos e,b]; exact h2
   · have e' : ¬ q.1 = k := fun z => e (h1.trans z)
     have b:valueAt (q::qs) k=valueAt qs k:=by simp [valueAt,List.find?_cons,e']
     rw [valV_neg e,b]; exact ih
theorem KV.any {kvs:List (κ×V)} {vs:List (κ×Value)} (r:KV kvs vs) (k : κ):(kvs.any fun kv=>decide (kv.1=k))=vs.any fun kv=>decide (kv.1=k):=by
 unfold KV at r
 induction r with
 | nil=>rfl
 | cons h t ih=>rw [List.any_cons,List.any_cons,ih,h.1]
theorem KV.drop {kvs:List (κ×V)} {vs:List (κ×Value)} (r:KV kvs vs) (k : κ):KV (dropK kvs k) (without vs k):=by
 unfold KV at r ⊢
 unfold dropK without
 induction r with
 | nil=>exact .nil
 | @cons p q ps qs h t ih =>
   obtain ⟨h1,h2⟩:=h
   rw [List.filter_cons,List.filter_cons]
   by_cases e:p.1=k
   · have a : ¬ decide (p.1 ≠ k) = true := by simp [e]
     have b : ¬ decide (q.1≠k)=true:=by simp [h1.symm.trans e]
     rw [if_neg a,if_neg b]; exact ih
   · have e' : ¬ q.1 = k := fun z => e (h1.trans z)
     have a:decide (p.1≠k)=true:=by simp [e]
     have b:decide (q.1≠k)=true:=by simp [e']
     rw [if_pos a,if_pos b]; exact .cons ⟨h1,h2⟩ ih
theorem KV.length {kvs:List (κ×V)} {vs:List (κ×Value)} (r:KV kvs vs):kvs.length=vs.length:=Paired.length r
end
abbrev KT (H:Hp):List (List Key×V)->List (List Key×Addr×Value)->Prop:=Paired fun p q=>p.1=q.1/\H q.2.1=some (.tup (p.1.map kV))/\RelV p.2 q.2.2
theorem KT.val {H:Hp} {kvs:List (List Key×V)} {xs:List (List Key×Addr×Value)} (r:KT H kvs xs) (k:List Key):RelO (valV kvs k) ((atKey xs k).map (·.2)):=by
 induction r with
 | nil=>exact True.intro
 | @cons p q ps qs h t ih =>
   obtain ⟨h1,_,h2⟩:=h
   by_cases e:p.1=k
   · have e' : q.1 = k := h1.symm.trans e
     have b:atKey (q::qs) k=some q.2:=by simp [atKey,List.find?_cons,e']
     rw [valV_pos e,b]; exact h2
   · have e' : ¬ q.1 = k := fun z => e (h1.trans z)
     have b:atKey (q::qs) k=atKey qs k:=by simp [atKey,List.find?_cons,e']
     rw [valV_neg e,b]; exact ih
section
variable {P:Program} {w:World} {H:Hp} {h:Heap} {a:Addr}
end
def DGet (H:Hp) (a:Addr) (y:V) (r:Option V):Prop :=
 (∃ kvs k,Rd H a (.dK kvs)/\y=kV k/\r=valV kvs k) \/ ∃ kvs k b,Rd H a (.dT kvs)/\y = .ref b/\H b=some (.tup (k.map kV))/\r=valV kvs k
def DPut (H:Hp) (a:Addr) (y v:V) (H':Hp):Prop :=
 (∃ kvs k,H a=some (.dK kvs)/\y=kV k/\kvs.length < sizeLine/\H'=upd H a (.dK (putK kvs k v))) ∨
 ∃ kvs k b,H a=some (.dT kvs)/\y = .ref b/\H b=some (.tup (k.map kV))/\kvs.length < sizeLine/\H'=upd H a (.dT (putK kvs k v))
theorem DGet.t {H:Hp} {a b:Addr} {kvs:List (List Key×V)} {k:List Key} (e:H a=some (.dT kvs)) (eb:H b=some (.tup (k.map kV))):DGet H a (.ref b) (valV kvs k):=.inr ⟨kvs,k,b,.inl e,rfl,eb,rfl⟩
theorem DPut.t {H:Hp} {a b:Addr} {kvs:List (List Key×V)} {k:List Key} {v:V} (e:H a=some (.dT kvs)) (eb:H b=some (.tup (k.map kV))) (hl:kvs.length < sizeLine) :
  DPut H a (.ref b) v (upd H a (.dT (putK kvs k v))):=.inr ⟨kvs,k,b,e,rfl,eb,hl,rfl⟩
section
variable {X:Cx} {pins:List (Addr×Obj)} {σ : St} {H:Hp} {s:Shared} {a:Addr} {y v:V} {u r:Value} {o:Option V} {A:Around} {E:Value->Shared->Prop}
end
section
variable {X:Cx} {pins:List (Addr×Obj)} {σ : St} {H:Hp} {s:Shared} {a:Addr} {kvs:List (Key×V)} {k:Key} {u:Value} {A:Around} {E:Value->Shared->Prop}
end
section
variable {X:Cx} {o i e value:Expr} {pos pos' tpos:Pos} {td ty tv:TE}
end
section
variable {X:Cx} {pos:Pos}
end
section
variable {X:Cx} {pins:List (Addr×Obj)} {σ : St} {H:Hp} {s:Shared} {a:Addr} {y d:V} {u r:Value} {o:Option V} {A:Around} {E:Value->Shared->Prop}
end
section
variable {X:Cx} {o e f:Expr} {apos cpos:Pos} {td ty tx:TE}
end
section
variable {X:Cx} {pins:List (Addr×Obj)} {σ : St} {H:Hp} {s:Shared} {a:Addr} {kvs:List (Key×V)} {A:Around} {E:Value->Shared->Prop}
end
section
variable {X:Cx} {pins:List (Addr×Obj)} {σ : St} {H:Hp} {s:Shared} {a:Addr} {y:V} {u:Value} {A:Around} {E:Value->Shared->Prop}
end
end L2
namespace Att
open PySem PySem.W PySem.Calls PyProof.Rows
theorem ints_of_wellAll {P:Params} {h:Heap} : ∀ (ns:List Int) (vs:List Value),WellAll P h vs (ns.map WData.int)->IntsAre vs ns:=by
 intro ns
 induction ns with
 | nil =>
   intro vs w
   rw [List.map_nil] at w
   cases w
   exact .nil
 | cons n ns ih =>
   intro vs w
   rw [List.map_cons] at w
   cases w with
   | cons a b =>
     cases a
     exact .cons _ _ (ih _ b)
theorem script_of {l:OpenLaw} {n:Nat} (hn:l.most=some n) {P:Params} {h:Heap} {args:List WData} {vals:List Value}
  (hpre:l.row.toRowW.claim.pre args=true) (hwl:WellAll P h vals args) :
  ∃ a vs ns,vals=[Value.ref a]/\args=[WData.list (ns.map WData.int)]/\h.get? a=some { cls:=.type "list",data:=.seq vs.toArray }/\IntsAre vs ns/\ns.length<=n:=by
 have hsh:WShape.hasAll [] args [.list .int]=true:=(pre_splitW hpre).1
 have hc:l.pre.holds [] { args:=args } = true:=(pre_splitW hpre).2
 obtain ⟨d,r,rfl,h1,h2⟩:=hasAllW_cons hsh
 obtain rfl:=hasAllW_nil h2
 obtain ⟨xs,rfl,h3⟩:=hasW_list h1
 obtain ⟨ns,rfl⟩:=items_int h3
 have hlen:ns.length<=n:=by
  unfold OpenLaw.pre at hc
  have h4:(WTm.not (.lt (.lit (.int (n:Int))) (.len (.arg 0)))).holds [] { args:=[.list (ns.map .int)] } = true:=by
   have h4:=(holds_andW hc).1
   rw [hn] at h4
   exact h4
  have h5:=condW_of h4 (w_not (w_lt w_lit (w_len_list (w_arg rfl))))
  rw [List.length_map] at h5
  refine Nat.le_of_not_lt fun q=>?_
  have q':(n:Int) < ((ns.length:Nat):Int):=by omega
  first
   | (rw [decide_eq_true q'] at h5; exact absurd h5 (by decide))
   | (simp at h5; omega)
 cases hwl with
 | cons w1 w2 =>
   cases w2
   cases w1 with
   | list ho hall=>exact ⟨_,_,ns,rfl,rfl,ho,ints_of_wellAll ns _ hall,hlen⟩
theorem post_true (l:OpenLaw) (args:List WData):l.row.toRowW.claim.post args (.bool true) args=true :=
 postW_of (r:=l.row.toRowW) (X:=(true == true))
  (show WShape.has [] (.bool true) .bool=true by first | rfl | decide | simp [WShape.has,WShape.arms,WShape.armsAll])
  (show (WTm.eq .res (.lit (.bool true))).value [] { args:=args,res:=some (.bool true),after:=args } = some (.bool (true == true)) from w_eq_bool (w_res rfl) w_lit) rfl
section
variable {prog:Program} {w:World} {A:Around} {E:Value->Shared->Prop} {s:Shared} {K:Frag}
end
end Att
namespace L2
open PySem PySem.Spec PyProof.Rows
theorem vals_ints:∀ {vs:List Value} {ns:List Int},IntsAre vs ns->Vals (ns.map V.int) vs
 | _,_,.nil=>.nil
 | _,_,.cons n t h=>.cons ⟨t,rfl⟩ (vals_ints h)
end L2
namespace L2
open PySem PySem.Spec PyProof.Rows
def qC (s:Stmt):Arguments:=match s with
 | .FunctionDef _ a _ _ _ _ _ _ _ _=>a
 | _=>{ posonlyargs:=[],args:=[],vararg:=none,kwonlyargs:=[],kw_defaults:=[],kwarg:=none,defaults:=[] }
def zL (s:Stmt):List Stmt:=match s with
 | .FunctionDef _ _ b _ _ _ _ _ _ _=>b
 | _=>[]
def zB (s:Stmt):Scope:=match s with
 | .FunctionDef _ _ _ _ _ _ sc _ _ _=>sc
 | _=>{ kind:=.function,names:=[],isGenerator:=false,isCoroutine:=false }
abbrev CX0:CXT:=fun _ _ _ _ _ _=>False
abbrev E0:XK:=fun _ _ _=>False
theorem pass0 {X:Cx} : Passes CX0 X E0:=fun _ _ _ _ _ _ _ h=>h.elim
structure Fun (K:PySem.W.Frag) (x qual:Str) (st:Stmt) (f:Addr) (fd:FuncData):Prop where
 ex:∃ (oc:Value) (od:Option Addr) (kV doc pm:Value) (an:Option Addr) (cdv ct:Value) (osl:Array (Option Value)),
  fd=PySem.W.fnOf x qual (qC st) (zL st) (zB st) .none kV doc pm an cdv ct/\K.lookup f=some ⟨oc,od,.func fd,osl⟩/\PySem.W.codeIn K cdv qual=true
 kp:PySem.W.keepIn K (.ref f)=true
section
variable {P:Program} {w:World} {K:PySem.W.Frag} {mg:Str->Option Value} {base:Heap}
theorem Fun.ok {x qual:Str} {st:Stmt} {f:Addr} {fd:FuncData} {N ps:List Str} {k:Nat} {sp:Sp} (F:Fun K x qual st f fd) (S:FnScope N ps (zB st)) (len:∀ vs H Q E,sp vs H Q E->vs.length=ps.length)
  (hbody:∀ (cdv:Value) (A:Around) (outer:List Env) (s:Shared) (H:Hp) (vs:List V) (Q:VK) (E:XK),Room k (A.deeper (envOfC qual (zB st) s.heap.objs.size f cdv))->sp vs H Q E →
    ∃ t,PSs (cxOf CX0 P w K mg base N qual (zB st) f cdv A outer s H E).nox (zL st) t/\t { nx:=fun _ H'=>Q .non H',rt:=Q } (start N vs) H):FnOk P w K mg base CX0 (k+1) f fd ps sp:=by
 obtain ⟨oc,od,kV,doc,pm,an,cdv,ct,osl,rfl,lk,hcd⟩:=F.ex
 refine fn_of lk hcd S len fun A outer s H vs Q E hr hsp=>?_
 obtain ⟨t,h,q⟩:=hbody cdv A outer s H vs Q E hr hsp
 exact ⟨t,h.nox,q⟩
theorem Fun.binds {x qual:Str} {st:Stmt} {f:Addr} {fd:FuncData} {ps:List Str} (F:Fun K x qual st f fd)
  (h:∀ (kV doc pm:Value) (an:Option Addr) (cdv ct:Value) (us:List Value),us.length=ps.length->bindArgs (PySem.W.fnOf x qual (qC st) (zL st) (zB st) .none kV doc pm an cdv ct) ⟨us,[]⟩=pure (ps.zip us)):Binds K fd ps []:=by
 obtain ⟨oc,od,kV,doc,pm,an,cdv,ct,osl,rfl,lk,hcd⟩:=F.ex
 exact .all (h kV doc pm an cdv ct)
theorem qW {x qual:Str} {st:Stmt} {f:Addr} {oc:Value} {od an:Option Addr} {osl:Array (Option Value)} {kV doc pm cdv ct:Value} (l:K.lookup f=some ⟨oc,od,.func (PySem.W.fnOf x qual (qC st) (zL st) (zB st) .none kV doc pm an cdv ct),osl⟩)
  (c:PySem.W.codeIn K cdv qual=true) (k:PySem.W.keepIn K (.ref f)=true):Fun K x qual st f (PySem.W.fnOf x qual (qC st) (zL st) (zB st) .none kV doc pm an cdv ct):=⟨⟨oc,od,kV,doc,pm,an,cdv,ct,osl,rfl,l,c⟩,k⟩
end
section
variable {X:Cx}
end
theorem iteF {A B:Prop} (h:B):if false=true then A else B:=by
 rw [if_neg Bool.false_ne_true]
 exact h
theorem iteT {A B:Prop} (h:A):if true=true then A else B:=by
 rw [if_pos rfl]
 exact h
def Same (H H':Hp):Prop:=∀ b o,H b=some o->H' b=some o
theorem Same.refl (H:Hp):Same H H:=fun _ _ h=>h
theorem Same.trans {H H1 H2:Hp} (a:Same H H1) (b:Same H1 H2):Same H H2:=fun c o h=>b c o (a c o h)
theorem Same.free {H H':Hp} (e:Same H H') {l:Addr} (h:H' l=Option.none):H l=Option.none:=by
 cases q:H l with
 | none=>rfl
 | some o =>
   rw [e l o q] at h
   cases h
end L2
namespace L2
open PySem PySem.Spec PyProof.Rows
section
variable {X:Cx}
end
section
variable {κ : Type} [DecidableEq κ]
end
end L2
namespace L2
open PySem PySem.Spec PyProof.Rows
def wB (env:Env):List (Str×NameKind)->List (Str×Addr)->List (Str×Addr)
 | [],cs=>cs
 | (n,k)::r,cs=>wB env r (if k == NameKind.free then (match env.cells.lookup n with | some c=>(n,c)::cs | none=>cs) else cs)
theorem closureFor_of {scope:Scope} {env:Env} (h:∀ y∈scope.names,y.2=NameKind.free->∃ c,env.cells.lookup y.1=some c):closureFor scope env=pure (wB env scope.names []):=by
 simp only [closureFor]
 generalize ([]:List (Str×Addr))=cs
 revert h cs
 generalize scope.names=l
 intro h
 induction l with
 | nil=>intro cs; rfl
 | cons y r ih =>
   intro cs
   obtain ⟨n,k⟩:=y
   have ihr:=ih fun z hz=>h z (List.mem_cons_of_mem _ hz)
   simp only [List.forIn_cons,wB]
   by_cases hk:k=NameKind.free
   · obtain ⟨c, hc⟩ := h (n, k) List.mem_cons_self hk
     have hc':env.cells.lookup n=some c:=hc
     have hcell:cellOf env n=pure c:=by unfold cellOf; rw [hc']
     subst hk
     simp only [hcell,hc',beq_self_eq_true,if_true,pure_bind,bind_pure_comp,map_pure,bind_assoc]
     first
      | exact ihr _
      | simpa using ihr _
   · have hb : (k == NameKind.free) = false := by simpa using hk
     simp only [hb,Bool.false_eq_true,if_false,pure_bind]
     first
      | exact ihr _
      | simpa using ihr _
theorem closL_from {env:Env} : ∀ (l:List (Str×NameKind)) (cs:List (Str×Addr)),(∀ x c,cs.lookup x=some c->env.cells.lookup x=some c)->∀ x c,(wB env l cs).lookup x=some c->env.cells.lookup x=some c
 | [],_,h=>h
 | (n, k) :: r, cs, h => by
   unfold wB
   refine closL_from r _ fun x c e=>?_
   split at e
   · cases hc : env.cells.lookup n with
     | none=>rw [hc] at e; exact h x c e
     | some c' =>
       rw [hc] at e
       simp only [List.lookup_cons] at e
       by_cases hx:x == n
       · rw [hx] at e
         cases e
         rw [beq_iff_eq] at hx
         rw [hx]
         exact hc
       · have hx' : (x == n) = false := by simpa using hx
         rw [hx'] at e
         exact h x c e
   · exact h x c e
theorem closL_keep {env:Env} : ∀ (l:List (Str×NameKind)) (cs:List (Str×Addr)) (x:Str),(∃ c,cs.lookup x=some c)->∃ c,(wB env l cs).lookup x=some c
 | [],_,_,h=>h
 | (n, k) :: r, cs, x, h => by
   unfold wB
   refine closL_keep r _ x ?_
   split
   · cases hc : env.cells.lookup n with
     | none=>exact h
     | some c' =>
       simp only [List.lookup_cons]
       by_cases hx:x == n
       · rw [hx]; exact ⟨_,rfl⟩
       · have hx' : (x == n) = false := by simpa using hx
         rw [hx']; exact h
   · exact h
theorem wN {env:Env} : ∀ (l:List (Str×NameKind)) (cs:List (Str×Addr)) (x:Str) (c:Addr),(x,NameKind.free)∈l->env.cells.lookup x=some c->∃ c,(wB env l cs).lookup x=some c
 | [],_,_,_,h,_=>nomatch h
 | (n, k) :: r, cs, x, c, h, hc => by
   unfold wB
   rcases List.mem_cons.mp h with e | e
   · cases e
     refine closL_keep r _ _ ?_
     simp only [beq_self_eq_true,if_true,hc,List.lookup_cons]
     exact ⟨_,rfl⟩
   · exact wN r _ x c e hc
theorem lookup_relabel_free {env:Env} : ∀ {names:List (Str×NameKind)} {x:Str},names.lookup x=some NameKind.free →
  (names.map fun (n,k)=>if (k == NameKind.free && env.scope.kind == .function && env.kindOf n == some .cell) then (n,NameKind.cell) else (n,k)).lookup x=some NameKind.cell ∨
  (names.map fun (n,k)=>if (k == NameKind.free && env.scope.kind == .function && env.kindOf n == some .cell) then (n,NameKind.cell) else (n,k)).lookup x=some NameKind.free
 | [],_,h=>by simp at h
 | (n, k) :: r, x, h => by
   have ih:=@lookup_relabel_free env r x
   simp only [List.map_cons]
   cases hx:x == n with
   | true =>
     simp only [List.lookup_cons,hx] at h
     cases h
     by_cases hc:(NameKind.free == NameKind.free && env.scope.kind == .function && env.kindOf n == some .cell)=true
     · rw [if_pos hc]; left; simp only [List.lookup_cons,hx]
     · rw [if_neg hc]; right; simp only [List.lookup_cons,hx]
   | false =>
     simp only [List.lookup_cons,hx] at h
     by_cases hc:(k == NameKind.free && env.scope.kind == .function && env.kindOf n == some .cell)=true
     · rw [if_pos hc]; simp only [List.lookup_cons,hx]; exact ih h
     · rw [if_neg hc]; simp only [List.lookup_cons,hx]; exact ih h
theorem xU {env:Env} : ∀ {names:List (Str×NameKind)} {x:Str} {k':NameKind},(∀ y∈names,y.2≠NameKind.cell) →
  (names.map fun (n,k)=>if (k == NameKind.free && env.scope.kind == .function && env.kindOf n == some .cell) then (n,NameKind.cell) else (n,k)).lookup x=some k'->(k'=NameKind.cell \/ k'=NameKind.free)->(x,NameKind.free)∈names
 | [],_,_,_,h,_=>by simp at h
 | (n, k) :: r, x, k', hn, h, hk => by
   have ih:=@xU env r x k' fun y hy=>hn y (List.mem_cons_of_mem _ hy)
   simp only [List.map_cons] at h
   cases hx:x == n with
   | true =>
     have ex:x=n:=by simpa using hx
     by_cases hc:(k == NameKind.free && env.scope.kind == .function && env.kindOf n == some .cell)=true
     · have:k=NameKind.free:=by
        simp only [Bool.and_eq_true,beq_iff_eq] at hc
        exact hc.1.1
       subst this; subst ex
       exact List.mem_cons_self
     · rw [if_neg hc] at h
       simp only [List.lookup_cons,hx] at h
       cases h
       rcases hk with hk | hk
       · exact absurd hk (hn (n,k) List.mem_cons_self)
       · subst hk; subst ex; exact List.mem_cons_self
   | false =>
     by_cases hc:(k == NameKind.free && env.scope.kind == .function && env.kindOf n == some .cell)=true
     · rw [if_pos hc] at h; simp only [List.lookup_cons,hx] at h; exact List.mem_cons_of_mem _ (ih h hk)
     · rw [if_neg hc] at h; simp only [List.lookup_cons,hx] at h; exact List.mem_cons_of_mem _ (ih h hk)
section
variable {X:Cx}
structure CI where
 C:Addr
 s:Shared
 H:Hp
 ex:List Addr
def yJ (X:Cx) (scope:Scope) (NY:List Str) (c:CI):Cx where
 prog:=X.prog
 w:=X.w
 K:=X.K
 mg:=X.mg
 base:=X.base
 A:=X.A
 N:=NY
 s₀:=c.s
 H₀:=c.H
 env:=compEnvC scope (wB X.env scope.names []) c.C X.env
 outer:=X.stack
 stack:=X.stack
 ex:=c.ex
 fn:=fun _=>false
 calm:=X.calm
 pn:=[]
 xe:=fun _ _=>False
theorem Inv.adopt {pins:List (Addr×Obj)} {σ : St} {H:Hp} {s:Shared} {a:Addr} {o:HO} (I:Inv X pins σ H s) (hn:H a=none) (young:X.s₀.heap.objs.size<=a) (hL:a≠X.env.locals)
  (hc:∀ x c,X.env.cells.lookup x=some c->c≠a) (hp:∀ p∈X.pn++pins,p.1≠a) (new:ObjOk X.prog X.w (upd H a o) s.heap a o):Inv X pins σ (upd H a o) s:=by
 have ne:∀ {b:Addr} {u:HO},H b=some u->b≠a:=fun e z=>by rw [z,hn] at e; cases e
 refine ⟨I.ok,I.os,I.bare,⟨I.base.keep,I.base.slot,fun b ob q n hx=>?_,I.base.there,fun b xs q=>?_,fun b ob u q=>?_,fun b ps q=>?_⟩,I.loc,I.cell,?_,fun x c e=>?_,fun p hpm=>?_,fun b u e=>?_,I.len⟩
 · rw [zS (Nat.ne_of_lt (Nat.lt_of_lt_of_le (Heap.lt_size q) young))]
   exact I.base.free b ob q n hx
 · have := I.base.tups b xs q
   rw [zS (ne this)]; exact this
 · have := I.base.frzs b ob u q
   rw [zS (ne this)]; exact this
 · have := I.base.tbls b ps q
   rw [zS (ne this)]; exact this
 · rw [zS (Ne.symm hL)]; exact I.free
 · have := I.freeC x c e
   unfold FreeC at this ⊢
   rw [zS (hc x c e)]; exact this
 · obtain ⟨h1, h2, h3⟩ := I.pin p hpm
   exact ⟨h1,by rw [zS (hp p hpm)]; exact h2,h3⟩
 · by_cases hb : b = a
   · subst hb; rw [qG] at e; cases e; exact new
   · rw [zS hb] at e
     exact (I.hok b u e).stay (fun c v _ q=>q) (fun c q=>by rw [zS (ne q)]; exact q) fun c xs q=>by rw [zS (ne q)]; exact q
def PF (X:Cx) (ifs:List Expr) (t:TT):Prop :=
 ∀ (pins:List (Addr×Obj)) (s:Shared) (σ : St) (H:Hp) (Q:Bool->Hp->Prop),Inv X pins σ H s->t σ H Q →
  wpAny (model X.prog X.w) X.A (forIn ifs true fun c r=>if r=true then do let ok <- isTrue c X.env (eval c X.env); pure (ForInStep.yield ok) else pure (ForInStep.yield r)) (TP X pins σ Q) X.xe s
def tNoIf:TT:=fun _ H Q=>Q true H
theorem pf_nil:PF X [] tNoIf:=fun _ _ _ H _ I h=>wpAny_tests_nil ⟨H,I,h⟩
theorem pf_one {c:Expr} {t:TT} (h:PT X c t):PF X [c] t:=fun pins s σ H Q I q=>wpAny_tests_one (h pins s σ H Q I q)
def slotsY (mp:List (Option Nat)) (σ : St):St:=mp.map fun o=>o.bind fun j=>σ[j]?.join
def tCompK (J:It) (mp:List (Option Nat)) (g:CI->TG) (tt:CI->TT) (te:CI->TE) (σ : St) (H1:Hp) (R:List V->Hp->Prop):Prop :=
 ∀ c:CI,∃ W:Nat->Nat->List V->Hp->Prop,(∃ m,W 0 m [] H1)/\∀ i m ys H,W i m ys H →
  (J.stop i H/\R ys H) ∨
  (J.go i H/\ys.length < sizeLine/\∀ x H',J.yld i H x H'->g c x (slotsY mp σ) H' fun σ2 H2=>tt c σ2 H2 fun b H3 =>
    if b=true then te c σ2 H3 fun y H4=>∃ m',m' < m/\W (i+1) m' (ys++[y]) H4 else ∃ m',m' < m/\W (i+1) m' ys H3)
def tComp (wi:TI) (mp:List (Option Nat)) (g:CI->TG) (tt:CI->TT) (te:CI->TE):TE:=fun σ H Q=>wi σ H fun J H1 =>
 tCompK J mp g tt te σ H1 fun ys H'=>ys.length<=sizeLine/\∀ p,H' p=none->Q (.ref p) (upd H' p (.lst ys))
structure CompScope (X:Cx) (scope:Scope) (NY:List Str) (mp:List (Option Nat)):Prop where
 kind:scope.kind = .function
 nocell:∀ y∈scope.names,y.2≠.cell
 names:∀ y∈scope.names,y.2 = .local->scope.names.lookup y.1=some .local
 free:∀ y∈scope.names,y.2 = .free->(X.env.kindOf y.1=some .cell \/ X.env.kindOf y.1=some .free)
 len:mp.length=NY.length
 map:∀ (i:Nat) (x:Str) (j:Nat),NY[i]? = some x->mp[i]? = some (some j)->X.N[j]? = some x/\scope.names.lookup x=some .free
theorem compLoop_own {prog:Program} {w:World} {A:Around} {R:Result->Shared->Prop} {s:Shared} {elt target iter:Expr} {ifs:List Expr} {scope:Scope} {pos:Pos} {it acc:Value} {env:Env} (I:Nat->Shared->Prop)
  (turn:∀ n s,I n s->wpAny (model prog w) A (pyNext it) (fun r s₁=>match r with
    | none=>R (.ok .next) s₁
    | some v=>wpAny (model prog w) A (letOwnedTupleGo target it v) (fun _ s₁'=>wpAny (model prog w) A (assign target env v) (fun _ s₂ =>
       wpAny (model prog w) A (forIn ifs true fun c r=>if r=true then do let ok <- isTrue c env (eval c env); pure (ForInStep.yield ok) else pure (ForInStep.yield r)) (fun ok s₃ =>
        if ok=true then wpAny (model prog w) A (eval elt env) (fun x s₄ =>
         wpAny (model prog w) A (call (.builtin "list.append") [acc,x]) (fun _ s₅=>∃ m,m < n/\I m s₅) (fun _ _=>False) s₄) (fun _ _=>False) s₃
        else ∃ m,m < n/\I m s₃) (fun _ _=>False) s₂) (fun _ _=>False) s₁') (fun _ _=>False) s₁) (fun _ _=>False) s)
  (n:Nat) (h:I n s) :
  codeAny (model prog w) A (.compLoop (.ListComp elt [⟨target,iter,ifs,0⟩] scope pos) 0 it acc env) R s:=by
 refine codeAny_loop rfl I (fun n s hI=>?_) n h
 show wpAny _ A ((compTurn (.ListComp elt [⟨target,iter,ifs,0⟩] scope pos) 0 it acc env).onRaise (fun x=>do noteFrame x env; theTreesLotGoes x)) _ _ s
 refine wpAny_noted ?_
 rw [compTurn_list]
 refine wpAny_bind (wpAny_standAt (wpAny_bind (wpAny_mono (turn n s hI) (fun r s₁ h₁=>?_) fun _ _ h'=>h'.elim)))
 cases r with
 | none=>exact wpAny_pure h₁
 | some v =>
   refine wpAny_bind (wpAny_mono h₁ (fun _ s₁' h₁'=>?_) fun _ _ h'=>h'.elim)
   refine wpAny_bind (wpAny_mono h₁' (fun _ s₂ h₂=>wpAny_bind (wpAny_mono h₂ (fun ok s₃ h₃=>?_) fun _ _ h'=>h'.elim)) fun _ _ h'=>h'.elim)
   cases ok with
   | false=>exact wpAny_pure ⟨rfl,h₃⟩
   | true =>
     exact wpAny_bind (wpAny_bind (wpAny_mono h₃ (fun x s₄ h₄=>wpAny_bind (wpAny_mono h₄ (fun _ s₅ h₅=>wpAny_pure (wpAny_pure ⟨rfl,h₅⟩)) fun _ _ h'=>h'.elim)) fun _ _ h'=>h'.elim))
theorem comp_block {E:Value->Shared->Prop} {scope:Scope} {NY:List Str} {mp:List (Option Nat)} {tg iter elt:Expr} {ifs:List Expr} {pos:Pos} {g:CI->TG} {tt:CI->TT} {te:CI->TE} {pins:List (Addr×Obj)} {σ : St} {H:Hp} {s₂ : Shared}
  {J:It} {fp:List Addr} {it:Addr} {tn:Nat->Heap->Prop} {R:List V->Hp->Prop} {RR:Value->Addr->Result->Shared->Prop}
  (S:CompScope X scope NY mp) (hc:X.calm=true) (I:Inv X pins σ H s₂) (T:Turn X.prog X.w X.K tg J fp it tn) (st:tn 0 s₂.heap) (hf:∀ b∈fp,FpOk X pins H b)
  (hg:∀ c,PG (yJ X scope NY c) tg (g c)) (ht:∀ c,PF (yJ X scope NY c) ifs (tt c)) (he:∀ c,PE (yJ X scope NY c) elt (te c))
  (h:tCompK J mp g tt te σ H R)
  (fin:∀ (s':Shared) (C:Addr) (m:Str->Option Value) (ys:List V) (H':Hp),R ys H'->H' s₂.heap.objs.size=none->H' C=none->C≠s₂.heap.objs.size->s'.heap.Ns C m →
    (ys.length<=sizeLine->Inv X pins σ (upd H' s₂.heap.objs.size (.lst ys)) s') →
    (C≠X.env.locals/\X.s₀.heap.objs.size<=C/\(∀ x c,X.env.cells.lookup x=some c->c≠C)/\∀ p∈X.pn++pins,p.1≠C)->RR (.ref s₂.heap.objs.size) C (.ok .next) s') :
  wpAny (model X.prog X.w) X.A (newList []) (fun acc s₃=>wpAny (model X.prog X.w) X.A (newFunctionEnv scope X.env.globals (wB X.env scope.names []) [] X.env.qual none .none (some X.env)) (fun cenv s₄ =>
   codeAny (model X.prog X.w) X.A (.compStart (.ListComp elt [⟨tg,iter,ifs,0⟩] scope pos) 0 (.ref it) acc { cenv with scope:=relabel scope X.env }) (RR acc cenv.locals) s₄) E s₃) E s₂:=by
 refine wpAny_newObj_type (wpAny_newFunctionEnv S.nocell (by intro y hy; simp at hy) (fun h₁ hns₁ hsb₁=>?_) S.kind)
 dsimp only at hns₁ hsb₁ ⊢
 generalize hH2:s₂.heap.push { cls:=.type "list",dict:=none,data:=.seq ([]:List Value).toArray } = H2 at hns₁ hsb₁ ⊢
 have hC:(H2.objs.size:Nat)=s₂.heap.objs.size+1:=by rw [<- hH2,Heap.size_push]
 generalize hDd:s₂.heap.objs.size=D at fin hC ⊢
 generalize hCC:H2.objs.size=C at hns₁ hsb₁ hC ⊢
 have hC:(C:Nat)=(D:Nat)+1:=hC
 have hDC:D≠C:=fun z=>absurd (z.trans hC) (Nat.ne_of_lt (Nat.lt_succ_self _))
 have ltC:∀ {b:Addr},b < D->b≠C:=fun {b} h=>Nat.ne_of_lt (Nat.lt_of_lt_of_eq (Nat.lt_succ_of_lt h) hC.symm)
 have ltD:∀ {b:Addr},b < D->b≠D:=fun {b} h=>Nat.ne_of_lt h
 have hlt:∀ {b:Addr} {o:Obj},s₂.heap.get? b=some o->(b:Nat) < D:=fun e=>hDd ▸ Heap.lt_size e
 have k2:∀ b o,s₂.heap.get? b=some o->H2.get? b=some o:=fun b o e=>hH2 ▸ Heap.get?_push_of_some _ e
 have k1:∀ b o,H2.get? b=some o->h₁.get? b=some o:=fun b o e=>by
  have hb:b < C:=hCC ▸ Heap.lt_size e
  exact hsb₁.extBut b o (Nat.ne_of_lt hb) (Heap.get?_push_of_some _ e)
 have fr:∀ a,D<=a->H a=none:=fun a ha=>I.hok.fresh (hDd ▸ ha)
 have accP:h₁.PlainList D #[]:=⟨_,k1 _ _ (by rw [<- hH2,<- hDd]; exact Heap.get?_push_size _ rfl)⟩
 have fpo:∀ b∈fp,(b:Nat) < D:=fun b hb=>let ⟨o,e,_⟩:=T.obj 0 _ st b hb; hlt e
 have clF:∀ x c,(wB X.env scope.names []).lookup x=some c->X.env.cells.lookup x=some c:=closL_from _ _ fun x c e=>nomatch e
 have cellLt:∀ x c,X.env.cells.lookup x=some c->(c:Nat) < D:=fun x c e=>by
  obtain ⟨v,o,ho,_⟩:=I.cell x c e
  exact hlt ho
 have locLt:(X.env.locals:Nat) < D:=hDd ▸ I.lt
 have stkLt:∀ b∈frs X.stack,(b:Nat) < D:=fun b hb=>by
  obtain ⟨_,o,ho,_⟩:=I.stack.mem hb
  exact hlt ho
 have fpStk:∀ b∈fp,b ∉ frs X.stack:=fun b hb z=>by
  obtain ⟨_,f1,f2,_⟩:=hf b hb
  rcases List.mem_cons.mp (I.stkSub b z) with q | q
  · exact f1 q
  · exact f2 q
 have pinLt:∀ p∈X.pn++pins,(p.1:Nat) < D:=fun p hp=>hlt (I.pin p hp).1
 have pinStk:∀ p∈X.pn++pins,p.1 ∉ frs X.stack:=fun p hp z=>by
  obtain ⟨_,_,f1,f2,_⟩:=I.pin p hp
  rcases List.mem_cons.mp (I.stkSub _ z) with q | q
  · exact f1 q
  · exact f2 q
 let Y:Cx:=yJ X scope NY ⟨C,{ s₂ with heap:=H2 },H,D::fp⟩
 obtain ⟨W,⟨m0,w0⟩,turn⟩:=h ⟨C,{ s₂ with heap:=H2 },H,D::fp⟩
 have okY:Y.Ok:=by
  refine ⟨I.ok.mod,S.kind,I.ok.glob,I.ok.blt,Nat.le_of_eq hCC,fun x y c h1 h2=>I.ok.inj x y c (clF _ _ h1) (clF _ _ h2),fun x hx=>?_,fun x c hfn=>absurd hfn (by intro z; cases z),I.ok.hd,I.ok.frames,.inl rfl,fun b hb=>?_,fun b o e=>?_,?_,fun b o e=>?_,fun b hb=>?_,?_,I.stkFree⟩
  · have hx':(x,NameKind.free)∈scope.names:=by
     rcases hx with hx | hx
     · exact xU S.nocell hx (.inl rfl)
     · exact xU S.nocell hx (.inr rfl)
    obtain ⟨c,e⟩:=I.ok.has x (S.free _ hx' rfl)
    exact wN _ _ x c hx' e
  · rcases List.mem_cons.mp hb with z | z
    · subst z
      exact ⟨hDC,fun x c e q=>absurd (cellLt x c (clF x c e)) (by rw [q]; exact Nat.lt_irrefl _)⟩
    · have := fpo b z
      exact ⟨ltC this,fun x c e q=>(hf b z).2.2.2.2.1 x c (clF x c e) q⟩
  · have := I.bs b o e
    exact ⟨k2 b o this.1,this.2⟩
  · refine ⟨?_, I.tabsH⟩
    show (X.base.objs.size:Nat)<=H2.objs.size
    have h1:(X.base.objs.size:Nat)<=s₂.heap.objs.size:=Nat.le_trans I.ok.bsz.1 I.sz
    have h2:(H2.objs.size:Nat)=C:=hCC
    have h3:(s₂.heap.objs.size:Nat)=D:=hDd
    omega
  · have hb := I.bs b o e
    have hb':=hlt hb.1
    intro z
    rcases List.mem_cons.mp z with z | z
    · rw [z] at hb'; exact Nat.lt_irrefl _ hb'
    · rcases (hf b z).2.2.2.1 with q | q
      · exact I.ok.noex b o e q
      · exact absurd (Nat.lt_of_lt_of_le (Heap.lt_size (I.ok.bs b o e).1) q) (Nat.lt_irrefl _)
  · rcases List.mem_cons.mp hb with z | z
    · subst z
      exact fun q=>absurd (stkLt _ q) (Nat.lt_irrefl _)
    · exact fpStk b z
  · exact I.stack.of_keeps fun b o e _=>⟨o,k2 b o e,rfl⟩
 have capt:∀ (i:Nat) (x:Str) (v:V),NY[i]? = some x->(slotsY mp σ)[i]? = some (some v)->∃ u c,RelV v u/\(Y.env.kindOf x=some .cell \/ Y.env.kindOf x=some .free)/\Y.env.cells.lookup x=some c/\H2.IsCell c (some u)/\(H c=none \/ ∃ o u,H c=some (.frz o u))/\c ∉ D::fp:=by
  intro i x v e1 e2
  have e2':(mp[i]?.map fun o=>o.bind fun j=>σ[j]?.join)=some (some v):=by
   unfold slotsY at e2
   rwa [List.getElem?_map] at e2
  cases hm:mp[i]? with
  | none=>rw [hm] at e2'; cases e2'
  | some o =>
    rw [hm] at e2'
    cases o with
    | none=>simp at e2'
    | some j =>
      simp only [Option.map_some,Option.bind_some,Option.some.injEq] at e2'
      have e4 : σ[j]? = some (some v):=by
       cases hs : σ[j]? with
       | none=>rw [hs] at e2'; cases e2'
       | some q=>rw [hs] at e2'; simp at e2'; rw [e2']
      obtain ⟨hXj,hfr⟩:=S.map i x j e1 hm
      have hmem:(x,NameKind.free)∈scope.names:=PySem.mem_of_lookup hfr
      have hk:=S.free _ hmem rfl
      obtain ⟨m,hn,hl⟩:=I.loc
      obtain ⟨u,ru,l⟩:=hl j x v hXj e4 (hk.elim (fun z=>.inr (.inl z)) fun z=>.inr (.inr z))
      have hlook:∃ c,X.env.cells.lookup x=some c/\s₂.heap.IsCell c (some u):=by
       rcases l with ⟨kl,_⟩ | ⟨_,c,ec,hcell⟩
       · rcases hk with q | q
         · exact absurd (kl.symm.trans q) (by intro z; cases z)
         · exact absurd (kl.symm.trans q) (by intro z; cases z)
       · exact ⟨c,ec,hcell⟩
      obtain ⟨c,ec,oc,hoc,hocd⟩:=hlook
      obtain ⟨c',ec'⟩:=wN (env:=X.env) scope.names [] x c hmem ec
      have:c'=c:=Option.some.inj ((clF x c' ec').symm.trans ec)
      subst this
      refine ⟨u,c',ru,lookup_relabel_free hfr,ec',⟨oc,k2 _ _ hoc,hocd⟩,(I.freeC x c' ec).imp id And.right,fun z=>?_⟩
      rcases List.mem_cons.mp z with z | z
      · have:=cellLt x c' ec; rw [z] at this; exact Nat.lt_irrefl _ this
      · exact (hf c' z).2.2.2.2.1 x c' ec rfl
 have lenY:(slotsY mp σ).length=NY.length:=by
  unfold slotsY
  rw [List.length_map]
  exact S.len
 have I0:∀ tk,Inv Y [] (slotsY mp σ) H { s₂ with heap:=h₁,toks:=tk }:=by
  intro tk
  refine ⟨okY,rfl,I.bare,Un.kept k1,⟨_,hns₁,fun i x v e1 e2 e3=>?_⟩,fun x c e=>?_,fr C (by show (D:Nat)<=C; omega),fun x c e=>(I.freeC x c (clF x c e)).imp id fun z=>⟨rfl,z.2⟩,fun p hp=>absurd (show p∈([]:List (Addr×Obj)) from hp) (by simp),I.hok.kept fun b o e=>k1 b o (k2 b o e),lenY⟩
  · obtain ⟨u, c, ru, hk, ec, ⟨oc, hoc, hocd⟩, _⟩ := capt i x v e1 e2
    exact ⟨u,ru,.inr ⟨hk,c,ec,oc,k1 _ _ hoc,hocd⟩⟩
  · obtain ⟨v, o, ho, hd⟩ := I.cell x c (clF x c e)
    exact ⟨v,o,k1 _ _ (k2 _ _ ho),hd⟩
 have stat:∀ {H':Hp} {pl:List (Addr×Obj)},(∀ p∈pl,p.1 ∉ fp)->(∀ b∈fp,H' b=none)->∀ b∈fp,FpOk Y pl H' b:=fun hpl hn b hb=>by
  have hbD:=fpo b hb
  refine ⟨hn b hb,ltC hbD,fpStk b hb,.inl (List.mem_cons_of_mem _ hb),fun x c e=>(hf b hb).2.2.2.2.1 x c (clF x c e),fun p hp z=>hpl p (show p∈_ from hp) (z ▸ hb)⟩
 have dN:D ∉ Y.fs:=fun q=>absurd (stkLt _ q) (Nat.lt_irrefl _)
 have dFp:D ∉ fp:=fun q=>absurd (fpo _ q) (Nat.lt_irrefl _)
 have plD:∀ (o:Obj),∀ p∈[(D,o)],p.1 ∉ fp:=fun o p hp=>by
  have e:p=(D,o):=by simpa using hp
  rw [e]; exact dFp
 have keyC:∀ (tk:Nat) (it':Value),it' = .ref it->codeAny (model X.prog X.w) X.A (.compLoop (.ListComp elt [⟨tg,iter,ifs,0⟩] scope pos) 0 it' (.ref D) Y.env) (RR (.ref D) C) { s₂ with heap:=h₁,toks:=tk }:=by
  rintro tk _ rfl
  refine compLoop_own (fun n s'=>∃ i ys H' its,Inv Y [] (slotsY mp σ) H' s'/\tn i s'.heap/\(∀ b∈fp,H' b=none)/\H' D=none/\s'.heap.PlainList D its/\Vals ys its.toList/\W i n ys H') ?_ m0
   ⟨0,[],H,#[],I0 tk,T.keep 0 _ _ st fun b _ o e=>k1 b o (k2 b o e),fun b hb=>(hf b hb).1,fr D (Nat.le_refl _),accP,.nil,w0⟩
  rintro n s3 ⟨i,ys,H3,its,I3,st3,fr3,d3,⟨kk,pl3⟩,rv3,w3⟩
  have I3':Inv Y [(D,{ cls:=.type "list",data:=.seq its kk })] (slotsY mp σ) H3 s3:=I3.pins_of fun p hp=>by
   have e:p=(D,{ cls:=.type "list",data:=.seq its kk }):=by simpa using hp
   subst e
   exact ⟨pl3,d3,hDC,dN,fun v z=>nomatch (show Data.seq its kk=Data.cell v from z)⟩
  rcases turn i n ys H3 w3 with ⟨stop,qn⟩ | ⟨go,hsz,step⟩
  · refine thn (T.done Y rfl rfl rfl hc i _ s3 _ H3 _ I3' (stat (plD _) fr3) st3 stop) fun r s4 ⟨hr, I4⟩ => ?_
    subst hr
    have hD4:s4.heap.get? D=some { cls:=.type "list",data:=.seq its kk }:=(I4.pin (D,_) (by simp)).1
    have u:Un (frs X.stack) fp H H3 s₂.heap s4.heap:=by
     have B:Un (frs X.stack) (D::fp) H H3 H2 s4.heap:=I4.base
     have nx:∀ {b:Addr} {o:Obj},s₂.heap.get? b=some o->b ∉ fp->b ∉ D::fp:=fun e hb z=>by
      rcases List.mem_cons.mp z with z | z
      · have:=hlt e; rw [z] at this; exact Nat.lt_irrefl _ this
      · exact hb z
     exact ⟨fun b o q n hb hx=>B.keep b o (k2 b o q) n hb (nx q hx),fun b o q n hb hx=>B.slot b o (k2 b o q) n hb (nx q hx),fun b o q n hx=>B.free b o (k2 b o q) n (nx q hx),fun b o q hx=>B.there b o (k2 b o q) (nx q hx),B.tups,B.frzs,B.tbls⟩
    have J4:Inv X pins σ H3 s4:=I.call' I4.os u I4.hok I4.bare fun b hb=>⟨(hf b hb).2.2.2.1,(hf b hb).2.1,(hf b hb).2.2.2.2.1,(hf b hb).2.2.2.2.2⟩
    obtain ⟨m4,hn4,_⟩:=I4.loc
    refine fin s4 C m4 ys H3 qn d3 I4.free (Ne.symm hDC) hn4 (fun hz=>?_) ⟨(ltC locLt).symm,?_,fun x c e=>?_,fun p hp=>?_⟩
    · refine J4.adopt d3 ?_ (ltD locLt).symm (fun x c e => ?_) (fun p hp => ?_) ⟨hz, its.toList, kk, rv3, hD4⟩
      · exact hDd ▸ I.sz
      · exact ltD (cellLt x c e)
      · exact ltD (pinLt p hp)
    · have : (X.s₀.heap.objs.size : Nat) <= D := hDd ▸ I.sz
      show (X.s₀.heap.objs.size:Nat)<=C
      omega
    · exact ltC (cellLt x c e)
    · exact ltC (pinLt p hp)
  · refine thn (T.item Y rfl rfl rfl hc i _ s3 _ H3 _ I3' (stat (plD _) fr3) st3 go) fun r s4 ⟨u, hr, h4⟩ => ?_
    subst hr
    refine thn h4 fun _ s5 ⟨x,H5,I5,r5,y5,st5,fr5⟩=>?_
    have I5':=I5.pinned (stat (plD _) fr5) (T.obj _ _ st5)
    refine thn (hg _ _ s5 _ H5 x u _ I5' r5 (step x H5 y5)) fun _ s6 ⟨σ6,H6,I6,q6⟩=>?_
    refine thn (ht _ _ s6 σ6 H6 _ I6 q6) fun ok s7 ⟨H7,I7,q7⟩=>?_
    have back:∀ {s8:Shared} {σ8:St} {H8:Hp},Inv Y ([(D,{ cls:=.type "list",data:=.seq its kk })]++pinsAt fp s5.heap) σ8 H8 s8 →
      tn (i+1) s8.heap/\(∀ b∈fp,H8 b=none)/\H8 D=none/\s8.heap.get? D=some { cls:=.type "list",data:=.seq its kk }:=fun {s8 σ8 H8} I8=>by
     refine ⟨T.keep _ _ _ st5 fun b hb o e=>(I8.pin (b,o) (List.mem_append_right _ (List.mem_append_right _ (xF hb e)))).1,fun b hb=>?_,?_,?_⟩
     · obtain ⟨o, e, d⟩ := T.obj _ _ st5 b hb
       exact (I8.pin (b,o) (List.mem_append_right _ (List.mem_append_right _ (xF hb e)))).2.1
     · exact (I8.pin (D,_) (List.mem_append_right _ (List.mem_append_left _ (List.mem_singleton.mpr rfl)))).2.1
     · exact (I8.pin (D,_) (List.mem_append_right _ (List.mem_append_left _ (List.mem_singleton.mpr rfl)))).1
    have drop:∀ {s8:Shared} {σ8:St} {H8:Hp} {pl:List (Addr×Obj)},Inv Y pl σ8 H8 s8->Inv Y [] (slotsY mp σ) H8 s8:=fun {s8 σ8 H8 pl} I8=>by
     obtain ⟨m8,hn8,_⟩:=I8.loc
     refine ⟨I8.ok,I8.os,I8.bare,I8.base,⟨m8,hn8,fun i x v e1 e2 e3=>?_⟩,I8.cell,I8.free,I8.freeC,fun p hp=>absurd (show p∈([]:List (Addr×Obj)) from hp) (by simp),I8.hok,lenY⟩
     obtain ⟨u,c,ru,hk,ec,⟨oc,hoc,hocd⟩,hn,hx⟩:=capt i x v e1 e2
     rcases hn with hn | ⟨ob,ub,hn⟩
     · obtain ⟨sl, e⟩ := I8.base.any hoc hn hx
       exact ⟨u,ru,.inr ⟨hk,c,ec,_,e,hocd⟩⟩
     · obtain ⟨e1, _⟩ := I.hok c _ hn
       obtain ⟨e2,_⟩:=I8.hok c _ (I8.base.frzs c ob ub hn)
       have e3:=k2 _ _ e1
       rw [hoc] at e3; cases e3
       exact ⟨u,ru,.inr ⟨hk,c,ec,oc,e2,hocd⟩⟩
    cases ok with
    | false =>
      obtain ⟨m',hm',w'⟩:=q7
      obtain ⟨b1,b2,b3,b4⟩:=back I7
      exact ⟨m',hm',i+1,ys,H7,its,drop I7,b1,b2,b3,⟨kk,b4⟩,rv3,w'⟩
    | true =>
      refine thn (he _ _ s7 σ6 H7 _ I7 q7) fun y s8 ⟨yv,H8,I8,r8,q8⟩=>?_
      obtain ⟨b1,b2,b3,b4⟩:=back I8
      have hl:ys.length=its.size:=by simpa using rv3.length
      refine wpAny_list_append_plain (items:=its) ⟨kk,b4⟩ (fun h' pl' sb=>?_) (by omega)
      obtain ⟨m',hm',w'⟩:=q8
      have I9:Inv Y [] (slotsY mp σ) H8 { s8 with heap:=h' }:=(drop I8).turned (it:=D) (t':=s8.toks) (fun b o hb e=>(sb.2 b hb).trans e) b3 hDC (.inl List.mem_cons_self) (fun x c e=>ltD (cellLt x c (clF x c e))) fun p hp=>absurd (show p∈([]:List (Addr×Obj)) from hp) (by simp)
      refine ⟨m',hm',i+1,ys++[yv],H8,its.push y,I9,?_,b2,b3,pl',?_,w'⟩
      · exact T.keep _ _ _ b1 fun b hb o e=>(sb.2 b (fun z=>dFp (z ▸ hb))).trans e
      · rw [Array.toList_push]
        exact rv3.append (.cons r8 .nil)
 exact codeAny_compStart_list (keyC _ _ rfl) (T.self _ 0 _ _ _ (T.keep 0 _ _ st fun b _ o e=>k1 b o (k2 b o e)) (keyC _ _ rfl))
theorem pe_comp {scope:Scope} {NY:List Str} {mp:List (Option Nat)} {tg iter elt:Expr} {ifs:List Expr} {pos:Pos} {wi:TI} {g:CI->TG} {tt:CI->TT} {te:CI->TE}
  (S:CompScope X scope NY mp) (hc:X.calm=true) (hi:PI X tg iter wi)
  (hg:∀ c,PG (yJ X scope NY c) tg (g c)) (ht:∀ c,PF (yJ X scope NY c) ifs (tt c)) (he:∀ c,PE (yJ X scope NY c) elt (te c))
  (hs:∀ x,foldedSetIterable iter X.env x=pure x:=by intro _; rfl):PE X (.ListComp elt [⟨tg,iter,ifs,0⟩] scope pos) (tComp wi mp g tt te):=by
 intro pins s σ H Q I h
 rw [eval_ListComp]
 refine wpAny_comprehension_free (use:=none) rfl hs (closureFor_of fun y hy hk=>I.ok.has y.1 (S.free y hy hk)) S.kind S.names (thn (hi pins s σ H _ I h) fun v s1 h1=>thn h1 fun itv s2 h2=>?_)
 obtain ⟨it,fp,tn,J,H2,e,I2,T,st2,f2,hk⟩:=h2
 subst e
 refine comp_block (RR:=fun acc C=>compPost (model X.prog X.w) X.A X.xe none (EP X pins σ Q) acc C) S hc I2 T st2 f2 hg ht he hk ?_
 intro s' C m ys H' q hD hC hCD hn hI hct
 refine ⟨m,hn,fun h' sb=>?_⟩
 have J':=hI q.1
 refine ⟨.ref s2.heap.objs.size,_,J'.turned (it:=C) (t':=s'.toks) (fun b o hb e=>(sb.2 b hb).trans e) (by rw [zS hCD]; exact hC) hct.1 (.inr hct.2.1) hct.2.2.1 hct.2.2.2,rfl,q.2 _ hD⟩
end
end L2
namespace TS
open PySem PyProof.Rows
set_option autoImplicit false
def ky (p:Keyed):Int:=numOf p.1
def IsI (p:Keyed):Prop:=∃ n t,p.1 = .int n t
structure TB (a₀ : Array Keyed) (st:SortSt):Prop where
 pm:(arrOf st).Perm a₀
 kd:kindOf st=oneType'
 nf:failedOf st=none
def Seg (xs:Array Keyed) (i j:Nat):Prop:=∀ p q,i<=p->p<=q->q < j->K xs p<=K xs q
def Dsc (xs:Array Keyed) (i j:Nat):Prop:=∀ p q,i<=p->p<=q->q < j->K xs q<=K xs p
def Ch (xs ys:Array Keyed) (i j:Nat):Prop:=xs.Perm ys/\∀ k,(k < i \/ j<=k)->K xs k=K ys k
theorem Ch.rfl' {xs:Array Keyed} {i j:Nat} : Ch xs xs i j:=⟨Array.Perm.refl _,fun _ _=>rfl⟩
theorem Ch.tr {xs ys zs:Array Keyed} {i j:Nat} (a:Ch xs ys i j) (b:Ch ys zs i j):Ch xs zs i j :=
 ⟨a.1.trans b.1,fun k hk=>(a.2 k hk).trans (b.2 k hk)⟩
theorem Ch.wide {xs ys:Array Keyed} {i j i' j':Nat} (a:Ch xs ys i j) (h1:i'<=i) (h2:j<=j'):Ch xs ys i' j' :=
 ⟨a.1,fun k hk=>a.2 k (by omega)⟩
theorem TB.arr {a₀ : Array Keyed} {st:SortSt} (h:TB a₀ st) {xs:Array Keyed} (hp:xs.Perm (arrOf st)):TB a₀ (setArr st xs):=⟨hp.trans h.pm,h.kd,h.nf⟩
theorem TB.sz {a₀ : Array Keyed} {st:SortSt} (h:TB a₀ st):(arrOf st).size=a₀.size:=h.pm.size_eq
theorem at_int {a₀ xs:Array Keyed} (hp:xs.Perm a₀) (h0:IntKeys a₀) {i:Nat} (hi:i < a₀.size):∃ t q,xs[i]? = some (.int (K xs i) t,q):=by
 have hi':i < xs.size:=by rw [hp.size_eq]; exact hi
 obtain ⟨n,t,hn⟩:=h0 _ ((Array.perm_iff_toList_perm.mp hp).mem_iff.mp (show xs[i]∈xs.toList by simp))
 have e:xs[i]? = some xs[i]:=getElem?_pos _ i hi'
 refine ⟨t,xs[i].2,?_⟩
 unfold K
 rw [e]
 simp only [hn,numOf]
 exact congrArg some (Prod.ext hn rfl)
section
variable {prog:Program} {w:World} {A:Around} {E:Value->Shared->Prop} {s:Shared} {a₀ : Array Keyed}
theorem lt_at {st:SortSt} {i j:Nat} {Q:Option Bool->SortSt->Prop} (hB:TB a₀ st) (h0:IntKeys a₀) (hi:i < a₀.size) (hj:j < a₀.size)
  (told:Q (some (decide (K (arrOf st) i < K (arrOf st) j))) st):wpS (model prog w) A E s (ltAt' i j) Q st:=by
 obtain ⟨t,p,e1⟩:=at_int hB.pm h0 hi
 obtain ⟨u,q,e2⟩:=at_int hB.pm h0 hj
 exact wpS_ltAt hB.kd e1 e2 told
theorem lt_in {st:SortSt} {xs:Array Keyed} {i j:Nat} {Q:Option Bool->SortSt->Prop} (hB:TB a₀ (setArr st xs)) (h0:IntKeys a₀) (hi:i < a₀.size) (hj:j < a₀.size)
  (h:Q (some (decide (K xs i < K xs j))) (setArr st xs)):wpS (model prog w) A E s (ltAt' i j) Q (setArr st xs):=lt_at hB h0 hi hj h
theorem flip_at {st:SortSt} {i j:Nat} {Q:Unit->SortSt->Prop} (hj:j<=(arrOf st).size)
  (h:∀ xs,Ch xs (arrOf st) i j->(∀ k,i<=k->k < j->K xs k=K (arrOf st) (i+j - 1 - k))->Q () (setArr st xs)) :
  wpS (model prog w) A E s (reverseSlice' i j) Q st:=by
 rw [reverseSlice'_eq]
 refine wpS_modify (h _ ⟨mirror_perm _ _ _ _,fun k hk=>?_⟩ fun k h1 h2=>?_)
 · rw [K_mirror hj,if_neg (by omega)]
 · rw [K_mirror hj,if_pos ⟨h1,h2⟩]
theorem wO {st:SortSt} {i j:Nat} {Q:Unit->SortSt->Prop} (hj:j<=(arrOf st).size) (he:∀ k,i<=k->k < j->K (arrOf st) k=K (arrOf st) (j - 1))
  (h:∀ xs,xs.Perm (arrOf st)->(∀ k,K xs k=K (arrOf st) k)->Q () (setArr st xs)) :
  wpS (model prog w) A E s (reverseSlice' i j) Q st:=by
 refine flip_at hj fun xs c hk=>h xs c.1 fun k=>?_
 by_cases hh:i<=k/\k < j
 · rw [hk k hh.1 hh.2,he _ (by omega) (by omega),he k hh.1 hh.2]
 · exact c.2 k (by omega)
def dTail (lo m0 nrem:Nat):StateT SortSt Sem (Option Nat):=do
 let mut m:=m0
 reverseSlice' lo (lo+m)
 for _ in [m:nrem] do
  let some less <- ltAt' (lo+m) (lo+m - 1) | return none
  if less then break
  m:=m+1
 return some m
def dPart (lo m0 nrem:Nat):StateT SortSt Sem (Option Nat):=do
 let mut m:=m0
 rule "list.sort.descending-run"
 m:=m+1
 let mut q:=0
 for _ in [m:nrem] do
  let some less <- ltAt' (lo+m) (lo+m - 1) | return none
  if less then
   if q > 0 then reverseSlice' (lo+m - (q+1)) (lo+m)
   q:=0
  else
   let some more <- ltAt' (lo+m - 1) (lo+m) | return none
   if more then break
   q:=q+1
  m:=m+1
 if q > 0 then reverseSlice' (lo+m - (q+1)) (lo+m)
 dTail lo m nrem
def cRun (lo nrem:Nat):StateT SortSt Sem (Option Nat):=do
 let mut m:=1
 for _ in [1:nrem] do
  let some less <- ltAt' (lo+m) (lo+m - 1) | return none
  if less then break
  m:=m+1
 if m == nrem then return some m
 if m > 1 then
  let some more <- ltAt' lo (lo+m - 1) | return none
  if more then return some m
  reverseSlice' lo (lo+m)
 dPart lo m nrem
theorem countRun_is (lo nrem:Nat):countRun' lo nrem=cRun lo nrem:=by
 rw [countRun'_eq]
 rfl
theorem seg_snoc {xs:Array Keyed} {i j:Nat} (hs:Seg xs i j) (h:i < j->K xs (j - 1)<=K xs j):Seg xs i (j+1):=by
 intro p q h1 h2 h3
 by_cases hq:q < j
 · exact hs p q h1 h2 hq
 · have : q = j := by omega
   subst this
   by_cases hp:p=q
   · subst hp; exact Int.le_refl _
   · exact Int.le_trans (hs p (q - 1) h1 (by omega) (by omega)) (h (by omega))
theorem wH {xs:Array Keyed} {i j:Nat} (hs:Dsc xs i j) (h:i < j->K xs j<=K xs (j - 1)):Dsc xs i (j+1):=by
 intro p q h1 h2 h3
 by_cases hq:q < j
 · exact hs p q h1 h2 hq
 · have : q = j := by omega
   subst this
   by_cases hp:p=q
   · subst hp; exact Int.le_refl _
   · exact Int.le_trans (h (by omega)) (hs p (q - 1) h1 (by omega) (by omega))
theorem vL {xs ys:Array Keyed} {i j:Nat} (hs:Dsc xs i j) (h:∀ k,K ys k=K xs k):Dsc ys i j:=by
 intro p q h1 h2 h3; rw [h,h]; exact hs p q h1 h2 h3
theorem asc_loop {st:SortSt} {lo a nrem:Nat} {R:Option (Option Nat)×Nat->SortSt->Prop} (h0:IntKeys a₀) (hn:lo+nrem<=a₀.size) (ha:1<=a) (han:a<=nrem) (hB:TB a₀ st) (hs:Seg (arrOf st) lo (lo+a))
  (h:∀ n,a<=n->n<=nrem->Seg (arrOf st) lo (lo+n)->(n=nrem \/ K (arrOf st) (lo+n) < K (arrOf st) (lo+n - 1))->R (none,n) st) :
  wpS (model prog w) A E s (forIn [a:nrem] ((none,a):Option (Option Nat)×Nat) fun _ c=>do
        let x <- ltAt' (lo+c.snd) (lo+c.snd - 1)
        match x with
         | some less=>if less=true then pure (ForInStep.done (none,c.snd)) else pure (ForInStep.yield (none,c.snd+1))
         | _=>pure (ForInStep.done (some none,c.snd))) R st:=by
 refine wpS_forRange (I:=fun x c z=>z=st/\c=(none,x)/\Seg (arrOf st) lo (lo+x)) ?_ ?_ ⟨rfl,rfl,hs⟩
 · rintro x c z hax hxn ⟨rfl, rfl, hz⟩
   dsimp only
   refine wpS_bind (lt_at hB h0 (by omega) (by omega) ?_)
   by_cases hl:K (arrOf z) (lo+x) < K (arrOf z) (lo+x - 1)
   · simp only [hl, decide_true, if_true]
     exact wpS_pure (h x hax (by omega) hz (.inr hl))
   · simp only [hl, decide_false, Bool.false_eq_true, if_false]
     exact wpS_pure ⟨rfl,rfl,seg_snoc hz fun _=>Int.not_lt.mp hl⟩
 · rintro c z ⟨rfl, rfl, hz⟩
   rw [show max a nrem=nrem by omega] at hz ⊢
   exact h nrem han (Nat.le_refl _) hz (.inl rfl)
theorem wp_tail {st:SortSt} {lo n nrem:Nat} {Q:Option Nat->SortSt->Prop} (h0:IntKeys a₀) (hn:lo+nrem<=a₀.size) (h1:1<=n) (hnn:n<=nrem) (hB:TB a₀ st) (hs:Dsc (arrOf st) lo (lo+n))
  (h:∀ m xs,Ch xs (arrOf st) lo (lo+nrem)->1<=m->m<=nrem->Seg xs lo (lo+m)->Q (some m) (setArr st xs)) :
  wpS (model prog w) A E s (dTail lo n nrem) Q st:=by
 unfold dTail
 refine wpS_bind (flip_at (by rw [hB.sz]; omega) fun xs c hk=>?_)
 refine wpS_bind (asc_loop h0 hn h1 hnn (hB.arr c.1) ?_ fun m hm1 hm2 hsm _=>wpS_pure (h m xs (c.wide (Nat.le_refl _) (by omega)) (by omega) hm2 hsm))
 intro p q g1 g2 g3
 show K xs p<=K xs q
 rw [hk p g1 (by omega),hk q (by omega) g3]
 exact hs _ _ (by omega) (by omega) (by omega)
theorem wp_part {st:SortSt} {lo n nrem:Nat} {Q:Option Nat->SortSt->Prop} (h0:IntKeys a₀) (hn:lo+nrem<=a₀.size) (hnn:n+1<=nrem) (hB:TB a₀ st) (hs:Dsc (arrOf st) lo (lo+(n+1)))
  (h:∀ m xs,Ch xs (arrOf st) lo (lo+nrem)->1<=m->m<=nrem->Seg xs lo (lo+m)->Q (some m) (setArr st xs)) :
  wpS (model prog w) A E s (dPart lo n nrem) Q st:=by
 unfold dPart
 refine wpS_bind (wpS_lift (wpAny_rule ⟨rfl,?_⟩))
 refine wpS_bind (wpS_mono (wpS_forRange
  (I:=fun x c z=>∃ q xs,c=(none,x,q)/\z=setArr st xs/\xs.Perm (arrOf st)/\(∀ k,K xs k=K (arrOf st) k)/\Dsc xs lo (lo+x)/\q+1<=x/\∀ i,lo+x - (q+1)<=i->i < lo+x->K xs i=K xs (lo+x - 1))
  (Q:=fun c z=>∃ x q xs,n+1<=x/\x<=nrem/\c=(none,x,q)/\z=setArr st xs/\xs.Perm (arrOf st)/\(∀ k,K xs k=K (arrOf st) k)/\Dsc xs lo (lo+x)/\q+1<=x/\∀ i,lo+x - (q+1)<=i->i < lo+x->K xs i=K xs (lo+x - 1))
  ?step ?fin ⟨0,arrOf st,rfl,rfl,Array.Perm.refl _,fun _=>rfl,hs,by omega,fun i _ _=>by congr 1; omega⟩) ?post)
 case fin =>
  rintro c z ⟨q,xs,e1,e2,e3,e4,e5,e6,e7⟩
  rw [show max (n+1) nrem=nrem by omega] at e1 e5 e6 e7
  exact ⟨nrem,q,xs,hnn,Nat.le_refl _,e1,e2,e3,e4,e5,e6,e7⟩
 case step =>
  rintro x c z hax hxn ⟨q,xs,rfl,rfl,hp,hk,hd,hq,he⟩
  have hB':TB a₀ (setArr st xs):=hB.arr hp
  have hsz:lo+x<=(arrOf (setArr st xs)).size:=by rw [hB'.sz]; omega
  dsimp only
  refine wpS_bind (lt_in hB' h0 (by omega) (by omega) ?_)
  by_cases hl:K xs (lo+x) < K xs (lo+x - 1)
  · simp only [hl, decide_true, if_true]
    have hd1:Dsc xs lo (lo+x+1):=wH hd fun _=>Int.le_of_lt hl
    by_cases hq0:q > 0
    · rw [if_pos hq0]
      refine wpS_bind (wO hsz he fun ys y1 y2=>wpS_pure ?_)
      exact ⟨0,ys,rfl,rfl,y1.trans hp,fun k=>(y2 k).trans (hk k),vL hd1 y2,by omega,fun i _ _=>by congr 1; omega⟩
    · rw [if_neg hq0]
      exact wpS_pure ⟨0,xs,rfl,rfl,hp,hk,hd1,by omega,fun i _ _=>by congr 1; omega⟩
  · simp only [hl, decide_false, Bool.false_eq_true, if_false]
    refine wpS_bind (lt_in hB' h0 (by omega) (by omega) ?_)
    by_cases hm:K xs (lo+x - 1) < K xs (lo+x)
    · simp only [hm, decide_true, if_true]
      exact wpS_pure ⟨x,q,xs,hax,by omega,rfl,rfl,hp,hk,hd,hq,he⟩
    · simp only [hm, decide_false, Bool.false_eq_true, if_false]
      have eq:K xs (lo+x)=K xs (lo+x - 1):=by omega
      refine wpS_pure ⟨q+1,xs,rfl,rfl,hp,hk,wH hd fun _=>Int.le_of_eq eq,by omega,fun i g1 g2=>?_⟩
      rw [show lo+(x+1) - 1=lo+x by omega]
      by_cases hi:i=lo+x
      · rw [hi]
      · rw [eq]; exact he i (by omega) (by omega)
 case post =>
  rintro c z ⟨x,q,xs,hx1,hx2,rfl,rfl,hp,hk,hd,hq,he⟩
  have hB':TB a₀ (setArr st xs):=hB.arr hp
  have hsz:lo+x<=(arrOf (setArr st xs)).size:=by rw [hB'.sz]; omega
  have fin:∀ ys:Array Keyed,ys.Perm xs->(∀ k,K ys k=K xs k)->wpS (model prog w) A E s (dTail lo x nrem) Q (setArr st ys):=fun ys y1 y2 =>
   wp_tail (st:=setArr st ys) h0 hn (by omega) hx2 (hB.arr (y1.trans hp)) (vL hd y2) fun m zs c z1 z2 z3 =>
    h m zs (c.tr ⟨y1.trans hp,fun k _=>(y2 k).trans (hk k)⟩) z1 z2 z3
  dsimp only
  by_cases hq0:q > 0
  · rw [if_pos hq0]
    exact wpS_bind (wO hsz he fun ys y1 y2=>fin ys y1 y2)
  · rw [if_neg hq0]
    exact fin xs (Array.Perm.refl _) fun _=>rfl
theorem wp_run {st:SortSt} {lo nrem:Nat} {Q:Option Nat->SortSt->Prop} (h0:IntKeys a₀) (hn:lo+nrem<=a₀.size) (h1:1<=nrem) (hB:TB a₀ st)
  (h:∀ m xs,Ch xs (arrOf st) lo (lo+nrem)->1<=m->m<=nrem->Seg xs lo (lo+m)->Q (some m) (setArr st xs)) :
  wpS (model prog w) A E s (countRun' lo nrem) Q st:=by
 rw [countRun_is]
 unfold cRun
 refine wpS_bind (asc_loop h0 hn (Nat.le_refl 1) h1 hB (fun p q _ _ _=>by rw [show p=q by omega]; exact Int.le_refl _) fun n g1 g2 hs hor=>?_)
 dsimp only
 by_cases hnn:n=nrem
 · rw [if_pos (by simpa using hnn)]
   exact wpS_pure (h n _ Ch.rfl' g1 g2 hs)
 rw [if_neg (by simpa using hnn)]
 have hl:=hor.resolve_left hnn
 by_cases hgt:n > 1
 · rw [if_pos hgt]
   refine wpS_bind (lt_at hB h0 (by omega) (by omega) ?_)
   by_cases hr:K (arrOf st) lo < K (arrOf st) (lo+n - 1)
   · simp only [hr, decide_true, if_true]
     exact wpS_pure (h n _ Ch.rfl' g1 g2 hs)
   · simp only [hr, decide_false, Bool.false_eq_true, if_false]
     have hall:∀ k,lo<=k->k < lo+n->K (arrOf st) k=K (arrOf st) (lo+n - 1):=fun k k1 k2=>by
      have a1:=hs lo k (Nat.le_refl _) k1 k2
      have a2:=hs k (lo+n - 1) k1 (by omega) (by omega)
      omega
     refine wpS_bind (wO (by rw [hB.sz]; omega) hall fun ys y1 y2=>?_)
     refine wp_part (st:=setArr st ys) h0 hn (by omega) (hB.arr y1) ?_ fun m zs c z1 z2 z3=>h m zs (c.tr ⟨y1,fun k _=>y2 k⟩) z1 z2 z3
     refine vL (xs:=arrOf st) ?_ y2
     show Dsc (arrOf st) lo (lo+n+1)
     refine wH (fun p q k1 k2 k3=>?_) fun _=>Int.le_of_lt hl
     rw [hall p k1 (by omega),hall q (by omega) k3]; exact Int.le_refl _
 · rw [if_neg hgt]
   have e:n=1:=by omega
   subst e
   refine wp_part h0 hn (by omega) hB ?_ h
   exact wH (fun p q _ _ _=>by rw [show p=q by omega]; exact Int.le_refl _) fun _=>Int.le_of_lt hl
theorem wp_ins {st:SortSt} {lo n ok:Nat} {Q:Bool->SortSt->Prop} (h0:IntKeys a₀) (hn:lo+n<=a₀.size) (hok:ok<=n) (hB:TB a₀ st) (hs:Seg (arrOf st) lo (lo+ok))
  (h:∀ xs,Ch xs (arrOf st) lo (lo+n)->Seg xs lo (lo+n)->Q true (setArr st xs)):wpS (model prog w) A E s (binarySort' lo n ok) Q st:=by
 rw [binarySort'_eq]
 refine wpS_bind (wpS_mono (wpS_forRange (I:=fun k c z=>∃ xs,c=(none,())/\z=setArr st xs/\Ch xs (arrOf st) lo (lo+n)/\Seg xs lo (lo+min k n))
  (Q:=fun c z=>∃ xs,c=(none,())/\z=setArr st xs/\Ch xs (arrOf st) lo (lo+n)/\Seg xs lo (lo+n)) ?step ?fin ?init) ?post)
 case post =>
  rintro c z ⟨xs,rfl,rfl,c,hz⟩
  exact wpS_pure (h xs c hz)
 case init =>
  refine ⟨arrOf st,rfl,rfl,Ch.rfl',fun p q k1 k2 k3=>?_⟩
  by_cases g:ok=0
  · have e : p = q := by omega
    rw [e]; exact Int.le_refl _
  · exact hs p q k1 k2 (by omega)
 case fin =>
  rintro c z ⟨xs,e1,e2,e3,e4⟩
  refine ⟨xs,e1,e2,e3,?_⟩
  rwa [show min (max (max ok 1) n) n=n by omega] at e4
 case step =>
  rintro k c z hak hkn ⟨xs,rfl,rfl,c,hz⟩
  rw [show min k n=k by omega] at hz
  have hB':TB a₀ (setArr st xs):=hB.arr c.1
  refine wpS_bind (wpS_mono (wpS_forRange (I:=fun x e y=>y=setArr st xs/\∃ l r,e=(none,l,r)/\l<=r/\r<=k/\r - l<=k - x ∧
    (∀ i,i < l->K xs (lo+i)<=K xs (lo+k))/\(∀ i,r<=i->i < k->K xs (lo+k) < K xs (lo+i)))
   (Q:=fun e y=>y=setArr st xs/\∃ l r,e=(none,l,r)/\l<=k ∧
     (∀ i,i < l->K xs (lo+i)<=K xs (lo+k))/\(∀ i,l<=i->i < k->K xs (lo+k) < K xs (lo+i))) ?a ?b ?c) ?d)
  case c=>exact ⟨rfl,0,k,rfl,by omega,by omega,by omega,fun i hi=>by omega,fun i _ _=>by omega⟩
  case b =>
   rintro e y ⟨rfl,l,r,rfl,g1,g2,g3,g4,g5⟩
   have e:l=r:=by omega
   subst e
   exact ⟨rfl,l,l,rfl,g2,g4,g5⟩
  case a =>
   rintro x e y _ hx ⟨rfl,l,r,rfl,g1,g2,g3,g4,g5⟩
   dsimp only
   by_cases hge:l ≥ r
   · rw [if_pos hge]
     have e:l=r:=by omega
     subst e
     exact wpS_pure ⟨rfl,l,l,rfl,g2,g4,g5⟩
   · rw [if_neg hge]
     refine wpS_bind (lt_in hB' h0 (by omega) (by omega) ?_)
     by_cases hl:K xs (lo+k) < K xs (lo+(l+r) / 2)
     · simp only [hl, decide_true, if_true]
       exact wpS_pure ⟨rfl,l,(l+r) / 2,rfl,by omega,by omega,by omega,g4,fun i k1 k2=>Int.lt_of_lt_of_le hl (hz _ _ (by omega) (by omega) (by omega))⟩
     · simp only [hl, decide_false, Bool.false_eq_true, if_false]
       exact wpS_pure ⟨rfl,(l+r) / 2+1,r,rfl,by omega,by omega,by omega,fun i k1=>Int.le_trans (hz (lo+i) (lo+(l+r) / 2) (by omega) (by omega) (by omega)) (Int.not_lt.mp hl),g5⟩
  case d =>
   rintro e y ⟨rfl,l,r,rfl,g1,g2,g3⟩
   show wpS _ _ _ _ (do moveDown' (lo+k) (lo+l); pure (ForInStep.yield (none,()))) _ _
   rw [moveDown'_eq]
   have hks:lo+k < xs.size:=by have:=hB'.sz; change xs.size=_ at this; omega
   have hkk:∀ i,K (bubble xs (lo+k) (lo+k - (lo+l))) i=if i=lo+l then K xs (lo+k) else if lo+l < i/\i<=lo+k then K xs (i - 1) else K xs i:=fun i=>by
    rw [K_bubble hks (by omega),show lo+k - (lo+k - (lo+l))=lo+l by omega]
   refine wpS_bind (wpS_modify (wpS_pure ⟨_,rfl,rfl,⟨(bubble_perm _ _ _).trans c.1,fun i hi=>?_⟩,?_⟩))
   · show K (bubble xs (lo + k) (lo + k - (lo + l))) i = _
     rw [hkk,if_neg (by omega),if_neg (by omega)]
     exact c.2 i hi
   · rw [show min (k + 1) n = k + 1 by omega]
     intro p q k1 k2 k3
     show K (bubble xs (lo+k) (lo+k - (lo+l))) p<=K (bubble xs (lo+k) (lo+k - (lo+l))) q
     rw [hkk,hkk]
     have lo':∀ i,lo<=i->i < lo+l->K xs i<=K xs (lo+k):=fun i a b=>by have:=g2 (i - lo) (by omega); rwa [show lo+(i - lo)=i by omega] at this
     have hi':∀ i,lo+l<=i->i < lo+k->K xs (lo+k)<=K xs i:=fun i a b=>by have:=g3 (i - lo) (by omega) (by omega); rw [show lo+(i - lo)=i by omega] at this; exact Int.le_of_lt this
     repeat' split
     all_goals first
      | (exfalso; omega)
      | exact Int.le_refl _
      | exact lo' _ (by omega) (by omega)
      | exact hi' _ (by omega) (by omega)
      | exact hz _ _ (by omega) (by omega) (by omega)
end
end TS
namespace TS
open PySem PyProof.Rows
set_option autoImplicit false
def gallop':Bool->Keyed->Array Keyed->Nat->Nat->Nat->StateT SortSt Sem (Option Nat):=sortPriv% PySem.Builtin.gallop
def galB (ask:Nat->StateT SortSt Sem (Option Bool)) (n l₀ h₀ : Nat):StateT SortSt Sem (Option Nat):=do
 let mut lo:=l₀
 let mut hi:=h₀
 for _ in [0:n] do
  if lo ≥ hi then break
  let mid:=lo+(hi - lo) / 2
  let some yes <- ask mid | return none
  if yes then lo:=mid+1 else hi:=mid
 return some hi
def gal (ask:Nat->StateT SortSt Sem (Option Bool)) (n hint:Nat):StateT SortSt Sem (Option Nat):=do
 let mut last:=0
 let mut off:=1
 let mut lo:=0
 let mut hi:=0
 let some right <- ask hint | return none
 if right then
  let top:=n - hint
  for _ in [0:n] do
   if off ≥ top then break
   let some yes <- ask (hint+off) | return none
   if !yes then break
   last:=off
   off:=2 * off+1
  lo:=hint+last+1
  hi:=hint+min off top
 else
  let top:=hint+1
  for _ in [0:n] do
   if off ≥ top then break
   let some yes <- ask (hint - off) | return none
   if yes then break
   last:=off
   off:=2 * off+1
  lo:=hint+1 - min off top
  hi:=hint - last
 galB ask n lo hi
theorem gallop_is (left:Bool) (key:Keyed) (arr:Array Keyed) (base n hint:Nat):gallop' left key arr base n hint=gal (fun i=>do
  let x <- elem' arr (base+i)
  if left then lt' x key else return (<- lt' key x).map (!·)) n hint:=rfl
section
variable {prog:Program} {w:World} {A:Around} {E:Value->Shared->Prop} {s:Shared}
def Cut (g:Nat->Bool) (n r:Nat):Prop:=r<=n/\(∀ i,i < r->g i=true)/\∀ i,r<=i->i < n->g i=false
variable {st:SortSt} {ask:Nat->StateT SortSt Sem (Option Bool)} {g:Nat->Bool} {n:Nat}
 (hask:∀ (i:Nat) (R:Option Bool->SortSt->Prop),i < n->R (some (g i)) st->wpS (model prog w) A E s (ask i) R st)
 (mono:∀ i j,i<=j->j < n->g j=true->g i=true)
include hask mono
theorem wp_galB {l₀ h₀ : Nat} {Q:Option Nat->SortSt->Prop} (hle:l₀<=h₀) (hh:h₀<=n) (hl:∀ i,i < l₀->g i=true) (hg:∀ i,h₀<=i->i < n->g i=false)
  (h:∀ r,Cut g n r->Q (some r) st):wpS (model prog w) A E s (galB ask n l₀ h₀) Q st:=by
 unfold galB
 refine wpS_bind (wpS_mono (wpS_forRange
  (I:=fun x c z=>z=st/\∃ l r,c=(none,l,r)/\l<=r/\r<=n/\r - l<=n - x/\(∀ i,i < l->g i=true)/\(∀ i,r<=i->i < n->g i=false))
  (Q:=fun c z=>z=st/\∃ l,∃ r,c=(none,l,r)/\Cut g n r) ?a ?b ⟨rfl,l₀,h₀,rfl,hle,hh,by omega,hl,hg⟩) ?c)
 case c =>
  rintro c z ⟨rfl,l,r,rfl,hc⟩
  exact wpS_pure (h r hc)
 case b =>
  rintro c z ⟨rfl,l,r,rfl,g1,g2,g3,g4,g5⟩
  have e:l=r:=by omega
  subst e
  exact ⟨rfl,l,l,rfl,g2,g4,g5⟩
 case a =>
  rintro x c z _ hx ⟨rfl,l,r,rfl,g1,g2,g3,g4,g5⟩
  dsimp only
  by_cases hge:l ≥ r
  · rw [if_pos hge]
    have e:l=r:=by omega
    subst e
    exact wpS_pure ⟨rfl,l,l,rfl,g2,g4,g5⟩
  · rw [if_neg hge]
    refine wpS_bind (hask _ _ (by omega) ?_)
    dsimp only
    cases hy:g (l+(r - l) / 2) with
    | true =>
      simp only [if_true]
      exact wpS_pure ⟨rfl,l+(r - l) / 2+1,r,rfl,by omega,g2,by omega,fun i hi=>mono i _ (by omega) (by omega) hy,g5⟩
    | false =>
      simp only [Bool.false_eq_true,if_false]
      refine wpS_pure ⟨rfl,l,l+(r - l) / 2,rfl,by omega,by omega,by omega,g4,fun i h1 h2=>?_⟩
      cases hi:g i with
      | false=>rfl
      | true=>rw [mono _ i h1 h2 hi] at hy; cases hy
theorem wp_gal {hint:Nat} {Q:Option Nat->SortSt->Prop} (hhint:hint < n) (h:∀ r,Cut g n r->Q (some r) st):wpS (model prog w) A E s (gal ask n hint) Q st:=by
 unfold gal
 refine wpS_bind (hask _ _ hhint ?_)
 dsimp only
 cases hr:g hint with
 | true =>
   simp only [if_true]
   refine wpS_bind (wpS_mono (wpS_forRange
    (I:=fun x c z=>z=st/\∃ l o,c=(none,l,o)/\l < o/\x+1<=o/\hint+l < n/\g (hint+l)=true)
    (Q:=fun c z=>z=st/\∃ l o,c=(none,l,o)/\l < o/\hint+l < n/\g (hint+l)=true/\(n - hint<=o \/ (hint+o < n/\g (hint+o)=false))) ?a ?b ⟨rfl,0,1,rfl,by omega,by omega,hhint,hr⟩) ?c)
   case c =>
    rintro c z ⟨rfl,l,o,rfl,h1,h2,h3,h4⟩
    dsimp only
    refine wp_galB hask mono (by omega) (by omega) (fun i hi=>mono i _ (by omega) h2 h3) (fun i i1 i2=>?_) h
    rcases h4 with h4 | ⟨h4,h5⟩
    · omega
    · cases hi : g i with
      | false=>rfl
      | true=>rw [mono _ i (by omega) i2 hi] at h5; cases h5
   case b =>
    rintro c z ⟨rfl,l,o,rfl,h1,h2,h3,h4⟩
    exact ⟨rfl,l,o,rfl,h1,h3,h4,.inl (by omega)⟩
   case a =>
    rintro x c z _ hx ⟨rfl,l,o,rfl,h1,h2,h3,h4⟩
    dsimp only
    by_cases hge:o ≥ n - hint
    · rw [if_pos hge]
      exact wpS_pure ⟨rfl,l,o,rfl,h1,h3,h4,.inl hge⟩
    · rw [if_neg hge]
      refine wpS_bind (hask _ _ (by omega) ?_)
      dsimp only
      cases hy:g (hint+o) with
      | true =>
        simp only [Bool.not_true,Bool.false_eq_true,if_false]
        exact wpS_pure ⟨rfl,o,2 * o+1,rfl,by omega,by omega,by omega,hy⟩
      | false =>
        simp only [Bool.not_false,if_true]
        exact wpS_pure ⟨rfl,l,o,rfl,h1,h3,h4,.inr ⟨by omega,hy⟩⟩
 | false =>
   simp only [Bool.false_eq_true,if_false]
   refine wpS_bind (wpS_mono (wpS_forRange
    (I:=fun x c z=>z=st/\∃ l o,c=(none,l,o)/\l < o/\x+1<=o/\l<=hint/\g (hint - l)=false)
    (Q:=fun c z=>z=st/\∃ l o,c=(none,l,o)/\l < o/\l<=hint/\g (hint - l)=false/\(hint+1<=o \/ (o<=hint/\g (hint - o)=true))) ?a ?b ⟨rfl,0,1,rfl,by omega,by omega,by omega,hr⟩) ?c)
   case c =>
    rintro c z ⟨rfl,l,o,rfl,h1,h2,h3,h4⟩
    dsimp only
    refine wp_galB hask mono (by omega) (by omega) (fun i hi=>?_) (fun i i1 i2=>?_) h
    · rcases h4 with h4 | ⟨h4, h5⟩
      · omega
      · exact mono i _ (by omega) (by omega) h5
    · cases hi : g i with
      | false=>rfl
      | true=>rw [mono _ i i1 i2 hi] at h3; cases h3
   case b =>
    rintro c z ⟨rfl,l,o,rfl,h1,h2,h3,h4⟩
    exact ⟨rfl,l,o,rfl,h1,h3,h4,.inl (by omega)⟩
   case a =>
    rintro x c z _ hx ⟨rfl,l,o,rfl,h1,h2,h3,h4⟩
    dsimp only
    by_cases hge:o ≥ hint+1
    · rw [if_pos hge]
      exact wpS_pure ⟨rfl,l,o,rfl,h1,h3,h4,.inl hge⟩
    · rw [if_neg hge]
      refine wpS_bind (hask _ _ (by omega) ?_)
      dsimp only
      cases hy:g (hint - o) with
      | true =>
        simp only [if_true]
        exact wpS_pure ⟨rfl,l,o,rfl,h1,h3,h4,.inr ⟨by omega,hy⟩⟩
      | false =>
        simp only [Bool.false_eq_true,if_false]
        exact wpS_pure ⟨rfl,o,2 * o+1,rfl,by omega,by omega,by omega,hy⟩
end
section
variable {prog:Program} {w:World} {A:Around} {E:Value->Shared->Prop} {s:Shared} {st:SortSt}
theorem wp_lt {x y:Keyed} {Q:Option Bool->SortSt->Prop} (hk:kindOf st=oneType') (hx:IsI x) (hy:IsI y) (h:Q (some (decide (ky x < ky y))) st) :
  wpS (model prog w) A E s (lt' x y) Q st:=by
 obtain ⟨x1,x2⟩:=x
 obtain ⟨y1,y2⟩:=y
 obtain ⟨a,t,ha⟩:=hx
 obtain ⟨b,u,hb⟩:=hy
 simp only at ha hb
 subst ha hb
 rw [lt'_eq]
 refine wpS_bind (wpS_get ?_)
 rw [hk,keyLt'_oneType]
 refine wpS_bind (wpS_lift (wpAny_attempt (oneLt_int ⟨rfl,?_⟩)))
 exact wpS_pure h
theorem qP {arr:Array Keyed} {i:Nat} {p:Keyed} {Q:Keyed->SortSt->Prop} (hp:arr[i]? = some p) (h:Q p st):wpS (model prog w) A E s (elem' arr i) Q st:=by
 rw [elem'_eq,hp]
 exact wpS_pure h
theorem yM {left:Bool} {key:Keyed} {arr:Array Keyed} {base n hint:Nat} {Q:Option Nat->SortSt->Prop} (hk:kindOf st=oneType') (hkey:IsI key) (hI:∀ p∈arr.toList,IsI p)
  (hb:base+n<=arr.size) (hs:Seg arr base (base+n)) (hhint:hint < n)
  (h:∀ r,r<=n->(∀ i,base<=i->i < base+r->if left then K arr i < ky key else K arr i<=ky key)->(∀ i,base+r<=i->i < base+n->if left then ky key<=K arr i else ky key < K arr i)->Q (some r) st) :
  wpS (model prog w) A E s (gallop' left key arr base n hint) Q st:=by
 rw [gallop_is]
 refine wp_gal (g:=fun i=>if left then decide (K arr (base+i) < ky key) else decide (K arr (base+i)<=ky key)) ?_ ?_ hhint ?_
 · intro i R hi hR
   have hi':base+i < arr.size:=by omega
   have e:arr[base+i]? = some arr[base+i]:=getElem?_pos arr (base+i) hi'
   have hp:IsI arr[base+i]:=hI _ (by simp)
   have eK:K arr (base+i)=ky arr[base+i]:=K_eq hi'
   refine wpS_bind (qP e ?_)
   cases left with
   | true =>
     simp only [if_true] at hR ⊢
     refine wp_lt hk hp hkey ?_
     rw [<- eK]; exact hR
   | false =>
     simp only [Bool.false_eq_true,if_false] at hR ⊢
     refine wpS_bind (wp_lt hk hkey hp ?_)
     refine wpS_pure ?_
     have:(Option.map (fun x=>!x) (some (decide (ky key < ky arr[base+i]))))=some (decide (K arr (base+i)<=ky key)):=by
      rw [eK]
      simp only [Option.map_some,Option.some.injEq]
      by_cases hlt:ky key < ky arr[base+i]
      · simp [hlt,Int.not_le.mpr hlt]
      · simp [hlt,Int.not_lt.mp hlt]
     rw [this]; exact hR
 · intro i j hij hj hg
   have:=hs (base+i) (base+j) (by omega) (by omega) (by omega)
   cases left <;> simp only [Bool.false_eq_true,if_false,if_true,decide_eq_true_eq] at hg ⊢ <;> omega
 · rintro r ⟨h1, h2, h3⟩
   refine h r h1 (fun i i1 i2=>?_) fun i i1 i2=>?_
   · have := h2 (i - base) (by omega)
     dsimp only at this
     rw [show base+(i - base)=i by omega] at this
     cases left <;> simpa using this
   · have := h3 (i - base) (by omega) (by omega)
     dsimp only at this
     rw [show base+(i - base)=i by omega] at this
     cases left <;> simpa using this
end
end TS
namespace TS
open PySem PyProof.Rows
set_option autoImplicit false
def Sd (l:List Keyed):Prop:=l.Pairwise fun p q=>ky p<=ky q
theorem Sd.app {l r:List Keyed} : Sd (l++r)↔Sd l/\Sd r/\∀ p∈l,∀ q∈r,ky p<=ky q:=by
 unfold Sd; rw [List.pairwise_append]
theorem vG {a:Array Keyed} (h:Sd a.toList) {i j:Nat} (hj:j<=a.size):Seg a i j:=by
 intro p q h1 h2 h3
 rw [K_eq (show p < a.size by omega),K_eq (show q < a.size by omega)]
 by_cases e:p=q
 · subst e; exact Int.le_refl _
 · have := List.pairwise_iff_getElem.mp h p q (by simp; omega) (by simp; omega) (by omega)
   simpa [ky] using this
theorem yB {a:Array Keyed} {i:Nat} {p:Keyed} (h:a.toList[i]? = some p):i < a.size/\K a i=ky p:=by
 obtain ⟨h1,h2⟩:=List.getElem?_eq_some_iff.mp h
 have h1':i < a.size:=by simpa using h1
 refine ⟨h1',?_⟩
 rw [K_eq h1',<- h2]
 simp [ky]
theorem vI {l:List Keyed} {x:Nat} {p:Keyed} (h:p∈l.drop x):∃ i,x<=i/\l[i]? = some p:=by
 obtain ⟨i,hi,e⟩:=List.getElem_of_mem h
 refine ⟨x+i,by omega,?_⟩
 rw [<- List.getElem?_drop,List.getElem?_eq_getElem hi,e]
theorem jM {l:List Keyed} {x k:Nat} {p:Keyed} (h:p∈(l.drop x).take k):∃ i,x<=i/\i < x+k/\l[i]? = some p:=by
 obtain ⟨i,hi,e⟩:=List.getElem_of_mem h
 have hk:i < k:=by rw [List.length_take] at hi; omega
 refine ⟨x+i,by omega,by omega,?_⟩
 rw [<- List.getElem?_drop,<- List.getElem?_take_of_lt hk,List.getElem?_eq_getElem hi,e]
theorem wG {l:List Keyed} {k:Nat} {p:Keyed} (h:p∈l.take k):∃ i,i < k/\l[i]? = some p:=by
 obtain ⟨i,hi,e⟩:=List.getElem_of_mem h
 have hk:i < k:=by rw [List.length_take] at hi; omega
 exact ⟨i,hk,by rw [<- List.getElem?_take_of_lt hk,List.getElem?_eq_getElem hi,e]⟩
theorem vP {a:Array Keyed} (h:Sd a.toList) {x:Nat} {p:Keyed} (hp:a.toList[x]? = some p):∀ q∈a.toList.drop x,ky p<=ky q:=by
 intro q hq
 obtain ⟨i,h1,h2⟩:=vI hq
 obtain ⟨g1,g2⟩:=yB hp
 obtain ⟨g3,g4⟩:=yB h2
 rw [<- g2,<- g4]
 exact vG h (Nat.le_refl _) x i (Nat.le_refl _) h1 g3
theorem sd_take {a:Array Keyed} (h:Sd a.toList) {x:Nat} {p:Keyed} (hp:a.toList[x]? = some p):∀ q∈a.toList.take (x+1),ky q<=ky p:=by
 intro q hq
 obtain ⟨i,h1,h2⟩:=wG hq
 obtain ⟨g1,g2⟩:=yB hp
 obtain ⟨g3,g4⟩:=yB h2
 rw [<- g2,<- g4]
 exact vG h (Nat.le_refl _) i x (Nat.zero_le _) (by omega) g1
structure Mg (a b:List Keyed) (o:List Keyed) (x y:Nat):Prop where
 xa:x<=a.length
 yb:y<=b.length
 pm:(o++(a.drop x++b.drop y)).Perm (a++b)
 sd:Sd o
 le:∀ p∈o,∀ q,(q∈a.drop x \/ q∈b.drop y)->ky p<=ky q
theorem Mg.stepA {a b o:List Keyed} {x y:Nat} (m:Mg a b o x y) (ha:Sd a) (t:List Keyed) (k:Nat) (ht:t=(a.drop x).take k) (hk:x+k<=a.length) (h:∀ p∈t,∀ q∈b.drop y,ky p<=ky q) :
  Mg a b (o++t) (x+k) y:=by
 have e:a.drop x=t++a.drop (x+k):=by rw [ht,<- List.drop_drop,List.take_append_drop]
 have hs:Sd (t++a.drop (x+k)):=by rw [<- e]; exact List.Pairwise.sublist (List.drop_sublist ..) ha
 obtain ⟨s1,s2,s3⟩:=Sd.app.mp hs
 refine ⟨hk,m.yb,?_,?_,?_⟩
 · have := m.pm
   rw [e] at this
   rw [List.append_assoc,<- List.append_assoc t]
   exact this
 · exact Sd.app.mpr ⟨m.sd,s1,fun p hp q hq=>m.le p hp q (.inl (by rw [e]; exact List.mem_append_left _ hq))⟩
 · intro p hp q hq
   rcases List.mem_append.mp hp with hp | hp
   · refine m.le p hp q ?_
     rcases hq with hq | hq
     · exact .inl (by rw [e]; exact List.mem_append_right _ hq)
     · exact .inr hq
   · rcases hq with hq | hq
     · exact s3 p hp q hq
     · exact h p hp q hq
theorem Mg.stepB {a b o:List Keyed} {x y:Nat} (m:Mg a b o x y) (hb:Sd b) (t:List Keyed) (k:Nat) (ht:t=(b.drop y).take k) (hk:y+k<=b.length) (h:∀ p∈t,∀ q∈a.drop x,ky p<=ky q) :
  Mg a b (o++t) x (y+k):=by
 have e:b.drop y=t++b.drop (y+k):=by rw [ht,<- List.drop_drop,List.take_append_drop]
 have hs:Sd (t++b.drop (y+k)):=by rw [<- e]; exact List.Pairwise.sublist (List.drop_sublist ..) hb
 obtain ⟨s1,s2,s3⟩:=Sd.app.mp hs
 refine ⟨m.xa,hk,?_,?_,?_⟩
 · refine List.Perm.trans ?_ m.pm
   rw [e,List.append_assoc]
   refine List.Perm.append_left _ ?_
   rw [<- List.append_assoc,<- List.append_assoc]
   exact List.Perm.append_right _ List.perm_append_comm
 · exact Sd.app.mpr ⟨m.sd,s1,fun p hp q hq=>m.le p hp q (.inr (by rw [e]; exact List.mem_append_left _ hq))⟩
 · intro p hp q hq
   rcases List.mem_append.mp hp with hp | hp
   · refine m.le p hp q ?_
     rcases hq with hq | hq
     · exact .inl hq
     · exact .inr (by rw [e]; exact List.mem_append_right _ hq)
   · rcases hq with hq | hq
     · exact h p hp q hq
     · exact s3 p hp q hq
def Dn (a b:List Keyed) (r:List Keyed):Prop:=r.Perm (a++b)/\Sd r
theorem Mg.endF {a b o:List Keyed} {x y:Nat} (m:Mg a b o x y) (ha:Sd a) (hb:Sd b) (h:x=a.length \/ y=b.length):Dn a b (o++a.drop x++b.drop y):=by
 refine ⟨by rw [List.append_assoc]; exact m.pm,?_⟩
 rw [List.append_assoc]
 refine Sd.app.mpr ⟨m.sd,?_,fun p hp q hq=>m.le p hp q (List.mem_append.mp hq)⟩
 rcases h with h | h
 · rw [h,List.drop_length,List.nil_append]; exact List.Pairwise.sublist (List.drop_sublist ..) hb
 · rw [h,List.drop_length,List.append_nil]; exact List.Pairwise.sublist (List.drop_sublist ..) ha
theorem Mg.endA {a b o:List Keyed} {x y:Nat} (m:Mg a b o x y) (hb:Sd b) (h:x+1=a.length) (hl:∀ q∈b,∀ p,a[a.length - 1]? = some p->ky q<=ky p):Dn a b (o++b.drop y++a.drop x):=by
 obtain ⟨p,hp⟩:∃ p,a.drop x=[p]:=by
  have hl:(a.drop x).length=1:=by rw [List.length_drop]; omega
  match he:a.drop x,hl with
  | [p],_=>exact ⟨p,rfl⟩
 have hp':a[a.length - 1]? = some p:=by
  have:=List.getElem?_drop (xs:=a) (i:=x) (j:=0)
  rw [hp] at this
  rw [show a.length - 1=x+0 by omega,<- this]; rfl
 refine ⟨?_,?_⟩
 · refine List.Perm.trans ?_ m.pm
   rw [List.append_assoc]
   exact List.Perm.append_left _ List.perm_append_comm
 · rw [List.append_assoc]
   refine Sd.app.mpr ⟨m.sd,Sd.app.mpr ⟨List.Pairwise.sublist (List.drop_sublist ..) hb,?_,?_⟩,?_⟩
   · rw [hp]; exact List.pairwise_singleton _ _
   · intro q hq r hr
     rw [hp] at hr
     rw [List.mem_singleton.mp hr]
     exact hl q (List.mem_of_mem_drop hq) p hp'
   · intro q hq r hr
     rcases List.mem_append.mp hr with hr | hr
     · exact m.le q hq r (.inr hr)
     · exact m.le q hq r (.inl hr)
def mergeLo':Array Keyed->Array Keyed->StateT SortSt Sem (Array Keyed):=sortPriv% PySem.Builtin.mergeLo
def mergeHi':Array Keyed->Array Keyed->StateT SortSt Sem (Array Keyed):=sortPriv% PySem.Builtin.mergeHi
def setMG (g:Nat):StateT SortSt Sem Unit:=(sortPriv% PySem.Builtin.setMinGallop) g
abbrev gst (z:SortSt) (g:Nat):SortSt:=SortSt.mk' (kindOf z) (arrOf z) (pendingOf z) g (failedOf z)
theorem wE (g:Nat):setMG g=modify fun z=>gst z g:=rfl
abbrev GS:=Option (Array Keyed)×Array Keyed×Nat×Nat×Nat×Nat×Nat
abbrev OS:=Option (Array Keyed)×Array Keyed×Nat×Nat×Nat×Nat
abbrev TSt:=Option (Array Keyed)×Array Keyed×Nat×Nat×Nat
def fin (a b o:Array Keyed) (x y:Nat):Array Keyed:=o++a.extract x a.size++b.extract y b.size
def finA (a b o:Array Keyed) (x y:Nat):Array Keyed:=o++b.extract y b.size++a.extract x a.size
def lo3 (a b o:Array Keyed) (x y mg ca cb:Nat):StateT SortSt Sem (ForInStep GS):=do
 let p <- elem' a x
 if (x+1+1 == a.size)=true then pure (ForInStep.done (some (finA a b (o.push p) (x+1) y),o.push p,x+1,y,mg,ca,cb))
 else if (decide (ca < 7) && decide (cb < 7))=true then pure (ForInStep.done (none,o.push p,x+1,y,mg,ca,cb))
 else pure (ForInStep.yield (none,o.push p,x+1,y,mg,ca,cb))
def lo2 (a b o:Array Keyed) (x y mg ca cb:Nat):StateT SortSt Sem (ForInStep GS):=do
 let p <- elem' b y
 if (y+1 == b.size)=true then pure (ForInStep.done (some (fin a b (o.push p) x (y+1)),o.push p,x,y+1,mg,ca,cb))
 else do
  let q <- elem' a x
  let r <- gallop' true q b (y+1) (b.size - (y+1)) 0
  match r with
   | some k =>
     if k > 0 then
      if (y+1+k == b.size)=true then pure (ForInStep.done (some (fin a b (o.push p++b.extract (y+1) (y+1+k)) x (y+1+k)),o.push p++b.extract (y+1) (y+1+k),x,y+1+k,mg,ca,k))
      else lo3 a b (o.push p++b.extract (y+1) (y+1+k)) x (y+1+k) mg ca k
     else lo3 a b (o.push p) x (y+1) mg ca k
   | _=>pure (ForInStep.done (some (fin a b (o.push p) x (y+1)),o.push p,x,y+1,mg,ca,cb))
def lo1 (a b o:Array Keyed) (x y mg ca cb:Nat):StateT SortSt Sem (ForInStep GS):=do
 setMG mg
 let q <- elem' b y
 let r <- gallop' false q a x (a.size - x) 0
 match r with
  | some k =>
    if k > 0 then
     if (x+k+1 == a.size)=true then pure (ForInStep.done (some (finA a b (o++a.extract x (x+k)) (x+k) y),o++a.extract x (x+k),x+k,y,mg,k,cb))
     else if (x+k == a.size)=true then pure (ForInStep.done (some (fin a b (o++a.extract x (x+k)) (x+k) y),o++a.extract x (x+k),x+k,y,mg,k,cb))
     else lo2 a b (o++a.extract x (x+k)) (x+k) y mg k cb
    else lo2 a b o x y mg k cb
  | _=>pure (ForInStep.done (some (fin a b o x y),o,x,y,mg,ca,cb))
def loO (a b:Array Keyed) (mg:Nat) (c:OS):StateT SortSt Sem (ForInStep OS):=do
 let p <- elem' b c.2.2.2.1
 let q <- elem' a c.2.2.1
 let r <- lt' p q
 match r with
  | some bw =>
    if bw=true then do
     let p <- elem' b c.2.2.2.1
     if (c.2.2.2.1+1 == b.size)=true then pure (ForInStep.done (some (fin a b (c.2.1.push p) c.2.2.1 (c.2.2.2.1+1)),c.2.1.push p,c.2.2.1,c.2.2.2.1+1,0,c.2.2.2.2.2+1))
     else if c.2.2.2.2.2+1 ≥ mg then pure (ForInStep.done (none,c.2.1.push p,c.2.2.1,c.2.2.2.1+1,0,c.2.2.2.2.2+1))
     else pure (ForInStep.yield (none,c.2.1.push p,c.2.2.1,c.2.2.2.1+1,0,c.2.2.2.2.2+1))
    else do
     let p <- elem' a c.2.2.1
     if (c.2.2.1+1+1 == a.size)=true then pure (ForInStep.done (some (finA a b (c.2.1.push p) (c.2.2.1+1) c.2.2.2.1),c.2.1.push p,c.2.2.1+1,c.2.2.2.1,c.2.2.2.2.1+1,0))
     else if c.2.2.2.2.1+1 ≥ mg then pure (ForInStep.done (none,c.2.1.push p,c.2.2.1+1,c.2.2.2.1,c.2.2.2.2.1+1,0))
     else pure (ForInStep.yield (none,c.2.1.push p,c.2.2.1+1,c.2.2.2.1,c.2.2.2.2.1+1,0))
  | _=>pure (ForInStep.done (some (fin a b c.2.1 c.2.2.1 c.2.2.2.1),c.2.1,c.2.2.1,c.2.2.2.1,c.2.2.2.2.1,c.2.2.2.2.2))
def loT (a b:Array Keyed) (c:TSt):StateT SortSt Sem (ForInStep TSt):=do
 let d <- forIn [0:a.size+b.size] ((none,c.2.1,c.2.2.1,c.2.2.2.1,0,0):OS) fun _ d=>loO a b c.2.2.2.2 d
 match d.1 with
  | some r=>pure (ForInStep.done (some r,d.2.1,d.2.2.1,d.2.2.2.1,c.2.2.2.2))
  | none => do
    liftM (rule "list.sort.gallop")
    let e <- forIn [0:a.size+b.size] ((none,d.2.1,d.2.2.1,d.2.2.2.1,c.2.2.2.2+1,d.2.2.2.2.1,d.2.2.2.2.2):GS) fun _ e =>
     if e.2.2.2.2.1 > 1 then lo1 a b e.2.1 e.2.2.1 e.2.2.2.1 (e.2.2.2.2.1 - 1) e.2.2.2.2.2.1 e.2.2.2.2.2.2 else lo1 a b e.2.1 e.2.2.1 e.2.2.2.1 e.2.2.2.2.1 e.2.2.2.2.2.1 e.2.2.2.2.2.2
    match e.1 with
     | some r=>pure (ForInStep.done (some r,e.2.1,e.2.2.1,e.2.2.2.1,e.2.2.2.2.1))
     | none => do
       setMG (e.2.2.2.2.1+1)
       pure (ForInStep.yield (none,e.2.1,e.2.2.1,e.2.2.2.1,e.2.2.2.2.1+1))
def mLo (a b:Array Keyed):StateT SortSt Sem (Array Keyed):=do
 liftM (rule "list.sort.merge-lo")
 let p <- elem' b 0
 if (1 == b.size)=true then pure (fin a b #[p] 0 1)
 else if (0+1 == a.size)=true then pure (finA a b #[p] 0 1)
 else do
  let z <- get
  let c <- forIn [0:a.size+b.size] ((none,#[p],0,1,gallopOf z):TSt) fun _ c=>loT a b c
  match c.1 with
   | some r=>pure r
   | none=>liftM (unsupported "internal:list.sort.merge-bound" : Sem (Array Keyed))
theorem mergeLo_is (a b:Array Keyed):mergeLo' a b=mLo a b:=by kernel_rfl
structure Two (a b:Array Keyed):Prop where
 sa:Sd a.toList
 sb:Sd b.toList
 ia:∀ p∈a.toList,IsI p
 ib:∀ p∈b.toList,IsI p
 na:1<=a.size
 nb:1<=b.size
 fst:∀ p∈a.toList,∀ q,b.toList[0]? = some q->ky q<=ky p
 lst:∀ q∈b.toList,∀ p,a.toList[a.toList.length - 1]? = some p->ky q<=ky p
theorem fin_list (a b o:Array Keyed) (x y:Nat):(fin a b o x y).toList=o.toList++a.toList.drop x++b.toList.drop y:=by
 unfold fin
 simp only [Array.toList_append,Array.toList_extract,List.extract_eq_drop_take]
 congr 1
 · congr 1
   rw [List.take_of_length_le (by simp)]
 · rw [List.take_of_length_le (by simp)]
theorem finA_list (a b o:Array Keyed) (x y:Nat):(finA a b o x y).toList=o.toList++b.toList.drop y++a.toList.drop x:=by
 unfold finA
 simp only [Array.toList_append,Array.toList_extract,List.extract_eq_drop_take]
 congr 1
 · congr 1
   rw [List.take_of_length_le (by simp)]
 · rw [List.take_of_length_le (by simp)]
theorem wF (a:Array Keyed) (x k:Nat):(a.extract x (x+k)).toList=(a.toList.drop x).take k:=by
 simp only [Array.toList_extract,List.extract_eq_drop_take]
 congr 1
 omega
theorem wK {l:List Keyed} {x:Nat} {p:Keyed} (h:l[x]? = some p):[p]=(l.drop x).take 1:=by
 obtain ⟨h1,h2⟩:=List.getElem?_eq_some_iff.mp h
 rw [List.drop_eq_getElem_cons h1,h2]; rfl
theorem jE {a:Array Keyed} {x:Nat} (h:x < a.size):∃ p,a[x]? = some p/\a.toList[x]? = some p/\p∈a.toList :=
 ⟨a[x],getElem?_pos a x h,by rw [Array.getElem?_toList]; exact getElem?_pos a x h,by simp⟩
section
variable {prog:Program} {w:World} {A:Around} {E:Value->Shared->Prop} {s:Shared} {a b:Array Keyed}
structure In (a b o:Array Keyed) (x y:Nat):Prop where
 mg:Mg a.toList b.toList o.toList x y
 x1:x+1 < a.size
 y1:y < b.size
def Told (a b:Array Keyed) (r:Array Keyed):Prop:=Dn a.toList b.toList r.toList
theorem Mg.pushA {o:Array Keyed} {x y:Nat} {p:Keyed} (T:Two a b) (m:Mg a.toList b.toList o.toList x y) (hp:a.toList[x]? = some p) (h:∀ q∈b.toList.drop y,ky p<=ky q) :
  Mg a.toList b.toList (o.push p).toList (x+1) y:=by
 rw [Array.toList_push]
 refine m.stepA T.sa [p] 1 (wK hp) ?_ fun q hq=>by rw [List.mem_singleton.mp hq]; exact h
 obtain ⟨h1,_⟩:=List.getElem?_eq_some_iff.mp hp
 omega
theorem Mg.pushB {o:Array Keyed} {x y:Nat} {p:Keyed} (T:Two a b) (m:Mg a.toList b.toList o.toList x y) (hp:b.toList[y]? = some p) (h:∀ q∈a.toList.drop x,ky p<=ky q) :
  Mg a.toList b.toList (o.push p).toList x (y+1):=by
 rw [Array.toList_push]
 refine m.stepB T.sb [p] 1 (wK hp) ?_ fun q hq=>by rw [List.mem_singleton.mp hq]; exact h
 obtain ⟨h1,_⟩:=List.getElem?_eq_some_iff.mp hp
 omega
theorem Mg.told {o:Array Keyed} {x y:Nat} (T:Two a b) (m:Mg a.toList b.toList o.toList x y) (h:x=a.size \/ y=b.size):Told a b (fin a b o x y):=by
 unfold Told; rw [fin_list]; exact m.endF T.sa T.sb (by simpa using h)
theorem Mg.toldA {o:Array Keyed} {x y:Nat} (T:Two a b) (m:Mg a.toList b.toList o.toList x y) (h:x+1=a.size):Told a b (finA a b o x y):=by
 unfold Told; rw [finA_list]; exact m.endA T.sb (by simpa using h) T.lst
def GOk (a b:Array Keyed) (st:SortSt) (n:Nat) (c:GS) (z:SortSt):Prop :=
 (∃ g,z=gst st g)/\((∃ r o x y mg ca cb,c=(some r,o,x,y,mg,ca,cb)/\Told a b r) \/ ∃ o x y mg ca cb,c=(none,o,x,y,mg,ca,cb)/\In a b o x y/\n<=x+y)
def OOk (a b:Array Keyed) (st:SortSt) (n:Nat) (c:OS) (z:SortSt):Prop :=
 (∃ g,z=gst st g)/\((∃ r o x y ca cb,c=(some r,o,x,y,ca,cb)/\Told a b r) \/ ∃ o x y ca cb,c=(none,o,x,y,ca,cb)/\In a b o x y/\n<=x+y)
theorem wp_lo3 {st:SortSt} {o:Array Keyed} {x y mg ca cb g n:Nat} {Q:ForInStep GS->SortSt->Prop} (T:Two a b) (m:In a b o x y) (hn:n<=x+y+1) (hle:∀ p,a.toList[x]? = some p->∀ q∈b.toList.drop y,ky p<=ky q)
  (hd:∀ c,GOk a b st n c (gst st g)->Q (.done c) (gst st g)) (hy:∀ o x y mg ca cb,In a b o x y->n<=x+y->Q (.yield (none,o,x,y,mg,ca,cb)) (gst st g)) :
  wpS (model prog w) A E s (lo3 a b o x y mg ca cb) Q (gst st g):=by
 obtain ⟨p,p1,p2,p3⟩:=jE (a:=a) (x:=x) (by have:=m.x1; omega)
 have m':=m.mg.pushA T p2 (hle p p2)
 unfold lo3
 refine wpS_bind (qP p1 ?_)
 by_cases h1:x+1+1=a.size
 · rw [if_pos (by simpa using h1)]
   exact wpS_pure (hd _ ⟨⟨g,rfl⟩,.inl ⟨_,_,_,_,_,_,_,rfl,m'.toldA T h1⟩⟩)
 · rw [if_neg (by simpa using h1)]
   have hin:In a b (o.push p) (x+1) y:=⟨m',by have:=m.x1; omega,m.y1⟩
   split
   · exact wpS_pure (hd _ ⟨⟨g,rfl⟩,.inr ⟨_,_,_,_,_,_,rfl,hin,by omega⟩⟩)
   · exact wpS_pure (hy _ _ _ _ _ _ hin (by omega))
theorem wp_lo2 {st:SortSt} {o:Array Keyed} {x y mg ca cb g n:Nat} {Q:ForInStep GS->SortSt->Prop} (hk:kindOf st=oneType') (T:Two a b) (m:In a b o x y) (hn:n<=x+y+1) (hle:∀ p,b.toList[y]? = some p->∀ q∈a.toList.drop x,ky p<=ky q)
  (hd:∀ c,GOk a b st n c (gst st g)->Q (.done c) (gst st g)) (hy:∀ o x y mg ca cb,In a b o x y->n<=x+y->Q (.yield (none,o,x,y,mg,ca,cb)) (gst st g)) :
  wpS (model prog w) A E s (lo2 a b o x y mg ca cb) Q (gst st g):=by
 obtain ⟨p,p1,p2,p3⟩:=jE (a:=b) (x:=y) m.y1
 obtain ⟨q,q1,q2,q3⟩:=jE (a:=a) (x:=x) (by have:=m.x1; omega)
 have m':=m.mg.pushB T p2 (hle p p2)
 unfold lo2
 refine wpS_bind (qP p1 ?_)
 by_cases h1:y+1=b.size
 · rw [if_pos (by simpa using h1)]
   exact wpS_pure (hd _ ⟨⟨g,rfl⟩,.inl ⟨_,_,_,_,_,_,_,rfl,m'.told T (.inr h1)⟩⟩)
 · rw [if_neg (by simpa using h1)]
   have hy1:y+1 < b.size:=by have:=m.y1; omega
   refine wpS_bind (qP q1 ?_)
   refine wpS_bind (yM hk (T.ia q q3) T.ib (by omega) (vG T.sb (by omega)) (by omega) fun k k1 k2 k3=>?_)
   simp only [if_true] at k2 k3
   dsimp only
   have hrest:∀ j,j=y+1+k->∀ p',a.toList[x]? = some p'->∀ u∈b.toList.drop j,ky p'<=ky u:=by
    rintro j rfl p' hp' u hu
    rw [q2] at hp'; cases hp'
    obtain ⟨i,i1,i2⟩:=vI hu
    obtain ⟨i3,i4⟩:=yB i2
    rw [<- i4]; exact k3 i i1 (by omega)
   by_cases hk0:k > 0
   · rw [if_pos hk0]
     have m2:Mg a.toList b.toList (o.push p++b.extract (y+1) (y+1+k)).toList x (y+1+k):=by
      rw [Array.toList_append]
      refine m'.stepB T.sb _ k (wF b (y+1) k) (by rw [Array.length_toList]; omega) fun u hu v hv=>?_
      rw [wF] at hu
      obtain ⟨i,i1,i2,i3⟩:=jM hu
      obtain ⟨i4,i5⟩:=yB i3
      have:=k2 i i1 i2
      have h2:=vP T.sa q2 v hv
      omega
     by_cases h2:y+1+k=b.size
     · rw [if_pos (by simpa using h2)]
       exact wpS_pure (hd _ ⟨⟨g,rfl⟩,.inl ⟨_,_,_,_,_,_,_,rfl,m2.told T (.inr h2)⟩⟩)
     · rw [if_neg (by simpa using h2)]
       exact wp_lo3 T ⟨m2,m.x1,by omega⟩ (by omega) (hrest _ rfl) hd hy
   · rw [if_neg hk0]
     exact wp_lo3 T ⟨m',m.x1,hy1⟩ (by omega) (hrest _ (by omega)) hd hy
theorem wp_lo1 {st:SortSt} {o:Array Keyed} {x y mg ca cb g n:Nat} {Q:ForInStep GS->SortSt->Prop} (hk:kindOf st=oneType') (T:Two a b) (m:In a b o x y) (hn:n<=x+y+1)
  (hd:∀ c z,GOk a b st n c z->Q (.done c) z) (hy:∀ o x y mg ca cb g,In a b o x y->n<=x+y->Q (.yield (none,o,x,y,mg,ca,cb)) (gst st g)) :
  wpS (model prog w) A E s (lo1 a b o x y mg ca cb) Q (gst st g):=by
 obtain ⟨p,p1,p2,p3⟩:=jE (a:=b) (x:=y) m.y1
 have hx1:=m.x1
 unfold lo1
 rw [wE]
 refine wpS_bind (wpS_modify ?_)
 show wpS (model prog w) A E s _ _ (gst st mg)
 refine wpS_bind (qP p1 ?_)
 refine wpS_bind (yM hk (T.ib p p3) T.ia (by omega) (vG T.sa (by omega)) (by omega) fun k k1 k2 k3=>?_)
 simp only [Bool.false_eq_true,if_false] at k2 k3
 dsimp only
 have hrest:∀ j,j=x+k->∀ p',b.toList[y]? = some p'->∀ u∈a.toList.drop j,ky p'<=ky u:=by
  rintro j rfl p' hp' u hu
  rw [p2] at hp'; cases hp'
  obtain ⟨i,i1,i2⟩:=vI hu
  obtain ⟨i3,i4⟩:=yB i2
  rw [<- i4]; exact Int.le_of_lt (k3 i i1 (by omega))
 by_cases hk0:k > 0
 · rw [if_pos hk0]
   have m2:Mg a.toList b.toList (o++a.extract x (x+k)).toList (x+k) y:=by
    rw [Array.toList_append]
    refine m.mg.stepA T.sa _ k (wF a x k) (by rw [Array.length_toList]; omega) fun u hu v hv=>?_
    rw [wF] at hu
    obtain ⟨i,i1,i2,i3⟩:=jM hu
    obtain ⟨i4,i5⟩:=yB i3
    have:=k2 i i1 i2
    have h2:=vP T.sb p2 v hv
    omega
   by_cases h1:x+k+1=a.size
   · rw [if_pos (by simpa using h1)]
     exact wpS_pure (hd _ _ ⟨⟨_,rfl⟩,.inl ⟨_,_,_,_,_,_,_,rfl,m2.toldA T h1⟩⟩)
   rw [if_neg (by simpa using h1)]
   by_cases h2:x+k=a.size
   · rw [if_pos (by simpa using h2)]
     exact wpS_pure (hd _ _ ⟨⟨_,rfl⟩,.inl ⟨_,_,_,_,_,_,_,rfl,m2.told T (.inl h2)⟩⟩)
   rw [if_neg (by simpa using h2)]
   exact wp_lo2 hk T ⟨m2,by omega,m.y1⟩ (by omega) (hrest _ rfl) (fun c h=>hd c _ h) fun o x y mg' ca cb=>hy o x y mg' ca cb mg
 · rw [if_neg hk0]
   exact wp_lo2 hk T m hn (hrest _ (by omega)) (fun c h=>hd c _ h) fun o x y mg' ca cb=>hy o x y mg' ca cb mg
theorem wp_loO {st:SortSt} {o:Array Keyed} {x y ca cb mg g n:Nat} {Q:ForInStep OS->SortSt->Prop} (hk:kindOf st=oneType') (T:Two a b) (m:In a b o x y) (hn:n<=x+y+1)
  (hd:∀ c,OOk a b st n c (gst st g)->Q (.done c) (gst st g)) (hy:∀ o x y ca cb,In a b o x y->n<=x+y->Q (.yield (none,o,x,y,ca,cb)) (gst st g)) :
  wpS (model prog w) A E s (loO a b mg (none,o,x,y,ca,cb)) Q (gst st g):=by
 obtain ⟨p,p1,p2,p3⟩:=jE (a:=b) (x:=y) m.y1
 obtain ⟨q,q1,q2,q3⟩:=jE (a:=a) (x:=x) (by have:=m.x1; omega)
 have hx1:=m.x1
 have hy1:=m.y1
 unfold loO
 dsimp only
 refine wpS_bind (qP p1 (wpS_bind (qP q1 ?_)))
 refine wpS_bind (wp_lt hk (T.ib p p3) (T.ia q q3) ?_)
 dsimp only
 by_cases hl:ky p < ky q
 · rw [if_pos (by simpa using hl)]
   have m':=m.mg.pushB T p2 fun u hu=>Int.le_trans (Int.le_of_lt hl) (vP T.sa q2 u hu)
   refine wpS_bind (qP p1 ?_)
   by_cases h1:y+1=b.size
   · rw [if_pos (by simpa using h1)]
     exact wpS_pure (hd _ ⟨⟨_,rfl⟩,.inl ⟨_,_,_,_,_,_,rfl,m'.told T (.inr h1)⟩⟩)
   rw [if_neg (by simpa using h1)]
   have hin:In a b (o.push p) x (y+1):=⟨m',hx1,by omega⟩
   split
   · exact wpS_pure (hd _ ⟨⟨_,rfl⟩,.inr ⟨_,_,_,_,_,rfl,hin,by omega⟩⟩)
   · exact wpS_pure (hy _ _ _ _ _ hin (by omega))
 · rw [if_neg (by simpa using hl)]
   have m':=m.mg.pushA T q2 fun u hu=>Int.le_trans (Int.not_lt.mp hl) (vP T.sb p2 u hu)
   refine wpS_bind (qP q1 ?_)
   by_cases h1:x+1+1=a.size
   · rw [if_pos (by simpa using h1)]
     exact wpS_pure (hd _ ⟨⟨_,rfl⟩,.inl ⟨_,_,_,_,_,_,rfl,m'.toldA T h1⟩⟩)
   rw [if_neg (by simpa using h1)]
   have hin:In a b (o.push q) (x+1) y:=⟨m',by omega,hy1⟩
   split
   · exact wpS_pure (hd _ ⟨⟨_,rfl⟩,.inr ⟨_,_,_,_,_,rfl,hin,by omega⟩⟩)
   · exact wpS_pure (hy _ _ _ _ _ hin (by omega))
theorem wp_loT {st:SortSt} {o:Array Keyed} {x y mg g:Nat} {Q:ForInStep TSt->SortSt->Prop} (hk:kindOf st=oneType') (T:Two a b) (m:In a b o x y)
  (hd:∀ r o x y mg g,Told a b r->Q (.done (some r,o,x,y,mg)) (gst st g)) (hy:∀ o' x' y' mg g,In a b o' x' y'->x+y+1<=x'+y'->Q (.yield (none,o',x',y',mg)) (gst st g)) :
  wpS (model prog w) A E s (loT a b (none,o,x,y,mg)) Q (gst st g):=by
 have hna:=T.na
 have hnb:=T.nb
 unfold loT
 dsimp only
 refine wpS_bind (wpS_mono (wpS_forRange (I:=fun i c z=>∃ o' x' y' ca cb g,c=(none,o',x',y',ca,cb)/\z=gst st g/\In a b o' x' y'/\x+y+i<=x'+y')
  (Q:=fun c z=>OOk a b st (x+y+1) c z) ?s1 ?s2 ⟨o,x,y,0,0,g,rfl,rfl,m,by omega⟩) ?s3)
 case s2 =>
  rintro c z ⟨o',x',y',ca,cb,g',rfl,rfl,m',hle⟩
  exact ⟨⟨_,rfl⟩,.inr ⟨_,_,_,_,_,rfl,m',by omega⟩⟩
 case s1 =>
  rintro i c z _ hi ⟨o',x',y',ca,cb,g',rfl,rfl,m',hle⟩
  refine wp_loO (n:=x+y+(i+1)) hk T m' (by omega) (fun c hc=>?_) fun o2 x2 y2 ca cb m2 h2=>⟨o2,x2,y2,ca,cb,g',rfl,rfl,m2,h2⟩
  obtain ⟨h1,h2⟩:=hc
  refine ⟨h1,?_⟩
  rcases h2 with h2 | ⟨o2,x2,y2,ca,cb,e,m2,h2⟩
  · exact .inl h2
  · exact .inr ⟨o2,x2,y2,ca,cb,e,m2,by omega⟩
 case s3 =>
  rintro c z ⟨⟨g',rfl⟩,hc⟩
  rcases hc with ⟨r,o2,x2,y2,ca,cb,rfl,hr⟩ | ⟨o2,x2,y2,ca,cb,rfl,m2,h2⟩
  · dsimp only
    exact wpS_pure (hd _ _ _ _ _ _ hr)
  · dsimp only
    refine wpS_bind (wpS_lift (wpAny_rule ⟨rfl,?_⟩))
    refine wpS_bind (wpS_mono (wpS_forRange (I:=fun i c z=>∃ o' x' y' mg ca cb g,c=(none,o',x',y',mg,ca,cb)/\z=gst st g/\In a b o' x' y'/\x+y+1<=x'+y')
     (Q:=fun c z=>GOk a b st (x+y+1) c z) ?s4 ?s5 ⟨o2,x2,y2,mg+1,ca,cb,g',rfl,rfl,m2,h2⟩) ?s6)
    case s5 =>
     rintro c z ⟨o',x',y',mg',ca,cb,g',rfl,rfl,m',hle⟩
     exact ⟨⟨_,rfl⟩,.inr ⟨_,_,_,_,_,_,rfl,m',by omega⟩⟩
    case s4 =>
     rintro i c z _ hi ⟨o',x',y',mg',ca,cb,g',rfl,rfl,m',hle⟩
     dsimp only
     split
     · exact wp_lo1 (n:=x+y+1) hk T m' (by omega) (fun c z hc=>hc) fun o2 x2 y2 mg ca cb g m2 h2=>⟨o2,x2,y2,mg,ca,cb,g,rfl,rfl,m2,h2⟩
     · exact wp_lo1 (n:=x+y+1) hk T m' (by omega) (fun c z hc=>hc) fun o2 x2 y2 mg ca cb g m2 h2=>⟨o2,x2,y2,mg,ca,cb,g,rfl,rfl,m2,h2⟩
    case s6 =>
     rintro c z ⟨⟨g',rfl⟩,hc⟩
     rcases hc with ⟨r,o2,x2,y2,mg',ca,cb,rfl,hr⟩ | ⟨o2,x2,y2,mg',ca,cb,rfl,m2,h2⟩
     · dsimp only
       exact wpS_pure (hd _ _ _ _ _ _ hr)
     · dsimp only
       rw [wE]
       exact wpS_bind (wpS_modify (wpS_pure (hy _ _ _ _ _ m2 h2)))
theorem wp_mergeLo {st:SortSt} {Q:Array Keyed->SortSt->Prop} (hk:kindOf st=oneType') (T:Two a b) (h:∀ r g,Told a b r->Q r (gst st g)) :
  wpS (model prog w) A E s (mergeLo' a b) Q st:=by
 have hna:=T.na
 have hnb:=T.nb
 obtain ⟨p,p1,p2,p3⟩:=jE (a:=b) (x:=0) (by omega)
 have m0:Mg a.toList b.toList [] 0 0:=⟨Nat.zero_le _,Nat.zero_le _,by simp,List.Pairwise.nil,fun p hp=>absurd hp (by simp)⟩
 have m1:Mg a.toList b.toList (#[]:Array Keyed).toList 0 0:=m0
 have m:Mg a.toList b.toList (#[p]:Array Keyed).toList 0 1:=m1.pushB T p2 fun q hq=>T.fst q (List.mem_of_mem_drop hq) p p2
 rw [mergeLo_is]
 unfold mLo
 refine wpS_bind (wpS_lift (wpAny_rule ⟨rfl,?_⟩))
 refine wpS_bind (qP p1 ?_)
 by_cases h1:1=b.size
 · rw [if_pos (by simpa using h1)]
   exact wpS_pure (h _ (gallopOf st) (m.told T (.inr h1)))
 rw [if_neg (by simpa using h1)]
 by_cases h2:0+1=a.size
 · rw [if_pos (by simpa using h2)]
   exact wpS_pure (h _ (gallopOf st) (m.toldA T h2))
 rw [if_neg (by simpa using h2)]
 refine wpS_bind (wpS_get ?_)
 refine wpS_bind (wpS_mono (wpS_forRange (I:=fun i c z=>∃ o x y mg g,c=(none,o,x,y,mg)/\z=gst st g/\In a b o x y/\i+1<=x+y)
  (Q:=fun c z=>∃ r o x y mg g,c=(some r,o,x,y,mg)/\z=gst st g/\Told a b r) ?s1 ?s2 ⟨#[p],0,1,_,gallopOf st,rfl,rfl,⟨m,by omega,by omega⟩,by omega⟩) ?s3)
 case s2 =>
  rintro c z ⟨o,x,y,mg,g,rfl,rfl,m,hle⟩
  have:=m.x1
  have:=m.y1
  omega
 case s1 =>
  rintro i c z _ hi ⟨o,x,y,mg,g,rfl,rfl,m,hle⟩
  exact wp_loT hk T m (fun r o x y mg g hr=>⟨r,o,x,y,mg,g,rfl,rfl,hr⟩) fun o x y mg g m h=>⟨o,x,y,mg,g,rfl,rfl,m,by omega⟩
 case s3 =>
  rintro c z ⟨r,o,x,y,mg,g,rfl,rfl,hr⟩
  exact wpS_pure (h r g hr)
end
end TS
namespace TS
open PySem PyProof.Rows
set_option autoImplicit false
def fiH (a b o:Array Keyed) (x y:Nat):Array Keyed:=a.extract 0 x++b.extract 0 y++o.reverse
def fiB (a b o:Array Keyed) (x y:Nat):Array Keyed:=b.extract 0 y++a.extract 0 x++o.reverse
abbrev GH:=Option (Array Keyed)×Nat×Nat×Array Keyed×Nat×Nat×Nat
abbrev OH:=Option (Array Keyed)×Nat×Nat×Array Keyed×Nat×Nat
abbrev TH:=Option (Array Keyed)×Nat×Nat×Array Keyed×Nat
def hi3 (a b o:Array Keyed) (x y mg ca cb:Nat):StateT SortSt Sem (ForInStep GH):=do
 let p <- elem' a (x - 1)
 if (x - 1 == 0)=true then pure (ForInStep.done (some (fiH a b (o.push p) (x - 1) y),x - 1,y,o.push p,mg,ca,cb))
 else if (decide (ca < 7) && decide (cb < 7))=true then pure (ForInStep.done (none,x - 1,y,o.push p,mg,ca,cb))
 else pure (ForInStep.yield (none,x - 1,y,o.push p,mg,ca,cb))
def hi2 (a b o:Array Keyed) (x y mg ca cb:Nat):StateT SortSt Sem (ForInStep GH):=do
 let p <- elem' b (y - 1)
 if (y - 1 == 1)=true then pure (ForInStep.done (some (fiB a b (o.push p) x (y - 1)),x,y - 1,o.push p,mg,ca,cb))
 else do
  let q <- elem' a (x - 1)
  let r <- gallop' true q b 0 (y - 1) (y - 1 - 1)
  match r with
   | some t =>
     if y - 1 - t > 0 then
      if (t == 1)=true then pure (ForInStep.done (some (fiB a b (o.push p++(b.extract t (y - 1)).reverse) x t),x,t,o.push p++(b.extract t (y - 1)).reverse,mg,ca,y - 1 - t))
      else if (t == 0)=true then pure (ForInStep.done (some (fiH a b (o.push p++(b.extract t (y - 1)).reverse) x t),x,t,o.push p++(b.extract t (y - 1)).reverse,mg,ca,y - 1 - t))
      else hi3 a b (o.push p++(b.extract t (y - 1)).reverse) x t mg ca (y - 1 - t)
     else hi3 a b (o.push p) x (y - 1) mg ca (y - 1 - t)
   | _=>pure (ForInStep.done (some (fiH a b (o.push p) x (y - 1)),x,y - 1,o.push p,mg,ca,cb))
def hi1 (a b o:Array Keyed) (x y mg ca cb:Nat):StateT SortSt Sem (ForInStep GH):=do
 setMG mg
 let q <- elem' b (y - 1)
 let r <- gallop' false q a 0 x (x - 1)
 match r with
  | some t =>
    if x - t > 0 then
     if (t == 0)=true then pure (ForInStep.done (some (fiH a b (o++(a.extract t x).reverse) t y),t,y,o++(a.extract t x).reverse,mg,x - t,cb))
     else hi2 a b (o++(a.extract t x).reverse) t y mg (x - t) cb
    else hi2 a b o x y mg (x - t) cb
  | _=>pure (ForInStep.done (some (fiH a b o x y),x,y,o,mg,ca,cb))
def hiO (a b:Array Keyed) (mg:Nat) (c:OH):StateT SortSt Sem (ForInStep OH):=do
 let p <- elem' b (c.2.2.1 - 1)
 let q <- elem' a (c.2.1 - 1)
 let r <- lt' p q
 match r with
  | some aw =>
    if aw=true then do
     let p <- elem' a (c.2.1 - 1)
     if (c.2.1 - 1 == 0)=true then pure (ForInStep.done (some (fiH a b (c.2.2.2.1.push p) (c.2.1 - 1) c.2.2.1),c.2.1 - 1,c.2.2.1,c.2.2.2.1.push p,c.2.2.2.2.1+1,0))
     else if c.2.2.2.2.1+1 ≥ mg then pure (ForInStep.done (none,c.2.1 - 1,c.2.2.1,c.2.2.2.1.push p,c.2.2.2.2.1+1,0))
     else pure (ForInStep.yield (none,c.2.1 - 1,c.2.2.1,c.2.2.2.1.push p,c.2.2.2.2.1+1,0))
    else do
     let p <- elem' b (c.2.2.1 - 1)
     if (c.2.2.1 - 1 == 1)=true then pure (ForInStep.done (some (fiB a b (c.2.2.2.1.push p) c.2.1 (c.2.2.1 - 1)),c.2.1,c.2.2.1 - 1,c.2.2.2.1.push p,0,c.2.2.2.2.2+1))
     else if c.2.2.2.2.2+1 ≥ mg then pure (ForInStep.done (none,c.2.1,c.2.2.1 - 1,c.2.2.2.1.push p,0,c.2.2.2.2.2+1))
     else pure (ForInStep.yield (none,c.2.1,c.2.2.1 - 1,c.2.2.2.1.push p,0,c.2.2.2.2.2+1))
  | _=>pure (ForInStep.done (some (fiH a b c.2.2.2.1 c.2.1 c.2.2.1),c.2.1,c.2.2.1,c.2.2.2.1,c.2.2.2.2.1,c.2.2.2.2.2))
def hiT (a b:Array Keyed) (c:TH):StateT SortSt Sem (ForInStep TH):=do
 let d <- forIn [0:a.size+b.size] ((none,c.2.1,c.2.2.1,c.2.2.2.1,0,0):OH) fun _ d=>hiO a b c.2.2.2.2 d
 match d.1 with
  | some r=>pure (ForInStep.done (some r,d.2.1,d.2.2.1,d.2.2.2.1,c.2.2.2.2))
  | none => do
    liftM (rule "list.sort.gallop")
    let e <- forIn [0:a.size+b.size] ((none,d.2.1,d.2.2.1,d.2.2.2.1,c.2.2.2.2+1,d.2.2.2.2.1,d.2.2.2.2.2):GH) fun _ e =>
     if e.2.2.2.2.1 > 1 then hi1 a b e.2.2.2.1 e.2.1 e.2.2.1 (e.2.2.2.2.1 - 1) e.2.2.2.2.2.1 e.2.2.2.2.2.2 else hi1 a b e.2.2.2.1 e.2.1 e.2.2.1 e.2.2.2.2.1 e.2.2.2.2.2.1 e.2.2.2.2.2.2
    match e.1 with
     | some r=>pure (ForInStep.done (some r,e.2.1,e.2.2.1,e.2.2.2.1,e.2.2.2.2.1))
     | none => do
       setMG (e.2.2.2.2.1+1)
       pure (ForInStep.yield (none,e.2.1,e.2.2.1,e.2.2.2.1,e.2.2.2.2.1+1))
def mHi (a b:Array Keyed):StateT SortSt Sem (Array Keyed):=do
 liftM (rule "list.sort.merge-hi")
 let p <- elem' a (a.size - 1)
 if (a.size - 1 == 0)=true then pure (fiH a b #[p] (a.size - 1) b.size)
 else if (b.size == 1)=true then pure (fiB a b #[p] (a.size - 1) b.size)
 else do
  let z <- get
  let c <- forIn [0:a.size+b.size] ((none,a.size - 1,b.size,#[p],gallopOf z):TH) fun _ c=>hiT a b c
  match c.1 with
   | some r=>pure r
   | none=>liftM (unsupported "internal:list.sort.merge-bound" : Sem (Array Keyed))
theorem mergeHi_is (a b:Array Keyed):mergeHi' a b=mHi a b:=by kernel_rfl
structure Mh (a b:List Keyed) (o:List Keyed) (x y:Nat):Prop where
 xa:x<=a.length
 yb:y<=b.length
 pm:((a.take x++b.take y)++o.reverse).Perm (a++b)
 sd:Sd o.reverse
 le:∀ p∈o,∀ q,(q∈a.take x \/ q∈b.take y)->ky q<=ky p
theorem take_two (l:List Keyed) {j x:Nat} (h:j<=x):l.take x=l.take j++(l.drop j).take (x - j):=by
 conv=>lhs; rw [show x=j+(x - j) by omega,List.take_add]
theorem Mh.stepA {a b o:List Keyed} {x y:Nat} (m:Mh a b o x y) (ha:Sd a) (t:List Keyed) (j:Nat) (ht:t=(a.drop j).take (x - j)) (hj:j<=x) (h:∀ p∈t,∀ q∈b.take y,ky q<=ky p) :
  Mh a b (o++t.reverse) j y:=by
 have e:a.take x=a.take j++t:=by rw [ht]; exact take_two a hj
 have hs:Sd (a.take j++t):=by rw [<- e]; exact List.Pairwise.sublist (List.take_sublist ..) ha
 obtain ⟨s1,s2,s3⟩:=Sd.app.mp hs
 refine ⟨Nat.le_trans hj m.xa,m.yb,?_,?_,?_⟩
 · refine List.Perm.trans ?_ m.pm
   rw [e,List.reverse_append,List.reverse_reverse,<- List.append_assoc]
   refine List.Perm.append_right _ ?_
   rw [List.append_assoc,List.append_assoc]
   exact List.Perm.append_left _ List.perm_append_comm
 · rw [List.reverse_append, List.reverse_reverse]
   exact Sd.app.mpr ⟨s2,m.sd,fun q hq p hp=>m.le p (List.mem_reverse.mp hp) q (.inl (by rw [e]; exact List.mem_append_right _ hq))⟩
 · intro p hp q hq
   rcases List.mem_append.mp hp with hp | hp
   · refine m.le p hp q ?_
     rcases hq with hq | hq
     · exact .inl (by rw [e]; exact List.mem_append_left _ hq)
     · exact .inr hq
   · rcases hq with hq | hq
     · exact s3 q hq p (List.mem_reverse.mp hp)
     · exact h p (List.mem_reverse.mp hp) q hq
theorem Mh.stepB {a b o:List Keyed} {x y:Nat} (m:Mh a b o x y) (hb:Sd b) (t:List Keyed) (j:Nat) (ht:t=(b.drop j).take (y - j)) (hj:j<=y) (h:∀ p∈t,∀ q∈a.take x,ky q<=ky p) :
  Mh a b (o++t.reverse) x j:=by
 have e:b.take y=b.take j++t:=by rw [ht]; exact take_two b hj
 have hs:Sd (b.take j++t):=by rw [<- e]; exact List.Pairwise.sublist (List.take_sublist ..) hb
 obtain ⟨s1,s2,s3⟩:=Sd.app.mp hs
 refine ⟨m.xa,Nat.le_trans hj m.yb,?_,?_,?_⟩
 · refine List.Perm.trans ?_ m.pm
   rw [e,List.reverse_append,List.reverse_reverse,<- List.append_assoc,<- List.append_assoc]
 · rw [List.reverse_append, List.reverse_reverse]
   exact Sd.app.mpr ⟨s2,m.sd,fun q hq p hp=>m.le p (List.mem_reverse.mp hp) q (.inr (by rw [e]; exact List.mem_append_right _ hq))⟩
 · intro p hp q hq
   rcases List.mem_append.mp hp with hp | hp
   · refine m.le p hp q ?_
     rcases hq with hq | hq
     · exact .inl hq
     · exact .inr (by rw [e]; exact List.mem_append_left _ hq)
   · rcases hq with hq | hq
     · exact h p (List.mem_reverse.mp hp) q hq
     · exact s3 q hq p (List.mem_reverse.mp hp)
theorem Mh.endF {a b o:List Keyed} {x y:Nat} (m:Mh a b o x y) (ha:Sd a) (hb:Sd b) (h:x=0 \/ y=0):Dn a b (a.take x++b.take y++o.reverse):=by
 refine ⟨m.pm,Sd.app.mpr ⟨?_,m.sd,fun q hq p hp=>m.le p (List.mem_reverse.mp hp) q (List.mem_append.mp hq)⟩⟩
 rcases h with h | h
 · rw [h,List.take_zero,List.nil_append]; exact List.Pairwise.sublist (List.take_sublist ..) hb
 · rw [h,List.take_zero,List.append_nil]; exact List.Pairwise.sublist (List.take_sublist ..) ha
theorem Mh.endB {a b o:List Keyed} {x y:Nat} (m:Mh a b o x y) (ha:Sd a) (h:y=1) (hf:∀ p∈a,∀ q,b[0]? = some q->ky q<=ky p):Dn a b (b.take y++a.take x++o.reverse):=by
 subst h
 refine ⟨?_,Sd.app.mpr ⟨Sd.app.mpr ⟨?_,List.Pairwise.sublist (List.take_sublist ..) ha,?_⟩,m.sd,?_⟩⟩
 · refine List.Perm.trans ?_ m.pm
   exact List.Perm.append_right _ List.perm_append_comm
 · match b with
   | []=>exact List.Pairwise.nil
   | q::r=>exact List.pairwise_singleton _ _
 · intro q hq p hp
   obtain ⟨i,i1,i2⟩:=wG hq
   have:i=0:=by omega
   subst this
   exact hf p (List.mem_of_mem_take hp) q i2
 · intro q hq p hp
   refine m.le p (List.mem_reverse.mp hp) q ?_
   rcases List.mem_append.mp hq with h | h
   · exact .inr h
   · exact .inl h
theorem fiH_list (a b o:Array Keyed) (x y:Nat):(fiH a b o x y).toList=a.toList.take x++b.toList.take y++o.toList.reverse:=by
 unfold fiH
 simp only [Array.toList_append,Array.toList_extract,List.extract_eq_drop_take,Array.toList_reverse,List.drop_zero,Nat.sub_zero]
theorem fiB_list (a b o:Array Keyed) (x y:Nat):(fiB a b o x y).toList=b.toList.take y++a.toList.take x++o.toList.reverse:=by
 unfold fiB
 simp only [Array.toList_append,Array.toList_extract,List.extract_eq_drop_take,Array.toList_reverse,List.drop_zero,Nat.sub_zero]
theorem yA (a:Array Keyed) (j x:Nat):(a.extract j x).toList=(a.toList.drop j).take (x - j):=by
 simp only [Array.toList_extract,List.extract_eq_drop_take]
section
variable {prog:Program} {w:World} {A:Around} {E:Value->Shared->Prop} {s:Shared} {a b:Array Keyed}
structure InH (a b o:Array Keyed) (x y:Nat):Prop where
 mh:Mh a.toList b.toList o.toList x y
 x1:1<=x
 y1:2<=y
theorem Mh.pushA {o:Array Keyed} {x y:Nat} {p:Keyed} (T:Two a b) (m:Mh a.toList b.toList o.toList x y) (hx:1<=x) (hp:a.toList[x - 1]? = some p) (h:∀ q∈b.toList.take y,ky q<=ky p) :
  Mh a.toList b.toList (o.push p).toList (x - 1) y:=by
 rw [Array.toList_push]
 exact m.stepA T.sa [p] (x - 1) (by rw [show x - (x - 1)=1 by omega]; exact wK hp) (by omega) fun q hq=>by rw [List.mem_singleton.mp hq]; exact h
theorem Mh.pushB {o:Array Keyed} {x y:Nat} {p:Keyed} (T:Two a b) (m:Mh a.toList b.toList o.toList x y) (hy:1<=y) (hp:b.toList[y - 1]? = some p) (h:∀ q∈a.toList.take x,ky q<=ky p) :
  Mh a.toList b.toList (o.push p).toList x (y - 1):=by
 rw [Array.toList_push]
 exact m.stepB T.sb [p] (y - 1) (by rw [show y - (y - 1)=1 by omega]; exact wK hp) (by omega) fun q hq=>by rw [List.mem_singleton.mp hq]; exact h
theorem Mh.told {o:Array Keyed} {x y:Nat} (T:Two a b) (m:Mh a.toList b.toList o.toList x y) (h:x=0 \/ y=0):Told a b (fiH a b o x y):=by
 unfold Told; rw [fiH_list]; exact m.endF T.sa T.sb h
theorem Mh.toldB {o:Array Keyed} {x y:Nat} (T:Two a b) (m:Mh a.toList b.toList o.toList x y) (h:y=1):Told a b (fiB a b o x y):=by
 unfold Told; rw [fiB_list]; exact m.endB T.sa h T.fst
def GHok (a b:Array Keyed) (st:SortSt) (n:Nat) (c:GH) (z:SortSt):Prop :=
 (∃ g,z=gst st g)/\((∃ r x y o mg ca cb,c=(some r,x,y,o,mg,ca,cb)/\Told a b r) \/ ∃ x y o mg ca cb,c=(none,x,y,o,mg,ca,cb)/\InH a b o x y/\x+y<=n)
def OHok (a b:Array Keyed) (st:SortSt) (n:Nat) (c:OH) (z:SortSt):Prop :=
 (∃ g,z=gst st g)/\((∃ r x y o ca cb,c=(some r,x,y,o,ca,cb)/\Told a b r) \/ ∃ x y o ca cb,c=(none,x,y,o,ca,cb)/\InH a b o x y/\x+y<=n)
theorem InH.xs {o:Array Keyed} {x y:Nat} (m:InH a b o x y):x - 1 < a.size:=by have:=m.mh.xa; have:=m.x1; rw [Array.length_toList] at *; omega
theorem InH.ys {o:Array Keyed} {x y:Nat} (m:InH a b o x y):y - 1 < b.size:=by have:=m.mh.yb; have:=m.y1; rw [Array.length_toList] at *; omega
theorem top_le {c:Array Keyed} (h:Sd c.toList) {x:Nat} {p:Keyed} (hx:1<=x) (hp:c.toList[x - 1]? = some p):∀ q∈c.toList.take x,ky q<=ky p:=by
 have:=sd_take h hp
 rwa [show x - 1+1=x by omega] at this
theorem wp_hi3 {st:SortSt} {o:Array Keyed} {x y mg ca cb g n:Nat} {Q:ForInStep GH->SortSt->Prop} (T:Two a b) (m:InH a b o x y) (hn:x+y<=n+1) (hle:∀ p,a.toList[x - 1]? = some p->∀ q∈b.toList.take y,ky q<=ky p)
  (hd:∀ c,GHok a b st n c (gst st g)->Q (.done c) (gst st g)) (hy:∀ x y o mg ca cb,InH a b o x y->x+y<=n->Q (.yield (none,x,y,o,mg,ca,cb)) (gst st g)) :
  wpS (model prog w) A E s (hi3 a b o x y mg ca cb) Q (gst st g):=by
 obtain ⟨p,p1,p2,p3⟩:=jE (a:=a) (x:=x - 1) m.xs
 have hx:=m.x1
 have m':=m.mh.pushA T hx p2 (hle p p2)
 unfold hi3
 refine wpS_bind (qP p1 ?_)
 by_cases h1:x - 1=0
 · rw [if_pos (by simpa using h1)]
   exact wpS_pure (hd _ ⟨⟨g,rfl⟩,.inl ⟨_,_,_,_,_,_,_,rfl,m'.told T (.inl h1)⟩⟩)
 · rw [if_neg (by simpa using h1)]
   have hin:InH a b (o.push p) (x - 1) y:=⟨m',by omega,m.y1⟩
   split
   · exact wpS_pure (hd _ ⟨⟨g,rfl⟩,.inr ⟨_,_,_,_,_,_,rfl,hin,by omega⟩⟩)
   · exact wpS_pure (hy _ _ _ _ _ _ hin (by omega))
theorem wp_hi2 {st:SortSt} {o:Array Keyed} {x y mg ca cb g n:Nat} {Q:ForInStep GH->SortSt->Prop} (hk:kindOf st=oneType') (T:Two a b) (m:InH a b o x y) (hn:x+y<=n+1) (hle:∀ p,b.toList[y - 1]? = some p->∀ q∈a.toList.take x,ky q<=ky p)
  (hd:∀ c,GHok a b st n c (gst st g)->Q (.done c) (gst st g)) (hy:∀ x y o mg ca cb,InH a b o x y->x+y<=n->Q (.yield (none,x,y,o,mg,ca,cb)) (gst st g)) :
  wpS (model prog w) A E s (hi2 a b o x y mg ca cb) Q (gst st g):=by
 obtain ⟨p,p1,p2,p3⟩:=jE (a:=b) (x:=y - 1) m.ys
 obtain ⟨q,q1,q2,q3⟩:=jE (a:=a) (x:=x - 1) m.xs
 have hx:=m.x1
 have hy2:=m.y1
 have hys:=m.ys
 have m':=m.mh.pushB T (by omega) p2 (hle p p2)
 unfold hi2
 refine wpS_bind (qP p1 ?_)
 by_cases h1:y - 1=1
 · rw [if_pos (by simpa using h1)]
   exact wpS_pure (hd _ ⟨⟨g,rfl⟩,.inl ⟨_,_,_,_,_,_,_,rfl,m'.toldB T h1⟩⟩)
 · rw [if_neg (by simpa using h1)]
   refine wpS_bind (qP q1 ?_)
   refine wpS_bind (yM hk (T.ia q q3) T.ib (by omega) (vG T.sb (by omega)) (by omega) fun t k1 k2 k3=>?_)
   simp only [if_true,Nat.zero_add] at k2 k3
   dsimp only
   have hrest:∀ j,j=t->∀ p',a.toList[x - 1]? = some p'->∀ u∈b.toList.take j,ky u<=ky p':=by
    rintro j rfl p' hp' u hu
    rw [q2] at hp'; cases hp'
    obtain ⟨i,i1,i2⟩:=wG hu
    obtain ⟨i3,i4⟩:=yB i2
    rw [<- i4]; exact Int.le_of_lt (k2 i (Nat.zero_le _) i1)
   by_cases hk0:y - 1 - t > 0
   · rw [if_pos hk0]
     have m2:Mh a.toList b.toList (o.push p++(b.extract t (y - 1)).reverse).toList x t:=by
      rw [Array.toList_append,Array.toList_reverse]
      refine m'.stepB T.sb _ t (yA b t (y - 1)) k1 fun u hu v hv=>?_
      rw [yA] at hu
      obtain ⟨i,i1,i2,i3⟩:=jM hu
      obtain ⟨i4,i5⟩:=yB i3
      have:=k3 i i1 (by omega)
      have h2:=top_le T.sa hx q2 v hv
      omega
     by_cases h2:t=1
     · rw [if_pos (by simpa using h2)]
       exact wpS_pure (hd _ ⟨⟨g,rfl⟩,.inl ⟨_,_,_,_,_,_,_,rfl,m2.toldB T h2⟩⟩)
     rw [if_neg (by simpa using h2)]
     by_cases h3:t=0
     · rw [if_pos (by simpa using h3)]
       exact wpS_pure (hd _ ⟨⟨g,rfl⟩,.inl ⟨_,_,_,_,_,_,_,rfl,m2.told T (.inr h3)⟩⟩)
     rw [if_neg (by simpa using h3)]
     exact wp_hi3 T ⟨m2,hx,by omega⟩ (by omega) (hrest _ rfl) hd hy
   · rw [if_neg hk0]
     exact wp_hi3 T ⟨m',hx,by omega⟩ (by omega) (hrest _ (by omega)) hd hy
theorem wp_hi1 {st:SortSt} {o:Array Keyed} {x y mg ca cb g n:Nat} {Q:ForInStep GH->SortSt->Prop} (hk:kindOf st=oneType') (T:Two a b) (m:InH a b o x y) (hn:x+y<=n+1)
  (hd:∀ c z,GHok a b st n c z->Q (.done c) z) (hy:∀ x y o mg ca cb g,InH a b o x y->x+y<=n->Q (.yield (none,x,y,o,mg,ca,cb)) (gst st g)) :
  wpS (model prog w) A E s (hi1 a b o x y mg ca cb) Q (gst st g):=by
 obtain ⟨p,p1,p2,p3⟩:=jE (a:=b) (x:=y - 1) m.ys
 have hx:=m.x1
 have hy2:=m.y1
 have hxs:=m.xs
 unfold hi1
 rw [wE]
 refine wpS_bind (wpS_modify ?_)
 show wpS (model prog w) A E s _ _ (gst st mg)
 refine wpS_bind (qP p1 ?_)
 refine wpS_bind (yM hk (T.ib p p3) T.ia (by omega) (vG T.sa (by omega)) (by omega) fun t k1 k2 k3=>?_)
 simp only [Bool.false_eq_true,if_false,Nat.zero_add] at k2 k3
 dsimp only
 have hrest:∀ j,j=t->∀ p',b.toList[y - 1]? = some p'->∀ u∈a.toList.take j,ky u<=ky p':=by
  rintro j rfl p' hp' u hu
  rw [p2] at hp'; cases hp'
  obtain ⟨i,i1,i2⟩:=wG hu
  obtain ⟨i3,i4⟩:=yB i2
  rw [<- i4]; exact k2 i (Nat.zero_le _) i1
 by_cases hk0:x - t > 0
 · rw [if_pos hk0]
   have m2:Mh a.toList b.toList (o++(a.extract t x).reverse).toList t y:=by
    rw [Array.toList_append,Array.toList_reverse]
    refine m.mh.stepA T.sa _ t (yA a t x) k1 fun u hu v hv=>?_
    rw [yA] at hu
    obtain ⟨i,i1,i2,i3⟩:=jM hu
    obtain ⟨i4,i5⟩:=yB i3
    have:=k3 i i1 (by omega)
    have h2:=top_le T.sb (by omega) p2 v hv
    omega
   by_cases h1:t=0
   · rw [if_pos (by simpa using h1)]
     exact wpS_pure (hd _ _ ⟨⟨_,rfl⟩,.inl ⟨_,_,_,_,_,_,_,rfl,m2.told T (.inl h1)⟩⟩)
   rw [if_neg (by simpa using h1)]
   exact wp_hi2 hk T ⟨m2,by omega,hy2⟩ (by omega) (hrest _ rfl) (fun c h=>hd c _ h) fun x y o mg' ca cb=>hy x y o mg' ca cb mg
 · rw [if_neg hk0]
   exact wp_hi2 hk T m hn (hrest _ (by omega)) (fun c h=>hd c _ h) fun x y o mg' ca cb=>hy x y o mg' ca cb mg
theorem wp_hiO {st:SortSt} {o:Array Keyed} {x y ca cb mg g n:Nat} {Q:ForInStep OH->SortSt->Prop} (hk:kindOf st=oneType') (T:Two a b) (m:InH a b o x y) (hn:x+y<=n+1)
  (hd:∀ c,OHok a b st n c (gst st g)->Q (.done c) (gst st g)) (hy:∀ x y o ca cb,InH a b o x y->x+y<=n->Q (.yield (none,x,y,o,ca,cb)) (gst st g)) :
  wpS (model prog w) A E s (hiO a b mg (none,x,y,o,ca,cb)) Q (gst st g):=by
 obtain ⟨p,p1,p2,p3⟩:=jE (a:=b) (x:=y - 1) m.ys
 obtain ⟨q,q1,q2,q3⟩:=jE (a:=a) (x:=x - 1) m.xs
 have hx:=m.x1
 have hy2:=m.y1
 unfold hiO
 dsimp only
 refine wpS_bind (qP p1 (wpS_bind (qP q1 ?_)))
 refine wpS_bind (wp_lt hk (T.ib p p3) (T.ia q q3) ?_)
 dsimp only
 by_cases hl:ky p < ky q
 · rw [if_pos (by simpa using hl)]
   have m':=m.mh.pushA T hx q2 fun u hu=>Int.le_trans (top_le T.sb (by omega) p2 u hu) (Int.le_of_lt hl)
   refine wpS_bind (qP q1 ?_)
   by_cases h1:x - 1=0
   · rw [if_pos (by simpa using h1)]
     exact wpS_pure (hd _ ⟨⟨_,rfl⟩,.inl ⟨_,_,_,_,_,_,rfl,m'.told T (.inl h1)⟩⟩)
   rw [if_neg (by simpa using h1)]
   have hin:InH a b (o.push q) (x - 1) y:=⟨m',by omega,hy2⟩
   split
   · exact wpS_pure (hd _ ⟨⟨_,rfl⟩,.inr ⟨_,_,_,_,_,rfl,hin,by omega⟩⟩)
   · exact wpS_pure (hy _ _ _ _ _ hin (by omega))
 · rw [if_neg (by simpa using hl)]
   have m':=m.mh.pushB T (by omega) p2 fun u hu=>Int.le_trans (top_le T.sa hx q2 u hu) (Int.not_lt.mp hl)
   refine wpS_bind (qP p1 ?_)
   by_cases h1:y - 1=1
   · rw [if_pos (by simpa using h1)]
     exact wpS_pure (hd _ ⟨⟨_,rfl⟩,.inl ⟨_,_,_,_,_,_,rfl,m'.toldB T h1⟩⟩)
   rw [if_neg (by simpa using h1)]
   have hin:InH a b (o.push p) x (y - 1):=⟨m',hx,by omega⟩
   split
   · exact wpS_pure (hd _ ⟨⟨_,rfl⟩,.inr ⟨_,_,_,_,_,rfl,hin,by omega⟩⟩)
   · exact wpS_pure (hy _ _ _ _ _ hin (by omega))
theorem wp_hiT {st:SortSt} {o:Array Keyed} {x y mg g:Nat} {Q:ForInStep TH->SortSt->Prop} (hk:kindOf st=oneType') (T:Two a b) (m:InH a b o x y)
  (hd:∀ r x y o mg g,Told a b r->Q (.done (some r,x,y,o,mg)) (gst st g)) (hy:∀ x' y' o' mg g,InH a b o' x' y'->x'+y'+1<=x+y->Q (.yield (none,x',y',o',mg)) (gst st g)) :
  wpS (model prog w) A E s (hiT a b (none,x,y,o,mg)) Q (gst st g):=by
 have hna:=T.na
 have hnb:=T.nb
 have hx:=m.x1
 unfold hiT
 dsimp only
 refine wpS_bind (wpS_mono (wpS_forRange (I:=fun i c z=>∃ x' y' o' ca cb g,c=(none,x',y',o',ca,cb)/\z=gst st g/\InH a b o' x' y'/\x'+y'+i<=x+y)
  (Q:=fun c z=>OHok a b st (x+y - 1) c z) ?s1 ?s2 ⟨x,y,o,0,0,g,rfl,rfl,m,by omega⟩) ?s3)
 case s2 =>
  rintro c z ⟨x',y',o',ca,cb,g',rfl,rfl,m',hle⟩
  exact ⟨⟨_,rfl⟩,.inr ⟨_,_,_,_,_,rfl,m',by omega⟩⟩
 case s1 =>
  rintro i c z _ hi ⟨x',y',o',ca,cb,g',rfl,rfl,m',hle⟩
  have h1':=m'.x1
  refine wp_hiO (n:=x'+y' - 1) hk T m' (by omega) (fun c hc=>?_) fun x2 y2 o2 ca cb m2 h2=>⟨x2,y2,o2,ca,cb,g',rfl,rfl,m2,by omega⟩
  obtain ⟨h1,h2⟩:=hc
  refine ⟨h1,?_⟩
  rcases h2 with h2 | ⟨x2,y2,o2,ca,cb,e,m2,h2⟩
  · exact .inl h2
  · exact .inr ⟨x2,y2,o2,ca,cb,e,m2,by omega⟩
 case s3 =>
  rintro c z ⟨⟨g',rfl⟩,hc⟩
  rcases hc with ⟨r,x2,y2,o2,ca,cb,rfl,hr⟩ | ⟨x2,y2,o2,ca,cb,rfl,m2,h2⟩
  · dsimp only
    exact wpS_pure (hd _ _ _ _ _ _ hr)
  · dsimp only
    refine wpS_bind (wpS_lift (wpAny_rule ⟨rfl,?_⟩))
    refine wpS_bind (wpS_mono (wpS_forRange (I:=fun i c z=>∃ x' y' o' mg ca cb g,c=(none,x',y',o',mg,ca,cb)/\z=gst st g/\InH a b o' x' y'/\x'+y'<=x+y - 1)
     (Q:=fun c z=>GHok a b st (x+y - 1) c z) ?s4 ?s5 ⟨x2,y2,o2,mg+1,ca,cb,g',rfl,rfl,m2,h2⟩) ?s6)
    case s5 =>
     rintro c z ⟨x',y',o',mg',ca,cb,g',rfl,rfl,m',hle⟩
     exact ⟨⟨_,rfl⟩,.inr ⟨_,_,_,_,_,_,rfl,m',by omega⟩⟩
    case s4 =>
     rintro i c z _ hi ⟨x',y',o',mg',ca,cb,g',rfl,rfl,m',hle⟩
     dsimp only
     split
     · exact wp_hi1 (n:=x+y - 1) hk T m' (by omega) (fun c z hc=>hc) fun x2 y2 o2 mg ca cb g m2 h2=>⟨x2,y2,o2,mg,ca,cb,g,rfl,rfl,m2,h2⟩
     · exact wp_hi1 (n:=x+y - 1) hk T m' (by omega) (fun c z hc=>hc) fun x2 y2 o2 mg ca cb g m2 h2=>⟨x2,y2,o2,mg,ca,cb,g,rfl,rfl,m2,h2⟩
    case s6 =>
     rintro c z ⟨⟨g',rfl⟩,hc⟩
     rcases hc with ⟨r,x2,y2,o2,mg',ca,cb,rfl,hr⟩ | ⟨x2,y2,o2,mg',ca,cb,rfl,m2,h2⟩
     · dsimp only
       exact wpS_pure (hd _ _ _ _ _ _ hr)
     · dsimp only
       rw [wE]
       exact wpS_bind (wpS_modify (wpS_pure (hy _ _ _ _ _ m2 (by omega))))
theorem wp_mergeHi {st:SortSt} {Q:Array Keyed->SortSt->Prop} (hk:kindOf st=oneType') (T:Two a b) (h:∀ r g,Told a b r->Q r (gst st g)) :
  wpS (model prog w) A E s (mergeHi' a b) Q st:=by
 have hna:=T.na
 have hnb:=T.nb
 obtain ⟨p,p1,p2,p3⟩:=jE (a:=a) (x:=a.size - 1) (by omega)
 have m1:Mh a.toList b.toList (#[]:Array Keyed).toList a.size b.size:=by
  refine ⟨by simp,by simp,?_,List.Pairwise.nil,fun p hp=>absurd hp (by simp)⟩
  rw [List.take_of_length_le (by simp),List.take_of_length_le (by simp)]
  simp
 have m:Mh a.toList b.toList (#[p]:Array Keyed).toList (a.size - 1) b.size:=m1.pushA T (by omega) p2 fun q hq=>T.lst q (List.mem_of_mem_take hq) p (by rw [Array.length_toList]; exact p2)
 rw [mergeHi_is]
 unfold mHi
 refine wpS_bind (wpS_lift (wpAny_rule ⟨rfl,?_⟩))
 refine wpS_bind (qP p1 ?_)
 by_cases h1:a.size - 1=0
 · rw [if_pos (by simpa using h1)]
   exact wpS_pure (h _ (gallopOf st) (m.told T (.inl h1)))
 rw [if_neg (by simpa using h1)]
 by_cases h2:b.size=1
 · rw [if_pos (by simpa using h2)]
   exact wpS_pure (h _ (gallopOf st) (m.toldB T h2))
 rw [if_neg (by simpa using h2)]
 refine wpS_bind (wpS_get ?_)
 refine wpS_bind (wpS_mono (wpS_forRange (I:=fun i c z=>∃ x y o mg g,c=(none,x,y,o,mg)/\z=gst st g/\InH a b o x y/\x+y+i+1<=a.size+b.size)
  (Q:=fun c z=>∃ r x y o mg g,c=(some r,x,y,o,mg)/\z=gst st g/\Told a b r) ?s1 ?s2 ⟨a.size - 1,b.size,#[p],_,gallopOf st,rfl,rfl,⟨m,by omega,by omega⟩,by omega⟩) ?s3)
 case s2 =>
  rintro c z ⟨x,y,o,mg,g,rfl,rfl,m,hle⟩
  have:=m.x1
  have:=m.y1
  omega
 case s1 =>
  rintro i c z _ hi ⟨x,y,o,mg,g,rfl,rfl,m,hle⟩
  exact wp_hiT hk T m (fun r x y o mg g hr=>⟨r,x,y,o,mg,g,rfl,rfl,hr⟩) fun x y o mg g m h=>⟨x,y,o,mg,g,rfl,rfl,m,by omega⟩
 case s3 =>
  rintro c z ⟨r,x,y,o,mg,g,rfl,rfl,hr⟩
  exact wpS_pure (h r g hr)
end
end TS
namespace TS
open PySem PyProof.Rows
set_option autoImplicit false
def mAt (i:Nat):StateT SortSt Sem Bool:=do
 let z <- get
 let (some (sa,na,pw),some (sb,nb,_)):=((pendingOf z)[i]?,(pendingOf z)[i+1]?) | unsupported "internal:list.sort.pending"
 set (setPending z (((pendingOf z).setIfInBounds i (sa,na+nb,pw)).eraseIdxIfInBounds (i+1)))
 let some k <- gallop' false (<- elem' (arrOf z) sb) (arrOf z) sa na 0 | return false
 let (sa,na):=(sa+k,na - k)
 if na == 0 then return true
 let some nb <- gallop' true (<- elem' (arrOf z) (sa+na - 1)) (arrOf z) sb nb (nb - 1) | return false
 if nb == 0 then return true
 let x:=(arrOf z).extract sa sb
 let y:=(arrOf z).extract sb (sb+nb)
 let r <- if na<=nb then mergeLo' x y else mergeHi' x y
 modify fun z=>setArr z (r.toList.zipIdx.foldl (fun a (p,j)=>a.setIfInBounds (sa+j) p) (arrOf z))
 return (failedOf (<- get)).isNone
theorem mergeAt_is (i:Nat):mergeAt' i=mAt i:=by kernel_rfl
def lay (xs:Array Keyed) (sa:Nat) (r:List Keyed):Array Keyed:=r.zipIdx.foldl (fun a (p,j)=>a.setIfInBounds (sa+j) p) xs
theorem lay_at' (sa i:Nat):∀ (r:List Keyed) (n:Nat) (xs:Array Keyed),sa+n+r.length<=xs.size →
  ((r.zipIdx n).foldl (fun a (p,j)=>a.setIfInBounds (sa+j) p) xs)[i]? = if sa+n<=i/\i < sa+n+r.length then r[i - (sa+n)]? else xs[i]?
 | [], n, xs, h => by
   rw [if_neg (by simp)]; rfl
 | p :: r, n, xs, h => by
   rw [List.zipIdx_cons,List.foldl_cons]
   have h':sa+(n+1)+r.length<=(xs.setIfInBounds (sa+n) p).size:=by simp only [Array.size_setIfInBounds]; simp only [List.length_cons] at h; omega
   rw [lay_at' sa i r (n+1) _ h',Array.getElem?_setIfInBounds]
   simp only [List.length_cons] at h ⊢
   by_cases h1:sa+n=i
   · subst h1
     rw [if_neg (by omega),if_pos rfl,if_pos (by omega),if_pos (by omega)]
     simp
   · by_cases h2 : sa + (n + 1) <= i /\ i < sa + (n + 1) + r.length
     · rw [if_pos h2,if_pos (by omega),show i - (sa+n)=(i - (sa+(n+1)))+1 by omega,List.getElem?_cons_succ]
     · rw [if_neg h2,if_neg h1,if_neg (by omega)]
theorem lay_at {xs:Array Keyed} {sa:Nat} {r:List Keyed} (h:sa+r.length<=xs.size) (i:Nat):(lay xs sa r)[i]? = if sa<=i/\i < sa+r.length then r[i - sa]? else xs[i]? :=
 lay_at' sa i r 0 xs h
theorem lay_list {xs:Array Keyed} {sa:Nat} {r:List Keyed} (h:sa+r.length<=xs.size):(lay xs sa r).toList=xs.toList.take sa++r++xs.toList.drop (sa+r.length):=by
 apply List.ext_getElem?
 intro i
 rw [Array.getElem?_toList,lay_at h,List.append_assoc]
 have hl:(xs.toList.take sa).length=sa:=by rw [List.length_take,Array.length_toList]; omega
 by_cases h1:i < sa
 · rw [if_neg (by omega),List.getElem?_append_left (by omega),List.getElem?_take_of_lt h1,Array.getElem?_toList]
 · rw [List.getElem?_append_right (by omega), hl]
   by_cases h2:i < sa+r.length
   · rw [if_pos ⟨by omega,h2⟩,List.getElem?_append_left (by omega)]
   · rw [if_neg (by omega), List.getElem?_append_right (by omega), List.getElem?_drop, Array.getElem?_toList]
     congr 1
     omega
theorem lay_perm {xs:Array Keyed} {sa:Nat} {r:List Keyed} (h:sa+r.length<=xs.size) (hp:r.Perm ((xs.toList.drop sa).take r.length)):(lay xs sa r).Perm xs:=by
 rw [Array.perm_iff_toList_perm,lay_list h]
 have e:xs.toList=xs.toList.take sa++(xs.toList.drop sa).take r.length++xs.toList.drop (sa+r.length):=by
  rw [List.append_assoc,<- List.drop_drop,List.take_append_drop,List.take_append_drop]
 conv=>rhs; rw [e]
 exact List.Perm.append_right _ (List.Perm.append_left _ hp)
theorem lay_K {xs:Array Keyed} {sa:Nat} {r:List Keyed} (h:sa+r.length<=xs.size) {i:Nat} : (sa<=i->i < sa+r.length->∃ p,r[i - sa]? = some p/\K (lay xs sa r) i=ky p)/\((i < sa \/ sa+r.length<=i)->K (lay xs sa r) i=K xs i):=by
 have e:=lay_at h i
 refine ⟨fun h1 h2=>?_,fun h1=>?_⟩
 · rw [if_pos ⟨h1, h2⟩] at e
   refine ⟨r[i - sa],List.getElem?_eq_getElem (by omega),?_⟩
   unfold K
   rw [e,List.getElem?_eq_getElem (by omega)]
   rfl
 · rw [if_neg (by omega)] at e
   exact K_congr e
theorem seg_join {xs:Array Keyed} {i j k:Nat} (h1:Seg xs i j) (h2:Seg xs j k) (h:i < j->j < k->K xs (j - 1)<=K xs j):Seg xs i k:=by
 intro p q a b c
 by_cases hp:p < j
 · by_cases hq : q < j
   · exact h1 p q a b hq
   · exact Int.le_trans (h1 p (j - 1) a (by omega) (by omega)) (Int.le_trans (h (by omega) (by omega)) (h2 j q (Nat.le_refl _) (by omega) c))
 · exact h2 p q (by omega) b c
theorem seg_sd {xs:Array Keyed} {i j:Nat} (h:Seg xs i j) (hj:j<=xs.size):Sd (xs.extract i j).toList:=by
 refine List.pairwise_iff_getElem.mpr fun p q h1 h2 hpq=>?_
 rw [Array.length_toList,Array.size_extract] at h1 h2
 have:=h (i+p) (i+q) (by omega) (by omega) (by omega)
 rw [K_eq (show i+p < xs.size by omega),K_eq (show i+q < xs.size by omega)] at this
 simpa [ky] using this
theorem xV {xs:Array Keyed} {i j:Nat} {p:Keyed} (hj:j<=xs.size) (h:p∈(xs.extract i j).toList):∃ k,i<=k/\k < j/\K xs k=ky p/\p∈xs.toList:=by
 rw [yA] at h
 obtain ⟨k,k1,k2,k3⟩:=jM h
 exact ⟨k,k1,by omega,(yB k3).2,List.mem_of_getElem? k3⟩
section
variable {prog:Program} {w:World} {A:Around} {E:Value->Shared->Prop} {s:Shared} {a₀ : Array Keyed}
theorem wpS_set {σ : Type} {M:Model} {x : σ} {Q:PUnit->σ->Prop} {st : σ} (h:Q ⟨⟩ x):wpS M A E s (set x:StateT σ Sem PUnit) Q st:=by
 unfold wpS; rw [StateT.run_set]; exact wpAny_pure ⟨rfl,h⟩
theorem pend_at {P:Array (Nat×Nat×Nat)} {pre post:List (Nat×Nat×Nat)} {u v:Nat×Nat×Nat} (h:P.toList=pre++u::v::post) (c:Nat×Nat×Nat) :
  P[pre.length]? = some u/\P[pre.length+1]? = some v/\((P.setIfInBounds pre.length c).eraseIdxIfInBounds (pre.length+1)).toList=pre++c::post:=by
 obtain ⟨l⟩:=P
 simp only at h
 subst h
 refine ⟨by simp,by simp,?_⟩
 simp [Array.eraseIdxIfInBounds,List.eraseIdx_append_of_length_le]
theorem wp_mergeAt {st:SortSt} {i sa na pw sb nb pw2:Nat} {pre post:List (Nat×Nat×Nat)} {Q:Bool->SortSt->Prop} (h0:IntKeys a₀) (hB:TB a₀ st)
  (hP:(pendingOf st).toList=pre++(sa,na,pw)::(sb,nb,pw2)::post) (hi:i=pre.length) (hsb:sb=sa+na) (hna:1<=na) (hnb:1<=nb) (hsz:sb+nb<=a₀.size)
  (s1:Seg (arrOf st) sa sb) (s2:Seg (arrOf st) sb (sb+nb))
  (h:∀ st',TB a₀ st'->(pendingOf st').toList=pre++(sa,na+nb,pw)::post->(∀ k,(k < sa \/ sb+nb<=k)->K (arrOf st') k=K (arrOf st) k)->Seg (arrOf st') sa (sb+nb)->Q true st') :
  wpS (model prog w) A E s (mergeAt' i) Q st:=by
 subst hi
 obtain ⟨e1,e2,e3⟩:=pend_at hP (sa,na+nb,pw)
 have hs:=hB.sz
 have hI:∀ p∈(arrOf st).toList,IsI p:=fun p hp=>h0 p ((Array.perm_iff_toList_perm.mp hB.pm).mem_iff.mp hp)
 rw [mergeAt_is]
 unfold mAt
 refine wpS_bind (wpS_get ?_)
 rw [e1,e2]
 dsimp only
 refine wpS_bind (wpS_set ?_)
 generalize hP':((pendingOf st).setIfInBounds pre.length (sa,na+nb,pw)).eraseIdxIfInBounds (pre.length+1)=P' at e3 ⊢
 have hB1:TB a₀ (setPending st P'):=⟨hB.pm,hB.kd,hB.nf⟩
 obtain ⟨p,p1,p2,p3⟩:=jE (a:=arrOf st) (x:=sb) (by omega)
 have pK:K (arrOf st) sb=ky p:=(yB p2).2
 refine wpS_bind (qP p1 ?_)
 refine wpS_bind (yM (st:=setPending st P') hB.kd (hI p p3) hI (by omega) (by rw [<- hsb]; exact s1) (by omega) fun k k1 k2 k3=>?_)
 simp only [Bool.false_eq_true,if_false] at k2 k3
 dsimp only
 by_cases hz:na - k=0
 · rw [if_pos (by simpa using hz)]
   refine wpS_pure (h _ hB1 e3 (fun _ _=>rfl) (seg_join s1 s2 fun _ _=>?_))
   show K (arrOf st) (sb - 1)<=K (arrOf st) sb
   rw [pK]
   exact k2 _ (by omega) (by omega)
 rw [if_neg (by simpa using hz)]
 have hlast:sa+k+(na - k) - 1=sb - 1:=by omega
 obtain ⟨q,q1,q2,q3⟩:=jE (a:=arrOf st) (x:=sb - 1) (by omega)
 have qK:K (arrOf st) (sb - 1)=ky q:=(yB q2).2
 rw [hlast]
 refine wpS_bind (qP q1 ?_)
 refine wpS_bind (yM (st:=setPending st P') hB.kd (hI q q3) hI (by omega) s2 (by omega) fun m m1 m2 m3=>?_)
 simp only [if_true] at m2 m3
 dsimp only
 by_cases hm:m=0
 · rw [if_pos (by simpa using hm)]
   refine wpS_pure (h _ hB1 e3 (fun _ _=>rfl) (seg_join s1 s2 fun _ _=>?_))
   show K (arrOf st) (sb - 1)<=K (arrOf st) sb
   rw [qK]
   exact m3 _ (by omega) (by omega)
 rw [if_neg (by simpa using hm)]
 have T:Two ((arrOf st).extract (sa+k) sb) ((arrOf st).extract sb (sb+m)):=by
  refine ⟨seg_sd (fun a b c d e=>s1 a b (by omega) d e) (by omega),seg_sd (fun a b c d e=>s2 a b (by omega) d (by omega)) (by omega),fun u hu=>?_,fun u hu=>?_,?_,?_,fun u hu v hv=>?_,fun u hu v hv=>?_⟩
  · obtain ⟨_,_,_,_,hh⟩:=xV (by omega) hu; exact hI u hh
  · obtain ⟨_,_,_,_,hh⟩:=xV (by omega) hu; exact hI u hh
  · rw [Array.size_extract]; omega
  · rw [Array.size_extract]; omega
  · obtain ⟨j, j1, j2, j3, _⟩ := xV (by omega) hu
    rw [Array.getElem?_toList,Array.getElem?_extract] at hv
    rw [if_pos (by omega),Nat.add_zero,p1] at hv
    cases hv
    rw [<- j3]
    exact Int.le_of_lt (k3 j j1 (by omega))
  · obtain ⟨j, j1, j2, j3, _⟩ := xV (by omega) hu
    rw [Array.getElem?_toList,Array.length_toList,Array.size_extract,Array.getElem?_extract] at hv
    rw [if_pos (by omega),show sa+k+(min sb (arrOf st).size - (sa+k) - 1)=sb - 1 by omega,q1] at hv
    cases hv
    rw [<- j3]
    exact Int.le_of_lt (m2 j j1 j2)
 have fin:∀ r g,Told ((arrOf st).extract (sa+k) sb) ((arrOf st).extract sb (sb+m)) r →
   wpS (model prog w) A E s (do
    modify fun z=>setArr z (r.toList.zipIdx.foldl (fun a (p,j)=>a.setIfInBounds (sa+k+j) p) (arrOf z))
    return (failedOf (<- get)).isNone) Q (gst (setPending st P') g):=by
  rintro r g ⟨r1,r2⟩
  have hlen:r.toList.length=sb+m - (sa+k):=by
   rw [r1.length_eq,List.length_append,Array.length_toList,Array.length_toList,Array.size_extract,Array.size_extract]; omega
  have hfit:sa+k+r.toList.length<=(arrOf st).size:=by omega
  have hpm:(lay (arrOf st) (sa+k) r.toList).Perm (arrOf st):=by
   refine lay_perm hfit (r1.trans (List.Perm.of_eq ?_))
   rw [yA,yA,hlen,show sb+m - (sa+k)=(sb - (sa+k))+m by omega,List.take_add,List.drop_drop,show sa+k+(sb - (sa+k))=sb by omega,show sb+m - sb=m by omega]
  have rmem:∀ u∈r.toList,K (arrOf st) sb<=ky u/\ky u<=K (arrOf st) (sb - 1):=fun u hu=>by
   rcases List.mem_append.mp (r1.mem_iff.mp hu) with hu | hu
   · obtain ⟨j, j1, j2, j3, _⟩ := xV (by omega) hu
     rw [<- j3]
     have a1:=k3 j j1 (by omega)
     have a2:=s1 j (sb - 1) (by omega) (by omega) (by omega)
     omega
   · obtain ⟨j, j1, j2, j3, _⟩ := xV (by omega) hu
     rw [<- j3]
     have a1:=m2 j j1 j2
     have a2:=s2 sb j (Nat.le_refl _) j1 (by omega)
     omega
  refine wpS_bind (wpS_modify (wpS_bind (wpS_get (wpS_pure ?_))))
  show Q (failedOf st).isNone (setArr (gst (setPending st P') g) (lay (arrOf st) (sa+k) r.toList))
  rw [hB.nf]
  have hin:∀ i,sa+k<=i->i < sb+m->∃ u,r.toList[i - (sa+k)]? = some u/\K (lay (arrOf st) (sa+k) r.toList) i=ky u:=fun i i1 i2=>(lay_K hfit).1 i1 (by omega)
  have hout:∀ i,(i < sa+k \/ sb+m<=i)->K (lay (arrOf st) (sa+k) r.toList) i=K (arrOf st) i:=fun i i1=>(lay_K hfit).2 (by omega)
  refine h _ ⟨hpm.trans hB.pm,hB.kd,hB.nf⟩ e3 (fun j hj=>hout j (by omega)) ?_
  intro x y x1 xy y1
  show K (lay (arrOf st) (sa+k) r.toList) x<=K (lay (arrOf st) (sa+k) r.toList) y
  by_cases hx1:x < sa+k
  · rw [hout x (.inl hx1)]
    by_cases hy1:y < sa+k
    · rw [hout y (.inl hy1)]; exact s1 x y x1 xy (by omega)
    · have hxk := k2 x x1 hx1
      by_cases hy2:y < sb+m
      · obtain ⟨u, u1, u2⟩ := hin y (by omega) hy2
        rw [u2]
        have:=(rmem u (List.mem_of_getElem? u1)).1
        omega
      · rw [hout y (.inr (by omega))]
        have:=s2 sb y (Nat.le_refl _) (by omega) y1
        omega
  · by_cases hx2 : x < sb + m
    · obtain ⟨u, u1, u2⟩ := hin x (by omega) hx2
      rw [u2]
      by_cases hy2:y < sb+m
      · obtain ⟨v, v1, v2⟩ := hin y (by omega) hy2
        rw [v2]
        by_cases hxy:x=y
        · subst hxy; rw [u1] at v1; cases v1; exact Int.le_refl _
        · obtain ⟨g1, g2⟩ := List.getElem?_eq_some_iff.mp u1
          obtain ⟨g3,g4⟩:=List.getElem?_eq_some_iff.mp v1
          have:=List.pairwise_iff_getElem.mp r2 _ _ g1 g3 (by omega)
          rwa [g2,g4] at this
      · rw [hout y (.inr (by omega))]
        have a1:=(rmem u (List.mem_of_getElem? u1)).2
        have a2:=m3 y (by omega) y1
        omega
    · rw [hout x (.inr (by omega)), hout y (.inr (by omega))]
      exact s2 x y (by omega) xy y1
 split
 · exact wpS_bind (wp_mergeLo hB.kd T fun r g hr=>fin r g hr)
 · exact wpS_bind (wp_mergeHi hB.kd T fun r g hr=>fin r g hr)
end
end TS
namespace TS
open PySem PyProof.Rows
set_option autoImplicit false
abbrev PQ:=Nat×Nat×Nat
def Rn (xs:Array Keyed):List PQ->Nat->Nat->Prop
 | [],s,e=>s=e
 | (a,n,_)::r,s,e=>a=s/\1<=n/\Seg xs s (s+n)/\Rn xs r (s+n) e
theorem rn_app {xs:Array Keyed} {r:List PQ} {e:Nat} : ∀ {l:List PQ} {s:Nat},Rn xs (l++r) s e↔∃ m,Rn xs l s m/\Rn xs r m e
 | [],s=>⟨fun h=>⟨s,rfl,h⟩,fun ⟨m,h1,h2⟩=>by cases h1; exact h2⟩
 | (a, n, p) :: l, s => by
   constructor
   · rintro ⟨h1, h2, h3, h4⟩
     obtain ⟨m,g1,g2⟩:=rn_app.mp h4
     exact ⟨m,⟨h1,h2,h3,g1⟩,g2⟩
   · rintro ⟨m, ⟨h1, h2, h3, g1⟩, g2⟩
     exact ⟨h1,h2,h3,rn_app.mpr ⟨m,g1,g2⟩⟩
theorem rn_le {xs:Array Keyed} {e:Nat} : ∀ {l:List PQ} {s:Nat},Rn xs l s e->s+l.length<=e
 | [],s,h=>by cases h; simp
 | (a,n,p)::l,s,⟨h1,h2,h3,h4⟩=>by have:=rn_le h4; simp only [List.length_cons]; omega
theorem wQ {xs ys:Array Keyed} {e:Nat} : ∀ {l:List PQ} {s:Nat},Rn xs l s e->(∀ k,s<=k->k < e->K ys k=K xs k)->Rn ys l s e
 | [],s,h,_=>h
 | (a, n, p) :: l, s, ⟨h1, h2, h3, h4⟩, h => by
   have hle:=rn_le h4
   exact ⟨h1,h2,fun i j a b c=>by rw [h i a (by omega),h j (by omega) (by omega)]; exact h3 i j a b c,wQ h4 fun k k1 k2=>h k (by omega) k2⟩
def rsOld (pw:Nat) (_:Option Unit×Unit):StateT SortSt Sem (ForInStep (Option Unit×Unit)):=do
 let z <- get
 match if (pendingOf z).size > 1 then (pendingOf z)[(pendingOf z).size - 2]? else none with
  | some (_, _, older) =>
    if older<=pw then pure (ForInStep.done (none,()))
    else do
     let b <- mergeAt' ((pendingOf z).size - 2)
     if (!b)=true then pure (ForInStep.done (some (),())) else pure (ForInStep.yield (none,()))
  | _=>pure (ForInStep.done (none,()))
def rsPush (size lo n:Nat):StateT SortSt Sem (ForInStep (Option Unit×Nat)):=do
 let z <- get
 match (pendingOf z).back? with
  | some (s1, n1, _) => do
    let c <- forIn [0:size] (none,()) fun _ c=>rsOld (power' size (2 * s1+n1) (2 * s1+n1+n1+n) size) c
    match c.1 with
     | some r=>pure (ForInStep.done (some r,lo))
     | none => do
       modify fun z=>setPending z ((pendingOf z).modify ((pendingOf z).size - 1) fun x=>match x with | (a,l,_)=>(a,l,power' size (2 * s1+n1) (2 * s1+n1+n1+n) size))
       modify fun z=>setPending z ((pendingOf z).push (lo,n,0))
       pure (ForInStep.yield (none,lo+n))
  | _ => do
    modify fun z=>setPending z ((pendingOf z).push (lo,n,0))
    pure (ForInStep.yield (none,lo+n))
def rsTurn (size mr:Nat) (c:Option Unit×Nat):StateT SortSt Sem (ForInStep (Option Unit×Nat)) :=
 if c.2 ≥ size then pure (ForInStep.done (none,c.2))
 else do
  let x <- countRun' c.2 (size - c.2)
  match x with
   | some n =>
     if n < mr then do
      liftM (rule "list.sort.binary-insertion")
      let b <- binarySort' c.2 (min (size - c.2) mr) n
      if (!b)=true then pure (ForInStep.done (some (),c.2)) else rsPush size c.2 (min (size - c.2) mr)
     else rsPush size c.2 n
   | _=>pure (ForInStep.done (some (),c.2))
def pick (p:Array PQ):Nat :=
 if Option.any (fun x=>decide (x < p[p.size - 2+1]?.elim 0 fun x=>x.2.1)) (if p.size - 2 > 0 then Option.map (fun x=>x.2.1) p[p.size - 2 - 1]? else none)=true then p.size - 2 - 1 else p.size - 2
def rsEnd (_:Option Unit×Unit):StateT SortSt Sem (ForInStep (Option Unit×Unit)):=do
 let z <- get
 if (pendingOf z).size<=1 then pure (ForInStep.done (none,()))
 else do
  let b <- mergeAt' (pick (pendingOf z))
  if (!b)=true then pure (ForInStep.done (some (),())) else pure (ForInStep.yield (none,()))
def sR:StateT SortSt Sem Unit:=do
 let z <- get
 let c <- forIn [0:(arrOf z).size] (none,0) fun _ c=>rsTurn (arrOf z).size (minRun' (arrOf z).size (arrOf z).size 0) c
 match c.1 with
  | some r=>pure r
  | none => do
    let d <- forIn [0:(arrOf z).size] (none,()) fun _ d=>rsEnd d
    match d.1 with
     | some r=>pure r
     | none=>pure ()
theorem sortRuns_is:sortRuns'=sR:=by kernel_rfl
section
variable {prog:Program} {w:World} {A:Around} {E:Value->Shared->Prop} {s:Shared} {a₀ : Array Keyed}
structure RS (a₀ : Array Keyed) (st:SortSt) (lo:Nat):Prop where
 tb:TB a₀ st
 rn:Rn (arrOf st) (pendingOf st).toList 0 lo
 le:lo<=a₀.size
theorem wp_mergeRn {st:SortSt} {lo i:Nat} {Q:Bool->SortSt->Prop} (h0:IntKeys a₀) (R:RS a₀ st lo) (hi:i+1 < (pendingOf st).size)
  (h:∀ st',RS a₀ st' lo->(pendingOf st').size+1=(pendingOf st).size->(∀ k,lo<=k->K (arrOf st') k=K (arrOf st) k)->Q true st'):wpS (model prog w) A E s (mergeAt' i) Q st:=by
 have hlen:(pendingOf st).toList.length=(pendingOf st).size:=Array.length_toList
 obtain ⟨pre,u,v,post,e,hpl⟩:∃ pre u v post,(pendingOf st).toList=pre++u::v::post/\pre.length=i:=by
  refine ⟨(pendingOf st).toList.take i,(pendingOf st).toList[i]'(by omega),(pendingOf st).toList[i+1]'(by omega),(pendingOf st).toList.drop (i+2),?_,by rw [List.length_take]; omega⟩
  conv=>lhs; rw [<- List.take_append_drop i (pendingOf st).toList]
  rw [List.drop_eq_getElem_cons (by omega),List.drop_eq_getElem_cons (by omega)]
 have hr:=R.rn
 obtain ⟨sa,na,pw⟩:=u
 obtain ⟨sb,nb,pw2⟩:=v
 rw [e] at hr
 obtain ⟨m,g1,g2,g3,g4,g5,g6,g7,g8⟩:=rn_app.mp hr
 subst g2
 have hle:=rn_le g8
 have hlo:=R.le
 refine wp_mergeAt (sb:=sb) h0 R.tb e hpl.symm g5 g3 g6 (by omega) (by rw [g5]; exact g4) (by rw [g5]; exact g7) fun st' b1 b2 b3 b4=>h st' ⟨b1,?_,hlo⟩ ?_ fun k hk=>b3 k (.inr (by omega))
 · rw [b2]
   refine rn_app.mpr ⟨sa,wQ g1 fun k _ k2=>b3 k (.inl k2),rfl,by omega,by rw [<- Nat.add_assoc,<- g5]; exact b4,?_⟩
   rw [<- Nat.add_assoc]
   exact wQ g8 fun k k1 _=>b3 k (.inr (by omega))
 · have l1 : (pendingOf st').toList.length = (pendingOf st').size := Array.length_toList
   rw [b2] at l1
   rw [e] at hlen
   simp only [List.length_append,List.length_cons] at l1 hlen
   omega
theorem pick_lt {p:Array PQ} (h:2<=p.size):pick p+1 < p.size:=by
 have:∀ c:Bool,(if c=true then p.size - 2 - 1 else p.size - 2)+1 < p.size:=fun c=>by cases c <;> simp <;> omega
 exact this _
theorem mod_last (f:PQ->PQ):∀ (l:List PQ) (u:PQ),(l++[u]).modify l.length f=l++[f u]
 | [],u=>rfl
 | a :: l, u => by
   rw [List.cons_append,List.length_cons,List.modify_succ_cons,mod_last f l u]; rfl
theorem wp_push {st:SortSt} {lo n:Nat} {Q:ForInStep (Option Unit×Nat)->SortSt->Prop} (h0:IntKeys a₀) (R:RS a₀ st lo) (hn:1<=n) (hle:lo+n<=a₀.size) (hs:Seg (arrOf st) lo (lo+n))
  (h:∀ st',RS a₀ st' (lo+n)->Q (.yield (none,lo+n)) st'):wpS (model prog w) A E s (rsPush a₀.size lo n) Q st:=by
 have fin:∀ st':SortSt,TB a₀ st'->Rn (arrOf st') (pendingOf st').toList 0 lo->(∀ k,lo<=k->K (arrOf st') k=K (arrOf st) k) →
   wpS (model prog w) A E s (do
    modify fun z=>setPending z ((pendingOf z).push (lo,n,0))
    pure (ForInStep.yield ((none,lo+n):Option Unit×Nat))) Q st':=fun st' tb rn kk=>by
  refine wpS_bind (wpS_modify (wpS_pure (h _ ⟨⟨tb.pm,tb.kd,tb.nf⟩,?_,hle⟩)))
  show Rn (arrOf st') ((pendingOf st').push (lo,n,0)).toList 0 (lo+n)
  rw [Array.toList_push]
  exact rn_app.mpr ⟨lo,rn,rfl,hn,fun i j a b c=>by rw [kk i a,kk j (by omega)]; exact hs i j a b c,rfl⟩
 unfold rsPush
 refine wpS_bind (wpS_get ?_)
 cases hb:(pendingOf st).back? with
 | none=>exact fin st R.tb R.rn fun _ _=>rfl
 | some u =>
   obtain ⟨s1,n1,u3⟩:=u
   dsimp only
   generalize power' a₀.size (2 * s1+n1) (2 * s1+n1+n1+n) a₀.size=pw
   refine wpS_bind (wpS_mono (wpS_forRange (I:=fun _ c z=>c=(none,())/\RS a₀ z lo/\(∀ k,lo<=k->K (arrOf z) k=K (arrOf st) k))
    (Q:=fun c z=>c=(none,())/\RS a₀ z lo/\(∀ k,lo<=k->K (arrOf z) k=K (arrOf st) k)) ?s1 (fun _ _ hh=>hh) ⟨rfl,R,fun _ _=>rfl⟩) ?s3)
   case s1 =>
    rintro i c z _ _ ⟨rfl,Rz,kz⟩
    unfold rsOld
    refine wpS_bind (wpS_get ?_)
    by_cases hsz:(pendingOf z).size > 1
    · rw [if_pos hsz, getElem?_pos (pendingOf z) ((pendingOf z).size - 2) (by omega)]
      dsimp only
      split
      · exact wpS_pure ⟨rfl,Rz,kz⟩
      · refine wpS_bind (wp_mergeRn h0 Rz (by omega) fun st' R' _ k' => ?_)
        simp only [Bool.not_true,Bool.false_eq_true,if_false]
        exact wpS_pure ⟨rfl,R',fun k hk=>(k' k hk).trans (kz k hk)⟩
    · rw [if_neg hsz]
      exact wpS_pure ⟨rfl,Rz,kz⟩
   case s3 =>
    rintro c z ⟨rfl,Rz,kz⟩
    dsimp only
    refine wpS_bind (wpS_modify ?_)
    refine fin _ ⟨Rz.tb.pm,Rz.tb.kd,Rz.tb.nf⟩ ?_ kz
    show Rn (arrOf z) ((pendingOf z).modify ((pendingOf z).size - 1) _).toList 0 lo
    have hr:=Rz.rn
    have e:∀ (P:Array PQ) (pw:Nat),Rn (arrOf z) P.toList 0 lo->Rn (arrOf z) (P.modify (P.size - 1) fun x=>match x with | (a,l,_)=>(a,l,pw)).toList 0 lo:=by
     rintro ⟨l⟩ pw hl
     simp only [List.size_toArray] at hl ⊢
     rcases List.eq_nil_or_concat l with rfl | ⟨l',u,rfl⟩
     · simpa using hl
     · obtain ⟨u1, u2, u3⟩ := u
       rw [List.concat_eq_append] at hl ⊢
       obtain ⟨m,m1,m2,m3,m4,m5⟩:=rn_app.mp hl
       have e2:(Array.modify (l'++[(u1,u2,u3)]).toArray ((l'++[(u1,u2,u3)]).length - 1) fun x=>match x with | (a,l,_)=>(a,l,pw)).toList=l'++[(u1,u2,pw)]:=by
        simp [mod_last]
       simp only at e2 ⊢
       rw [e2]
       exact rn_app.mpr ⟨m,m1,m2,m3,m4,m5⟩
    exact e _ _ hr
theorem wp_turn {st:SortSt} {lo mr:Nat} {Q:ForInStep (Option Unit×Nat)->SortSt->Prop} (h0:IntKeys a₀) (R:RS a₀ st lo) (hd:lo=a₀.size->Q (.done (none,lo)) st)
  (h:∀ st' lo',lo+1<=lo'->RS a₀ st' lo'->Q (.yield (none,lo')) st'):wpS (model prog w) A E s (rsTurn a₀.size mr (none,lo)) Q st:=by
 unfold rsTurn
 dsimp only
 have hlo:=R.le
 by_cases hge:lo ≥ a₀.size
 · rw [if_pos hge]
   exact wpS_pure (hd (by omega))
 rw [if_neg hge]
 refine wpS_bind (wp_run h0 (by omega) (by omega) R.tb fun n xs c n1 n2 sg=>?_)
 have R':RS a₀ (setArr st xs) lo:=⟨R.tb.arr c.1,wQ R.rn fun k _ k2=>c.2 k (.inl k2),hlo⟩
 dsimp only
 split
 · refine wpS_bind (wpS_lift (wpAny_rule ⟨rfl, ?_⟩))
   refine wpS_bind (wp_ins h0 (by omega) (by omega) R'.tb sg fun ys c2 sg2=>?_)
   simp only [Bool.not_true,Bool.false_eq_true,if_false]
   refine wp_push h0 (⟨R'.tb.arr c2.1,wQ R'.rn fun k _ k2=>c2.2 k (.inl k2),hlo⟩:RS a₀ (setArr (setArr st xs) ys) lo) (by omega) (by omega) sg2 fun st' r'=>h st' _ (by omega) r'
 · exact wp_push h0 R' n1 (by omega) sg fun st' r'=>h st' _ (by omega) r'
theorem wp_sortRuns {st:SortSt} {Q:Unit->SortSt->Prop} (h0:IntKeys a₀) (hB:TB a₀ st) (hp:pendingOf st = #[])
  (h:∀ st',(arrOf st').Perm a₀->failedOf st'=none->Seg (arrOf st') 0 a₀.size->Q () st'):wpS (model prog w) A E s sortRuns' Q st:=by
 rw [sortRuns_is]
 unfold sR
 refine wpS_bind (wpS_get ?_)
 rw [hB.sz]
 have R0:RS a₀ st 0:=⟨hB,by rw [hp]; rfl,Nat.zero_le _⟩
 refine wpS_bind (wpS_mono (wpS_forRange (I:=fun i c z=>∃ lo,c=(none,lo)/\i<=lo/\RS a₀ z lo) (Q:=fun c z=>c=(none,a₀.size)/\RS a₀ z a₀.size) ?s1 ?s2 ⟨0,rfl,Nat.le_refl _,R0⟩) ?s3)
 case s2 =>
  rintro c z ⟨lo,rfl,h1,R⟩
  have:=R.le
  have e:lo=a₀.size:=by omega
  subst e
  exact ⟨rfl,R⟩
 case s1 =>
  rintro i c z _ hi ⟨lo,rfl,h1,R⟩
  refine wp_turn h0 R (fun e=>?_) fun st' lo' h2 R'=>⟨lo',rfl,by omega,R'⟩
  subst e
  exact ⟨rfl,R⟩
 case s3 =>
  rintro c z ⟨rfl,R⟩
  dsimp only
  have hfirst:=rn_le R.rn
  rw [Array.length_toList] at hfirst
  refine wpS_bind (wpS_mono (wpS_forRange (I:=fun i c z=>c=(none,())/\RS a₀ z a₀.size/\(pendingOf z).size+i<=a₀.size+1/\(pendingOf z).size+i<=max a₀.size (1+i))
   (Q:=fun c z=>c=(none,())/\RS a₀ z a₀.size/\(pendingOf z).size<=1) ?s4 ?s5 ⟨rfl,R,by omega,by omega⟩) ?s6)
  case s5 =>
   rintro c z ⟨rfl,R,h1,h2⟩
   exact ⟨rfl,R,by omega⟩
  case s4 =>
   rintro i c z _ hi ⟨rfl,R,h1,h2⟩
   unfold rsEnd
   refine wpS_bind (wpS_get ?_)
   by_cases hsz:(pendingOf z).size<=1
   · rw [if_pos hsz]
     exact wpS_pure ⟨rfl,R,hsz⟩
   · rw [if_neg hsz]
     refine wpS_bind (wp_mergeRn h0 R (pick_lt (by omega)) fun st' R' e' _=>?_)
     simp only [Bool.not_true,Bool.false_eq_true,if_false]
     exact wpS_pure ⟨rfl,R',by omega,by omega⟩
  case s6 =>
   rintro c z ⟨rfl,R,h1⟩
   dsimp only
   refine wpS_pure (h z R.tb.pm R.tb.nf ?_)
   have hr:=R.rn
   rw [<- Array.length_toList] at h1
   match hl:(pendingOf z).toList,h1 with
   | [], _ =>
     rw [hl] at hr
     have e:0=a₀.size:=hr
     intro i j _ _ hj
     omega
   | [(u, n, v)], _ =>
     rw [hl] at hr
     obtain ⟨g1,g2,g3,g4⟩:=hr
     have e:0+n=a₀.size:=g4
     rw [e] at g3
     exact g3
end
section
variable {prog:Program} {w:World} {A:Around} {E:Value->Shared->Prop} {s:Shared}
theorem sort_any {a:Addr} {vs:List Value} {ns:List Int} {n:Nat} {R:PySem.Fin->Shared->Prop} (ho:s.heap.get? a=some (seqObj "list" vs.toArray n))
  (hI:IntsAre vs ns) (hsl:vs.length<=sizeLine)
  (h:∀ (us:Array Value) (ms:List Int),IntsAre us.toList ms->ms.Perm ns->ms.Pairwise (·<=·)->R (.done (.ret .none)) { s with heap:=sortedHeap s.heap a vs us }) :
  wpAny (model prog w) A (Builtin.«list.sort» ⟨[.ref a],[]⟩) R E s:=by
 rw [list_sort_plain]
 have ha:a < s.heap.objs.size:=Heap.lt_size ho
 have hsz:vs.toArray.size=vs.length:=by simp
 refine wpAny_bind (listItems_at ho rfl ?_)
 refine wpAny_bind (listUpdate_at ho rfl ?_ (by rw [hsz]; exact hsl) (Nat.zero_le _))
 obtain ⟨ep,ho1⟩:∃ ep,(s.heap.update a (Obj.mapSeq fun _=>#[])).get? a=some (seqObj "list" #[] ep):=⟨_,get?_update_seq ho (fun _=>#[])⟩
 refine wpAny_bind (seqEpoch_at ho1 rfl (wpAny_bind (wpAny_newTuple (wpAny_bind (wpAny_newList (wpAny_holding ?_))))))
 have ho6:(((s.heap.update a (Obj.mapSeq fun _=>#[])).push (seqObj "tuple" vs.toArray 0)).push (seqObj "list" #[] 0)).get? a=some (seqObj "list" #[] ep):=by
  have h1:=Heap.get?_push_of_some (seqObj "tuple" vs.toArray 0) ho1
  exact Heap.get?_push_of_some (seqObj "list" #[] 0) h1
 change wpAny (model prog w) A _ R E { s with heap:=((s.heap.update a (Obj.mapSeq fun _=>#[])).push (seqObj "tuple" vs.toArray 0)).push (seqObj "list" #[] 0) }
 dsimp only
 have last:∀ z:SortSt,(arrOf z).Perm (pairsOf vs)->Seg (arrOf z) 0 (pairsOf vs).size->R (.done (.ret .none)) { s with heap:=sortedHeap s.heap a vs ((arrOf z).map (·.2)) }:=fun z g1 g2=>by
  obtain ⟨ns',u1,u2,u3⟩:=sorted_out hI g1 fun i j hij hj=>g2 i j (Nat.zero_le _) hij hj
  exact h _ ns' u1 u2 u3
 by_cases hlt:vs.toArray.size < 2
 · rw [if_pos hlt, if_pos hlt]
   refine wpAny_bind (wpAny_pure ?_)
   rw [StateT.run_pure]
   refine wpAny_bind (wpAny_pure ?_)
   dsimp only
   refine wpAny_bind (seqEpoch_at ho6 rfl (wpAny_bind (listUpdate_at ho6 rfl ?_ (Nat.zero_le _) ?_)))
   · simp only [bne_self_eq_false, Bool.false_eq_true, if_false]
     refine wpAny_pure (last (SortSt.mk' general' (vs.toArray.zip vs.toArray) #[] 7 none) (Array.Perm.refl _) ?_)
     intro i j _ hij hj
     rw [pairsOf_size] at hj
     have e:i=j:=by omega
     rw [e]; exact Int.le_refl _
   · rw [Array.size_map]; show (pairsOf vs).size<=_; rw [pairsOf_size]; omega
 · rw [if_neg hlt, if_neg hlt]
   obtain ⟨x,y,r,rfl⟩:∃ x y r,vs=x::y::r:=by
    match vs,hsz,hlt with
    | [],_,h2=>simp at h2
    | [_],_,h2=>simp at h2
    | x::y::r,_,_=>exact ⟨x,y,r,rfl⟩
   rw [keyKind_ints hI]
   refine wpAny_bind (wpAny_pure ?_)
   refine wpAny_bind (wpAny_mono (wp_sortRuns (a₀:=pairsOf (x::y::r)) (st:=SortSt.mk' oneType' ((x::y::r).toArray.zip (x::y::r).toArray) #[] 7 none)
    (Q:=fun _ z=>(arrOf z).Perm (pairsOf (x::y::r))/\failedOf z=none/\Seg (arrOf z) 0 (pairsOf (x::y::r)).size)
    hI.intKeys ⟨Array.Perm.refl _,rfl,rfl⟩ rfl fun z g1 g2 g3=>⟨g1,g2,g3⟩) ?_ fun _ _ e=>e)
   rintro ⟨⟨⟩,z⟩ s' ⟨rfl,hp,hf,hs⟩
   dsimp only
   refine wpAny_bind (seqEpoch_at ho6 rfl (wpAny_bind (listUpdate_at ho6 rfl ?_ (Nat.zero_le _) ?_)))
   · rw [hf]
     simp only [bne_self_eq_false,Bool.false_eq_true,if_false]
     exact wpAny_pure (last z hp hs)
   · refine Nat.le_trans (Nat.le_of_eq ((Array.size_map ..).trans (hp.size_eq.trans (pairsOf_size _)))) (by omega)
end
end TS
namespace TS
open PySem PyProof.Rows
set_option autoImplicit false
def Rise (xs:Array Nat):Prop:=xs.toList.Pairwise (· < ·)
theorem Rise.lt {xs:Array Nat} (h:Rise xs) {i k:Nat} (hik:i < k) (hk:k < xs.size) (d:Nat):xs.getD i d < xs.getD k d:=by
 have:=List.pairwise_iff_getElem.mp h i k (by simp; omega) (by simpa using hk) hik
 simp only [Array.getD_eq_getD_getElem?,getElem?_pos xs i (by omega),getElem?_pos xs k hk,Option.getD_some]
 simpa using this
theorem vQ {xs:Array Nat} {j:Nat} (hr:Rise xs):∀ (fuel lo hi:Nat),lo<=hi->hi<=xs.size->hi - lo<=fuel->(∀ i,i < lo->xs.getD i j < j)->(∀ i,hi<=i->i < xs.size->j<=xs.getD i j) →
  SetTable.below.go xs j fuel lo hi<=xs.size/\(∀ i,i < SetTable.below.go xs j fuel lo hi->xs.getD i j < j)/\∀ i,SetTable.below.go xs j fuel lo hi<=i->i < xs.size->j<=xs.getD i j
 | 0, lo, hi, h1, h2, h3, h4, h5 => by
   unfold SetTable.below.go
   have e:lo=hi:=by omega
   subst e
   exact ⟨h2,h4,h5⟩
 | fuel + 1, lo, hi, h1, h2, h3, h4, h5 => by
   unfold SetTable.below.go
   by_cases hlt:lo < hi
   · rw [if_pos hlt]
     dsimp only
     by_cases hm:xs.getD ((lo+hi) / 2) j < j
     · rw [if_pos hm]
       refine vQ hr fuel _ hi (by omega) h2 (by omega) (fun i hi'=>?_) h5
       by_cases e:i=(lo+hi) / 2
       · rw [e]; exact hm
       · exact Nat.lt_trans (hr.lt (by omega) (by omega) j) hm
     · rw [if_neg hm]
       refine vQ hr fuel lo _ (by omega) (by omega) (by omega) h4 fun i i1 i2=>?_
       by_cases e:i=(lo+hi) / 2
       · rw [e]; omega
       · have := hr.lt (show (lo + hi) / 2 < i by omega) i2 j
         omega
   · rw [if_neg hlt]
     have e:lo=hi:=by omega
     subst e
     exact ⟨h2,h4,h5⟩
theorem below_is {xs:Array Nat} (hr:Rise xs) (j:Nat) :
  SetTable.below xs j<=xs.size/\(∀ i,i < SetTable.below xs j->xs.getD i j < j)/\∀ i,SetTable.below xs j<=i->i < xs.size->j<=xs.getD i j :=
 vQ hr xs.size 0 xs.size (Nat.zero_le _) (Nat.le_refl _) (by omega) (fun i hi=>absurd hi (Nat.not_lt_zero _)) fun i i1 i2=>by omega
def Tidy (t:SetTable):Prop:=Rise t.place/\t.dummies = #[]
theorem insert_list {α : Type} (xs:Array α) (p:Nat) (x : α):(SetTable.insertAt xs p x).toList=xs.toList.take p++x::xs.toList.drop p:=by
 unfold SetTable.insertAt
 simp only [Array.toList_append,Array.toList_push,Array.toList_extract,List.extract_eq_drop_take,List.drop_zero,Nat.sub_zero,List.append_assoc,List.singleton_append]
 congr 2
 rw [List.take_of_length_le (by simp)]
theorem put_tidy {t:SetTable} (h:Tidy t) {j:Nat} (hj:t.place[SetTable.below t.place j]?≠some j):Tidy (t.put j).1:=by
 obtain ⟨b1,b2,b3⟩:=below_is h.1 j
 refine ⟨?_,?_⟩
 · show Rise (SetTable.insertAt t.place (SetTable.below t.place j) j)
   unfold Rise
   rw [insert_list,List.pairwise_append]
   have gt:∀ q∈t.place.toList.drop (SetTable.below t.place j),j < q:=fun q hq=>by
    obtain ⟨i,hi,e⟩:=List.getElem_of_mem hq
    rw [List.length_drop,Array.length_toList] at hi
    have hlt:SetTable.below t.place j+i < t.place.size:=by omega
    have eq:t.place.getD (SetTable.below t.place j+i) j=q:=by
     rw [<- e,Array.getD_eq_getD_getElem?,getElem?_pos t.place (SetTable.below t.place j+i) hlt]; simp
    have h3:=b3 (SetTable.below t.place j+i) (by omega) hlt
    rw [eq] at h3
    by_cases hi0:i=0
    · subst hi0
      rw [getElem?_pos t.place (SetTable.below t.place j) (by omega)] at hj
      rw [Array.getD_eq_getD_getElem?,Nat.add_zero,getElem?_pos t.place (SetTable.below t.place j) (by omega)] at eq
      simp only [Option.getD_some] at eq
      rw [eq] at hj
      have:q≠j:=fun z=>hj (by rw [z])
      omega
    · have h4 := h.1.lt (i := SetTable.below t.place j) (k := SetTable.below t.place j + i) (by omega) hlt j
      rw [eq] at h4
      have h5:=b3 (SetTable.below t.place j) (Nat.le_refl _) (by omega)
      omega
   have lt:∀ q∈t.place.toList.take (SetTable.below t.place j),q < j:=fun q hq=>by
    obtain ⟨i,hi,e⟩:=List.getElem_of_mem hq
    rw [List.length_take,Array.length_toList] at hi
    have eq:t.place.getD i j=q:=by
     rw [<- e,Array.getD_eq_getD_getElem?,getElem?_pos t.place i (by omega)]; simp
    rw [<- eq]
    exact b2 i (by omega)
   refine ⟨List.Pairwise.sublist (List.take_sublist ..) h.1,List.pairwise_cons.mpr ⟨gt,List.Pairwise.sublist (List.drop_sublist ..) h.1⟩,fun a ha b hb=>?_⟩
   rcases List.mem_cons.mp hb with rfl | hb
   · exact lt a ha
   · exact Nat.lt_trans (lt a ha) (gt b hb)
 · show (if SetTable.has t.dummies j then SetTable.eraseAt t.dummies (SetTable.below t.dummies j) else t.dummies) = #[]
   rw [h.2]
   rw [if_neg]
   unfold SetTable.has
   simp
theorem probe_go {t:SetTable} (h:t.dummies = #[]) (f:Nat->Int) (hs:Int):∀ (fuel:Nat) (p:SetTable.Probe),p.dummy=none->∀ j d,SetTable.probe.go t f hs fuel p=some (.empty j d)->d=none/\t.slot j = .empty
 | 0,p,_,j,d,e=>by unfold SetTable.probe.go at e; cases e
 | fuel + 1, p, hp, j, d, e => by
   have ha:∀ q:SetTable.Probe,(t.advance q).dummy=q.dummy:=fun q=>by
    unfold SetTable.advance
    split <;> rfl
   unfold SetTable.probe.go at e
   cases hsl:t.slot p.j with
   | empty =>
     rw [hsl] at e
     simp only [Option.some.injEq,SetTable.Met.empty.injEq] at e
     obtain ⟨rfl,rfl⟩:=e
     exact ⟨hp,hsl⟩
   | dummy =>
     exfalso
     unfold SetTable.slot at hsl
     dsimp only at hsl
     split at hsl
     · cases hsl
     · rw [h] at hsl
       split at hsl
       · rename_i hh
         unfold SetTable.has at hh
         simp at hh
       · cases hsl
   | live i =>
     rw [hsl] at e
     dsimp only at e
     split at e
     · cases e
     · exact probe_go h f hs fuel _ (by rw [ha]; exact hp) j d e
theorem slot_empty {t:SetTable} {j:Nat} (h:t.slot j = .empty):t.place[SetTable.below t.place j]?≠some j:=by
 intro hh
 unfold SetTable.slot at h
 dsimp only at h
 rw [if_pos (by rw [hh]; simp)] at h
 cases h
theorem free_is {t:SetTable} (h:Tidy t) {hs:Int} {j:Nat} {d:Bool} (e:t.freeSlot hs=some (j,d)):t.place[SetTable.below t.place j]?≠some j:=by
 unfold SetTable.freeSlot at e
 split at e
 · rename_i j' d' he
   obtain ⟨rfl,h2⟩:=probe_go h.2 _ hs _ _ rfl j' d' he
   simp only [Option.some.injEq,Prod.mk.injEq] at e
   obtain ⟨rfl,rfl⟩:=e
   exact slot_empty h2
 · cases e
def Okt (bt:Bool) (t:SetTable):Prop:=t.led = !bt/\(t.plain=true->Tidy t)
theorem layNew_okt {bt:Bool} {t:SetTable} (h:Okt bt t) (es:Array (Int×Value)) (hs:Int) (x:Value):Okt bt (layNew t es hs x).2.1:=by
 unfold layNew
 split
 · rename_i j d he
   dsimp only
   unfold SetTable.orStandIn
   split
   · exact ⟨h.1,fun hp=>put_tidy (h.2 hp) (free_is (h.2 hp) he)⟩
   · exact ⟨h.1,fun hp=>by cases hp⟩
 · exact ⟨h.1,fun hp=>by cases hp⟩
theorem laid_okt {bt:Bool} {mask finger moves:Nat} {led plain:Bool} {hs:Array Int} {t:SetTable} {o:Array Nat} (hl:led = !bt) (e:SetTable.laid mask finger moves led plain hs=some (t,o)):Okt bt t:=by
 unfold SetTable.laid at e
 cases ho:SetTable.layClean mask hs with
 | none=>rw [ho] at e; cases e
 | some owner =>
   rw [ho] at e
   simp only [Option.bind_eq_bind,Option.bind_some,Option.pure_def,Option.some.injEq,Prod.mk.injEq] at e
   obtain ⟨rfl,rfl⟩:=e
   refine ⟨hl,fun _=>⟨?_,rfl⟩⟩
   unfold Rise
   simp only
   have key:∀ l:List Nat,l.Pairwise (· < ·)->((l.filterMap fun j=>(owner.getD j none).map (j,·)).map (·.1)).Pairwise (· < ·):=by
    intro l hl
    refine List.Pairwise.sublist (?_:List.Sublist _ l) hl
    clear hl
    induction l with
    | nil=>exact List.Sublist.refl _
    | cons a l ih =>
      rw [List.filterMap_cons]
      cases owner.getD a none with
      | none=>exact List.Sublist.cons _ ih
      | some b=>exact List.Sublist.cons₂ _ ih
   exact key _ List.pairwise_lt_range
theorem relayAll_okt {bt:Bool} {t:SetTable} (h:Okt bt t) (es:Array (Int×Value)) (n:Nat):Okt bt (relayAll t es n).2.1:=by
 unfold relayAll
 split
 · rename_i t' o he
   dsimp only
   split
   · exact laid_okt h.1 he
   · exact ⟨h.1,fun hp=>by cases hp⟩
 · exact ⟨h.1,fun hp=>by cases hp⟩
section
variable {prog:Program} {w:World} {A:Around} {E:Value->Shared->Prop} {s:Shared}
def bt (w:World):Bool:=w.params.followText "set-order"
def SI (prog:Program) (w:World) (h:Heap) (a:Addr) (ns:List Int):Prop :=
 ∃ o es ep t ks,h.get? a=some o/\o.ExactSet/\o.data = .set es ep t/\ElemsOf (intKind prog w) es.toList/\IntsAre (es.toList.map (·.2)) ks/\ks.Nodup/\(∀ k,k∈ks↔k∈ns)
  /\ es.size < scanBound/\t.fits es.size=true/\Okt (bt w) t
theorem ints_perm:∀ {us vs:List Value} {ns:List Int},IntsAre vs ns->us.Perm vs->∃ ms,IntsAre us ms/\ms.Perm ns:=by
 intro us vs ns hI hp
 refine ⟨us.map numOf,intsAre_map us fun v hv=>hI.all v (hp.mem_iff.mp hv),?_⟩
 have:=hp.map numOf
 rwa [hI.nums] at this
theorem ints_snoc:∀ {vs:List Value} {ns:List Int},IntsAre vs ns->∀ (k:Int) (t:Tok),IntsAre (vs++[.int k t]) (ns++[k])
 | _,_,.nil,k,t=>.cons k t .nil
 | _,_,.cons n u h,k,t=>.cons n u (ints_snoc h k t)
theorem ints_mem:∀ {vs:List Value} {ns:List Int},IntsAre vs ns->∀ k,k∈ns↔∃ v∈vs,Value.isInt k v=true
 | _,_,.nil,k=>by simp
 | _, _, .cons n u h, k => by
   rw [List.mem_cons,ints_mem h k]
   constructor
   · rintro (rfl | ⟨v, h1, h2⟩)
     · exact ⟨_,.head _,by simp [Value.isInt]⟩
     · exact ⟨v,.tail _ h1,h2⟩
   · rintro ⟨v, h1, h2⟩
     rcases List.mem_cons.mp h1 with rfl | h1
     · have e : n = k := by simpa [Value.isInt] using h2
       exact .inl e.symm
     · exact .inr ⟨v,h1,h2⟩
theorem add_one {a:Addr} {ns:List Int} {k:Int} {tk:Tok} {Q:Bool->Shared->Prop} (hS:SI prog w s.heap a ns) (hroom:∀ o es ep t,s.heap.get? a=some o->o.data = .set es ep t->es.size+1 < scanBound)
  (h:∀ h' b,Heap.SameBut a s.heap h'->SI prog w h' a (ns++[k])->(∀ o es ep t o' es' ep' t',s.heap.get? a=some o->o.data = .set es ep t->h'.get? a=some o'->o'.data = .set es' ep' t'->es'.size<=es.size+1)->Q b { s with heap:=h' }) :
  wpAny (model prog w) A (setAddHashed a (.int k tk) (hashInt k)) Q E s:=by
 obtain ⟨o,es,ep,t,ks,ho,hex,hd,hel,hI,hnd,hmem,hb,hf,hok⟩:=hS
 have hb1:es.size+1 < scanBound:=hroom o es ep t ho hd
 have hkey:(intKind prog w).is k (.int k tk)=true:=intKind_is _ _ _ _
 have old:∀ o₂ es₂ ep₂ t₂,s.heap.get? a=some o₂->o₂.data = .set es₂ ep₂ t₂->es₂ = es:=fun o₂ es₂ ep₂ t₂ e1 e2=>by
  rw [ho] at e1; cases e1; rw [hd] at e2; cases e2; rfl
 unfold setAddHashed setAddHashedIn
 refine wpAny_holding (wpAny_bind (wpAny_setState_of ho hd hf ?_))
 dsimp only
 rw [byScan_of (knd:=intKind prog w) rfl hb hel]
 simp only [↓reduceIte]
 unfold setAddByScan
 refine wpAny_bind (wpAny_bind (wpAny_rule (wpAny_bind (wpAny_setScan_of (knd:=intKind prog w) hkey ho hd hf hel ?_))))
 have hks:k∈ks↔∃ e∈es.toList,(intKind prog w).is k e.2=true:=by
  rw [ints_mem hI k]
  constructor
  · rintro ⟨v, h1, h2⟩
    obtain ⟨e,he,rfl⟩:=List.mem_map.mp h1
    exact ⟨e,he,h2⟩
  · rintro ⟨e, he, h2⟩
    exact ⟨e.2,List.mem_map.mpr ⟨e,he,rfl⟩,h2⟩
 cases hr:List.findIdx? (fun e=>(intKind prog w).is k e.2) es.toList with
 | some j =>
   dsimp only
   obtain ⟨hj,hpj,_⟩:=List.findIdx?_eq_some_iff_getElem.mp hr
   have hin:k∈ks:=hks.mpr ⟨es.toList[j],List.getElem_mem hj,hpj⟩
   refine wpAny_pure (wpAny_pure ?_)
   have:=h s.heap false (Heap.SameBut.refl a s.heap) ⟨o,es,ep,t,ks,ho,hex,hd,hel,hI,hnd,fun z=>?_,hb,hf,hok⟩ fun o₁ es₁ ep₁ t₁ o₂ es₂ ep₂ t₂ e1 e2 e3 e4=>by
    rw [old _ _ _ _ e1 e2,old _ _ _ _ e3 e4]; omega
   · exact this
   · rw [List.mem_append, List.mem_singleton, <- hmem z]
     exact ⟨.inl,fun q=>q.elim id fun e=>e ▸ hin⟩
 | none =>
   dsimp only
   have hout:k ∉ ks:=fun hin=>by
    obtain ⟨e,he,hp⟩:=hks.mp hin
    have:=List.findIdx?_eq_none_iff.mp hr e he
    rw [hp] at this; cases this
   have said:∀ (way:Bool) {z:Shared} {T:Unit->Shared->Prop},T () z->wpAny (model prog w) A (match way with | true=>rule "set.scan.the-table-gave-way" | false=>pure ()) T E z:=fun way z T q=>match way with
    | true=>wpAny_rule q
    | false=>wpAny_pure q
   have hperm:=layNew_perm t es (hashInt k) (.int k tk)
   have hfits:=layNew_fits t es (hashInt k) (.int k tk)
   have hokt:=layNew_okt hok es (hashInt k) (.int k tk)
   change wpAny (model prog w) A (do
    let x:=layNew t es (hashInt k) (.int k tk)
    _) _ _ _
   generalize hL:layNew t es (hashInt k) (.int k tk)=L at hperm hfits hokt ⊢
   obtain ⟨es1,t1,wd,gave⟩:=L
   dsimp only at hperm hfits hokt ⊢
   rw [Array.toList_push] at hperm
   have mk:∀ es2:Array (Int×Value),es2.toList.Perm es1.toList->ElemsOf (intKind prog w) es2.toList/\(∃ ks2,IntsAre (es2.toList.map (·.2)) ks2/\ks2.Nodup/\∀ z,z∈ks2↔z∈ns++[k])/\es2.size=es.size+1:=fun es2 hp2=>by
    have hp3:=hp2.trans hperm
    refine ⟨(hel.push (knd:=intKind prog w) hkey rfl).perm hp3,?_,?_⟩
    · have e1:IntsAre ((es.toList++[(hashInt k,Value.int k tk)]).map (·.2)) (ks++[k]):=by
       rw [List.map_append]; exact ints_snoc hI k tk
      obtain ⟨ks2,g1,g2⟩:=ints_perm e1 (hp3.map (·.2))
      refine ⟨ks2,g1,g2.nodup_iff.mpr ?_,fun z=>?_⟩
      · rw [List.nodup_append]
        exact ⟨hnd,by simp,fun x hx y hy=>by rw [List.mem_singleton.mp hy]; exact fun e=>hout (e ▸ hx)⟩
      · rw [g2.mem_iff,List.mem_append,List.mem_append,hmem z]
    · have := hp3.length_eq
      simpa using this
   obtain ⟨hel1,⟨ks1,hI1,hnd1,hm1⟩,hsz1⟩:=mk es1 (List.Perm.refl _)
   refine wpAny_bind (said _ ?_)
   have fin:∀ (t2:SetTable),t2.fits es1.size=true->Okt (bt w) t2->wpAny (model prog w) A (do
     storeSet a es1 t2
     if (!wd && t2.tooFull) = true then do
         (match (relayAll t2 es1 (SetTable.grown es1.size)).2.2 with | true=>rule "set.scan.the-table-gave-way" | false=>pure ():Sem Unit)
         storeSet a (relayAll t2 es1 (SetTable.grown es1.size)).1 (relayAll t2 es1 (SetTable.grown es1.size)).2.1; pure (some true)
      else pure (some true)) (fun r s'=>wpAny (model prog w) A (match r with | some added=>pure added | none=>setAddHashedIn a (.int k tk) (hashInt k) 99999) Q E s') E s:=fun t2 hf2 ok2=>by
    refine wpAny_bind (wpAny_storeSet_of ho hd ?_ (fits_of_scanBound (by omega)))
    have hg1:(s.heap.update a (Obj.putSet es1 t2)).get? a=some { o with data:=.set es1 (ep+1) t2 }:=by
     have:=Heap.get?_update_self (Obj.putSet es1 t2) ho (by rw [putSet_of es1 t2 hd]; rfl)
     rw [putSet_of es1 t2 hd] at this; exact this
    have sb1:=Heap.SameBut.update s.heap a (Obj.putSet es1 t2)
    split
    · have hp := relayAll_perm t2 es1 (SetTable.grown es1.size)
      have hfr:=relayAll_fits t2 es1 (SetTable.grown es1.size)
      have hor:=relayAll_okt ok2 es1 (SetTable.grown es1.size)
      generalize relayAll t2 es1 (SetTable.grown es1.size)=Rl at hp hfr hor ⊢
      obtain ⟨es2,t3,g2⟩:=Rl
      dsimp only at hp hfr hor ⊢
      obtain ⟨hel2,⟨ks2,hI2,hnd2,hm2⟩,hsz2⟩:=mk es2 hp
      refine wpAny_bind (said _ ?_)
      refine wpAny_bind (wpAny_storeSet_of hg1 rfl ?_ (fits_of_scanBound (by omega)))
      have hg2:((s.heap.update a (Obj.putSet es1 t2)).update a (Obj.putSet es2 t3)).get? a=some { o with data:=.set es2 (ep+1+1) t3 }:=by
       have:=Heap.get?_update_self (Obj.putSet es2 t3) hg1 (by rw [putSet_of es2 t3 rfl]; rfl)
       rw [putSet_of es2 t3 rfl] at this; exact this
      refine wpAny_pure (wpAny_pure (h _ true (sb1.trans (Heap.SameBut.update _ a _)) ⟨_,es2,_,t3,ks2,hg2,hex,rfl,hel2,hI2,hnd2,hm2,by omega,hfr,hor⟩ fun o₁ es₁ ep₁ t₁ o₂ es₂ ep₂ t₂ e1 e2 e3 e4=>?_))
      rw [old _ _ _ _ e1 e2]
      rw [hg2] at e3; cases e3; cases e4; omega
    · refine wpAny_pure (wpAny_pure (h _ true sb1 ⟨_, es1, _, t2, ks1, hg1, hex, rfl, hel1, hI1, hnd1, hm1, by omega, hf2, ok2⟩ fun o₁ es₁ ep₁ t₁ o₂ es₂ ep₂ t₂ e1 e2 e3 e4 => ?_))
      rw [old _ _ _ _ e1 e2]
      rw [hg1] at e3; cases e3; cases e4; omega
   split
   · refine wpAny_bind ?_
     rw [hashByValue_scannable 8 rfl]
     refine wpAny_pure ?_
     exact fin t1 hfits hokt
   · refine wpAny_bind (wpAny_pure ?_)
     exact fin t1 hfits hokt
end
end TS
namespace TS
open PySem PyProof.Rows
set_option autoImplicit false
section
variable {prog:Program} {w:World}
def SIm (prog:Program) (w:World) (h:Heap) (a:Addr) (ns:List Int) (m:Nat):Prop :=
 SI prog w h a ns/\∀ o es ep t,h.get? a=some o->o.data = .set es ep t->es.size<=m
theorem SIm.at {h h':Heap} {a:Addr} {ns:List Int} {m:Nat} (hS:SIm prog w h a ns m) (k:∀ o,h.get? a=some o->h'.get? a=some o):SIm prog w h' a ns m:=by
 obtain ⟨⟨o,es,ep,t,ks,ho,r⟩,hm⟩:=hS
 refine ⟨⟨o,es,ep,t,ks,k o ho,r⟩,fun o' es' ep' t' e1 e2=>?_⟩
 rw [k o ho] at e1
 cases e1
 exact hm o es' ep' t' ho e2
section
variable {A:Around} {R:Result->Shared->Prop} {J:Addr} {feet hand:List Addr} {G:Array GenState->Array GenState->Prop} {n:Nat} {P:Nat->Value->Prop} {Z:Nat->Shared->Prop}
theorem upd_step {c:Addr} {z:Shared} (h:wpAny (model prog w) A.in1 (pyNext (.ref J)) (fun r z'=>match r with
   | none=>R (.ok (.ret .none)) z'
   | some v=>wpAny (model prog w) A.in1 (setAdd c v) (fun _ z2=>codeAny (model prog w) A (.builtin "set.update.loop" ⟨[.ref c,.ref J],[]⟩) R z2) (fun e z2=>R (.error e) z2) z') (fun e z2=>R (.error e) z2) z) :
  codeAny (model prog w) A (.builtin "set.update.loop" ⟨[.ref c,.ref J],[]⟩) R z:=by
 have pl:=F.plain_set_update_loop
 refine codeAny_builtin F.entry_set_update_loop (Eq.mpr (congrArg (fun B=>wpAny _ B _ _ _ z) (Around.under_plainId pl _)) ?_)
 show wpAny _ A.in1 (pyNext (.ref J) >>= _) _ _ z
 refine wpAny_bind (wpAny_mono h (fun r z' q=>?_) fun _ _ q=>q)
 cases r with
 | none=>exact wpAny_pure q
 | some v =>
   show wpAny _ A.in1 (holding [v] (setAdd c v) >>= _) _ _ z'
   exact wpAny_bind (wpAny_holding (wpAny_mono q (fun _ z2 q2=>wpAny_pure ⟨plainId_quiet pl _,q2⟩) fun _ _ q2=>q2))
theorem upd_loop (W:WalksS prog w A.in1 J feet hand G n P Z) (c:Addr) (off:c ∉ feet) (num:Nat->Int) (isn:∀ i v,P i v->∃ t,v = .int (num i) t) (few:n+1 < scanBound) :
  ∀ (k i:Nat) (z:Shared),n - i=k->i<=n->Z i z->SIm prog w z.heap c ((List.range i).map num) i →
   (∀ z',Moved (c::hand) G z z'->SIm prog w z'.heap c ((List.range n).map num) n->R (.ok (.ret .none)) z') →
   codeAny (model prog w) A (.builtin "set.update.loop" ⟨[.ref c,.ref J],[]⟩) R z:=by
 have away:c ∉ hand:=fun q=>off (W.sub c q)
 have more:∀ b,b∈hand->b∈c::hand:=fun b q=>.tail _ q
 intro k
 induction k with
 | zero =>
   intro i z hk hi here hS done
   have e:i=n:=by omega
   subst e
   refine upd_step (W.done z _ _ here fun z' mv=>?_)
   exact done z' (mv.mono more) (hS.at fun o e=>mv.heap c o away e)
 | succ k ih =>
   intro i z hk hi here hS done
   have hlt:i < n:=by omega
   refine upd_step (W.item i z _ _ hlt here fun v z' hv here' mv=>?_)
   obtain ⟨t,rfl⟩:=isn i v hv
   have hS':=hS.at fun o e=>mv.heap c o away e
   dsimp only
   unfold setAdd
   refine wpAny_holding (wpAny_bind ((intKind prog w).pyHash (k:=num i) (intKind_is _ _ _ _) ?_))
   refine add_one (s:={ z' with toks:=z'.toks+1 }) hS'.1 (fun o es ep t e1 e2=>?_) fun h' b same hS2 hsz=>?_
   · have := hS'.2 o es ep t e1 e2
     omega
   have rest:∀ b,b≠c->h'.get? b=z'.heap.get? b:=same.2
   have hS3:SIm prog w h' c ((List.range (i+1)).map num) (i+1):=by
    refine ⟨by rw [List.range_succ,List.map_append]; exact hS2,fun o es ep t e1 e2=>?_⟩
    obtain ⟨⟨o₀,es₀,ep₀,t₀,_,ho₀,_,hd₀,_⟩,hm₀⟩:=hS'
    have:=hsz o₀ es₀ ep₀ t₀ o es ep t ho₀ hd₀ e1 e2
    have:=hm₀ o₀ es₀ ep₀ t₀ ho₀ hd₀
    omega
   refine ih (i+1) _ (by omega) hlt (W.frame _ z' _ _ here' (Nat.le_succ _) fun b q o e=>(rest b fun y=>off (y ▸ q)).trans e) hS3 fun z2 mv2 hS4=>done z2 (Moved.trans W.gtrans ((mv.mono more).then_heap (Nat.le_succ _) fun b o q e=>(rest b fun y=>q (y ▸ .head _)).trans e) mv2) hS4
end
section
variable {A:Around} {E:Value->Shared->Prop} {s:Shared}
abbrev nset (led:Bool):Obj:={ cls:=.type "set",dict:=none,data:=.set #[] 0 (.fresh 0 0 led) }
theorem new_set1 (x:Value) {Q:Value->Shared->Prop} (h:Q (.ref s.heap.objs.size) { s with heap:=s.heap.push (nset (!bt w)) }) :
  codeAny (model prog w) A (.call (.builtin "set.__new__") ⟨[.type "set",x],[]⟩) (wants Q E) s:=by
 have own:=sub_set_self
 have pl:=PySem.F.plain_set_new
 refine codeAny_of_tree ?_
 show wpAny _ A.in1 (checkBuiltinCall "set.__new__" ⟨[.type "set",x],[]⟩ >>= fun _=>again (.builtin "set.__new__" ⟨[.type "set",x],[]⟩)) _ _ s
 refine wpAny_bind (wpAny_of_eq (PySem.F.newCall_set_1 x) (wpAny_pure ⟨plainId_quiet pl _,codeAny_builtin PySem.F.entry_set_new ?_⟩))
 rw [Around.under_plainId pl _]
 obtain ⟨hp,gens,dr,toks,sys⟩:=s
 unfold Builtin.«set.__new__»
 unfold Builtin.Frozenset.newClass
 wp_walk
 exact wpAny_askSetting (wpAny_pure (wpAny_bind (wpAny_alloc (wpAny_pure (wpAny_pure h)))))
theorem si_new (h:Heap):SIm prog w (h.push (nset (!bt w))) h.objs.size [] 0:=by
 have hg:(h.push (nset (!bt w))).get? h.objs.size=some (nset (!bt w)):=Heap.get?_push_size _ rfl
 refine ⟨⟨_,#[],0,_,[],hg,⟨rfl,rfl,rfl⟩,rfl,fun e he=>by simp at he,.nil,List.nodup_nil,fun _=>Iff.rfl,by decide,by rfl,rfl,fun _=>⟨List.Pairwise.nil,rfl⟩⟩,fun o es ep t e1 e2=>?_⟩
 rw [hg] at e1
 cases e1
 cases e2
 exact Nat.le_refl _
theorem nums_all {items:Array Value} {ns:List Int} (hi:IntsAre items.toList ns):(List.range items.size).map (fun i=>ns.getD i 0)=ns:=by
 have hlen:items.size=ns.length:=by rw [<- IntsAre.length hi,Array.length_toList]
 apply List.ext_getElem?
 intro i
 rw [List.getElem?_map]
 by_cases hi':i < ns.length
 · rw [List.getElem?_range (by omega)]
   simp [List.getD_eq_getElem?_getD,List.getElem?_eq_getElem hi']
 · rw [List.getElem?_eq_none (by simp; omega),List.getElem?_eq_none (by omega)]; rfl
theorem init_set {l:Addr} {items:Array Value} {ns:List Int} {Q:Value->Shared->Prop} (free:A.handled=none) (hl:s.heap.IsList l items) (hi:IntsAre items.toList ns) (few:items.size+1 < scanBound)
  (h:∀ (h':Heap) (tk:Nat),SIm prog w h' s.heap.objs.size ns items.size->(∀ b o,s.heap.get? b=some o->h'.get? b=some o)->Q .none { s with heap:=h',toks:=tk }) :
  codeAny (model prog w) A (.call (.builtin "set.__init__") ⟨[.ref s.heap.objs.size,.ref l],[]⟩) (wants Q E) { s with heap:=s.heap.push (nset (!bt w)) }:=by
 have hS:(s.heap.push (nset (!bt w))).get? s.heap.objs.size=some (nset (!bt w)):=Heap.get?_push_size _ rfl
 refine codeAny_call_builtin PySem.F.called_set.init.plain PySem.F.entry_set_init (check_set_init_1 ⟨_,hS,rfl⟩ ?_)
 obtain ⟨lo,hlo,c1,nl,d1⟩:=hl
 obtain ⟨k1,k2,k3,k4⟩:=lo
 cases c1
 cases d1
 have old:(s.heap.push (nset (!bt w))).get? l=some { cls:=.type "list",dict:=k2,data:=.seq items nl,slots:=k4 }:=Heap.get?_push_of_some _ hlo
 have no1:=PySem.F.sub_list_set
 have no2:=PySem.F.sub_list_frozenset
 have no3:(Value.type "list" == Value.type "dict")=false:=rfl
 have hl1:(s.heap.push (nset (!bt w))).IsList l items:=⟨_,old,rfl,nl,rfl⟩
 have lS:=Heap.lt_size hlo
 have sz:(s.heap.push (nset (!bt w))).objs.size=s.heap.objs.size+1:=size_push' _ _
 have far:∀ b:Addr,b < s.heap.objs.size->b≠(s.heap.push (nset (!bt w))).objs.size:=fun b hb=>by rw [sz]; exact Nat.ne_of_lt (Nat.lt_succ_of_lt hb)
 unfold Builtin.«set.__init__» noKeywords
 unfold Builtin.Frozenset.updateFrom
 generalize walker:pyIter=PI
 wp_walk
 subst walker
 refine wpAny_pyIter_list hl1 (wpAny_bind (wpAny_runValue ?_))
 refine upd_loop ((Walks.list (by simp [free]) _ l (far l lS) items).toS) s.heap.objs.size ?off (fun i=>ns.getD i 0) (fun i v hv=>IntsAre.int_at hi i v (by rw [Array.getElem?_toList]; exact hv)) few items.size 0 _ rfl (Nat.zero_le _)
  ⟨⟨_,Heap.get?_push_size _ rfl,rfl,rfl⟩,hl1.push _⟩ ((si_new s.heap).at fun o e=>Heap.get?_push_of_some _ e) ?fin
 case off =>
  rw [sz]
  intro q
  rcases List.mem_cons.mp q with e | q
  · exact Nat.ne_of_lt (Nat.lt_succ_self _) e
  · exact Nat.ne_of_gt lS (List.mem_singleton.mp q)
 case fin =>
  rintro ⟨h2,g2,d2,t2,s2⟩ mv full
  have eg:g2=s.gens:=mv.gens
  have ed:d2=s.drawn:=mv.drawn
  have es:s2=s.os:=mv.os
  rw [nums_all hi] at full
  subst eg ed es
  refine wpAny_pure (wpAny_pure (h h2 t2 full fun b o e=>?_))
  have hb:=Heap.lt_size e
  refine mv.heap b o (fun q=>?_) (Heap.get?_push_of_some _ (Heap.get?_push_of_some _ e))
  rcases List.mem_cons.mp q with y | q
  · exact Nat.ne_of_lt hb y
  · exact far b hb (List.mem_singleton.mp q)
set_option maxHeartbeats 4000000 in
theorem call_set {l:Addr} {items:Array Value} {ns:List Int} {Q:Value->Shared->Prop} (free:A.handled=none) (hl:s.heap.IsList l items) (hi:IntsAre items.toList ns) (few:items.size+1 < scanBound)
  (h:∀ (h':Heap) (tk:Nat),SIm prog w h' s.heap.objs.size ns items.size->(∀ b o,s.heap.get? b=some o->h'.get? b=some o)->Q (.ref s.heap.objs.size) { s with heap:=h',toks:=tk }) :
  wpAny (model prog w) A (call (.type "set") [.ref l]) Q E s:=by
 have C:=PySem.F.called_set
 obtain ⟨top,above,order⟩:=C.mro
 have made:=C.made
 have below:=C.sub
 have nt:=C.notType
 have can:=C.canCreate
 have fits:=PySem.F.typeCall_set_1 (.ref l)
 refine wpAny_call (codeAny_of_tree (show wpAny _ _ (callAny (.type "set") _) _ _ _ from wpAny_pure ⟨Code.quiet_builtin _ (by decide +kernel),codeAny_builtin PySem.F.entry_type_call ?_⟩))
 rw [Around.under_plain (weight_type_call_type _ _ _) rfl]
 repeat (any_goals first | assumption | wp_step)
 refine codeAny_mono (new_set1 (.ref l) (E:=E) (Q:=fun v z=>v = .ref s.heap.objs.size/\z = { s with heap:=s.heap.push (nset (!bt w)) }) ⟨rfl,rfl⟩) fun r z q=>?_
 rcases r with e | fl
 · exact q
 cases fl <;> try exact q.elim
 obtain ⟨rfl,rfl⟩:=q
 have at':Shared.TypeIs { s with heap:=s.heap.push (nset (!bt w)) } (.ref s.heap.objs.size) "set":=⟨_,Heap.get?_push_size _ rfl,rfl⟩
 have look:=C.init.lookup
 have bound:=C.init.bind (.ref s.heap.objs.size)
 repeat (any_goals first | assumption | wp_step)
 refine codeAny_mono (init_set (E:=E) (Q:=fun v z=>v = .none/\∃ h' tk,z = { s with heap:=h',toks:=tk }/\SIm prog w h' s.heap.objs.size ns items.size/\∀ b o,s.heap.get? b=some o->h'.get? b=some o) (by simp [free]) hl hi few
  fun h' tk q1 q2=>⟨rfl,h',tk,rfl,q1,q2⟩) fun r z q=>?_
 rcases r with e | fl
 · exact q
 cases fl <;> try exact q.elim
 obtain ⟨rfl,h',tk,rfl,q1,q2⟩:=q
 repeat (any_goals first | assumption | wp_step)
 exact h h' tk q1 q2
end
end
end TS
namespace TS
open PySem PyProof.Rows
set_option autoImplicit false
theorem slot_set_iter:Slot "set" "__iter__" "set.__iter__" :=
 .of (owner:="set") (n:="__iter__") (by rw [typeLookup_type,builtinLookup_eq_fast]; kernel_rfl) (by decide +kernel) (by decide +kernel) (by decide +kernel) (by first | exact .inl (by decide +kernel) | exact .inr (by decide +kernel)) (by rw [isSubtype_type]; kernel_rfl)
theorem slot_setit_next:Slot "set_iterator" "__next__" "set_iterator.__next__" :=
 .of (owner:="set_iterator") (n:="__next__") (by rw [typeLookup_type,builtinLookup_eq_fast]; kernel_rfl) (by decide +kernel) (by decide +kernel) (by decide +kernel) (by first | exact .inl (by decide +kernel) | exact .inr (by decide +kernel)) (by rw [isSubtype_type]; kernel_rfl)
theorem slot_setit_iter:Slot "set_iterator" "__iter__" "set_iterator.__iter__" :=
 .of (owner:="set_iterator") (n:="__iter__") (by rw [typeLookup_type,builtinLookup_eq_fast]; kernel_rfl) (by decide +kernel) (by decide +kernel) (by decide +kernel) (by first | exact .inl (by decide +kernel) | exact .inr (by decide +kernel)) (by rw [isSubtype_type]; kernel_rfl)
theorem entry_set_iter:entryFor table "set.__iter__" = some Builtin.«frozenset.__iter__»:=entryFor_alias (id':="frozenset.__iter__") (by kernel_rfl) rfl (by decide +kernel) (by kernel_rfl)
theorem entry_setit_iter:entryFor table "set_iterator.__iter__" = some Builtin.«dict_keyiterator.__iter__»:=entryFor_alias (id':="dict_keyiterator.__iter__") (by kernel_rfl) rfl (by decide +kernel) (by kernel_rfl)
theorem args_setit_iter (a:Value):argsOk "set_iterator.__iter__" ⟨[a],[]⟩:=by unfold argsOk; kernel_rfl
theorem xT {α : Type} : ∀ {l:List α} {i:Nat} (h:i < l.length),(l[i]::l.eraseIdx i).Perm l
 | a::l,0,h=>List.Perm.refl _
 | a :: l, i + 1, h => by
   rw [List.eraseIdx_cons_succ,List.getElem_cons_succ]
   exact (List.Perm.swap _ _ _).trans (List.Perm.cons _ (xT (by simpa using h)))
theorem entry_setit_next:entryFor table "set_iterator.__next__" = some Builtin.«set_iterator.__next__»:=entryFor_of_fast (by kernel_rfl)
theorem args_set_iter (a:Value):argsOk "set.__iter__" ⟨[a],[]⟩:=by unfold argsOk; kernel_rfl
theorem args_setit_next (a:Value):argsOk "set_iterator.__next__" ⟨[a],[]⟩:=by unfold argsOk; kernel_rfl
theorem set_has_len:typeLookup (.type "set") "__len__" = pure (some (.builtin "set.__len__")):=by rw [typeLookup_type,builtinLookup_eq_fast]; kernel_rfl
theorem pick_go {α : Type} (next:Nat->Nat):∀ (fuel k:Nat) (left:List α) (out:Array α),left.length=fuel->(pickOrder.go next fuel k left out).toList.Perm (out.toList++left)
 | 0, k, left, out, h => by
   have e:left=[]:=List.length_eq_zero_iff.mp h
   subst e
   unfold pickOrder.go
   simp
 | fuel + 1, k, left, out, h => by
   unfold pickOrder.go
   have hi:next k % left.length < left.length:=Nat.mod_lt _ (by omega)
   rw [List.getElem?_eq_getElem hi]
   dsimp only
   refine (pick_go next fuel (k+1) _ _ (by rw [List.length_eraseIdx_of_lt hi]; omega)).trans ?_
   rw [Array.toList_push,List.append_assoc]
   exact List.Perm.append_left _ (xT hi)
theorem pick_perm {α : Type} (next:Nat->Nat) (xs:Array α):(pickOrder next xs).toList.Perm xs.toList:=by
 have:=pick_go next xs.size 0 xs.toList #[] (by simp)
 simpa [pickOrder] using this
section
variable {prog:Program} {w:World} {A:Around} {E:Value->Shared->Prop} {s:Shared}
theorem wp_choose {M:Model} {src:Source} {n:Nat} {Q:Nat->Shared->Prop} (hn:n≠0) (h:∀ i d,i < n->Q i { s with drawn:=d }):wpAny M A (choose src n) Q E s:=by
 intro Γ p hΓ
 unfold choose
 rw [Sem.wp]
 refine ⟨hn,?_⟩
 rw [Sem.wp]
 exact h _ _ (Nat.mod_lt _ (by omega))
theorem wp_draw {α : Type} {M:Model} : ∀ (n:Nat) (xs:List α) (z:Shared) {Q:List α->Shared->Prop},xs.length=n->(∀ ys d,ys.Perm xs->Q ys { z with drawn:=d })->wpAny M A (drawOrder n xs) Q E z
 | 0, xs, z, Q, hl, h => by
   have e:xs=[]:=List.length_eq_zero_iff.mp hl
   subst e
   unfold drawOrder
   exact wpAny_pure (h [] z.drawn (List.Perm.refl _))
 | n+1,[],z,Q,hl,h=>by simp at hl
 | n + 1, x :: xs, z, Q, hl, h => by
   unfold drawOrder
   refine wpAny_bind (wp_choose (by simp) fun i d hi=>?_)
   rw [List.getElem?_eq_getElem hi]
   dsimp only
   refine wpAny_bind (wp_draw n _ _ (by rw [List.length_eraseIdx_of_lt hi,hl]; rfl) fun ys d' hp=>wpAny_pure ?_)
   exact h _ d' ((List.Perm.cons _ hp).trans (xT hi))
theorem xM {Q:Bool->Shared->Prop} (h:Q (bt w) s):wpAny (model prog w) A setsByText Q E s:=by
 unfold setsByText
 exact wpAny_bind (wpAny_askSetting (wpAny_pure h))
abbrev sit (f:Value) (i:Nat) (a:Addr) (n ep:Nat):Obj:={ cls:=.type "set_iterator",data:=.fields #[f,.int i 0,.ref a,.int n 0,.int ep 0] }
theorem stop_now {M:Model} {it:Addr} {Q:Value->Shared->Prop} (hh:A.handled=none) (h:∀ h' e,(∀ b o,s.heap.get? b=some o->h'.get? b=some o)->Shared.TypeIs { s with heap:=h' } e "StopIteration"->E e { s with heap:=h' }) :
  wpAny M A (do raiseNew (<- newExc (.type "StopIteration") []):Sem PySem.Fin) (fun r s'=>∃ v,r = .done (.ret v)/\Q v s') E s:=by
 refine wpAny_bind ?_
 simp only [newExc,newTuple]
 refine wpAny_bind (wpAny_newObj_type ?_ (by size_fits))
 refine wpAny_bind (m:=firstArgMember _ _) (wpAny_of_eq (a:=Value.none) rfl ?_)
 refine wpAny_newObj_type ?_ (by size_fits)
 simp only [raiseNew]
 refine wpAny_bind (wpAny_handled ?_)
 rw [hh]
 refine wpAny_bind (wpAny_pure (wpAny_throw ?_))
 refine h _ _ (fun b o e=>Heap.get?_push_of_some _ (Heap.get?_push_of_some _ e)) ⟨_,Heap.get?_push_size _ rfl,rfl⟩
theorem wC {it a:Addr} {f:Value} {i n ep:Nat} {Q:Option Value->Shared->Prop} (hit:s.heap.get? it=some (sit f i a n ep))
  (h:wpAny (model prog w) A.in1 (Builtin.«set_iterator.__next__» ⟨[.ref it],[]⟩) (fun r s'=>∃ v,r = .done (.ret v)/\Q (some v) s')
    (fun e s'=>s'.TypeIs e "StopIteration"/\Q none s') s):wpAny (model prog w) A (pyNext (.ref it)) Q E s:=by
 unfold pyNext
 refine wpAny_bind (wpAny_attempt (wpAny_callSpecial?_slot (name:=Str.ofString "__next__") ⟨_,hit,rfl⟩ slot_setit_next
  (wpAny_call_entry slot_setit_next ⟨_,hit,rfl⟩ entry_setit_next (wpAny_mono h (fun r s' ⟨v,e,q⟩=>⟨v,e,wpAny_pure q⟩) fun e s' ⟨ht,q⟩=>?_) (args_setit_next _))))
 refine wpAny_bind (wpAny_isInstance (T:="StopIteration") (b:=true) ht isSubtype_stop ?_)
 exact wpAny_pure q
theorem vU {it a:Addr} {o:Obj} {f:Value} {es:Array (Int×Value)} {i n ep:Nat} {t:SetTable} {Q:PySem.Fin->Shared->Prop} {E':Value->Shared->Prop} (hit:s.heap.get? it=some (sit f i a n ep)) (ho:s.heap.get? a=some o)
  (hd:o.data = .set es ep t) (hf:t.fits es.size=true) (hn:es.size=n)
  (h:wpAny (model prog w) A (
    if let .int slot _:=f then do
     match <- setNext a slot.toNat i ep with
     | some (x, next) =>
       setField (.ref it) 0 (rawInt next)
       setField (.ref it) 1 (rawInt ((i:Int)+1))
       ret x
     | none=>setField (.ref it) 2 .none; raiseNew (<- newExc (.type "StopIteration") [])
    else do
     let some places <- seqItems? f | unsupported "internal:set_iterator"
     match places[i]? with
     | some (.int place _) =>
       let x <- setNextDrawn a place.toNat ep
       setField (.ref it) 1 (rawInt ((i:Int)+1))
       ret x
     | some _=>unsupported "internal:set_iterator"
     | none=>setField (.ref it) 0 (rawInt 0); setField (.ref it) 2 .none; raiseNew (<- newExc (.type "StopIteration") [])) Q E' s) :
  wpAny (model prog w) A (Builtin.«set_iterator.__next__» ⟨[.ref it],[]⟩) Q E' s:=by
 unfold Builtin.«set_iterator.__next__»
 show wpAny (model prog w) A (fieldsOf (.ref it) >>= _) Q E' s
 unfold fieldsOf
 refine wpAny_bind (wpAny_bind (wpAny_load hit (wpAny_pure ?_)))
 dsimp only
 refine wpAny_bind (wpAny_setEntries_of ho hd hf ?_)
 rw [if_neg (by simp [hn])]
 exact h
theorem iter_setit {it a:Addr} {f:Value} {i n ep:Nat} {Q:Value->Shared->Prop} (hit:s.heap.get? it=some (sit f i a n ep)) (h:Q (.ref it) s):wpAny (model prog w) A (pyIter (.ref it)) Q E s:=by
 refine wpAny_pyIter_slot ⟨_,hit,rfl⟩ slot_setit_iter (wpAny_call_entry slot_setit_iter ⟨_,hit,rfl⟩ entry_setit_iter ?_ (args_setit_iter _))
 unfold Builtin.«dict_keyiterator.__iter__»
 exact wpAny_pure ⟨_,rfl,"set_iterator",_,⟨_,hit,rfl⟩,slot_setit_next.lookup,h⟩
theorem sit_up0 {h:Heap} {it a:Addr} {f g:Value} {i n ep:Nat} (hit:h.get? it=some (sit f i a n ep)):(h.update it (Obj.mapFields (·.setIfInBounds 0 g))).get? it=some (sit g i a n ep) :=
 Heap.get?_update_self _ hit rfl
theorem sit_up1 {h:Heap} {it a:Addr} {f:Value} {i n ep:Nat} (hit:h.get? it=some (sit f i a n ep)):(h.update it (Obj.mapFields (·.setIfInBounds 1 (rawInt ((i:Int)+1))))).get? it=some (sit f (i+1) a n ep):=by
 have:=Heap.get?_update_self (Obj.mapFields (·.setIfInBounds 1 (rawInt ((i:Int)+1)))) hit rfl
 rw [this]
 have e:((i+1:Nat):Int)=(i:Int)+1:=by omega
 unfold sit
 rw [e]
 rfl
theorem walk_int {it a:Addr} {o:Obj} {es:Array (Int×Value)} {ep:Nat} {t:SetTable} {sl:Nat->Nat} {ord:List Value} (hh:A.in1.handled=none) (hne:a≠it) (hd:o.data = .set es ep t) (hf:t.fits es.size=true) (hn:ord.length=es.size)
  (hx:∀ (i:Nat) (z:Shared) (Q:Option (Value×Nat)->Shared->Prop) (E:Value->Shared->Prop),z.heap.get? a=some o->i<=es.size->Q (ord[i]?.map fun x=>(x,sl (i+1))) z->wpAny (model prog w) A.in1 (setNext a (sl i) i ep) Q E z) :
  WalksS prog w A it [it,a] [it] (fun a b=>b=a) es.size (fun i v=>ord[i]? = some v) (fun i z=>z.heap.get? it=some (sit (.int (sl i) 0) i a es.size ep)/\z.heap.get? a=some o) where
 sub:=fun b hb=>by simp at hb; simp [hb]
 grefl:=fun _=>rfl
 gtrans:=fun _ _ _ h1 h2=>h2.trans h1
 frame:=fun i z h' tk st _ hk=>⟨hk it (by simp) _ st.1,hk a (by simp) _ st.2⟩
 self:=fun i z Q E st h=>iter_setit st.1 h
 item:=fun i z Q E hi st h=>by
  refine wC st.1 (vU st.1 st.2 hd hf rfl ?_)
  dsimp only
  refine wpAny_bind (hx i z _ _ st.2 (by omega) ?_)
  rw [List.getElem?_eq_getElem (by omega)]
  dsimp only [Option.map_some]
  refine wpAny_bind (wpAny_setField st.1 rfl (by simp) ?_)
  have s1:=sit_up0 (g:=rawInt (sl (i+1):Int)) st.1
  refine wpAny_bind (wpAny_setField s1 rfl (by simp) (wpAny_pure ⟨_,rfl,?_⟩))
  have s2:=sit_up1 s1
  refine h _ _ (List.getElem?_eq_getElem (by omega)) ⟨s2,?_⟩ ⟨fun b o' hb e=>?_,rfl,rfl,rfl,Nat.le_refl _⟩
  · exact (Heap.get?_update_other _ _ (Ne.symm hne)).trans ((Heap.get?_update_other _ _ (Ne.symm hne)).trans st.2)
  · have hb' : it ≠ b := fun z => hb (by simp [z])
    exact (Heap.get?_update_other _ _ hb').trans ((Heap.get?_update_other _ _ hb').trans e)
 done:=fun z Q E st h=>by
  refine wC st.1 (vU st.1 st.2 hd hf rfl ?_)
  dsimp only
  refine wpAny_bind (hx es.size z _ _ st.2 (Nat.le_refl _) ?_)
  rw [List.getElem?_eq_none (by omega)]
  dsimp only [Option.map_none]
  refine wpAny_bind (wpAny_setField st.1 rfl (by simp) ?_)
  refine stop_now (it:=it) hh fun h' e hk ht=>⟨ht,h _ ⟨fun b o' hb e=>hk b o' ?_,rfl,rfl,rfl,Nat.le_refl _⟩⟩
  exact (Heap.get?_update_other _ _ (fun z=>hb (by simp [z]))).trans e
theorem walk_drawn {it a T:Addr} {o oT:Obj} {es:Array (Int×Value)} {ep:Nat} {t:SetTable} {pl:List Nat} {n0:Nat} (hh:A.in1.handled=none) (hne:a≠it) (hnT:T≠it) (hd:o.data = .set es ep t) (hf:t.fits es.size=true)
  (hT:oT=seqObj "tuple" (pl.map fun (i:Nat)=>rawInt i).toArray n0) (hp:pl.Perm (List.range es.size)) :
  WalksS prog w A it [it,a,T] [it] (fun a b=>b=a) es.size (fun i v=>((pl.map fun i=>(es.toList.map (·.2)).getD i .none))[i]? = some v)
   (fun i z=>z.heap.get? it=some (sit (.ref T) i a es.size ep)/\z.heap.get? a=some o/\z.heap.get? T=some oT) where
 sub:=fun b hb=>by simp at hb; simp [hb]
 grefl:=fun _=>rfl
 gtrans:=fun _ _ _ h1 h2=>h2.trans h1
 frame:=fun i z h' tk st _ hk=>⟨hk it (by simp) _ st.1,hk a (by simp) _ st.2.1,hk T (by simp) _ st.2.2⟩
 self:=fun i z Q E st h=>iter_setit st.1 h
 item:=fun i z Q E hi st h=>by
  have hl:pl.length=es.size:=by rw [hp.length_eq]; simp
  have hpi:pl[i]? = some (pl[i]'(by omega)):=List.getElem?_eq_getElem (by omega)
  have hlt:pl[i]'(by omega) < es.size:=List.mem_range.mp (hp.mem_iff.mp (List.getElem_mem _))
  refine wC st.1 (vU st.1 st.2.1 hd hf rfl ?_)
  dsimp only
  refine wpAny_bind (wpAny_seqItems st.2.2 (by rw [hT]) ?_)
  dsimp only
  have e1:(pl.map fun (i:Nat)=>rawInt i).toArray[i]? = some (rawInt (pl[i]'(by omega):Int)):=by
   rw [List.getElem?_toArray,List.getElem?_map,hpi]; rfl
  rw [e1]
  dsimp only [rawInt]
  unfold setNextDrawn
  refine wpAny_bind (wpAny_bind (wpAny_setState_of st.2.1 hd hf ?_))
  dsimp only
  rw [if_neg (by simp)]
  rw [Int.toNat_natCast,getElem?_pos es (pl[i]'(by omega)) hlt]
  dsimp only
  refine wpAny_pure (wpAny_bind (wpAny_setField st.1 rfl (by simp) (wpAny_pure ⟨_,rfl,?_⟩)))
  refine h _ _ ?_ ⟨sit_up1 st.1,(Heap.get?_update_other _ _ (Ne.symm hne)).trans st.2.1,(Heap.get?_update_other _ _ (Ne.symm hnT)).trans st.2.2⟩ ⟨fun b o' hb e=>(Heap.get?_update_other _ _ (fun z=>hb (by simp [z]))).trans e,rfl,rfl,rfl,Nat.le_refl _⟩
  rw [List.getElem?_map,hpi]
  simp [List.getD_eq_getElem?_getD,hlt]
 done:=fun z Q E st h=>by
  have hl:pl.length=es.size:=by rw [hp.length_eq]; simp
  refine wC st.1 (vU st.1 st.2.1 hd hf rfl ?_)
  dsimp only
  refine wpAny_bind (wpAny_seqItems st.2.2 (by rw [hT]) ?_)
  dsimp only
  have e1:(pl.map fun (i:Nat)=>rawInt i).toArray[es.size]? = none:=by
   rw [List.getElem?_toArray,List.getElem?_eq_none (by simp; omega)]
  rw [e1]
  dsimp only
  refine wpAny_bind (wpAny_setField st.1 rfl (by simp) ?_)
  refine wpAny_bind (wpAny_setField (sit_up0 st.1) rfl (by simp) ?_)
  refine stop_now (it:=it) hh fun h' e hk ht=>⟨ht,h _ ⟨fun b o' hb e=>hk b o' ?_,rfl,rfl,rfl,Nat.le_refl _⟩⟩
  have hb':it≠b:=fun z=>hb (by simp [z])
  exact (Heap.get?_update_other _ _ hb').trans ((Heap.get?_update_other _ _ hb').trans e)
end
end TS
namespace TS
open PySem PyProof.Rows
set_option autoImplicit false
section
variable {prog:Program} {w:World} {A:Around} {E:Value->Shared->Prop} {s:Shared}
def slOf (pl:Array Nat) (i:Nat):Nat:=if i=0 then 0 else pl.getD (i - 1) 0+1
theorem below_sl {pl:Array Nat} (h:Rise pl) {i:Nat} (hi:i<=pl.size):SetTable.below pl (slOf pl i)=i:=by
 obtain ⟨b1,b2,b3⟩:=below_is h (slOf pl i)
 have gd:∀ k d d',k < pl.size->pl.getD k d=pl.getD k d':=fun k d d' hk=>by
  simp only [Array.getD_eq_getD_getElem?,getElem?_pos pl k hk,Option.getD_some]
 rcases Nat.lt_trichotomy (SetTable.below pl (slOf pl i)) i with hlt | he | hgt
 · exfalso
   have h3:=b3 (i - 1) (by omega) (by omega)
   rw [gd (i - 1) _ 0 (by omega)] at h3
   unfold slOf at h3
   rw [if_neg (by omega)] at h3
   omega
 · exact he
 · exfalso
   have h2:=b2 i hgt
   by_cases hi0:i=0
   · subst hi0
     unfold slOf at h2
     simp at h2
   · have h4 := h.lt (i := i - 1) (k := i) (by omega) (by omega) 0
     rw [gd i _ 0 (by omega)] at h2
     unfold slOf at h2
     rw [if_neg hi0] at h2
     omega
theorem next_text {a:Addr} {o:Obj} {es:Array (Int×Value)} {ep:Nat} {t:SetTable} (hd:o.data = .set es ep t) (hf:t.fits es.size=true) (hb:bt w=true) (i:Nat) (z:Shared) (Q:Option (Value×Nat)->Shared->Prop) (E:Value->Shared->Prop)
  (ho:z.heap.get? a=some o) (h:Q ((((pickOrder (w.params.setOrder a ep) es).toList.map (·.2))[i]?).map fun x=>(x,0)) z):wpAny (model prog w) A (setNext a 0 i ep) Q E z:=by
 unfold setNext
 refine wpAny_bind (wpAny_setState_of ho hd hf ?_)
 dsimp only
 refine wpAny_bind (xM ?_)
 rw [hb]
 simp only [if_true,bne_self_eq_false,Bool.false_eq_true,if_false]
 unfold setWalk
 refine wpAny_bind (wpAny_bind (wpAny_setState_of ho hd hf ?_))
 dsimp only
 refine wpAny_bind (xM ?_)
 rw [hb]
 simp only [if_true]
 refine wpAny_bind (wpAny_askSetting (wpAny_pure (wpAny_pure ?_)))
 rw [List.getElem?_map,Array.getElem?_toList,Option.map_map] at h
 exact h
theorem next_place {a:Addr} {o:Obj} {es:Array (Int×Value)} {ep:Nat} {t:SetTable} (hd:o.data = .set es ep t) (hf:t.fits es.size=true) (hb:bt w=false) (hl:t.led=true) (hnd:(!t.plain && decide (es.size > 1))=false) (hr:Rise t.place) (i:Nat) (z:Shared)
  (Q:Option (Value×Nat)->Shared->Prop) (E:Value->Shared->Prop) (ho:z.heap.get? a=some o) (hi:i<=es.size) (h:Q (((es.toList.map (·.2))[i]?).map fun x=>(x,slOf t.place (i+1))) z):wpAny (model prog w) A (setNext a (slOf t.place i) i ep) Q E z:=by
 have hps:t.place.size=es.size:=by
  simp only [SetTable.fits,Bool.and_eq_true,beq_iff_eq] at hf
  exact hf.1
 unfold setNext
 refine wpAny_bind (wpAny_setState_of ho hd hf ?_)
 dsimp only
 refine wpAny_bind (xM ?_)
 rw [hb]
 simp only [Bool.false_eq_true,if_false]
 split
 · rename_i hh
   have hh':(!t.plain && decide (es.size > 1))=true:=hh
   rw [hnd] at hh'
   cases hh'
 · refine wpAny_bind ?_
   show wpAny (model prog w) A (if (!t.led && !es.isEmpty)=true then unsupported "set:maker-not-led" else pure ()) _ _ _
   rw [hl]
   simp only [Bool.not_true,Bool.false_and,Bool.false_eq_true,if_false]
   refine wpAny_pure (wpAny_pure ?_)
   rw [below_sl hr (by omega)]
   by_cases hlt:i < es.size
   · rw [getElem?_pos es i hlt, getElem?_pos t.place i (by omega)]
     rw [List.getElem?_eq_getElem (by simpa using hlt)] at h
     have e:slOf t.place (i+1)=t.place[i]+1:=by
      unfold slOf
      rw [if_neg (by omega),Nat.add_sub_cancel,Array.getD_eq_getD_getElem?,getElem?_pos t.place i (by omega)]; rfl
     rw [e] at h
     simpa using h
   · rw [getElem?_neg es i hlt, getElem?_neg t.place i (by omega)]
     rw [List.getElem?_eq_none (by simp; omega)] at h
     exact h
theorem iter_set {a:Addr} {o:Obj} {es:Array (Int×Value)} {ep:Nat} {t:SetTable} {Q:Value->Shared->Prop} (hh:A.in1.handled=none) (ho:s.heap.get? a=some o) (hex:o.ExactSet) (hd:o.data = .set es ep t) (hf:t.fits es.size=true) (hok:Okt (bt w) t)
  (hb:es.size < scanBound)
  (h:∀ (I:Addr) (fp:List Addr) (ord:List Value) (St:Nat->Shared->Prop) (h':Heap) (d:Drawn),WalksS prog w A I fp [I] (fun a b=>b=a) es.size (fun i v=>ord[i]? = some v) St->St 0 { s with heap:=h',drawn:=d } →
    ord.length=es.size->ord.Perm (es.toList.map (·.2))->s.heap.objs.size<=I->(∀ b∈fp,b=a \/ s.heap.objs.size<=b)->(∀ b u,s.heap.get? b=some u->h'.get? b=some u)->Q (.ref I) { s with heap:=h',drawn:=d }) :
  wpAny (model prog w) A (pyIter (.ref a)) Q E s:=by
 have haL:=Heap.lt_size ho
 have hps:t.place.size=es.size:=by
  have hf':=hf
  simp only [SetTable.fits,Bool.and_eq_true,beq_iff_eq] at hf'
  exact hf'.1
 refine wpAny_pyIter_slot ⟨_,ho,hex.1⟩ slot_set_iter (wpAny_call_entry slot_set_iter ⟨_,ho,hex.1⟩ entry_set_iter ?_ (args_set_iter _))
 unfold Builtin.«frozenset.__iter__»
 show wpAny (model prog w) A.in1 (Builtin.Frozenset.sizeOf a >>= _) _ _ s
 unfold Builtin.Frozenset.sizeOf
 refine wpAny_bind (wpAny_bind (wpAny_setEntries_of ho hd hf (wpAny_pure ?_)))
 refine wpAny_bind ?_
 unfold setDrawn
 refine wpAny_bind (wpAny_setState_of ho hd hf ?_)
 dsimp only
 refine wpAny_bind (xM (wpAny_pure ?_))
 have hlen:(es.toList.map (·.2)).length=es.size:=by simp
 split
 · rename_i hD
   refine wpAny_bind (wp_draw es.size (List.range es.size) s (by simp) fun pl d hp=>?_)
   refine wpAny_bind (wpAny_newTuple ?_ (hsz:=by rw [List.length_map,hp.length_eq,List.length_range]; exact fits_of_scanBound hb))
   refine wpAny_bind (wpAny_setEpoch_of (o:=o) (es:=es) (ep:=ep) (t:=t) (Heap.get?_push_of_some _ ho) hd hf ?_)
   refine wpAny_bind (wpAny_newObj_type (wpAny_pure ⟨_,rfl,"set_iterator",_,⟨_,Heap.get?_push_size _ rfl,rfl⟩,slot_setit_next.lookup,?_⟩))
   have hsz1:∀ u:Obj,(s.heap.push u).objs.size=s.heap.objs.size+1:=fun u=>size_push' _ _
   refine h _ _ _ _ _ d (walk_drawn (prog:=prog) (w:=w) (A:=A) (a:=a) (T:=s.heap.objs.size) (o:=o) (es:=es) (ep:=ep) (t:=t) (pl:=pl) (n0:=0) hh ?_ ?_ hd hf rfl hp) ⟨Heap.get?_push_size _ rfl,?_,?_⟩ ?_ ?_ ?_ ?_ ?_
   · dsimp only; rw [hsz1]; exact Nat.ne_of_lt (Nat.lt_succ_of_lt haL)
   · dsimp only; rw [hsz1]; exact Nat.ne_of_lt (Nat.lt_succ_self _)
   · exact Heap.get?_push_of_some _ (Heap.get?_push_of_some _ ho)
   · exact Heap.get?_push_of_some _ (Heap.get?_push_size _ rfl)
   · rw [List.length_map,hp.length_eq]; simp
   · refine (hp.map _).trans (List.Perm.of_eq ?_)
     apply List.ext_getElem?
     intro i
     rw [List.getElem?_map]
     by_cases hi:i < es.size
     · rw [List.getElem?_range hi, List.getElem?_eq_getElem (by simpa using hi)]
       simp [List.getD_eq_getElem?_getD,hi]
     · rw [List.getElem?_eq_none (by simp; omega),List.getElem?_eq_none (by simp; omega)]; rfl
   · dsimp only; rw [hsz1]; exact Nat.le_succ _
   · intro b hb
     dsimp only at hb
     rw [hsz1] at hb
     simp only [List.mem_cons,List.not_mem_nil,or_false] at hb
     rcases hb with rfl | rfl | rfl
     · exact .inr (Nat.le_succ _)
     · exact .inl rfl
     · exact .inr (Nat.le_refl _)
   · exact fun b u e=>Heap.get?_push_of_some _ (Heap.get?_push_of_some _ e)
 · rename_i hD
   have hD' : ¬ ((!bt w && (!t.plain && decide (es.size > 1)))=true):=hD
   refine wpAny_bind (wpAny_pure ?_)
   refine wpAny_bind (wpAny_setEpoch_of (o:=o) (es:=es) (ep:=ep) (t:=t) ho hd hf ?_)
   refine wpAny_bind (wpAny_newObj_type (wpAny_pure ⟨_,rfl,"set_iterator",_,⟨_,Heap.get?_push_size _ rfl,rfl⟩,slot_setit_next.lookup,?_⟩))
   have hfp:∀ b∈[s.heap.objs.size,a],b=a \/ s.heap.objs.size<=b:=fun b hb=>by
    simp only [List.mem_cons,List.not_mem_nil,or_false] at hb
    rcases hb with rfl | rfl
    · exact .inr (Nat.le_refl _)
    · exact .inl rfl
   cases hb:bt w with
   | true =>
     have hpk:=pick_perm (w.params.setOrder a ep) es
     refine h _ _ _ _ _ s.drawn (walk_int (prog:=prog) (w:=w) (A:=A) (it:=s.heap.objs.size) (a:=a) (o:=o) (es:=es) (ep:=ep) (t:=t) (sl:=fun _=>0) (ord:=(pickOrder (w.params.setOrder a ep) es).toList.map (·.2)) hh (Nat.ne_of_lt haL) hd hf (by rw [List.length_map,hpk.length_eq,Array.length_toList])
      fun i z Q' E' hz _ hq=>next_text hd hf hb i z Q' E' hz hq) ⟨Heap.get?_push_size _ rfl,Heap.get?_push_of_some _ ho⟩ ?_ (hpk.map _) (Nat.le_refl _) hfp fun b u e=>Heap.get?_push_of_some _ e
     rw [List.length_map,hpk.length_eq,Array.length_toList]
   | false =>
     have hnd:(!t.plain && decide (es.size > 1))=false:=by
      rw [hb] at hD'
      simpa using hD'
     have hr:Rise t.place:=by
      cases hp:t.plain with
      | true=>exact (hok.2 hp).1
      | false =>
        have h1:es.size<=1:=by
         rw [hp] at hnd
         simpa using hnd
        unfold Rise
        have hl:t.place.toList.length<=1:=by rw [Array.length_toList]; omega
        match t.place.toList,hl with
        | [],_=>exact List.Pairwise.nil
        | [x],_=>exact List.pairwise_singleton _ _
     refine h _ _ _ _ _ s.drawn (walk_int (prog:=prog) (w:=w) (A:=A) (it:=s.heap.objs.size) (a:=a) (o:=o) (es:=es) (ep:=ep) (t:=t) (sl:=slOf t.place) (ord:=es.toList.map (·.2)) hh (Nat.ne_of_lt haL) hd hf hlen
      fun i z Q' E' hz hi hq=>next_place hd hf hb (by rw [hok.1,hb]; rfl) hnd hr i z Q' E' hz hi hq) ⟨Heap.get?_push_size _ rfl,Heap.get?_push_of_some _ ho⟩ hlen (List.Perm.refl _) (Nat.le_refl _) hfp fun b u e=>Heap.get?_push_of_some _ e
theorem items_all {ord:List Value} {acc:Array Value} {n:Nat} (h:ItemsOf (fun i v=>ord[i]? = some v) acc n) (hl:ord.length=n):acc.toList=ord:=by
 apply List.ext_getElem?
 intro i
 by_cases hi:i < n
 · have hi' : i < acc.size := by rw [h.1]; exact hi
   have e:acc.toList[i]? = some acc[i]:=by rw [Array.getElem?_toList]; exact getElem?_pos acc i hi'
   rw [e]
   exact (h.2 i acc[i] (getElem?_pos acc i hi')).symm
 · rw [List.getElem?_eq_none (by rw [Array.length_toList,h.1]; omega),List.getElem?_eq_none (by omega)]
theorem wp_if {α : Type} {M:Model} {c:Prop} [Decidable c] {x y:Sem α} {Q : α->Shared->Prop} (hc:c) (h:wpAny M A x Q E s):wpAny M A (if c then x else y) Q E s:=by
 rw [if_pos hc]; exact h
theorem split_set_len:splitId "set.__len__" = some ("set","__len__"):=by kernel_rfl
theorem collect_set {a:Addr} {ns:List Int} {m:Nat} {Q:List Value->Shared->Prop} (hh:A.handled=none) (hS:SIm prog w s.heap a ns m)
  (h:∀ h' d tk ord ks,IntsAre ord ks->ks.Nodup->(∀ k,k∈ks↔k∈ns)->ord.length<=m->(∀ b o,s.heap.get? b=some o->h'.get? b=some o)->Q ord { s with heap:=h',drawn:=d,toks:=tk }) :
  wpAny (model prog w) A (collect (.ref a)) Q E s:=by
 obtain ⟨⟨o,es,ep,t,ks,ho,hex,hd,hel,hI,hnd,hmem,hb,hf,hok⟩,hm⟩:=hS
 have hsz:=hm o es ep t ho hd
 have haL:=Heap.lt_size ho
 have hline:es.size<=sizeLine:=fits_of_scanBound hb
 unfold collect
 refine wpAny_bind (wpAny_runValue (codeAny_builtin PySem.F.entry_proto_collect ?_))
 rw [Around.under_plainId PySem.F.plain_proto_collect _]
 show wpAny _ A.in1 (newList [] >>= fun l=>again (.builtin "list.__iadd__" ⟨[l,.ref a],[]⟩)) _ _ s
 refine wpAny_bind (wpAny_newObj_type ?_)
 refine wpAny_pure ⟨plainId_quiet PySem.F.plain_list_iadd _,codeAny_builtin PySem.F.entry_list_iadd ?_⟩
 rw [Around.under_plainId PySem.F.plain_list_iadd _]
 generalize hL:s.heap.objs.size=L
 have hLs:s.heap.objs.size=L:=hL
 show wpAny _ A.in1 (Builtin.List.listExtendWith (.ref L) (.ref a) (.ref L)) _ _ { s with heap:=s.heap.push { cls:=.type "list",data:=.seq ([]:List Value).toArray } }
 unfold Builtin.List.listExtendWith
 have ho1:(s.heap.push { cls:=.type "list",data:=.seq ([]:List Value).toArray }).get? a=some o:=Heap.get?_push_of_some _ ho
 have hL1:(s.heap.push { cls:=.type "list",data:=.seq ([]:List Value).toArray }).get? L=some { cls:=.type "list",data:=.seq ([]:List Value).toArray }:=by rw [<- hL]; exact Heap.get?_push_size _ rfl
 have hz1:(s.heap.push { cls:=.type "list",data:=.seq ([]:List Value).toArray }).objs.size=L+1:=by rw [size_push',hL]
 refine wpAny_bind (wpAny_typeOf (T:="set") ⟨_,ho1,hex.1⟩ ?_)
 have g1:Builtin.List.listSameRef (.ref L) (.ref a)=false:=by simp [Builtin.List.listSameRef]; rw [<- hL]; exact Nat.ne_of_gt haL
 have g2:(Value.type "set" == Value.type "list")=false:=by decide
 have g3:(Value.type "set" == Value.type "tuple")=false:=by decide
 simp only [g1,g2,g3,Bool.or_false,Bool.false_eq_true,if_false]
 refine wpAny_bind (iter_set (s:={ s with heap:=s.heap.push { cls:=.type "list",data:=.seq ([]:List Value).toArray } }) (by simp [hh]) ho1 hex hd hf hok hb fun I fp ord St h1 d W st0 hlo hpo hI1 hfp hk1=>?_)
 dsimp only at hI1 hfp hk1
 rw [hz1] at hI1
 have hoz:=hk1 _ _ ho1
 have hLz:=hk1 _ _ hL1
 have hSf:L ∉ fp:=fun z=>by
  rw [hz1] at hfp
  rcases hfp L z with e | e
  · rw [<- e, <- hL] at haL
    exact Nat.lt_irrefl _ haL
  · exact Nat.lt_irrefl _ e
 refine wpAny_bind (wpAny_holding ?_)
 unfold Builtin.List.listLengthHint
 refine wpAny_bind (wpAny_specialOf (T:="set") ⟨_,hoz,hex.1⟩ set_has_len ?_)
 dsimp only
 rw [split_set_len]
 dsimp only
 refine wpAny_bind (wpAny_isInstance (T:="set") ⟨_,hoz,hex.1⟩ sub_set_self ?_)
 rw [if_neg (show ¬ ((!true)=true) by decide)]
 refine wp_if (by kernel_rfl) ?_
 refine wpAny_bind (wpAny_typeOf (T:="set") ⟨_,hoz,hex.1⟩ (wpAny_pure ?_))
 refine wp_if (by kernel_rfl) ?_
 refine wpAny_bind (wpAny_rule ?_)
 refine wpAny_bind ?_
 show wpAny _ A.in1 (updateSeq L (·.push .none) >>= fun _=>updateSeq L (·.pop)) _ _ _
 refine wpAny_bind (wpAny_updateSeq hLz rfl ?_)
 have hL2:=Heap.get?_update_self (Obj.mapSeq (·.push Value.none)) hLz rfl
 refine wpAny_updateSeq hL2 rfl ?_
 have hL3:=Heap.get?_update_self (Obj.mapSeq (·.pop)) hL2 rfl
 have oth:∀ b u,b≠L->h1.get? b=some u->((h1.update L (Obj.mapSeq (·.push Value.none))).update L (Obj.mapSeq (·.pop))).get? b=some u :=
  fun b u hb e=>(Heap.get?_update_other _ _ (Ne.symm hb)).trans ((Heap.get?_update_other _ _ (Ne.symm hb)).trans e)
 refine wpAny_pure ⟨plainId_quiet PySem.F.plain_extend_loop _,codeAny_extend_loopS W hline _ hSf _ es.size 0 _ _ _ rfl (Nat.zero_le _)
  (W.frame 0 ({ s with heap:=h1,drawn:=d } : Shared) _ s.toks st0 (Nat.le_refl _) fun b hb u e=>oth b u (fun z=>hSf (z ▸ hb)) e) hL3 (ItemsOf.nil _) fun z' acc c' hmv hS' hacc=>?_⟩
 show wpAny _ A (load L >>= _) _ _ z'
 refine wpAny_bind (wpAny_load hS' (wpAny_pure ?_))
 rw [items_all hacc hlo]
 obtain ⟨h2,gs,d2,tk,os2⟩:=z'
 have eg:gs=s.gens:=hmv.gens
 have ed:d2=d:=hmv.drawn
 have eo:os2=s.os:=hmv.os
 subst eg ed eo
 obtain ⟨kk,q1,q2⟩:=ints_perm hI hpo
 refine h h2 d2 tk ord kk q1 (q2.nodup_iff.mpr hnd) (fun k=>q2.mem_iff.trans (hmem k)) (by omega) fun b u e=>?_
 have hbs:b < s.heap.objs.size:=Heap.lt_size e
 have hbL:b≠L:=by rw [<- hL]; exact Nat.ne_of_lt hbs
 have hbI:b≠I:=Nat.ne_of_lt (Nat.lt_of_lt_of_le (by rw [<- hL]; exact Nat.lt_succ_of_lt hbs) hI1)
 exact hmv.heap b u (by simp [hbL,hbI]) (oth b u hbL (hk1 b u (Heap.get?_push_of_some _ e)))
theorem sorted_end {vs:List Value} {ns:List Int} {Q:Value->Shared->Prop} (hI:IntsAre vs ns) (hsl:vs.length<=sizeLine)
  (h:∀ (h2:Heap) (vs':List Value) (ns':List Int) (e:Nat),(∀ b o,s.heap.get? b=some o->h2.get? b=some o)->h2.get? s.heap.objs.size=some (seqObj "list" vs'.toArray e)->IntsAre vs' ns'->ns'.Perm ns->ns'.Pairwise (·<=·) →
    Q (.ref s.heap.objs.size) { s with heap:=h2 }) :
  wpAny (model prog w) A.in1 (do
   let l <- newList vs
   let _ <- holding [l] (call (.builtin "list.sort") [l] [])
   ret l) (fun r z=>∃ v,r = .done (.ret v)/\Q v z) E s:=by
 refine wpAny_bind (wpAny_newList ?_ (hsz:=hsl))
 have hoL:(s.heap.push (seqObj "list" vs.toArray 0)).get? s.heap.objs.size=some (seqObj "list" vs.toArray 0):=Heap.get?_push_size _ rfl
 refine wpAny_bind (wpAny_holding (wpAny_call_entry slot_list_sort ⟨_,hoL,rfl⟩ entry_list_sort (sort_any hoL hI hsl fun out ns' a1 a2 a3=>⟨_,rfl,?_⟩) (args_list_sort _)))
 obtain ⟨e,he⟩:=sortedHeap_at (out:=out) hoL
 refine wpAny_pure ⟨_,rfl,h _ out.toList ns' e (fun b o q=>?_) (by simpa using he) a1 a2 a3⟩
 have hb:=Heap.lt_size q
 have q1:=Heap.get?_push_of_some (seqObj "list" vs.toArray 0) q
 show (sortedHeap (s.heap.push (seqObj "list" vs.toArray 0)) s.heap.objs.size vs out).get? b=some o
 rw [sortedHeap_old (Nat.ne_of_lt hb) (by rw [size_push']; exact Nat.lt_succ_of_lt hb)]
 exact q1
theorem sorted_set {a:Addr} {ns:List Int} {m:Nat} {Q:Value->Shared->Prop} (hh:A.handled=none) (hS:SIm prog w s.heap a ns m) (hm:m<=sizeLine)
  (h:∀ (h1 h2:Heap) (d:Drawn) (tk:Nat) (vs:List Value) (ks:List Int) (e:Nat),(∀ b o,s.heap.get? b=some o->h1.get? b=some o)->(∀ b o,h1.get? b=some o->h2.get? b=some o)->h2.get? h1.objs.size=some (seqObj "list" vs.toArray e) →
    IntsAre vs ks->ks.Pairwise (· < ·)->(∀ k,k∈ks↔k∈ns)->vs.length<=m->Q (.ref h1.objs.size) { s with heap:=h2,drawn:=d,toks:=tk }) :
  wpAny (model prog w) A (call (.builtin "sorted") [.ref a]) Q E s:=by
 refine Calls.call_function_entry (A:=A) kind_sorted plain_sorted entry_sorted (args_sorted1 _) ?_
 show wpAny _ _ (checkCount "sorted" 1 1 1 >>= _) _ _ s
 refine wpAny_bind (wpAny_pure (wpAny_bind (collect_set (by simp [hh]) hS fun h1 d tk ord ks q1 q2 q3 q4 q5=>?_)))
 refine sorted_end (s:={ s with heap:=h1,drawn:=d,toks:=tk }) q1 (Nat.le_trans q4 hm) fun h2 vs ks' e p1 p2 p3 p4 p5=>?_
 have hlt:ks'.Pairwise (· < ·):=by
  have hnd:ks'.Nodup:=p4.nodup_iff.mpr q2
  exact List.Pairwise.imp₂ (fun a b h1 h2=>Int.lt_iff_le_and_ne.mpr ⟨h1,h2⟩) p5 hnd
 refine h h1 h2 d tk vs ks' e q5 p1 p2 p3 hlt (fun k=>p4.mem_iff.trans (q3 k)) ?_
 have l1:=IntsAre.length p3
 have l2:=IntsAre.length q1
 have l3:=p4.length_eq
 omega
end
end TS
namespace FL
open PySem PySem.Spec PyProof.Rows L2
abbrev Frag:=PySem.W.Frag
def KLst (K:Frag) (a:Addr) (xs:List V):Prop:=∃ (o:Obj) (its:Array Value) (n:Nat),K.lookup a=some o/\o.cls = .type "list"/\o.dict=none/\o.data = .seq its n/\its.size<=sizeLine/\Vals xs its.toList
def KTup (K:Frag) (a:Addr) (xs:List V):Prop:=∃ (o:Obj) (its:Array Value) (n:Nat),K.lookup a=some o/\o.cls = .type "tuple"/\o.data = .seq its n/\its.size<=sizeLine/\Vals xs its.toList
structure LamT where
 qual:Str
 params:Arguments
 body:FuncBody
 scope:Scope
def lamsE (q:Str):Nat->Expr->List LamT
 | 0,_=>[]
 | n + 1, e => match e with
   | .Lambda a b sc _=>[⟨q++"<lambda>",a,.expr b,sc⟩]
   | .Call _ as _ _=>as.flatMap (lamsE q n)
   | .Compare l _ cs _=>lamsE q n l++cs.flatMap (lamsE q n)
   | .BoolOp _ vs _=>vs.flatMap (lamsE q n)
   | .UnaryOp _ o _=>lamsE q n o
   | .BinOp l _ r _=>lamsE q n l++lamsE q n r
   | .IfExp t b o _=>lamsE q n t++(lamsE q n b++lamsE q n o)
   | .List es _=>es.flatMap (lamsE q n)
   | .Tuple es _ _=>es.flatMap (lamsE q n)
   | .Subscript v i _=>lamsE q n v++lamsE q n i
   | _=>[]
def lamsS (q:Str):Nat->Stmt->List LamT
 | 0,_=>[]
 | n + 1, s => match s with
   | .FunctionDef x a b _ _ _ sc _ _ _=>[⟨q++x,a,.stmts b,sc⟩]
   | .Assign _ e _=>lamsE q 12 e
   | .Return (some e) _=>lamsE q 12 e
   | .Expr e _=>lamsE q 12 e
   | .If t a b _=>lamsE q 12 t++(a.flatMap (lamsS q n)++b.flatMap (lamsS q n))
   | .For _ _ a _ _=>a.flatMap (lamsS q n)
   | .While _ a _ _=>a.flatMap (lamsS q n)
   | _=>[]
def lamsOf (x:Str) (b:List Stmt):List LamT:=b.flatMap (lamsS (x++".<locals>.") 8)
def textIn (K:PySem.W.Frag) (m n:Nat):Option LamT:=(makers[m]?).bind fun x=>match PySem.W.nsIn K mainGlobals x with
 | some (some (.ref f)) => (match K.lookup f with
   | some ⟨_, _, .func fd, _⟩ => (match fd.body with
     | .stmts b=>(lamsOf x b)[n]?
     | _=>none)
   | _=>none)
 | _=>none
def freeR (l:List (Str×NameKind)):List Str:=((l.filter fun y=>y.2 == NameKind.free).map (·.1)).reverse
inductive ClosOk (H:Hp) (O:Addr->Prop):List (Str×Addr)->List V->Prop
 | nil:ClosOk H O [] []
 | cons {n:Str} {c:Addr} {o:Obj} {u:HO} {w:Value} {x:V} {cl:List (Str×Addr)} {xs:List V} (no : ¬ O c) (h:H c=some (.frz o u)) (d:o.data = .cell (some w)) (r:RelV x w) (t:ClosOk H O cl xs):ClosOk H O ((n,c)::cl) (x::xs)
def LamAt (H:Hp) (O:Addr->Prop) (f:Addr) (t:LamT) (cl:List (Str×Addr)):Prop:=¬ O f/\∃ (o oc:Obj) (u uc:HO) (fd:FuncData) (c:Addr) (vs:Array Value) (tq:Tok),
 H f=some (.frz o u)/\o.cls = .type "function"/\o.data = .func fd/\fd.qualname=t.qual/\fd.params=t.params/\fd.body=t.body/\fd.scope=t.scope/\fd.globals=mainGlobals/\fd.closure=cl/\fd.defaults = .none/\fd.kwdefaults = .none/\fd.code = .ref c/\fd.builtins=builtinsNs ∧
 ¬ O c/\H c=some (.frz oc uc)/\oc.data = .fields vs/\vs[1]? = some (.str t.qual tq)
mutual
inductive Rep (K:Frag) (H:Hp) (O:Addr->Prop):V->D->Prop
 | non:Rep K H O .non .non
 | bl (b:Bool):Rep K H O (.bl b) (.bl b)
 | int (i:Int):Rep K H O (.int i) (.int i)
 | str (x:Str):Rep K H O (.str x) (.str x)
 | tup {a:Addr} {xs:List V} {ds:List D} (n : ¬ O a) (h:Rd H a (.tup xs)) (r:Reps K H O xs ds):Rep K H O (.ref a) (.tup ds)
 | tupK {a:Addr} {xs:List V} {ds:List D} (h:KTup K a xs) (r:Reps K H O xs ds):Rep K H O (.ref a) (.tup ds)
 | lst {a:Addr} {xs:List V} {ds:List D} (n : ¬ O a) (h:Rd H a (.lst xs)) (r:Reps K H O xs ds):Rep K H O (.ref a) (.lst ds)
 | lstK {a:Addr} {xs:List V} {ds:List D} (h:KLst K a xs) (r:Reps K H O xs ds):Rep K H O (.ref a) (.lst ds)
 | dct {a:Addr} {kvs:List (Key×V)} {ks:List Key} {ds:List D} (n : ¬ O a) (h:H a=some (.dK kvs)) (e:kvs.map (·.1)=ks) (r:Reps K H O (kvs.map (·.2)) ds):Rep K H O (.ref a) (.dct ks ds)
 | ins {a C dx:Addr} {t:Nat} {kvs:List (Str×V)} {ds:List D} (c:PySem.W.nsIn K mainGlobals (clsName t)=some (some (.ref C))) (n : ¬ O a) (h:H a=some (.ins C dx kvs)) (e:kvs.map (·.1)=clsFlds t) (r:Reps K H O (kvs.map (·.2)) ds):Rep K H O (.ref a) (.ins t ds)
 | clo {f:Addr} {m n:Nat} {t:LamT} {cl:List (Str×Addr)} {xs:List V} {ds:List D} (tx:textIn K m n=some t) (h:LamAt H O f t cl) (e:cl.map (·.1)=freeR t.scope.names) (nd:(cl.map (·.2)).Nodup) (c:ClosOk H O cl xs) (r:Reps K H O xs ds):Rep K H O (.ref f) (.clo m n ds)
 | fnK {f:Addr} {k:Nat} (h:PySem.W.nsIn K mainGlobals (fnName k)=some (some (.ref f))):Rep K H O (.ref f) (.clo 1000 k [])
inductive Reps (K:Frag) (H:Hp) (O:Addr->Prop):List V->List D->Prop
 | nil:Reps K H O [] []
 | cons {x:V} {d:D} {xs:List V} {ds:List D} (h:Rep K H O x d) (t:Reps K H O xs ds):Reps K H O (x::xs) (d::ds)
end
section
variable {K:Frag} {H H':Hp} {O O':Addr->Prop}
def Keep (O:Addr->Prop) (H H':Hp):Prop:=∀ b o,¬ O b->H b=some o->H' b=some o
theorem Keep.of_same (h:Same H H'):Keep O H H':=fun b o _ e=>h b o e
theorem Keep.rd {a:Addr} {u:HO} (k:Keep O H H') (n : ¬ O a) (h:Rd H a u):Rd H' a u:=by
 rcases h with h | ⟨o,h⟩
 · exact .inl (k _ _ n h)
 · exact .inr ⟨o,k _ _ n h⟩
theorem ClosOk.keep (k:Keep O H H'):∀ {cl:List (Str×Addr)} {xs:List V},ClosOk H O cl xs->ClosOk H' O cl xs
 | _,_,.nil=>.nil
 | _,_,.cons no h d r t=>.cons no (k _ _ no h) d r (ClosOk.keep k t)
theorem LamAt.keep {f:Addr} {t:LamT} {cl:List (Str×Addr)} (k:Keep O H H') (h:LamAt H O f t cl):LamAt H' O f t cl:=by
 obtain ⟨n,o,oc,u,uc,fd,c,vs,tq,h1,h2,h3,h4,h5,h6,h7,h8,h9,h10,h11,h12,h13,h14,h15,h16,h17⟩:=h
 exact ⟨n,o,oc,u,uc,fd,c,vs,tq,k _ _ n h1,h2,h3,h4,h5,h6,h7,h8,h9,h10,h11,h12,h13,h14,k _ _ h14 h15,h16,h17⟩
theorem ClosOk.nots (k:∀ a,O' a->O a):∀ {cl:List (Str×Addr)} {xs:List V},ClosOk H O cl xs->ClosOk H O' cl xs
 | _,_,.nil=>.nil
 | _,_,.cons no h d r t=>.cons (fun z=>no (k _ z)) h d r (ClosOk.nots k t)
theorem LamAt.nots {f:Addr} {t:LamT} {cl:List (Str×Addr)} (k:∀ a,O' a->O a) (h:LamAt H O f t cl):LamAt H O' f t cl:=by
 obtain ⟨n,o,oc,u,uc,fd,c,vs,tq,h1,h2,h3,h4,h5,h6,h7,h8,h9,h10,h11,h12,h13,h14,h15,h16,h17⟩:=h
 exact ⟨fun z=>n (k _ z),o,oc,u,uc,fd,c,vs,tq,h1,h2,h3,h4,h5,h6,h7,h8,h9,h10,h11,h12,h13,fun z=>h14 (k _ z),h15,h16,h17⟩
def ins1 (p:Addr) (O:Addr->Prop):Addr->Prop:=fun b=>b=p \/ O b
theorem ClosOk.ins {p:Addr} (hp:H p=none):∀ {cl:List (Str×Addr)} {xs:List V},ClosOk H O cl xs->ClosOk H (ins1 p O) cl xs
 | _,_,.nil=>.nil
 | _,_,.cons no h d r t=>.cons (fun z=>z.elim (fun e=>by rw [e,hp] at h; cases h) no) h d r (ClosOk.ins hp t)
theorem LamAt.ins {p f:Addr} {t:LamT} {cl:List (Str×Addr)} (hp:H p=none) (h:LamAt H O f t cl):LamAt H (ins1 p O) f t cl:=by
 obtain ⟨n,o,oc,u,uc,fd,c,vs,tq,h1,h2,h3,h4,h5,h6,h7,h8,h9,h10,h11,h12,h13,h14,h15,h16,h17⟩:=h
 exact ⟨fun z=>z.elim (fun e=>by rw [e,hp] at h1; cases h1) n,o,oc,u,uc,fd,c,vs,tq,h1,h2,h3,h4,h5,h6,h7,h8,h9,h10,h11,h12,h13,fun z=>z.elim (fun e=>by rw [e,hp] at h15; cases h15) h14,h15,h16,h17⟩
mutual
theorem Rep.keep (k:Keep O H H'):∀ {v:V} {d:D},Rep K H O v d->Rep K H' O v d
 | _,_,.non=>.non
 | _,_,.bl b=>.bl b
 | _,_,.int i=>.int i
 | _,_,.str x=>.str x
 | _,_,.tup n h r=>.tup n (k.rd n h) (Reps.keep k r)
 | _,_,.tupK h r=>.tupK h (Reps.keep k r)
 | _,_,.lst n h r=>.lst n (k.rd n h) (Reps.keep k r)
 | _,_,.lstK h r=>.lstK h (Reps.keep k r)
 | _,_,.dct n h e r=>.dct n (k _ _ n h) e (Reps.keep k r)
 | _,_,.ins c n h e r=>.ins c n (k _ _ n h) e (Reps.keep k r)
 | _,_,.clo tx h e nd c r=>.clo tx (h.keep k) e nd (c.keep k) (Reps.keep k r)
 | _,_,.fnK h=>.fnK h
theorem Reps.keep (k:Keep O H H'):∀ {vs:List V} {ds:List D},Reps K H O vs ds->Reps K H' O vs ds
 | _,_,.nil=>.nil
 | _,_,.cons h t=>.cons (Rep.keep k h) (Reps.keep k t)
end
theorem Rep.mono (k:Same H H') {v:V} {d:D} (h:Rep K H O v d):Rep K H' O v d:=h.keep (.of_same k)
theorem Reps.mono (k:Same H H') {v:List V} {d:List D} (h:Reps K H O v d):Reps K H' O v d:=h.keep (.of_same k)
mutual
theorem Rep.less (k:∀ a,O' a->O a):∀ {v:V} {d:D},Rep K H O v d->Rep K H O' v d
 | _,_,.non=>.non
 | _,_,.bl b=>.bl b
 | _,_,.int i=>.int i
 | _,_,.str x=>.str x
 | _,_,.tup n h r=>.tup (fun z=>n (k _ z)) h (Reps.less k r)
 | _,_,.tupK h r=>.tupK h (Reps.less k r)
 | _,_,.lst n h r=>.lst (fun z=>n (k _ z)) h (Reps.less k r)
 | _,_,.lstK h r=>.lstK h (Reps.less k r)
 | _,_,.dct n h e r=>.dct (fun z=>n (k _ z)) h e (Reps.less k r)
 | _,_,.ins c n h e r=>.ins c (fun z=>n (k _ z)) h e (Reps.less k r)
 | _,_,.clo tx h e nd c r=>.clo tx (h.nots k) e nd (c.nots k) (Reps.less k r)
 | _,_,.fnK h=>.fnK h
theorem Reps.less (k:∀ a,O' a->O a):∀ {vs:List V} {ds:List D},Reps K H O vs ds->Reps K H O' vs ds
 | _,_,.nil=>.nil
 | _,_,.cons h t=>.cons (Rep.less k h) (Reps.less k t)
end
theorem Rd.some {a:Addr} {u:HO} (h:Rd H a u):H a≠none:=by
 rcases h with h | ⟨o,h⟩ <;> (rw [h]; simp)
mutual
theorem Rep.more {p:Addr} (hp:H p=none):∀ {v:V} {d:D},Rep K H O v d->Rep K H (ins1 p O) v d
 | _,_,.non=>.non
 | _,_,.bl b=>.bl b
 | _,_,.int i=>.int i
 | _,_,.str x=>.str x
 | _,_,.tup n h r=>.tup (fun z=>z.elim (fun e=>Rd.some h (e ▸ hp)) n) h (Reps.more hp r)
 | _,_,.tupK h r=>.tupK h (Reps.more hp r)
 | _,_,.lst n h r=>.lst (fun z=>z.elim (fun e=>Rd.some h (e ▸ hp)) n) h (Reps.more hp r)
 | _,_,.lstK h r=>.lstK h (Reps.more hp r)
 | _,_,.dct n h e r=>.dct (fun z=>z.elim (fun e=>by rw [e,hp] at h; cases h) n) h e (Reps.more hp r)
 | _,_,.ins c n h e r=>.ins c (fun z=>z.elim (fun e=>by rw [e,hp] at h; cases h) n) h e (Reps.more hp r)
 | _,_,.clo tx h e nd c r=>.clo tx (h.ins hp) e nd (c.ins hp) (Reps.more hp r)
 | _,_,.fnK h=>.fnK h
theorem Reps.more {p:Addr} (hp:H p=none):∀ {vs:List V} {ds:List D},Reps K H O vs ds->Reps K H (ins1 p O) vs ds
 | _,_,.nil=>.nil
 | _,_,.cons h t=>.cons (Rep.more hp h) (Reps.more hp t)
end
def mutO:HO->Bool
 | .lst _ | .dK _ | .dT _ | .set _ _ | .ins _ _ _=>true
 | _=>false
def Old (H:Hp):Addr->Prop:=fun a=>∃ o,H a=some o/\mutO o=true
theorem Old.mono (k:Same H H') {a:Addr} (h:Old H a):Old H' a:=let ⟨o,e,m⟩:=h; ⟨o,k _ _ e,m⟩
def yT:Addr->Prop:=fun _=>False
mutual
theorem Rep.flatten (ho:∀ a,O a->Old H a):∀ {v:V} {d:D},flat d=true->Rep K H O' v d->Rep K H O v d
 | _,_,_,.non=>.non
 | _,_,_,.bl b=>.bl b
 | _,_,_,.int i=>.int i
 | _,_,_,.str x=>.str x
 | _,_,f,.tup (a:=a) n h r=>.tup (fun z=>by
    obtain ⟨u,e,m⟩:=ho a z
    rcases h with h | ⟨o,h⟩
    · rw [e] at h; cases h; cases m
    · rw [e] at h; cases h; cases m) h (Reps.flatten ho (by simpa [flat] using f) r)
 | _,_,f,.tupK h r=>.tupK h (Reps.flatten ho (by simpa [flat] using f) r)
 | _,_,f,.lst _ _ _=>by simp [flat] at f
 | _,_,f,.lstK _ _=>by simp [flat] at f
 | _,_,f,.dct _ _ _ _=>by simp [flat] at f
 | _,_,f,.ins _ _ _ _ _=>by simp [flat] at f
 | _,_,f,.clo _ _ _ _ _ _=>by simp [flat] at f
 | _,_,f,.fnK _=>by simp [flat] at f
theorem Reps.flatten (ho:∀ a,O a->Old H a):∀ {vs:List V} {ds:List D},flats ds=true->Reps K H O' vs ds->Reps K H O vs ds
 | _,_,_,.nil=>.nil
 | _, _, f, .cons h t => by
   simp only [flats,Bool.and_eq_true] at f
   exact .cons (Rep.flatten ho f.1 h) (Reps.flatten ho f.2 t)
end
theorem Reps.length:∀ {vs:List V} {ds:List D},Reps K H O vs ds->vs.length=ds.length
 | _,_,.nil=>rfl
 | _,_,.cons _ t=>by simp [Reps.length t]
theorem Reps.get:∀ {vs:List V} {ds:List D} {i:Nat} {d:D},Reps K H O vs ds->ds[i]? = some d->∃ v,vs[i]? = some v/\Rep K H O v d
 | _,_,_,_,.nil,e=>by simp at e
 | _,_,0,_,.cons h _,e=>by simp at e; subst e; exact ⟨_,rfl,h⟩
 | _, _, i + 1, d, .cons _ t, e => by
   obtain ⟨v,h1,h2⟩:=Reps.get (i:=i) (d:=d) t (by simpa using e)
   exact ⟨v,by simpa using h1,h2⟩
theorem Reps.append:∀ {xs ys:List V} {ds es:List D},Reps K H O xs ds->Reps K H O ys es->Reps K H O (xs++ys) (ds++es)
 | _,_,_,_,.nil,s=>s
 | _,_,_,_,.cons r t,s=>.cons r (Reps.append t s)
theorem Reps.set {x:V} {d:D} (r:Rep K H O x d):∀ {xs:List V} {ds:List D} (i:Nat),Reps K H O xs ds->Reps K H O (xs.set i x) (ds.set i d)
 | _,_,_,.nil=>.nil
 | _,_,0,.cons _ t=>.cons r t
 | _,_,i+1,.cons q t=>.cons q (Reps.set r i t)
theorem Reps.drop:∀ {xs:List V} {ds:List D} (n:Nat),Reps K H O xs ds->Reps K H O (xs.drop n) (ds.drop n)
 | _,_,0,r=>r
 | _,_,_+1,.nil=>.nil
 | _,_,n+1,.cons _ t=>Reps.drop n t
theorem Reps.take:∀ {xs:List V} {ds:List D} (n:Nat),Reps K H O xs ds->Reps K H O (xs.take n) (ds.take n)
 | _,_,0,_=>.nil
 | _,_,_+1,.nil=>.nil
 | _,_,n+1,.cons r t=>.cons r (Reps.take n t)
theorem Reps.ints:∀ (ns:List Int),Reps K H O (ns.map V.int) (ns.map D.int)
 | []=>.nil
 | n::r=>.cons (.int n) (Reps.ints r)
def WRep (K:Frag) (H:Hp) (O:Addr->Prop) (v:V) (d:D):Prop:=Rep K H O v d \/ ∃ a xs l,v = .ref a/\d = .lst l/\O a/\H a=some (.lst xs)/\Reps K H O xs l
theorem WRep.mono (k:Same H H') {v:V} {d:D} (h:WRep K H O v d):WRep K H' O v d:=by
 rcases h with h | ⟨a,xs,l,e1,e2,ho,h,r⟩
 · exact .inl (h.mono k)
 · exact .inr ⟨a,xs,l,e1,e2,ho,k _ _ h,r.mono k⟩
theorem WRep.any {v:V} {d:D} (h:WRep K H O v d):Rep K H yT v d:=by
 rcases h with h | ⟨a,xs,l,rfl,rfl,ho,h,r⟩
 · exact h.less (fun _ z=>z.elim)
 · exact .lst (fun z=>z.elim) (.inl h) (r.less fun _ z=>z.elim)
theorem WRep.seqL {v:V} {l:List D} (h:WRep K H O v (.lst l)):∃ a xs,v = .ref a/\SqL K H a xs/\Reps K H O xs l:=by
 rcases h with h | ⟨a,xs,l',rfl,e,ho,h,r⟩
 · cases h with
   | lst n h r=>exact ⟨_,_,rfl,.inl h,r⟩
   | lstK h r=>exact ⟨_,_,rfl,.inr h,r⟩
 · cases e; exact ⟨a,xs,rfl,.inl (.inl h),r⟩
theorem WRep.seqT {v:V} {l:List D} (h:WRep K H O v (.tup l)):∃ a xs,v = .ref a/\SqT K H a xs/\Reps K H O xs l:=by
 rcases h with h | ⟨a,xs,l',rfl,e,ho,h,r⟩
 · cases h with
   | tup n h r=>exact ⟨_,_,rfl,.inl h,r⟩
   | tupK h r=>exact ⟨_,_,rfl,.inr h,r⟩
 · cases e
theorem WRep.int' {v:V} {i:Int} (h:WRep K H O v (.int i)):v = .int i:=by
 rcases h with h | ⟨a,xs,l',rfl,e,_⟩
 · cases h; rfl
 · cases e
theorem WRep.str' {v:V} {i:Str} (h:WRep K H O v (.str i)):v = .str i:=by
 rcases h with h | ⟨a,xs,l',rfl,e,_⟩
 · cases h; rfl
 · cases e
end
def SlOk (K:Frag) (H₀ H:Hp) (O:Addr->Prop):Option V->Sl->Prop
 | _,.no=>True
 | some x,.v d=>Rep K H O x d
 | some (.ref a),.own l=>O a/\∃ xs,H a=some (.lst xs)/\Reps K H O xs l
 | some (.ref a),.fr l=>¬ O a/\H₀ a=none/\∃ xs,H a=some (.lst xs)/\Reps K H O xs l
 | some (.ref a),.exc t=>∃ C o u,PySem.W.nsIn K mainGlobals (xName t)=some (some (.ref C))/\H a=some (.frz o u)/\o.cls = .ref C
 | _,_=>False
def IsOwn (ds:List Sl) (i:Nat):Prop:=∃ l,ds[i]? = some (.own l)
inductive HI where
 | rep (v:V) (d:D) | base (B:Addr->Prop)
abbrev Hold:=List HI
def HOk (K:Frag) (H₀ H:Hp) (O:Addr->Prop):HI->Prop
 | .rep v d=>Rep K H O v d
 | .base B=>∀ a,B a->O a/\H₀ a≠none
structure Ok (K:Frag) (H₀ H:Hp) (O:Addr->Prop) (σ : L2.St) (ds:List Sl) (hd:Hold):Prop where
 same:Same H₀ H
 fresh:∀ (i:Nat) (l:List D) (a:Addr),ds[i]? = some (.own l)->σ[i]? = some (some (.ref a))->H₀ a=none
 dom:∀ a,O a->∃ xs,H a=some (.lst xs)
 len : σ.length=ds.length
 sl:∀ (i:Nat) (s:Sl),ds[i]? = some s->SlOk K H₀ H O (σ[i]?.join) s
 apart:∀ (i j:Nat) (a:Addr),i≠j->IsOwn ds i->IsOwn ds j->σ[i]? = some (some (.ref a))->σ[j]? = some (some (.ref a))->False
 hold:∀ p∈hd,HOk K H₀ H O p
section
variable {K:Frag} {H₀ H H':Hp} {O O':Addr->Prop} {σ : L2.St} {ds:List Sl} {hd:Hold}
theorem HOk.mono (k:Same H H'):∀ {p:HI},HOk K H₀ H O p->HOk K H₀ H' O p
 | .rep _ _,h=>Rep.mono k h
 | .base _,h=>h
theorem HOk.keep (k:Keep O H H'):∀ {p:HI},HOk K H₀ H O p->HOk K H₀ H' O p
 | .rep _ _,h=>Rep.keep k h
 | .base _,h=>h
theorem SlOk.mono (k:Same H H'):∀ {x:Option V} {s:Sl},SlOk K H₀ H O x s->SlOk K H₀ H' O x s
 | none,.no,_=>trivial
 | some (.ref _),.no,_=>trivial
 | some _,.no,_=>by simp [SlOk]
 | some x, .v d, h => by
   have h:Rep K H O x d:=by cases x <;> exact h
   show SlOk K H₀ H' O (some x) (.v d)
   have:=h.mono k
   cases x <;> exact this
 | some (.ref a),.own l,⟨ho,xs,h,r⟩=>⟨ho,xs,k _ _ h,r.mono k⟩
 | some (.ref a),.fr l,⟨ho,h0,xs,h,r⟩=>⟨ho,h0,xs,k _ _ h,r.mono k⟩
 | some (.ref a),.exc t,⟨C,o,u,h1,h2,h3⟩=>⟨C,o,u,h1,k _ _ h2,h3⟩
theorem Ok.old (o:Ok K H₀ H O σ ds hd) {a:Addr} (h:O a):Old H a:=let ⟨xs,e⟩:=o.dom a h; ⟨_,e,rfl⟩
theorem Ok.mono (k:Same H H') (o:Ok K H₀ H O σ ds hd):Ok K H₀ H' O σ ds hd :=
 ⟨o.same.trans k,o.fresh,fun a h=>let ⟨xs,e⟩:=o.dom a h; ⟨xs,k _ _ e⟩,o.len,fun i s e=>(o.sl i s e).mono k,o.apart,fun p hp=>(o.hold p hp).mono k⟩
theorem Ok.free {p:Addr} (o:Ok K H₀ H O σ ds hd) (h:H p=none) : ¬ O p:=fun z=>by
 obtain ⟨xs,e⟩:=o.dom p z
 rw [h] at e; cases e
theorem Ok.read {i:Nat} {d:D} (o:Ok K H₀ H O σ ds hd) (e:ds[i]? = some (.v d)):∃ v,σ[i]? = some (some v)/\Rep K H O v d:=by
 have h:=o.sl i _ e
 cases q : σ[i]? with
 | none=>rw [q] at h; exact h.elim
 | some x =>
   rw [q] at h
   cases x with
   | none=>exact h.elim
   | some x=>exact ⟨x,rfl,by cases x <;> exact h⟩
theorem Ok.readO {i:Nat} {l:List D} (o:Ok K H₀ H O σ ds hd) (e:ds[i]? = some (.own l)):∃ a xs,σ[i]? = some (some (.ref a))/\O a/\H a=some (.lst xs)/\Reps K H O xs l:=by
 have h:=o.sl i _ e
 cases q : σ[i]? with
 | none=>rw [q] at h; exact h.elim
 | some x =>
   rw [q] at h
   cases x with
   | none=>exact h.elim
   | some x =>
     cases x with
     | ref a=>obtain ⟨ho,xs,h1,h2⟩:=h; exact ⟨a,xs,rfl,ho,h1,h2⟩
     | _=>exact h.elim
theorem Ok.readX {i t:Nat} (o:Ok K H₀ H O σ ds hd) (e:ds[i]? = some (.exc t)):∃ a C ob u,σ[i]? = some (some (.ref a))/\PySem.W.nsIn K mainGlobals (xName t)=some (some (.ref C))/\H a=some (.frz ob u)/\ob.cls = .ref C:=by
 have h:=o.sl i _ e
 cases q : σ[i]? with
 | none=>rw [q] at h; exact h.elim
 | some x =>
   rw [q] at h
   cases x with
   | none=>exact h.elim
   | some x =>
     cases x with
     | ref a=>obtain ⟨C,ob,u,h1,h2,h3⟩:=h; exact ⟨a,C,ob,u,rfl,h1,h2,h3⟩
     | _=>exact h.elim
theorem Ok.readF {i:Nat} {l:List D} (o:Ok K H₀ H O σ ds hd) (e:ds[i]? = some (.fr l)):∃ a xs,σ[i]? = some (some (.ref a))/\¬ O a/\H₀ a=none/\H a=some (.lst xs)/\Reps K H O xs l:=by
 have h:=o.sl i _ e
 cases q : σ[i]? with
 | none=>rw [q] at h; exact h.elim
 | some x =>
   rw [q] at h
   cases x with
   | none=>exact h.elim
   | some x =>
     cases x with
     | ref a=>obtain ⟨ho,h0,xs,h1,h2⟩:=h; exact ⟨a,xs,rfl,ho,h0,h1,h2⟩
     | _=>exact h.elim
theorem jX {x:Option V} : SlOk K H₀ H O x .no:=by
 cases x with
 | none=>trivial
 | some x=>cases x <;> trivial
theorem wS {x:V} {d:D} (h:Rep K H O x d):SlOk K H₀ H O (some x) (.v d):=by
 cases x <;> exact h
theorem Ok.set {i:Nat} {v:V} {d:D} (o:Ok K H₀ H O σ ds hd) (r:Rep K H O v d):Ok K H₀ H O (σ.set i (some v)) (ds.set i (.v d)) hd:=by
 have own':∀ {j:Nat},IsOwn (ds.set i (.v d)) j->j≠i/\IsOwn ds j:=fun {j} ⟨l,e⟩=>by
  by_cases hj:j=i
  · subst hj
    by_cases hl:j < ds.length
    · rw [List.getElem?_set_self hl] at e; cases e
    · rw [List.getElem?_eq_none (by simpa using hl)] at e; cases e
  · rw [List.getElem?_set_ne (Ne.symm hj)] at e
    exact ⟨hj,l,e⟩
 refine ⟨o.same,fun j l a e1 e2=>?_,o.dom,by simpa using o.len,fun j s e=>?_,fun j k a hjk hj hk e1 e2=>?_,o.hold⟩
 · obtain ⟨n1, h1⟩ := own' ⟨l, e1⟩
   rw [List.getElem?_set_ne (Ne.symm n1)] at e1 e2
   exact o.fresh j l a e1 e2
 · by_cases hj : j = i
   · subst hj
     by_cases hl:j < ds.length
     · rw [List.getElem?_set_self hl] at e
       cases e
       rw [List.getElem?_set_self (by rw [o.len]; exact hl)]
       exact wS r
     · rw [List.getElem?_eq_none (by simpa using hl)] at e; cases e
   · rw [List.getElem?_set_ne (Ne.symm hj)] at e
     rw [List.getElem?_set_ne (Ne.symm hj)]
     exact o.sl j s e
 · obtain ⟨n1, h1⟩ := own' hj
   obtain ⟨n2,h2⟩:=own' hk
   rw [List.getElem?_set_ne (Ne.symm n1)] at e1
   rw [List.getElem?_set_ne (Ne.symm n2)] at e2
   exact o.apart j k a hjk h1 h2 e1 e2
theorem Ok.setO {i:Nat} {a:Addr} {xs:List V} {l:List D} (o:Ok K H₀ H O σ ds hd) (k:Same H H') (hn:H a=none) (e:H' a=some (.lst xs)) (r:Reps K H' (ins1 a O) xs l) :
  Ok K H₀ H' (ins1 a O) (σ.set i (some (.ref a))) (ds.set i (.own l)) hd:=by
 have up:∀ {v:V} {d:D},Rep K H O v d->Rep K H' (ins1 a O) v d:=fun h=>(h.more hn).mono k
 have ups:∀ {v:List V} {d:List D},Reps K H O v d->Reps K H' (ins1 a O) v d:=fun h=>(h.more hn).mono k
 have other:∀ j:Nat,IsOwn ds j->σ[j]? = some (some (.ref a))->False:=fun j ⟨l',e'⟩ q=>by
  obtain ⟨b,ys,h1,h2,h3,_⟩:=o.readO e'
  rw [q] at h1; cases h1
  rw [hn] at h3; cases h3
 have own':∀ {j:Nat},j≠i->IsOwn (ds.set i (.own l)) j->IsOwn ds j:=fun {j} hj ⟨l',e'⟩=>⟨l',by rwa [List.getElem?_set_ne (Ne.symm hj)] at e'⟩
 refine ⟨o.same.trans k,fun j l' b e1 e2=>?_,fun b hb=>?_,by simpa using o.len,fun j s es=>?_,fun j m b hjm hj hm e1 e2=>?_,fun p hp=>?_⟩
 rotate_left 4
 · have := o.hold p hp
   cases p with
   | rep v d=>exact up this
   | base B=>exact fun b hb=>⟨.inr (this b hb).1,(this b hb).2⟩
 · by_cases hj : j = i
   · subst hj
     by_cases hl:j < σ.length
     · rw [List.getElem?_set_self hl] at e2
       cases e2
       exact o.same.free hn
     · rw [List.getElem?_eq_none (by simpa using hl)] at e2; cases e2
   · rw [List.getElem?_set_ne (Ne.symm hj)] at e1 e2
     exact o.fresh j l' b e1 e2
 · rcases hb with rfl | hb
   · exact ⟨xs,e⟩
   · obtain ⟨ys, q⟩ := o.dom b hb
     exact ⟨ys,k _ _ q⟩
 · by_cases hj : j = i
   · subst hj
     by_cases hl:j < ds.length
     · rw [List.getElem?_set_self hl] at es
       cases es
       rw [List.getElem?_set_self (by rw [o.len]; exact hl)]
       exact ⟨.inl rfl,xs,e,r⟩
     · rw [List.getElem?_eq_none (by simpa using hl)] at es; cases es
   · rw [List.getElem?_set_ne (Ne.symm hj)] at es
     rw [List.getElem?_set_ne (Ne.symm hj)]
     cases s with
     | no=>exact jX
     | exc t =>
       obtain ⟨a',C',ob',u',q1,q2,q3,q4⟩:=o.readX es
       rw [q1]
       exact ⟨C',ob',u',q2,k _ _ q3,q4⟩
     | fr l' =>
       obtain ⟨a',xs',q1,q2,q0,q3,q4⟩:=o.readF es
       rw [q1]
       exact ⟨fun z=>z.elim (fun e'=>by rw [e',hn] at q3; cases q3) q2,q0,xs',k _ _ q3,ups q4⟩
     | v d =>
       obtain ⟨v,h1,h2⟩:=o.read es
       rw [h1]
       exact wS (up h2)
     | own l' =>
       obtain ⟨b,ys,h1,h2,h3,h4⟩:=o.readO es
       rw [h1]
       exact ⟨.inr h2,ys,k _ _ h3,ups h4⟩
 · have hs:∀ {q:Nat},q=i->(σ.set i (some (V.ref a)))[q]? = some (some (.ref b))->b=a:=fun {q} hq eq=>by
    subst hq
    by_cases hl:q < σ.length
    · rw [List.getElem?_set_self hl] at eq
      cases eq; rfl
    · rw [List.getElem?_eq_none (by simpa using hl)] at eq; cases eq
   by_cases h1:j=i
   · have hb := hs h1 e1
     have h2:m≠i:=fun z=>hjm (h1.trans z.symm)
     rw [List.getElem?_set_ne (Ne.symm h2),hb] at e2
     exact other m (own' h2 hm) e2
   · by_cases h2 : m = i
     · have hb := hs h2 e2
       rw [List.getElem?_set_ne (Ne.symm h1),hb] at e1
       exact other j (own' h1 hj) e1
     · rw [List.getElem?_set_ne (Ne.symm h1)] at e1
       rw [List.getElem?_set_ne (Ne.symm h2)] at e2
       exact o.apart j m b hjm (own' h1 hj) (own' h2 hm) e1 e2
theorem Ok.release {i:Nat} {l:List D} (o:Ok K H₀ H O σ ds hd) (e:ds[i]? = some (.own l)):∃ O',Ok K H₀ H O' σ (ds.set i (.v (.lst l))) hd:=by
 obtain ⟨a,xs,h1,h2,h3,h4⟩:=o.readO e
 have hl:i < ds.length:=(List.getElem?_eq_some_iff.mp e).1
 let O':Addr->Prop:=fun b=>O b/\b≠a
 have sub:∀ b,O' b->O b:=fun b hb=>hb.1
 have na : ¬ O' a:=fun hb=>hb.2 rfl
 have own0:∀ {j:Nat} {l':List D},(ds.set i (.v (.lst l)))[j]? = some (.own l')->ds[j]? = some (.own l'):=fun {j l'} e'=>by
  by_cases hj:j=i
  · subst hj
    rw [List.getElem?_set_self hl] at e'; cases e'
  · rwa [List.getElem?_set_ne (Ne.symm hj)] at e'
 refine ⟨O',o.same,fun j l' b e1 e2=>o.fresh j l' b (own0 e1) e2,fun b hb=>o.dom b (sub b hb),by simpa using o.len,fun j s es=>?_,fun j m b hjm hj hm e1 e2=>?_,fun p hp=>?_⟩
 rotate_left 2
 · have := o.hold p hp
   cases p with
   | rep v d=>exact Rep.less sub this
   | base B=>exact fun b hb=>⟨⟨(this b hb).1,fun z=>(this b hb).2 (z ▸ o.fresh i l a e h1)⟩,(this b hb).2⟩
 · by_cases hj : j = i
   · subst hj
     rw [List.getElem?_set_self hl] at es
     cases es
     rw [h1]
     exact wS (.lst na (.inl h3) (h4.less sub))
   · rw [List.getElem?_set_ne (Ne.symm hj)] at es
     cases s with
     | no=>exact jX
     | exc t =>
       obtain ⟨a',C',ob',u',q1,q2,q3,q4⟩:=o.readX es
       rw [q1]
       exact ⟨C',ob',u',q2,q3,q4⟩
     | fr l' =>
       obtain ⟨a',xs',q1,q2,q0,q3,q4⟩:=o.readF es
       rw [q1]
       exact ⟨fun z=>q2 (sub _ z),q0,xs',q3,q4.less sub⟩
     | v d =>
       obtain ⟨v,q1,q2⟩:=o.read es
       rw [q1]
       exact wS (q2.less sub)
     | own l' =>
       obtain ⟨b,ys,q1,q2,q3,q4⟩:=o.readO es
       rw [q1]
       refine ⟨⟨q2,fun z=>?_⟩,ys,q3,q4.less sub⟩
       subst z
       exact o.apart j i b hj ⟨l',es⟩ ⟨l,e⟩ q1 h1
 · have own':∀ {j:Nat},IsOwn (ds.set i (.v (.lst l))) j->IsOwn ds j:=fun {j} ⟨l',e'⟩=>by
    by_cases hj:j=i
    · subst hj
      rw [List.getElem?_set_self hl] at e'; cases e'
    · rw [List.getElem?_set_ne (Ne.symm hj)] at e'; exact ⟨l',e'⟩
   exact o.apart j m b hjm (own' hj) (own' hm) e1 e2
theorem Ok.modify {i:Nat} {l l':List D} {a:Addr} {xs':List V} (o:Ok K H₀ H O σ ds hd) (e:ds[i]? = some (.own l)) (ea : σ[i]? = some (some (.ref a))) (r:Reps K H O xs' l') :
  Ok K H₀ (upd H a (.lst xs')) O σ (ds.set i (.own l')) hd:=by
 obtain ⟨a',xs,h1,h2,h3,h4⟩:=o.readO e
 rw [ea] at h1; cases h1
 have hl:i < ds.length:=(List.getElem?_eq_some_iff.mp e).1
 have k:Keep O H (upd H a (.lst xs')):=fun b u hb eb=>by
  rw [zS (fun (z:b=a)=>hb (z.symm ▸ h2))]; exact eb
 refine ⟨fun b u eb=>?_,fun j l2 b e1 e2=>?_,fun b hb=>?_,by simpa using o.len,fun j s es=>?_,fun j m b hjm hj hm e1 e2=>?_,fun p hp=>(o.hold p hp).keep k⟩
 rotate_left 1
 · by_cases hj : j = i
   · subst hj; exact o.fresh j l b e e2
   · rw [List.getElem?_set_ne (Ne.symm hj)] at e1; exact o.fresh j l2 b e1 e2
 rotate_right 1
 · rw [zS (fun z => by rw [z, o.fresh i l a e ea] at eb; cases eb)]
   exact o.same b u eb
 · by_cases hba : b = a
   · subst hba; exact ⟨xs',qG⟩
   · rw [zS hba]; exact o.dom b hb
 · by_cases hj : j = i
   · subst hj
     rw [List.getElem?_set_self hl] at es
     cases es
     rw [ea]
     exact ⟨h2,xs',qG,r.keep k⟩
   · rw [List.getElem?_set_ne (Ne.symm hj)] at es
     cases s with
     | no=>exact jX
     | exc t =>
       obtain ⟨a',C',ob',u',q1,q2,q3,q4⟩:=o.readX es
       rw [q1]
       exact ⟨C',ob',u',q2,by rw [zS (fun z=>by rw [z,h3] at q3; cases q3)]; exact q3,q4⟩
     | fr l' =>
       obtain ⟨a',xs'',q1,q2,q0,q3,q4⟩:=o.readF es
       rw [q1]
       exact ⟨q2,q0,xs'',by rw [zS (fun z=>q2 (by rw [z]; exact h2))]; exact q3,q4.keep k⟩
     | v d =>
       obtain ⟨v,q1,q2⟩:=o.read es
       rw [q1]
       exact wS (q2.keep k)
     | own l'' =>
       obtain ⟨b,ys,q1,q2,q3,q4⟩:=o.readO es
       rw [q1]
       refine ⟨q2,ys,?_,q4.keep k⟩
       rw [zS (fun z=>?_)]
       · exact q3
       · subst z
         exact o.apart j i b hj ⟨_,es⟩ ⟨l,e⟩ q1 ea
 · have own':∀ {j:Nat},IsOwn (ds.set i (.own l')) j->IsOwn ds j:=fun {j} ⟨l'',e'⟩=>by
    by_cases hj:j=i
    · subst hj; exact ⟨l,e⟩
    · rw [List.getElem?_set_ne (Ne.symm hj)] at e'; exact ⟨l'',e'⟩
   exact o.apart j m b hjm (own' hj) (own' hm) e1 e2
theorem Ok.holdMore {p:HI} (o:Ok K H₀ H O σ ds hd) (r:HOk K H₀ H O p):Ok K H₀ H O σ ds (p::hd) :=
 ⟨o.same,o.fresh,o.dom,o.len,o.sl,o.apart,fun q hq=>(List.mem_cons.mp hq).elim (fun e=>e ▸ r) (o.hold q)⟩
theorem Ok.holdLess {p:HI} (o:Ok K H₀ H O σ ds (p::hd)):Ok K H₀ H O σ ds hd :=
 ⟨o.same,o.fresh,o.dom,o.len,o.sl,o.apart,fun q hq=>o.hold q (List.mem_cons_of_mem _ hq)⟩
end
section
variable (X:Cx)
def PV (e:Expr) (f:FE):Prop:=∃ t,PE X e t/\∀ H₀ H O σ ds hd d Q,Ok X.K H₀ H O σ ds hd->f ds=some d->(∀ v H',Same H H'->Rep X.K H' O v d->Q v H')->t σ H Q
def PVw (e:Expr) (f:FE):Prop:=∃ t,PE X e t/\∀ H₀ H O σ ds hd d Q,Ok X.K H₀ H O σ ds hd->f ds=some d->(∀ v H',Same H H'->WRep X.K H' O v d->Q v H')->t σ H Q
def PVf (e:Expr) (f:FA):Prop:=∃ t,PE X e t/\∀ H₀ H O σ ds hd l Q,Ok X.K H₀ H O σ ds hd->f ds=some l →
 (∀ a xs H',Same H H'->H a=none->H' a=some (.lst xs)->Reps X.K H' (ins1 a O) xs l->Q (.ref a) H')->t σ H Q
def PTv (e:Expr) (c:FT):Prop:=∃ t,PT X e t/\∀ H₀ H O σ ds hd b Q,Ok X.K H₀ H O σ ds hd->c ds=some b->(∀ H',Same H H'->Q b H')->t σ H Q
def PWv (e:Expr) (c:FT):Prop:=∃ t,PW X e t/\∀ H₀ H O σ ds hd b Q,Ok X.K H₀ H O σ ds hd->c ds=some b->(∀ H',Same H H'->Q b H')->t σ H Q
def PAv (es:List Expr) (f:FA):Prop:=∃ t,PA X es t/\∀ H₀ H O σ ds hd l Q,Ok X.K H₀ H O σ ds hd->f ds=some l->(∀ vs H',Same H H'->Paired (WRep X.K H' O) vs l->Q vs H')->t σ H Q
def PAs (es:List Expr) (f:FA):Prop:=∃ t,PA X es t/\∀ H₀ H O σ ds hd l Q,Ok X.K H₀ H O σ ds hd->f ds=some l->(∀ vs H',Same H H'->Reps X.K H' O vs l->Q vs H')->t σ H Q
end
section
variable {X:Cx}
theorem PV.w {e:Expr} {f:FE} (h:PV X e f):PVw X e f:=by
 obtain ⟨t,ht,hf⟩:=h
 exact ⟨t,ht,fun H₀ H O σ ds hd d Q o e q=>hf H₀ H O σ ds hd d Q o e fun v H' s r=>q v H' s (.inl r)⟩
theorem PVf.s {e:Expr} {f:FA} (h:PVf X e f):PV X e (mkL f):=by
 obtain ⟨t,ht,hf⟩:=h
 refine ⟨t,ht,fun H₀ H O σ ds hd d Q o e q=>?_⟩
 unfold mkL at e
 cases hl:f ds with
 | none=>rw [hl] at e; cases e
 | some l =>
   rw [hl] at e; cases e
   refine hf H₀ H O σ ds hd l Q o hl fun a xs H' s hn he r=>q _ _ s ?_
   exact .lst (o.free hn) (.inl he) (r.less fun _ z=>.inr z)
theorem zV (i:Nat) {x:Str} {pos:Pos} (hN:X.N[i]? = some x:=by rfl) (hv:Vis X.env.scope x:=by first | exact Or.inl rfl | exact Or.inr (Or.inl rfl) | exact Or.inr (Or.inr rfl)) (hd:(x == ("__debug__" : Str))=false:=by decide)
  (hcd:(x == ("__classdict__" : Str))=false:=by decide):PV X (.Name x pos) (jN i):=by
 refine ⟨_,yY hN hv hd hcd,fun H₀ H O σ ds hd d Q o e q=>?_⟩
 unfold jN at e
 cases hs:ds[i]? with
 | none=>rw [hs] at e; cases e
 | some s =>
   rw [hs] at e
   cases s with
   | v d' =>
     cases e
     obtain ⟨v,h1,h2⟩:=o.read hs
     exact ⟨v,h1,q v H (Same.refl _) h2⟩
   | no=>cases e
   | exc _=>cases e
   | fr _=>cases e
   | own l=>cases e
theorem zA (i:Nat) {x:Str} {pos:Pos} (hN:X.N[i]? = some x:=by rfl) (hv:Vis X.env.scope x:=by first | exact Or.inl rfl | exact Or.inr (Or.inl rfl) | exact Or.inr (Or.inr rfl)) (hd:(x == ("__debug__" : Str))=false:=by decide)
  (hcd:(x == ("__classdict__" : Str))=false:=by decide):PVw X (.Name x pos) (zI i):=by
 refine ⟨_,yY hN hv hd hcd,fun H₀ H O σ ds hd d Q o e q=>?_⟩
 unfold zI at e
 cases hs:ds[i]? with
 | none=>rw [hs] at e; cases e
 | some s =>
   rw [hs] at e
   cases s with
   | v d' =>
     cases e
     obtain ⟨v,h1,h2⟩:=o.read hs
     exact ⟨v,h1,q v H (Same.refl _) (.inl h2)⟩
   | no=>cases e
   | exc _=>cases e
   | fr _=>cases e
   | own l =>
     cases e
     obtain ⟨a,xs,h1,h2,h3,h4⟩:=o.readO hs
     exact ⟨.ref a,h1,q _ H (Same.refl _) (.inr ⟨a,xs,l,rfl,rfl,h2,h3,h4⟩)⟩
theorem zC {i:Int} {j pos} : PV X (.Constant (.int i) j pos) (zE (.int i)):=⟨_,pe_int,fun _ H _ _ _ _ _ _ _ e q=>by cases e; exact q _ H (Same.refl _) (.int i)⟩
theorem wX {b:Bool} {j pos} : PV X (.Constant (.bool b) j pos) (zE (.bl b)):=⟨_,pe_bl,fun _ H _ _ _ _ _ _ _ e q=>by cases e; exact q _ H (Same.refl _) (.bl b)⟩
theorem jW {j pos} : PV X (.Constant .none j pos) (zE .non):=⟨_,pe_non,fun _ H _ _ _ _ _ _ _ e q=>by cases e; exact q _ H (Same.refl _) .non⟩
theorem pv_glob {x:Str} {v:V} {u:Value} {d:D} {pos:Pos} (hg:Gl X x) (hm:X.mg x=some u) (r:RelV v u) (hr:∀ H O,Rep X.K H O v d) (hd:(x == ("__debug__" : Str))=false:=by decide):PV X (.Name x pos) (zE d) :=
 ⟨_,kG hg hm r hd,fun _ H O _ _ _ _ _ _ e q=>by cases e; exact q _ H (Same.refl _) (hr H O)⟩
def OpS (X:Cx) (r:R2) (op:D->D->Option D):Prop:=∀ H O x y dx dy d Q,(∀ a,O a->∃ xs,H a=some (.lst xs))->WRep X.K H O x dx->WRep X.K H O y dy->op dx dy=some d->(∀ v H',Same H H'->Rep X.K H' O v d->Q v H')->r x y H Q
theorem pv_tOp {r:R2} {op:D->D->Option D} (hs:OpS X r op) {a b:Expr} {fa fb:FE} {ta tb:TE} (ha:∀ H₀ H O σ ds hd d Q,Ok X.K H₀ H O σ ds hd->fa ds=some d->(∀ v H',Same H H'->WRep X.K H' O v d->Q v H')->ta σ H Q)
  (hb:∀ H₀ H O σ ds hd d Q,Ok X.K H₀ H O σ ds hd->fb ds=some d->(∀ v H',Same H H'->WRep X.K H' O v d->Q v H')->tb σ H Q) :
  ∀ H₀ H O σ ds hd d Q,Ok X.K H₀ H O σ ds hd->zJ op fa fb ds=some d->(∀ v H',Same H H'->Rep X.K H' O v d->Q v H')->tOp r ta tb σ H Q:=by
 intro H₀ H O σ ds hd d Q o e q
 unfold zJ at e
 cases h1:fa ds with
 | none=>rw [h1] at e; cases e
 | some dx =>
   cases h2:fb ds with
   | none=>rw [h1,h2] at e; cases e
   | some dy =>
     rw [h1,h2] at e
     refine ha H₀ H O σ ds hd dx _ o h1 fun x H1 s1 r1=>?_
     refine hb H₀ H1 O σ ds hd dy _ (o.mono s1) h2 fun y H2 s2 r2=>?_
     exact hs H2 O x y dx dy d Q ((o.mono s1).mono s2).dom (r1.mono s2) r2 e fun v H' s r=>q v H' ((s1.trans s2).trans s) r
theorem vH {op:Operator} {r:R2} {opD:D->D->Option D} {a b:Expr} {fa fb:FE} {pos:Pos} (ho:OpR X (binaryOp op) r) (hs:OpS X r opD) (ha:PVw X a fa) (hb:PVw X b fb):PV X (.BinOp a op b pos) (zJ opD fa fb):=by
 obtain ⟨ta,pa,ha⟩:=ha
 obtain ⟨tb,pb,hb⟩:=hb
 exact ⟨_,pe_op ho pa pb,pv_tOp hs (a:=a) (b:=b) ha hb⟩
theorem pv_cmp {op:CmpOp} {r:R2} {opD:D->D->Option D} {a b:Expr} {fa fb:FE} {pos:Pos} (ho:OpR X (compareOp op) r) (hs:OpS X r opD) (ha:PVw X a fa) (hb:PVw X b fb) (hm:behindInMarks op b=false):PV X (.Compare a [op] [b] pos) (zJ opD fa fb):=by
 obtain ⟨ta,pa,ha⟩:=ha
 obtain ⟨tb,pb,hb⟩:=hb
 exact ⟨_,pe_cmpR ho pa pb hm,pv_tOp hs (a:=a) (b:=b) ha hb⟩
theorem vS {op:CmpOp} {r:R2} {opD:D->D->Option D} {a b:Expr} {fa fb:FE} {pos:Pos} (ho:OpR X (compareOp op) r) (hs:OpS X r opD) (ha:PVw X a fa) (hb:PVw X b fb) (hm:behindInMarks op b=false):PTv X (.Compare a [op] [b] pos) (zT (zJ opD fa fb)):=by
 obtain ⟨ta,pa,ha⟩:=ha
 obtain ⟨tb,pb,hb⟩:=hb
 refine ⟨_,pt_cmpR ho pa pb hm,fun H₀ H O σ ds hd k Q o e q=>?_⟩
 unfold zT at e
 cases h:zJ opD fa fb ds with
 | none=>rw [h] at e; cases e
 | some d =>
   rw [h] at e
   refine pv_tOp hs (a:=a) (b:=b) ha hb H₀ H O σ ds hd d _ o h fun v H' s r=>?_
   cases d with
   | bl c=>cases e; cases r; exact ⟨_,rfl,q H' s⟩
   | _=>cases e
theorem os_add:OpS X (fun x y H Q=>rI0 (fun i j=>.int (i+j)) x y H Q \/ ∃ i j,x = .str i/\y = .str j/\i.length+j.length<=sizeLine/\Q (.str (i++j)) H) xD:=by
 intro H O x y dx dy d Q ho rx ry e q
 cases dx <;> cases dy <;> first | (simp [xD] at e; done) | skip
 · cases e
   rw [rx.int',ry.int']
   exact .inl ⟨_,_,rfl,rfl,q _ H (Same.refl _) (.int _)⟩
 · rename_i x y
   simp only [xD] at e
   split at e
   · rename_i hl
     cases e
     rw [rx.str',ry.str']
     exact .inr ⟨_,_,rfl,rfl,hl,q _ H (Same.refl _) (.str _)⟩
   · cases e
theorem op_addU:OpR X (binaryOp .Add) (fun x y H Q=>rI0 (fun i j=>.int (i+j)) x y H Q \/ ∃ i j,x = .str i/\y = .str j/\i.length+j.length<=sizeLine/\Q (.str (i++j)) H):=op_add.or op_add_str
theorem os_sub:OpS X (rI0 fun i j=>.int (i - j)) subD:=by
 intro H O x y dx dy d Q ho rx ry e q
 cases dx <;> cases dy <;> first | (simp [subD] at e; done) | skip
 cases e
 rw [rx.int',ry.int']
 exact ⟨_,_,rfl,rfl,q _ H (Same.refl _) (.int _)⟩
def CDivB (i j:Int):Prop:=divOk j
theorem op_fdivB:OpR X (binaryOp .FloorDiv) (rI CDivB fun i j=>.int (i / j)):=opI fun i j _ _ _ _ _ hc q=>by
 have e:i.fdiv j=i / j:=Int.fdiv_eq_ediv_of_nonneg _ (Int.le_of_lt hc.1)
 refine floordiv_int (by have:=hc.1; omega) ?_ (.inl (PyProof.noPylong_of_log2 hc.2))
 rw [e]; exact q
theorem os_fdiv:OpS X (rI CDivB fun i j=>.int (i / j)) yL:=by
 intro H O x y dx dy d Q ho rx ry e q
 cases dx <;> cases dy <;> first | (simp [yL] at e; done) | skip
 simp only [yL] at e
 split at e
 · rename_i hc
   cases e
   rw [rx.int',ry.int']
   exact ⟨_,_,rfl,rfl,hc,q _ H (Same.refl _) (.int _)⟩
 · cases e
theorem os_mod:OpS X (rI (fun _ j=>0 < j) fun i j=>.int (i % j)) yU:=by
 intro H O x y dx dy d Q ho rx ry e q
 cases dx <;> cases dy <;> first | (simp [yU] at e; done) | skip
 simp only [yU] at e
 split at e
 · rename_i hc
   cases e
   rw [rx.int',ry.int']
   exact ⟨_,_,rfl,rfl,hc,q _ H (Same.refl _) (.int _)⟩
 · cases e
theorem yG {p:Int->Int->Bool} : OpS X (rI0 fun i j=>.bl (p i j)) (cmpI p):=by
 intro H O x y dx dy d Q ho rx ry e q
 cases dx <;> cases dy <;> first | (simp [cmpI] at e; done) | skip
 cases e
 rw [rx.int',ry.int']
 exact ⟨_,_,rfl,rfl,q _ H (Same.refl _) (.bl _)⟩
end
section
variable {X:Cx}
theorem PV.t {e:Expr} {f:FE} (h:PV X e f) (he:∀ whole,isTrue e X.env whole=(do let v <- whole; standAt e.pos; holding [v] (truthy v)):=by intro _; rfl):PTv X e (zT f):=by
 obtain ⟨t,ht,hf⟩:=h
 refine ⟨_,pt_val ht he,fun H₀ H O σ ds hd k Q o e q=>?_⟩
 unfold zT at e
 cases h:f ds with
 | none=>rw [h] at e; cases e
 | some d =>
   rw [h] at e
   refine hf H₀ H O σ ds hd d _ o h fun v H' s r=>?_
   cases d with
   | bl c=>cases e; cases r; exact ⟨_,rfl,q H' s⟩
   | _=>cases e
theorem yF {a:Expr} {pos:Pos} {c:FT} (ha:PTv X a c):PWv X (.BoolOp .And [a] pos) c:=by
 obtain ⟨t,ht,hf⟩:=ha
 exact ⟨_,pw_and1 ht,hf⟩
theorem xZ {a:Expr} {pos:Pos} {c:FT} (ha:PTv X a c):PWv X (.BoolOp .Or [a] pos) c:=by
 obtain ⟨t,ht,hf⟩:=ha
 exact ⟨_,pw_or1 ht,hf⟩
theorem yQ {a b:Expr} {rest:List Expr} {pos:Pos} {c d:FT} (ha:PTv X a c) (hb:PWv X (.BoolOp .And (b::rest) pos) d):PWv X (.BoolOp .And (a::b::rest) pos) (andT c d):=by
 obtain ⟨t,ht,hf⟩:=ha
 obtain ⟨u,hu,hg⟩:=hb
 refine ⟨_,pw_and ht hu,fun H₀ H O σ ds hd k Q o e q=>?_⟩
 unfold andT at e
 cases h:c ds with
 | none=>rw [h] at e; cases e
 | some b =>
   rw [h] at e
   refine hf H₀ H O σ ds hd b _ o h fun H' s=>?_
   cases b with
   | true=>exact iteT (hg H₀ H' O σ ds hd k Q (o.mono s) (by simpa using e) fun H'' s'=>q H'' (s.trans s'))
   | false =>
     have:false=k:=by simpa using e
     subst this
     exact iteF (q H' s)
theorem wA {a b:Expr} {rest:List Expr} {pos:Pos} {c d:FT} (ha:PTv X a c) (hb:PWv X (.BoolOp .Or (b::rest) pos) d):PWv X (.BoolOp .Or (a::b::rest) pos) (orT c d):=by
 obtain ⟨t,ht,hf⟩:=ha
 obtain ⟨u,hu,hg⟩:=hb
 refine ⟨_,pw_or ht hu,fun H₀ H O σ ds hd k Q o e q=>?_⟩
 unfold orT at e
 cases h:c ds with
 | none=>rw [h] at e; cases e
 | some b =>
   rw [h] at e
   refine hf H₀ H O σ ds hd b _ o h fun H' s=>?_
   cases b with
   | false=>exact iteF (hg H₀ H' O σ ds hd k Q (o.mono s) (by simpa using e) fun H'' s'=>q H'' (s.trans s'))
   | true =>
     have:true=k:=by simpa using e
     subst this
     exact iteT (q H' s)
theorem PWv.t {e:Expr} {c:FT} (h:PWv X e c):PTv X e c:=by
 obtain ⟨t,ht,hf⟩:=h
 exact ⟨t,ht.pt,hf⟩
theorem xW {a:Expr} {pos:Pos} {c:FT} (ha:PTv X a c):PTv X (.UnaryOp .Not a pos) (notT c):=by
 obtain ⟨t,ht,hf⟩:=ha
 refine ⟨_,pt_not ht,fun H₀ H O σ ds hd k Q o e q=>?_⟩
 unfold notT at e
 cases h:c ds with
 | none=>rw [h] at e; cases e
 | some b =>
   rw [h] at e
   cases e
   exact hf H₀ H O σ ds hd b _ o h fun H' s=>q H' s
theorem kD {a:Expr} {op} {pos:Pos} {f:FE} (ha:PV X a f):PV X (.BoolOp op [a] pos) f:=by
 obtain ⟨t,ht,hf⟩:=ha
 exact ⟨_,pe_one ht,hf⟩
theorem vA {a b:Expr} {rest:List Expr} {pos:Pos} {f g:FE} (ha:PV X a f) (hb:PV X (.BoolOp .And (b::rest) pos) g):PV X (.BoolOp .And (a::b::rest) pos) (andV f g):=by
 obtain ⟨t,ht,hf⟩:=ha
 obtain ⟨u,hu,hg⟩:=hb
 refine ⟨_,pe_and ht hu,fun H₀ H O σ ds hd d Q o e q=>?_⟩
 unfold andV at e
 cases h:f ds with
 | none=>rw [h] at e; cases e
 | some dd =>
   rw [h] at e
   refine hf H₀ H O σ ds hd dd _ o h fun v H' s r=>?_
   cases dd with
   | bl c =>
     cases r
     cases c with
     | true=>exact ⟨true,rfl,iteT (hg H₀ H' O σ ds hd d Q (o.mono s) e fun v H'' s'=>q v H'' (s.trans s'))⟩
     | false =>
       have:D.bl false=d:=Option.some.inj e
       subst this
       exact ⟨false,rfl,iteF (q _ H' s (.bl false))⟩
   | _=>cases e
theorem pv_not {a:Expr} {pos:Pos} {f:FE} (ha:PV X a f):PV X (.UnaryOp .Not a pos) (notV f):=by
 obtain ⟨t,ht,hf⟩:=ha
 refine ⟨_,pe_not ht,fun H₀ H O σ ds hd d Q o e q=>?_⟩
 unfold notV at e
 cases h:f ds with
 | none=>rw [h] at e; cases e
 | some dd =>
   rw [h] at e
   refine hf H₀ H O σ ds hd dd _ o h fun v H' s r=>?_
   cases dd with
   | bl c=>cases r; cases e; exact ⟨c,rfl,q _ H' s (.bl _)⟩
   | _=>cases e
theorem pv_if {c a b:Expr} {pos:Pos} {fc:FT} {f g:FE} (hc:PTv X c fc) (ha:PV X a f) (hb:PV X b g):PV X (.IfExp c a b pos) (ifV fc f g):=by
 obtain ⟨tc,pc,hc⟩:=hc
 obtain ⟨t,ht,hf⟩:=ha
 obtain ⟨u,hu,hg⟩:=hb
 refine ⟨_,pe_ifExp pc ht hu,fun H₀ H O σ ds hd d Q o e q=>?_⟩
 unfold ifV at e
 cases h:fc ds with
 | none=>rw [h] at e; cases e
 | some k =>
   rw [h] at e
   refine hc H₀ H O σ ds hd k _ o h fun H' s=>?_
   cases k with
   | true=>exact iteT (hf H₀ H' O σ ds hd d Q (o.mono s) (by simpa using e) fun v H'' s'=>q v H'' (s.trans s'))
   | false=>exact iteF (hg H₀ H' O σ ds hd d Q (o.mono s) (by simpa using e) fun v H'' s'=>q v H'' (s.trans s'))
theorem jA:PAv X [] zZ:=⟨_,yC,fun _ H _ _ _ _ _ _ _ e q=>by cases e; exact q _ H (Same.refl _) .nil⟩
theorem zN:PAs X [] zZ:=⟨_,yC,fun _ H _ _ _ _ _ _ _ e q=>by cases e; exact q _ H (Same.refl _) .nil⟩
theorem qI {e:Expr} {es:List Expr} {f:FE} {g:FA} (ha:PVw X e f) (hr:PAv X es g) (hs:starEach (e::es) X.env=(false,eval e X.env)::starEach es X.env:=by rfl):PAv X (e::es) (zG f g):=by
 obtain ⟨t,ht,hf⟩:=ha
 obtain ⟨u,hu,hg⟩:=hr
 refine ⟨_,qS ht hu hs,fun H₀ H O σ ds hd l Q o e q=>?_⟩
 unfold zG at e
 cases h:f ds with
 | none=>rw [h] at e; cases e
 | some x =>
   cases h2:g ds with
   | none=>rw [h,h2] at e; cases e
   | some r =>
     rw [h,h2] at e
     cases e
     refine hf H₀ H O σ ds hd x _ o h fun v H1 s1 r1=>?_
     refine hg H₀ H1 O σ ds hd r _ (o.mono s1) h2 fun vs H2 s2 r2=>?_
     exact q _ H2 (s1.trans s2) (.cons (r1.mono s2) r2)
theorem zF {e:Expr} {es:List Expr} {f:FE} {g:FA} (ha:PV X e f) (hr:PAs X es g) (hs:starEach (e::es) X.env=(false,eval e X.env)::starEach es X.env:=by rfl):PAs X (e::es) (zG f g):=by
 obtain ⟨t,ht,hf⟩:=ha
 obtain ⟨u,hu,hg⟩:=hr
 refine ⟨_,qS ht hu hs,fun H₀ H O σ ds hd l Q o e q=>?_⟩
 unfold zG at e
 cases h:f ds with
 | none=>rw [h] at e; cases e
 | some x =>
   cases h2:g ds with
   | none=>rw [h,h2] at e; cases e
   | some r =>
     rw [h,h2] at e
     cases e
     refine hf H₀ H O σ ds hd x _ o h fun v H1 s1 r1=>?_
     refine hg H₀ H1 O σ ds hd r _ (o.mono s1) h2 fun vs H2 s2 r2=>?_
     exact q _ H2 (s1.trans s2) (.cons (r1.mono s2) r2)
theorem qN {H:Hp} {p:Addr} (h:H p=none) (o:HO):Same H (upd H p o):=fun b u q=>by rw [zS (jV q h)]; exact q
theorem qM {es:List Expr} {pos:Pos} {g:FA} (h:PAs X es g):PVf X (.List es pos) (qH g):=by
 obtain ⟨t,ht,hf⟩:=h
 refine ⟨_,pe_lst ht,fun H₀ H O σ ds hd l Q o e q=>?_⟩
 unfold qH at e
 cases h:g ds with
 | none=>rw [h] at e; cases e
 | some l' =>
   rw [h] at e
   simp only [Option.bind_some] at e
   split at e
   · rename_i hl
     cases e
     refine hf H₀ H O σ ds hd l _ o h fun vs H1 s1 r1=>⟨by rw [r1.length]; exact hl,fun p hp=>?_⟩
     refine q p vs _ (s1.trans (qN hp _)) (s1.free hp) qG ?_
     exact (r1.more hp).mono (qN hp _)
   · cases e
theorem jJ {es:List Expr} {x1} {pos:Pos} {g:FA} (h:PAs X es g):PV X (.Tuple es x1 pos) (mkT (qH g)):=by
 obtain ⟨t,ht,hf⟩:=h
 refine ⟨_,pe_tup ht,fun H₀ H O σ ds hd d Q o e q=>?_⟩
 unfold mkT qH at e
 cases h:g ds with
 | none=>rw [h] at e; cases e
 | some l' =>
   rw [h] at e
   simp only [Option.bind_some] at e
   split at e
   · rename_i hl
     cases e
     refine hf H₀ H O σ ds hd l' _ o h fun vs H1 s1 r1=>⟨by rw [r1.length]; exact hl,fun p hp=>?_⟩
     refine q _ _ (s1.trans (qN hp _)) ?_
     exact .tup ((o.mono s1).free hp) (.inl qG) (r1.mono (qN hp _))
   · cases e
theorem atI_rep {K:Frag} {H:Hp} {O:Addr->Prop} {xs:List V} {l:List D} {i:Int} {d:D} (r:Reps K H O xs l) (e:atI l i=some d):∃ v,atI xs i=some v/\Rep K H O v d:=by
 unfold atI at e ⊢
 rw [r.length]
 cases h:ixN l.length i with
 | none=>rw [h] at e; cases e
 | some j =>
   rw [h] at e
   exact r.get e
theorem ix_sem {K:Frag} {H:Hp} {O:Addr->Prop} {x y:V} {dx dy d:D} {Q:VK} (rx:WRep K H O x dx) (ry:WRep K H O y dy) (e:ixD dx dy=some d) (q:∀ v H',Same H H'->Rep K H' O v d->Q v H'):rIx K x y H Q:=by
 cases dx <;> cases dy <;> first | (simp [ixD] at e; done) | skip
 · simp only [ixD] at e
   split at e
   · rename_i hl
     rw [rx.str',ry.int']
     rename_i z i
     cases hc:atI z.cps.toList i with
     | none=>rw [hc] at e; cases e
     | some c =>
       rw [hc] at e
       cases e
       exact .inr (.inr ⟨_,_,c,rfl,rfl,hl,hc,q _ H (Same.refl _) (.str _)⟩)
   · cases e
 · obtain ⟨a, xs, rfl, hs, r⟩ := rx.seqT
   rw [ry.int']
   obtain ⟨v,h1,h2⟩:=atI_rep r e
   exact .inr (.inl ⟨a,xs,_,v,rfl,rfl,hs,h1,q _ H (Same.refl _) h2⟩)
 · obtain ⟨a, xs, rfl, hs, r⟩ := rx.seqL
   rw [ry.int']
   obtain ⟨v,h1,h2⟩:=atI_rep r e
   exact .inl ⟨a,xs,_,v,rfl,rfl,hs,h1,q _ H (Same.refl _) h2⟩
theorem os_ix:OpS X (rIx X.K) ixD:=fun H O x y dx dy d Q ho rx ry e q=>ix_sem rx ry e q
theorem qE {a b:Expr} {fa fb:FE} {pos:Pos} (ha:PVw X a fa) (hb:PVw X b fb) (hs:PlainIx b:=by exact fun _ _=>rfl):PV X (.Subscript a b pos) (zJ ixD fa fb):=by
 obtain ⟨ta,pa,ha⟩:=ha
 obtain ⟨tb,pb,hb⟩:=hb
 exact ⟨_,pe_ix ix_seq pa pb hs,pv_tOp os_ix (a:=a) (b:=b) ha hb⟩
end
def RetOk (K:Frag) (H H':Hp) (v:V):Ret->Prop
 | .val d=>Rep K H' (Old H) v d
 | .fresh l=>∃ a xs,v = .ref a/\H a=none/\H' a=some (.lst xs)/\Reps K H' (ins1 a (Old H)) xs l
 | .any d=>Rep K H' yT v d
def RetB (K:Frag) (H:Hp) (hd:Hold) (v:V):Ret->Prop
 | .any d=>∀ B,HI.base B∈hd->Rep K H B v d
 | _=>True
def spF (K:Frag) (n:Nat) (F:List D->Option Ret):Sp:=fun vs H Q _=>vs.length=n/\∃ ds r,Reps K H yT vs ds/\F ds=some r/\∀ v H',Same H H'->RetOk K H H' v r->Q v H'
section
variable {X:Cx}
theorem retV_ok {K:Frag} {H H':Hp} {O:Addr->Prop} {v:V} {r:Ret} {d:D} (h:RetOk K H H' v r) (e:retV r=some d) (ho:∀ a,O a->Old H a):Rep K H' O v d:=by
 cases r with
 | any d'=>cases e
 | val d'=>cases e; exact h.less ho
 | fresh l =>
   cases e
   obtain ⟨a,xs,rfl,h1,h2,h3⟩:=h
   refine .lst (fun z=>?_) (.inl h2) (h3.less fun b z=>.inr (ho b z))
   obtain ⟨o,e,_⟩:=ho a z
   rw [h1] at e; cases e
theorem retF_ok {K:Frag} {H H':Hp} {O:Addr->Prop} {v:V} {r:Ret} {l:List D} (h:RetOk K H H' v r) (e:retF r=some l) (ho:∀ a,O a->Old H a):∃ a xs,v = .ref a/\H a=none/\H' a=some (.lst xs)/\Reps K H' (ins1 a O) xs l:=by
 cases r with
 | any d'=>cases e
 | val d'=>cases e
 | fresh l' =>
   cases e
   obtain ⟨a,xs,rfl,h1,h2,h3⟩:=h
   exact ⟨a,xs,rfl,h1,h2,h3.less fun b z=>z.elim .inl fun z=>.inr (ho b z)⟩
section
variable {k:Nat} {f:Addr} {fd:FuncData} {ps:List Str} {n:Nat} {F:List D->Option Ret} {x:Str} {p pos:Pos} {e:Expr} {es:List Expr} {g:FA}
end
def CallS (X:Cx) (r:List V->Hp->VK->Prop) (F:List D->Option D):Prop:=∀ H O vs l d Q,(∀ a,O a->∃ xs,H a=some (.lst xs))->Paired (WRep X.K H O) vs l->F l=some d->(∀ v H',Same H H'->Rep X.K H' O v d->Q v H')->r vs H Q
theorem xB {x:Str} {p pos:Pos} {e:Expr} {es:List Expr} {id:String} {r:List V->Hp->VK->Prop} {F:List D->Option D} {g:FA} (hc:CallR X (.builtin id) r) (hs:CallS X r F) (hm:X.mg x=none) (hv:bootBuiltins x=some (.builtin id)) (ha:PAv X (e::es) g)
  (hg:Gl X x) (hn:x≠"__name__":=by decide) (hdb:(x == ("__debug__" : Str))=false:=by decide) (he:starEach (e::es) X.env=(false,eval e X.env)::starEach es X.env:=by rfl) (hpl:(backTo pos (starEach es X.env)).any (·.1)=false:=by rfl) :
  PV X (.Call (.Name x p) (e::es) [] pos) (callB F g):=by
 obtain ⟨t,ht,hf⟩:=ha
 refine ⟨_,xK hc hg hm hv ht hn hdb he hpl,fun H₀ H O σ ds hd d Q o e q=>?_⟩
 unfold callB at e
 cases h:g ds with
 | none=>rw [h] at e; cases e
 | some l =>
   rw [h] at e
   refine hf H₀ H O σ ds hd l _ o h fun vs H1 s1 r1=>?_
   exact hs H1 O vs l d Q (o.mono s1).dom r1 e fun v H' s' r=>q v H' (s1.trans s') r
theorem call_lenU:CallR X (.builtin "len") (fun xs H Q=>(∃ p ys,xs=[.ref p]/\(SqL X.K H p ys \/ SqT X.K H p ys)/\Q (.int ys.length) H) \/ ∃ z,xs=[.str z]/\z.length<=sizeLine/\Q (.int z.length) H):=call_len_seq.or call_len_str
theorem cs_len:CallS X (fun xs H Q=>(∃ p ys,xs=[.ref p]/\(SqL X.K H p ys \/ SqT X.K H p ys)/\Q (.int ys.length) H) \/ ∃ z,xs=[.str z]/\z.length<=sizeLine/\Q (.int z.length) H) lenD:=by
 intro H O vs l d Q ho r e q
 match l,r,e with
 | [.lst l], .cons r .nil, e =>
   cases e
   obtain ⟨a,xs,rfl,hs,rs⟩:=r.seqL
   refine .inl ⟨a,xs,rfl,.inl hs,?_⟩
   rw [rs.length]
   exact q _ H (Same.refl _) (.int _)
 | [.tup l], .cons r .nil, e =>
   cases e
   obtain ⟨a,xs,rfl,hs,rs⟩:=r.seqT
   refine .inl ⟨a,xs,rfl,.inr hs,?_⟩
   rw [rs.length]
   exact q _ H (Same.refl _) (.int _)
 | [.str x], .cons r .nil, e =>
   simp only [lenD] at e
   split at e
   · rename_i hl
     cases e
     rw [r.str']
     exact .inr ⟨x,rfl,hl,q _ H (Same.refl _) (.int _)⟩
   · cases e
theorem xH {p pos:Pos} {e:Expr} {g:FA} (hm:X.mg "len" = none) (ha:PAv X [e] g) (hg:Gl X "len":=by rfl) (he:starEach [e] X.env=[(false,eval e X.env)]:=by rfl) :
  PV X (.Call (.Name "len" p) [e] [] pos) (callB lenD g):=xB call_lenU cs_len hm PySem.boot_len ha hg (by decide) (by decide) he rfl
def After (X:Cx) (H₀ : Hp) (hd:Hold) (E:Ends):Out->Prop
 | .nx ds=>∀ σ H O,Ok X.K H₀ H O σ ds hd->E.nx σ H
 | .bk ds=>∀ σ H O,Ok X.K H₀ H O σ ds hd->E.bk σ H
 | .ct ds=>∀ σ H O,Ok X.K H₀ H O σ ds hd->E.ct σ H
 | .rt r=>∀ v H,Same H₀ H->RetOk X.K H₀ H v r->RetB X.K H hd v r->E.rt v H
variable (X) in
def PSv (st:Stmt) (g:FS):Prop:=∃ t,PS X st t/\∀ H₀ H O σ ds hd out E,Ok X.K H₀ H O σ ds hd->g ds=some out->After X H₀ hd E out->t E σ H
variable (X) in
def PSsv (st:List Stmt) (g:FS):Prop:=∃ t,PSs X st t/\∀ H₀ H O σ ds hd out E,Ok X.K H₀ H O σ ds hd->g ds=some out->After X H₀ hd E out->t E σ H
theorem zP:PSsv X [] jB:=⟨_,pss_nil,fun _ H O σ ds hd out E o e h=>by cases e; exact h σ H O o⟩
theorem zD {st:Stmt} {rest:List Stmt} {f g:FS} (h1:PSv X st f) (h2:PSsv X rest g):PSsv X (st::rest) (qO f g):=by
 obtain ⟨t,ht,hf⟩:=h1
 obtain ⟨u,hu,hg⟩:=h2
 refine ⟨_,wD ht hu,fun H₀ H O σ ds hd out E o e h=>?_⟩
 unfold qO at e
 cases h1:f ds with
 | none=>rw [h1] at e; cases e
 | some o1 =>
   rw [h1] at e
   refine hf H₀ H O σ ds hd o1 _ o h1 ?_
   cases o1 with
   | nx ds'=>exact fun σ' H' O' o'=>hg H₀ H' O' σ' ds' hd out E o' e h
   | rt r=>cases e; exact h
   | bk ds'=>cases e; exact h
   | ct ds'=>cases e; exact h
theorem zH {st:Stmt} {f:FS} (h1:PSv X st f):PSsv X [st] f:=by
 obtain ⟨t,ht,hf⟩:=h1
 exact ⟨_,pss_one ht,hf⟩
theorem psv_continue {pos:Pos} : PSv X (.Continue pos) (fun ds=>some (.ct ds)):=⟨_,ps_continue,fun _ H O σ ds hd out E o e h=>by cases e; exact h σ H O o⟩
theorem qL {c:Expr} {a b:List Stmt} {pos:Pos} {fc:FT} {f g:FS} (hc:PTv X c fc) (ha:PSsv X a f) (hb:PSsv X b g):PSv X (.If c a b pos) (ifG fc f g):=by
 obtain ⟨tc,pc,hc⟩:=hc
 obtain ⟨t,ht,hf⟩:=ha
 obtain ⟨u,hu,hg⟩:=hb
 refine ⟨_,ps_if pc ht hu,fun H₀ H O σ ds hd out E o e h=>?_⟩
 unfold ifG at e
 cases h1:fc ds with
 | none=>rw [h1] at e; cases e
 | some k =>
   rw [h1] at e
   refine hc H₀ H O σ ds hd k _ o h1 fun H' s=>?_
   cases k with
   | true=>exact iteT (hf H₀ H' O σ ds hd out E (o.mono s) (by simpa using e) h)
   | false=>exact iteF (hg H₀ H' O σ ds hd out E (o.mono s) (by simpa using e) h)
theorem zQ {i:Nat} {x:Str} {e:Expr} {pos pos':Pos} {f:FE} (hN:X.N.Nodup) (he:PV X e f) (hi:X.N[i]? = some x:=by rfl) (hx:Loc X.env.scope x:=by first | exact Or.inl rfl | exact Or.inr rfl) (hs:swapsWith e (some (.Name x pos')) pos.line X.env=pure false:=by rfl)
  (hf:X.fn x=true \/ X.env.scope.names.lookup x=some .local:=by first | exact .inl rfl | exact .inr rfl):PSv X (.Assign [.Name x pos'] e pos) (yO i f):=by
 obtain ⟨t,ht,hg⟩:=he
 refine ⟨_,ps_set hN hi hx ht hs hf,fun H₀ H O σ ds hd out E o e h=>?_⟩
 unfold yO at e
 cases h1:f ds with
 | none=>rw [h1] at e; cases e
 | some d =>
   rw [h1] at e
   cases e
   exact hg H₀ H O σ ds hd d _ o h1 fun v H' s r=>h _ _ _ ((o.mono s).set r)
theorem qX {i:Nat} {x:Str} {e:Expr} {pos pos':Pos} {f:FA} (hN:X.N.Nodup) (he:PVf X e f) (hi:X.N[i]? = some x:=by rfl) (hx:Loc X.env.scope x:=by first | exact Or.inl rfl | exact Or.inr rfl) (hs:swapsWith e (some (.Name x pos')) pos.line X.env=pure false:=by rfl)
  (hf:X.fn x=true \/ X.env.scope.names.lookup x=some .local:=by first | exact .inl rfl | exact .inr rfl):PSv X (.Assign [.Name x pos'] e pos) (setOG i f):=by
 obtain ⟨t,ht,hg⟩:=he
 refine ⟨_,ps_set hN hi hx ht hs hf,fun H₀ H O σ ds hd out E o e h=>?_⟩
 unfold setOG at e
 cases h1:f ds with
 | none=>rw [h1] at e; cases e
 | some l =>
   rw [h1] at e
   cases e
   exact hg H₀ H O σ ds hd l _ o h1 fun a xs H' s hn he r=>h _ _ _ (o.setO s hn he r)
theorem qF {e:Expr} {pos:Pos} {f:FE} (he:PVw X e f):PSv X (.Return (some e) pos) (retG f):=by
 obtain ⟨t,ht,hg⟩:=he
 refine ⟨_,ps_ret ht,fun H₀ H O σ ds hd out E o e h=>?_⟩
 unfold retG at e
 cases h1:f ds with
 | none=>rw [h1] at e; cases e
 | some d =>
   rw [h1] at e
   simp only [Option.bind_some,flatR] at e
   split at e
   · rename_i hf
     cases e
     exact hg H₀ H O σ ds hd d _ o h1 fun v H' s r=>h _ _ (o.same.trans s) (Rep.flatten (fun a z=>Old.mono (o.same.trans s) z) hf r.any) True.intro
   · cases e
theorem yS {e:Expr} {pos:Pos} {f:FA} (he:PVf X e f):PSv X (.Return (some e) pos) (retOG f):=by
 obtain ⟨t,ht,hg⟩:=he
 refine ⟨_,ps_ret ht,fun H₀ H O σ ds hd out E o e h=>?_⟩
 unfold retOG at e
 cases h1:f ds with
 | none=>rw [h1] at e; cases e
 | some l =>
   rw [h1] at e
   simp only [Option.bind_some,flatF] at e
   split at e
   · rename_i hf
     cases e
     refine hg H₀ H O σ ds hd l _ o h1 fun a xs H' s hn he r=>h _ _ (o.same.trans s) ⟨a,xs,rfl,o.same.free hn,he,Reps.flatten (fun b z=>?_) hf r⟩ True.intro
     rcases z with rfl | z
     · exact ⟨_,he,rfl⟩
     · exact Old.mono (o.same.trans s) z
   · cases e
theorem yP (i:Nat) {x:Str} {pos pos':Pos} (hN:X.N[i]? = some x:=by rfl) (hv:Vis X.env.scope x:=by first | exact Or.inl rfl | exact Or.inr (Or.inl rfl) | exact Or.inr (Or.inr rfl)) (hd:(x == ("__debug__" : Str))=false:=by decide)
  (hcd:(x == ("__classdict__" : Str))=false:=by decide):PSv X (.Return (some (.Name x pos')) pos) (retXG i):=by
 refine ⟨_,ps_ret (yY hN hv hd hcd),fun H₀ H O σ ds hd out E o e h=>?_⟩
 unfold retXG at e
 cases hs:ds[i]? with
 | none=>rw [hs] at e; cases e
 | some s =>
   rw [hs] at e
   cases s with
   | v d'=>cases e
   | no=>cases e
   | exc _=>cases e
   | fr _=>cases e
   | own l =>
     simp only [flatF] at e
     split at e
     · rename_i hf
       cases e
       obtain ⟨a,xs,h1,h2,h3,h4⟩:=o.readO hs
       refine ⟨.ref a,h1,h _ _ o.same ⟨a,xs,rfl,o.fresh i l a hs h1,h3,Reps.flatten (fun b z=>?_) hf h4⟩ True.intro⟩
       rcases z with rfl | z
       · exact ⟨_,h3,rfl⟩
       · exact Old.mono o.same z
     · cases e
theorem psv_put {i:Nat} {x:Str} {e ek:Expr} {pos p1 p2:Pos} {fk fe:FE} (he:PV X e fe) (hk:PV X ek fk) (hN:X.N[i]? = some x:=by rfl) (hv:Vis X.env.scope x:=by first | exact Or.inl rfl | exact Or.inr (Or.inl rfl) | exact Or.inr (Or.inr rfl)) (hd:(x == ("__debug__" : Str))=false:=by decide)
  (hcd:(x == ("__classdict__" : Str))=false:=by decide)
  (ha:∀ v,assign (.Subscript (.Name x p1) ek p2) X.env v=(do
    let ov <- holding [v] (eval (.Name x p1) X.env)
    let iv <- holding [v,ov] (eval ek X.env)
    standAt p2
    holding [v,ov,iv] (setItem ov iv v)
    release [v,ov,iv] []):=by intro _; rfl)
  (hs:swapsWithSole [.Subscript (.Name x p1) ek p2] e pos.line X.env=pure false:=by rfl) (hw:swappedStores [.Subscript (.Name x p1) ek p2] e X.env=pure none:=by rfl)
  (h1:(assignEach [.Subscript (.Name x p1) ek p2] X.env).map (·.2)=[assign (.Subscript (.Name x p1) ek p2) X.env]:=by rfl):PSv X (.Assign [.Subscript (.Name x p1) ek p2] e pos) (putG i fk fe):=by
 obtain ⟨te,pe,he⟩:=he
 obtain ⟨tk,pk,hk⟩:=hk
 refine ⟨_,ps_asg pe (pg_sub (yY hN hv hd hcd) pk set_list ha) hs hw h1,fun H₀ H O σ ds hd out E o e h=>?_⟩
 unfold putG at e
 cases hsl:ds[i]? with
 | none=>rw [hsl] at e; cases e
 | some s =>
   rw [hsl] at e
   cases s with
   | v d'=>cases e
   | no=>cases e
   | exc _=>cases e
   | fr _=>cases e
   | own l =>
     simp only at e
     cases h1:fe ds with
     | none=>rw [h1] at e; cases e
     | some d =>
       cases h2:fk ds with
       | none=>rw [h1,h2] at e; cases e
       | some kd =>
         rw [h1,h2] at e
         simp only [Option.bind_some] at e
         cases kd with
         | int n =>
           simp only at e
           cases h3:ixN l.length n with
           | none=>rw [h3] at e; cases e
           | some j =>
             rw [h3] at e
             cases e
             refine he H₀ H O σ ds hd d _ o h1 fun v H1 s1 r1=>?_
             obtain ⟨a,xs,q1,q2,q3,q4⟩:=(o.mono s1).readO hsl
             refine ⟨.ref a,q1,?_⟩
             refine hk H₀ H1 O σ ds hd _ _ (o.mono s1) h2 fun kv H2 s2 r2=>?_
             cases r2
             refine ⟨a,xs,n,j,rfl,rfl,s2 _ _ q3,by rw [q4.length]; exact h3,?_⟩
             exact h _ _ _ (((o.mono s1).mono s2).modify hsl q1 ((q4.mono s2).set (r1.mono s2) j))
         | _=>cases e
theorem yX {i:Nat} {x:Str} {e:Expr} {pos p1 p2 p3:Pos} {fe:FE} (he:PV X e fe) (hN:X.N[i]? = some x:=by rfl) (hv:Vis X.env.scope x:=by first | exact Or.inl rfl | exact Or.inr (Or.inl rfl) | exact Or.inr (Or.inr rfl)) (hd:(x == ("__debug__" : Str))=false:=by decide)
  (hcd:(x == ("__classdict__" : Str))=false:=by decide)
  (hfew:((backTo p3 (starEach [e] X.env)).all (fun x=>!x.1) && (backToKw p3 (keywordEach [] X.env)).all (fun x=>x.1.isSome)
    && decide ([e].length+([]:List Keyword).length+(if ([]:List Keyword).isEmpty then 0 else 1) < 30))=true:=by rfl)
  (hline:(p2.endLine == p3.line)=true:=by rfl) (hs:starEach [e] X.env=(false,eval e X.env)::starEach [] X.env:=by rfl)
  (hbase:attributeBase (.Name x p1) "append" X.env (eval (.Name x p1) X.env)=eval (.Name x p1) X.env:=by rfl) (hsw:swapsWith (.Call (.Attribute (.Name x p1) "append" p2) [e] [] p3) none pos.line X.env=pure false:=by rfl) :
  PSv X (.Expr (.Call (.Attribute (.Name x p1) "append" p2) [e] [] p3) pos) (appG i fe):=by
 obtain ⟨te,pe,he⟩:=he
 refine ⟨_,wZ (pe_bm PySem.F.plainAttrs_list PySem.F.slot_list_append PySem.F.type_list_append mt_append (yY hN hv hd hcd) (qS pe yC hs) hbase hfew hline hs rfl) hsw,fun H₀ H O σ ds hd out E o e h=>?_⟩
 unfold appG at e
 cases hsl:ds[i]? with
 | none=>rw [hsl] at e; cases e
 | some s =>
   rw [hsl] at e
   cases s with
   | v d'=>cases e
   | no=>cases e
   | exc _=>cases e
   | fr _=>cases e
   | own l =>
     simp only at e
     cases h1:fe ds with
     | none=>rw [h1] at e; cases e
     | some d =>
       rw [h1] at e
       simp only [Option.bind_some] at e
       split at e
       · rename_i hl
         cases e
         obtain ⟨a,xs,q1,q2,q3,q4⟩:=o.readO hsl
         refine ⟨.ref a,q1,.inl ⟨rfl,xs,SqL.of q3⟩,?_⟩
         refine he H₀ H O σ ds hd d _ o h1 fun v H1 s1 r1=>?_
         refine ⟨a,xs,v,rfl,rfl,s1 _ _ q3,by rw [q4.length]; exact hl,?_⟩
         exact h _ _ _ ((o.mono s1).modify hsl q1 ((q4.mono s1).append (.cons r1 .nil)))
       · cases e
theorem ok_start {K:Frag} {H:Hp} {N:List Str} {vs:List V} {ds:List D} (r:Reps K H yT vs ds):Ok K H H yT (L2.start N vs) (args N.length ds) []:=by
 have hl:=r.length
 have no:∀ i,IsOwn (args N.length ds) i->False:=fun i ⟨l,e⟩=>by
  unfold args at e
  by_cases hi:i < ds.length
  · rw [List.getElem?_append_left (by simpa using hi), List.getElem?_map] at e
    cases h:ds[i]? with
    | none=>rw [h] at e; cases e
    | some d=>rw [h] at e; cases e
  · rw [List.getElem?_append_right (by simpa using hi), List.getElem?_replicate] at e
    split at e <;> cases e
 refine ⟨Same.refl _,fun i l a e _=>(no i ⟨l,e⟩).elim,fun _ z=>z.elim,by simp [L2.start,args,hl],fun i s e=>?_,fun i j a _ hi _ _ _=>no i hi,fun p hp=>nomatch hp⟩
 unfold args at e
 unfold L2.start
 by_cases hi:i < ds.length
 · rw [List.getElem?_append_left (by simpa using hi), List.getElem?_map] at e
   rw [List.getElem?_append_left (by simpa [hl] using hi),List.getElem?_map]
   cases h:ds[i]? with
   | none=>rw [h] at e; cases e
   | some d =>
     rw [h] at e
     cases e
     obtain ⟨v,h1,h2⟩:=r.get h
     rw [h1]
     exact wS h2
 · rw [List.getElem?_append_right (by simpa using hi), List.getElem?_replicate] at e
   split at e
   · cases e; exact jX
   · cases e
def Does (g:FS) (n:Nat) (ds:List D) (r:Ret):Prop:=g (args n ds)=some (.rt r) \/ (r = .val .non/\∃ ds',g (args n ds)=some (.nx ds'))
theorem qY {P:Program} {w:World} {K:Frag} {mg:Str->Option Value} {base:Heap} {x qual:Str} {st:Stmt} {f:Addr} {fd:FuncData} {N ps:List Str} {k:Nat} {F:List D->Option Ret} (Fn:Fun K x qual st f fd) (S:FnScope N ps (zB st))
  {g:FS} (hbody:∀ (cdv:Value) (A:Around) (outer:List Env) (s:Shared) (H:Hp) (E:XK),Room k (A.deeper (envOfC qual (zB st) s.heap.objs.size f cdv))->PSsv (cxOf CX0 P w K mg base N qual (zB st) f cdv A outer s H E).nox (zL st) g)
  (hg:∀ ds r,ds.length=ps.length->F ds=some r->Does g N.length ds r):FnOk P w K mg base CX0 (k+1) f fd ps (spF K ps.length F):=by
 refine Fn.ok S (fun vs H Q E h=>h.1) (fun cdv A outer s H vs Q E hr h=>?_)
 obtain ⟨hl,ds,r,rv,e,q⟩:=h
 obtain ⟨t,ht,hf⟩:=hbody cdv A outer s H E hr
 refine ⟨t,ht,?_⟩
 have o:=ok_start (N:=N) rv
 rcases hg ds r (by rw [<- rv.length]; exact hl) e with e' | ⟨rfl,ds',e'⟩
 · exact hf H H yT _ _ [] _ _ o e' (fun v H' s r _=>q v H' s r)
 · exact hf H H yT _ _ [] _ _ o e' (fun σ H' O o'=>q .non H' o'.same .non)
end
end FL
namespace L2
open PySem PySem.Spec PyProof.Rows
section
variable {X:Cx} {tg:Expr}
end
end L2
namespace FL
open PySem PySem.Spec PyProof.Rows L2
def Wlk (K:Frag) (J:It) (p:V×D) (items:List D):Prop:=∀ H O,(∀ a,O a->∃ xs,H a=some (HO.lst xs))->Rep K H O p.1 p.2 →
 (∀ i d,items[i]? = some d->J.go i H/\∀ x H',J.yld i H x H'->Same H H'/\Rep K H' O x d)/\J.stop items.length H
section
variable {X:Cx}
variable (X) in
def PIv (tg iter:Expr) (fi:FA):Prop:=∃ wi,PI X tg iter wi/\∀ H₀ H O σ ds hd items R,Ok X.K H₀ H O σ ds hd->fi ds=some items →
 (∀ J p H',Same H H'->Rep X.K H' O p.1 p.2->Wlk X.K J p items->R J H')->wi σ H R
theorem wlk_list {K:Frag} {a:Addr} {l:List D} : Wlk K (Itl K a) (.ref a,.lst l) l:=by
 intro H O _ r
 obtain ⟨b,xs,e,hs,rs⟩:=WRep.seqL (.inl r)
 cases e
 refine ⟨fun i d hd=>?_,⟨xs,hs,by rw [rs.length]; exact Nat.le_refl _⟩⟩
 obtain ⟨v,h1,h2⟩:=rs.get hd
 refine ⟨⟨xs,v,hs,h1⟩,fun x H' y=>?_⟩
 obtain ⟨rfl,y⟩:=y
 have:=y xs hs
 rw [h1] at this; cases this
 exact ⟨Same.refl _,h2⟩
theorem wlk_tup {K:Frag} {a:Addr} {l:List D} : Wlk K (Itt K a) (.ref a,.tup l) l:=by
 intro H O _ r
 obtain ⟨b,xs,e,hs,rs⟩:=WRep.seqT (.inl r)
 cases e
 refine ⟨fun i d hd=>?_,⟨xs,hs,by rw [rs.length]; exact Nat.le_refl _⟩⟩
 obtain ⟨v,h1,h2⟩:=rs.get hd
 refine ⟨⟨xs,v,hs,h1⟩,fun x H' y=>?_⟩
 obtain ⟨rfl,y⟩:=y
 have:=y xs hs
 rw [h1] at this; cases this
 exact ⟨Same.refl _,h2⟩
theorem wlk_range {K:Frag} {lo:Int} {n:Nat} : Wlk K (Itr lo n) (.non,.non) (rangeD lo n):=by
 intro H O _ r
 have hl:(rangeD lo n).length=n:=by simp [rangeD]
 refine ⟨fun i d hd=>?_,show n<=_ by rw [hl]; exact Nat.le_refl _⟩
 have hi:i < n:=by
  have:=(List.getElem?_eq_some_iff.mp hd).1
  rwa [hl] at this
 refine ⟨hi,fun x H' y=>?_⟩
 obtain ⟨rfl,rfl⟩:=y
 have:d=D.int (lo+(i:Int)):=by
  simp only [rangeD,List.getElem?_map,List.getElem?_range hi,Option.map_some] at hd
  exact (Option.some.inj hd).symm
 subst this
 exact ⟨Same.refl _,.int _⟩
theorem xR {tg e:Expr} {p pos:Pos} {f:FE} (hm:X.mg "range" = none) (h:PV X e f) (hg:Gl X "range":=by rfl) (hs:starEach [e] X.env=[(false,eval e X.env)]:=by rfl):PIv X tg (.Call (.Name "range" p) [e] [] pos) (rng1 f):=by
 obtain ⟨t,ht,hf⟩:=h
 refine ⟨_,pi_range1 hg hm (qS ht yC hs) hs,fun H₀ H O σ ds hd items R o e q=>?_⟩
 unfold rng1 at e
 cases h1:f ds with
 | none=>rw [h1] at e; cases e
 | some d =>
   rw [h1] at e
   simp only [Option.bind_some] at e
   cases d with
   | int j =>
     simp only at e
     split at e
     · rename_i hj
       cases e
       refine hf H₀ H O σ ds hd _ _ o h1 fun v H' s r=>?_
       cases r
       exact ⟨j,rfl,hj.1,hj.2,q _ (.non,.non) H' s .non wlk_range⟩
     · cases e
   | _=>cases e
variable (X) in
def PGv (tg:Expr) (ga:D->List Sl->Option (List Sl)):Prop:=∃ g,PG X tg g/\∀ H₀ H O σ ds hd v d ds' Q,Ok X.K H₀ H O σ ds hd->Rep X.K H O v d->ga d ds=some ds'->(∀ σ',Ok X.K H₀ H O σ' ds' hd->Q σ' H)->g v σ H Q
variable (X) in
def PGsv (tgs:List Expr) (ga:List D->List Sl->Option (List Sl)):Prop:=∃ g,PGs X tgs g/\∀ H₀ H O σ ds hd vs l ds' Q,Ok X.K H₀ H O σ ds hd->Reps X.K H O vs l->ga l ds=some ds'->(∀ σ',Ok X.K H₀ H O σ' ds' hd->Q σ' H)->g vs σ H Q
theorem zM {i:Nat} {x:Str} {pos:Pos} (hN:X.N.Nodup) (hi:X.N[i]? = some x:=by rfl) (hx:Loc X.env.scope x:=by first | exact Or.inl rfl | exact Or.inr rfl)
  (hf:X.fn x=true \/ X.env.scope.names.lookup x=some .local:=by first | exact .inl rfl | exact .inr rfl):PGv X (.Name x pos) (zO i) :=
 ⟨_,pg_name hN hi hx hf,fun H₀ H O σ ds hd v d ds' Q o r e q=>by cases e; exact q _ (o.set r)⟩
theorem xG:PGsv X [] tgNil:=⟨_,pgs_nil,fun H₀ H O σ ds hd vs l ds' Q o r e q=>by
 cases r with
 | nil=>cases e; exact ⟨rfl,q _ o⟩
 | cons _ _=>cases e⟩
theorem qD {e:Expr} {es:List Expr} {g:D->List Sl->Option (List Sl)} {h:List D->List Sl->Option (List Sl)} (h1:PGv X e g) (h2:PGsv X es h)
  (hs:(assignEach (e::es) X.env).map (·.2)=assign e X.env::(assignEach es X.env).map (·.2):=by rfl):PGsv X (e::es) (qA g h):=by
 obtain ⟨t,ht,hf⟩:=h1
 obtain ⟨u,hu,hg⟩:=h2
 refine ⟨_,pgs_cons ht hu hs,fun H₀ H O σ ds hd vs l ds' Q o r e q=>?_⟩
 cases r with
 | nil=>cases e
 | cons r1 rr =>
   rename_i v d vr dr
   simp only [qA] at e
   cases h1:g d ds with
   | none=>rw [h1] at e; cases e
   | some ds1 =>
     rw [h1] at e
     exact ⟨v,vr,rfl,hf H₀ H O σ ds hd v d ds1 _ o r1 h1 fun σ' o'=>hg H₀ H O σ' ds1 hd vr dr ds' Q o' rr e q⟩
theorem xX {es:List Expr} {k:Nat} {pos:Pos} {h:List D->List Sl->Option (List Sl)} {n:Nat} (hc:X.calm=true) (hh:PGsv X es h)
  (hn:(assignEach es X.env).length=n:=by rfl) (hst:(assignEach es X.env).findIdx? (·.1)=none:=by rfl):PGv X (.Tuple es k pos) (tupG n h):=by
 obtain ⟨t,ht,hf⟩:=hh
 refine ⟨_,pg_tup hc ht hn hst,fun H₀ H O σ ds hd v d ds' Q o r e q=>?_⟩
 cases d with
 | tup l =>
   simp only [tupG] at e
   split at e
   · rename_i hl
     obtain ⟨a,xs,rfl,hs,rs⟩:=WRep.seqT (.inl r)
     exact ⟨a,xs,rfl,hs,by rw [rs.length]; exact hl,hf H₀ H O σ ds hd xs l ds' Q o rs e q⟩
   · cases e
 | _=>cases e
theorem retB_less {K:Frag} {H:Hp} {hd:Hold} {q:HI} {v:V} {r:Ret} (h:RetB K H (q::hd) v r):RetB K H hd v r:=by
 cases r with
 | any d=>exact fun B hB=>h B (List.mem_cons_of_mem _ hB)
 | _=>exact True.intro
theorem jY {tg iter:Expr} {body:List Stmt} {pos:Pos} {fi:FA} {ga:D->List Sl->Option (List Sl)} {g:FS} (hp:PassesOwn (model X.prog X.w) X.A X.env X.xe) (hc:X.calm=true) (hi:PIv X tg iter fi) (hg:PGv X tg ga) (hb:PSsv X body g)
  (hs:∀ x,foldedSetIterable iter X.env x=pure x:=by intro _; rfl):PSv X (.For tg iter body [] pos) (forG fi ga g):=by
 obtain ⟨wi,pi,hi⟩:=hi
 obtain ⟨tg',pg,hg⟩:=hg
 obtain ⟨tb,pb,hb⟩:=hb
 refine ⟨_,ps_for hp hc pi pg pb hs,fun H₀ H O σ ds hd out E o e h=>?_⟩
 unfold forG at e
 cases h1:fi ds with
 | none=>rw [h1] at e; cases e
 | some items =>
   rw [h1] at e
   simp only [Option.bind_some] at e
   refine hi H₀ H O σ ds hd items _ o h1 fun J p H' s r wk=>?_
   refine ⟨fun i m σ' H'=>i<=items.length/\m=items.length - i/\∃ O' ds',Ok X.K H₀ H' O' σ' ds' (HI.rep p.1 p.2::hd)/\jC ga g (items.drop i) ds'=some out,⟨items.length,Nat.zero_le _,rfl,O,ds,(o.mono s).holdMore (p:=HI.rep p.1 p.2) r,by simpa using e⟩,?_⟩
   rintro i m σ1 H1 ⟨hi1,rfl,O1,ds1,o1,e1⟩
   obtain ⟨go,stop⟩:=wk H1 O1 o1.dom (o1.hold (HI.rep p.1 p.2) List.mem_cons_self)
   by_cases hlt:i < items.length
   · right
     have hd0:items[i]? = some items[i]:=List.getElem?_eq_getElem hlt
     obtain ⟨hgo,hy⟩:=go i _ hd0
     rw [List.drop_eq_getElem_cons hlt,jC] at e1
     refine ⟨hgo,fun σ' H'=>i+1<=items.length/\∃ O' ds',Ok X.K H₀ H' O' σ' ds' (HI.rep p.1 p.2::hd)/\jC ga g (items.drop (i+1)) ds'=some out,fun σ' H' ⟨q1,q2⟩=>⟨items.length - (i+1),by omega,q1,rfl,q2⟩,fun x H2 y=>?_⟩
     obtain ⟨s2,r2⟩:=hy x H2 y
     cases h2:ga items[i] ds1 with
     | none=>rw [h2] at e1; cases e1
     | some ds2 =>
       rw [h2] at e1
       simp only [Option.bind_some] at e1
       cases h3:g ds2 with
       | none=>rw [h3] at e1; cases e1
       | some o3 =>
         rw [h3] at e1
         simp only [Option.bind_some] at e1
         refine hg H₀ H2 O1 σ1 ds1 (HI.rep p.1 p.2::hd) x _ ds2 _ (o1.mono s2) r2 h2 fun σ' o'=>?_
         refine hb H₀ H2 O1 σ' ds2 (HI.rep p.1 p.2::hd) o3 _ o' h3 ?_
         cases o3 with
         | nx ds3=>exact fun σ3 H3 O3 ok3=>⟨hlt,O3,ds3,ok3,e1⟩
         | ct ds3=>exact fun σ3 H3 O3 ok3=>⟨hlt,O3,ds3,ok3,e1⟩
         | bk ds3=>cases e1; exact fun σ3 H3 O3 ok3=>h σ3 H3 O3 ok3.holdLess
         | rt rr=>cases e1; exact fun v H s r b=>h v H s r (retB_less b)
   · left
     have ei:i=items.length:=by omega
     subst ei
     rw [List.drop_length,jC] at e1
     cases e1
     exact ⟨stop,h σ1 H1 O1 o1.holdLess⟩
variable (X) in
def PFv (ifs:List Expr) (c:FT):Prop:=∃ t,PF X ifs t/\∀ H₀ H O σ ds hd b Q,Ok X.K H₀ H O σ ds hd->c ds=some b->(∀ H',Same H H'->Q b H')->t σ H Q
theorem yI:PFv X [] (fun _=>some true):=⟨_,pf_nil,fun _ H _ _ _ _ _ _ _ e q=>by cases e; exact q H (Same.refl _)⟩
theorem pfv_one {c:Expr} {fc:FT} (h:PTv X c fc):PFv X [c] fc:=by
 obtain ⟨t,ht,hf⟩:=h
 exact ⟨_,pf_one ht,hf⟩
theorem Ok.inner {K:Frag} {H₀ H:Hp} {O:Addr->Prop} {σ : L2.St} {ds:List Sl} {hd:Hold} (o:Ok K H₀ H O σ ds hd) (mp:List (Option Nat)):Ok K H₀ H O (slotsY mp σ) (qZ mp ds) hd:=by
 have no:∀ {i:Nat} {l:List D},(qZ mp ds)[i]? = some (.own l)->False:=fun {i l} e=>by
  unfold qZ at e
  rw [List.getElem?_map] at e
  cases hm:mp[i]? with
  | none=>rw [hm] at e; cases e
  | some m =>
    rw [hm] at e
    simp only [Option.map_some,Option.some.injEq] at e
    cases m with
    | none=>cases e
    | some j =>
      simp only at e
      split at e <;> cases e
 refine ⟨o.same,fun i l a e _=>(no e).elim,o.dom,by simp [slotsY,qZ],fun i s e=>?_,fun i j a hij hi hj e1 e2=>?_,o.hold⟩
 · unfold qZ at e
   unfold slotsY
   rw [List.getElem?_map] at e ⊢
   cases hm:mp[i]? with
   | none=>rw [hm] at e; cases e
   | some m =>
     rw [hm] at e
     simp only [Option.map_some,Option.some.injEq] at e
     cases m with
     | none =>
       simp only at e
       subst e; exact jX
     | some j =>
       simp only at e
       cases hj:ds[j]? with
       | none=>rw [hj] at e; subst e; exact jX
       | some s' =>
         rw [hj] at e
         cases s' with
         | no=>subst e; exact jX
         | exc _=>subst e; exact jX
         | fr _=>subst e; exact jX
         | own l=>subst e; exact jX
         | v d =>
           simp only at e
           subst e
           obtain ⟨v,h1,h2⟩:=o.read hj
           simp only [Option.map_some,Option.bind_some,h1,Option.join_some]
           exact wS h2
 · obtain ⟨l, e⟩ := hi
   unfold qZ at e
   rw [List.getElem?_map] at e
   cases hm:mp[i]? with
   | none=>rw [hm] at e; cases e
   | some m =>
     rw [hm] at e
     simp only [Option.map_some,Option.some.injEq] at e
     cases m with
     | none=>cases e
     | some j =>
       simp only at e
       cases hj:ds[j]? with
       | none=>rw [hj] at e; cases e
       | some s'=>rw [hj] at e; cases s' <;> cases e
section
variable {scope:Scope} {NY:List Str} {mp:List (Option Nat)} {tg iter elt:Expr} {ifs:List Expr} {pos:Pos} {fi:FA} {ga:D->List Sl->Option (List Sl)} {tt:FT} {fe:FE}
theorem comp_sem {wi:TI} {g:CI->TG} {t1:CI->TT} {t2:CI->TE}
  (hi:∀ H₀ H O σ ds hd items R,Ok X.K H₀ H O σ ds hd->fi ds=some items->(∀ J p H',Same H H'->Rep X.K H' O p.1 p.2->Wlk X.K J p items->R J H')->wi σ H R)
  (hg:∀ c H₀ H O σ ds hd v d ds' Q,Ok X.K H₀ H O σ ds hd->Rep X.K H O v d->ga d ds=some ds'->(∀ σ',Ok X.K H₀ H O σ' ds' hd->Q σ' H)->g c v σ H Q)
  (ht:∀ c H₀ H O σ ds hd b Q,Ok X.K H₀ H O σ ds hd->tt ds=some b->(∀ H',Same H H'->Q b H')->t1 c σ H Q)
  (he:∀ c H₀ H O σ ds hd d Q,Ok X.K H₀ H O σ ds hd->fe ds=some d->(∀ v H',Same H H'->Rep X.K H' O v d->Q v H')->t2 c σ H Q) :
  ∀ H₀ H O σ ds hd l Q,Ok X.K H₀ H O σ ds hd->compG fi mp ga tt fe ds=some l →
   (∀ a xs H',Same H H'->H a=none->H' a=some (.lst xs)->Reps X.K H' (ins1 a O) xs l->Q (.ref a) H')->tComp wi mp g t1 t2 σ H Q:=by
 intro H₀ H O σ ds hd l Q o e q
 unfold compG at e
 cases h1:fi ds with
 | none=>rw [h1] at e; cases e
 | some items =>
   rw [h1] at e
   simp only [Option.bind_some] at e
   split at e
   · rename_i hsz
     refine hi H₀ H O σ ds hd items _ o h1 fun J p H1 s1 r1 wk=>fun c=>?_
     have oI:Ok X.K H₀ H1 O (slotsY mp σ) (qZ mp ds) (HI.rep p.1 p.2::hd):=((o.mono s1).holdMore (p:=HI.rep p.1 p.2) r1).inner mp
     refine ⟨fun i m ys H2=>i<=items.length/\m=items.length - i/\Same H1 H2/\ys.length<=i/\∃ l' rest,Reps X.K H2 O ys l'/\compL ga tt fe (qZ mp ds) (items.drop i)=some rest/\l=l'++rest,
      ⟨items.length,Nat.zero_le _,rfl,Same.refl _,Nat.le_refl _,[],l,.nil,by simpa using e,rfl⟩,?_⟩
     rintro i m ys H2 ⟨hi1,rfl,s2,hy,l',rest,ry,er,el⟩
     have o2:=oI.mono s2
     obtain ⟨go,stop⟩:=wk H2 O o2.dom (o2.hold (HI.rep p.1 p.2) List.mem_cons_self)
     by_cases hlt:i < items.length
     · right
       have hd0:items[i]? = some items[i]:=List.getElem?_eq_getElem hlt
       obtain ⟨hgo,hyl⟩:=go i _ hd0
       refine ⟨hgo,by omega,fun x H3 y=>?_⟩
       obtain ⟨s3,r3⟩:=hyl x H3 y
       rw [List.drop_eq_getElem_cons hlt,compL] at er
       cases h2:ga items[i] (qZ mp ds) with
       | none=>rw [h2] at er; cases er
       | some ds1 =>
         rw [h2] at er
         simp only [Option.bind_some] at er
         refine hg c H₀ H3 O _ _ (HI.rep p.1 p.2::hd) x _ ds1 _ (o2.mono s3) r3 h2 fun σ' o3=>?_
         cases h3:tt ds1 with
         | none=>rw [h3] at er; cases er
         | some b =>
           rw [h3] at er
           simp only [Option.bind_some] at er
           refine ht c H₀ H3 O σ' ds1 (HI.rep p.1 p.2::hd) b _ o3 h3 fun H4 s4=>?_
           cases b with
           | false =>
             refine iteF ⟨items.length - (i+1),by omega,hlt,rfl,(s2.trans s3).trans s4,Nat.le_succ_of_le hy,l',rest,(ry.mono s3).mono s4,by simpa using er,el⟩
           | true =>
             refine iteT ?_
             simp only [if_true] at er
             cases h4:fe ds1 with
             | none=>rw [h4] at er; cases er
             | some yd =>
               rw [h4] at er
               simp only [Option.bind_some] at er
               cases h5:compL ga tt fe (qZ mp ds) (items.drop (i+1)) with
               | none=>rw [h5] at er; cases er
               | some rest' =>
                 rw [h5] at er
                 cases er
                 refine he c H₀ H4 O σ' ds1 (HI.rep p.1 p.2::hd) yd _ (o3.mono s4) h4 fun v H5 s5 r5=>?_
                 refine ⟨items.length - (i+1),by omega,hlt,rfl,((s2.trans s3).trans s4).trans s5,by simp; omega,l'++[yd],rest',(((ry.mono s3).mono s4).mono s5).append (.cons r5 .nil),h5,?_⟩
                 rw [el]; simp
     · left
       have ei:i=items.length:=by omega
       subst ei
       rw [List.drop_length,compL] at er
       cases er
       rw [List.append_nil] at el
       subst el
       refine ⟨stop,by omega,fun a ha=>?_⟩
       refine q a ys _ ((s1.trans s2).trans (qN ha _)) ((s1.trans s2).free ha) qG ?_
       exact (ry.more ha).mono (qN ha _)
   · cases e
theorem jQ (S:CompScope X scope NY mp) (hc:X.calm=true) (hi:PIv X tg iter fi) (hg:∀ c,PGv (yJ X scope NY c) tg ga) (ht:∀ c,PFv (yJ X scope NY c) ifs tt) (he:∀ c,PV (yJ X scope NY c) elt fe)
  (hs:∀ x,foldedSetIterable iter X.env x=pure x:=by intro _; rfl):PVf X (.ListComp elt [⟨tg,iter,ifs,0⟩] scope pos) (compG fi mp ga tt fe):=by
 obtain ⟨wi,pi,hi⟩:=hi
 refine ⟨_,pe_comp S hc pi (fun c=>(Classical.choose_spec (hg c)).1) (fun c=>(Classical.choose_spec (ht c)).1) (fun c=>(Classical.choose_spec (he c)).1) hs,?_⟩
 exact comp_sem hi (fun c=>(Classical.choose_spec (hg c)).2) (fun c=>(Classical.choose_spec (ht c)).2) (fun c=>(Classical.choose_spec (he c)).2)
end
end
end FL
namespace L2
open PySem PySem.Spec PyProof.Rows
section
variable {X:Cx}
inductive TyV (K:PySem.W.Frag) (H:Hp):V->Value->Prop where
 | of {x:V} {t:Value} (h:TyOf K H x t):TyV K H x t
 | lstK {a:Addr} {o:Obj} (h:K.lookup a=some o) (c:o.cls = .type "list"):TyV K H (.ref a) (.type "list")
 | tupK {a:Addr} {o:Obj} (h:K.lookup a=some o) (c:o.cls = .type "tuple"):TyV K H (.ref a) (.type "tuple")
 | tupF {a:Addr} {o:Obj} {xs:List V} (h:H a=some (.frz o (.tup xs))):TyV K H (.ref a) (.type "tuple")
def clsV:V->Value->Prop
 | .ty n,u=>u = .type n
 | .ref a,u=>u = .ref a
 | _,_=>False
theorem call_isi:CallR X (.builtin "isinstance") (fun xs H Q=>∃ x c cv t b,xs=[x,c]/\clsV c cv/\TyV X.K H x t/\PySem.W.kitOne X.K t cv=some b/\Q (.bl b) H):=by
 intro pins s σ H xs us Q I r h
 obtain ⟨x,c,cv,t,b,rfl,hc,ty,e,q⟩:=h
 obtain ⟨u,u2,rfl,ru,ru2⟩:=vals2 r
 have e2:u2=cv:=by
  cases c with
  | ty n=>cases (show cv = .type n from hc); cases (show u2 = .type n from ru2); rfl
  | ref a=>cases (show cv = .ref a from hc); cases (show u2 = .ref a from ru2); rfl
  | _=>exact (show False from hc).elim
 subst e2
 have fin:∀ tk,EP X pins σ Q (.bool b) { s with toks:=tk }:=fun tk=>⟨.bl b,H,I.tok tk,rfl,q⟩
 cases ty with
 | of h=>exact isinst_ok I ru h e fin
 | @lstK a o h c =>
   cases (show u=Value.ref a from ru)
   exact PySem.W.kia_one PySem.W.kitx_list I.kIn ⟨o,I.kIn _ _ h,c⟩ e (fun z=>nomatch z) fin
 | @tupK a o h c =>
   cases (show u=Value.ref a from ru)
   exact PySem.W.kia_one PySem.W.kitx_tuple I.kIn ⟨o,I.kIn _ _ h,c⟩ e (fun z=>nomatch z) fin
 | @tupF a o xs ea =>
   cases (show u=Value.ref a from ru)
   obtain ⟨e0,_,_,_,p⟩:=(show ObjOk X.prog X.w H s.heap a (.frz o (.tup xs)) from I.hok a _ ea)
   obtain ⟨o',h1,h2,_⟩:=p
   exact PySem.W.kia_one PySem.W.kitx_tuple I.kIn ⟨o',h1,h2⟩ e (fun z=>nomatch z) fin
theorem bools_of:∀ {bs:List Bool} {us:List Value},Vals (bs.map V.bl) us->LSm.BoolsAre us bs
 | [],_,.nil=>.nil
 | b :: r, _, .cons h t => by
   cases (show _=Value.bool b from h)
   exact .cons b (bools_of t)
theorem call_allB (hc:X.calm=true):CallR X (.builtin "all") (fun xs H Q=>∃ (p:Addr) (bs:List Bool),xs=[.ref p]/\SqL X.K H p (bs.map V.bl)/\Q (.bl (bs.all id)) H):=by
 intro pins s σ H xs us Q I r h
 obtain ⟨p,bs,rfl,hq,q⟩:=h
 obtain ⟨u,rfl,ru⟩:=vals1 r
 cases ru
 obtain ⟨its,rv,pl,hz⟩:=I.list hq
 have hlt:p < s.heap.objs.size:=by obtain ⟨_,e,_⟩:=pl.isList; exact Heap.lt_size e
 have hb:=bools_of rv
 refine call_all_walk (wpAny_pyIter_list pl.isList ?_)
 refine ⟨s.heap.objs.size,[s.heap.objs.size,p],[s.heap.objs.size],its.toArray.size,_,_,fun i=>(bs[i]?).getD true,rfl,Walks.list (A:=X.A.in1) (I.ok.hd hc) _ p (Nat.ne_of_lt hlt) its.toArray,
  ⟨⟨_,Heap.get?_push_size _ rfl,rfl,rfl⟩,pl.isList.push _⟩,fun i v s' Q' E' hP hQ=>?_,fun h' tk hk=>?_⟩
 · obtain ⟨b, e, rfl⟩ := hb.get i v (by simpa using hP)
   simp only [e,Option.getD_some] at hQ
   exact wpAny_truthy_bool hQ
 · have e:((List.range its.toArray.size).all fun i=>(bs[i]?).getD true)=bs.all id:=by
    rw [List.size_toArray,hb.length]; exact LSm.range_all bs
   rw [e]
   exact ⟨.bl _,H,I.kept (LSm.kept_iter hk),rfl,q⟩
end
end L2
namespace FL
open PySem PySem.Spec PyProof.Rows L2
section
variable {X:Cx}
def kitO (t T:String):Option Bool:=if ((Value.type t) == (Value.type T))=true then some true else if PySem.W.kitMeta T=true then (fastBuiltinMro t).map (·.contains (.type T)) else none
theorem kit_all:∀ t∈kitN,∀ T∈kitT,kitO t T=some (t == T || (t == "bool" && T == "int")):=by decide +kernel
theorem kit_of {K:Frag} {t T:String} {b:Bool} (h:kitF t T=some b):PySem.W.kitOne K (.type t) (.type T)=some b:=by
 unfold kitF at h
 split at h
 · rename_i hm
   cases h
   exact kit_all t hm.1 T hm.2
 · cases h
theorem ty_of {K:Frag} {H:Hp} {O:Addr->Prop} {v:V} {d:D} {t:String} (r:WRep K H O v d) (e:tyD d=some t):TyV K H v (.type t):=by
 rcases r with r | ⟨a,xs,l,rfl,rfl,ho,h,rs⟩
 · cases r with
   | non=>cases e; exact .of .non
   | bl b=>cases e; exact .of (.bl b)
   | int i=>cases e; exact .of (.int i)
   | str x=>cases e; exact .of (.str x)
   | tup n h r =>
     cases e
     rcases h with h | ⟨o,h⟩
     · exact .of (.tup h)
     · exact .tupF h
   | tupK h r=>cases e; obtain ⟨o,its,m,hk,hc,_⟩:=h; exact .tupK hk hc
   | lst n h r =>
     cases e
     rcases h with h | ⟨o,h⟩
     · exact .of (.lst h)
     · exact .of (.frz h)
   | lstK h r=>cases e; obtain ⟨o,its,m,hk,hc,_⟩:=h; exact .lstK hk hc
   | dct n h e' r=>cases e; exact .of (.dK h)
   | ins c n h e' r=>cases e
   | clo tx h e' nd c r=>cases e
   | fnK h=>cases e
 · cases e; exact .of (.lst h)
theorem pv_isi {p pT pos:Pos} {e:Expr} {f:FE} {x:Str} {T:String} (hm:X.mg "isinstance" = none) (hT:X.mg x=none) (hv:bootBuiltins x=some (.type T)) (he:PVw X e f) (hg:Gl X "isinstance":=by rfl) (hgT:Gl X x:=by rfl)
  (h1:starEach [e,.Name x pT] X.env=(false,eval e X.env)::starEach [.Name x pT] X.env:=by rfl) (h2:starEach [.Name x pT] X.env=(false,eval (.Name x pT) X.env)::starEach [] X.env:=by rfl) (h3:(backTo pos (starEach [.Name x pT] X.env)).any (·.1)=false:=by rfl)
  (hn:x≠"__name__":=by decide) (hd:(x == ("__debug__" : Str))=false:=by decide):PV X (.Call (.Name "isinstance" p) [e,.Name x pT] [] pos) (isiG T f):=by
 obtain ⟨t,ht,hf⟩:=he
 refine ⟨_,xK call_isi hg hm (by decide +kernel) (qS ht (qS (pe_bltn (v:=.ty T) hgT hT hv rfl hn hd) yC h2) h1) (by decide) (by decide) h1 h3,fun H₀ H O σ ds hd d Q o e q=>?_⟩
 unfold isiG at e
 cases hh:f ds with
 | none=>rw [hh] at e; cases e
 | some dx =>
   rw [hh] at e
   simp only [Option.bind_some,isiD] at e
   cases ht:tyD dx with
   | none=>rw [ht] at e; cases e
   | some t =>
     rw [ht] at e
     simp only [Option.bind_some] at e
     cases hk:kitF t T with
     | none=>rw [hk] at e; cases e
     | some b =>
       rw [hk] at e
       cases e
       refine hf H₀ H O σ ds hd dx _ o hh fun v H' s r=>?_
       exact ⟨v,.ty T,.type T,.type t,b,rfl,rfl,ty_of r ht,kit_of hk,q _ H' s (.bl b)⟩
theorem bls_rep {K:Frag} {H:Hp} {O:Addr->Prop} : ∀ {xs:List V} {l:List D} {bs:List Bool},Reps K H O xs l->blsD l=some bs->xs=bs.map V.bl
 | _,_,_,.nil,e=>by cases e; rfl
 | _, _, bs, .cons (d := d) h t, e => by
   cases d with
   | bl b =>
     rename_i ds
     simp only [blsD] at e
     cases hr:blsD ds with
     | none=>rw [hr] at e; cases e
     | some r =>
       rw [hr] at e
       cases e
       cases h
       rw [bls_rep t hr]
       rfl
   | _=>cases e
theorem cs_all:CallS X (fun xs H Q=>∃ (p:Addr) (bs:List Bool),xs=[.ref p]/\SqL X.K H p (bs.map V.bl)/\Q (.bl (bs.all id)) H) allD:=by
 intro H O vs l d Q ho r e q
 match l,r,e with
 | [.lst l], .cons r .nil, e =>
   simp only [allD] at e
   cases hb:blsD l with
   | none=>rw [hb] at e; cases e
   | some bs =>
     rw [hb] at e
     cases e
     obtain ⟨a,xs,rfl,hs,rs⟩:=r.seqL
     refine ⟨a,bs,rfl,?_,q _ H (Same.refl _) (.bl _)⟩
     rw [<- bls_rep rs hb]
     exact hs
theorem pv_all {p pos:Pos} {e:Expr} {g:FA} (hc:X.calm=true) (hm:X.mg "all" = none) (ha:PAv X [e] g) (hg:Gl X "all":=by rfl) (he:starEach [e] X.env=[(false,eval e X.env)]:=by rfl) :
  PV X (.Call (.Name "all" p) [e] [] pos) (callB allD g):=xB (call_allB hc) cs_all hm (by decide +kernel) ha hg (by decide) (by decide) he rfl
theorem pv_neg {a:Expr} {pos:Pos} {f:FE} (ha:PV X a f):PV X (.UnaryOp .USub a pos) (un1 negD f):=by
 obtain ⟨ta,pa,ha⟩:=ha
 refine ⟨_,pe_un un_neg pa,fun H₀ H O σ ds hd d Q o e q=>?_⟩
 unfold un1 at e
 cases h1:f ds with
 | none=>rw [h1] at e; cases e
 | some dx =>
   rw [h1] at e
   cases dx with
   | int i =>
     cases e
     refine ha H₀ H O σ ds hd _ _ o h1 fun x H1 s1 r1=>?_
     cases r1
     exact ⟨i,rfl,q _ H1 s1 (.int _)⟩
   | _=>cases e
variable (X) in
def PVd (e:Expr) (f:FE):Prop:=∃ t,PE X e t/\∀ H₀ H O σ ds hd d Q,Ok X.K H₀ H O σ ds hd->f ds=some d->(∀ v H',Same H H'->Rep X.K H' (Old H) v d->Q v H')->t σ H Q
end
section
variable {X:Cx}
def compOk (sc scope:Scope) (N NY:List Str) (mp:List (Option Nat)):Bool :=
 scope.kind == .function && scope.names.all (fun y=>y.2 != .cell) && scope.names.all (fun y=>y.2 != .local || scope.names.lookup y.1 == some .local)
 && scope.names.all (fun y=>y.2 != .free || (sc.names.lookup y.1 == some .cell || sc.names.lookup y.1 == some .free)) && mp.length == NY.length
 && (List.range NY.length).all (fun i=>match NY[i]?,mp[i]? with | some x,some (some j)=>N[j]? == some x && scope.names.lookup x == some .free | _,_=>true)
theorem qQ {scope:Scope} {NY:List Str} {mp:List (Option Nat)} (h:compOk X.env.scope scope X.N NY mp=true):CompScope X scope NY mp:=by
 unfold compOk at h
 simp only [Bool.and_eq_true,List.all_eq_true,beq_iff_eq] at h
 obtain ⟨⟨⟨⟨⟨h1,h2⟩,h3⟩,h4⟩,h5⟩,h6⟩:=h
 refine ⟨h1,fun y hy=>by simpa using h2 y hy,fun y hy hk=>?_,fun y hy hk=>?_,h5,fun i x j e1 e2=>?_⟩
 · have := h3 y hy
   simpa [hk] using this
 · have := h4 y hy
   simp only [hk,bne_self_eq_false,Bool.false_or,Bool.or_eq_true,beq_iff_eq] at this
   exact this
 · have hi : i ∈ List.range NY.length := List.mem_range.mpr (List.getElem?_eq_some_iff.mp e1).1
   have:=h6 i hi
   rw [e1,e2] at this
   simpa using this
end
theorem zY {g:FS} {n:Nat} {ds:List D} {r:Ret} (e:runG g n ds=some r):Does g n ds r:=by
 unfold runG at e
 cases h:g (args n ds) with
 | none=>rw [h] at e; cases e
 | some o =>
   rw [h] at e
   cases o with
   | rt r'=>cases e; exact .inl h
   | nx ds'=>cases e; exact .inr ⟨rfl,ds',h⟩
   | bk ds'=>cases e
   | ct ds'=>cases e
end FL
namespace L2
open PySem PySem.Spec PyProof.Rows
section
variable {X:Cx}
theorem op_mulB:OpR X (binaryOp .Mult) (rI IntMulOk fun i j=>.int (i * j)):=opI fun _ _ _ _ _ _ _ hc q=>mul_int q hc
theorem op_powB:OpR X (binaryOp .Pow) (rI FL.CPowB fun i j=>.int (i ^ j.toNat)):=opI fun _ _ _ _ _ _ _ hc q=>pow_int hc.1 hc.2 q
def rCatS (K:PySem.W.Frag):R2:=fun x y H Q=>∃ l b xs zs,x = .ref l/\y = .ref b/\SqL K H l xs/\SqL K H b zs/\xs.length+zs.length<=sizeLine/\∀ p,H p=none->Q (.ref p) (upd H p (.lst (xs++zs)))
theorem op_catS:OpR X (binaryOp .Add) (rCatS X.K):=by
 intro pins s σ H x y v u Q I rx ry h
 obtain ⟨l,b,xs,zs,rfl,rfl,hH,hB,hz,q⟩:=h
 cases rx
 cases ry
 obtain ⟨its,r,pl,z⟩:=I.list hH
 obtain ⟨its2,r2,pl2,z2⟩:=I.list hB
 obtain ⟨⟨cls,dd,data,sl⟩,ho,hc,n,hd⟩:=pl.isList
 obtain ⟨⟨cls2,dd2,data2,sl2⟩,ho2,hc2,n2,hd2⟩:=pl2.isList
 simp only at hc hd hc2 hd2
 subst hc hd hc2 hd2
 have hl:=r.length
 have hl2:=r2.length
 refine concat_meets ⟨_,ho,rfl⟩ ⟨_,ho2,rfl⟩ noFill_list_add seq_list_add PySem.F.slot_list_add PySem.F.entry_list_add (PySem.F.args_list_add_2 _ _) (list_addW l b its.toArray its2.toArray n n2 dd dd2 sl sl2 (by simp only [List.size_toArray]; omega)) ⟨ho,ho2,?_⟩
 have ea:its.toArray++its2.toArray=(its++its2).toArray:=by simp
 rw [ea]
 exact ⟨.ref _,_,I.lnew (t':=s.toks) (r.append r2) (by rw [List.length_append]; omega),rfl,q _ I.fresh⟩
end
end L2
namespace FL
open PySem PySem.Spec PyProof.Rows L2
section
variable {X:Cx}
variable (X) in
def PVn (e:Expr) (f:FE):Prop:=∃ t,PE X e t/\∀ H₀ H O σ ds hd d Q,Ok X.K H₀ H O σ ds hd->f ds=some d->(∀ v H',Same H H'->Rep X.K H' yT v d->Q v H')->t σ H Q
variable (X) in
def PAn (es:List Expr) (f:FA):Prop:=∃ t,PA X es t/\∀ H₀ H O σ ds hd l Q,Ok X.K H₀ H O σ ds hd->f ds=some l->(∀ vs H',Same H H'->Reps X.K H' yT vs l->Q vs H')->t σ H Q
theorem PVw.n {e:Expr} {f:FE} (h:PVw X e f):PVn X e f:=by
 obtain ⟨t,ht,hf⟩:=h
 exact ⟨t,ht,fun H₀ H O σ ds hd d Q o e q=>hf H₀ H O σ ds hd d Q o e fun v H' s r=>q v H' s r.any⟩
theorem PV.n {e:Expr} {f:FE} (h:PV X e f):PVn X e f:=h.w.n
theorem zR:PAn X [] zZ:=⟨_,yC,fun _ H _ _ _ _ _ _ _ e q=>by cases e; exact q _ H (Same.refl _) .nil⟩
theorem zK {e:Expr} {es:List Expr} {f:FE} {g:FA} (ha:PVn X e f) (hr:PAn X es g) (hs:starEach (e::es) X.env=(false,eval e X.env)::starEach es X.env:=by rfl):PAn X (e::es) (zG f g):=by
 obtain ⟨t,ht,hf⟩:=ha
 obtain ⟨u,hu,hg⟩:=hr
 refine ⟨_,qS ht hu hs,fun H₀ H O σ ds hd l Q o e q=>?_⟩
 unfold zG at e
 cases h:f ds with
 | none=>rw [h] at e; cases e
 | some x =>
   cases h2:g ds with
   | none=>rw [h,h2] at e; cases e
   | some r =>
     rw [h,h2] at e
     cases e
     refine hf H₀ H O σ ds hd x _ o h fun v H1 s1 r1=>?_
     refine hg H₀ H1 O σ ds hd r _ (o.mono s1) h2 fun vs H2 s2 r2=>?_
     exact q _ H2 (s1.trans s2) (.cons (r1.mono s2) r2)
section
variable {k:Nat} {f:Addr} {fd:FuncData} {ps:List Str} {n:Nat} {F:List D->Option Ret} {x:Str} {p pos:Pos} {e:Expr} {es:List Expr} {g:FA}
theorem pv_callN (Fn:FnOk X.prog X.w X.K X.mg X.base CX0 k f fd ps (spF X.K n F)) (hr:Room k X.A) (hm:X.mg x=some (.ref f)) (hk:PySem.W.keepIn X.K (.ref f)=true) (hb:Binds X.K fd ps []) (ha:PAn X (e::es) g)
  (hg:Gl X x:=by rfl) (hdb:(x == ("__debug__" : Str))=false:=by decide) (he:starEach (e::es) X.env=(false,eval e X.env)::starEach es X.env:=by rfl) (hpl:(backTo pos (starEach es X.env)).any (·.1)=false:=by rfl) :
  PV X (.Call (.Name x p) (e::es) [] pos) (jG n F g):=by
 obtain ⟨t,ht,hf⟩:=ha
 refine ⟨_,pe_call (CX:=CX0) (E:=E0) Fn hr hg hm hk hb .nil pass0 ht hdb he hpl,fun H₀ H O σ ds hd d Q o e q=>?_⟩
 unfold jG at e
 cases h:g ds with
 | none=>rw [h] at e; cases e
 | some l =>
   rw [h] at e
   simp only [Option.bind_some] at e
   split at e
   · rename_i hln
     cases h2:F l with
     | none=>rw [h2] at e; cases e
     | some r =>
       rw [h2] at e
       simp only [Option.bind_some] at e
       refine hf H₀ H O σ ds hd l _ o h fun vs H1 s1 r1=>?_
       have hl:=r1.length
       refine ⟨by simp only [List.append_nil]; omega,l,r,by simpa using r1,h2,fun v H' s' ro=>q v H' (s1.trans s') ?_⟩
       exact retV_ok ro e fun a ha=>(o.mono s1).old ha
   · cases e
theorem pvf_callN (Fn:FnOk X.prog X.w X.K X.mg X.base CX0 k f fd ps (spF X.K n F)) (hr:Room k X.A) (hm:X.mg x=some (.ref f)) (hk:PySem.W.keepIn X.K (.ref f)=true) (hb:Binds X.K fd ps []) (ha:PAn X (e::es) g)
  (hg:Gl X x:=by rfl) (hdb:(x == ("__debug__" : Str))=false:=by decide) (he:starEach (e::es) X.env=(false,eval e X.env)::starEach es X.env:=by rfl) (hpl:(backTo pos (starEach es X.env)).any (·.1)=false:=by rfl) :
  PVf X (.Call (.Name x p) (e::es) [] pos) (vE n F g):=by
 obtain ⟨t,ht,hf⟩:=ha
 refine ⟨_,pe_call (CX:=CX0) (E:=E0) Fn hr hg hm hk hb .nil pass0 ht hdb he hpl,fun H₀ H O σ ds hd d Q o e q=>?_⟩
 unfold vE at e
 cases h:g ds with
 | none=>rw [h] at e; cases e
 | some l =>
   rw [h] at e
   simp only [Option.bind_some] at e
   split at e
   · rename_i hln
     cases h2:F l with
     | none=>rw [h2] at e; cases e
     | some r =>
       rw [h2] at e
       simp only [Option.bind_some] at e
       refine hf H₀ H O σ ds hd l _ o h fun vs H1 s1 r1=>?_
       have hl:=r1.length
       refine ⟨by simp only [List.append_nil]; omega,l,r,by simpa using r1,h2,fun v H' s' ro=>?_⟩
       obtain ⟨a,xs,rfl,h3,h4,h5⟩:=retF_ok ro e fun a ha=>(o.mono s1).old ha
       exact q a xs H' (s1.trans s') (s1.free h3) h4 h5
   · cases e
end
def OpN (X:Cx) (r:R2) (op:D->D->Option D):Prop:=∀ H O x y dx dy d Q,Rep X.K H yT x dx->Rep X.K H yT y dy->op dx dy=some d->(∀ v H',Same H H'->Rep X.K H' O v d->Q v H')->r x y H Q
theorem pvn_tOp {r:R2} {op:D->D->Option D} (hs:OpN X r op) {fa fb:FE} {ta tb:TE} (ha:∀ H₀ H O σ ds hd d Q,Ok X.K H₀ H O σ ds hd->fa ds=some d->(∀ v H',Same H H'->Rep X.K H' yT v d->Q v H')->ta σ H Q)
  (hb:∀ H₀ H O σ ds hd d Q,Ok X.K H₀ H O σ ds hd->fb ds=some d->(∀ v H',Same H H'->Rep X.K H' yT v d->Q v H')->tb σ H Q) :
  ∀ H₀ H O σ ds hd d Q,Ok X.K H₀ H O σ ds hd->zJ op fa fb ds=some d->(∀ v H',Same H H'->Rep X.K H' O v d->Q v H')->tOp r ta tb σ H Q:=by
 intro H₀ H O σ ds hd d Q o e q
 unfold zJ at e
 cases h1:fa ds with
 | none=>rw [h1] at e; cases e
 | some dx =>
   cases h2:fb ds with
   | none=>rw [h1,h2] at e; cases e
   | some dy =>
     rw [h1,h2] at e
     refine ha H₀ H O σ ds hd dx _ o h1 fun x H1 s1 r1=>?_
     refine hb H₀ H1 O σ ds hd dy _ (o.mono s1) h2 fun y H2 s2 r2=>?_
     exact hs H2 O x y dx dy d Q (r1.mono s2) r2 e fun v H' s r=>q v H' ((s1.trans s2).trans s) r
theorem kH {op:CmpOp} {r:R2} {opD:D->D->Option D} {a b:Expr} {fa fb:FE} {pos:Pos} (ho:OpR X (compareOp op) r) (hs:OpN X r opD) (ha:PVn X a fa) (hb:PVn X b fb) (hm:behindInMarks op b=false):PV X (.Compare a [op] [b] pos) (zJ opD fa fb):=by
 obtain ⟨ta,pa,ha⟩:=ha
 obtain ⟨tb,pb,hb⟩:=hb
 exact ⟨_,pe_cmpR ho pa pb hm,pvn_tOp hs ha hb⟩
theorem vX {op:CmpOp} {r:R2} {opD:D->D->Option D} {a b:Expr} {fa fb:FE} {pos:Pos} (ho:OpR X (compareOp op) r) (hs:OpN X r opD) (ha:PVn X a fa) (hb:PVn X b fb) (hm:behindInMarks op b=false):PTv X (.Compare a [op] [b] pos) (zT (zJ opD fa fb)):=by
 obtain ⟨ta,pa,ha⟩:=ha
 obtain ⟨tb,pb,hb⟩:=hb
 refine ⟨_,pt_cmpR ho pa pb hm,fun H₀ H O σ ds hd k Q o e q=>?_⟩
 unfold zT at e
 cases h:zJ opD fa fb ds with
 | none=>rw [h] at e; cases e
 | some d =>
   rw [h] at e
   refine pvn_tOp hs ha hb H₀ H O σ ds hd d _ o h fun v H' s r=>?_
   cases d with
   | bl c=>cases e; cases r; exact ⟨_,rfl,q H' s⟩
   | _=>cases e
mutual
theorem Rep.reads {pins:List (Addr×Obj)} {σ : L2.St} {H:Hp} {s:Shared} {O:Addr->Prop} (I:Inv X pins σ H s):∀ {v:V} {d:D} {u:Value} {n:Nat},Rep X.K H O v d->RelV v u->shal n d=true->∃ as,Reads s.heap u (toPy d) as/\(toPy d).canLay0=true/\(toPy d).depth<=n+1
 | _,_,_,_,.non,r,_=>by cases r; exact ⟨[],.none,rfl,Nat.zero_le _⟩
 | _,_,_,_,.bl b,r,_=>by cases r; exact ⟨[],.bool b,rfl,Nat.zero_le _⟩
 | _,_,_,_,.int i,r,_=>by obtain ⟨t,rfl⟩:=r; exact ⟨[],.int i t,rfl,Nat.zero_le _⟩
 | _,_,_,_,.str x,r,h=>by obtain ⟨t,rfl⟩:=r; exact ⟨[],.str x t,by simpa [toPy,PyData.canLay0,shal] using h,Nat.zero_le _⟩
 | _, _, _, n, .tup m h q, r, hs => by
   cases r
   obtain ⟨its,rv,⟨o,ho,hc,k,hd⟩,hz⟩:=I.tuple (.inl h)
   obtain ⟨as,h1,h2,h3⟩:=Reps.reads I q rv (by simpa [shal] using hs)
   exact ⟨as,.tuple ho hc hd (by simpa using h1),by simpa [toPy,PyData.canLay0] using h2,by simpa [toPy,PyData.depth] using h3⟩
 | _, _, _, n, .tupK h q, r, hs => by
   cases r
   obtain ⟨its,rv,⟨o,ho,hc,k,hd⟩,hz⟩:=I.tuple (.inr h)
   obtain ⟨as,h1,h2,h3⟩:=Reps.reads I q rv (by simpa [shal] using hs)
   exact ⟨as,.tuple ho hc hd (by simpa using h1),by simpa [toPy,PyData.canLay0] using h2,by simpa [toPy,PyData.depth] using h3⟩
 | _, _, _, n, .lst m h q, r, hs => by
   cases r
   obtain ⟨its,rv,pl,hz⟩:=I.list (.inl h)
   obtain ⟨o,ho,hc,k,hd⟩:=pl.isList
   obtain ⟨as,h1,h2,h3⟩:=Reps.reads I q rv (by simpa [shal] using hs)
   exact ⟨_,.list ho hc hd (by simpa using h1),by simpa [toPy,PyData.canLay0] using h2,by simpa [toPy,PyData.depth] using h3⟩
 | _, _, _, n, .lstK h q, r, hs => by
   cases r
   obtain ⟨its,rv,pl,hz⟩:=I.list (.inr h)
   obtain ⟨o,ho,hc,k,hd⟩:=pl.isList
   obtain ⟨as,h1,h2,h3⟩:=Reps.reads I q rv (by simpa [shal] using hs)
   exact ⟨_,.list ho hc hd (by simpa using h1),by simpa [toPy,PyData.canLay0] using h2,by simpa [toPy,PyData.depth] using h3⟩
 | _,_,_,_,.dct _ _ _ _,_,hs=>by simp [shal] at hs
 | _,_,_,_,.ins _ _ _ _ _,_,hs=>by simp [shal] at hs
 | _,_,_,_,.clo _ _ _ _ _ _,_,hs=>by simp [shal] at hs
 | _,_,_,_,.fnK _,_,hs=>by simp [shal] at hs
theorem Reps.reads {pins:List (Addr×Obj)} {σ : L2.St} {H:Hp} {s:Shared} {O:Addr->Prop} (I:Inv X pins σ H s):∀ {vs:List V} {ds:List D} {us:List Value} {n:Nat},Reps X.K H O vs ds->Vals vs us->shals n ds=true->∃ as,ReadsAll s.heap us (toPys ds) as/\PyData.canLayAll0 (toPys ds)=true/\PyData.depthAll (toPys ds)<=n
 | _,_,_,_,.nil,r,_=>by cases r; exact ⟨[],.nil,rfl,Nat.zero_le _⟩
 | _,_,_,0,.cons h t,_,hs=>by simp [shals] at hs
 | _, _, _, n + 1, .cons h t, r, hs => by
   cases r with
   | cons r1 r2 =>
     simp only [shals,Bool.and_eq_true] at hs
     obtain ⟨as,h1,h2,h3⟩:=Rep.reads I h r1 hs.1
     obtain ⟨bs,k1,k2,k3⟩:=Reps.reads I t r2 hs.2
     exact ⟨_,.cons h1 k1,by simp [toPys,PyData.canLayAll0,h2,k2],by simp only [toPys,PyData.depthAll]; omega⟩
end
def rEqD (X:Cx) (neg:Bool):R2:=fun x y H Q=>∃ dx dy,Rep X.K H yT x dx/\Rep X.K H yT y dy/\shal 40 dx=true/\shal 40 dy=true/\Q (.bl (if neg then !eqvD dx dy else eqvD dx dy)) H
theorem op_eqD (hu:X.A.units+100 < cLine):OpR X (compareOp .Eq) (rEqD X false):=by
 intro pins s σ H x y v u Q I rx ry h
 obtain ⟨dx,dy,r1,r2,s1,s2,q⟩:=h
 obtain ⟨as,a1,a2,a3⟩:=r1.reads I rx s1
 obtain ⟨bs,b1,b2,b3⟩:=r2.reads I ry s2
 exact SeqAt.compareEq_reads a1 b1 a2 b2 (by omega) ⟨.bl _,H,I,rfl,q⟩
theorem op_neD (hu:X.A.units+100 < cLine):OpR X (compareOp .NotEq) (rEqD X true):=by
 intro pins s σ H x y v u Q I rx ry h
 obtain ⟨dx,dy,r1,r2,s1,s2,q⟩:=h
 obtain ⟨as,a1,a2,a3⟩:=r1.reads I rx s1
 obtain ⟨bs,b1,b2,b3⟩:=r2.reads I ry s2
 exact SeqAt.compareNe_reads a1 b1 a2 b2 (by omega) ⟨.bl _,H,I,rfl,q⟩
theorem on_eqD:OpN X (rEqD X false) eqD:=by
 intro H O x y dx dy d Q rx ry e q
 unfold eqD at e
 split at e
 · rename_i hs
   cases e
   exact ⟨dx,dy,rx,ry,hs.1,hs.2,q _ H (Same.refl _) (.bl _)⟩
 · cases e
theorem on_neD:OpN X (rEqD X true) neD:=by
 intro H O x y dx dy d Q rx ry e q
 unfold neD at e
 split at e
 · rename_i hs
   cases e
   exact ⟨dx,dy,rx,ry,hs.1,hs.2,q _ H (Same.refl _) (.bl _)⟩
 · cases e
theorem hu100 {k:Nat} {A:Around} (hr:Room k A):A.units+100 < cLine:=by have:=hr.un; omega
theorem pv_eq {a b:Expr} {fa fb:FE} {pos:Pos} {k:Nat} (hr:Room k X.A) (ha:PVn X a fa) (hb:PVn X b fb):PV X (.Compare a [.Eq] [b] pos) (zJ eqD fa fb):=kH (op_eqD (hu100 hr)) on_eqD ha hb (nomark _)
theorem yW {a b:Expr} {fa fb:FE} {pos:Pos} {k:Nat} (hr:Room k X.A) (ha:PVn X a fa) (hb:PVn X b fb):PTv X (.Compare a [.Eq] [b] pos) (zT (zJ eqD fa fb)):=vX (op_eqD (hu100 hr)) on_eqD ha hb (nomark _)
theorem pt_ne {a b:Expr} {fa fb:FE} {pos:Pos} {k:Nat} (hr:Room k X.A) (ha:PVn X a fa) (hb:PVn X b fb):PTv X (.Compare a [.NotEq] [b] pos) (zT (zJ neD fa fb)):=vX (op_neD (hu100 hr)) on_neD ha hb (nomark _)
theorem non_iff {K:Frag} {H:Hp} {O:Addr->Prop} {v:V} {d:D} (r:Rep K H O v d):decide (v = .non)=(match d with | .non=>true | _=>false):=by
 cases r <;> rfl
theorem on_is:OpN X (fun x y H Q=>y = .non/\Q (.bl (decide (x = .non))) H) isD:=by
 intro H O x y dx dy d Q rx ry e q
 cases dy <;> first | (cases dx <;> simp [isD] at e; done) | skip
 cases ry
 refine ⟨rfl,?_⟩
 rw [non_iff rx]
 cases dx <;> (simp only [isD,Option.some.injEq] at e; subst e; exact q _ H (Same.refl _) (.bl _))
theorem on_not:OpN X (fun x y H Q=>y = .non/\Q (.bl (!decide (x = .non))) H) notD:=by
 intro H O x y dx dy d Q rx ry e q
 cases dy <;> first | (cases dx <;> simp [notD] at e; done) | skip
 cases ry
 refine ⟨rfl,?_⟩
 rw [non_iff rx]
 cases dx <;> (simp only [notD,Option.some.injEq] at e; subst e; exact q _ H (Same.refl _) (.bl _))
theorem pv_isnot {a b:Expr} {fa fb:FE} {pos:Pos} (ha:PVn X a fa) (hb:PVn X b fb):PV X (.Compare a [.IsNot] [b] pos) (zJ notD fa fb):=kH op_notN on_not ha hb (nomark _)
theorem pt_is {a b:Expr} {fa fb:FE} {pos:Pos} (ha:PVn X a fa) (hb:PVn X b fb):PTv X (.Compare a [.Is] [b] pos) (zT (zJ isD fa fb)):=vX op_isN on_is ha hb (nomark _)
theorem vM {a b:Expr} {fa fb:FE} {pos:Pos} (ha:PVn X a fa) (hb:PVn X b fb):PTv X (.Compare a [.IsNot] [b] pos) (zT (zJ notD fa fb)):=vX op_notN on_not ha hb (nomark _)
theorem os_mul:OpS X (rI IntMulOk fun i j=>.int (i * j)) yV:=by
 intro H O x y dx dy d Q ho rx ry e q
 cases dx <;> cases dy <;> first | (simp [yV] at e; done) | skip
 simp only [yV] at e
 split at e
 · rename_i hc
   cases e
   rw [rx.int',ry.int']
   exact ⟨_,_,rfl,rfl,hc,q _ H (Same.refl _) (.int _)⟩
 · cases e
theorem os_pow:OpS X (rI CPowB fun i j=>.int (i ^ j.toNat)) powD:=by
 intro H O x y dx dy d Q ho rx ry e q
 cases dx <;> cases dy <;> first | (simp [powD] at e; done) | skip
 simp only [powD] at e
 split at e
 · rename_i hc
   cases e
   rw [rx.int',ry.int']
   exact ⟨_,_,rfl,rfl,hc,q _ H (Same.refl _) (.int _)⟩
 · cases e
theorem yZ {a b:Expr} {fa fb:FE} {pos:Pos} (ha:PVw X a fa) (hb:PVw X b fb):PVf X (.BinOp a .Add b pos) (catA fa fb):=by
 obtain ⟨ta,pa,ha⟩:=ha
 obtain ⟨tb,pb,hb⟩:=hb
 refine ⟨_,pe_op op_catS pa pb,fun H₀ H O σ ds hd l Q o e q=>?_⟩
 unfold catA at e
 cases h1:fa ds with
 | none=>rw [h1] at e; cases e
 | some dx =>
   cases h2:fb ds with
   | none=>rw [h1,h2] at e; cases e
   | some dy =>
     rw [h1,h2] at e
     simp only [Option.bind_some] at e
     cases dx <;> cases dy <;> first | (simp at e; done) | skip
     simp only at e
     split at e
     · rename_i hz
       cases e
       refine ha H₀ H O σ ds hd _ _ o h1 fun x H1 s1 r1=>?_
       refine hb H₀ H1 O σ ds hd _ _ (o.mono s1) h2 fun y H2 s2 r2=>?_
       obtain ⟨a1,xs,rfl,hq1,rs1⟩:=(r1.mono s2).seqL
       obtain ⟨a2,ys,rfl,hq2,rs2⟩:=r2.seqL
       refine ⟨a1,a2,xs,ys,rfl,rfl,hq1,hq2,by rw [rs1.length,rs2.length]; exact hz,fun p hp=>?_⟩
       refine q p _ _ ((s1.trans s2).trans (qN hp _)) ((s1.trans s2).free hp) qG ?_
       exact ((rs1.append rs2).more hp).mono (qN hp _)
     · cases e
variable (X) in
def POv (e:Option Expr) (f:List Sl->Option (Option Int)):Prop:=∃ t,PO X e t/\∀ H₀ H O σ ds hd i Q,Ok X.K H₀ H O σ ds hd->f ds=some i->(∀ H',Same H H'->Q i H')->t σ H Q
theorem pov_no:POv X none noP:=⟨_,po_none,fun _ H _ _ _ _ _ _ _ e q=>by cases e; exact q H (Same.refl _)⟩
theorem pov_so {e:Expr} {f:FE} (h:PVw X e f):POv X (some e) (soP f):=by
 obtain ⟨t,ht,hf⟩:=h
 refine ⟨_,po_some ht,fun H₀ H O σ ds hd i Q o e q=>?_⟩
 unfold soP at e
 cases h1:f ds with
 | none=>rw [h1] at e; cases e
 | some d =>
   rw [h1] at e
   simp only [Option.bind_some] at e
   cases d <;> first | (cases e; done) | skip
   cases e
   refine hf H₀ H O σ ds hd _ _ o h1 fun v H' s r=>?_
   rw [r.int']
   exact ⟨_,rfl,q H' s⟩
theorem cut_reps {K:Frag} {H:Hp} {O:Addr->Prop} {xs:List V} {l:List D} {a b:Option Int} (rs:Reps K H O xs l):Reps K H O (cutV xs a b) (cutD l a b):=by
 unfold cutV cutD
 rw [rs.length]
 exact (rs.drop _).take _
theorem pvf_slice {e:Expr} {lo hi:Option Expr} {f:FE} {gl gh:List Sl->Option (Option Int)} {p2 pos:Pos} (he:PVw X e f) (hl:POv X lo gl) (hh:POv X hi gh):PVf X (.Subscript e (.Slice lo hi none p2) pos) (sliA f gl gh):=by
 obtain ⟨te,pe,he⟩:=he
 obtain ⟨tl,pl,hl⟩:=hl
 obtain ⟨th,ph,hh⟩:=hh
 refine ⟨_,pe_slice sl_list pe pl ph,fun H₀ H O σ ds hd l Q o e q=>?_⟩
 unfold sliA at e
 cases h1:f ds with
 | none=>rw [h1] at e; cases e
 | some d =>
   cases h2:gl ds with
   | none=>rw [h1,h2] at e; cases e
   | some a =>
     cases h3:gh ds with
     | none=>rw [h1,h2,h3] at e; cases e
     | some b =>
       rw [h1,h2,h3] at e
       simp only [Option.bind_some] at e
       cases d <;> first | (cases e; done) | skip
       cases e
       refine he H₀ H O σ ds hd _ _ o h1 fun v H1 s1 r1=>?_
       refine hl H₀ H1 O σ ds hd _ _ (o.mono s1) h2 fun H2 s2=>?_
       refine hh H₀ H2 O σ ds hd _ _ ((o.mono s1).mono s2) h3 fun H3 s3=>?_
       obtain ⟨a1,xs,rfl,hq,rs⟩:=((r1.mono s2).mono s3).seqL
       refine ⟨a1,xs,rfl,hq,fun p hp=>?_⟩
       have ss:=(s1.trans s2).trans s3
       refine q p _ _ (ss.trans (qN hp _)) (ss.free hp) qG ?_
       exact ((cut_reps rs).more hp).mono (qN hp _)
theorem pvf_list {e:Expr} {f:FE} {p pos:Pos} (hm:X.mg "list" = none) (he:PVw X e f) (hg:Gl X "list":=by rfl) (hs:starEach [e] X.env=[(false,eval e X.env)]:=by rfl):PVf X (.Call (.Name "list" p) [e] [] pos) (lisA f):=by
 obtain ⟨te,pe,he⟩:=he
 refine ⟨_,pe_callTy call_list_of hg hm (by decide +kernel) (qS pe yC hs) (by decide) (by decide) hs rfl,fun H₀ H O σ ds hd l Q o e q=>?_⟩
 unfold lisA at e
 cases h1:f ds with
 | none=>rw [h1] at e; cases e
 | some d =>
   rw [h1] at e
   simp only [Option.bind_some] at e
   refine he H₀ H O σ ds hd _ _ o h1 fun v H1 s1 r1=>?_
   cases d <;> first | (cases e; done) | skip
   · cases e
     obtain ⟨a1,xs,rfl,hq,rs⟩:=r1.seqT
     refine ⟨a1,xs,rfl,.inr hq,fun p hp=>?_⟩
     exact q p _ _ (s1.trans (qN hp _)) (s1.free hp) qG ((rs.more hp).mono (qN hp _))
   · cases e
     obtain ⟨a1,xs,rfl,hq,rs⟩:=r1.seqL
     refine ⟨a1,xs,rfl,.inl hq,fun p hp=>?_⟩
     exact q p _ _ (s1.trans (qN hp _)) (s1.free hp) qG ((rs.more hp).mono (qN hp _))
theorem cs_max:CallS X (fun xs H Q=>∃ i j,xs=[.int i,.int j]/\Q (.int (if j > i then j else i)) H) mxD:=by
 intro H O vs l d Q ho r e q
 match l,r,e with
 | [.int i, .int j], .cons r1 (.cons r2 .nil), e =>
   cases e
   exact ⟨i,j,by rw [r1.int',r2.int'],q _ H (Same.refl _) (.int _)⟩
theorem cs_min:CallS X (fun xs H Q=>∃ i j,xs=[.int i,.int j]/\Q (.int (if j < i then j else i)) H) mnD:=by
 intro H O vs l d Q ho r e q
 match l,r,e with
 | [.int i, .int j], .cons r1 (.cons r2 .nil), e =>
   cases e
   exact ⟨i,j,by rw [r1.int',r2.int'],q _ H (Same.refl _) (.int _)⟩
theorem pv_max2 {p pos:Pos} {a b:Expr} {g:FA} (hc:X.calm=true) (hm:X.mg "max" = none) (ha:PAv X [a,b] g) (hg:Gl X "max":=by rfl) (he:starEach [a,b] X.env=(false,eval a X.env)::starEach [b] X.env:=by rfl) (hpl:(backTo pos (starEach [b] X.env)).any (·.1)=false:=by rfl) :
  PV X (.Call (.Name "max" p) [a,b] [] pos) (callB mxD g):=xB (call_max2 hc) cs_max hm (by decide +kernel) ha hg (by decide) (by decide) he hpl
theorem pv_min2 {p pos:Pos} {a b:Expr} {g:FA} (hc:X.calm=true) (hm:X.mg "min" = none) (ha:PAv X [a,b] g) (hg:Gl X "min":=by rfl) (he:starEach [a,b] X.env=(false,eval a X.env)::starEach [b] X.env:=by rfl) (hpl:(backTo pos (starEach [b] X.env)).any (·.1)=false:=by rfl) :
  PV X (.Call (.Name "min" p) [a,b] [] pos) (callB mnD g):=xB (call_min2 hc) cs_min hm (by decide +kernel) ha hg (by decide) (by decide) he hpl
theorem isEmpty_len {α β : Type} {xs:List α} {ys:List β} (h:xs.length=ys.length):xs.isEmpty=ys.isEmpty:=by
 cases xs <;> cases ys <;> simp_all
theorem PVn.t {e:Expr} {f:FE} (h:PVn X e f) (he:∀ whole,isTrue e X.env whole=(do let v <- whole; standAt e.pos; holding [v] (truthy v)):=by intro _; rfl):PTv X e (testT f):=by
 obtain ⟨t,ht,hf⟩:=h
 refine ⟨_,pt_truth ht he,fun H₀ H O σ ds hd k Q o e q=>?_⟩
 unfold testT at e
 cases h:f ds with
 | none=>rw [h] at e; cases e
 | some d =>
   rw [h] at e
   simp only [Option.bind_some] at e
   refine hf H₀ H O σ ds hd d _ o h fun v H' s r=>⟨k,?_,q H' s⟩
   cases d with
   | non=>cases e; cases r; exact rfl
   | bl b=>cases e; cases r; exact rfl
   | int i=>cases e; cases r; exact rfl
   | str x =>
     simp only [truD] at e
     split at e
     · rename_i hz; cases e; cases r; exact ⟨hz,rfl⟩
     · cases e
   | tup l =>
     cases e
     obtain ⟨a,xs,rfl,hq,rs⟩:=WRep.seqT (.inl r)
     exact .inr (.inl ⟨xs,hq,by rw [isEmpty_len rs.length]⟩)
   | lst l =>
     cases e
     obtain ⟨a,xs,rfl,hq,rs⟩:=WRep.seqL (.inl r)
     exact .inl ⟨xs,hq,by rw [isEmpty_len rs.length]⟩
   | _=>cases e
theorem psv_never {st:Stmt} : PSv X st (fun _=>none):=⟨_,ps_never,fun _ _ _ _ _ _ _ _ _ e _=>by cases e⟩
theorem psv_rel (i:Nat) {st:Stmt} {g:FS} (h:PSv X st g):PSv X st (fun ds=>g (relS i ds)):=by
 obtain ⟨t,ht,hf⟩:=h
 refine ⟨t,ht,fun H₀ H O σ ds hd out E o e q=>?_⟩
 have e:g (relS i ds)=some out:=e
 by_cases hs:∃ l,ds[i]? = some (.own l)
 · obtain ⟨l, hl⟩ := hs
   have e':relS i ds=ds.set i (.v (.lst l)):=by unfold relS; rw [hl]
   rw [e'] at e
   obtain ⟨O',o'⟩:=o.release hl
   exact hf H₀ H O' σ _ hd out E o' e q
 · have e':relS i ds=ds:=by
    unfold relS
    split
    · rename_i l hl; exact (hs ⟨l,hl⟩).elim
    · rfl
   rw [e'] at e
   exact hf H₀ H O σ ds hd out E o e q
theorem psv_while (n:Nat) {c:Expr} {body:List Stmt} {pos:Pos} {fc:FT} {g:FS} (hp:PassesOwn (model X.prog X.w) X.A X.env X.xe) (hc:PTv X c fc) (hb:PSsv X body g):PSv X (.While c body [] pos) (whileN fc g n):=by
 obtain ⟨tc,pc,hc⟩:=hc
 obtain ⟨tb,pb,hb⟩:=hb
 refine ⟨_,ps_while hp pc pb,fun H₀ H O σ ds hd out E o e h=>?_⟩
 refine ⟨fun m σ' H'=>∃ O' ds',Ok X.K H₀ H' O' σ' ds' hd/\whileN fc g m ds'=some out,⟨n,O,ds,o,e⟩,?_⟩
 rintro m σ1 H1 ⟨O1,ds1,o1,e1⟩
 cases m with
 | zero=>cases e1
 | succ m =>
   simp only [whileN] at e1
   cases h1:fc ds1 with
   | none=>rw [h1] at e1; cases e1
   | some k =>
     rw [h1] at e1
     simp only [Option.bind_some] at e1
     refine hc H₀ H1 O1 σ1 ds1 hd k _ o1 h1 fun H2 s2=>?_
     cases k with
     | false =>
       simp only [Bool.false_eq_true,if_false,Option.some.injEq] at e1
       subst e1
       exact iteF (h σ1 H2 O1 (o1.mono s2))
     | true =>
       simp only [if_true] at e1
       refine iteT ⟨fun σ' H'=>∃ O' ds',Ok X.K H₀ H' O' σ' ds' hd/\whileN fc g m ds'=some out,fun σ' H' q=>⟨m,Nat.lt_succ_self _,q⟩,?_⟩
       cases h2:g ds1 with
       | none=>rw [h2] at e1; cases e1
       | some o3 =>
         rw [h2] at e1
         simp only [Option.bind_some] at e1
         refine hb H₀ H2 O1 σ1 ds1 hd o3 _ (o1.mono s2) h2 ?_
         cases o3 with
         | nx ds3=>exact fun σ3 H3 O3 ok3=>⟨O3,ds3,ok3,e1⟩
         | ct ds3=>exact fun σ3 H3 O3 ok3=>⟨O3,ds3,ok3,e1⟩
         | bk ds3=>cases e1; exact fun σ3 H3 O3 ok3=>h σ3 H3 O3 ok3
         | rt rr=>cases e1; exact h
theorem psv_asg {tg e:Expr} {pos:Pos} {f:FE} {ga:D->List Sl->Option (List Sl)} (he:PV X e f) (hg:PGv X tg ga) (hs:swapsWithSole [tg] e pos.line X.env=pure false:=by rfl) (hw:swappedStores [tg] e X.env=pure none:=by rfl)
  (h1:(assignEach [tg] X.env).map (·.2)=[assign tg X.env]:=by rfl):PSv X (.Assign [tg] e pos) (asgG ga f):=by
 obtain ⟨te,pe,he⟩:=he
 obtain ⟨tg',pg,hg⟩:=hg
 refine ⟨_,ps_asg pe pg hs hw h1,fun H₀ H O σ ds hd out E o e h=>?_⟩
 unfold asgG at e
 cases h2:f ds with
 | none=>rw [h2] at e; cases e
 | some d =>
   rw [h2] at e
   simp only [Option.bind_some] at e
   cases h3:ga d ds with
   | none=>rw [h3] at e; cases e
   | some ds' =>
     rw [h3] at e
     cases e
     refine he H₀ H O σ ds hd d _ o h2 fun v H1 s1 r1=>?_
     exact hg H₀ H1 O σ ds hd v d ds' _ (o.mono s1) r1 h3 fun σ' o'=>h σ' H1 O o'
theorem wM {i:Nat} {x:Str} {e:Expr} {pos p1 p2 p3:Pos} {fe:FA} (he:PVf X e fe) (hN:X.N[i]? = some x:=by rfl) (hv:Vis X.env.scope x:=by first | exact Or.inl rfl | exact Or.inr (Or.inl rfl) | exact Or.inr (Or.inr rfl)) (hd:(x == ("__debug__" : Str))=false:=by decide)
  (hcd:(x == ("__classdict__" : Str))=false:=by decide)
  (hfew:((backTo p3 (starEach [e] X.env)).all (fun x=>!x.1) && (backToKw p3 (keywordEach [] X.env)).all (fun x=>x.1.isSome)
    && decide ([e].length+([]:List Keyword).length+(if ([]:List Keyword).isEmpty then 0 else 1) < 30))=true:=by rfl)
  (hline:(p2.endLine == p3.line)=true:=by rfl) (hs:starEach [e] X.env=(false,eval e X.env)::starEach [] X.env:=by rfl)
  (hbase:attributeBase (.Name x p1) "extend" X.env (eval (.Name x p1) X.env)=eval (.Name x p1) X.env:=by rfl) (hsw:swapsWith (.Call (.Attribute (.Name x p1) "extend" p2) [e] [] p3) none pos.line X.env=pure false:=by rfl) :
  PSv X (.Expr (.Call (.Attribute (.Name x p1) "extend" p2) [e] [] p3) pos) (extG i fe):=by
 obtain ⟨te,pe,he⟩:=he
 refine ⟨_,wZ (pe_bm PySem.F.plainAttrs_list PySem.F.slot_list_extend PySem.F.type_list_extend mt_extend (yY hN hv hd hcd) (qS pe yC hs) hbase hfew hline hs rfl) hsw,fun H₀ H O σ ds hd out E o e h=>?_⟩
 unfold extG at e
 cases hsl:ds[i]? with
 | none=>rw [hsl] at e; cases e
 | some s =>
   rw [hsl] at e
   cases s with
   | v d'=>cases e
   | no=>cases e
   | exc _=>cases e
   | fr _=>cases e
   | own l =>
     simp only at e
     cases h1:fe ds with
     | none=>rw [h1] at e; cases e
     | some d =>
       rw [h1] at e
       simp only [Option.bind_some] at e
       split at e
       · rename_i hl
         cases e
         obtain ⟨a,xs,q1,q2,q3,q4⟩:=o.readO hsl
         refine ⟨.ref a,q1,.inl ⟨rfl,xs,SqL.of q3⟩,?_⟩
         refine he H₀ H O σ ds hd d _ o h1 fun b ys H1 s1 hn hb r1=>?_
         refine ⟨a,b,xs,ys,rfl,rfl,s1 _ _ q3,hb,by rw [q4.length,r1.length]; exact hl,?_⟩
         exact h _ _ _ ((o.mono s1).modify hsl q1 ((q4.mono s1).append (r1.less fun a z=>.inr z)))
       · cases e
end
end FL
namespace L2
open PySem PySem.Spec PyProof.Rows
section
variable {X:Cx}
end
end L2
namespace Att
open PySem PySem.W PySem.Calls PyProof.Rows
theorem bits_script:∀ {ns:List Int} {b:Nat},WData.weightAll (ns.map WData.int)<=b->∀ c∈ns,Builtin.Int.intBits c<=b
 | [],_,_=>fun c hc=>by cases hc
 | n :: r, b, h => fun c hc => by
   simp only [List.map_cons,WData.weightAll,WData.weight] at h
   rcases List.mem_cons.mp hc with rfl | hc
   · unfold Builtin.Int.intBits
     omega
   · exact bits_script (ns:=r) (b:=b) (by omega) c hc
theorem attach_callB {l:OpenLaw} {n:Nat} {q:Program} {loose:List Str} {XP:(Str->Option Value)->Heap->Prop} {YP:World->Heap->Prop} {d:DefRec}
  (hn:l.most=some n) (hdf:d.params.defaults=[])
  (call:∀ (w:World) (s₀ s₁ : Shared) (mg mb:Str->Option Value) (fa:Addr) (o:Obj) (pm cd doc:Value) (a:Addr) (vs:List Value) (ns:List Int),
    Ground q loose [] XP w s₀ mg mb s₁.heap->YP w s₁.heap →
    s₁.heap.get? fa=some o->o.data = .func (docDef d.name d.params d.body d.scope pm cd doc)->s₁.heap.CodeRec cd d.name->mg d.name=some (.ref fa) →
    s₁.heap.get? a=some { cls:=.type "list",data:=.seq vs.toArray }->IntsAre vs ns->ns.length<=n->(∀ c∈ns,Builtin.Int.intBits c<=1048576)->s₁.gens = #[] →
    codeAny (model l.prog w) callerA (.call (.ref fa) ⟨[.ref a],[]⟩) (fun r s'=>r = .ok (.ret (.bool true))/\OldK s₁.heap s'.heap/\s'.os=s₁.os/\AllBare s'.gens) s₁) :
  WalkO q loose XP YP l.row.toRowW d [] (fun f vs=>PySem.call f vs):=by
 intro w s₀ s₁ mg mb G Y fa o pm cd doc dV kV ho hd hcd hD hmg hg args vals as hpre hlay hrd hwl hlo
 obtain rfl:dV = .none:=Dflts.none hD hdf
 obtain rfl:kV = .none:=Dflts.noKw hD
 obtain ⟨a,vs,ns,rfl,rfl,hobj,hints,hlen⟩:=script_of hn hpre hwl
 have hb:∀ c∈ns,Builtin.Int.intBits c<=1048576:=by
  have h1:=(layableW_iff.mp (layW_cons hlay).1).2.2
  simp only [WData.weight] at h1
  exact bits_script (Nat.le_trans h1 (by decide))
 refine enter_call (codeAny_mono (call w s₀ s₁ mg mb fa o pm cd doc a vs ns G Y ho (fd_plain hd) hcd hmg hobj hints hlen hb hg) fun r s' hq=>?_)
 obtain ⟨rfl,h2,h3,h4⟩:=hq
 exact ⟨.inl ⟨.bool true,.bool true,[],rfl,fun _=>rfl,.bool true,post_true l _,fun _=>⟨List.Pairwise.nil,fun _ hm=>(nomatch hm)⟩⟩,h2,h3,h4⟩
end Att
namespace FL
open PySem PySem.Spec PyProof.Rows L2
def spLawB (K:Frag) (n:Nat):Sp:=fun vs H Q _=>∃ (a:Addr) (ns:List Int),vs=[.ref a]/\SqL K H a (ns.map V.int)/\ns.length<=n/\(∀ c∈ns,Builtin.Int.intBits c<=1048576)/\∀ H',Q (.bl true) H'
theorem law_ofB {P:Program} {w:World} {K:Frag} {mg:Str->Option Value} {base:Heap} {k:Nat} {f:Addr} {fd:FuncData} {x:Str} {n:Nat} {F:List D->Option Ret} (Fn:FnOk P w K mg base CX0 k f fd [x] (spF K 1 F))
  (h:∀ ns:List Int,ns.length<=n->(∀ c∈ns,Builtin.Int.intBits c<=1048576)->F [.lst (ns.map D.int)]=some (.val (.bl true))):FnOk P w K mg base CX0 k f fd [x] (spLawB K n):=by
 refine Fn.imp fun vs H Q E hq=>?_
 obtain ⟨a,ns,rfl,hS,hl,hb,q⟩:=hq
 refine ⟨rfl,[.lst (ns.map D.int)],.val (.bl true),.cons ?_ .nil,h ns hl hb,fun v H' s r=>?_⟩
 · rcases hS with hS | hS
   · exact .lst (fun z=>z.elim) hS (Reps.ints ns)
   · exact .lstK hS (Reps.ints ns)
 · cases r; exact q H'
open PySem.W (tabIn CodeHd tabObj noTabs tab_of) in
inductive TabL (K:Frag) (q:Program):List Str->List (Str×Addr×Addr)->Prop
 | nil:TabL K q [] []
 | yes {x:Str} {xs:List Str} {c P:Addr} {tl:List (Str×Addr×Addr)} (h:PySem.W.tabIn K x=some (c,P)) (r:((recsOf q).find? (fun e=>e.name == x)).isSome=true) (ap:(tl.all fun p=>p.2.2 != P)=true) (t:TabL K q xs tl):TabL K q (x::xs) ((x,c,P)::tl)
 | no {x:Str} {xs:List Str} {tl:List (Str×Addr×Addr)} (h:PySem.W.tabIn K x=none) (t:TabL K q xs tl):TabL K q (x::xs) tl
theorem tabL_no {K:Frag} {q:Program} {x:Str} {xs:List Str} {tl:List (Str×Addr×Addr)} (h:PySem.W.nsIn K mainGlobals x=some none) (t:TabL K q xs tl):TabL K q (x::xs) tl:=.no (by unfold PySem.W.tabIn; rw [h]) t
theorem tabL_yes {K:Frag} {q:Program} {x:Str} {xs:List Str} {c P f:Addr} {fd:FuncData} {oc oc':Value} {od od':Option Addr} {sl sl':Array (Option Value)} {vs:Array Value} {tl:List (Str×Addr×Addr)} (h1:PySem.W.nsIn K mainGlobals x=some (some (.ref f))) (h2:K.lookup f=some ⟨oc,od,.func fd,sl⟩)
  (h3:fd.code = .ref c) (h4:K.lookup c=some ⟨oc',od',.fields vs,sl'⟩) (h5:(vs[11]? : Option Value)=some (.ref P)) (r:((recsOf q).find? (fun e=>e.name == x)).isSome=true) (t:TabL K q xs tl) (ap:(tl.all fun p=>p.2.2 != P)=true):TabL K q (x::xs) ((x,c,P)::tl) :=
 .yes (by unfold PySem.W.tabIn; simp only [h1,h2,h3,h4,h5]) r ap t
section
variable {K:Frag} {q:Program} {xs:List Str} {tl:List (Str×Addr×Addr)}
theorem TabL.get (h:TabL K q xs tl):∀ {x:Str} {c P:Addr},x∈xs->PySem.W.tabIn K x=some (c,P)->(x,c,P)∈tl:=by
 induction h with
 | nil=>intro x c P hx; cases hx
 | yes h r ap t ih =>
   intro x c P hx ht
   rcases List.mem_cons.mp hx with e | e
   · subst e
     rw [h] at ht
     cases ht
     exact List.mem_cons_self
   · exact List.mem_cons_of_mem _ (ih e ht)
 | no h t ih =>
   intro x c P hx ht
   rcases List.mem_cons.mp hx with e | e
   · subst e
     rw [h] at ht
     cases ht
   · exact ih e ht
theorem TabL.fact (h:TabL K q xs tl):∀ p∈tl,PySem.W.tabIn K p.1=some (p.2.1,p.2.2)/\((recsOf q).find? (fun e=>e.name == p.1)).isSome=true:=by
 induction h with
 | nil=>intro p hp; cases hp
 | yes h r ap t ih =>
   intro p hp
   rcases List.mem_cons.mp hp with e | e
   · subst e; exact ⟨h,r⟩
   · exact ih p e
 | no h t ih=>exact ih
def tabH (K:Frag) (tl:List (Str×Addr×Addr)):Hp:=fun b=>(tl.find? fun p=>p.2.2 == b).map fun p=>.tbl (innerQ K p.1)
theorem vW {b:Addr} {u:HO} (e:tabH K tl b=some u):∃ p∈tl,b=p.2.2/\u = .tbl (innerQ K p.1):=by
 unfold tabH at e
 cases h:tl.find? fun p=>p.2.2 == b with
 | none=>rw [h] at e; cases e
 | some p =>
   rw [h] at e
   cases e
   exact ⟨p,List.mem_of_find?_eq_some h,(beq_iff_eq.mp (List.find?_some (p:=fun p:Str×Addr×Addr=>p.2.2 == b) h)).symm,rfl⟩
theorem TabL.at (h:TabL K q xs tl):∀ p∈tl,tabH K tl p.2.2=some (.tbl (innerQ K p.1)):=by
 induction h with
 | nil=>intro p hp; cases hp
 | yes h r ap t ih =>
   intro p hp
   rename_i x xs c P tl
   unfold tabH
   rcases List.mem_cons.mp hp with e | e
   · subst e
     simp
   · have:(P == p.2.2)=false:=by
      have:=List.all_eq_true.mp ap p e
      simp only [bne_iff_ne,ne_eq] at this
      exact beq_eq_false_iff_ne.mpr (Ne.symm this)
     rw [List.find?_cons,this]
     exact ih p e
 | no h t ih=>exact ih
end
theorem no_cls {K:Frag} {h:Heap} {b:Addr} {o:Obj} {ps:Array Value} (X:K.In h) (hK:PySem.W.noTabs K=true) (e:K.lookup b=some o) (hb:h.get? b=some (PySem.W.tabObj ps)):False:=by
 have q:=X b o e
 rw [hb] at q
 cases q
 have h2:=List.all_eq_true.mp hK (b,_) (PySem.W.mem_of_lookupK e)
 exact absurd (show false=true from h2) Bool.false_ne_true
theorem law_callT {P:Program} {w:World} {K:Frag} {q:Program} {loose:List Str} {mean:ExcName->Option Value} {mg mb:Str->Option Value} {k:Nat} {fa a:Addr} {fd:FuncData} {x:Str} {sp:Sp} {s₁ : Shared} {vs:List Value} {ns:List Int} {tl:List (Str×Addr×Addr)}
  (KX:K.In s₁.heap) (T:Top q loose mean mg mb s₁.heap) (hT:TabL K q makers tl) (hK:PySem.W.noTabs K=true) (hg:s₁.gens = #[]) (ha:s₁.heap.get? a=some { cls:=.type "list",data:=.seq vs.toArray }) (hi:IntsAre vs ns) (hl:ns.length<=sizeLine) (hr:Room k callerA)
  (F:∀ base:Heap,K.In base->base.Ns mainGlobals mg->FnOk P w K mg base CX0 k fa fd [x] sp) (hbind:∀ (s:Shared) (u:Value),BindsTo s fd ⟨[u],[]⟩ [(x,u)])
  (hsp:∀ H:Hp,SqL K H a (ns.map V.int)->sp [.ref a] H (fun v _=>v = .bl true) fun _ _ _=>False) :
  codeAny (model P w) callerA (.call (.ref fa) ⟨[.ref a],[]⟩) (fun r s'=>r = .ok (.ret (.bool true))/\OldK s₁.heap s'.heap/\s'.os=s₁.os/\AllBare s'.gens) s₁:=by
 have rv:=vals_ints hi
 have tf:∀ p∈tl,PySem.W.CodeHd s₁.heap p.2.1 p.2.2/\s₁.heap.get? p.2.2=some (PySem.W.tabObj #[]):=fun p hp=>by
  obtain ⟨h1,h2⟩:=hT.fact p hp
  obtain ⟨d,hd⟩:=Option.isSome_iff_exists.mp h2
  exact PySem.W.tab_of T KX hd h1
 have core:∀ H:Hp,SqL K H a (ns.map V.int)->L2.HOk P w H s₁.heap->(∀ b u,H b=some u->(b=a/\K.lookup a=none/\∃ o xs,u = .frz o (.lst xs)) \/ ∃ p∈tl,b=p.2.2/\u = .tbl (innerQ K p.1))->(∀ p∈tl,H p.2.2=some (.tbl (innerQ K p.1))) →
   codeAny (model P w) callerA (.call (.ref fa) ⟨[.ref a],[]⟩) (fun r s'=>r = .ok (.ret (.bool true))/\OldK s₁.heap s'.heap/\s'.os=s₁.os/\AllBare s'.gens) s₁:=by
  intro H hS hok hA hP
  have free_of:∀ {b:Addr} {o:Obj},s₁.heap.get? b=some o->(∀ its n,o.data≠.seq its n)->o.data≠.fields #[]->H b=none:=fun {b o} e n1 n2=>by
   cases qb:H b with
   | none=>rfl
   | some u =>
     rcases hA b u qb with ⟨rfl,_,_⟩ | ⟨p,hp,rfl,_⟩
     · rw [ha] at e; cases e; exact (n1 _ _ rfl).elim
     · rw [(tf p hp).2] at e; cases e; exact (n2 rfl).elim
  have base_of:∀ {b:Addr} {o:Obj},s₁.heap.get? b=some o->(∀ its n,o.data≠.seq its n)->o.data≠.fields #[]->(hidT s₁.heap H).get? b=some o:=fun e n1 n2=>hidT_get e (free_of e n1 n2)
  have nsK:∀ {b:Addr} {m:Str->Option Value},s₁.heap.Ns b m->(hidT s₁.heap H).Ns b m:=fun {b m} ⟨o,es,ep,e,d,r⟩=>⟨o,es,ep,base_of e (fun _ _ z=>by rw [d] at z; cases z) (fun z=>by rw [d] at z; cases z),d,r⟩
  have hKb:K.In (hidT s₁.heap H):=fun b o e=>hidT_get (KX b o e) (by
   cases qb:H b with
   | none=>rfl
   | some u =>
     rcases hA b u qb with ⟨rfl,z,_⟩ | ⟨p,hp,rfl,_⟩
     · rw [z] at e; cases e
     · exact (no_cls KX hK e (tf p hp).2).elim)
  have hM:Mod K mg (hidT s₁.heap H):=⟨hKb,nsK T.g,⟨mb,nsK T.b,T.builtins⟩,let ⟨mc,h1,h2⟩:=T.nolimit; ⟨mc,nsK h1,h2⟩⟩
  have hTab:TabsK K mg (hidT s₁.heap H) H:=by
   refine ⟨?_,fun y c P' hy ht=>?_⟩
   · obtain ⟨bm, ob, b1, b2, b3, b4, b5, b6⟩ := T.bmain
     exact ⟨bm,ob,b1,b2,base_of b3 (fun _ _ z=>by rw [b6] at z; cases z) (fun z=>by rw [b6] at z; cases z),b4,b5,b6⟩
   · have hm := hT.get hy ht
     refine ⟨?_,hP _ hm⟩
     obtain ⟨o,ws,file,tf',flags,tg,inF,text,tt,e1,r1,r2,r3,rest⟩:=(tf _ hm).1
     refine ⟨o,ws,file,tf',flags,tg,inF,text,tt,base_of e1 (fun _ _ z=>by rw [r2] at z; cases z) (fun z=>?_),r1,r2,r3,rest⟩
     rw [r2] at z
     cases z
     cases r3
  have e0:Env0 P w K mg (hidT s₁.heap H) callerA [] s₁ H:=⟨rfl,hM,fun b o e=>of_hidT e,⟨Nat.le_of_eq (hidT_size _ _),hTab⟩,trivial,fun b hb=>absurd (show b∈([]:List Addr) from hb) (by simp),hok,.of_eq hg⟩
  refine codeAny_mono ((F _ hKb (nsK T.g)).run callerA [] s₁ H ⟨[.ref a],[]⟩ [.ref a] [.ref a] _ _ hr e0 (hbind s₁ (.ref a)) (.cons rfl .nil) (hsp H hS)) fun r s' h=>?_
  cases r with
  | error e=>exact False.elim h
  | ok fl =>
    cases fl with
    | next=>exact False.elim h
    | brk=>exact False.elim h
    | cont=>exact False.elim h
    | ret u =>
      obtain ⟨v,H',os,bare,un,hok',r',hv⟩:=h
      have hv':v = .bl true:=hv
      subst hv'
      obtain rfl:u=Value.bool true:=r'
      refine ⟨rfl,⟨fun b o e=>?_,fun b o e=>un.there b o e (by simp)⟩,os,bare⟩
      cases qb:H b with
      | none=>exact .inl (un.keep b o e qb (by intro z; exact absurd (show b∈([]:List Addr) from z) (by simp)) (by simp))
      | some u =>
        rcases hA b u qb with ⟨_,_,ob,xs,rfl⟩ | ⟨p,hp,rfl,rfl⟩
        · obtain ⟨e1, _⟩ := hok b _ qb
          obtain ⟨e2,_⟩:=hok' b _ (un.frzs b ob _ qb)
          rw [e] at e1; cases e1
          exact .inl e2
        · have t2 := (tf p hp).2
          rw [e] at t2
          cases t2
          obtain ⟨ps,e2,_⟩:=hok' _ _ (un.tbls _ _ qb)
          exact .inr (.inl ⟨((tf p hp).1.tab (tf p hp).2).isCodeTable,rfl,#[],ps,rfl,by rw [Array.empty_append]; exact e2⟩)
 have tabOk:∀ (H:Hp) (p:Str×Addr×Addr),p∈tl->ObjOk P w H s₁.heap p.2.2 (.tbl (innerQ K p.1)):=fun H p hp=>⟨#[],(tf p hp).2,trivial,fun pos v z=>by cases z⟩
 cases hk:K.lookup a with
 | some o =>
   have e:=KX a o hk
   rw [ha] at e
   cases e
   refine core (tabH K tl) (.inr ⟨_,vs.toArray,_,hk,rfl,rfl,rfl,by rw [List.size_toArray,hi.length]; exact hl,by simpa using rv⟩) (fun b u z=>?_) (fun b u z=>.inr (vW z)) fun p hp=>hT.at p hp
   obtain ⟨p,hp,rfl,rfl⟩:=vW z
   exact tabOk _ p hp
 | none =>
   have na:∀ p∈tl,p.2.2≠a:=fun p hp z=>by
    have:=(tf p hp).2
    rw [z,ha] at this; cases this
   refine core (upd (tabH K tl) a (.frz { cls:=.type "list",data:=.seq vs.toArray } (.lst (ns.map V.int)))) (.inl (.inr ⟨_,qG⟩)) (fun b u z=>?_) (fun b u z=>?_) fun p hp=>by rw [zS (na p hp)]; exact hT.at p hp
   · by_cases hb : b = a
     · subst hb
       rw [qG] at z
       cases z
       exact ⟨ha,by rw [List.length_map]; exact hl,vs,_,rv,ha⟩
     · rw [zS hb] at z
       obtain ⟨p,hp,rfl,rfl⟩:=vW z
       exact tabOk _ p hp
   · by_cases hb : b = a
     · subst hb
       rw [qG] at z
       cases z
       exact .inl ⟨rfl,hk,_,_,rfl⟩
     · rw [zS hb] at z
       exact .inr (vW z)
theorem walkB {l:PySem.W.OpenLaw} {q:Program} {loose:List Str} {XP:(Str->Option Value)->Heap->Prop} {YP:World->Heap->Prop} {d:DefRec} {K:Params->PySem.W.Frag} {k:Nat} {tl:List (Str×Addr×Addr)} (hn:l.most=some 63) (hdf:d.params.defaults=[]) (hr:Room k callerA)
  (hY:∀ (w:World) (h:Heap),YP w h->(K w.params).In h) (hK:∀ w:World,PySem.W.noTabs (K w.params)=true) (hT:∀ w:World,TabL (K w.params) q makers tl)
  (F:∀ (w:World) (mg:Str->Option Value) (fa:Addr) (h:Heap),(K w.params).In h->h.Ns mainGlobals mg->mg d.name=some (.ref fa) →
    ∃ fd:FuncData,(∀ (s:Shared) (u:Value),BindsTo s fd ⟨[u],[]⟩ [("_law_script",u)])/\∀ base:Heap,(K w.params).In base->base.Ns mainGlobals mg->FnOk l.prog w (K w.params) mg base CX0 k fa fd ["_law_script"] (spLawB (K w.params) 63)) :
  PySem.W.WalkO q loose XP YP l.row.toRowW d [] (fun f vs=>PySem.call f vs):=by
 refine Att.attach_callB hn hdf fun w s₀ s₁ mg mb fa o pm cd doc a vs ns G Y ho hd hcd hmg hobj hints hlen hb hg=>?_
 have KX:=hY w _ Y
 obtain ⟨fd,hbd,hF⟩:=F w mg fa _ KX G.T.g hmg
 exact law_callT KX G.T (hT w) (hK w) hg hobj hints (Nat.le_trans hlen (by decide)) hr hF hbd fun H hS=>⟨a,ns,rfl,hS,hlen,hb,fun _=>rfl⟩
structure Cal (P:Program) (w:World) (K:Frag) (mg:Str->Option Value) (base:Heap) (x:Str) (k n:Nat) (F:List D->Option Ret):Prop where
 ex:∃ (f:Addr) (fd:FuncData) (ps:List Str),FnOk P w K mg base CX0 k f fd ps (spF K n F)/\Binds K fd ps []/\PySem.W.keepIn K (.ref f)=true/\mg x=some (.ref f)
section
variable {X:Cx}
section
variable {k j:Nat} {n:Nat} {F:List D->Option Ret} {x:Str} {p pos:Pos} {e:Expr} {es:List Expr} {g:FA}
theorem qB (C:Cal X.prog X.w X.K X.mg X.base x k n F) (hr:Room j X.A) (ha:PAn X (e::es) g) (hj:k<=j:=by decide)
  (hg:Gl X x:=by rfl) (hdb:(x == ("__debug__" : Str))=false:=by decide) (he:starEach (e::es) X.env=(false,eval e X.env)::starEach es X.env:=by rfl) (hpl:(backTo pos (starEach es X.env)).any (·.1)=false:=by rfl) :
  PV X (.Call (.Name x p) (e::es) [] pos) (jG n F g):=by
 obtain ⟨f,fd,ps,Fn,hb,hk,hm⟩:=C.ex
 exact pv_callN Fn (hr.mono hj) hm hk hb ha hg hdb he hpl
theorem jR (C:Cal X.prog X.w X.K X.mg X.base x k n F) (hr:Room j X.A) (ha:PAn X (e::es) g) (hj:k<=j:=by decide)
  (hg:Gl X x:=by rfl) (hdb:(x == ("__debug__" : Str))=false:=by decide) (he:starEach (e::es) X.env=(false,eval e X.env)::starEach es X.env:=by rfl) (hpl:(backTo pos (starEach es X.env)).any (·.1)=false:=by rfl) :
  PVf X (.Call (.Name x p) (e::es) [] pos) (vE n F g):=by
 obtain ⟨f,fd,ps,Fn,hb,hk,hm⟩:=C.ex
 exact pvf_callN Fn (hr.mono hj) hm hk hb ha hg hdb he hpl
end
end
section
variable {X:Cx} {a b:Expr} {fa fb:FE} {pos:Pos}
theorem pv_le (ha:PVw X a fa) (hb:PVw X b fb):PV X (.Compare a [.LtE] [b] pos) (zJ leD fa fb):=pv_cmp op_le yG ha hb (nomark _)
theorem pv_gt (ha:PVw X a fa) (hb:PVw X b fb):PV X (.Compare a [.Gt] [b] pos) (zJ gtD fa fb):=pv_cmp op_gt yG ha hb (nomark _)
theorem pt_lt (ha:PVw X a fa) (hb:PVw X b fb):PTv X (.Compare a [.Lt] [b] pos) (zT (zJ ltD fa fb)):=vS op_lt yG ha hb (nomark _)
theorem pt_le (ha:PVw X a fa) (hb:PVw X b fb):PTv X (.Compare a [.LtE] [b] pos) (zT (zJ leD fa fb)):=vS op_le yG ha hb (nomark _)
theorem pt_gt (ha:PVw X a fa) (hb:PVw X b fb):PTv X (.Compare a [.Gt] [b] pos) (zT (zJ gtD fa fb)):=vS op_gt yG ha hb (nomark _)
theorem pt_ge (ha:PVw X a fa) (hb:PVw X b fb):PTv X (.Compare a [.GtE] [b] pos) (zT (zJ geD fa fb)):=vS op_ge yG ha hb (nomark _)
theorem qJ (ha:PVw X a fa) (hb:PVw X b fb):PV X (.BinOp a .Add b pos) (zJ xD fa fb):=vH op_addU os_add ha hb
theorem yH (ha:PVw X a fa) (hb:PVw X b fb):PV X (.BinOp a .Sub b pos) (zJ subD fa fb):=vH op_sub os_sub ha hb
theorem jF (ha:PVw X a fa) (hb:PVw X b fb):PV X (.BinOp a .Mult b pos) (zJ yV fa fb):=vH op_mulB os_mul ha hb
theorem xI (ha:PVw X a fa) (hb:PVw X b fb):PV X (.BinOp a .Pow b pos) (zJ powD fa fb):=vH op_powB os_pow ha hb
theorem zW (ha:PVw X a fa) (hb:PVw X b fb):PV X (.BinOp a .Mod b pos) (zJ yU fa fb):=vH op_mod os_mod ha hb
theorem jI (ha:PVw X a fa) (hb:PVw X b fb):PV X (.BinOp a .FloorDiv b pos) (zJ yL fa fb):=vH op_fdivB os_fdiv ha hb
end
end FL
namespace L2
open PySem PySem.Spec PyProof.Rows
section
variable {X:Cx} {tg:Expr}
theorem pi_seq {l:Expr} {tl:TE} (hl:PE X l tl):PI X tg l (fun σ H R=>iList X.K tl σ H R \/ iTup X.K tl σ H R):=by
 intro pins s σ H R I h
 rcases h with h | h
 · exact pi_list hl pins s σ H R I h
 · exact pi_tup hl pins s σ H R I h
end
end L2
namespace FL
open PySem PySem.Spec PyProof.Rows L2
section
variable {X:Cx}
theorem qV {tg e:Expr} {f:FE} (h:PV X e f):PIv X tg e (viaA f asLT):=by
 obtain ⟨t,ht,hf⟩:=h
 refine ⟨_,pi_seq ht,fun H₀ H O σ ds hd items R o e q=>?_⟩
 unfold viaA at e
 cases h1:f ds with
 | none=>rw [h1] at e; cases e
 | some d =>
   rw [h1] at e
   cases d with
   | lst l =>
     cases e
     refine .inl (hf H₀ H O σ ds hd _ _ o h1 fun v H' s r=>?_)
     obtain ⟨a,xs,rfl,hs,rs⟩:=WRep.seqL (.inl r)
     exact ⟨a,rfl,⟨xs,hs⟩,q _ (.ref a,.lst items) H' s r wlk_list⟩
   | tup l =>
     cases e
     refine .inr (hf H₀ H O σ ds hd _ _ o h1 fun v H' s r=>?_)
     obtain ⟨a,xs,rfl,hs,rs⟩:=WRep.seqT (.inl r)
     exact ⟨a,rfl,⟨xs,hs⟩,q _ (.ref a,.tup items) H' s r wlk_tup⟩
   | _=>cases e
end
end FL
namespace L2
open PySem PySem.Spec PyProof.Rows
section
variable {X:Cx} {tg:Expr}
def Itv (K:PySem.W.Frag) (a:Addr) (n:Nat):It :=
 ⟨fun i H=>∃ xs x,SqL K H a xs/\xs.length=n/\i < n/\xs[n - 1 - i]? = some x,fun i H x H'=>H'=H/\∀ xs,SqL K H a xs->xs[n - 1 - i]? = some x,fun i _=>i=n⟩
theorem turn_rev {P:Program} {w:World} {K:PySem.W.Frag} {tg:Expr} (a it:Addr) (n:Nat):Turn P w K tg (Itv K a n) [it] it (fun i h=>i<=n/\h.IsRevIter it a ((n:Int) - 1 - (i:Int))) where
 mem:=by simp
 obj:=fun i h st b hb=>by
  have e:b=it:=by simpa using hb
  subst e
  obtain ⟨_,o,e,c,d⟩:=st
  exact ⟨o,e,fun v z=>by rw [d] at z; cases z⟩
 keep:=fun i h h' st k=>⟨st.1,st.2.at fun o e=>k it (by simp) o e⟩
 item:=by
  intro X hP hw hK hc i pins s σ H E I hf st hg
  subst hP hw hK
  obtain ⟨xs,x,hq,hn,hi,hx⟩:=hg
  obtain ⟨its,rv,p,hz⟩:=I.list hq
  obtain ⟨u,hu,ru⟩:=rv.get hx
  obtain ⟨f0,f1,f2,f3,f4,f5⟩:=hf it (by simp)
  have e:(n:Int) - 1 - (i:Int)=((n - 1 - i:Nat):Int):=by omega
  have hit:=st.2
  rw [e] at hit
  refine wpAny_pyNext_rev_item hit p.isList (x:=u) (by simpa using hu) fun h' st' sb=>?_
  have I1:Inv X pins σ H { s with heap:=h' }:=I.turned (t':=s.toks) (fun b o hb e=>(sb.2 b hb).trans e) f0 f1 f3 f4 f5
  have e2:((n - 1 - i:Nat):Int) - 1=(n:Int) - 1 - ((i+1:Nat):Int):=by omega
  rw [e2] at st'
  obtain ⟨o,eo,co,d⟩:=id st'
  exact ⟨u,rfl,go_of (s:={ s with heap:=h' }) eo co d (by decide) ⟨x,H,I1,ru,⟨rfl,fun ys hy=>by rw [I.list_inj hy hq]; exact hx⟩,⟨hi,st'⟩,fun b hb=>(hf b hb).1⟩⟩
 done:=by
  intro X hP hw hK hc i pins s σ H E I hf st hg
  subst hP hw hK
  have hg':i=n:=hg
  subst hg'
  obtain ⟨f0,f1,f2,f3,f4,f5⟩:=hf it (by simp)
  have e:(i:Int) - 1 - (i:Int) = -1:=by omega
  have hit:=st.2
  rw [e] at hit
  exact wpAny_pyNext_rev_end (I.ok.hd hc) hit fun h' eb=>⟨rfl,I.turned (t':=s.toks) (fun b o hb e=>eb b o hb e) f0 f1 f3 f4 f5⟩
 self:=fun _ _ _ _ _ st h=>wpAny_pyIter_revIter st.2 h
def iRev (K:PySem.W.Frag) (ta:TA):TI:=fun σ H R=>ta σ H fun vs H1=>∃ a xs,vs=[.ref a]/\SqL K H1 a xs/\R (Itv K a xs.length) H1
theorem pi_rev {l:Expr} {ta:TA} {p pos:Pos} (hg:Gl X "reversed") (hm:X.mg "reversed" = none) (ha:PA X [l] ta) (hs:starEach [l] X.env=[(false,eval l X.env)]:=by rfl):PI X tg (.Call (.Name "reversed" p) [l] [] pos) (iRev X.K ta):=by
 intro pins s σ H R I h
 refine Call_ (wP I hg hm (show bootBuiltins "reversed" = some (.type "reversed") by decide +kernel) (PyProof.Rows.callWith_type1 (thn (ha pos pins s σ H _ I h) fun us s1 ⟨vs,H1,I1,r1,q1⟩=>?_) hs rfl))
 obtain ⟨a,xs,e,hq,q⟩:=q1
 subst e
 obtain ⟨u,rfl,ru⟩:=vals1 r1
 cases ru
 obtain ⟨its,rv,pl,hz⟩:=I1.list hq
 have hlen:=rv.length
 refine call_reversed_list pl.isList ?_
 have hst:Heap.IsRevIter (s1.heap.push (revObj a ((its.toArray.size:Int) - 1))) s1.heap.objs.size a ((its.toArray.size:Int) - 1):=⟨_,Heap.get?_push_size _ rfl,rfl,rfl⟩
 refine wpAny_pyIter_revIter hst ?_
 refine ⟨s1.heap.objs.size,[s1.heap.objs.size],_,_,H1,rfl,I1.kept (t':=s1.toks) fun b o e=>Heap.get?_push_of_some _ e,turn_rev a _ xs.length,⟨Nat.zero_le _,?_⟩,fun b hb=>?_,q⟩
 · have e1 : ((its.toArray.size : Nat) : Int) - 1 = (xs.length : Int) - 1 - ((0 : Nat) : Int) := by simp only [List.size_toArray]; omega
   show Heap.IsRevIter _ _ a ((xs.length:Int) - 1 - ((0:Nat):Int))
   rw [<- e1]
   exact hst
 · have e : b = s1.heap.objs.size := by simpa using hb
   subst e
   exact I1.fpOk (Nat.le_refl _) (I1.hok.fresh (Nat.le_refl _))
end
end L2
namespace FL
open PySem PySem.Spec PyProof.Rows L2
section
variable {X:Cx}
theorem wlk_rev {K:Frag} {a:Addr} {l:List D} : Wlk K (Itv K a l.length) (.ref a,.lst l) l.reverse:=by
 intro H O _ r
 obtain ⟨b,xs,e,hs,rs⟩:=WRep.seqL (.inl r)
 cases e
 have hlen:=rs.length
 refine ⟨fun i d hd=>?_,show _=l.length from List.length_reverse⟩
 have hi:i < l.length:=by
  have:=(List.getElem?_eq_some_iff.mp hd).1
  rwa [List.length_reverse] at this
 rw [List.getElem?_reverse hi] at hd
 obtain ⟨v,h1,h2⟩:=rs.get hd
 refine ⟨⟨xs,v,hs,hlen,hi,h1⟩,fun x H' y=>?_⟩
 obtain ⟨rfl,y⟩:=y
 have:=y xs hs
 rw [h1] at this; cases this
 exact ⟨Same.refl _,h2⟩
theorem piv_rev {tg e:Expr} {p pos:Pos} {f:FE} (hc:True) (hm:X.mg "reversed" = none) (h:PV X e f) (hg:Gl X "reversed":=by rfl) (hs:starEach [e] X.env=[(false,eval e X.env)]:=by rfl):PIv X tg (.Call (.Name "reversed" p) [e] [] pos) (revA f):=by
 obtain ⟨t,ht,hf⟩:=zF h zN hs
 refine ⟨_,pi_rev hg hm ht hs,fun H₀ H O σ ds hd items R o e q=>?_⟩
 unfold revA at e
 cases h1:f ds with
 | none=>rw [h1] at e; cases e
 | some d =>
   rw [h1] at e
   simp only [Option.bind_some] at e
   cases d <;> first | (cases e; done) | skip
   rename_i l
   cases e
   refine hf H₀ H O σ ds hd [.lst l] _ o (by simp [zG,h1,zZ]) fun vs H' s r=>?_
   cases r with
   | cons r1 rr =>
     cases rr
     obtain ⟨a,xs,rfl,hq,rs⟩:=WRep.seqL (.inl r1)
     refine ⟨a,xs,rfl,hq,?_⟩
     rw [rs.length]
     exact q _ (.ref a,.lst l) H' s r1 wlk_rev
theorem vT {K:Frag} {H:Hp} {O:Addr->Prop} : ∀ {xs:List V} {l:List D} {bs:List Int},Reps K H O xs l->intsD l=some bs->xs=bs.map V.int
 | _,_,_,.nil,e=>by cases e; rfl
 | _, _, bs, .cons (d := d) h t, e => by
   cases d with
   | int b =>
     rename_i ds
     simp only [intsD] at e
     cases hr:intsD ds with
     | none=>rw [hr] at e; cases e
     | some r =>
       rw [hr] at e
       cases e
       cases h
       rw [vT t hr]
       rfl
   | _=>cases e
theorem ptv_chain {op op':CmpOp} {r r':R2} {opD opD':D->D->Option D} {a b c:Expr} {fa fb fc:FE} {pos:Pos} (ho:OpR X (compareOp op) r) (hs:OpS X r opD) (ho':OpR X (compareOp op') r') (hs':OpS X r' opD') (ha:PVw X a fa) (hb:PVw X b fb) (hc:PVw X c fc)
  (hm:lastMarks [op,op'] [b,c]=false:=by with_unfolding_all rfl):PTv X (.Compare a [op,op'] [b,c] pos) (zT (chain opD opD' fa fb fc)):=by
 obtain ⟨ta,pa,ha⟩:=ha
 obtain ⟨tb,pb,hb⟩:=hb
 obtain ⟨tc,pc,hc⟩:=hc
 refine ⟨_,pt_chain ho ho' pa pb pc hm,fun H₀ H O σ ds hd k Q o e q=>?_⟩
 unfold zT chain at e
 cases h1:fa ds with
 | none=>rw [h1] at e; cases e
 | some dx =>
   cases h2:fb ds with
   | none=>rw [h1,h2] at e; cases e
   | some dy =>
     rw [h1,h2] at e
     simp only [Option.bind_some] at e
     cases h3:opD dx dy with
     | none=>rw [h3] at e; cases e
     | some z =>
       rw [h3] at e
       simp only [Option.bind_some] at e
       refine ha H₀ H O σ ds hd dx _ o h1 fun x H1 s1 r1=>?_
       refine hb H₀ H1 O σ ds hd dy _ (o.mono s1) h2 fun y H2 s2 r2=>?_
       have o2:=(o.mono s1).mono s2
       refine hs H2 O x y dx dy z _ o2.dom (r1.mono s2) r2 h3 fun zv H3 s3 r3=>?_
       cases z with
       | bl kk =>
         cases r3
         cases kk with
         | false =>
           simp only [Option.bind_some,isB,Option.some.injEq] at e
           subst e
           exact ⟨false,rfl,iteF ⟨false,rfl,q H3 ((s1.trans s2).trans s3)⟩⟩
         | true =>
           simp only at e
           cases h4:fc ds with
           | none=>rw [h4] at e; cases e
           | some dw =>
             rw [h4] at e
             simp only [Option.bind_some] at e
             cases h5:opD' dy dw with
             | none=>rw [h5] at e; cases e
             | some zz =>
               rw [h5] at e
               simp only [Option.bind_some] at e
               refine ⟨true,rfl,iteT ?_⟩
               refine hc H₀ H3 O σ ds hd dw _ (o2.mono s3) h4 fun wv H4 s4 r4=>?_
               refine hs' H4 O y wv dy dw zz _ ((o2.mono s3).mono s4).dom ((r2.mono s3).mono s4) r4 h5 fun v H' s r=>?_
               cases zz with
               | bl k2=>cases e; cases r; exact ⟨_,rfl,q H' ((((s1.trans s2).trans s3).trans s4).trans s)⟩
               | _=>cases e
       | _=>cases e
end
end FL
namespace L2
open PySem PySem.Spec PyProof.Rows
section
variable {X:Cx} {pins:List (Addr×Obj)} {σ : St} {H:Hp} {s:Shared} {h':Heap}
end
section
variable {X:Cx}
end
end L2
namespace FL
open PySem PySem.Spec PyProof.Rows L2
section
variable {X:Cx}
section
variable {scope:Scope} {NY:List Str} {mp:List (Option Nat)} {tg iter elt:Expr} {ifs:List Expr} {pos:Pos} {fi:FA} {ga:D->List Sl->Option (List Sl)} {tt:FT} {fe:FE}
end
end
end FL
namespace L2
open PySem PySem.Spec PyProof.Rows
section
variable {X:Cx}
end
end L2
namespace FL
open PySem PySem.Spec PyProof.Rows L2
section
variable {X:Cx}
end
section
variable {X:Cx}
end
section
variable {X:Cx}
end
end FL
namespace L2
open PySem PySem.Spec PyProof.Rows
section
variable {X:Cx}
theorem call_sumL (hc:X.calm=true):CallR X (.builtin "sum") (fun xs H Q=>∃ (p:Addr) (ns:List Int),xs=[.ref p]/\SqL X.K H p (ns.map V.int)/\Q (.int ns.sum) H):=by
 intro pins s σ H xs us Q I r h
 obtain ⟨p,ns,rfl,hq,q⟩:=h
 obtain ⟨u,rfl,ru⟩:=vals1 r
 cases ru
 obtain ⟨its,rv,pl,hz⟩:=I.list hq
 have hi:IntsAre its ns:=intsAre_of rv
 have hl:=pl.isList
 obtain ⟨xs,e⟩:=hi.allInts.items
 have hns:ns=xs.toList.map (·.1):=by
  rw [<- hi.numsOf,<- nums_intItems,<- e]
 rw [e] at hl
 refine sum_intListG (I.ok.hd hc) hl fun h' tk t' hk=>?_
 rw [preSum_eq,List.take_of_length_le (by simp),<- hns]
 exact ⟨.int ns.sum,H,I.kept hk,⟨t',rfl⟩,q⟩
end
end L2
namespace FL
open PySem PySem.Spec PyProof.Rows L2
section
variable {X:Cx}
theorem cs_sumL:CallS X (fun xs H Q=>∃ (p:Addr) (ns:List Int),xs=[.ref p]/\SqL X.K H p (ns.map V.int)/\Q (.int ns.sum) H) sumD:=by
 intro H O vs l d Q ho r e q
 match l,r,e with
 | [.lst l], .cons r .nil, e =>
   simp only [sumD] at e
   cases hb:intsD l with
   | none=>rw [hb] at e; cases e
   | some ns =>
     rw [hb] at e
     cases e
     obtain ⟨a,xs,rfl,hs,rs⟩:=r.seqL
     refine ⟨a,ns,rfl,?_,q _ H (Same.refl _) (.int _)⟩
     rw [<- vT rs hb]
     exact hs
theorem pv_sum {p pos:Pos} {e:Expr} {g:FA} (hc:X.calm=true) (hm:X.mg "sum" = none) (ha:PAv X [e] g) (hg:Gl X "sum":=by rfl) (he:starEach [e] X.env=[(false,eval e X.env)]:=by rfl) :
  PV X (.Call (.Name "sum" p) [e] [] pos) (callB sumD g):=xB (call_sumL hc) cs_sumL hm (by decide +kernel) ha hg (by decide) (by decide) he rfl
end
end FL
namespace L2
open PySem PySem.Spec PyProof.Rows
section
variable {X:Cx}
end
end L2
namespace FL
open PySem PySem.Spec PyProof.Rows L2
section
variable {X:Cx}
theorem PVd.v {e:Expr} {f:FE} (h:PVd X e f):PV X e f:=by
 obtain ⟨t,ht,hf⟩:=h
 exact ⟨t,ht,fun H₀ H O σ ds hd d Q o e q=>hf H₀ H O σ ds hd d Q o e fun v H' s r=>q v H' s (r.less fun a z=>o.old z)⟩
section
variable {m:Str} {k j n:Nat} {cs:List Nat} {F:Nat->List D->Option Ret} {o e:Expr} {es:List Expr} {apos pos:Pos} {fo:FE} {g:FA}
end
end
def Keepx (x:Addr) (H H':Hp):Prop:=∀ b o,b≠x->H b=some o->H' b=some o
theorem Keepx.trans {x:Addr} {H H1 H2:Hp} (a:Keepx x H H1) (b:Keepx x H1 H2):Keepx x H H2:=fun c o n e=>b c o n (a c o n e)
section
variable {K:Frag} {H H':Hp} {O:Addr->Prop} {x:Addr}
end
section
variable {X:Cx}
end
section
variable {X:Cx} {t k j n:Nat} {G:List D->Option (List D)} {x:Str} {p pos:Pos} {e:Expr} {es:List Expr} {g:FA}
end
theorem kit_self {K:Frag} (C:Addr):PySem.W.kitOne K (.ref C) (.ref C)=some true:=by unfold PySem.W.kitOne; rw [if_pos (by simp)]
theorem jD {K:Frag} {C C':Addr} (u:PySem.W.isClsIn K C=true) (y:PySem.W.typeIn K (.ref C)=some (.type "type")) (s:PySem.W.subIn K (.ref C') (.ref C)=some false) (n:(Value.ref C' == Value.ref C)=false):PySem.W.kitOne K (.ref C') (.ref C)=some false:=by
 unfold PySem.W.kitOne
 rw [n,if_neg (by decide)]
 unfold PySem.W.kitCls
 simp only
 rw [show (PySem.W.clsIn K C).isSome=true from u,y,if_pos (by simp),s]
section
variable {X:Cx}
end
section
variable {X:Cx}
theorem vV {x:Str} {i:Int} {pos:Pos} (hm:∃ t,X.mg x=some (.int i t)) (hg:Gl X x:=by rfl) (hd:(x == ("__debug__" : Str))=false:=by decide):PV X (.Name x pos) (zE (.int i)) :=
 let ⟨t,h⟩:=hm
 pv_glob (v:=.int i) hg h ⟨t,rfl⟩ (fun _ _=>.int i) hd
end
section
variable {X:Cx}
end
section
variable {X:Cx} {k j n:Nat} {F:List D->Option Ret} {x:Str} {p pos:Pos} {e:Expr} {es:List Expr} {g:FA}
end
end FL
namespace PySem
open Sem (wp)
section
variable {prog:Program} {w:World} {A:Around} {R:Result->Shared->Prop} {I:Addr} {fp wr:List Addr} {n:Nat} {P:Nat->Value->Prop} {St:Nat->Heap->Prop} {kw:List (Str×Value)}
end
section
variable {prog:Program} {w:World} {A:Around} {E:Value->Shared->Prop} {s:Shared}
end
end PySem
namespace FL
open PySem PySem.Spec PyProof.Rows L2
section
variable {X:Cx}
end
open PySem.Calls PySem.Builtin PySem.Builtin.ObjectAttr PySem.Builtin.Getset_descriptor
open PySem.W (Looks looks_findIn looks_mroIn findIn mroIn specialIn takesIn KitX)
structure XIn (K:Frag) (C:Addr):Prop where
 ga:findIn K (.ref C) "__getattribute__" = some (some (.builtin "BaseException.__getattribute__"))
 gt:findIn K (.ref C) "__getattr__" = some none
 cl:findIn K (.ref C) "__class__" = some (some (.builtin "object.__class__"))
 ob:mroIn K C (.type "object")=some true
 be:mroIn K C (.type "BaseException")=some true
section
variable {prog:Program} {w:World} {A:Around} {E:Value->Shared->Prop} {h:Heap} {g:Array GenState} {d:Drawn} {t:Nat} {os:OsState} {a C:Addr} {o:Obj} {K:Frag}
theorem vF {M:Model} (hx:h.get? a=some o) (hc:o.cls = .ref C):Looks M h (typeOf (.ref a)) (.ref C):=hc ▸ (PySem.W.Looks.ld hx).andThen .now
theorem x_class_get {R:Result->Shared->Prop} {tp:Value} (X:K.In h) (hx:h.get? a=some o) (hc:o.cls = .ref C) (I:XIn K C) (hq:R (.ok (.ret (.ref C))) ⟨h,g,d,t,os⟩) :
  codeAny (model prog w) A (.call (.builtin "getset_descriptor.__get__") ⟨[.builtin "object.__class__",.ref a,tp],[]⟩) R ⟨h,g,d,t,os⟩:=by
 have L0:=vF (M:=model prog w) hx hc
 have L1:=looks_mroIn (M:=model prog w) X I.ob
 refine codeAny_call_builtin PySem.W.KF.slot_gs.plain PySem.W.KF.entry_gs (PySem.W.KF.slot_gs.check _ _ _ _ _ _ _ _ PySem.W.KF.type_class (PySem.W.KF.args_gs _ _ _) ?_)
 unfold Builtin.«getset_descriptor.__get__» descrGet
 rw [PySem.W.dga_obj]
 refine wpAny_bind (wpAny_pure ?_)
 unfold descrGetter descrCheckInstance descrNameAndClass isInstance
 simp only [PySem.W.KF.owner_class]
 repeat lk
 refine ⟨Code.quiet_builtin _ (by decide +kernel),codeAny_builtin PySem.W.KF.entry_class ?_⟩
 unfold Builtin.«object.__class__» shownTypeOf
 repeat lk
 exact hq
theorem x_check_ga {M:Model} {nameV:Value} {Q:Unit->Shared->Prop} (X:K.In h) (hx:h.get? a=some o) (hc:o.cls = .ref C) (I:XIn K C) (hq:Q () ⟨h,g,d,t,os⟩) :
  wpAny M A (checkBuiltinCall "BaseException.__getattribute__" ⟨[.ref a,nameV],[]⟩) Q E ⟨h,g,d,t,os⟩:=by
 have hk:builtinKind "BaseException.__getattribute__" = some .slot:=by decide +kernel
 have hsplit:splitId "BaseException.__getattribute__" = some ("BaseException","__getattribute__"):=by decide +kernel
 have L0:=vF (M:=M) hx hc
 have L1:=looks_mroIn (M:=M) X I.be
 have ha:=F.args_bexc_ga (.ref a) nameV
 simp only [checkBuiltinCall,hk,hsplit]
 refine wpAny_bind ?_
 · unfold isInstance
   repeat (first | with_reducible refine L0.at ?_ | with_reducible refine L1.at ?_ | wp_step)
   exact hq
theorem x_entry {tk:Tok} {Q:Fin->Shared->Prop} (X:K.In h) (hx:h.get? a=some o) (hc:o.cls = .ref C) (I:XIn K C) (hq:Q (.done (.ret (.ref C))) ⟨h,g,d,t,os⟩) :
  wpAny (model prog w) A (Builtin.«object.__getattribute__» ⟨[.ref a,.str "__class__" tk],[]⟩) Q E ⟨h,g,d,t,os⟩:=by
 have L0:=vF (M:=model prog w) hx hc
 have L1:=looks_findIn (M:=model prog w) X I.cl
 have hT5:(⟨h,g,d,t,os⟩:Shared).TypeIs (.builtin "object.__class__") "getset_descriptor":=F.typeOf_object_class
 have f5:=F.typeOf_object_class
 have f6:=F.slot_gs_get.lookup
 have f7:=F.slot_gs_set.lookup
 repeat (any_goals (first | assumption | with_reducible refine L0.at ?_ | with_reducible refine L1.at ?_ | wp_step))
 refine x_class_get X hx hc I ?_
 repeat (any_goals (first | assumption | wp_step))
theorem x_call {tk:Tok} {R:Result->Shared->Prop} (X:K.In h) (hx:h.get? a=some o) (hc:o.cls = .ref C) (I:XIn K C) (hq:R (.ok (.ret (.ref C))) ⟨h,g,d,t,os⟩) :
  codeAny (model prog w) A (.call (.builtin "BaseException.__getattribute__") ⟨[.ref a,.str "__class__" tk],[]⟩) R ⟨h,g,d,t,os⟩ :=
 codeAny_call_builtin F.attr_ValueError.ga.plain F.entry_bexc_ga (x_check_ga X hx hc I (x_entry X hx hc I hq))
theorem x_by {tk:Tok} {fill expr:Bool} {Q:Value->Shared->Prop} (X:K.In h) (hx:h.get? a=some o) (hc:o.cls = .ref C) (I:XIn K C) (hq:Q (.ref C) ⟨h,g,d,t,os⟩) :
  wpAny (model prog w) A (getAttrBy (.ref a) (.str "__class__" tk) fill expr) Q E ⟨h,g,d,t,os⟩:=by
 have L0:=vF (M:=model prog w) hx hc
 have L1:=looks_findIn (M:=model prog w) X I.ga
 have L2:=looks_findIn (M:=model prog w) X I.gt
 have f3:=F.attr_ValueError.ga.bind (.ref a)
 have hx0:(expr && onTheHeap (Value.builtin "BaseException.__getattribute__"))=false:=by cases expr <;> rfl
 have hx2:(Value.builtin "BaseException.__getattribute__" == Value.builtin "object.__getattribute__")=false:=by decide +kernel
 have hx1:(onTheHeap (Value.ref C) && Value.builtin "BaseException.__getattribute__" == Value.builtin "object.__getattribute__")=false:=by rw [hx2]; rfl
 repeat (any_goals (first | assumption | with_reducible refine L0.at ?_ | with_reducible refine L1.at ?_ | with_reducible refine L2.at ?_ | wp_step))
 refine x_call X hx hc I ?_
 repeat (any_goals (first | assumption | wp_step))
theorem x_attr {Q:Option Value->Shared->Prop} (X:K.In h) (hx:h.get? a=some o) (hc:o.cls = .ref C) (I:XIn K C) (hq:Q (some (.ref C)) ⟨h,g,d,t+1,os⟩) :
  wpAny (model prog w) A (getAttr? (.ref a) "__class__") Q E ⟨h,g,d,t,os⟩:=by
 unfold getAttr? getAttrBy?
 repeat (any_goals (first | assumption | with_reducible apply x_by X hx hc I | wp_step))
def IsX (a C:Addr) (h:Heap):Prop:=∃ o,h.get? a=some o/\o.cls = .ref C
theorem kitx_exc (I:XIn K C):KitX K (.ref a) (.ref C) (IsX a C) where
 ty:=fun _ _ _ ⟨o,h1,h2⟩=>vF h1 h2
 it:=fun _ _ X _=>by
  have hm:=I.ob
  unfold mroIn at hm
  cases hcD:PySem.W.clsIn K C with
  | none=>rw [hcD] at hm; cases hm
  | some cd =>
    unfold PySem.W.clsIn at hcD
    split at hcD
    · rename_i c' d' cd' sl' ho
      intro A' Q' E' s' k q
      unfold isType loadHead
      exact wpAny_bind (wpAny_loadPart (k _ _ (X _ _ ho)) (wpAny_pure q))
    · cases hcD
 ne:=fun h tp dd its n sl X htp=>by
  have hm:=I.ob
  unfold mroIn at hm
  cases hcD:PySem.W.clsIn K C with
  | none=>rw [hcD] at hm; cases hm
  | some cd =>
    refine Bool.eq_false_iff.mpr fun q=>?_
    have e:C=tp:=Value.ref.inj (beq_iff_eq.mp q)
    subst e
    unfold PySem.W.clsIn at hcD
    split at hcD
    · rename_i c' d' cd' sl' ho
      have z:=(X _ _ ho).symm.trans htp
      cases z
    · cases hcD
 ca:=fun {prog w A E Q s} X p k=>by
  obtain ⟨o,h1,h2⟩:=p
  obtain ⟨h,g,d,t,os⟩:=s
  exact x_attr X h1 h2 I k
end
end FL
namespace FL
open PySem PySem.Spec PyProof.Rows L2
open PySem.W (hideAll hideAll_get of_hideAll hideAll_none funFrames_hide excIn tail_of_in nsMap_none_of_in isNs_of_in)
theorem obj_get {P:Program} {w:World} {H:Hp} {h:Heap} {a:Addr} {o:HO} (x:ObjOk P w H h a o):∃ u,h.get? a=some u:=by
 cases o with
 | lst xs=>obtain ⟨_,_,_,_,e⟩:=x; exact ⟨_,e⟩
 | tup xs=>obtain ⟨_,_,_,_,e,_⟩:=x; exact ⟨_,e⟩
 | dK kvs=>obtain ⟨_,_,_,_,o,_,_,e,_⟩:=x; exact ⟨_,e⟩
 | dT kvs=>obtain ⟨_,_,_,_,o,_,_,e,_⟩:=x; exact ⟨_,e⟩
 | set S n=>obtain ⟨o,_,_,_,e,_⟩:=x; exact ⟨_,e⟩
 | ins C dx fs=>obtain ⟨_,_,_,e,_⟩:=x; exact ⟨_,e⟩
 | own y=>obtain ⟨_,e⟩:=x; exact ⟨_,e⟩
 | xd fs=>obtain ⟨_,⟨_,_,_,e,_⟩,_⟩:=x; exact ⟨_,e⟩
 | rng lo hi=>obtain ⟨_,_,_,e⟩:=x; exact ⟨_,e⟩
 | frz ob u=>obtain ⟨e,_⟩:=x; exact ⟨_,e⟩
 | tbl ps=>obtain ⟨_,e,_⟩:=x; exact ⟨_,e⟩
 | met f y=>exact ⟨_,(show h.get? a=some _ from x)⟩
 | ext φ=>obtain ⟨_,⟨_,e⟩,_⟩:=x; exact ⟨_,e⟩
structure Thrown (P:Program) (w:World) (outer:List Env) (H:Hp) (s:Shared) (cls:Value) (ea:Addr) (a0:Value) (B:Heap) (H':Hp) (h:Heap):Prop where
 fly:Heap.FlyingW B outer ea cls a0 h
 keep:∀ b o,s.heap.get? b=some o->H b=none->b ∉ frs outer->B.get? b=some o
 there:∀ b o,s.heap.get? b=some o->b ∉ frs outer->∃ o',B.get? b=some o'
 slot:∀ b o,s.heap.get? b=some o->b∈frs outer->∃ sl,h.get? b=some { o with slots:=sl }
 free:∀ b o,s.heap.get? b=some o->H b=none->H' b=none
 tups:∀ b xs,H b=some (.tup xs)->H' b=some (.tup xs)
 frzs:∀ b o u,H b=some (.frz o u)->H' b=some (.frz o u)
 tbls:∀ b ps,H b=some (.tbl ps)->H' b=some (.tbl ps)
 hok:L2.HOk P w H' B
section
variable {P:Program} {w:World} {outer:List Env} {H H':Hp} {s:Shared} {cls a0:Value} {ea:Addr} {B h h':Heap}
theorem Thrown.un (t:Thrown P w outer H s cls ea a0 B H' h):Un (frs outer) [] H H' s.heap h where
 keep:=fun b o e n hb _=>t.fly.1 b o (t.keep b o e n hb)
 slot:=fun b o e n hb _=>t.slot b o e hb
 free:=fun b o e n _=>t.free b o e n
 there:=fun b o e _=>by
  by_cases hb:b∈frs outer
  · obtain ⟨sl,q⟩:=t.slot b o e hb; exact ⟨_,q⟩
  · obtain ⟨o',q⟩:=t.there b o e hb; exact ⟨o',t.fly.1 b o' q⟩
 tups:=t.tups
 frzs:=t.frzs
 tbls:=t.tbls
theorem Thrown.hokh (t:Thrown P w outer H s cls ea a0 B H' h):L2.HOk P w H' h:=t.hok.kept t.fly.1
theorem Thrown.on (t:Thrown P w outer H s cls ea a0 B H' h) (f:Heap.FlyingW B outer ea cls a0 h') (u:h.UpToSlots h'):Thrown P w outer H s cls ea a0 B H' h' where
 fly:=f
 keep:=t.keep
 there:=t.there
 slot:=fun b o e hb=>by
  obtain ⟨sl,q⟩:=t.slot b o e hb
  obtain ⟨_,ob,ho,hd⟩:=t.fly.2.2.1.mem hb
  rw [q] at ho
  cases ho
  obtain ⟨sl',q'⟩:=u b _ q hd
  exact ⟨sl',q'⟩
 free:=t.free
 tups:=t.tups
 frzs:=t.frzs
 tbls:=t.tbls
 hok:=t.hok
theorem Thrown.no (t:Thrown P w outer H s cls ea a0 B H' h):H' ea=none:=by
 cases q:H' ea with
 | none=>rfl
 | some u =>
   obtain ⟨o,e⟩:=obj_get (t.hok _ _ q)
   rw [t.fly.2.1] at e; cases e
end
theorem hok_hidden {P:Program} {w:World} {H:Hp} {h:Heap} (x:L2.HOk P w H h) (l:List Addr) (hl:∀ b∈l,H b=none):L2.HOk P w H (hideAll h l):=fun a o e =>
 (x a o e).stay (fun b u hb q=>hideAll_get _ q fun z=>by
   rcases hb with rfl | hb
   · rw [hl _ z] at e; cases e
   · rw [hl _ z] at hb; cases hb) (fun _ q=>q) fun _ _ q=>q
def CXM (P:Program) (w:World):CXT:=fun outer H s E e s'=>∃ ea cls a0 B H',e = .ref ea/\s'.os=s.os/\AllBare s'.gens/\Thrown P w outer H s cls ea a0 B H' s'.heap/\E cls none H'
def XeOk (X:Cx) (C:Addr) (σ : L2.St) (H:Hp):Prop:=∀ (pins:List (Addr×Obj)) (s:Shared) (h':Heap) (e:Addr) (as:List Value),Inv X pins σ H s->Heap.MadeExcOf s.heap h' e (.ref C) as->X.xe (.ref e) { s with heap:=h' }
theorem xe_raise {P:Program} {w:World} {K:Frag} {mg:Str->Option Value} {base:Heap} {N:List Str} {qual:Str} {scope:Scope} {f C:Addr} {cd:Value} {A:Around} {outer:List Env} {s:Shared} {H H':Hp} {E:XK} {σ : L2.St}
  (hE:E (.ref C) none H'):XeOk (cxOf (CXM P w) P w K mg base N qual scope f cd A outer s H E) C σ H':=by
 intro pins s1 h1 e as I hx
 have hfr:frs (envOfC qual scope s.heap.objs.size f cd::outer)=s.heap.objs.size::frs outer:=rfl
 have nm:∀ b o,s.heap.get? b=some o->b ∉ frs outer->b ∉ frs (envOfC qual scope s.heap.objs.size f cd::outer):=fun b o q n z=>by
  rw [hfr] at z
  rcases List.mem_cons.mp z with z | z
  · exact absurd (Heap.lt_size q) (by rw [z]; exact Nat.lt_irrefl _)
  · exact n z
 show wpAny _ _ (leaving _ _) _ _ _
 refine wpAny_leaves_madeW (base:=hideAll s1.heap (frs (envOfC qual scope s.heap.objs.size f cd::outer))) (h:=s1.heap) I.ok.frames rfl (fun b o q=>of_hideAll _ q) (funFrames_hide I.stack fun env he b hb=>List.mem_filterMap.mpr ⟨env,he,hb⟩) hx fun h' t x1 x2 x3 x4=>?_
 refine ⟨e,.ref C,.ref t,_,H',rfl,I.os,I.bare,⟨x1,fun b o q n hb=>?_,fun b o q hb=>?_,fun b o q hb=>?_,fun b o q n=>I.base.free b o q n (by intro z; cases z),I.base.tups,I.base.frzs,I.base.tbls,?_⟩,hE⟩
 · exact hideAll_get _ (I.base.keep b o q n hb (by intro z; cases z)) (nm b o q hb)
 · obtain ⟨o', q'⟩ := I.base.there b o q (by intro z; cases z)
   exact ⟨o',hideAll_get _ q' (nm b o q hb)⟩
 · obtain ⟨sl, q'⟩ := I.base.slot b o q (I.ok.frf b hb) hb (by intro z; cases z)
   obtain ⟨_,ob,ho,hd⟩:=I.ok.funs.mem hb
   have ho':s.heap.get? b=some ob:=ho
   rw [q] at ho'
   cases ho'
   obtain ⟨sl',q''⟩:=x4 b _ (hx.keeps _ _ q') hd
   exact ⟨sl',q''⟩
 · exact hok_hidden I.hok _ I.stkFree
abbrev bmVE:List Value:=[.type "ValueError",.type "Exception",.type "BaseException",.type "object"]
structure XCls (K:Frag) (C:Addr):Prop where
 exc:excIn K C bmVE "ValueError.__new__" = true
 xin:XIn K C
theorem xcls_at {K:Frag} {h:Heap} {C:Addr} {bmB:List Value} {newId:String} (X:K.In h) (q:excIn K C bmB newId=true):∃ bm N nm qn bs hdct sn sub ab col dd k0 k1 k2 k3 k5 mN,h.get? C=some (excClassObj nm qn C N bs bm hdct sn sub ab col dd k0 k1 k2 k3 k5 newId)/\h.Ns N mN/\mN "__init__" = none/\OwnTail h bmB bm:=by
 unfold excIn at q
 split at q
 · rename_i dd cd sl ho
   split at q
   · rename_i C' bm k0 k1 k2 k3 n k5 hm hs
     simp only [Bool.and_eq_true,beq_iff_eq,Bool.not_eq_true'] at q
     obtain ⟨⟨⟨⟨⟨rfl,rfl⟩,hdel⟩,ht⟩,hok⟩,hni⟩:=q
     obtain ⟨nm,bs,mro,ns,qn,hd,sn,sub,ab,col,del⟩:=cd
     dsimp only at hm hdel hok hni
     subst hm hdel
     have hsl:sl = #[k0,k1,k2,k3,some (.builtin n),k5]:=by
      obtain ⟨l⟩:=sl
      simp only at hs
      rw [hs]
     subst hsl
     exact ⟨bm,ns,nm,qn,bs,hd,sn,sub,ab,col,dd,k0,k1,k2,k3,k5,_,X _ _ ho,.of_isNs (isNs_of_in X hok),nsMap_none_of_in X hok hni,tail_of_in X ht⟩
   · cases q
 · cases q
def tRaise (X:Cx) (C:Addr):TS:=fun _ σ H=>XeOk X C σ H
theorem ps_raise {X:Cx} {C:Addr} {x txt:Str} {j:Nat} {np cp cpos pos:Pos} (hC:XCls X.K C) (hm:X.mg x=some (.ref C)) (hcalm:X.calm=true) (hg:Gl X x:=by rfl) (hdb:(x == ("__debug__" : Str))=false:=by decide)
  (he:starEach [.Constant (.str txt) j cp] X.env=[(false,eval (.Constant (.str txt) j cp) X.env)]:=by rfl):PS X (.Raise (some (.Call (.Name x np) [.Constant (.str txt) j cp] [] cpos)) none pos) (tRaise X C):=by
 intro pins s σ H D I h
 obtain ⟨bm,N,nm,qn,bs,hdct,sn,sub,ab,col,dd,k0,k1,k2,k3,k5,mN,h1,h2,h3,h4⟩:=xcls_at I.kIn hC.exc
 have hbase:bm.contains (.type "BaseException")=true:=h4.hasType (by decide +kernel)
 refine wpAny_Raise_call_subU (C:=C) (mN:=mN) (N:=N) (nm:=nm) (q:=qn) (bs:=bs) (bm:=bm) (hdct:=hdct) (sn:=sn) (sub:=sub) (ab:=ab) (col:=col) (dd:=dd) (k0:=k0) (k1:=k1) (k2:=k2) (k3:=k3) (k5:=k5) F.excBase_ValueError (by decide +kernel) F.excBase_ValueError hbase (I.ok.hd hcalm) (by rw [he]; rfl) h3 (vC I hg hm ⟨rfl,?_⟩ hdb)
 rw [he]
 show wpAny _ _ (evalArgs _ true ((false,eval (.Constant (.str txt) j cp) X.env)::[]) []) _ _ s
 refine Calls.evalArgs_plain (Calls.spliced_cons ?_)
 refine Calls.Constant_str (k:=j) (pos:=cp) (Calls.spliced_nil ?_)
 have I2:=I.tok (s.toks+1)
 refine ⟨rfl,by show 1<=sizeLine; decide,h1,h2,h4,fun h' e hx=>?_⟩
 exact h pins _ h' e _ I2 hx
section
variable (X:Cx) (C:Addr)
def PSx (st:Stmt) (x:List Sl->Bool):Prop:=∃ t,PS X st t/\∀ H₀ H O σ ds hd E,Ok X.K H₀ H O σ ds hd->x ds=true->(∀ σ' H',Same H₀ H'->XeOk X C σ' H')->t E σ H
end
section
variable {X:Cx} {C:Addr}
theorem psx_raise {x txt:Str} {j:Nat} {np cp cpos pos:Pos} (hC:XCls X.K C) (hm:X.mg x=some (.ref C)) (hcalm:X.calm=true:=by rfl) (hg:Gl X x:=by rfl) (hdb:(x == ("__debug__" : Str))=false:=by decide)
  (he:starEach [.Constant (.str txt) j cp] X.env=[(false,eval (.Constant (.str txt) j cp) X.env)]:=by rfl):PSx X C (.Raise (some (.Call (.Name x np) [.Constant (.str txt) j cp] [] cpos)) none pos) alwaysX :=
 ⟨_,ps_raise hC hm hcalm hg hdb he,fun H₀ H O σ ds hd E o _ h=>h σ H o.same⟩
end
def spX (K:Frag) (n:Nat) (R:List D->Bool) (C:Addr):Sp:=fun vs H _ E=>vs.length=n/\∃ ds,Reps K H yT vs ds/\R ds=true/\∀ H',Same H H'->E (.ref C) none H'
structure CalX (P:Program) (w:World) (K:Frag) (mg:Str->Option Value) (base:Heap) (x:Str) (k n:Nat) (R:List D->Bool) (C:Addr):Prop where
 ex:∃ (f:Addr) (fd:FuncData) (ps:List Str),FnOk P w K mg base (CXM P w) k f fd ps (spX K n R C)/\Binds K fd ps []/\PySem.W.keepIn K (.ref f)=true/\mg x=some (.ref f)
end FL
namespace FL
open PySem PySem.Spec PyProof.Rows L2
open PySem.W (Looks looks_mroIn mroIn)
abbrev suiteCx (X:Cx) (ea:Addr) (xe:Value->Shared->Prop):Cx:={ X with A:=X.A.mark (some (.ref ea)),calm:=false,xe:=xe }
section
variable {X:Cx} {pins:List (Addr×Obj)} {σ : L2.St} {H:Hp} {s:Shared} {ea:Addr} {oe:Obj} {xe:Value->Shared->Prop}
theorem inv_suite (I:Inv X pins σ H s):Inv (suiteCx X ea xe) pins σ H s:=by
 have ok:=I.ok
 exact ⟨⟨ok.mod,ok.kind,ok.glob,ok.blt,ok.above,ok.inj,ok.has,ok.cab,(fun z=>by cases z),ok.frames,ok.stk,ok.exf,ok.bs,ok.bsz,ok.noex,ok.exfs,ok.funs,ok.frf⟩,I.os,I.bare,I.base,I.loc,I.cell,I.free,I.freeC,I.pin,I.hok,I.len⟩
theorem inv_unsuite (I:Inv (suiteCx X ea xe) pins σ H s) (hd:X.calm=true->X.A.handled=none):Inv X pins σ H s:=by
 have ok:=I.ok
 exact ⟨⟨ok.mod,ok.kind,ok.glob,ok.blt,ok.above,ok.inj,ok.has,ok.cab,hd,ok.frames,ok.stk,ok.exf,ok.bs,ok.bsz,ok.noex,ok.exfs,ok.funs,ok.frf⟩,I.os,I.bare,I.base,I.loc,I.cell,I.free,I.freeC,I.pin,I.hok,I.len⟩
theorem inv_track (I:Inv X pins σ H s) (hn:H ea=none) (h1:s.heap.get? ea=some oe) (h3:ea≠X.env.locals) (h0:X.s₀.heap.get? ea=none) (hc:∀ v,oe.data≠.cell v) (hp:∀ p∈X.pn++pins,p.1≠ea) :
  Inv X pins σ (upd H ea (.frz oe (.own ea))) s:=by
 have nz:∀ b u,H b=some u->b≠ea:=fun b u e z=>by rw [z,hn] at e; cases e
 have n0:∀ b o,X.s₀.heap.get? b=some o->b≠ea:=fun b o e z=>by rw [z,h0] at e; cases e
 refine ⟨I.ok,I.os,I.bare,⟨I.base.keep,I.base.slot,fun b o e n hx=>?_,I.base.there,fun b xs e=>?_,fun b o u e=>?_,fun b ps e=>?_⟩,I.loc,I.cell,?_,fun x c e=>?_,fun p hpp=>?_,fun b u e=>?_,I.len⟩
 · rw [zS (n0 b o e)]; exact I.base.free b o e n hx
 · have:=I.base.tups b xs e; rw [zS (nz b _ this)]; exact this
 · have:=I.base.frzs b o u e; rw [zS (nz b _ this)]; exact this
 · have:=I.base.tbls b ps e; rw [zS (nz b _ this)]; exact this
 · rw [zS (Ne.symm h3)]; exact I.free
 · have hz:c≠ea:=by
    intro z
    obtain ⟨v,o,ho,hd⟩:=I.cell x c e
    rw [z,h1] at ho
    cases ho
    exact hc v hd
   have:=I.freeC x c e
   unfold FreeC at this ⊢
   rw [zS hz]
   exact this
 · obtain ⟨q1, q2, q3, q4, q5⟩ := I.pin p hpp
   exact ⟨q1,by rw [zS (hp p hpp)]; exact q2,q3,q4,q5⟩
 · by_cases hb : b = ea
   · subst hb
     rw [qG] at e
     cases e
     exact ⟨h1,oe,h1⟩
   · rw [zS hb] at e
     exact (I.hok b u e).stay (fun _ _ _ q=>q) (fun c q=>by rw [zS (nz c _ q)]; exact q) fun c xs q=>by rw [zS (nz c _ q)]; exact q
theorem inv_gone {i:Nat} {x:Str} {m:Str->Option Value} {h':Heap} {v:Option Value} {t':Nat} (I:Inv X pins σ H s) (hN:X.N.Nodup) (hi:X.N[i]? = some x) (hn:s.heap.Ns X.env.locals m)
  (hl:∀ (i:Nat) (x:Str) (v:V),X.N[i]? = some x->σ[i]? = some (some v)->Vis X.env.scope x->∃ u,RelV v u/\Look X.env s.heap m x u)
  (hn':h'.Ns X.env.locals (fun y=>if y=x then v else m y)) (hs:Heap.SameBut X.env.locals s.heap h'):Inv X pins (σ.set i none) H { s with heap:=h',toks:=t' }:=by
 have cne:=I.cne
 obtain ⟨oL,_,_,hoL,_⟩:=id hn
 refine ⟨I.ok,I.os,I.bare,⟨fun b o e n hb hx=>?_,fun b o e n hb hx=>?_,I.base.free,fun b o e hx=>?_,I.base.tups,I.base.frzs,I.base.tbls⟩,⟨_,hn',fun j y v' e1 e2 e3=>?_⟩,fun y c e=>?_,I.free,I.freeC,fun p hp=>?_,fun b ob e=>?_,by simpa using I.len⟩
 · exact (hs.2 b (Nat.ne_of_lt (Nat.lt_of_lt_of_le (Heap.lt_size e) I.ok.above))).trans (I.base.keep b o e n hb hx)
 · obtain ⟨sl, e1⟩ := I.base.slot b o e n hb hx
   exact ⟨sl,(hs.2 b (Nat.ne_of_lt (Nat.lt_of_lt_of_le (Heap.lt_size e) I.ok.above))).trans e1⟩
 · obtain ⟨o', e1⟩ := I.base.there b o e hx
   exact ⟨o',(hs.2 b (Nat.ne_of_lt (Nat.lt_of_lt_of_le (Heap.lt_size e) I.ok.above))).trans e1⟩
 · by_cases hj : j = i
   · subst hj
     have hiσ : j < σ.length:=by rw [I.len]; exact (List.getElem?_eq_some_iff.mp hi).1
     rw [List.getElem?_set_self hiσ] at e2
     cases e2
   · rw [List.getElem?_set_ne (Ne.symm hj)] at e2
     obtain ⟨u',r',q⟩:=hl j y v' e1 e2 e3
     refine ⟨u',r',?_⟩
     rcases q with ⟨k,e⟩ | ⟨k,c,e,z⟩
     · refine .inl ⟨k, ?_⟩
       have:y≠x:=fun e=>hj (vJ hN e1 (e ▸ hi))
       simp [this,e]
     · exact .inr ⟨k,c,e,z.sameBut hs (cne y c e)⟩
 · obtain ⟨w', z⟩ := I.cell y c e
   exact ⟨w',z.sameBut hs (cne y c e)⟩
 · obtain ⟨e, n, ne, nf, d⟩ := I.pin p hp
   exact ⟨(hs.2 p.1 ne).trans e,n,ne,nf,d⟩
 · refine (I.hok b ob e).stay (fun c w' hc q => (hs.2 c ?_).trans q) (fun _ q => q) fun _ _ q => q
   rintro rfl
   have hfree:=I.free
   rcases hc with rfl | hc
   · rw [hfree] at e; cases e
   · rw [hfree] at hc; cases hc
end
theorem Ok.setNo {K:Frag} {H₀ H:Hp} {O:Addr->Prop} {σ : L2.St} {ds:List Sl} {hd:Hold} (o:Ok K H₀ H O σ ds hd) (i:Nat) (v:Option V):Ok K H₀ H O (σ.set i v) (ds.set i .no) hd:=by
 have own':∀ {j:Nat},IsOwn (ds.set i .no) j->j≠i/\IsOwn ds j:=fun {j} ⟨l,e⟩=>by
  by_cases hj:j=i
  · subst hj
    by_cases hl:j < ds.length
    · rw [List.getElem?_set_self hl] at e; cases e
    · rw [List.getElem?_eq_none (by simpa using hl)] at e; cases e
  · rw [List.getElem?_set_ne (Ne.symm hj)] at e
    exact ⟨hj,l,e⟩
 refine ⟨o.same,fun j l a e1 e2=>?_,o.dom,by simpa using o.len,fun j s e=>?_,fun j k a hjk hj hk e1 e2=>?_,o.hold⟩
 · obtain ⟨n1, h1⟩ := own' ⟨l, e1⟩
   rw [List.getElem?_set_ne (Ne.symm n1)] at e1 e2
   exact o.fresh j l a e1 e2
 · by_cases hj : j = i
   · subst hj
     by_cases hl:j < ds.length
     · rw [List.getElem?_set_self hl] at e
       cases e
       exact jX
     · rw [List.getElem?_eq_none (by simpa using hl)] at e; cases e
   · rw [List.getElem?_set_ne (Ne.symm hj)] at e
     rw [List.getElem?_set_ne (Ne.symm hj)]
     exact o.sl j s e
 · obtain ⟨n1, h1⟩ := own' hj
   obtain ⟨n2,h2⟩:=own' hk
   rw [List.getElem?_set_ne (Ne.symm n1)] at e1
   rw [List.getElem?_set_ne (Ne.symm n2)] at e2
   exact o.apart j k a hjk h1 h2 e1 e2
theorem Ok.setX {K:Frag} {H₀ H:Hp} {O:Addr->Prop} {σ : L2.St} {ds:List Sl} {hd:Hold} (o:Ok K H₀ H O σ ds hd) {i t:Nat} {a C:Addr} {ob:Obj} {u:HO} (h1:PySem.W.nsIn K mainGlobals (xName t)=some (some (.ref C))) (h2:H a=some (.frz ob u)) (h3:ob.cls = .ref C) :
  Ok K H₀ H O (σ.set i (some (.ref a))) (ds.set i (.exc t)) hd:=by
 have own':∀ {j:Nat},IsOwn (ds.set i (.exc t)) j->j≠i/\IsOwn ds j:=fun {j} ⟨l,e⟩=>by
  by_cases hj:j=i
  · subst hj
    by_cases hl:j < ds.length
    · rw [List.getElem?_set_self hl] at e; cases e
    · rw [List.getElem?_eq_none (by simpa using hl)] at e; cases e
  · rw [List.getElem?_set_ne (Ne.symm hj)] at e
    exact ⟨hj,l,e⟩
 refine ⟨o.same,fun j l a e1 e2=>?_,o.dom,by simpa using o.len,fun j s e=>?_,fun j k a hjk hj hk e1 e2=>?_,o.hold⟩
 · obtain ⟨n1, h1⟩ := own' ⟨l, e1⟩
   rw [List.getElem?_set_ne (Ne.symm n1)] at e1 e2
   exact o.fresh j l a e1 e2
 · by_cases hj : j = i
   · subst hj
     by_cases hl:j < ds.length
     · rw [List.getElem?_set_self hl] at e
       cases e
       rw [List.getElem?_set_self (by rw [o.len]; exact hl)]
       exact ⟨C,ob,u,h1,h2,h3⟩
     · rw [List.getElem?_eq_none (by simpa using hl)] at e; cases e
   · rw [List.getElem?_set_ne (Ne.symm hj)] at e
     rw [List.getElem?_set_ne (Ne.symm hj)]
     exact o.sl j s e
 · obtain ⟨n1, h1⟩ := own' hj
   obtain ⟨n2,h2⟩:=own' hk
   rw [List.getElem?_set_ne (Ne.symm n1)] at e1
   rw [List.getElem?_set_ne (Ne.symm n2)] at e2
   exact o.apart j k a hjk h1 h2 e1 e2
def Throws (X:Cx) (C:Addr) (st:Stmt) (x:List Sl->Bool):Prop:=∀ (pins:List (Addr×Obj)) (s:Shared) (σ : L2.St) (H H₀ : Hp) (O:Addr->Prop) (ds:List Sl) (hd:Hold),Inv X pins σ H s->Ok X.K H₀ H O σ ds hd->x ds=true →
 (∀ ea a0 B H1 H' s1 s',Inv X pins σ H1 s1->Same H H1->Same H1 H'->Thrown X.prog X.w X.stack H1 s1 (.ref C) ea a0 B H' s'.heap->s'.os=s1.os->AllBare s'.gens->X.xe (.ref ea) s')->wpAny (model X.prog X.w) X.A (exec st X.env) (fun _ _=>False) X.xe s
section
variable {X:Cx} {k j n:Nat} {R:List D->Bool} {C:Addr} {x:Str} {p pos:Pos} {e:Expr} {es:List Expr} {g:FA}
theorem call_thrown (CX:CalX X.prog X.w X.K X.mg X.base x k n R C) (hr:Room j X.A) (ha:PAn X (e::es) g) (hj:k<=j) (hg:Gl X x) (hdb:(x == ("__debug__" : Str))=false)
  (he:starEach (e::es) X.env=(false,eval e X.env)::starEach es X.env) (hpl:(backTo pos (starEach es X.env)).any (·.1)=false)
  {pins:List (Addr×Obj)} {s:Shared} {σ : L2.St} {H H₀ : Hp} {O:Addr->Prop} {ds:List Sl} {hd:Hold} {Q:Value->Shared->Prop} (I:Inv X pins σ H s) (o:Ok X.K H₀ H O σ ds hd) (ex:callX n R g ds=true)
  (W:∀ ea a0 B H1 H' s1 s',Inv X pins σ H1 s1->Same H H1->Same H1 H'->Thrown X.prog X.w X.stack H1 s1 (.ref C) ea a0 B H' s'.heap->s'.os=s1.os->AllBare s'.gens->X.xe (.ref ea) s') :
  wpAny (model X.prog X.w) X.A (eval (.Call (.Name x p) (e::es) [] pos) X.env) Q X.xe s:=by
 obtain ⟨f,fd,ps,Fn,hb,hk,hm⟩:=CX.ex
 obtain ⟨t,ht,hf⟩:=ha
 unfold callX at ex
 cases hl:g ds with
 | none=>rw [hl] at ex; cases ex
 | some l =>
   rw [hl] at ex
   simp only [Bool.and_eq_true,decide_eq_true_eq] at ex
   refine wpAny_Call_Name_kw (vC I hg hm ?_ hdb)
   refine PySem.W.callWith_K (h₀:=X.base) I.ok.mod.kin hk (thn (ht pos pins s σ H (fun vs H1=>Same H H1/\Reps X.K H1 yT vs l) I (hf H₀ H O σ ds hd l _ o hl fun vs H1 s1 r=>⟨s1,r⟩)) fun us s1 ⟨vs,H1,I1,r,q1,q2⟩=>⟨I1.kIn,?_⟩) he hpl
   have sp:spX X.K n R C vs H1 (fun _ _=>False) (fun cl _ H'=>cl = .ref C/\Same H1 H'):=⟨by rw [q2.length]; exact ex.1,l,q2,ex.2,fun H' s'=>⟨rfl,s'⟩⟩
   have hl2:us.length=ps.length:=by rw [<- r.length]; exact Fn.len _ _ _ _ sp
   have bd:=hb s1 us I1.kIn (by rw [List.append_nil]; exact hl2)
   rw [List.append_nil] at bd
   refine wpAny_call (codeAny_mono (Fn.run X.A X.stack s1 H1 ⟨us,[]⟩ us vs (fun _ _=>False) (fun cl _ H'=>cl = .ref C/\Same H1 H') (hr.mono hj) I1.env0 bd r sp) fun r s' hq=>?_)
   cases r with
   | error e' =>
     obtain ⟨ea,cls,a0,B,H',rfl,os,bare,T,rfl,sm⟩:=hq
     exact W ea a0 B H1 H' s1 s' I1 q1 sm T os bare
   | ok fl =>
     cases fl with
     | ret u=>obtain ⟨v,H',_,_,_,_,_,z⟩:=hq; exact z.elim
     | next=>exact False.elim hq
     | brk=>exact False.elim hq
     | cont=>exact False.elim hq
theorem thr_expr {pos':Pos} (CX:CalX X.prog X.w X.K X.mg X.base x k n R C) (hr:Room j X.A) (ha:PAn X (e::es) g) (hj:k<=j:=by decide) (hg:Gl X x:=by rfl) (hdb:(x == ("__debug__" : Str))=false:=by decide)
  (he:starEach (e::es) X.env=(false,eval e X.env)::starEach es X.env:=by rfl) (hpl:(backTo pos (starEach es X.env)).any (·.1)=false:=by rfl) (hs:swapsWith (.Call (.Name x p) (e::es) [] pos) none pos'.line X.env=pure false:=by rfl) :
  Throws X C (.Expr (.Call (.Name x p) (e::es) [] pos) pos') (callX n R g):=by
 intro pins s σ H H₀ O ds hd I o ex W
 exact wpAny_Expr_any (call_thrown CX hr ha hj hg hdb he hpl I o ex W) I.quiet hs
theorem psv_drop {f:FE} {e:Expr} (h:PV X e f) (hs:swapsWith e none pos.line X.env=pure false:=by rfl):PSv X (.Expr e pos) (dropG f):=by
 obtain ⟨t,ht,hf⟩:=h
 refine ⟨_,wZ ht hs,fun H₀ H O σ ds hd out E o e' h=>?_⟩
 unfold dropG at e'
 cases hh:f ds with
 | none=>rw [hh] at e'; cases e'
 | some d =>
   rw [hh] at e'
   cases e'
   exact hf H₀ H O σ ds hd d _ o hh fun v H' s r=>h σ H' O (o.mono s)
end
end FL
namespace FL
open PySem PySem.Spec PyProof.Rows L2
open PySem.W (Looks looks_mroIn mroIn clsIn)
structure XCatch (K:Frag) (C S:Addr):Prop where
 kit:PySem.W.kitCls K (.ref C) (.ref S)=some true
 be:mroIn K S (.type "BaseException")=some true
section
variable {prog:Program} {w:World} {A:Around} {E:Value->Shared->Prop} {h:Heap} {g:Array GenState} {d:Drawn} {t:Nat} {os:OsState} {a C S:Addr} {o:Obj} {K:Frag}
theorem x_matches {M:Model} {Q:Bool->Shared->Prop} (X:K.In h) (hx:h.get? a=some o) (hc:o.cls = .ref C) (hS:XCatch K C S) (hq:Q true ⟨h,g,d,t,os⟩) :
  wpAny M A (excMatches (.ref a) (.ref S)) Q E ⟨h,g,d,t,os⟩:=by
 have L0:=vF (M:=M) hx hc
 have L1:=looks_mroIn (M:=M) X hS.be
 obtain ⟨L3,L4,L2⟩:=PySem.W.kit_cls (M:=M) X hS.kit
 have f:=tc_notTuple
 unfold excMatches
 repeat (first | with_reducible refine L0.at ?_ | with_reducible refine L1.at ?_ | with_reducible refine L2.at ?_ | with_reducible refine L3.at ?_ | with_reducible refine L4.at ?_ | with_reducible refine wpAny_loadPart_at hx ?_ | wp_step)
 exact hq
end
section
variable {X:Cx}
theorem run_suite {ea:Addr} {xe0:Value->Shared->Prop} {sts:List Stmt} {h:FS} {pins:List (Addr×Obj)} {σ : L2.St} {H H₀ : Hp} {O:Addr->Prop} {ds:List Sl} {hd:Hold} {out:Out} {D:Ends} {s:Shared}
  (hs:∀ xe,PSsv (suiteCx X ea xe) sts h) (I:Inv (suiteCx X ea xe0) pins σ H s) (o:Ok X.K H₀ H O σ ds hd) (e:h ds=some out) (af:After X H₀ hd D out) {EXC:Value->Shared->Prop} {POST:Flow->Shared->Prop}
  (hp:∀ f s',SP (suiteCx X ea EXC) pins D f s'->POST f s'):wpAny (model X.prog X.w) (X.A.mark (some (.ref ea))) (execs sts X.env) POST EXC s:=by
 obtain ⟨t,ht,hf⟩:=hs EXC
 exact wpAny_mono (ht pins s σ H D (I.wish EXC) (hf H₀ H O σ ds hd out D o e af)) hp (fun _ _ z=>z)
theorem after_gone {H₀ : Hp} {hd:Hold} {D:Ends} {i:Nat} {out:Out} (af:After X H₀ hd D (goneO i out)) :
  After X H₀ hd { nx:=fun σ H=>D.nx (σ.set i none) H,rt:=D.rt,bk:=fun σ H=>D.bk (σ.set i none) H,ct:=fun σ H=>D.ct (σ.set i none) H } out:=by
 cases out with
 | nx ds=>exact fun σ H O o=>af _ _ O (o.setNo i none)
 | bk ds=>exact fun σ H O o=>af _ _ O (o.setNo i none)
 | ct ds=>exact fun σ H O o=>af _ _ O (o.setNo i none)
 | rt r=>exact af
theorem fly_apart {B h:Heap} {l:List Env} {e:Addr} {cls a0:Value} (f:Heap.FlyingW B l e cls a0 h):e ∉ frs l/\∃ oe,h.get? e=some oe/\oe.cls=cls/\∀ v,oe.data≠.cell v:=by
 obtain ⟨_,_,f3,oe,vs,T,oT,ts,he,hc,hd,_⟩:=f
 refine ⟨fun z=>?_,oe,he,hc.1,fun v q=>by rw [hd] at q; cases q⟩
 obtain ⟨_,o,ho,hn⟩:=f3.mem z
 rw [he] at ho
 cases ho
 exact hn vs hd
def tryE (X:Cx) (pins:List (Addr×Obj)) (D:Ends) (hs:List ExceptHandler):Value->Shared->Prop:=fun e s₁=>wpAny (model X.prog X.w) X.A (noteFrame e X.env) (fun _ s₂=>wpAny (model X.prog X.w) X.A (setFlight e none) (fun _ s₃=>wpAny (model X.prog X.w) X.A (handleBy e X.env hs) (SP X pins D) X.xe s₃) X.xe s₂) X.xe s₁
end
end FL
namespace FL
open PySem PySem.Spec PyProof.Rows L2
def IsxOk (K:Frag) (cv:Value) (tb:List (Nat×Bool)):Prop:=∀ t b,tb.lookup t=some b->∀ C,PySem.W.nsIn K mainGlobals (xName t)=some (some (.ref C))->XIn K C/\PySem.W.kitOne K (.ref C) cv=some b
def IsxOkT (K:Frag) (its:List Value) (tb:List (Nat×Bool)):Prop:=∀ t b,tb.lookup t=some b->∀ C,PySem.W.nsIn K mainGlobals (xName t)=some (some (.ref C))->XIn K C/\PySem.W.kitAny K (.ref C) its=some b
theorem isx_oneT {K:Frag} {its:List Value} {t:Nat} {b:Bool} {C:Addr} (n:PySem.W.nsIn K mainGlobals (xName t)=some (some (.ref C))) (x:XIn K C) (k:PySem.W.kitAny K (.ref C) its=some b):IsxOkT K its [(t,b)]:=fun t' b' e C' n'=>by
 by_cases h:t'=t
 · subst h
   simp [List.lookup] at e
   subst e
   rw [n] at n'
   cases n'
   exact ⟨x,k⟩
 · have : (t' == t) = false := beq_eq_false_iff_ne.mpr h
   simp [List.lookup,this] at e
section
variable {X:Cx}
theorem call_isx:CallR X (.builtin "isinstance") (fun xs H Q=>∃ a o u C c cv b,xs=[.ref a,c]/\clsV c cv/\H a=some (.frz o u)/\o.cls = .ref C/\XIn X.K C/\PySem.W.kitOne X.K (.ref C) cv=some b/\Q (.bl b) H):=by
 intro pins s σ H xs us Q I r h
 obtain ⟨a,o,v,C,c,cv,b,rfl,hc,ha,ho,hx,e,q⟩:=h
 obtain ⟨u,u2,rfl,ru,ru2⟩:=vals2 r
 have e2:u2=cv:=by
  cases c with
  | ty n=>cases (show cv = .type n from hc); cases (show u2 = .type n from ru2); rfl
  | ref a=>cases (show cv = .ref a from hc); cases (show u2 = .ref a from ru2); rfl
  | _=>exact (show False from hc).elim
 subst e2
 cases (show u=Value.ref a from ru)
 have hg:s.heap.get? a=some o:=(show s.heap.get? a=some o/\ObjOk X.prog X.w H s.heap a v from I.hok a _ ha).1
 exact PySem.W.kia_one (kitx_exc hx) I.kIn ⟨o,hg,ho⟩ e (fun z=>nomatch z) fun tk=>⟨.bl b,H,I.tok tk,rfl,q⟩
theorem vals_refs:∀ {l:List Addr} {us:List Value},Vals (l.map V.ref) us->us=l.map Value.ref
 | [],_,.nil=>rfl
 | a :: l, _, .cons (b := u) r t => by
   rw [vals_refs t,show u=Value.ref a from r]
   rfl
theorem call_isxT:CallR X (.builtin "isinstance") (fun xs H Q=>∃ (a:Addr) (o:Obj) (u:HO) (C tp:Addr) (Ds:List Addr) (b:Bool),xs=[.ref a,.ref tp]/\H tp=some (.tup (Ds.map V.ref))/\H a=some (.frz o u)/\o.cls = .ref C/\XIn X.K C/\PySem.W.kitAny X.K (.ref C) (Ds.map Value.ref)=some b/\Q (.bl b) H):=by
 intro pins s σ H xs us Q I r h
 obtain ⟨a,o,v,C,tp,Ds,b,rfl,ht,ha,ho,hx,e,q⟩:=h
 obtain ⟨u,u2,rfl,ru,ru2⟩:=vals2 r
 cases (show u=Value.ref a from ru)
 cases (show u2=Value.ref tp from ru2)
 have hg:s.heap.get? a=some o:=(show s.heap.get? a=some o/\ObjOk X.prog X.w H s.heap a v from I.hok a _ ha).1
 obtain ⟨_,its,rv,ot,hot,hotc,n,hotd⟩:=(show ObjOk X.prog X.w H s.heap tp (.tup (Ds.map V.ref)) from I.hok tp _ ht)
 obtain ⟨c0,dd0,dat0,sl0⟩:=ot
 simp only at hotc hotd
 subst hotc hotd
 rw [vals_refs rv] at hot
 exact PySem.W.kia_tup (kitx_exc hx) I.kIn ⟨o,hg,ho⟩ hot e (fun z=>nomatch z) fun tk=>⟨.bl b,H,I.tok tk,rfl,q⟩
def tCs (Ds:List Addr):TA:=fun _ H Q=>Q (Ds.map V.ref) H
def PAc (X:Cx) (es:List Expr) (Ds:List Addr):Prop:=PA X es (tCs Ds)
theorem pac_nil:PAc X [] []:=yC
theorem jP {x:Str} {pos:Pos} {es:List Expr} {D:Addr} {Ds:List Addr} (hm:X.mg x=some (.ref D)) (h:PAc X es Ds) (hg:Gl X x:=by rfl) (hd:(x == ("__debug__" : Str))=false:=by decide)
  (hs:starEach (.Name x pos::es) X.env=(false,eval (.Name x pos) X.env)::starEach es X.env:=by rfl):PAc X (.Name x pos::es) (D::Ds):=by
 have:=qS (kG (v:=.ref D) (pos:=pos) hg hm rfl hd) h hs
 exact this
section
variable {en:Str} {i:Nat} {p pe pT pos:Pos} {tb:List (Nat×Bool)}
theorem vY {σ : L2.St} {H₀ H:Hp} {O:Addr->Prop} {ds:List Sl} {hd:Hold} {d:D} (o:Ok X.K H₀ H O σ ds hd) (e:isxG i tb ds=some d):∃ t b,ds[i]? = some (.exc t)/\tb.lookup t=some b/\d = .bl b:=by
 unfold isxG at e
 cases hs:ds[i]? with
 | none=>rw [hs] at e; cases e
 | some s =>
   rw [hs] at e
   cases s with
   | exc t =>
     simp only at e
     cases hl:tb.lookup t with
     | none=>rw [hl] at e; cases e
     | some b=>rw [hl] at e; cases e; exact ⟨t,b,rfl,hl,rfl⟩
   | no=>cases e
   | v d=>cases e
   | own l=>cases e
   | fr l=>cases e
theorem pv_isx {x:Str} (hm:X.mg "isinstance" = none) (hI:∃ D,X.mg x=some (.ref D)/\IsxOk X.K (.ref D) tb) (hN:X.N[i]? = some en:=by rfl) (hv:Vis X.env.scope en:=by exact Or.inl rfl) (hde:(en == ("__debug__" : Str))=false:=by decide)
  (hcd:(en == ("__classdict__" : Str))=false:=by decide) (hg:Gl X "isinstance":=by rfl) (hgT:Gl X x:=by rfl)
  (h1:starEach [.Name en pe,.Name x pT] X.env=(false,eval (.Name en pe) X.env)::starEach [.Name x pT] X.env:=by rfl) (h2:starEach [.Name x pT] X.env=(false,eval (.Name x pT) X.env)::starEach [] X.env:=by rfl) (h3:(backTo pos (starEach [.Name x pT] X.env)).any (·.1)=false:=by rfl)
  (hd:(x == ("__debug__" : Str))=false:=by decide):PV X (.Call (.Name "isinstance" p) [.Name en pe,.Name x pT] [] pos) (isxG i tb):=by
 obtain ⟨D,hT,hI⟩:=hI
 refine ⟨_,xK call_isx hg hm (by decide +kernel) (qS (yY hN hv hde hcd) (qS (kG (v:=.ref D) hgT hT rfl hd) yC h2) h1) (by decide) (by decide) h1 h3,fun H₀ H O σ ds hd d Q o e q=>?_⟩
 obtain ⟨t,b,hs,hl,rfl⟩:=vY o e
 obtain ⟨a,C,ob,u,q1,q2,q3,q4⟩:=o.readX hs
 obtain ⟨x1,x2⟩:=hI t b hl C q2
 exact ⟨.ref a,q1,a,ob,u,C,.ref D,.ref D,b,rfl,rfl,q3,q4,x1,x2,q _ H (Same.refl _) (.bl b)⟩
theorem pv_isxB {x:Str} {T:String} (hm:X.mg "isinstance" = none) (hx:X.mg x=none) (hI:IsxOk X.K (.type T) tb) (hb:bootBuiltins x=some (.type T):=by decide +kernel) (hN:X.N[i]? = some en:=by rfl) (hv:Vis X.env.scope en:=by exact Or.inl rfl) (hde:(en == ("__debug__" : Str))=false:=by decide)
  (hcd:(en == ("__classdict__" : Str))=false:=by decide) (hg:Gl X "isinstance":=by rfl) (hgT:Gl X x:=by rfl)
  (h1:starEach [.Name en pe,.Name x pT] X.env=(false,eval (.Name en pe) X.env)::starEach [.Name x pT] X.env:=by rfl) (h2:starEach [.Name x pT] X.env=(false,eval (.Name x pT) X.env)::starEach [] X.env:=by rfl) (h3:(backTo pos (starEach [.Name x pT] X.env)).any (·.1)=false:=by rfl)
  (hn:x≠"__name__":=by decide) (hd:(x == ("__debug__" : Str))=false:=by decide):PV X (.Call (.Name "isinstance" p) [.Name en pe,.Name x pT] [] pos) (isxG i tb):=by
 refine ⟨_,xK call_isx hg hm (by decide +kernel) (qS (yY hN hv hde hcd) (qS (pe_bltn (v:=.ty T) hgT hx hb rfl hn hd) yC h2) h1) (by decide) (by decide) h1 h3,fun H₀ H O σ ds hd d Q o e q=>?_⟩
 obtain ⟨t,b,hs,hl,rfl⟩:=vY o e
 obtain ⟨a,C,ob,u,q1,q2,q3,q4⟩:=o.readX hs
 obtain ⟨x1,x2⟩:=hI t b hl C q2
 exact ⟨.ref a,q1,a,ob,u,C,.ty T,.type T,b,rfl,rfl,q3,q4,x1,x2,q _ H (Same.refl _) (.bl b)⟩
theorem pv_isxT {es:List Expr} {Ds:List Addr} {x1} (hm:X.mg "isinstance" = none) (hP:PAc X es Ds) (hI:IsxOkT X.K (Ds.map Value.ref) tb) (hz:Ds.length<=100:=by first | decide | simp) (hN:X.N[i]? = some en:=by rfl) (hv:Vis X.env.scope en:=by exact Or.inl rfl) (hde:(en == ("__debug__" : Str))=false:=by decide)
  (hcd:(en == ("__classdict__" : Str))=false:=by decide) (hg:Gl X "isinstance":=by rfl)
  (h1:starEach [.Name en pe,.Tuple es x1 pT] X.env=(false,eval (.Name en pe) X.env)::starEach [.Tuple es x1 pT] X.env:=by rfl) (h2:starEach [.Tuple es x1 pT] X.env=(false,eval (.Tuple es x1 pT) X.env)::starEach [] X.env:=by rfl) (h3:(backTo pos (starEach [.Tuple es x1 pT] X.env)).any (·.1)=false:=by rfl) :
  PV X (.Call (.Name "isinstance" p) [.Name en pe,.Tuple es x1 pT] [] pos) (isxG i tb):=by
 refine ⟨_,xK call_isxT hg hm (by decide +kernel) (qS (yY hN hv hde hcd) (qS (pe_tup hP) yC h2) h1) (by decide) (by decide) h1 h3,fun H₀ H O σ ds hd d Q o e q=>?_⟩
 obtain ⟨t,b,hs,hl,rfl⟩:=vY o e
 obtain ⟨a,C,ob,u,q1,q2,q3,q4⟩:=o.readX hs
 obtain ⟨x1,x2⟩:=hI t b hl C q2
 refine ⟨.ref a,q1,?_,fun tp htp=>?_⟩
 · show (Ds.map V.ref).length <= sizeLine
   have:(100:Nat)<=sizeLine:=by decide
   simp; omega
 · have na : a ≠ tp := fun z => by rw [z, htp] at q3; cases q3
   refine ⟨a,ob,u,C,tp,Ds,b,rfl,qG,by rw [zS na]; exact q3,q4,x1,x2,q _ _ (fun b' o' e'=>?_) (.bl b)⟩
   rw [zS (fun z=>by rw [z,htp] at e'; cases e')]; exact e'
end
end
structure XR (K:Frag) (mg:Str->Option Value) (t:Nat) (C:Addr):Prop where
 nm:PySem.W.nsIn K mainGlobals (xName t)=some (some (.ref C))
 gl:mg (xName t)=some (.ref C)
 cls:XCls K C
structure XT (K:Frag) (mg:Str->Option Value) (t:Nat) (x:Str) (C S:Addr):Prop where
 nm:PySem.W.nsIn K mainGlobals (xName t)=some (some (.ref C))
 gl:mg x=some (.ref S)
 cat:XCatch K C S
section
variable {X:Cx} {m:Str} {k j:Nat} {cs:List Nat} {F:Nat->List D->Option Ret} {o:Expr} {apos pos:Pos} {fo:FE}
end
section
variable {X:Cx} {C:Addr} {x:Str} {p pos:Pos}
end
theorem kitCls_yes {K:Frag} {C C':Addr} (u:PySem.W.isClsIn K C=true) (y:PySem.W.typeIn K (.ref C)=some (.type "type")) (s:PySem.W.subIn K (.ref C') (.ref C)=some true):PySem.W.kitCls K (.ref C') (.ref C)=some true:=by
 unfold PySem.W.kitCls
 simp only
 rw [show (PySem.W.clsIn K C).isSome=true from u,y,if_pos (by simp),s]
theorem kitB_yes {K:Frag} {C':Addr} {T:String} (u:PySem.W.kitMeta T=true) (s:PySem.W.subIn K (.ref C') (.type T)=some true):PySem.W.kitOne K (.ref C') (.type T)=some true:=by
 unfold PySem.W.kitOne
 split
 · rfl
 · unfold PySem.W.kitCls
   simp only
   rw [u,if_pos rfl,s]
theorem kitAny_nil {K:Frag} {t:Value} : PySem.W.kitAny K t []=some false:=rfl
theorem zX {K:Frag} {t c:Value} {r:List Value} {b:Bool} (h:PySem.W.kitOne K t c=some false) (h2:PySem.W.kitAny K t r=some b):PySem.W.kitAny K t (c::r)=some b:=by
 unfold PySem.W.kitAny
 rw [h]
 exact h2
section
variable {K:Frag} {H:Hp} {O:Addr->Prop} {a:Addr} {xs ys:List V}
end
section
variable {X:Cx}
end
theorem pass_on {P:Program} {w:World} {K:Frag} {mg:Str->Option Value} {base:Heap} {N:List Str} {qual:Str} {scope:Scope} {f:Addr} {cd:Value} {A:Around} {outer:List Env} {s:Shared} {H:Hp} {E:XK} :
  Passes (CXM P w) (cxOf (CXM P w) P w K mg base N qual scope f cd A outer s H E) E:=by
 intro pins σ H1 s1 e s' I h
 obtain ⟨ea,cls,a0,B,H',rfl,os,bare,T,hE⟩:=h
 have hfr:frs (envOfC qual scope s.heap.objs.size f cd::outer)=s.heap.objs.size::frs outer:=rfl
 have nm:∀ b o,s.heap.get? b=some o->b ∉ frs outer->b ∉ frs (envOfC qual scope s.heap.objs.size f cd::outer):=fun b o q n z=>by
  rw [hfr] at z
  rcases List.mem_cons.mp z with z | z
  · exact absurd (Heap.lt_size q) (by rw [z]; exact Nat.lt_irrefl _)
  · exact n z
 show wpAny _ _ (leaving _ _) _ _ _
 refine wpAny_leaves_onW I.ok.frames rfl T.fly fun h' x1 x4=>?_
 refine ⟨ea,cls,a0,B,H',rfl,os.trans I.os,bare,⟨x1,fun b o q n hb=>?_,fun b o q hb=>?_,fun b o q hb=>?_,fun b o q n=>?_,fun b xs q=>T.tups b xs (I.base.tups b xs q),fun b o u q=>T.frzs b o u (I.base.frzs b o u q),fun b ps q=>?_,T.hok⟩,hE⟩
 · exact T.keep b o (I.base.keep b o q n hb (by intro z; cases z)) (I.base.free b o q n (by intro z; cases z)) (nm b o q hb)
 · obtain ⟨o', q'⟩ := I.base.there b o q (by intro z; cases z)
   exact T.there b o' q' (nm b o q hb)
 · obtain ⟨sl, q'⟩ := I.base.slot b o q (I.ok.frf b hb) hb (by intro z; cases z)
   obtain ⟨sl2,q2⟩:=T.slot b _ q' (List.mem_cons_of_mem _ hb)
   obtain ⟨_,ob,ho,hd⟩:=I.ok.funs.mem hb
   have ho':s.heap.get? b=some ob:=ho
   rw [q] at ho'
   cases ho'
   obtain ⟨sl',q''⟩:=x4 b _ q2 hd
   exact ⟨sl',q''⟩
 · obtain ⟨o', q'⟩ := I.base.there b o q (by intro z; cases z)
   exact T.free b o' q' (I.base.free b o q n (by intro z; cases z))
 · exact T.tbls b ps (I.base.tbls b ps q)
section
variable (X:Cx) (E:XK) (C:Addr)
def PSy (st:Stmt) (x:List Sl->Bool):Prop:=∃ t,PS X st t/\∀ H₀ H O σ ds hd D,Ok X.K H₀ H O σ ds hd->x ds=true->(∀ σ' H',Same H₀ H'->XeOk X C σ' H')->(∀ H',Same H₀ H'->E (.ref C) none H')->t D σ H
def PSsy (st:List Stmt) (x:List Sl->Bool):Prop:=∃ t,PSs X st t/\∀ H₀ H O σ ds hd D,Ok X.K H₀ H O σ ds hd->x ds=true->(∀ σ' H',Same H₀ H'->XeOk X C σ' H')->(∀ H',Same H₀ H'->E (.ref C) none H')->t D σ H
def PEy (e:Expr) (x:List Sl->Bool):Prop:=∃ t,PE X e t/\∀ H₀ H O σ ds hd Q,Ok X.K H₀ H O σ ds hd->x ds=true->(∀ H',Same H₀ H'->E (.ref C) none H')->t σ H Q
def PSsAny (st:List Stmt):Prop:=∃ t,PSs X st t
end
section
variable {X:Cx} {E:XK} {C:Addr}
theorem PSx.y {st:Stmt} {x:List Sl->Bool} (h:PSx X C st x):PSy X E C st x:=by
 obtain ⟨t,ht,hf⟩:=h
 exact ⟨t,ht,fun H₀ H O σ ds hd D o e q _=>hf H₀ H O σ ds hd D o e q⟩
theorem PSsv.any {st:List Stmt} {g:FS} (h:PSsv X st g):PSsAny X st:=let ⟨t,ht,_⟩:=h; ⟨t,ht⟩
theorem pssy_never {st:List Stmt} (h:PSsAny X st):PSsy X E C st neverX:=by
 obtain ⟨t,ht⟩:=h
 exact ⟨t,ht,fun _ _ _ _ _ _ _ _ e _ _=>by cases e⟩
theorem yD {st:Stmt} {rest:List Stmt} {x:List Sl->Bool} (h1:PSy X E C st x) (h2:PSsAny X rest):PSsy X E C (st::rest) x:=by
 obtain ⟨t,ht,hf⟩:=h1
 obtain ⟨u,hu⟩:=h2
 exact ⟨_,wD ht hu,fun H₀ H O σ ds hd D o e q p=>hf H₀ H O σ ds hd _ o e q p⟩
theorem wW {st:Stmt} {rest:List Stmt} {f:FS} {x:List Sl->Bool} (h1:PSv X st f) (h2:PSsy X E C rest x):PSsy X E C (st::rest) (seqX f x):=by
 obtain ⟨t,ht,hf⟩:=h1
 obtain ⟨u,hu,hg⟩:=h2
 refine ⟨_,wD ht hu,fun H₀ H O σ ds hd D o e q p=>?_⟩
 unfold seqX at e
 cases h1:f ds with
 | none=>rw [h1] at e; cases e
 | some o1 =>
   rw [h1] at e
   cases o1 with
   | nx ds'=>exact hf H₀ H O σ ds hd _ _ o h1 (fun σ' H' O' o'=>hg H₀ H' O' σ' ds' hd D o' e q p)
   | _=>cases e
theorem psy_if {c:Expr} {a b:List Stmt} {pos:Pos} {fc:FT} {xa xb:List Sl->Bool} (hc:PTv X c fc) (ha:PSsy X E C a xa) (hb:PSsy X E C b xb):PSy X E C (.If c a b pos) (ifX fc xa xb):=by
 obtain ⟨tc,hc,hcf⟩:=hc
 obtain ⟨ta,ha,haf⟩:=ha
 obtain ⟨tb,hb,hbf⟩:=hb
 refine ⟨_,ps_if hc ha hb,fun H₀ H O σ ds hd D o e q p=>?_⟩
 unfold ifX at e
 cases hh:fc ds with
 | none=>rw [hh] at e; cases e
 | some k =>
   rw [hh] at e
   refine hcf H₀ H O σ ds hd k _ o hh fun H' s=>?_
   cases k with
   | true=>exact haf H₀ H' O σ ds hd D (o.mono s) e q p
   | false=>exact hbf H₀ H' O σ ds hd D (o.mono s) e q p
theorem psy_ret {e:Expr} {pos:Pos} {x:List Sl->Bool} (h:PEy X E C e x):PSy X E C (.Return (some e) pos) x:=by
 obtain ⟨t,ht,hf⟩:=h
 exact ⟨_,ps_ret ht,fun H₀ H O σ ds hd D o e _ p=>hf H₀ H O σ ds hd _ o e p⟩
section
variable {k j n:Nat} {R:List D->Bool} {x:Str} {p pos:Pos} {e:Expr} {es:List Expr} {g:FA}
theorem vK (hp:Passes (CXM X.prog X.w) X E) (CX:CalX X.prog X.w X.K X.mg X.base x k n R C) (hr:Room j X.A) (ha:PAn X (e::es) g) (hj:k<=j:=by decide) (hg:Gl X x:=by rfl) (hdb:(x == ("__debug__" : Str))=false:=by decide)
  (he:starEach (e::es) X.env=(false,eval e X.env)::starEach es X.env:=by rfl) (hpl:(backTo pos (starEach es X.env)).any (·.1)=false:=by rfl):PEy X E C (.Call (.Name x p) (e::es) [] pos) (callX n R g):=by
 obtain ⟨f,fd,ps,Fn,hb,hk,hm⟩:=CX.ex
 obtain ⟨t,ht,hf⟩:=ha
 refine ⟨_,pe_call (E:=E) Fn (hr.mono hj) hg hm hk hb .nil hp ht hdb he hpl,fun H₀ H O σ ds hd Q o ex q=>?_⟩
 unfold callX at ex
 cases hl:g ds with
 | none=>rw [hl] at ex; cases ex
 | some l =>
   rw [hl] at ex
   simp only [Bool.and_eq_true,decide_eq_true_eq] at ex
   refine hf H₀ H O σ ds hd l _ o hl fun vs H1 s1 r1=>?_
   have hl':=r1.length
   exact ⟨by simp only [List.append_nil]; rw [hl']; exact ex.1,l,by simpa using r1,ex.2,fun H' s'=>q H' (o.same.trans (s1.trans s'))⟩
end
end
theorem wV {P:Program} {w:World} {K:Frag} {mg:Str->Option Value} {base:Heap} {x qual:Str} {st:Stmt} {f C:Addr} {fd:FuncData} {N ps:List Str} {k:Nat} {R:List D->Bool} (Fn:Fun K x qual st f fd) (S:FnScope N ps (zB st))
  {g:List Sl->Bool} (hbody:∀ (cdv:Value) (A:Around) (outer:List Env) (s:Shared) (H:Hp) (E:XK),Room k (A.deeper (envOfC qual (zB st) s.heap.objs.size f cdv))->PSsy (cxOf (CXM P w) P w K mg base N qual (zB st) f cdv A outer s H E) E C (zL st) g)
  (hg:∀ ds,ds.length=ps.length->R ds=true->g (args N.length ds)=true):FnOk P w K mg base (CXM P w) (k+1) f fd ps (spX K ps.length R C):=by
 obtain ⟨oc,od,kV,doc,pm,an,cdv,ct,osl,rfl,lk,hcd⟩:=Fn.ex
 refine fn_of lk hcd S (fun vs H Q E h=>h.1) fun A outer s H vs Q E hr h=>?_
 obtain ⟨hl,ds,rv,e,q⟩:=h
 obtain ⟨t,ht,hf⟩:=hbody cdv A outer s H E hr
 exact ⟨t,ht,hf H H yT _ _ [] _ (ok_start (N:=N) rv) (hg ds (by rw [<- rv.length]; exact hl) e) (fun σ' H' s'=>xe_raise (q H' s')) q⟩
section
variable {X:Cx} {E:XK} {C:Addr} {t k j n:Nat} {R:List D->Bool} {x:Str} {p pos:Pos} {e:Expr} {es:List Expr} {g:FA}
end
section
variable {X:Cx}
theorem try_lands {st b₀ : Stmt} {suite:List Stmt} {sx en:Str} {hp hpos:Pos} {i t:Nat} {C S:Addr} {h:FS} {x:List Sl->Bool}
  (hN:X.N.Nodup) (hm:X.mg sx=some (.ref S)) (hS:XCatch X.K C S) (hC:PySem.W.nsIn X.K mainGlobals (xName t)=some (some (.ref C)))
  (hx:∀ W,Throws (X.wish W) C st x) (hs:∀ ea xe,PSsv (suiteCx X ea xe) (b₀::suite) h)
  (hi:X.N[i]? = some en) (hlo:X.env.kindOf en=some .local) (hst:X.stack=X.env::X.outer) (hfr:X.env.frame=some X.env.locals) (hex:X.ex=[])
  (hgS:Gl X sx) (hdb:(sx == ("__debug__" : Str))=false)
  {pins:List (Addr×Obj)} {s:Shared} {σ : L2.St} {H H₀ : Hp} {O:Addr->Prop} {ds:List Sl} {hd:Hold} {D:Ends} {out':Out} (I:Inv X pins σ H s) (o:Ok X.K H₀ H O σ ds hd) (hxd:x ds=true) (hh:h (ds.set i (.exc t))=some out') (af:After X H₀ hd D (goneO i out')) :
  wpAny (model X.prog X.w) X.A (exec st X.env) (fun _ _=>False) (tryE X pins D [.ExceptHandler (some (.Name sx hp)) (some en) (b₀::suite) hpos]) s:=by
 have hLoc:Loc X.env.scope en:=.inl hlo
 have hsub:∀ b,b∈X.env.locals::X.fs->b∈frs X.stack:=fun b hb=>by
  rw [hst]; unfold frs; rw [List.filterMap_cons,hfr]; exact hb
 refine hx (tryE X pins D [.ExceptHandler (some (.Name sx hp)) (some en) (b₀::suite) hpos]) pins s σ H H₀ O ds hd (I.wish _) o hxd ?_
 intro ea a0 B H1 H' s1 s' I1 m1 m2 T os bare
 have I1':Inv X pins σ H1 s1:=I1.unwish
 have T:Thrown X.prog X.w X.stack H1 s1 (.ref C) ea a0 B H' s'.heap:=T
 show wpAny _ _ (noteFrame _ _) _ _ _
 have hA:X.A.frames=some (X.env::X.outer):=by rw [<- hst]; exact I.ok.frames
 refine wpAny_looks_onW hA hfr (by rw [<- hst]; exact T.fly) fun h₄ held₄ sm₄=>?_
 refine wpAny_landsW held₄ fun h₅ fly₅ sm₅=>?_
 have T5:=T.on (h':=h₅) (by rw [hst]; exact fly₅) (sm₄.trans sm₅)
 have I5:Inv X pins σ H' { s' with heap:=h₅ }:=I1'.call' (ch:=[]) os T5.un T5.hokh bare (fun b z=>by cases z)
 obtain ⟨ap5,ob,hob,hobc,hobd⟩:=fly_apart T5.fly
 refine wpAny_handleBy_cons (codeAny_handlers_test ?_) (by intro q; cases q)
 refine vC (X:=suiteCx X ea X.xe) (inv_suite I5) hgS hm ?_ hdb
 refine x_matches (K:=X.K) I5.kIn hob hobc hS ?_
 refine codeAny_handlers_suite_as ?_
 refine lands_againW (s:={ s' with heap:=h₅ }) fly₅ fun h₆ fly₆ sm₆=>?_
 have T6:=T5.on (h':=h₆) (by rw [hst]; exact fly₆) sm₆
 have I6:Inv X pins σ H' { s' with heap:=h₆ }:=I1'.call' (ch:=[]) os T6.un T6.hokh bare (fun b z=>by cases z)
 obtain ⟨ap6,oe,hoe,hoec,hoed⟩:=fly_apart T6.fly
 have nb:∀ b o,s1.heap.get? b=some o->b≠ea:=fun b o e z=>by
  subst z
  obtain ⟨o',q⟩:=T6.there b o e ap6
  rw [T6.fly.2.1] at q; cases q
 have h0:X.s₀.heap.get? ea=none:=by
  cases q:X.s₀.heap.get? ea with
  | none=>rfl
  | some o' =>
    obtain ⟨o'',q'⟩:=I1'.base.there ea o' q (by rw [hex]; intro z; cases z)
    exact (nb ea o'' q' rfl).elim
 have It:=inv_track I6 T6.no hoe (fun z=>ap6 (hsub _ (by rw [z]; exact List.mem_cons_self))) h0 hoed fun p hpp=>nb p.1 p.2 (I1'.pin p hpp).1
 have sm:Same H' (upd H' ea (.frz oe (.own ea))):=fun b u e=>by rw [zS (fun z=>by rw [z,T6.no] at e; cases e)]; exact e
 refine vN (X:=suiteCx X ea X.xe) (i:=i) (v:=.ref ea) (inv_suite It) hN hi hLoc rfl (fun s7 I7=>?_) (.inr hlo)
 refine run_suite (fun xe=>hs ea xe) I7 ((o.mono ((m1.trans m2).trans sm)).setX hC qG hoec) hh (after_gone af) fun f s8 h8=>?_
 have hcls:(X.env.scope.kind == .class || (X.env.scope.kind == .module && X.env.locals != X.env.globals))=false:=by rw [I.ok.kind]; rfl
 have gone:∀ xe σ' H8,Inv (suiteCx X ea xe) pins σ' H8 s8->∀ Q:Unit->Shared->Prop,(∀ s9,Inv X pins (σ'.set i none) H8 s9->Q () s9)->wpAny (model X.prog X.w) X.A (do bindName X.env en .none; unbindBehindTheSuite X.env en hpos) Q X.xe s8:=fun xe σ' H8 I8 Q k=>by
  have I8':=inv_unsuite I8 I.ok.hd
  obtain ⟨m,hn,hl⟩:=id I8'.loc
  exact wpAny_nameGoes_keeps hlo hn hcls fun h' v hn' hs'=>k _ (inv_gone I8' hN hi hn hl hn' hs')
 cases f with
 | next=>obtain ⟨σ',H8,I8,q⟩:=h8; exact gone _ σ' H8 I8 _ fun s9 I9=>⟨_,H8,I9,q⟩
 | brk=>obtain ⟨σ',H8,I8,q⟩:=h8; exact gone _ σ' H8 I8 _ fun s9 I9=>⟨_,H8,I9,q⟩
 | cont=>obtain ⟨σ',H8,I8,q⟩:=h8; exact gone _ σ' H8 I8 _ fun s9 I9=>⟨_,H8,I9,q⟩
 | ret u=>obtain ⟨v,σ',H8,I8,r,q⟩:=h8; exact gone _ σ' H8 I8 _ fun s9 I9=>⟨v,_,H8,I9,r,q⟩
theorem psv_try2 {st b₀ : Stmt} {suite:List Stmt} {sx en:Str} {hp hpos pos:Pos} {i t u:Nat} {C C' S:Addr} {g h:FS} {x y:List Sl->Bool}
  (hN:X.N.Nodup) (hm:X.mg sx=some (.ref S)) (hS:XCatch X.K C S) (hS':XCatch X.K C' S) (hC:PySem.W.nsIn X.K mainGlobals (xName t)=some (some (.ref C))) (hC':PySem.W.nsIn X.K mainGlobals (xName u)=some (some (.ref C')))
  (hg:∀ W,PSv (X.wish W) st g) (hx:∀ W,Throws (X.wish W) C st x) (hy:∀ W,Throws (X.wish W) C' st y) (hs:∀ ea xe,PSsv (suiteCx X ea xe) (b₀::suite) h)
  (hi:X.N[i]? = some en:=by rfl) (hlo:X.env.kindOf en=some .local:=by rfl) (hst:X.stack=X.env::X.outer:=by rfl) (hfr:X.env.frame=some X.env.locals:=by rfl) (hex:X.ex=[]:=by rfl)
  (hgS:Gl X sx:=by rfl) (hdb:(sx == ("__debug__" : Str))=false:=by decide) :
  PSv X (.Try [st] [.ExceptHandler (some (.Name sx hp)) (some en) (b₀::suite) hpos] [] [] pos) (tryG2 i t u g x y h):=by
 refine ⟨fun D σ H=>∀ pins s,Inv X pins σ H s->wpAny (model X.prog X.w) X.A (exec (.Try [st] [.ExceptHandler (some (.Name sx hp)) (some en) (b₀::suite) hpos] [] [] pos) X.env) (SP X pins D) X.xe s,
  fun pins s σ H D I h=>h pins s I,fun H₀ H O σ ds hd out D o e af pins s I=>?_⟩
 refine wpAny_Try_except (wpAny_execs_cons ?_)
 show wpAny _ _ _ _ (tryE X pins D [.ExceptHandler (some (.Name sx hp)) (some en) (b₀::suite) hpos]) s
 unfold tryG2 at e
 by_cases hxd:x ds=true
 · rw [if_pos hxd] at e
   cases hh:h (ds.set i (.exc t)) with
   | none=>rw [hh] at e; cases e
   | some out' =>
     rw [hh] at e
     cases e
     exact wpAny_mono (try_lands hN hm hS hC hx hs hi hlo hst hfr hex hgS hdb I o hxd hh af) (fun _ _ z=>z.elim) (fun _ _ z=>z)
 rw [if_neg hxd] at e
 by_cases hyd:y ds=true
 · rw [if_pos hyd] at e
   cases hh:h (ds.set i (.exc u)) with
   | none=>rw [hh] at e; cases e
   | some out' =>
     rw [hh] at e
     cases e
     exact wpAny_mono (try_lands hN hm hS' hC' hy hs hi hlo hst hfr hex hgS hdb I o hyd hh af) (fun _ _ z=>z.elim) (fun _ _ z=>z)
 · rw [if_neg hyd] at e
   obtain ⟨t,ht,hf⟩:=hg (tryE X pins D [.ExceptHandler (some (.Name sx hp)) (some en) (b₀::suite) hpos])
   refine wpAny_mono (ht pins s σ H D (I.wish _) (hf H₀ H O σ ds hd out D o e af)) (fun f s1 q=>?_) (fun _ _ z=>z)
   have q':=q.unwish
   cases f with
   | next=>exact wpAny_execs_nil (wpAny_execs_nil q')
   | brk=>exact q'
   | cont=>exact q'
   | ret u=>exact q'
end
section
variable {X:Cx} {k j i:Nat} {F:Nat->Option Ret} {x en:Str} {p pe pos:Pos}
end
theorem kI {K:Frag} {cv:Value} : IsxOk K cv []:=fun t b e=>by cases e
theorem xC {K:Frag} {cv:Value} {t:Nat} {b:Bool} {C:Addr} {tb:List (Nat×Bool)} (n:PySem.W.nsIn K mainGlobals (xName t)=some (some (.ref C))) (x:XIn K C) (k:PySem.W.kitOne K (.ref C) cv=some b) (r:IsxOk K cv tb):IsxOk K cv ((t,b)::tb):=fun t' b' e C' n'=>by
 by_cases h:t'=t
 · subst h
   simp [List.lookup] at e
   subst e
   rw [n] at n'
   cases n'
   exact ⟨x,k⟩
 · have hf : (t' == t) = false := beq_eq_false_iff_ne.mpr h
   simp only [List.lookup,hf] at e
   exact r t' b' e C' n'
end FL
namespace L2
open PySem PySem.Spec PyProof.Rows
section
variable {X:Cx}
end
end L2
namespace FL
open PySem PySem.Spec PyProof.Rows L2
section
variable {X:Cx}
end
section
variable {X:Cx}
end
end FL
namespace L2
open PySem PySem.Spec PyProof.Rows
section
variable {X:Cx}
theorem Inv.drw {pins:List (Addr×Obj)} {s:Shared} {σ} {H:Hp} (I:Inv X pins σ H s) (d:Drawn):Inv X pins σ H { s with drawn:=d } :=
 I.step (h':=s.heap) (H':=H) (g':=s.gens) (t':=s.toks) (d':=d) (ch:=[]) (fun _ z=>nomatch z) (fun b o _ _ _ e _=>e) (fun b o _ _ _ e _=>⟨o.slots,e⟩) (fun _ _ _ _ n=>n) (fun b o _ e=>⟨o,e⟩)
  (fun _ _ e=>e) (fun _ _ _ e=>e) (fun _ _ e=>e) (fun m hm=>hm) I.hok I.bare
theorem vals_nums:∀ {us:List Value} {ns:List Int},IntsAre us ns->Vals (ns.map V.int) us
 | _,_,.nil=>.nil
 | _,_,.cons n t h=>.cons ⟨t,rfl⟩ (vals_nums h)
def tSrtS (ta:TA) (K:PySem.W.Frag):TE:=fun σ H Q=>ta σ H fun vs H1=>∃ (p:Addr) (ns:List Int),vs=[.ref p]/\SqL K H1 p (ns.map V.int)/\ns.length+1 < 4096/\∀ l,H1 l=none->Q (.ref l) (upd H1 l (.lst ((FL.srtU ns).map V.int)))
theorem pe_srtS {a:Expr} {ta:TA} {p p2 pos pos2:Pos} (hc:X.calm=true) (hgl:Gl X "sorted") (hml:X.mg "sorted" = none) (hg:Gl X "set") (hm:X.mg "set" = none) (ha:PA X [a] ta)
  (hl:starEach [.Call (.Name "set" p2) [a] [] pos2] X.env=[(false,eval (.Call (.Name "set" p2) [a] [] pos2) X.env)]:=by rfl)
  (hs:starEach [a] X.env=[(false,eval a X.env)]:=by rfl) :
  PE X (.Call (.Name "sorted" p) [.Call (.Name "set" p2) [a] [] pos2] [] pos) (tSrtS ta X.K):=by
 intro pins s σ H Q I h
 refine wpAny_Call_Name_kw (wP I hgl hml (show bootBuiltins "sorted" = some (.builtin "sorted") by decide +kernel) ?_)
 refine PyProof.Rows.callWith_builtin1 ?_ hl rfl
 rw [hl]
 show wpAny _ _ (spliced ((false,eval (.Call (.Name "set" p2) [a] [] pos2) X.env)::backTo pos [])) _ _ s
 refine Calls.spliced_cons ?_
 refine Call_ (wP I hg hm (show bootBuiltins "set" = some (.type "set") by decide +kernel) (PyProof.Rows.callWith_type1 (thn (ha pos2 pins s σ H _ I h) fun us s1 ⟨vs,H1,I1,r1,q1⟩=>?_) hs rfl))
 obtain ⟨l,ns,e,hq,hz0,q⟩:=q1
 subst e
 obtain ⟨u,rfl,ru⟩:=vals1 r1
 cases ru
 obtain ⟨its,rv,pl,hz⟩:=I1.list hq
 have hi:IntsAre its ns:=intsAre_of rv
 have hlen:=rv.length
 have hil:=IntsAre.length hi
 refine TS.call_set (I.ok.hd hc) pl.isList (by simpa using hi) (by simp only [List.size_toArray]; unfold scanBound; omega) fun h' tk hS hk=>?_
 have I2:Inv X pins σ H1 { s1 with heap:=h',toks:=tk }:=I1.kept hk
 refine Calls.spliced_nil ?_
 refine TS.sorted_set (s:={ s1 with heap:=h',toks:=tk }) (I.ok.hd hc) hS (by simp only [List.size_toArray]; rw [sizeLine_eq]; omega) fun h1 h2 d tk2 vs' ks e k1 k2 hL hI' hlt hm hle=>?_
 have en:ks=FL.srtU ns:=FL.lt_unique _ _ (fun k=>(hm k).trans (FL.mem_srtU k ns).symm) hlt (FL.srtU_lt ns)
 have I3:Inv X pins σ H1 { s1 with heap:=h1,drawn:=d,toks:=tk2 }:=Inv.kept (s:={ s1 with heap:=h',drawn:=d,toks:=tk }) (I2.drw d) k1
 refine ⟨.ref h1.objs.size,_,Inv.laid (s:={ s1 with heap:=h1,drawn:=d,toks:=tk2 }) I3 (t':=tk2) k2 (Nat.le_refl _) (show ObjOk X.prog X.w _ h2 _ (.lst ((FL.srtU ns).map V.int)) from ⟨?_,vs',e,?_,hL⟩),rfl,q _ (I3.hok.fresh (Nat.le_refl _))⟩
 · have h1 := IntsAre.length hI'
   rw [<- en,List.length_map]
   simp only [List.size_toArray] at hle
   rw [sizeLine_eq]
   omega
 · rw [<- en]; exact vals_nums hI'
end
end L2
namespace FL
open PySem PySem.Spec PyProof.Rows L2
section
variable {X:Cx}
theorem reps_ints {K:Frag} {H:Hp} {O:Addr->Prop} : ∀ ns:List Int,Reps K H O (ns.map V.int) (ns.map D.int)
 | []=>.nil
 | n::ns=>.cons (.int n) (reps_ints ns)
theorem pvf_sortedSet {e:Expr} {f:FE} {p p2 pos pos2:Pos} (hc:X.calm=true) (hml:X.mg "sorted" = none) (hm:X.mg "set" = none) (he:PVw X e f) (hgl:Gl X "sorted":=by rfl) (hg:Gl X "set":=by rfl)
  (hl:starEach [.Call (.Name "set" p2) [e] [] pos2] X.env=[(false,eval (.Call (.Name "set" p2) [e] [] pos2) X.env)]:=by rfl) (hs:starEach [e] X.env=[(false,eval e X.env)]:=by rfl) :
  PVf X (.Call (.Name "sorted" p) [.Call (.Name "set" p2) [e] [] pos2] [] pos) (srtSA f):=by
 obtain ⟨te,pe,he⟩:=he
 refine ⟨_,pe_srtS hc hgl hml hg hm (qS pe yC hs) hl hs,fun H₀ H O σ ds hd l Q o e q=>?_⟩
 unfold srtSA at e
 cases h1:f ds with
 | none=>rw [h1] at e; cases e
 | some d =>
   rw [h1] at e
   simp only [Option.bind_some] at e
   refine he H₀ H O σ ds hd _ _ o h1 fun v H1 s1 r1=>?_
   cases d <;> first | (cases e; done) | skip
   rename_i l'
   simp only at e
   cases hb:intsD l' with
   | none=>rw [hb] at e; cases e
   | some ns =>
     rw [hb] at e
     simp only [Option.bind_some] at e
     split at e
     · rename_i hz
       cases e
       obtain ⟨a1,xs,rfl,hq,rs⟩:=r1.seqL
       refine ⟨a1,ns,rfl,?_,hz,fun p hp=>?_⟩
       · rw [<- vT rs hb]; exact hq
       · exact q p _ _ (s1.trans (qN hp _)) (s1.free hp) qG (reps_ints _)
     · cases e
end
end FL
namespace L2
open PySem PySem.Spec PyProof.Rows
section
variable {prog:Program} {w:World} {A:Around} {E:Value->Shared->Prop} {s:Shared}
open HT in
theorem getItem_whole {t sl:Addr} {items:Array Value} {vl vu:Value} {lo hi:Option Int} {Q:Value->Shared->Prop} (ht:IsTup s.heap t items) (hs:s.heap.IsSliceOf sl vl vu .none) (pl:IsPart vl lo) (pu:IsPart vu hi)
  (hw:sIx items.size 0 lo=0/\sIx items.size items.size hi=items.size) (h:Q (.ref t) s):wpAny (model prog w) A (getItem (.ref t) (.ref sl)) Q E s:=by
 obtain ⟨os,hos,hcs,hds⟩:=id hs
 have hTs:s.TypeIs (.ref sl) "slice":=⟨os,hos,hcs⟩
 unfold getItem
 try with_reducible refine wpAny_holding ?_
 first | refine wpAny_bind (wpAny_pure ?_) | skip
 refine wpAny_bind (wpAny_sequenceKey ht.typeIs (by decide) ?_)
 refine wpAny_bind (wpAny_callSpecial?_slot (name:=Str.ofString "__getitem__") ht.typeIs PyProof.Rows.slot_tuple_getitem
  (wpAny_call_entry PyProof.Rows.slot_tuple_getitem ht.typeIs entry_tuple_getitem ?_ (args_tuple_getitem _ _)))
 show wpAny _ _ (Builtin.Tuple.tupleItemsOf (.ref t) >>= _) _ _ s
 refine wpAny_bind (tupleItemsOf_ ht (wpAny_bind (wpAny_typeOf hTs ?_)))
 rw [if_pos (by decide)]
 refine wpAny_bind (sliceApplied_gen hs pl pu ?_)
 show wpAny _ _ (if (((sIx items.size 0 lo:Nat):Int) == 0 && (1:Int) == 1 && (sIx items.size items.size hi - sIx items.size 0 lo) == items.size)=true then _ else _) _ _ s
 rw [if_pos (by rw [hw.1,hw.2]; simp)]
 refine wpAny_bind ?_
 unfold Builtin.Tuple.tupleIsExact
 refine wpAny_bind (wpAny_typeOf (T:="tuple") ht.typeIs (wpAny_pure ?_))
 rw [if_pos (by decide)]
 exact wpAny_bind (wpAny_rule (wpAny_pure ⟨_,rfl,wpAny_pure h⟩))
end
section
variable {X:Cx}
def rSlW (K:PySem.W.Frag):V->Option Int->Option Int->Hp->VK->Prop:=fun x lo hi H Q=>∃ a xs,x = .ref a/\SqT K H a xs ∧
 ((¬ (HT.sIx xs.length 0 lo = 0 /\ HT.sIx xs.length xs.length hi = xs.length) /\ ∀ p, H p = none -> Q (.ref p) (upd H p (.tup (cutV xs lo hi)))) ∨
   ((HT.sIx xs.length 0 lo=0/\HT.sIx xs.length xs.length hi=xs.length)/\Q (.ref a) H))
theorem sl_tupW:SlR X (rSlW X.K):=by
 intro pins s σ H x v vl vu lo hi sl Q I rx hs pl pu h
 obtain ⟨a,xs,rfl,hx,h⟩:=h
 rcases h with ⟨hw,q⟩ | ⟨hw,q⟩
 · exact sl_tup pins s σ H _ v vl vu lo hi sl Q I rx hs pl pu ⟨a,xs,rfl,hx,hw,q⟩
 · cases rx
   obtain ⟨its,r,ht,hz⟩:=I.tuple hx
   have hlen:its.toArray.size=xs.length:=by rw [List.size_toArray]; exact r.length.symm
   refine ⟨"tuple",_,PyProof.Rows.slot_tuple_getitem.lookup,ht.typeIs,?_⟩
   exact getItem_whole ht hs pl pu (by rw [hlen]; exact hw) ⟨.ref a,H,I,rfl,q⟩
end
end L2
namespace FL
open PySem PySem.Spec PyProof.Rows L2
section
variable {X:Cx}
theorem cutD_whole (l:List D) (a b:Option Int) (h:HT.sIx l.length 0 a=0/\HT.sIx l.length l.length b=l.length):cutD l a b=l:=by
 unfold cutD
 rw [h.1,h.2]
 simp
theorem pv_sltw {e:Expr} {lo hi:Option Expr} {f:FE} {gl gh:List Sl->Option (Option Int)} {p2 pos:Pos} (he:PVw X e f) (hl:POv X lo gl) (hh:POv X hi gh):PV X (.Subscript e (.Slice lo hi none p2) pos) (sltW f gl gh):=by
 obtain ⟨te,pe,he⟩:=he
 obtain ⟨tl,pl,hl⟩:=hl
 obtain ⟨th,ph,hh⟩:=hh
 refine ⟨_,pe_slice sl_tupW pe pl ph,fun H₀ H O σ ds hd d' Q o e q=>?_⟩
 unfold sltW at e
 cases h1:f ds with
 | none=>rw [h1] at e; cases e
 | some d =>
   cases h2:gl ds with
   | none=>rw [h1,h2] at e; cases e
   | some a =>
     cases h3:gh ds with
     | none=>rw [h1,h2,h3] at e; cases e
     | some b =>
       rw [h1,h2,h3] at e
       simp only [Option.bind_some] at e
       cases d <;> first | (cases e; done) | skip
       simp only at e
       cases e
       refine he H₀ H O σ ds hd _ _ o h1 fun v H1 s1 r1=>?_
       refine hl H₀ H1 O σ ds hd _ _ (o.mono s1) h2 fun H2 s2=>?_
       refine hh H₀ H2 O σ ds hd _ _ ((o.mono s1).mono s2) h3 fun H3 s3=>?_
       have rr:=(r1.mono s2).mono s3
       obtain ⟨a1,xs,rfl,hq,rs⟩:=rr.seqT
       have ss:=(s1.trans s2).trans s3
       refine ⟨a1,xs,rfl,hq,?_⟩
       by_cases hw:HT.sIx xs.length 0 a=0/\HT.sIx xs.length xs.length b=xs.length
       · refine .inr ⟨hw, ?_⟩
         rw [rs.length] at hw
         rw [cutD_whole _ _ _ hw] at q
         refine q _ _ ss ?_
         rcases rr with rr | ⟨_,_,_,_,e,_⟩
         · exact rr
         · cases e
       · refine .inl ⟨hw, fun p hp => ?_⟩
         refine q _ _ (ss.trans (qN hp _)) ?_
         exact .tup (((o.mono ss).free hp)) (.inl qG) ((cut_reps rs).mono (qN hp _))
end
open PySem.W (tabIn CodeHd tabObj kla_eval kla_makeFunction kla_makeFunctionHit kla_obj kla_fn kla_callFunE kla_codeExpr FnAt callWith_F envX)
section
variable {X:Cx}
end
section
variable {X:Cx} {pins:List (Addr×Obj)} {σ : L2.St} {H H':Hp} {s s':Shared} {cs:List Addr}
end
section
variable {K:Frag} {H:Hp} {O:Addr->Prop} {cs:List Addr}
end
section
variable {X:Cx}
end
end FL
namespace FL
open PySem PySem.Spec PyProof.Rows L2
open PySem.W (tabIn CodeHd tabObj kla_callFunE kla_codeExpr FnAt callWith_F envX)
section
variable {X:Cx}
section
variable {k j' n m j:Nat} {F:List D->Option Ret} {x y:Str} {p pos:Pos} {e:Expr} {es:List Expr} {g:FA} {is:List Nat} {t:LamT} {st:Stmt} {f c P:Addr}
end
end
theorem ClosOk.length {H:Hp} {O:Addr->Prop} : ∀ {cl:List (Str×Addr)} {xs:List V},ClosOk H O cl xs->cl.length=xs.length
 | _,_,.nil=>rfl
 | _,_,.cons no h d r t=>by simp [t.length]
section
variable {X:Cx} {k j i:Nat} {Φ : Fun2} {x:Str} {p pos:Pos} {e:Expr} {es:List Expr} {g:FA}
end
end FL
namespace FL
open PySem PySem.Spec PyProof.Rows L2
section
variable {X:Cx}
end
open PySem.W (tabIn CodeHd tabObj makeFunction_K makeFunction_hit fnMade fnX nestDef_K kla_callFunE envX)
section
variable {X:Cx} {pins:List (Addr×Obj)} {σ : L2.St} {H:Hp} {s:Shared}
end
section
variable {X:Cx}
end
section
variable {X:Cx} {pins:List (Addr×Obj)} {σ : L2.St} {H:Hp} {s:Shared} {cs:List Addr}
end
section
variable {X:Cx}
end
end FL
namespace FL
open PySem PySem.Spec PyProof.Rows L2
section
variable {X:Cx} {tg:Expr}
end
section
variable {X:Cx}
theorem yR {st:List Stmt} : PSsAny X st:=⟨fun _ _ _=>False,fun _ _ _ _ _ _ h=>h.elim⟩
end
open PySem.W (tabIn CodeHd)
section
variable {X:Cx}
end
section
variable {X:Cx} {E:XK} {C:Addr}
end
section
variable {X:Cx} {k j:Nat} {n:Nat} {F:List D->Option Ret} {x:Str} {p pos:Pos} {e:Expr} {es:List Expr} {g:FA}
end
end FL
namespace FL
open PySem PySem.Spec PyProof.Rows L2
section
variable {M:Model} {A:Around} {E:Value->Shared->Prop} {s:Shared} {base:Heap} {l:List Env} {e L:Addr} {cls a0:Value}
theorem flight_held {Q:Unit->Shared->Prop} (R:Heap.HeldW base l e cls a0 L s.heap) (h:∀ h',Heap.HeldW base l e cls a0 L h'->s.heap.UpToSlots h'->Q () { s with heap:=h' }):wpAny M A (setFlight (.ref e) (some L)) Q E s:=by
 obtain ⟨r1,r2,r3,oe,vs,T,oT,ts,q1,q2,q3,q4,q5,q6,q7,q8,q9⟩:=R
 have hz:3 < ts.size:=(Array.getElem?_eq_some_iff.mp q9).1
 have ot:∀ b,b≠T->(s.heap.update T (Obj.mapFields (·.setIfInBounds 3 (rawInt L)))).get? b=s.heap.get? b:=fun b hb=>Heap.get?_update_other _ _ (Ne.symm hb)
 have nr:∀ b o,s.heap.get? b=some o->(∀ vs,o.data≠.fields vs)->b≠T:=fun b o hb hn z=>by
  rw [z,q7] at hb
  cases hb
  exact hn _ q8
 unfold setFlight
 refine wpAny_bind (wpAny_field q1 q3 q4 ?_)
 rw [if_pos (by simp)]
 refine wpAny_setField q7 q8 hz (h _ ⟨fun b o hb=>(ot b fun z=>?_).trans (r1 b o hb),r2,r3.of_keeps fun b o hb hn=>⟨o,(ot b (nr b o hb hn)).trans hb,rfl⟩,?_⟩ fun b o hb hn=>⟨o.slots,(ot b (nr b o hb hn)).trans hb⟩)
 · rw [z,q5] at hb; cases hb
 · exact ⟨oe,vs,T,_,_,(ot e (Ne.symm q6)).trans q1,q2,q3,q4,q5,q6,Heap.get?_update_self _ q7 (Obj.isFreed_of_fields (Obj.data_mapFields q8 _)),Obj.data_mapFields q8 _,by simp [hz]⟩
end
def Thr (X:Cx) (E:XK):Value->Shared->Prop:=fun e s'=>∃ (pins:List (Addr×Obj)) (σ : L2.St) (H1:Hp) (s1:Shared) (ea:Addr) (cls a0:Value) (B:Heap) (H':Hp) (h0:Heap),e = .ref ea/\Inv X pins σ H1 s1/\s'.os=s1.os/\AllBare s'.gens ∧
 Thrown X.prog X.w X.stack H1 s1 cls ea a0 B H' h0/\E cls none H'/\(h0=s'.heap \/ (h0.UpToSlots s'.heap/\Heap.HeldW B X.stack ea cls a0 X.env.locals s'.heap))
section
variable {X:Cx} {E:XK} {C:Addr}
theorem thr_own (hst:X.stack=X.env::X.outer) (hfr:X.env.frame=some X.env.locals):PassesOwn (model X.prog X.w) X.A X.env (Thr X E):=by
 rintro _ s' ⟨pins,σ,H1,s1,ea,cls,a0,B,H',h0,rfl,I,os,bare,T,hE,hh⟩
 have hA:X.A.frames=some (X.env::X.outer):=by rw [<- hst]; exact I.ok.frames
 have back:∀ h4,h0.UpToSlots h4->Heap.HeldW B X.stack ea cls a0 X.env.locals h4->cameBackBy (model X.prog X.w) X.A X.env (Thr X E) (.ref ea) { s' with heap:=h4 }:=fun h4 sm hd=>by
  obtain ⟨_,_,_,oe,vs,TT,oT,ts,q1,q2,q3,q4,_⟩:=id hd
  unfold cameBackBy
  refine wpAny_bind (wpAny_field (s:={ s' with heap:=h4 }) q1 q3 q4 ?_)
  rw [if_neg (by simp)]
  show wpAny _ _ (setFlight (.ref ea) X.env.frame) _ _ _
  rw [hfr]
  exact flight_held (s:={ s' with heap:=h4 }) hd fun h5 hd5 sm5=>⟨pins,σ,H1,s1,ea,cls,a0,B,H',h0,rfl,I,os,bare,T,hE,.inr ⟨sm.trans sm5,hd5⟩⟩
 unfold notedBy
 rcases hh with rfl | ⟨sm,hd⟩
 · exact wpAny_looks_onW hA hfr (by rw [<- hst]; exact T.fly) fun h4 hd4 sm4=>back h4 sm4 (by rw [hst]; exact hd4)
 · exact wpAny_noteFrame_againW hfr hd.2.2.2 (back s'.heap sm hd)
theorem thr_pass:Passes (CXM X.prog X.w) (X.wish (Thr X E)) E:=by
 intro pins σ H1 s1 e s' I h
 obtain ⟨ea,cls,a0,B,H',rfl,os,bare,T,hE⟩:=h
 exact ⟨pins,σ,H1,s1,ea,cls,a0,B,H',s'.heap,rfl,I.unwish,os,bare,T,hE,.inl rfl⟩
end
theorem thr_out {P:Program} {w:World} {K:Frag} {mg:Str->Option Value} {base:Heap} {N:List Str} {qual:Str} {scope:Scope} {f:Addr} {cd:Value} {A:Around} {outer:List Env} {s:Shared} {H:Hp} {E:XK} :
  ∀ e s',Thr (cxOf (CXM P w) P w K mg base N qual scope f cd A outer s H E) E e s'->(cxOf (CXM P w) P w K mg base N qual scope f cd A outer s H E).xe e s':=by
 rintro _ s' ⟨pins,σ,H1,s1,ea,cls,a0,B,H',h0,rfl,I,os,bare,T,hE,hh⟩
 rcases hh with rfl | ⟨sm,hd⟩
 · exact pass_on pins σ H1 s1 _ s' I ⟨ea,cls,a0,B,H',rfl,os,bare,T,hE⟩
 · have hfr : frs (envOfC qual scope s.heap.objs.size f cd :: outer) = s.heap.objs.size :: frs outer := rfl
   have nm:∀ b o,s.heap.get? b=some o->b ∉ frs outer->b ∉ frs (envOfC qual scope s.heap.objs.size f cd::outer):=fun b o q n z=>by
    rw [hfr] at z
    rcases List.mem_cons.mp z with z | z
    · exact absurd (Heap.lt_size q) (by rw [z]; exact Nat.lt_irrefl _)
    · exact n z
   show wpAny _ _ (leaving _ _) _ _ _
   unfold leaving
   refine wpAny_bind (wpAny_noteFrame_againW (L:=s.heap.objs.size) rfl hd.2.2.2 ?_)
   refine wpAny_landsW hd fun h' fl x4'=>?_
   obtain ⟨k1,k2,⟨_,_,k3⟩,k4⟩:=fl
   have x1:Heap.FlyingW B outer ea cls a0 h':=⟨k1,k2,k3,k4⟩
   have x4:=sm.trans x4'
   refine ⟨ea,cls,a0,B,H',rfl,os.trans I.os,bare,⟨x1,fun b o q n hb=>?_,fun b o q hb=>?_,fun b o q hb=>?_,fun b o q n=>?_,fun b xs q=>T.tups b xs (I.base.tups b xs q),fun b o u q=>T.frzs b o u (I.base.frzs b o u q),fun b ps q=>T.tbls b ps (I.base.tbls b ps q),T.hok⟩,hE⟩
   · exact T.keep b o (I.base.keep b o q n hb (by intro z; cases z)) (I.base.free b o q n (by intro z; cases z)) (nm b o q hb)
   · obtain ⟨o', q'⟩ := I.base.there b o q (by intro z; cases z)
     exact T.there b o' q' (nm b o q hb)
   · obtain ⟨sl, q'⟩ := I.base.slot b o q (I.ok.frf b hb) hb (by intro z; cases z)
     obtain ⟨sl2,q2⟩:=T.slot b _ q' (List.mem_cons_of_mem _ hb)
     obtain ⟨_,ob,ho,hd'⟩:=I.ok.funs.mem hb
     have ho':s.heap.get? b=some ob:=ho
     rw [q] at ho'
     cases ho'
     obtain ⟨sl',q''⟩:=x4 b _ q2 hd'
     exact ⟨sl',q''⟩
   · obtain ⟨o', q'⟩ := I.base.there b o q (by intro z; cases z)
     exact T.free b o' q' (I.base.free b o q n (by intro z; cases z))
section
variable {X:Cx} {E:XK} {C:Addr}
theorem pss_or {st:List Stmt} {t u:TS} (h1:PSs X st t) (h2:PSs X st u):PSs X st (fun D σ H=>t D σ H \/ u D σ H):=fun pins s σ H D I h=>h.elim (h1 pins s σ H D I) (h2 pins s σ H D I)
variable (X E C) in
def PSsz (st:List Stmt) (x:List Sl->Bool):Prop:=∃ t,PSs X st t/\∀ H₀ H O σ ds hd D,Ok X.K H₀ H O σ ds hd->x ds=true->(∀ H',Same H₀ H'->E (.ref C) none H')->t D σ H
theorem psy_for {tg iter:Expr} {body:List Stmt} {pos:Pos} {fi:FA} {ga:D->List Sl->Option (List Sl)} {g:FS} {x:List Sl->Bool} (hout:∀ e s',Thr X E e s'->X.xe e s') (hi:PIv (X.wish (Thr X E)) tg iter fi) (hg:PGv (X.wish (Thr X E)) tg ga) (hb:PSsv (X.wish (Thr X E)) body g)
  (hy:PSsz (X.wish (Thr X E)) E C body x) (hc:X.calm=true:=by rfl) (hs:∀ x,foldedSetIterable iter X.env x=pure x:=by intro _; rfl) (hst:X.stack=X.env::X.outer:=by rfl) (hfr:X.env.frame=some X.env.locals:=by rfl):PSy X E C (.For tg iter body [] pos) (forX fi ga g x):=by
 obtain ⟨wi,pi,hi⟩:=hi
 obtain ⟨tg',pg,hg⟩:=hg
 obtain ⟨tb,pb,hb⟩:=hb
 obtain ⟨tz,pz,hz⟩:=hy
 have pf:=ps_for (X:=X.wish (Thr X E)) (thr_own hst hfr) hc pi pg (pss_or pz pb) hs (pos:=pos)
 refine ⟨_,fun pins s σ H D I h=>wpAny_mono (pf pins s σ H D (I.wish _) h) (fun f s1 q=>q.unwish) hout,fun H₀ H O σ ds hd D o e _ hE=>?_⟩
 unfold forX at e
 cases h1:fi ds with
 | none=>rw [h1] at e; cases e
 | some items =>
   rw [h1] at e
   simp only at e
   refine hi H₀ H O σ ds hd items _ o h1 fun J p H' s r wk=>?_
   refine ⟨fun i m σ' H'=>i<=items.length/\m=items.length - i/\∃ O' ds',Ok X.K H₀ H' O' σ' ds' (HI.rep p.1 p.2::hd)/\loopX ga g x (items.drop i) ds'=true,⟨items.length,Nat.zero_le _,rfl,O,ds,(o.mono s).holdMore (p:=HI.rep p.1 p.2) r,by simpa using e⟩,?_⟩
   rintro i m σ1 H1 ⟨hi1,rfl,O1,ds1,o1,e1⟩
   obtain ⟨go,_⟩:=wk H1 O1 o1.dom (o1.hold (HI.rep p.1 p.2) List.mem_cons_self)
   by_cases hlt:i < items.length
   · right
     have hd0:items[i]? = some items[i]:=List.getElem?_eq_getElem hlt
     obtain ⟨hgo,hyl⟩:=go i _ hd0
     rw [List.drop_eq_getElem_cons hlt,loopX] at e1
     refine ⟨hgo,fun σ' H'=>i+1<=items.length/\∃ O' ds',Ok X.K H₀ H' O' σ' ds' (HI.rep p.1 p.2::hd)/\loopX ga g x (items.drop (i+1)) ds'=true,fun σ' H' ⟨q1,q2⟩=>⟨items.length - (i+1),by omega,q1,rfl,q2⟩,fun v H2 y=>?_⟩
     obtain ⟨s2,r2⟩:=hyl v H2 y
     cases h2:ga items[i] ds1 with
     | none=>rw [h2] at e1; cases e1
     | some ds2 =>
       rw [h2] at e1
       simp only at e1
       refine hg H₀ H2 O1 σ1 ds1 (HI.rep p.1 p.2::hd) v _ ds2 _ (o1.mono s2) r2 h2 fun σ' o'=>?_
       rcases Bool.or_eq_true_iff.mp e1 with e2 | e2
       · exact .inl (hz H₀ H2 O1 σ' ds2 (HI.rep p.1 p.2::hd) _ o' e2 hE)
       · right
         cases h3:g ds2 with
         | none=>rw [h3] at e2; cases e2
         | some o3 =>
           rw [h3] at e2
           refine hb H₀ H2 O1 σ' ds2 (HI.rep p.1 p.2::hd) o3 _ o' h3 ?_
           cases o3 with
           | nx ds3=>exact fun σ3 H3 O3 ok3=>⟨hlt,O3,ds3,ok3,e2⟩
           | ct ds3=>exact fun σ3 H3 O3 ok3=>⟨hlt,O3,ds3,ok3,e2⟩
           | bk ds3=>cases e2
           | rt rr=>cases e2
   · exfalso
     have ei:i=items.length:=by omega
     subst ei
     rw [List.drop_length,loopX] at e1
     cases e1
theorem pssz_ext {i:Nat} {x:Str} {e:Expr} {pos p1 p2 p3:Pos} {y:List Sl->Bool} (he:PEy X E C e y) (hN:X.N[i]? = some x:=by rfl) (hv:Vis X.env.scope x:=by first | exact Or.inl rfl | exact Or.inr (Or.inl rfl) | exact Or.inr (Or.inr rfl)) (hd:(x == ("__debug__" : Str))=false:=by decide)
  (hcd:(x == ("__classdict__" : Str))=false:=by decide)
  (hfew:((backTo p3 (starEach [e] X.env)).all (fun x=>!x.1) && (backToKw p3 (keywordEach [] X.env)).all (fun x=>x.1.isSome)
    && decide ([e].length+([]:List Keyword).length+(if ([]:List Keyword).isEmpty then 0 else 1) < 30))=true:=by rfl)
  (hline:(p2.endLine == p3.line)=true:=by rfl) (hs:starEach [e] X.env=(false,eval e X.env)::starEach [] X.env:=by rfl)
  (hbase:attributeBase (.Name x p1) "extend" X.env (eval (.Name x p1) X.env)=eval (.Name x p1) X.env:=by rfl) (hsw:swapsWith (.Call (.Attribute (.Name x p1) "extend" p2) [e] [] p3) none pos.line X.env=pure false:=by rfl) :
  PSsz X E C [.Expr (.Call (.Attribute (.Name x p1) "extend" p2) [e] [] p3) pos] (extX i y):=by
 obtain ⟨te,pe,hf⟩:=he
 refine ⟨_,wD (wZ (pe_bm PySem.F.plainAttrs_list PySem.F.slot_list_extend PySem.F.type_list_extend mt_extend (yY hN hv hd hcd) (qS pe yC hs) hbase hfew hline hs rfl) hsw) pss_nil,fun H₀ H O σ ds hd D o e hE=>?_⟩
 unfold extX at e
 cases hsl:ds[i]? with
 | none=>rw [hsl] at e; cases e
 | some sl =>
   rw [hsl] at e
   cases sl with
   | own l =>
     simp only at e
     obtain ⟨a,xs,q1,q2,q3,q4⟩:=o.readO hsl
     refine ⟨.ref a,q1,.inl ⟨rfl,xs,SqL.of q3⟩,?_⟩
     exact hf H₀ H O σ ds hd _ o e hE
   | no=>cases e
   | v d=>cases e
   | exc t=>cases e
   | fr l=>cases e
end
end FL
namespace L2
open PySem PySem.Spec PyProof.Rows
section
variable {X:Cx}
def rInsert:V->List V->Hp->VK->Prop:=fun x vs H Q=>∃ l xs k y,x = .ref l/\vs=[.int k,y]/\H l=some (.lst xs)/\0<=k/\k<=(xs.length:Int)/\xs.length < sizeLine/\Q .non (upd H l (.lst (xs.take k.toNat++y::xs.drop k.toNat)))
theorem mt_insert:MtM X "list.insert" rInsert:=by
 intro pins s σ H x vs v us Q I rx rv h
 obtain ⟨l,xs,k,y,rfl,rfl,hH,h0,h1,hz,q⟩:=h
 cases rx
 obtain ⟨u1,u2,rfl,⟨t,rfl⟩,ru⟩:=rv.two
 obtain ⟨z,its,n,r,hl,e⟩:=I.lstM hH
 have hzl:=sizeLine_eq
 refine call_meets F.slot_list_insert ⟨_,e,rfl⟩ F.entry_list_insert (F.args_list_insert_3 _ _ _) (AutoListH.list_insert_list_int_val_1 l its.toArray n k t u2 (by rw [fitsIndex_both (by omega) (by omega)]; simp) (by rw [List.size_toArray]; omega)) ⟨e,?_⟩
 refine ⟨.non,_,I.lset (its':=its.take k.toNat++u2::its.drop k.toNat) hH e ?_ ((r.take _).append (.cons ru (r.drop _))) ?_,rfl,q⟩
 · have hk : min k.toNat its.toArray.size = k.toNat := by rw [List.size_toArray]; omega
   have hn : ¬ k < 0:=by omega
   simp only [hn,if_false,hk]
   apply Array.ext'
   simp
   exact List.take_of_length_le (by simp)
 · simp only [List.length_append, List.length_cons, List.length_take, List.length_drop]
   omega
theorem call_divmodB:CallR X (.builtin "divmod") (fun xs H Q=>∃ i j,xs=[.int i,.int j]/\FL.divOk j/\∀ p,H p=none->Q (.ref p) (upd H p (.tup [.int (i / j),.int (i % j)]))):=by
 intro pins s σ H xs us Q I r h
 obtain ⟨i,j,rfl,hc,q⟩:=h
 have h1:=hc.1
 obtain ⟨u,w',rfl,⟨t,rfl⟩,⟨t',rfl⟩⟩:=vals2 r
 refine divmod_int (by omega) ?_ (.inl (PyProof.noPylong_of_log2 hc.2))
 rw [Int.fdiv_eq_ediv_of_nonneg i (by omega),Int.fmod_eq_emod_of_nonneg i (by omega)]
 have hn:H s.heap.objs.size=none:=I.hok.fresh (Nat.le_refl _)
 refine ⟨.ref s.heap.objs.size,_,?_,rfl,q _ hn⟩
 refine I.laid (fun b o e=>Heap.get?_push_of_some _ e) (Nat.le_refl _) ⟨by simp only [List.length_cons,List.length_nil]; rw [sizeLine_eq]; decide,[.int (i / j) s.toks,.int (i % j) (s.toks+1)],.cons ⟨_,rfl⟩ (.cons ⟨_,rfl⟩ .nil),?_⟩
 exact ⟨_,Heap.get?_push_size s.heap rfl,rfl,0,rfl⟩
end
end L2
namespace FL
open PySem PySem.Spec PyProof.Rows L2
section
variable {X:Cx} {E:XK} {C:Addr}
theorem PSv.ofNox {st:Stmt} {g:FS} (h:PSv X.nox st g):PSv X st g:=by
 obtain ⟨t,ht,hf⟩:=h
 exact ⟨t,fun pins s σ H D I hw=>wpAny_mono (ht pins s σ H D (I.wish _) hw) (fun _ _ q=>q.unwish) fun _ _ z=>False.elim z,hf⟩
theorem pey_comp {scope:Scope} {NY:List Str} {mp:List (Option Nat)} {tg iter elt:Expr} {ifs:List Expr} {pos:Pos} {y:List Sl->Bool} {ga:D->List Sl->Option (List Sl)} {tt:FT} {fe:FE}
  (S:CompScope X scope NY mp) (hc:X.calm=true) (hi:PEy X E C iter y) (hg:∀ c,PGv (yJ X scope NY c) tg ga) (ht:∀ c,PFv (yJ X scope NY c) ifs tt) (he:∀ c,PV (yJ X scope NY c) elt fe)
  (hs:∀ x,foldedSetIterable iter X.env x=pure x:=by intro _; rfl):PEy X E C (.ListComp elt [⟨tg,iter,ifs,0⟩] scope pos) y:=by
 obtain ⟨t,pt,hf⟩:=hi
 refine ⟨_,pe_comp S hc (pi_seq pt) (fun c=>(Classical.choose_spec (hg c)).1) (fun c=>(Classical.choose_spec (ht c)).1) (fun c=>(Classical.choose_spec (he c)).1) hs,fun H₀ H O σ ds hd Q o e p=>?_⟩
 exact Or.inl (hf H₀ H O σ ds hd _ o e p)
theorem cs_divmod:CallS X (fun xs H Q=>∃ i j,xs=[.int i,.int j]/\divOk j/\∀ p,H p=none->Q (.ref p) (upd H p (.tup [.int (i / j),.int (i % j)]))) dvmD:=by
 intro H O vs l d Q ho r e q
 match l,r,e with
 | [.int i, .int j], .cons r1 (.cons r2 .nil), e =>
   simp only [dvmD] at e
   split at e
   · rename_i hc
     cases e
     refine ⟨i,j,by rw [r1.int',r2.int'],hc,fun p hp=>q _ _ (qN hp _) (.tup (fun z=>?_) (.inl qG) (.cons (.int _) (.cons (.int _) .nil)))⟩
     obtain ⟨xs,ez⟩:=ho p z
     rw [hp] at ez
     cases ez
   · cases e
theorem pv_divmod {p pos:Pos} {a b:Expr} {g:FA} (hm:X.mg "divmod" = none) (ha:PAv X [a,b] g) (hg:Gl X "divmod":=by rfl) (he:starEach [a,b] X.env=(false,eval a X.env)::starEach [b] X.env:=by rfl) (hpl:(backTo pos (starEach [b] X.env)).any (·.1)=false:=by rfl) :
  PV X (.Call (.Name "divmod" p) [a,b] [] pos) (callB dvmD g):=xB call_divmodB cs_divmod hm (by decide +kernel) ha hg (by decide) (by decide) he hpl
theorem psv_ins {i:Nat} {x:Str} {k e:Expr} {pos p1 p2 p3:Pos} {fk fe:FE} (hk:PV X k fk) (he:PV X e fe) (hN:X.N[i]? = some x:=by rfl) (hv:Vis X.env.scope x:=by first | exact Or.inl rfl | exact Or.inr (Or.inl rfl) | exact Or.inr (Or.inr rfl)) (hd:(x == ("__debug__" : Str))=false:=by decide)
  (hcd:(x == ("__classdict__" : Str))=false:=by decide)
  (hfew:((backTo p3 (starEach [k,e] X.env)).all (fun x=>!x.1) && (backToKw p3 (keywordEach [] X.env)).all (fun x=>x.1.isSome)
    && decide ([k,e].length+([]:List Keyword).length+(if ([]:List Keyword).isEmpty then 0 else 1) < 30))=true:=by rfl)
  (hline:(p2.endLine == p3.line)=true:=by rfl) (hs:starEach [k,e] X.env=(false,eval k X.env)::starEach [e] X.env:=by rfl) (hs2:starEach [e] X.env=(false,eval e X.env)::starEach [] X.env:=by rfl)
  (hpl:(backTo p3 (starEach [e] X.env)).any (·.1)=false:=by rfl)
  (hbase:attributeBase (.Name x p1) "insert" X.env (eval (.Name x p1) X.env)=eval (.Name x p1) X.env:=by rfl) (hsw:swapsWith (.Call (.Attribute (.Name x p1) "insert" p2) [k,e] [] p3) none pos.line X.env=pure false:=by rfl) :
  PSv X (.Expr (.Call (.Attribute (.Name x p1) "insert" p2) [k,e] [] p3) pos) (insG i fk fe):=by
 obtain ⟨tk,pk,hk⟩:=hk
 obtain ⟨te,pe,he⟩:=he
 refine ⟨_,wZ (pe_bm PySem.F.plainAttrs_list PySem.F.slot_list_insert PySem.F.type_list_insert mt_insert (yY hN hv hd hcd) (qS pk (qS pe yC hs2) hs) hbase hfew hline hs hpl) hsw,fun H₀ H O σ ds hd out E o e h=>?_⟩
 unfold insG at e
 cases hsl:ds[i]? with
 | none=>rw [hsl] at e; cases e
 | some s =>
   rw [hsl] at e
   cases s with
   | v d'=>cases e
   | no=>cases e
   | exc _=>cases e
   | fr _=>cases e
   | own l =>
     simp only at e
     cases h0:fk ds with
     | none=>rw [h0] at e; cases e
     | some dk =>
     rw [h0] at e
     simp only [Option.bind_some] at e
     cases h1:fe ds with
     | none=>rw [h1] at e; cases e
     | some d =>
       rw [h1] at e
       simp only [Option.bind_some] at e
       cases dk <;> first | (cases e; done) | skip
       rename_i n
       simp only at e
       split at e
       · rename_i hl
         cases e
         obtain ⟨a,xs,q1,q2,q3,q4⟩:=o.readO hsl
         refine ⟨.ref a,q1,.inl ⟨rfl,xs,SqL.of q3⟩,?_⟩
         refine hk H₀ H O σ ds hd _ _ o h0 fun vk H1 s1 r1=>?_
         refine he H₀ H1 O σ ds hd d _ (o.mono s1) h1 fun v H2 s2 r2=>?_
         have hq:=q4.length
         have ek:vk = .int n:=by cases r1; rfl
         refine ⟨a,xs,n,v,rfl,by rw [ek],s2 _ _ (s1 _ _ q3),hl.1,by rw [hq]; exact hl.2.1,by rw [hq]; exact hl.2.2,?_⟩
         exact h _ _ _ (((o.mono s1).mono s2).modify hsl q1 ((((q4.mono s1).mono s2).take n.toNat).append (.cons r2 (((q4.mono s1).mono s2).drop n.toNat))))
       · cases e
theorem ptv_rel (i:Nat) {e:Expr} {c:FT} (h:PTv X e c):PTv X e (fun ds=>c (relS i ds)):=by
 obtain ⟨t,ht,hf⟩:=h
 refine ⟨t,ht,fun H₀ H O σ ds hd b Q o e q=>?_⟩
 have e:c (relS i ds)=some b:=e
 by_cases hs:∃ l,ds[i]? = some (.own l)
 · obtain ⟨l, hl⟩ := hs
   have e':relS i ds=ds.set i (.v (.lst l)):=by unfold relS; rw [hl]
   rw [e'] at e
   obtain ⟨O',o'⟩:=o.release hl
   exact hf H₀ H O' σ _ hd b Q o' e q
 · have e':relS i ds=ds:=by
    unfold relS
    split
    · rename_i l hl; exact (hs ⟨l,hl⟩).elim
    · rfl
   rw [e'] at e
   exact hf H₀ H O σ ds hd b Q o e q
end
theorem isx_consT {K:Frag} {its:List Value} {t:Nat} {b:Bool} {C:Addr} {tb:List (Nat×Bool)} (n:PySem.W.nsIn K mainGlobals (xName t)=some (some (.ref C))) (x:XIn K C) (k:PySem.W.kitAny K (.ref C) its=some b) (r:IsxOkT K its tb):IsxOkT K its ((t,b)::tb):=fun t' b' e C' n'=>by
 by_cases h:t'=t
 · subst h
   simp [List.lookup] at e
   subst e
   rw [n] at n'
   cases n'
   exact ⟨x,k⟩
 · have : (t' == t) = false := beq_eq_false_iff_ne.mpr h
   simp [List.lookup,this] at e
   exact r t' b' e C' n'
section
variable {X:Cx}
theorem pv_eqH {a b:Expr} {fa fb:FE} {pos:Pos} {k:Nat} {A0:Around} (hr:Room k A0) (ha:PVn X a fa) (hb:PVn X b fb) (hu:X.A.units=A0.units:=by rfl):PV X (.Compare a [.Eq] [b] pos) (zJ eqD fa fb):=kH (op_eqD (by rw [hu]; exact hu100 hr)) on_eqD ha hb (nomark _)
end
end FL
namespace L2
open PySem PySem.Spec PyProof.Rows
open Builtin Builtin.Str
section
variable {X:Cx}
end
end L2
namespace FL
open PySem PySem.Spec PyProof.Rows L2
section
variable {X:Cx}
section
variable {o e:Expr} {apos cpos:Pos} {f g:FE} {name:Str} {id:String}
end
end
section
variable {X:Cx} {E:XK} {C:Addr}
section
variable {x:Str} {p pos:Pos} {e:Expr} {t k j:Nat} {G:List D->Option (List D)} {y:List Sl->Bool}
end
end
def oi:Option Int->D
 | none=>.non
 | some i=>.int i
@[simp] theorem oi_none:oi none = .non:=rfl
@[simp] theorem oi_some (i:Int):oi (some i) = .int i:=rfl
def andK (r:Option D):D->Option D:=fun d=>match d with | .bl true=>r | .bl false=>some (.bl false) | _=>none
def orK (r:Option D):D->Option D:=fun d=>match d with | .bl true=>some (.bl true) | .bl false=>r | _=>none
@[simp] theorem andK_bl (r:Option D) (b:Bool):andK r (.bl b)=if b=true then r else some (.bl false):=by cases b <;> rfl
@[simp] theorem orK_bl (r:Option D) (b:Bool):orK r (.bl b)=if b=true then some (.bl true) else r:=by cases b <;> rfl
@[simp] theorem ite_andD (b c:Bool):(if b=true then some (D.bl c) else some (D.bl false))=some (.bl (b && c)):=by cases b <;> rfl
@[simp] theorem ite_orD (b c:Bool):(if b=true then some (D.bl true) else some (D.bl c))=some (.bl (b || c)):=by cases b <;> rfl
@[simp] theorem ite_andB (b c:Bool):(if b=true then some c else some false)=some (b && c):=by cases b <;> rfl
@[simp] theorem ite_orB (b c:Bool):(if b=true then some true else some c)=some (b || c):=by cases b <;> rfl
@[simp] theorem ite_andD' (p:Prop) [Decidable p] (c:Bool):(if p then some (D.bl c) else some (D.bl false))=some (.bl (decide p && c)):=by by_cases h:p <;> simp [h]
@[simp] theorem ite_orD' (p:Prop) [Decidable p] (c:Bool):(if p then some (D.bl true) else some (D.bl c))=some (.bl (decide p || c)):=by by_cases h:p <;> simp [h]
@[simp] theorem ite_andB' (p:Prop) [Decidable p] (c:Bool):(if p then some c else some false)=some (decide p && c):=by by_cases h:p <;> simp [h]
@[simp] theorem ite_orB' (p:Prop) [Decidable p] (c:Bool):(if p then some true else some c)=some (decide p || c):=by by_cases h:p <;> simp [h]
@[simp] theorem szl:sizeLine=16777216:=sizeLine_eq
section
variable (ds:List Sl)
@[simp] theorem getV_eq (i:Nat):jN i ds=match ds[i]? with | some (.v d)=>some d | _=>none:=rfl
@[simp] theorem getW_eq (i:Nat):zI i ds=match ds[i]? with | some (.v d)=>some d | some (.own l)=>some (.lst l) | _=>none:=rfl
@[simp] theorem konst_eq (d:D):zE d ds=some d:=rfl
@[simp] theorem bin2_eq (op:D->D->Option D) (fa fb:FE):zJ op fa fb ds=(fa ds).bind fun x=>(fb ds).bind fun y=>op x y:=rfl
@[simp] theorem un1_eq (op:D->Option D) (f:FE):un1 op f ds=(f ds).bind op:=rfl
@[simp] theorem callB_eq (F:List D->Option D) (g:FA):callB F g ds=(g ds).bind F:=rfl
@[simp] theorem callV_eq (n:Nat) (F:List D->Option Ret) (g:FA):jG n F g ds=(g ds).bind fun l=>if l.length=n then (F l).bind retV else none:=rfl
@[simp] theorem callF_eq (n:Nat) (F:List D->Option Ret) (g:FA):vE n F g ds=(g ds).bind fun l=>if l.length=n then (F l).bind retF else none:=rfl
@[simp] theorem retV_val (d:D):retV (.val d)=some d:=rfl
@[simp] theorem retV_fresh (l:List D):retV (.fresh l)=some (.lst l):=rfl
@[simp] theorem retF_val (d:D):retF (.val d)=none:=rfl
@[simp] theorem retF_fresh (l:List D):retF (.fresh l)=some l:=rfl
@[simp] theorem consA_eq (f:FE) (g:FA):zG f g ds=(f ds).bind fun x=>(g ds).map fun r=>x::r:=rfl
@[simp] theorem nilA_eq:zZ ds=some []:=rfl
@[simp] theorem sized_eq (f:FA):qH f ds=(f ds).bind fun l=>if l.length<=sizeLine then some l else none:=rfl
@[simp] theorem mkL_eq (f:FA):mkL f ds=(f ds).map D.lst:=rfl
@[simp] theorem mkT_eq (f:FA):mkT f ds=(f ds).map D.tup:=rfl
@[simp] theorem testB_eq (f:FE):zT f ds=(f ds).bind isB:=rfl
@[simp] theorem testT_eq (f:FE):testT f ds=(f ds).bind truD:=rfl
@[simp] theorem isB_bl (b:Bool):isB (.bl b)=some b:=rfl
@[simp] theorem andT_eq (c d:FT):andT c d ds=(c ds).bind fun b=>if b=true then d ds else some false:=rfl
@[simp] theorem orT_eq (c d:FT):orT c d ds=(c ds).bind fun b=>if b=true then some true else d ds:=rfl
@[simp] theorem notT_eq (c:FT):notT c ds=(c ds).map not:=rfl
@[simp] theorem andV_eq (f g:FE):andV f g ds=(f ds).bind (andK (g ds)):=rfl
@[simp] theorem orV_eq (f g:FE):orV f g ds=(f ds).bind (orK (g ds)):=rfl
@[simp] theorem notV_eq (f:FE):notV f ds=(f ds).bind fun d=>match d with | .bl b=>some (.bl (!b)) | _=>none:=rfl
@[simp] theorem ifV_eq (c:FT) (f g:FE):ifV c f g ds=(c ds).bind fun b=>if b=true then f ds else g ds:=rfl
@[simp] theorem seqG_eq (f g:FS):qO f g ds=(f ds).bind fun o=>match o with | .nx ds'=>g ds' | o=>some o:=rfl
@[simp] theorem ifG_eq (c:FT) (f g:FS):ifG c f g ds=(c ds).bind fun b=>if b=true then f ds else g ds:=rfl
@[simp] theorem setG_eq (i:Nat) (f:FE):yO i f ds=(f ds).map fun d=>.nx (ds.set i (.v d)):=rfl
@[simp] theorem setOG_eq (i:Nat) (f:FA):setOG i f ds=(f ds).map fun l=>.nx (ds.set i (.own l)):=rfl
@[simp] theorem retG_eq (f:FE):retG f ds=(f ds).bind flatR:=rfl
@[simp] theorem vZ (f:FA):retOG f ds=(f ds).bind flatF:=rfl
@[simp] theorem retXG_eq (i:Nat):retXG i ds=match ds[i]? with | some (.own l)=>flatF l | _=>none:=rfl
@[simp] theorem nextG_eq:jB ds=some (.nx ds):=rfl
@[simp] theorem appG_eq (i:Nat) (fe:FE):appG i fe ds=match ds[i]? with
 | some (.own l)=>(fe ds).bind fun d=>if l.length < sizeLine then some (.nx (ds.set i (.own (l++[d])))) else none
 | _=>none:=rfl
@[simp] theorem extG_eq (i:Nat) (fe:FA):extG i fe ds=match ds[i]? with
 | some (.own l)=>(fe ds).bind fun d=>if l.length+d.length<=sizeLine then some (.nx (ds.set i (.own (l++d)))) else none
 | _=>none:=rfl
@[simp] theorem putG_eq (i:Nat) (fk fe:FE):putG i fk fe ds=match ds[i]? with
 | some (.own l) => (fe ds).bind fun d => (fk ds).bind fun k => match k with
   | .int n=>(ixN l.length n).map fun j=>.nx (ds.set i (.own (l.set j d)))
   | _=>none
 | _=>none:=rfl
@[simp] theorem clrG_eq (i:Nat):clrG i ds=match ds[i]? with
 | some (.own l)=>some (.nx (ds.set i (.own [])))
 | _=>none:=rfl
@[simp] theorem asgG_eq (ga:D->List Sl->Option (List Sl)) (f:FE):asgG ga f ds=(f ds).bind fun d=>(ga d ds).map .nx:=rfl
@[simp] theorem relS_eq (i:Nat):relS i ds=match ds[i]? with | some (.own l)=>ds.set i (.v (.lst l)) | _=>ds:=rfl
@[simp] theorem viaA_eq (f:FE) (k:D->Option (List D)):viaA f k ds=(f ds).bind k:=rfl
@[simp] theorem asLT_lst (l:List D):asLT (.lst l)=some l:=rfl
@[simp] theorem asLT_tup (l:List D):asLT (.tup l)=some l:=rfl
@[simp] theorem catA_eq (fa fb:FE):catA fa fb ds=(fa ds).bind fun x=>(fb ds).bind fun y=>match x,y with
 | .lst a,.lst b=>if a.length+b.length<=sizeLine then some (a++b) else none
 | _,_=>none:=rfl
@[simp] theorem sliA_eq (f:FE) (lo hi:List Sl->Option (Option Int)):sliA f lo hi ds=(f ds).bind fun d=>(lo ds).bind fun a=>(hi ds).bind fun b=>match d with
 | .lst l=>some (cutD l a b)
 | _=>none:=rfl
@[simp] theorem lisA_eq (f:FE):lisA f ds=(f ds).bind asLT:=rfl
@[simp] theorem noP_eq:noP ds=some none:=rfl
@[simp] theorem soP_eq (f:FE):soP f ds=(f ds).bind fun d=>match d with | .int i=>some (some i) | _=>none:=rfl
@[simp] theorem xA (fi:FA) (ga:D->List Sl->Option (List Sl)) (body:FS):forG fi ga body ds=(fi ds).bind fun items=>jC ga body items ds:=rfl
@[simp] theorem nameG_eq (i:Nat) (d:D):zO i d ds=some (ds.set i (.v d)):=rfl
@[simp] theorem tupG_eq (n:Nat) (h:List D->List Sl->Option (List Sl)) (l:List D):tupG n h (.tup l) ds=if l.length=n then h l ds else none:=rfl
@[simp] theorem tgCons_eq (g:D->List Sl->Option (List Sl)) (h:List D->List Sl->Option (List Sl)) (d:D) (r:List D):qA g h (d::r) ds=(g d ds).bind fun ds'=>h r ds':=rfl
@[simp] theorem tgNil_eq:tgNil [] ds=some ds:=rfl
@[simp] theorem isiG_eq (T:String) (f:FE):isiG T f ds=(f ds).bind (isiD T):=rfl
@[simp] theorem chain_eq (op op':D->D->Option D) (fa fb fc:FE):chain op op' fa fb fc ds=(fa ds).bind fun x=>(fb ds).bind fun y=>(op x y).bind fun z=>match z with
 | .bl true=>(fc ds).bind fun w=>op' y w
 | .bl false=>some (.bl false)
 | _=>none:=rfl
end
@[simp] theorem addD_int (i j:Int):xD (.int i) (.int j)=some (.int (i+j)):=rfl
@[simp] theorem subD_int (i j:Int):subD (.int i) (.int j)=some (.int (i - j)):=rfl
@[simp] theorem negD_int (i:Int):negD (.int i)=some (.int (-i)):=rfl
@[simp] theorem ltD_int (i j:Int):ltD (.int i) (.int j)=some (.bl (decide (i < j))):=rfl
@[simp] theorem leD_int (i j:Int):leD (.int i) (.int j)=some (.bl (decide (i<=j))):=rfl
@[simp] theorem gtD_int (i j:Int):gtD (.int i) (.int j)=some (.bl (decide (j < i))):=rfl
@[simp] theorem geD_int (i j:Int):geD (.int i) (.int j)=some (.bl (decide (j<=i))):=rfl
@[simp] theorem vO {j:Int} (i:Int) (h:0 < j):yU (.int i) (.int j)=some (.int (i % j)):=if_pos h
theorem divOk_small {j:Int} (h:0 < j) (h2:j < 1000000000):divOk j:=⟨h,by
 have h3:j.natAbs < 2 ^ 30:=by
  have:(2:Nat) ^ 30=1073741824:=by decide
  omega
 have h4:j.natAbs≠0:=by omega
 have:=(Nat.log2_lt h4).mpr h3
 omega⟩
@[simp] theorem fdivD_small {j:Int} (i:Int) (h:0 < j) (h2:j < 1000000000):yL (.int i) (.int j)=some (.int (i / j)):=if_pos (divOk_small h h2)
theorem kA {i j:Int} (h:IntMulOk i j):yV (.int i) (.int j)=some (.int (i * j)):=if_pos h
theorem powD_ok {i j:Int} (h:CPowB i j):powD (.int i) (.int j)=some (.int (i ^ j.toNat)):=if_pos h
theorem cpow_of {i j:Int} {n m:Nat} (h:i.natAbs < 2 ^ n) (h0:0<=j) (h1:j<=m) (h2:n * m<=134217728):CPowB i j:=by
 refine ⟨h0,?_⟩
 have hb:Builtin.Int.intBits i<=n:=intBits_le_iff.mpr h
 have h3:(Builtin.Int.intBits i:Int) * j<=(n:Int) * (m:Int):=Int.mul_le_mul (by omega) h1 h0 (by omega)
 have h4:((n * m:Nat):Int)<=134217728:=by omega
 have e:((n * m:Nat):Int)=(n:Int) * (m:Int):=Int.natCast_mul n m
 have e2:(2:Int) ^ 27=134217728:=by decide
 rw [e2]
 omega
@[simp] theorem pow10 {j:Int} (h0:0<=j) (h1:j<=1000):powD (.int 10) (.int j)=some (.int (10 ^ j.toNat)):=powD_ok (cpow_of (n:=4) (m:=1000) (by decide) h0 h1 (by decide))
@[simp] theorem mxD_int (i j:Int):mxD [.int i,.int j]=some (.int (max i j)):=by
 show some (D.int (if j > i then j else i))=_
 congr 2
 split <;> omega
@[simp] theorem mnD_int (i j:Int):mnD [.int i,.int j]=some (.int (min i j)):=by
 show some (D.int (if j < i then j else i))=_
 congr 2
 split <;> omega
@[simp] theorem lenD_lst (l:List D):lenD [.lst l]=some (.int l.length):=rfl
@[simp] theorem lenD_tup (l:List D):lenD [.tup l]=some (.int l.length):=rfl
@[simp] theorem isD_non:isD .non .non=some (.bl true):=rfl
@[simp] theorem isD_int (i:Int):isD (.int i) .non=some (.bl false):=rfl
@[simp] theorem isD_bl (i:Bool):isD (.bl i) .non=some (.bl false):=rfl
@[simp] theorem isD_tup (i:List D):isD (.tup i) .non=some (.bl false):=rfl
@[simp] theorem isD_lst (i:List D):isD (.lst i) .non=some (.bl false):=rfl
@[simp] theorem isD_oi (o:Option Int):isD (oi o) .non=some (.bl o.isNone):=by cases o <;> rfl
@[simp] theorem notD_non:notD .non .non=some (.bl false):=rfl
@[simp] theorem notD_int (i:Int):notD (.int i) .non=some (.bl true):=rfl
@[simp] theorem notD_bl (i:Bool):notD (.bl i) .non=some (.bl true):=rfl
@[simp] theorem notD_tup (i:List D):notD (.tup i) .non=some (.bl true):=rfl
@[simp] theorem notD_lst (i:List D):notD (.lst i) .non=some (.bl true):=rfl
@[simp] theorem notD_oi (o:Option Int):notD (oi o) .non=some (.bl o.isSome):=by cases o <;> rfl
@[simp] theorem truD_bl (b:Bool):truD (.bl b)=some b:=rfl
@[simp] theorem truD_non:truD .non=some false:=rfl
@[simp] theorem truD_lst (l:List D):truD (.lst l)=some (!l.isEmpty):=rfl
@[simp] theorem truD_tup (l:List D):truD (.tup l)=some (!l.isEmpty):=rfl
theorem ixN_pos {n:Nat} {i:Int} (h:0<=i) (h2:i < n):ixN n i=some i.toNat:=by
 unfold ixN
 rw [if_pos h,if_pos h2]
theorem xJ (l:List D) {i:Int} (h:0<=i) (h2:i < l.length):ixD (.lst l) (.int i)=l[i.toNat]?:=by
 show atI l i=_
 unfold atI
 rw [ixN_pos h h2]
 rfl
theorem wY (l:List D) {i:Int} (h:0<=i) (h2:i < l.length):ixD (.tup l) (.int i)=l[i.toNat]?:=by
 show atI l i=_
 unfold atI
 rw [ixN_pos h h2]
 rfl
@[simp] theorem ixT0 (a:D) (l:List D):ixD (.tup (a::l)) (.int 0)=some a:=by
 rw [wY _ (by decide) (by rw [List.length_cons]; omega)]
 rfl
@[simp] theorem ixT1 (a b:D) (l:List D):ixD (.tup (a::b::l)) (.int 1)=some b:=by
 rw [wY _ (by decide) (by rw [List.length_cons,List.length_cons]; omega)]
 rfl
@[simp] theorem ixT2 (a b c:D) (l:List D):ixD (.tup (a::b::c::l)) (.int 2)=some c:=by
 rw [wY _ (by decide) (by rw [List.length_cons,List.length_cons,List.length_cons]; omega)]
 rfl
@[simp] theorem ixL0 (a:D) (l:List D):ixD (.lst (a::l)) (.int 0)=some a:=by
 rw [xJ _ (by decide) (by rw [List.length_cons]; omega)]
 rfl
@[simp] theorem ixL1 (a b:D) (l:List D):ixD (.lst (a::b::l)) (.int 1)=some b:=by
 rw [xJ _ (by decide) (by rw [List.length_cons,List.length_cons]; omega)]
 rfl
theorem ixL_last (l:List D) (a:D):ixD (.lst (l++[a])) (.int (-1))=some a:=by
 show atI (l++[a]) (-1)=_
 unfold atI ixN
 rw [if_neg (by decide),if_pos (by rw [List.length_append,List.length_singleton]; omega),List.length_append,List.length_singleton]
 have e:(-1+((l.length+1:Nat):Int)).toNat=l.length:=by omega
 rw [e]
 simp
@[simp] theorem flat_non:flat .non=true:=by simp [flat]
@[simp] theorem flat_bl (b:Bool):flat (.bl b)=true:=by simp [flat]
@[simp] theorem flat_int (i:Int):flat (.int i)=true:=by simp [flat]
@[simp] theorem flat_str (i:Str):flat (.str i)=true:=by simp [flat]
@[simp] theorem flat_tup (l:List D):flat (.tup l)=flats l:=by simp [flat]
@[simp] theorem flats_nil:flats []=true:=by simp [flats]
@[simp] theorem flats_cons (d:D) (l:List D):flats (d::l)=(flat d && flats l):=by simp [flats]
@[simp] theorem flat_oi (o:Option Int):flat (oi o)=true:=by cases o <;> simp
theorem jS {d:D} (h:flat d=true):flatR d=some (.rt (.val d)):=if_pos h
@[simp] theorem flatR_non:flatR .non=some (.rt (.val .non)):=jS (by simp)
@[simp] theorem flatR_bl (b:Bool):flatR (.bl b)=some (.rt (.val (.bl b))):=jS (by simp)
@[simp] theorem flatR_int (i:Int):flatR (.int i)=some (.rt (.val (.int i))):=jS (by simp)
@[simp] theorem flatR_str (i:Str):flatR (.str i)=some (.rt (.val (.str i))):=jS (by simp)
@[simp] theorem flatR_oi (o:Option Int):flatR (oi o)=some (.rt (.val (oi o))):=jS (by simp)
@[simp] theorem flatR_tup (l:List D) (h:flats l=true):flatR (.tup l)=some (.rt (.val (.tup l))):=jS (by simpa using h)
@[simp] theorem flatF_of (l:List D) (h:flats l=true):flatF l=some (.rt (.fresh l)):=if_pos h
@[simp] theorem shal_int (n:Nat) (i:Int):shal n (.int i)=true:=by simp [shal]
@[simp] theorem shal_non (n:Nat):shal n .non=true:=by simp [shal]
@[simp] theorem shal_bl (n:Nat) (b:Bool):shal n (.bl b)=true:=by simp [shal]
@[simp] theorem shal_oi (n:Nat) (o:Option Int):shal n (oi o)=true:=by cases o <;> simp
@[simp] theorem shal_tup (n:Nat) (l:List D):shal n (.tup l)=shals n l:=by simp [shal]
@[simp] theorem shal_lst (n:Nat) (l:List D):shal n (.lst l)=shals n l:=by simp [shal]
@[simp] theorem shals_nil (n:Nat):shals n []=true:=by cases n <;> simp [shals]
@[simp] theorem shals_cons (n:Nat) (d:D) (l:List D):shals (n+1) (d::l)=(shal n d && shals (n+1) l):=by simp [shals]
theorem xL {n:Nat} {l:List D} (h:∀ d∈l,shal n d=true):shals (n+1) l=true:=by
 induction l with
 | nil=>simp
 | cons d r ih =>
   rw [shals_cons,h d List.mem_cons_self,ih fun x hx=>h x (List.mem_cons_of_mem _ hx)]
   rfl
theorem vB {x y:D} (h:shal 40 x=true) (h2:shal 40 y=true):eqD x y=some (.bl (eqvD x y)):=if_pos ⟨h,h2⟩
theorem kC {x y:D} (h:shal 40 x=true) (h2:shal 40 y=true):neD x y=some (.bl (!eqvD x y)):=if_pos ⟨h,h2⟩
@[simp] theorem eqvD_int (i j:Int):eqvD (.int i) (.int j)=decide (i=j):=by
 show (i == j)=_
 rw [Bool.eq_iff_iff]; simp
@[simp] theorem eqvD_bl (i j:Bool):eqvD (.bl i) (.bl j)=decide (i=j):=by
 show (i == j)=_
 rw [Bool.eq_iff_iff]; simp
@[simp] theorem eqvD_non:eqvD .non .non=true:=rfl
@[simp] theorem eqvD_non_int (j:Int):eqvD .non (.int j)=false:=rfl
@[simp] theorem eqvD_int_non (j:Int):eqvD (.int j) .non=false:=rfl
@[simp] theorem eqvD_oi (o p:Option Int):eqvD (oi o) (oi p)=decide (o=p):=by cases o <;> cases p <;> simp
@[simp] theorem eqvD_tup (a b:List D):eqvD (.tup a) (.tup b)=eqvs a b:=by simp [eqvD,eqvs,toPy,PyData.eqv]
@[simp] theorem wI (a b:List D):eqvD (.lst a) (.lst b)=eqvs a b:=by simp [eqvD,eqvs,toPy,PyData.eqv]
@[simp] theorem eqvs_nil:eqvs [] []=true:=by simp [eqvs,toPys,PyData.eqvAll]
@[simp] theorem eqvs_cons (x y:D) (a b:List D):eqvs (x::a) (y::b)=(eqvD x y && eqvs a b):=by simp [eqvs,eqvD,toPys,PyData.eqvAll]
@[simp] theorem eqvs_nil_cons (y:D) (b:List D):eqvs [] (y::b)=false:=by simp [eqvs,toPys,PyData.eqvAll]
@[simp] theorem eqvs_cons_nil (y:D) (b:List D):eqvs (y::b) []=false:=by simp [eqvs,toPys,PyData.eqvAll]
@[simp] theorem eqD_int (i j:Int):eqD (.int i) (.int j)=some (.bl (decide (i=j))):=by rw [vB (by simp) (by simp)]; simp
@[simp] theorem neD_int (i j:Int):neD (.int i) (.int j)=some (.bl (!decide (i=j))):=by rw [kC (by simp) (by simp)]; simp
@[simp] theorem eqD_bl (i j:Bool):eqD (.bl i) (.bl j)=some (.bl (decide (i=j))):=by rw [vB (by simp) (by simp)]; simp
@[simp] theorem neD_bl (i j:Bool):neD (.bl i) (.bl j)=some (.bl (!decide (i=j))):=by rw [kC (by simp) (by simp)]; simp
@[simp] theorem eqD_oi (i j:Option Int):eqD (oi i) (oi j)=some (.bl (decide (i=j))):=by rw [vB (by simp) (by simp)]; simp
@[simp] theorem neD_oi (i j:Option Int):neD (oi i) (oi j)=some (.bl (!decide (i=j))):=by rw [kC (by simp) (by simp)]; simp
theorem eqvs_nil_r (l:List D):eqvs l []=l.isEmpty:=by cases l <;> simp
theorem neD_nil {l:List D} (h:shals 40 l=true):neD (.lst l) (.lst [])=some (.bl (!l.isEmpty)):=by rw [kC (by simpa using h) (by simp),wI,eqvs_nil_r]
theorem shals_ints (n:Nat) (l:List Int):shals (n+1) (l.map D.int)=true:=xL fun d hd=>by obtain ⟨i,_,rfl⟩:=List.mem_map.mp hd; simp
theorem flats_ints (l:List Int):flats (l.map D.int)=true:=by
 induction l with
 | nil=>simp
 | cons a r ih=>simp [ih]
theorem ix_ints (l:List Int) {i:Int} (h:0<=i) (h2:i < l.length):∃ v,v∈l/\ixD (.lst (l.map D.int)) (.int i)=some (.int v):=by
 have h3:i.toNat < l.length:=by omega
 refine ⟨l[i.toNat],List.getElem_mem h3,?_⟩
 rw [xJ _ h (by simpa using h2)]
 simp [h3]
theorem cutD_from (l:List D) (k:Nat):cutD l (some (k:Int)) none=l.drop k:=by
 unfold cutD HT.sIx
 simp only [show ¬ ((k:Int) < 0) by omega,if_false,Int.toNat_natCast]
 rw [List.take_of_length_le (by rw [List.length_drop]; omega)]
 by_cases h:k<=l.length
 · rw [Nat.min_eq_left h]
 · rw [Nat.min_eq_right (by omega),List.drop_length,List.drop_of_length_le (by omega)]
theorem kits:kitF "int" "int" = some true/\kitF "NoneType" "int" = some false/\kitF "bool" "int" = some true/\kitF "tuple" "int" = some false/\kitF "list" "int" = some false/\kitF "str" "int" = some false ∧
  kitF "bool" "bool" = some true/\kitF "int" "bool" = some false/\kitF "NoneType" "bool" = some false/\kitF "tuple" "tuple" = some true/\kitF "list" "tuple" = some false/\kitF "NoneType" "tuple" = some false ∧
  kitF "list" "list" = some true/\kitF "tuple" "list" = some false/\kitF "NoneType" "list" = some false:=by
 refine ⟨?_,?_,?_,?_,?_,?_,?_,?_,?_,?_,?_,?_,?_,?_,?_⟩ <;> decide +kernel
@[simp] theorem isi_int_int (i:Int):isiD "int" (.int i)=some (.bl true):=by simp [isiD,tyD,kits.1]
@[simp] theorem isi_int_non:isiD "int" .non=some (.bl false):=by simp [isiD,tyD,kits.2.1]
@[simp] theorem isi_int_bl (b:Bool):isiD "int" (.bl b)=some (.bl true):=by simp [isiD,tyD,kits.2.2.1]
@[simp] theorem isi_bool_bl (b:Bool):isiD "bool" (.bl b)=some (.bl true):=by simp [isiD,tyD,kits.2.2.2.2.2.2.1]
@[simp] theorem isi_bool_int (i:Int):isiD "bool" (.int i)=some (.bl false):=by simp [isiD,tyD,kits.2.2.2.2.2.2.2.1]
@[simp] theorem isi_bool_non:isiD "bool" .non=some (.bl false):=by simp [isiD,tyD,kits.2.2.2.2.2.2.2.2.1]
@[simp] theorem isi_tup_tup (l:List D):isiD "tuple" (.tup l)=some (.bl true):=by simp [isiD,tyD,kits.2.2.2.2.2.2.2.2.2.1]
@[simp] theorem isi_lst_lst (l:List D):isiD "list" (.lst l)=some (.bl true):=by simp [isiD,tyD,kits.2.2.2.2.2.2.2.2.2.2.2.2.1]
@[simp] theorem bind_ite {α β : Type} {c:Prop} [Decidable c] (a b:Option α) (f : α->Option β):(if c then a else b).bind f=if c then a.bind f else b.bind f:=by split <;> rfl
@[simp] theorem map_ite {α β : Type} {c:Prop} [Decidable c] (a b:Option α) (f : α->β):(if c then a else b).map f=if c then a.map f else b.map f:=by split <;> rfl
theorem loop_inv {ga:D->List Sl->Option (List Sl)} {body:FS} (P:List Sl->Prop):∀ (items:List D) (ds:List Sl),P ds →
  (∀ d∈items,∀ ds,P ds->∃ ds1 ds2,ga d ds=some ds1/\(body ds1=some (.nx ds2) \/ body ds1=some (.ct ds2))/\P ds2)->∃ ds',jC ga body items ds=some (.nx ds')/\P ds'
 | [],ds,h,_=>⟨ds,rfl,h⟩
 | d :: r, ds, h, H => by
   obtain ⟨ds1,ds2,e1,e2,h2⟩:=H d List.mem_cons_self ds h
   obtain ⟨ds',e3,h3⟩:=loop_inv P r ds2 h2 fun x hx=>H x (List.mem_cons_of_mem _ hx)
   refine ⟨ds',?_,h3⟩
   rcases e2 with e2 | e2 <;> simp only [jC,e1,e2,Option.bind_some,e3]
theorem jT {fi:FA} {mp:List (Option Nat)} {ga:D->List Sl->Option (List Sl)} {tt:FT} {fe:FE} {ds:List Sl} {items l:List D} (h:fi ds=some items) (hl:items.length<=sizeLine) (hc:compL ga tt fe (qZ mp ds) items=some l):compG fi mp ga tt fe ds=some l:=by
 unfold compG
 rw [h]
 show (if items.length<=sizeLine then compL ga tt fe (qZ mp ds) items else none)=_
 rw [if_pos hl]
 exact hc
theorem kB:∀ bs:List Bool,blsD (bs.map D.bl)=some bs
 | []=>rfl
 | b::r=>by simp [blsD,kB r]
@[simp] theorem allD_bls (bs:List Bool):allD [.lst (bs.map D.bl)]=some (.bl (bs.all id)):=by simp [allD,kB]
@[simp] theorem anyD_bls (bs:List Bool):anyD [.lst (bs.map D.bl)]=some (.bl (bs.any id)):=by simp [anyD,kB]
theorem loop_invN {ga:D->List Sl->Option (List Sl)} {body:FS} (P:Nat->List Sl->Prop):∀ (items:List D) (n:Nat) (ds:List Sl),P n ds →
  (∀ d∈items,∀ m ds,m < n+items.length->P m ds->∃ ds1 ds2,ga d ds=some ds1/\(body ds1=some (.nx ds2) \/ body ds1=some (.ct ds2))/\P (m+1) ds2)->∃ ds',jC ga body items ds=some (.nx ds')/\P (n+items.length) ds'
 | [],n,ds,h,_=>⟨ds,rfl,h⟩
 | d :: r, n, ds, h, H => by
   obtain ⟨ds1,ds2,e1,e2,h2⟩:=H d List.mem_cons_self n ds (by simp) h
   obtain ⟨ds',e3,h3⟩:=loop_invN P r (n+1) ds2 h2 fun x hx m ds hm=>H x (List.mem_cons_of_mem _ hx) m ds (by simp only [List.length_cons]; omega)
   refine ⟨ds', ?_, by rw [List.length_cons]; have e : n + (r.length + 1) = n + 1 + r.length := by omega
                       rw [e]; exact h3⟩
   rcases e2 with e2 | e2 <;> simp only [jC,e1,e2,Option.bind_some,e3]
@[simp] theorem ixL2 (a b c:D) (l:List D):ixD (.lst (a::b::c::l)) (.int 2)=some c:=by
 rw [xJ _ (by decide) (by rw [List.length_cons,List.length_cons,List.length_cons]; omega)]
 rfl
@[simp] theorem ixL3 (a b c d:D) (l:List D):ixD (.lst (a::b::c::d::l)) (.int 3)=some d:=by
 rw [xJ _ (by decide) (by rw [List.length_cons,List.length_cons,List.length_cons,List.length_cons]; omega)]
 rfl
@[simp] theorem rng3_eq (fa fb fc:FE) (ds:List Sl):rng3 fa fb fc ds=(fa ds).bind fun x=>(fb ds).bind fun y=>(fc ds).bind fun z=>match x,y,z with
 | .int i,.int j,.int c=>if okR3 i j c then some (range3D i c (steps3 i j c)) else none
 | _,_,_=>none:=rfl
@[simp] theorem rng2_eq (fa fb:FE) (ds:List Sl):rng2 fa fb ds=(fa ds).bind fun x=>(fb ds).bind fun y=>match x,y with
 | .int i,.int j=>if okR i/\okR j then some (rangeD i (j - i).toNat) else none
 | _,_=>none:=rfl
@[simp] theorem rng1_eq (f:FE) (ds:List Sl):rng1 f ds=(f ds).bind fun d=>match d with | .int j=>if okR j then some (rangeD 0 j.toNat) else none | _=>none:=rfl
theorem wR {j:Int} (h : -1000000000<=j) (h2:j<=1000000000):okR j:=⟨Int.le_trans (by decide) h,Int.lt_of_le_of_lt h2 (by decide)⟩
theorem wU:∀ bs:List Int,intsD (bs.map D.int)=some bs
 | []=>rfl
 | b::r=>by simp [intsD,wU r]
@[simp] theorem absD_int (i:Int):absD [.int i]=some (.int (if i < 0 then -i else i)):=rfl
@[simp] theorem int1D_int (i:Int):int1D [.int i]=some (.int i):=rfl
@[simp] theorem int1D_bl (b:Bool):int1D [.bl b]=some (.int (if b then 1 else 0)):=rfl
@[simp] theorem augA_eq (i:Nat) (f:FE) (ds:List Sl):augA i f ds=(jN i ds).bind fun x=>(f ds).bind fun y=>match x,y with
 | .int a,.int b=>some (.nx (ds.set i (.v (.int (a+b)))))
 | _,_=>none:=rfl
@[simp] theorem parG_eq (i j:Nat) (f:FA) (ds:List Sl):parG i j f ds=(f ds).bind fun l=>match l with
 | [a,b]=>some (.nx ((ds.set i (.v a)).set j (.v b)))
 | _=>none:=rfl
@[simp] theorem revA_eq (f:FE) (ds:List Sl):revA f ds=(f ds).bind fun d=>match d with
 | .lst l=>some l.reverse
 | _=>none:=rfl
theorem mem_rangeD {d:D} {lo:Int} {n:Nat} (h:d∈rangeD lo n):∃ k:Nat,k < n/\d = .int (lo+(k:Int)):=by
 obtain ⟨k,hk,rfl⟩:=List.mem_map.mp h
 exact ⟨k,List.mem_range.mp hk,rfl⟩
theorem qT {f g:FS} {ds ds':List Sl} (h:f ds=some (.nx ds')):qO f g ds=g ds':=by simp [h]
theorem seq_rt {f g:FS} {ds:List Sl} {r:Ret} (h:f ds=some (.rt r)):qO f g ds=some (.rt r):=by simp [h]
theorem jZ {g:FS} {n:Nat} {ds:List D} {r:Ret} (h:g (args n ds)=some (.rt r)):runG g n ds=some r:=by unfold runG; rw [h]
end FL
section
open PySem PyProof.Rows L2 FL
noncomputable def GP.ends_ahead.g:FS:=(retG (andV (zJ notD (zI 0) (zE .non)) (andV (zJ notD (zI 1) (zE .non)) (zJ leD (zI 0) (zI 1)))))
noncomputable def GP.ends_ahead.f:List D->Option Ret:=runG GP.ends_ahead.g 2
noncomputable def GP.length.g:FS:=(qO (ifG (orT (zT (zJ isD (zJ ixD (zI 0) (zE (.int 0))) (zE .non))) (zT (zJ isD (zJ ixD (zI 0) (zE (.int 1))) (zE .non)))) (retG (zE .non)) jB)
 (retG (zJ subD (zJ ixD (zI 0) (zE (.int 1))) (zJ ixD (zI 0) (zE (.int 0))))))
noncomputable def GP.length.f:List D->Option Ret:=runG GP.length.g 1
noncomputable def GP.later_low.g:FS:=(qO (ifG (zT (zJ isD (zI 0) (zE .non))) (retG (zI 1)) jB)
 (qO (ifG (zT (zJ isD (zI 1) (zE .non))) (retG (zI 0)) jB)
 (retG (callB mxD (zG (zI 0) (zG (zI 1) zZ))))))
noncomputable def GP.later_low.f:List D->Option Ret:=runG GP.later_low.g 2
noncomputable def GP.earlier_behind.g:FS:=(qO (ifG (zT (zJ isD (zI 0) (zE .non))) (retG (zI 1)) jB)
 (qO (ifG (zT (zJ isD (zI 1) (zE .non))) (retG (zI 0)) jB)
 (retG (callB mnD (zG (zI 0) (zG (zI 1) zZ))))))
noncomputable def GP.earlier_behind.f:List D->Option Ret:=runG GP.earlier_behind.g 2
noncomputable def GP.meet.g:FS:=(qO (yO 2 (jG 2 GP.later_low.f (zG (zJ ixD (zI 0) (zE (.int 0))) (zG (zJ ixD (zI 1) (zE (.int 0))) zZ))))
 (qO (yO 3 (jG 2 GP.earlier_behind.f (zG (zJ ixD (zI 0) (zE (.int 1))) (zG (zJ ixD (zI 1) (zE (.int 1))) zZ))))
 (qO (ifG (testT (jG 2 GP.ends_ahead.f (zG (zI 3) (zG (zI 2) zZ)))) (retG (zE .non)) jB)
 (retG (mkT (qH (zG (jN 2) (zG (jN 3) zZ))))))))
noncomputable def GP.meet.f:List D->Option Ret:=runG GP.meet.g 4
noncomputable def GP.knit.b1:FS:=(qO (ifG (zT (zJ isD (zI 4) (zE .non))) (fun ds=>some (.ct ds)) jB)
 (ifG (andT (testT (zI 1)) (andT (zT (zJ eqD (zJ ixD (zJ ixD (zI 1) (un1 negD (zE (.int 1)))) (zE (.int 1))) (zI 2))) (zT (zJ eqD (zJ ixD (zJ ixD (zI 1) (un1 negD (zE (.int 1)))) (zE (.int 2))) (zI 4))))) (putG 1 (un1 negD (zE (.int 1))) (mkT (qH (zG (zJ ixD (zJ ixD (zI 1) (un1 negD (zE (.int 1)))) (zE (.int 0))) (zG (jN 3) (zG (jN 4) zZ)))))) (appG 1 (mkT (qH (zG (jN 2) (zG (jN 3) (zG (jN 4) zZ))))))))
noncomputable def GP.knit.g:FS:=(qO (setOG 1 (qH zZ))
 (qO (forG (viaA (jN 0) asLT) (tupG 3 (qA (zO 2) (qA (zO 3) (qA (zO 4) tgNil)))) GP.knit.b1)
 (retXG 1)))
noncomputable def GP.knit.f:List D->Option Ret:=runG GP.knit.g 5
noncomputable def GP.parts_in.b1:FS:=(qO (yO 6 (jG 2 GP.meet.f (zG (mkT (qH (zG (jN 3) (zG (jN 4) zZ)))) (zG (zI 1) zZ))))
 (ifG (zT (zJ notD (zI 6) (zE .non))) (appG 2 (mkT (qH (zG (zJ ixD (zI 6) (zE (.int 0))) (zG (zJ ixD (zI 6) (zE (.int 1))) (zG (jN 5) zZ)))))) jB))
noncomputable def GP.parts_in.g:FS:=(qO (setOG 2 (qH zZ))
 (qO (forG (viaA (jN 0) asLT) (tupG 3 (qA (zO 3) (qA (zO 4) (qA (zO 5) tgNil)))) GP.parts_in.b1)
 (retXG 2)))
noncomputable def GP.parts_in.f:List D->Option Ret:=runG GP.parts_in.g 7
noncomputable def GP.rows_over.g:FS:=(qO (setOG 3 (qH zZ))
 (qO (ifG (zT (zJ notD (zJ ixD (zI 1) (zE (.int 0))) (zE .non))) (extG 3 (vE 2 GP.parts_in.f (zG (zI 0) (zG (mkT (qH (zG (zE .non) (zG (zJ ixD (zI 1) (zE (.int 0))) zZ)))) zZ)))) jB)
 (qO (appG 3 (mkT (qH (zG (zJ ixD (zI 1) (zE (.int 0))) (zG (zJ ixD (zI 1) (zE (.int 1))) (zG (jN 2) zZ))))))
 (qO (ifG (zT (zJ notD (zJ ixD (zI 1) (zE (.int 1))) (zE .non))) (extG 3 (vE 2 GP.parts_in.f (zG (zI 0) (zG (mkT (qH (zG (zJ ixD (zI 1) (zE (.int 1))) (zG (zE .non) zZ)))) zZ)))) jB)
 (retXG 3)))))
noncomputable def GP.rows_over.f:List D->Option Ret:=runG GP.rows_over.g 4
noncomputable def GP.formed.b1:FS:=(setOG 1 (vE 1 GP.knit.f (zG (jG 3 GP.rows_over.f (zG (zI 1) (zG (zI 2) (zG (zI 3) zZ)))) zZ)))
noncomputable def GP.formed.g:FS:=(qO (setOG 1 (qH zZ))
 (qO (forG (viaA (jN 0) asLT) (tupG 2 (qA (zO 2) (qA (zO 3) tgNil))) GP.formed.b1)
 (retXG 1)))
noncomputable def GP.formed.f:List D->Option Ret:=runG GP.formed.g 4
noncomputable def GP.is_rule.g:FS:=(qO (yO 1 (zJ subD (zJ ixD (zI 0) (zE (.int 1))) (zJ ixD (zI 0) (zE (.int 0)))))
 (qO (yO 2 (zJ ixD (zI 0) (zE (.int 2))))
 (qO (yO 3 (zJ ixD (zI 0) (zE (.int 3))))
 (qO (ifG (orT (zT (zJ ltD (zI 1) (zE (.int 1)))) (orT (zT (zJ ltD (zI 3) (zE (.int 1)))) (zT (zJ gtD (zI 3) (zE (.int 100)))))) (retG (zE (.bl false))) jB)
 (retG (ifV (zT (zJ eqD (zI 3) (zE (.int 1)))) (zJ eqD (zI 2) (zE (.int 0))) (zJ gtD (zI 2) (zI 1))))))))
noncomputable def GP.is_rule.f:List D->Option Ret:=runG GP.is_rule.g 4
noncomputable def GP.stretches.g:FS:=(qO (ifG (notT (testT (jG 1 GP.is_rule.f (zG (zI 0) zZ)))) (fun _=>none) jB)
 (qO (yO 1 (zJ ixD (zI 0) (zE (.int 2))))
 (retOG (compG (rng1 (zJ ixD (zI 0) (zE (.int 3)))) [none,some 0,some 1] (zO 0) (fun _=>some true) (mkT (qH (zG (zJ xD (zJ ixD (zI 1) (zE (.int 0))) (zJ yV (zI 0) (zI 2))) (zG (zJ xD (zJ ixD (zI 1) (zE (.int 1))) (zJ yV (zI 0) (zI 2))) zZ))))))))
noncomputable def GP.stretches.f:List D->Option Ret:=runG GP.stretches.g 2
noncomputable def GP.laid_rows.g:FS:=(qO (ifG (zT (zJ gtD (callB lenD (zG (zI 0) zZ)) (zE (.int 300)))) (fun _=>none) jB)
 (retOG (vE 1 GP.formed.f (zG (zI 0) zZ))))
noncomputable def GP.laid_rows.f:List D->Option Ret:=runG GP.laid_rows.g 1
noncomputable def GP.rule_rows.g:FS:=(retOG (compG (viaA (jG 1 GP.stretches.f (zG (zI 0) zZ)) asLT) [none,some 0] (zO 0) (fun _=>some true) (mkT (qH (zG (jN 0) (zG (zJ ixD (zI 1) (zE (.int 4))) zZ))))))
noncomputable def GP.rule_rows.f:List D->Option Ret:=runG GP.rule_rows.g 1
noncomputable def GP.laid.b1:FS:=(extG 1 (vE 1 GP.rule_rows.f (zG (zI 2) zZ)))
noncomputable def GP.laid.g:FS:=(qO (setOG 1 (qH zZ))
 (qO (forG (viaA (jN 0) asLT) (zO 2) GP.laid.b1)
 (retOG (vE 1 GP.laid_rows.f (zG (zI 1) zZ)))))
noncomputable def GP.laid.f:List D->Option Ret:=runG GP.laid.g 3
noncomputable def GL.cell_at.g:FS:=(qO (ifG (zT (zJ ltD (zI 1) (callB lenD (zG (zI 0) zZ)))) (retG (zJ ixD (zI 0) (zI 1))) jB)
 (retG (zE (.int 0))))
noncomputable def GL.cell_at.f:List D->Option Ret:=runG GL.cell_at.g 2
noncomputable def GL.end.g:FS:=(retG (orV (zJ isD (zI 0) (zE .non)) (andV (isiG "int" (zI 0)) (notV (isiG "bool" (zI 0))))))
noncomputable def GL.end.f:List D->Option Ret:=runG GL.end.g 1
noncomputable def GL.whole.g:FS:=(retG (andV (isiG "int" (zI 0)) (notV (isiG "bool" (zI 0)))))
noncomputable def GL.whole.f:List D->Option Ret:=runG GL.whole.g 1
end
namespace FL
open PySem PySem.Spec PyProof.Rows L2
abbrev Spn:=Option Int×Option Int
def spD (s:Spn):D:=.tup [oi s.1,oi s.2]
def oS:Option Spn->D
 | none=>.non
 | some s=>spD s
def hasS (s:Spn) (p:Int):Bool:=(match s.1 with | none=>true | some a=>decide (a<=p)) && (match s.2 with | none=>true | some b=>decide (p < b))
def okS (s:Spn):Prop:=∀ a b,s.1=some a->s.2=some b->a < b
@[simp] theorem spD_0 (s:Spn):ixD (spD s) (.int 0)=some (oi s.1):=ixT0 _ _
@[simp] theorem spD_1 (s:Spn):ixD (spD s) (.int 1)=some (oi s.2):=ixT1 _ _ _
@[simp] theorem spD_flat (s:Spn):flat (spD s)=true:=by simp [spD]
@[simp] theorem spD_flatR (s:Spn):flatR (spD s)=some (.rt (.val (spD s))):=jS (by simp)
@[simp] theorem spD_shal (s:Spn) (n:Nat):shal (n+1) (spD s)=true:=by simp [spD]
@[simp] theorem spD_isi (s:Spn):isiD "tuple" (spD s)=some (.bl true):=by simp [spD]
@[simp] theorem spD_len (s:Spn):lenD [spD s]=some (.int 2):=by simp [spD]
@[simp] theorem spD_isD (s:Spn):isD (spD s) .non=some (.bl false):=rfl
@[simp] theorem spD_notD (s:Spn):notD (spD s) .non=some (.bl true):=rfl
@[simp] theorem spD_asLT (s:Spn):asLT (spD s)=some [oi s.1,oi s.2]:=rfl
@[simp] theorem spD_eqv (s t:Spn):eqvD (spD s) (spD t)=decide (s=t):=by
 rw [Bool.eq_iff_iff]
 simp [spD,Prod.ext_iff]
@[simp] theorem oS_isD (o:Option Spn):isD (oS o) .non=some (.bl o.isNone):=by cases o <;> rfl
@[simp] theorem oS_notD (o:Option Spn):notD (oS o) .non=some (.bl o.isSome):=by cases o <;> rfl
@[simp] theorem oS_flatR (o:Option Spn):flatR (oS o)=some (.rt (.val (oS o))):=by cases o <;> simp [oS]
theorem length_eq (s:Spn):GP.length.f [spD s]=some (.val (oi (match s.1,s.2 with | some a,some b=>some (b - a) | _,_=>none))):=by
 obtain ⟨a,b⟩:=s
 unfold GP.length.f runG GP.length.g
 cases a <;> cases b <;> simp [args]
def lateL:Option Int->Option Int->Option Int
 | none,b=>b
 | a,none=>a
 | some a,some b=>some (max a b)
def xY:Option Int->Option Int->Option Int
 | none,b=>b
 | a,none=>a
 | some a,some b=>some (min a b)
def aheadE:Option Int->Option Int->Bool
 | some b,some l=>decide (b<=l)
 | _,_=>false
theorem lateL_eq (a b:Option Int):GP.later_low.f [oi a,oi b]=some (.val (oi (lateL a b))):=by
 unfold GP.later_low.f runG GP.later_low.g
 cases a <;> cases b <;> simp [args,lateL]
theorem earlB_eq (a b:Option Int):GP.earlier_behind.f [oi a,oi b]=some (.val (oi (xY a b))):=by
 unfold GP.earlier_behind.f runG GP.earlier_behind.g
 cases a <;> cases b <;> simp [args,xY]
theorem aheadE_eq (a b:Option Int):GP.ends_ahead.f [oi a,oi b]=some (.val (.bl (aheadE a b))):=by
 unfold GP.ends_ahead.f runG GP.ends_ahead.g
 cases a <;> cases b <;> simp [args,aheadE]
def meetS (s t:Spn):Option Spn:=if aheadE (xY s.2 t.2) (lateL s.1 t.1)=true then none else some (lateL s.1 t.1,xY s.2 t.2)
theorem meet_eq (s t:Spn):GP.meet.f [spD s,spD t]=some (.val (oS (meetS s t))):=by
 unfold GP.meet.f runG GP.meet.g
 cases h:aheadE (xY s.2 t.2) (lateL s.1 t.1) <;> simp [args,lateL_eq,earlB_eq,aheadE_eq,h,meetS,oS,spD]
def HasS (s:Spn) (p:Int):Prop:=(∀ a,s.1=some a->a<=p)/\(∀ b,s.2=some b->p < b)
theorem jU (s:Spn) (p:Int):hasS s p=true↔HasS s p:=by
 obtain ⟨a,b⟩:=s
 cases a <;> cases b <;> simp [hasS,HasS]
theorem lateL_le {a c:Option Int} {p:Int} : (∀ x,lateL a c=some x->x<=p)↔(∀ x,a=some x->x<=p)/\(∀ x,c=some x->x<=p):=by
 cases a <;> cases c <;> simp [lateL]
 omega
theorem earlB_lt {a c:Option Int} {p:Int} : (∀ x,xY a c=some x->p < x)↔(∀ x,a=some x->p < x)/\(∀ x,c=some x->p < x):=by
 cases a <;> cases c <;> simp [xY]
 omega
theorem aheadE_no {b l:Option Int} {p:Int} (h:aheadE b l=true) (h1:∀ x,l=some x->x<=p) (h2:∀ x,b=some x->p < x):False:=by
 cases b <;> cases l <;> simp [aheadE] at h
 have:=h1 _ rfl
 have:=h2 _ rfl
 omega
def hasO (o:Option Spn) (p:Int):Bool:=match o with
 | none=>false
 | some u=>hasS u p
theorem hasO_meet (s t:Spn) (p:Int):hasO (meetS s t) p=(hasS s p && hasS t p):=by
 rw [Bool.eq_iff_iff,Bool.and_eq_true,jU,jU]
 unfold meetS
 by_cases h:aheadE (xY s.2 t.2) (lateL s.1 t.1)=true
 · rw [if_pos h]
   refine ⟨fun z=>by simp [hasO] at z,fun z=>(aheadE_no h (lateL_le.mpr ⟨z.1.1,z.2.1⟩) (earlB_lt.mpr ⟨z.1.2,z.2.2⟩)).elim⟩
 · rw [if_neg h]
   show hasS _ p=true↔_
   rw [jU]
   show (∀ x,lateL s.1 t.1=some x->x<=p)/\(∀ x,xY s.2 t.2=some x->p < x)↔_
   rw [lateL_le,earlB_lt]
   exact ⟨fun ⟨⟨a,b⟩,c,d⟩=>⟨⟨a,c⟩,b,d⟩,fun ⟨⟨a,c⟩,b,d⟩=>⟨⟨a,b⟩,c,d⟩⟩
theorem meetS_ok {s t u:Spn} (h:meetS s t=some u):okS u:=by
 unfold meetS at h
 split at h
 · cases h
 · rename_i hn
   cases h
   intro a b h1 h2
   simp only at h1 h2
   rw [h1,h2] at hn
   simp [aheadE] at hn
   omega
open Builtin.Int (intBits)
def cel (ns:List Int) (k:Nat):Int:=ns.getD k 0
theorem cell_eq0 (ns:List Int) {k:Int} (h:0<=k):GL.cell_at.f [.lst (ns.map D.int),.int k]=some (.val (.int (ns.getD k.toNat 0))):=by
 unfold GL.cell_at.f runG GL.cell_at.g
 by_cases hk:k < (ns.length:Int)
 · have hl : k < ((ns.map D.int).length : Int) := by simpa using hk
   have e:(ns.map D.int)[k.toNat]? = some (.int (ns.getD k.toNat 0)):=by
    have:k.toNat < ns.length:=by omega
    simp [this,List.getD]
   simp [args,hk,xJ _ h hl,e]
 · have:ns.getD k.toNat 0=0:=by
    have:ns.length<=k.toNat:=by omega
    simp [List.getD,List.getElem?_eq_none this]
   rw [this]
   simp [args,hk]
theorem cell_eq (ns:List Int) (k:Nat):GL.cell_at.f [.lst (ns.map D.int),.int (k:Int)]=some (.val (.int (cel ns k))):=cell_eq0 ns (k:=(k:Int)) (by omega)
theorem wL {a:Int} {m:Nat} (h:a.natAbs < 2 ^ m):intBits a<=m:=intBits_le_iff.mpr h
theorem end_eq (o:Option Int):GL.end.f [oi o]=some (.val (.bl true)):=by
 unfold GL.end.f runG GL.end.g
 cases o <;> simp [args]
@[simp] theorem end_int (i:Int):GL.end.f [.int i]=some (.val (.bl true)):=end_eq (some i)
@[simp] theorem end_non:GL.end.f [.non]=some (.val (.bl true)):=end_eq none
end FL
namespace FL
open PySem PySem.Spec PyProof.Rows L2
open Builtin.Int (intBits)
@[simp] theorem eqS_put_put:eqD (.str "put") (.str "put")=some (.bl true):=by kernel_rfl
@[simp] theorem neS_put_put:neD (.str "put") (.str "put")=some (.bl false):=by kernel_rfl
@[simp] theorem eqS_put_widen:eqD (.str "put") (.str "widen")=some (.bl false):=by kernel_rfl
@[simp] theorem neS_put_widen:neD (.str "put") (.str "widen")=some (.bl true):=by kernel_rfl
@[simp] theorem eqS_put_narrow:eqD (.str "put") (.str "narrow")=some (.bl false):=by kernel_rfl
@[simp] theorem neS_put_narrow:neD (.str "put") (.str "narrow")=some (.bl true):=by kernel_rfl
@[simp] theorem eqS_put_move:eqD (.str "put") (.str "move")=some (.bl false):=by kernel_rfl
@[simp] theorem neS_put_move:neD (.str "put") (.str "move")=some (.bl true):=by kernel_rfl
@[simp] theorem eqS_put_stretch:eqD (.str "put") (.str "stretch")=some (.bl false):=by kernel_rfl
@[simp] theorem neS_put_stretch:neD (.str "put") (.str "stretch")=some (.bl true):=by kernel_rfl
@[simp] theorem eqS_put_mirror:eqD (.str "put") (.str "mirror")=some (.bl false):=by kernel_rfl
@[simp] theorem neS_put_mirror:neD (.str "put") (.str "mirror")=some (.bl true):=by kernel_rfl
@[simp] theorem eqS_widen_put:eqD (.str "widen") (.str "put")=some (.bl false):=by kernel_rfl
@[simp] theorem neS_widen_put:neD (.str "widen") (.str "put")=some (.bl true):=by kernel_rfl
@[simp] theorem eqS_widen_widen:eqD (.str "widen") (.str "widen")=some (.bl true):=by kernel_rfl
@[simp] theorem neS_widen_widen:neD (.str "widen") (.str "widen")=some (.bl false):=by kernel_rfl
@[simp] theorem eqS_widen_narrow:eqD (.str "widen") (.str "narrow")=some (.bl false):=by kernel_rfl
@[simp] theorem neS_widen_narrow:neD (.str "widen") (.str "narrow")=some (.bl true):=by kernel_rfl
@[simp] theorem eqS_widen_move:eqD (.str "widen") (.str "move")=some (.bl false):=by kernel_rfl
@[simp] theorem neS_widen_move:neD (.str "widen") (.str "move")=some (.bl true):=by kernel_rfl
@[simp] theorem eqS_widen_stretch:eqD (.str "widen") (.str "stretch")=some (.bl false):=by kernel_rfl
@[simp] theorem neS_widen_stretch:neD (.str "widen") (.str "stretch")=some (.bl true):=by kernel_rfl
@[simp] theorem eqS_widen_mirror:eqD (.str "widen") (.str "mirror")=some (.bl false):=by kernel_rfl
@[simp] theorem neS_widen_mirror:neD (.str "widen") (.str "mirror")=some (.bl true):=by kernel_rfl
@[simp] theorem eqS_narrow_put:eqD (.str "narrow") (.str "put")=some (.bl false):=by kernel_rfl
@[simp] theorem neS_narrow_put:neD (.str "narrow") (.str "put")=some (.bl true):=by kernel_rfl
@[simp] theorem eqS_narrow_widen:eqD (.str "narrow") (.str "widen")=some (.bl false):=by kernel_rfl
@[simp] theorem neS_narrow_widen:neD (.str "narrow") (.str "widen")=some (.bl true):=by kernel_rfl
@[simp] theorem eqS_narrow_narrow:eqD (.str "narrow") (.str "narrow")=some (.bl true):=by kernel_rfl
@[simp] theorem neS_narrow_narrow:neD (.str "narrow") (.str "narrow")=some (.bl false):=by kernel_rfl
@[simp] theorem eqS_narrow_move:eqD (.str "narrow") (.str "move")=some (.bl false):=by kernel_rfl
@[simp] theorem neS_narrow_move:neD (.str "narrow") (.str "move")=some (.bl true):=by kernel_rfl
@[simp] theorem eqS_narrow_stretch:eqD (.str "narrow") (.str "stretch")=some (.bl false):=by kernel_rfl
@[simp] theorem neS_narrow_stretch:neD (.str "narrow") (.str "stretch")=some (.bl true):=by kernel_rfl
@[simp] theorem eqS_narrow_mirror:eqD (.str "narrow") (.str "mirror")=some (.bl false):=by kernel_rfl
@[simp] theorem neS_narrow_mirror:neD (.str "narrow") (.str "mirror")=some (.bl true):=by kernel_rfl
@[simp] theorem eqS_move_put:eqD (.str "move") (.str "put")=some (.bl false):=by kernel_rfl
@[simp] theorem neS_move_put:neD (.str "move") (.str "put")=some (.bl true):=by kernel_rfl
@[simp] theorem eqS_move_widen:eqD (.str "move") (.str "widen")=some (.bl false):=by kernel_rfl
@[simp] theorem neS_move_widen:neD (.str "move") (.str "widen")=some (.bl true):=by kernel_rfl
@[simp] theorem eqS_move_narrow:eqD (.str "move") (.str "narrow")=some (.bl false):=by kernel_rfl
@[simp] theorem neS_move_narrow:neD (.str "move") (.str "narrow")=some (.bl true):=by kernel_rfl
@[simp] theorem eqS_move_move:eqD (.str "move") (.str "move")=some (.bl true):=by kernel_rfl
@[simp] theorem neS_move_move:neD (.str "move") (.str "move")=some (.bl false):=by kernel_rfl
@[simp] theorem eqS_move_stretch:eqD (.str "move") (.str "stretch")=some (.bl false):=by kernel_rfl
@[simp] theorem neS_move_stretch:neD (.str "move") (.str "stretch")=some (.bl true):=by kernel_rfl
@[simp] theorem eqS_move_mirror:eqD (.str "move") (.str "mirror")=some (.bl false):=by kernel_rfl
@[simp] theorem neS_move_mirror:neD (.str "move") (.str "mirror")=some (.bl true):=by kernel_rfl
@[simp] theorem eqS_stretch_put:eqD (.str "stretch") (.str "put")=some (.bl false):=by kernel_rfl
@[simp] theorem neS_stretch_put:neD (.str "stretch") (.str "put")=some (.bl true):=by kernel_rfl
@[simp] theorem eqS_stretch_widen:eqD (.str "stretch") (.str "widen")=some (.bl false):=by kernel_rfl
@[simp] theorem neS_stretch_widen:neD (.str "stretch") (.str "widen")=some (.bl true):=by kernel_rfl
@[simp] theorem eqS_stretch_narrow:eqD (.str "stretch") (.str "narrow")=some (.bl false):=by kernel_rfl
@[simp] theorem neS_stretch_narrow:neD (.str "stretch") (.str "narrow")=some (.bl true):=by kernel_rfl
@[simp] theorem eqS_stretch_move:eqD (.str "stretch") (.str "move")=some (.bl false):=by kernel_rfl
@[simp] theorem neS_stretch_move:neD (.str "stretch") (.str "move")=some (.bl true):=by kernel_rfl
@[simp] theorem eqS_stretch_stretch:eqD (.str "stretch") (.str "stretch")=some (.bl true):=by kernel_rfl
@[simp] theorem neS_stretch_stretch:neD (.str "stretch") (.str "stretch")=some (.bl false):=by kernel_rfl
@[simp] theorem eqS_stretch_mirror:eqD (.str "stretch") (.str "mirror")=some (.bl false):=by kernel_rfl
@[simp] theorem neS_stretch_mirror:neD (.str "stretch") (.str "mirror")=some (.bl true):=by kernel_rfl
@[simp] theorem eqS_mirror_put:eqD (.str "mirror") (.str "put")=some (.bl false):=by kernel_rfl
@[simp] theorem neS_mirror_put:neD (.str "mirror") (.str "put")=some (.bl true):=by kernel_rfl
@[simp] theorem eqS_mirror_widen:eqD (.str "mirror") (.str "widen")=some (.bl false):=by kernel_rfl
@[simp] theorem neS_mirror_widen:neD (.str "mirror") (.str "widen")=some (.bl true):=by kernel_rfl
@[simp] theorem eqS_mirror_narrow:eqD (.str "mirror") (.str "narrow")=some (.bl false):=by kernel_rfl
@[simp] theorem neS_mirror_narrow:neD (.str "mirror") (.str "narrow")=some (.bl true):=by kernel_rfl
@[simp] theorem eqS_mirror_move:eqD (.str "mirror") (.str "move")=some (.bl false):=by kernel_rfl
@[simp] theorem neS_mirror_move:neD (.str "mirror") (.str "move")=some (.bl true):=by kernel_rfl
@[simp] theorem eqS_mirror_stretch:eqD (.str "mirror") (.str "stretch")=some (.bl false):=by kernel_rfl
@[simp] theorem neS_mirror_stretch:neD (.str "mirror") (.str "stretch")=some (.bl true):=by kernel_rfl
@[simp] theorem eqS_mirror_mirror:eqD (.str "mirror") (.str "mirror")=some (.bl true):=by kernel_rfl
@[simp] theorem neS_mirror_mirror:neD (.str "mirror") (.str "mirror")=some (.bl false):=by kernel_rfl
@[simp] theorem fldG_eq (ix:List (Nat×Nat)) (f:FE) (ds:List Sl):fldG ix f ds=(f ds).bind (fldD ix):=rfl
@[simp] theorem fldD_ins (ix:List (Nat×Nat)) (t:Nat) (es:List D):fldD ix (.ins t es)=(ix.lookup t).bind fun i=>es[i]?:=rfl
@[simp] theorem methV_eq (n:Nat) (cs:List Nat) (F:Nat->List D->Option Ret) (fo:FE) (g:FA) (ds:List Sl):methV n cs F fo g ds=(fo ds).bind fun o=>(g ds).bind fun l=>(methR n cs F o l).bind retV:=rfl
@[simp] theorem methF_eq (n:Nat) (cs:List Nat) (F:Nat->List D->Option Ret) (fo:FE) (g:FA) (ds:List Sl):methF n cs F fo g ds=(fo ds).bind fun o=>(g ds).bind fun l=>(methR n cs F o l).bind retF:=rfl
@[simp] theorem makeG_eq (t n:Nat) (G:List D->Option (List D)) (g:FA) (ds:List Sl):makeG t n G g ds=(g ds).bind fun l=>if l.length=n/\flats l=true then (G l).map (D.ins t) else none:=rfl
@[simp] theorem retDG_eq (f:FE) (ds:List Sl):retDG f ds=(f ds).map fun d=>.rt (.val d):=rfl
end FL
namespace FL
open PySem PySem.Spec PyProof.Rows L2
abbrev Rw:=Option Int×Option Int×Option Int
def rwD (r:Rw):D:=.tup [oi r.1,oi r.2.1,oi r.2.2]
def has3 (r:Rw) (p:Int):Bool:=hasS (r.1,r.2.1) p
def ok3 (r:Rw):Prop:=okS (r.1,r.2.1)
@[simp] theorem rwD_0 (r:Rw):ixD (rwD r) (.int 0)=some (oi r.1):=ixT0 _ _
@[simp] theorem rwD_1 (r:Rw):ixD (rwD r) (.int 1)=some (oi r.2.1):=ixT1 _ _ _
@[simp] theorem rwD_2 (r:Rw):ixD (rwD r) (.int 2)=some (oi r.2.2):=ixT2 _ _ _ _
@[simp] theorem rwD_flat (r:Rw):flat (rwD r)=true:=by simp [rwD]
@[simp] theorem rwD_flatR (r:Rw):flatR (rwD r)=some (.rt (.val (rwD r))):=jS (by simp)
@[simp] theorem rwD_shal (r:Rw) (n:Nat):shal (n+1) (rwD r)=true:=by simp [rwD]
@[simp] theorem rwD_isi (r:Rw):isiD "tuple" (rwD r)=some (.bl true):=by simp [rwD]
@[simp] theorem rwD_len (r:Rw):lenD [rwD r]=some (.int 3):=by simp [rwD]
@[simp] theorem rwD_tupG (h:List D->List Sl->Option (List Sl)) (r:Rw) (ds:List Sl):tupG 3 h (rwD r) ds=h [oi r.1,oi r.2.1,oi r.2.2] ds:=by simp [rwD]
@[simp] theorem rwD_eqv (r t:Rw):eqvD (rwD r) (rwD t)=decide (r=t):=by
 obtain ⟨a,b,c⟩:=r
 obtain ⟨x,y,z⟩:=t
 rw [Bool.eq_iff_iff]
 simp [rwD]
theorem xE (l:List Rw):flats (l.map rwD)=true:=by
 induction l with
 | nil=>simp
 | cons a r ih=>simp [ih]
theorem ixN_last {n:Nat} (h:0 < n):ixN n (-1)=some (n - 1):=by
 unfold ixN
 rw [if_neg (by decide),if_pos (by omega)]
 congr 1
 omega
def ahead (a b:Rw):Prop:=∃ x y,a.2.1=some x/\b.1=some y/\x<=y
structure Ord (rows:List Rw):Prop where
 ok:∀ r∈rows,ok3 r
 pw:rows.Pairwise ahead
def Tel (rows:List Rw) (p v:Int):Prop:=∃ r∈rows,has3 r p=true/\r.2.2=some v
def knit1 (acc:List Rw) (r:Rw):List Rw:=match r.2.2 with
 | none=>acc
 | some v => match acc with
   | []=>[r]
   | q::t=>if q.2.1=r.1/\q.2.2=some v then (q.1,r.2.1,some v)::t else r::q::t
def knitF (rows:List Rw):List Rw:=(rows.foldl knit1 []).reverse
theorem knit_turn (acc:List Rw) (r:Rw) (R a b c:Sl) (hl:acc.length < 16777216) :
  GP.knit.b1 [R,.own (acc.map rwD).reverse,.v (oi r.1),.v (oi r.2.1),.v (oi r.2.2)]=some (.nx [R,.own ((knit1 acc r).map rwD).reverse,.v (oi r.1),.v (oi r.2.1),.v (oi r.2.2)]) ∨
  GP.knit.b1 [R,.own (acc.map rwD).reverse,.v (oi r.1),.v (oi r.2.1),.v (oi r.2.2)]=some (.ct [R,.own ((knit1 acc r).map rwD).reverse,.v (oi r.1),.v (oi r.2.1),.v (oi r.2.2)]):=by
 obtain ⟨lo,bh,v⟩:=r
 unfold GP.knit.b1
 cases v with
 | none=>right; simp [knit1]
 | some v =>
   left
   cases acc with
   | nil =>
     have e:D.tup [oi lo,oi bh,.int v]=rwD (lo,bh,some v):=rfl
     simp [knit1,e]
   | cons q t =>
     have last:ixD (.lst ((t.map rwD).reverse++[rwD q])) (.int (-1))=some (rwD q):=ixL_last _ _
     have le:ixN (t.length+1) (-1)=some t.length:=by rw [ixN_last (by omega)]; rfl
     have hl':t.length+1 < 16777216:=by simpa using hl
     have e2:∀ x:Option Int,eqD (oi x) (D.int v)=some (.bl (decide (x=some v))):=fun x=>eqD_oi x (some v)
     by_cases h1:q.2.1=lo
     · by_cases h2 : q.2.2 = some v
       · have e : D.tup [oi q.1, oi bh, .int v] = rwD (q.1, bh, some v) := rfl
         simp [knit1,h1,h2,last,le,e2,e]
       · have e : D.tup [oi lo, oi bh, .int v] = rwD (lo, bh, some v) := rfl
         simp [knit1,h1,h2,last,le,e2,hl',e]
     · have e : D.tup [oi lo, oi bh, .int v] = rwD (lo, bh, some v) := rfl
       simp [knit1,h1,last,le,hl',e]
theorem knit1_len (acc:List Rw) (r:Rw):(knit1 acc r).length<=acc.length+1:=by
 unfold knit1
 split
 · omega
 · split
   · simp
   · split <;> simp
theorem knit_loop (R:Sl):∀ (rows acc:List Rw) (a b c:Sl),acc.length+rows.length < 16777216 →
  ∃ a' b' c',jC (tupG 3 (qA (zO 2) (qA (zO 3) (qA (zO 4) tgNil)))) GP.knit.b1 (rows.map rwD) [R,.own (acc.map rwD).reverse,a,b,c]=some (.nx [R,.own ((rows.foldl knit1 acc).map rwD).reverse,a',b',c'])
 | [],acc,a,b,c,_=>⟨a,b,c,rfl⟩
 | r :: rows, acc, a, b, c, h => by
   simp only [List.length_cons] at h
   have hl:=knit1_len acc r
   obtain ⟨a',b',c',ih⟩:=knit_loop R rows (knit1 acc r) (.v (oi r.1)) (.v (oi r.2.1)) (.v (oi r.2.2)) (by omega)
   refine ⟨a',b',c',?_⟩
   rcases knit_turn acc r R a b c (by omega) with e | e <;> simp [jC,e,ih]
theorem knit_eq (rows:List Rw) (h:rows.length < 16777216):GP.knit.f [.lst (rows.map rwD)]=some (.fresh ((knitF rows).map rwD)):=by
 obtain ⟨a,b,c,e⟩:=knit_loop (.v (.lst (rows.map rwD))) rows [] .no .no .no (by simpa using h)
 simp only [List.reverse_nil,List.map_nil] at e
 unfold GP.knit.f runG GP.knit.g
 have fl:=xE (knitF rows)
 unfold knitF at fl ⊢
 rw [List.map_reverse] at fl ⊢
 simp [args,e,fl]
theorem knitF_len (rows:List Rw):(knitF rows).length<=rows.length:=by
 unfold knitF
 rw [List.length_reverse]
 have:∀ (rows acc:List Rw),(rows.foldl knit1 acc).length<=acc.length+rows.length:=by
  intro rows
  induction rows with
  | nil=>intro acc; simp
  | cons r t ih =>
    intro acc
    have:=ih (knit1 acc r)
    have:=knit1_len acc r
    simp only [List.foldl_cons,List.length_cons]
    omega
 have:=this rows []
 simpa using this
def adjOk:List Rw->Prop
 | b::a::t=>¬ (a.2.1=b.1/\a.2.2=b.2.2)/\adjOk (a::t)
 | _=>True
structure KI (acc:List Rw):Prop where
 ok:∀ r∈acc,ok3 r
 pw:acc.Pairwise fun b a=>ahead a b
 val:∀ r∈acc,r.2.2≠none
 adj:adjOk acc
theorem KI.nil:KI []:=⟨(fun _ h=>nomatch h),List.Pairwise.nil,(fun _ h=>nomatch h),trivial⟩
theorem jH (r:Rw) (p:Int):has3 r p=true↔(∀ a,r.1=some a->a<=p)/\(∀ b,r.2.1=some b->p < b):=jU _ _
theorem knit1_step {acc:List Rw} {r:Rw} (k:KI acc) (ho:ok3 r) (ha:∀ a∈acc,ahead a r) :
  KI (knit1 acc r)/\(∀ r',ahead r r'->(∀ a∈acc,ahead a r')->∀ a∈knit1 acc r,ahead a r')/\∀ p v,Tel (knit1 acc r) p v↔Tel acc p v \/ (has3 r p=true/\r.2.2=some v):=by
 obtain ⟨lo,bh,w⟩:=r
 cases w with
 | none =>
   refine ⟨k,fun r' _ h=>h,fun p v=>⟨.inl,fun h=>h.elim id fun z=>by simp at z⟩⟩
 | some w =>
   cases acc with
   | nil =>
     refine ⟨⟨?_,?_,?_,trivial⟩,?_,?_⟩
     · intro x hx; simp [knit1] at hx; subst hx; exact ho
     · simp [knit1]
     · intro x hx; simp [knit1] at hx; subst hx; simp
     · intro r' h1 _ a h; simp [knit1] at h; subst h; exact h1
     · intro p v; simp [knit1,Tel]
   | cons q t =>
     obtain ⟨x,y,hx,hy,hxy⟩:=ha q List.mem_cons_self
     simp only at hy
     have pw:=List.pairwise_cons.mp k.pw
     by_cases hm:q.2.1=lo/\q.2.2=some w
     · have e : knit1 (q :: t) (lo, bh, some w) = (q.1, bh, some w) :: t := by simp [knit1, hm.1, hm.2]
       rw [e]
       have exy:x=y:=by
        have:=hm.1
        rw [hx,hy] at this
        exact Option.some.inj this
       have hn:∀ p,has3 (q.1,bh,some w) p=true↔has3 q p=true \/ has3 (lo,bh,some w) p=true:=by
        intro p
        rw [jH,jH,jH]
        simp only
        constructor
        · rintro ⟨h1, h2⟩
          by_cases hp:p < x
          · exact .inl ⟨h1,fun b hb=>by rw [hx] at hb; cases hb; exact hp⟩
          · exact .inr ⟨fun a h=>by rw [hy] at h; cases h; omega,h2⟩
        · rintro (⟨h1, h2⟩ | ⟨h1, h2⟩)
          · refine ⟨h1, fun b hb => ?_⟩
            have:=h2 x hx
            have:=ho y b hy hb
            omega
          · refine ⟨fun a h => ?_, h2⟩
            have:=k.ok q List.mem_cons_self a x h hx
            have:=h1 y hy
            omega
       refine ⟨⟨?_,?_,?_,?_⟩,?_,?_⟩
       · intro z hz
         rcases List.mem_cons.mp hz with rfl | hz
         · intro a b h1 h2
           have:=k.ok q List.mem_cons_self a x h1 hx
           have:=ho y b hy h2
           omega
         · exact k.ok z (List.mem_cons_of_mem _ hz)
       · refine List.pairwise_cons.mpr ⟨fun a h => ?_, pw.2⟩
         exact pw.1 a h
       · intro z hz
         rcases List.mem_cons.mp hz with rfl | hz
         · simp
         · exact k.val z (List.mem_cons_of_mem _ hz)
       · have ka := k.adj
         cases t with
         | nil=>trivial
         | cons a t =>
           refine ⟨fun h=>ka.1 ⟨h.1,?_⟩,ka.2⟩
           rw [hm.2]
           exact h.2
       · intro r' h1 h2 a h
         rcases List.mem_cons.mp h with rfl | h
         · exact h1
         · exact h2 a (List.mem_cons_of_mem _ h)
       · intro p v
         constructor
         · rintro ⟨z, hz, h1, h2⟩
           rcases List.mem_cons.mp hz with rfl | hz
           · rcases (hn p).mp h1 with h3 | h3
             · exact .inl ⟨q,List.mem_cons_self,h3,hm.2.trans h2⟩
             · exact .inr ⟨h3,h2⟩
           · exact .inl ⟨z,List.mem_cons_of_mem _ hz,h1,h2⟩
         · rintro (⟨z, hz, h1, h2⟩ | ⟨h1, h2⟩)
           · rcases List.mem_cons.mp hz with rfl | hz
             · exact ⟨_,List.mem_cons_self,(hn p).mpr (.inl h1),by rw [hm.2] at h2; exact h2⟩
             · exact ⟨z,List.mem_cons_of_mem _ hz,h1,h2⟩
           · exact ⟨_,List.mem_cons_self,(hn p).mpr (.inr h1),h2⟩
     · have e : knit1 (q :: t) (lo, bh, some w) = (lo, bh, some w) :: q :: t := by simp only [knit1]; rw [if_neg hm]
       rw [e]
       refine ⟨⟨?_,List.pairwise_cons.mpr ⟨ha,k.pw⟩,?_,hm,k.adj⟩,?_,?_⟩
       · intro z hz
         rcases List.mem_cons.mp hz with rfl | hz
         · exact ho
         · exact k.ok z hz
       · intro z hz
         rcases List.mem_cons.mp hz with rfl | hz
         · simp
         · exact k.val z hz
       · intro r' h1 h2 a h
         rcases List.mem_cons.mp h with rfl | h
         · exact h1
         · exact h2 a h
       · intro p v
         constructor
         · rintro ⟨z, hz, h1, h2⟩
           rcases List.mem_cons.mp hz with rfl | hz
           · exact .inr ⟨h1,h2⟩
           · exact .inl ⟨z,hz,h1,h2⟩
         · rintro (⟨z, hz, h1, h2⟩ | ⟨h1, h2⟩)
           · exact ⟨z,List.mem_cons_of_mem _ hz,h1,h2⟩
           · exact ⟨_,List.mem_cons_self,h1,h2⟩
theorem vD:∀ (rows acc:List Rw),KI acc->Ord rows->(∀ a∈acc,∀ r∈rows,ahead a r)->KI (rows.foldl knit1 acc)/\∀ p v,Tel (rows.foldl knit1 acc) p v↔Tel acc p v \/ Tel rows p v
 | [],acc,k,_,_=>⟨k,fun p v=>⟨.inl,fun h=>h.elim id fun ⟨r,hr,_⟩=>nomatch hr⟩⟩
 | r :: rows, acc, k, o, h => by
   have pw:=List.pairwise_cons.mp o.pw
   obtain ⟨k1,h1,t1⟩:=knit1_step k (o.ok r List.mem_cons_self) fun a ha=>h a ha r List.mem_cons_self
   obtain ⟨k2,t2⟩:=vD rows (knit1 acc r) k1 ⟨fun z hz=>o.ok z (List.mem_cons_of_mem _ hz),pw.2⟩ fun a ha r' hr'=>h1 r' (pw.1 r' hr') (fun b hb=>h b hb r' (List.mem_cons_of_mem _ hr')) a ha
   refine ⟨k2,fun p v=>?_⟩
   show Tel (rows.foldl knit1 (knit1 acc r)) p v↔_
   rw [t2,t1]
   constructor
   · rintro ((h | ⟨h, e⟩) | ⟨z, hz, h⟩)
     · exact .inl h
     · exact .inr ⟨r,List.mem_cons_self,h,e⟩
     · exact .inr ⟨z,List.mem_cons_of_mem _ hz,h⟩
   · rintro (h' | ⟨z, hz, h'⟩)
     · exact .inl (.inl h')
     · rcases List.mem_cons.mp hz with rfl | hz
       · exact .inl (.inr h')
       · exact .inr ⟨z,hz,h'⟩
structure MapF (ps:List Rw):Prop where
 ord:Ord ps
 val:∀ r∈ps,r.2.2≠none
 adj:∀ (i:Nat) (a b:Rw),ps[i]? = some a->ps[i+1]? = some b->¬ (a.2.1=b.1/\a.2.2=b.2.2)
theorem adjOk_get:∀ {l:List Rw},adjOk l->∀ (i:Nat) (b a:Rw),l[i]? = some b->l[i+1]? = some a->¬ (a.2.1=b.1/\a.2.2=b.2.2)
 | [],_,i,b,a,e,_=>by simp at e
 | [x],_,i,b,a,e,e2=>by simp at e2
 | x :: y :: t, h, 0, b, a, e, e2 => by
   simp at e e2
   subst e e2
   exact h.1
 | x::y::t,h,i+1,b,a,e,e2=>adjOk_get h.2 i b a (by simpa using e) (by simpa using e2)
theorem KI.map {acc:List Rw} (k:KI acc):MapF acc.reverse:=by
 refine ⟨⟨fun r hr=>k.ok r (List.mem_reverse.mp hr),List.pairwise_reverse.mpr k.pw⟩,fun r hr=>k.val r (List.mem_reverse.mp hr),fun i a b h1 h2=>?_⟩
 have l2:=(List.getElem?_eq_some_iff.mp h2).1
 rw [List.length_reverse] at l2
 rw [List.getElem?_reverse (by omega)] at h1 h2
 refine adjOk_get k.adj (acc.length - 1 - (i+1)) b a h2 ?_
 rw [<- h1]
 congr 1
 omega
theorem tel_reverse {l:List Rw} {p v:Int} : Tel l.reverse p v↔Tel l p v:=⟨fun ⟨r,h,q⟩=>⟨r,List.mem_reverse.mp h,q⟩,fun ⟨r,h,q⟩=>⟨r,List.mem_reverse.mpr h,q⟩⟩
theorem knitF_map {rows:List Rw} (o:Ord rows):MapF (knitF rows):=(vD rows [] KI.nil o (fun _ h=>nomatch h)).1.map
theorem knitF_tel {rows:List Rw} (o:Ord rows) (p v:Int):Tel (knitF rows) p v↔Tel rows p v:=by
 unfold knitF
 rw [tel_reverse,(vD rows [] KI.nil o (fun _ h=>nomatch h)).2]
 exact ⟨fun h=>h.elim (fun ⟨r,hr,_⟩=>nomatch hr) id,.inr⟩
def valL (rows:List Rw) (p:Int):Option Int:=rows.foldl (fun t r=>if has3 r p=true then r.2.2 else t) none
theorem xO {a b:Rw} {p:Int} (h:ahead a b) (h1:has3 a p=true) (h2:has3 b p=true):False:=by
 obtain ⟨x,y,hx,hy,hxy⟩:=h
 rw [jH] at h1 h2
 have:=h1.2 x hx
 have:=h2.1 y hy
 omega
theorem valL_none {rows:List Rw} {p:Int} (h:∀ r∈rows,has3 r p=false) (t:Option Int):rows.foldl (fun t r=>if has3 r p=true then r.2.2 else t) t=t:=by
 induction rows generalizing t with
 | nil=>rfl
 | cons r rows ih =>
   rw [List.foldl_cons,h r List.mem_cons_self]
   exact ih (fun z hz=>h z (List.mem_cons_of_mem _ hz)) _
theorem wJ {rows:List Rw} (o:Ord rows) (p v:Int):valL rows p=some v↔Tel rows p v:=by
 have key:∀ (rows:List Rw),Ord rows->∀ t:Option Int,rows.foldl (fun t r=>if has3 r p=true then r.2.2 else t) t=(match rows.find? (fun r=>has3 r p) with | some r=>r.2.2 | none=>t):=by
  intro rows
  induction rows with
  | nil=>intro _ t; rfl
  | cons r rows ih =>
    intro o t
    have pw:=List.pairwise_cons.mp o.pw
    rw [List.foldl_cons]
    cases h:has3 r p with
    | true =>
      rw [List.find?_cons_of_pos (by exact h)]
      simp only [if_true]
      exact valL_none (fun z hz=>by
       cases hz':has3 z p with
       | false=>rfl
       | true=>exact (xO (pw.1 z hz) h hz').elim) _
    | false =>
      rw [List.find?_cons_of_neg (by simpa using h)]
      simp only [Bool.false_eq_true,if_false]
      exact ih ⟨fun z hz=>o.ok z (List.mem_cons_of_mem _ hz),pw.2⟩ t
 unfold valL
 rw [key rows o none]
 constructor
 · intro h
   cases hf:rows.find? (fun r=>has3 r p) with
   | none=>rw [hf] at h; cases h
   | some r =>
     rw [hf] at h
     exact ⟨r,List.mem_of_find?_eq_some hf,by simpa using List.find?_some hf,h⟩
 · rintro ⟨r, hr, h1, h2⟩
   cases hf:rows.find? (fun r=>has3 r p) with
   | none =>
     have:=List.find?_eq_none.mp hf r hr
     exact (this h1).elim
   | some r' =>
     have h3:has3 r' p=true:=by simpa using List.find?_some hf
     have hm:=List.mem_of_find?_eq_some hf
     have:r'=r:=by
      by_cases e:r'=r
      · exact e
      · exfalso
        have pw:=o.pw
        rcases List.mem_iff_getElem.mp hr with ⟨i,hi,rfl⟩
        rcases List.mem_iff_getElem.mp hm with ⟨j,hj,rfl⟩
        rcases Nat.lt_trichotomy i j with hlt | hlt | hlt
        · exact xO (List.pairwise_iff_getElem.mp pw i j hi hj hlt) h1 h3
        · subst hlt; exact e rfl
        · exact xO (List.pairwise_iff_getElem.mp pw j i hj hi hlt) h3 h1
     rw [this]
     exact h2
open Builtin.Int (intBits)
structure Drawn (rows:List Rw) (s:Int):Prop where
 ord:Ord rows
 fin:∀ r∈rows,∃ lo bh,r.1=some lo/\r.2.1=some bh/\bh<=s
theorem whole_int (i:Int):GL.whole.f [.int i]=some (.val (.bl true)):=by
 unfold GL.whole.f runG GL.whole.g
 simp [args]
end FL
namespace FL
open PySem PySem.Spec PyProof.Rows L2
open Builtin.Int (intBits)
@[simp] theorem methR_ins (n:Nat) (cs:List Nat) (F:Nat->List D->Option Ret) (t:Nat) (es l:List D):methR n cs F (.ins t es) l=if t∈cs/\l.length=n then F t (.ins t es::l) else none:=rfl
end FL
namespace FL
open PySem PySem.Spec PyProof.Rows L2
open Builtin.Int (intBits)
end FL
namespace FL
open PySem PySem.Spec PyProof.Rows L2
theorem valL_find {rows:List Rw} (o:Ord rows) (p:Int):valL rows p=(match rows.find? (fun r=>has3 r p) with | some r=>r.2.2 | none=>none):=by
 cases hf:rows.find? (fun r=>has3 r p) with
 | none =>
   cases hv:valL rows p with
   | none=>rfl
   | some v =>
     obtain ⟨r,hr,h1,_⟩:=(wJ o p v).mp hv
     exact (List.find?_eq_none.mp hf r hr h1).elim
 | some r =>
   have hm:=List.mem_of_find?_eq_some hf
   have h3:has3 r p=true:=by simpa using List.find?_some hf
   cases hw:r.2.2 with
   | some v=>exact ((wJ o p v).mpr ⟨r,hm,h3,hw⟩).trans hw.symm
   | none =>
     cases hv:valL rows p with
     | none=>exact hw.symm
     | some v =>
       obtain ⟨r',hr',h1,h2⟩:=(wJ o p v).mp hv
       have:r'=r:=by
        by_cases e:r'=r
        · exact e
        · exfalso
          rcases List.mem_iff_getElem.mp hr' with ⟨i,hi,rfl⟩
          rcases List.mem_iff_getElem.mp hm with ⟨j,hj,rfl⟩
          rcases Nat.lt_trichotomy i j with hlt | hlt | hlt
          · exact xO (List.pairwise_iff_getElem.mp o.pw i j hi hj hlt) h1 h3
          · subst hlt; exact e rfl
          · exact xO (List.pairwise_iff_getElem.mp o.pw j i hj hi hlt) h3 h1
       rw [this,hw] at h2
       cases h2
def part1 (s:Spn) (r:Rw):Option Rw:=(meetS (r.1,r.2.1) s).map fun u=>(u.1,u.2,r.2.2)
def zU (ps:List Rw) (s:Spn):List Rw:=ps.filterMap (part1 s)
theorem xS (R:Sl) (s:Spn):∀ (ps acc:List Rw) (a b c d:Sl),acc.length+ps.length < 16777216->∃ a' b' c' d',jC (tupG 3 (qA (zO 3) (qA (zO 4) (qA (zO 5) tgNil)))) GP.parts_in.b1 (ps.map rwD) [R,.v (spD s),.own (acc.map rwD),a,b,c,d]=some (.nx [R,.v (spD s),.own ((acc++zU ps s).map rwD),a',b',c',d'])
 | [],acc,a,b,c,d,_=>⟨a,b,c,d,by simp [zU,jC]⟩
 | r :: ps, acc, a, b, c, d, h => by
   simp only [List.length_cons] at h
   have me:GP.meet.f [.tup [oi r.1,oi r.2.1],spD s]=some (.val (oS (meetS (r.1,r.2.1) s))):=meet_eq (r.1,r.2.1) s
   cases hm:meetS (r.1,r.2.1) s with
   | none =>
     rw [hm] at me
     obtain ⟨a',b',c',d',ih⟩:=xS R s ps acc (.v (oi r.1)) (.v (oi r.2.1)) (.v (oi r.2.2)) (.v .non) (by omega)
     refine ⟨a',b',c',d',?_⟩
     have turn:GP.parts_in.b1 [R,.v (spD s),.own (acc.map rwD),.v (oi r.1),.v (oi r.2.1),.v (oi r.2.2),d]=some (.nx [R,.v (spD s),.own (acc.map rwD),.v (oi r.1),.v (oi r.2.1),.v (oi r.2.2),.v .non]):=by simp [GP.parts_in.b1,me,oS]
     have e:zU (r::ps) s=zU ps s:=by simp [zU,part1,hm]
     rw [e]
     simp [jC,turn,ih]
   | some u =>
     rw [hm] at me
     obtain ⟨a',b',c',d',ih⟩:=xS R s ps (acc++[(u.1,u.2,r.2.2)]) (.v (oi r.1)) (.v (oi r.2.1)) (.v (oi r.2.2)) (.v (spD u)) (by simp; omega)
     refine ⟨a',b',c',d',?_⟩
     have z:acc.length < 16777216:=by omega
     have e0:D.tup [oi u.1,oi u.2,oi r.2.2]=rwD (u.1,u.2,r.2.2):=rfl
     have turn:GP.parts_in.b1 [R,.v (spD s),.own (acc.map rwD),.v (oi r.1),.v (oi r.2.1),.v (oi r.2.2),d]=some (.nx [R,.v (spD s),.own (acc.map rwD++[rwD (u.1,u.2,r.2.2)]),.v (oi r.1),.v (oi r.2.1),.v (oi r.2.2),.v (spD u)]):=by simp [GP.parts_in.b1,me,oS,z,e0]
     have e:zU (r::ps) s=(u.1,u.2,r.2.2)::zU ps s:=by simp [zU,part1,hm]
     rw [e]
     simp only [List.map_append,List.map_cons,List.map_nil,List.append_assoc,List.cons_append,List.nil_append] at ih ⊢
     simp [jC,turn,ih]
theorem yN (ps:List Rw) (s:Spn):(zU ps s).length<=ps.length:=List.length_filterMap_le _ _
theorem parts_eq (ps:List Rw) (s:Spn) (h:ps.length < 16777216):GP.parts_in.f [.lst (ps.map rwD),spD s]=some (.fresh ((zU ps s).map rwD)):=by
 obtain ⟨a,b,c,d,e⟩:=xS (.v (.lst (ps.map rwD))) s ps [] .no .no .no .no (by simpa using h)
 simp only [List.map_nil,List.nil_append] at e
 unfold GP.parts_in.f runG GP.parts_in.g
 simp [args,e,xE]
theorem qR {s:Spn} {r r':Rw} (h:part1 s r=some r'):ok3 r'/\r'.2.2=r.2.2/\(∀ p,has3 r' p=(has3 r p && hasS s p))/\(∀ x,r.2.1=some x->∃ x',r'.2.1=some x'/\x'<=x)/\(∀ y,r.1=some y->∃ y',r'.1=some y'/\y<=y')/\(∀ x,s.2=some x->∃ x',r'.2.1=some x'/\x'<=x)/\(∀ y,s.1=some y->∃ y',r'.1=some y'/\y<=y'):=by
 unfold part1 at h
 cases hm:meetS (r.1,r.2.1) s with
 | none=>rw [hm] at h; cases h
 | some u =>
   rw [hm] at h
   cases h
   have hp:=fun p=>hasO_meet (r.1,r.2.1) s p
   rw [hm] at hp
   refine ⟨meetS_ok hm,rfl,fun p=>hp p,?_,?_,?_,?_⟩
   all_goals (unfold meetS at hm; split at hm; (· cases hm); cases hm)
   · intro x hx
     show ∃ x',xY r.2.1 s.2=some x'/\x'<=x
     rw [hx]
     cases s.2 <;> simp [xY]
     omega
   · intro y hy
     show ∃ y',lateL r.1 s.1=some y'/\y<=y'
     rw [hy]
     cases s.1 <;> simp [lateL]
     omega
   · intro x hx
     show ∃ x',xY r.2.1 s.2=some x'/\x'<=x
     rw [hx]
     cases r.2.1 <;> simp [xY]
     omega
   · intro y hy
     show ∃ y',lateL r.1 s.1=some y'/\y<=y'
     rw [hy]
     cases r.1 <;> simp [lateL]
     omega
theorem part1_none {s:Spn} {r:Rw} (h:part1 s r=none) (p:Int):(has3 r p && hasS s p)=false:=by
 unfold part1 at h
 have hp:=hasO_meet (r.1,r.2.1) s p
 cases hm:meetS (r.1,r.2.1) s with
 | none=>rw [hm] at hp; exact hp.symm
 | some u=>rw [hm] at h; cases h
theorem mem_parts {ps:List Rw} {s:Spn} {r':Rw} : r'∈zU ps s↔∃ r∈ps,part1 s r=some r':=List.mem_filterMap
theorem parts_ord {ps:List Rw} (o:Ord ps) (s:Spn):Ord (zU ps s):=by
 refine ⟨fun r' h=>?_,?_⟩
 · obtain ⟨r, _, h⟩ := mem_parts.mp h
   exact (qR h).1
 · unfold zU
   rw [List.pairwise_filterMap]
   refine o.pw.imp fun {a b} hab a' ha b' hb=>?_
   obtain ⟨x,y,hx,hy,hxy⟩:=hab
   obtain ⟨x',e1,h1⟩:=(qR ha).2.2.2.1 x hx
   obtain ⟨y',e2,h2⟩:=(qR hb).2.2.2.2.1 y hy
   exact ⟨x',y',e1,e2,by omega⟩
theorem parts_tel {ps:List Rw} {s:Spn} {p v:Int} : Tel (zU ps s) p v↔hasS s p=true/\Tel ps p v:=by
 constructor
 · rintro ⟨r', h, h1, h2⟩
   obtain ⟨r,hr,h⟩:=mem_parts.mp h
   obtain ⟨_,e,hh,_⟩:=qR h
   rw [hh p,Bool.and_eq_true] at h1
   exact ⟨h1.2,r,hr,h1.1,e ▸ h2⟩
 · rintro ⟨hs, r, hr, h1, h2⟩
   cases h:part1 s r with
   | none =>
     have:=part1_none h p
     rw [h1,hs] at this
     cases this
   | some r' =>
     obtain ⟨_,e,hh,_⟩:=qR h
     exact ⟨r',mem_parts.mpr ⟨r,hr,h⟩,by rw [hh p,h1,hs]; rfl,e.trans h2⟩
def loP (ps:List Rw):Option Int->List Rw
 | none=>[]
 | some a=>zU ps (none,some a)
def hiP (ps:List Rw):Option Int->List Rw
 | none=>[]
 | some b=>zU ps (some b,none)
def overF (ps:List Rw) (s:Spn) (v:Option Int):List Rw:=loP ps s.1++(s.1,s.2,v)::hiP ps s.2
theorem parts_two {ps:List Rw} (o:Ord ps) {a b:Int} (h:a < b):(zU ps (none,some a)).length+(zU ps (some b,none)).length<=ps.length+1:=by
 induction ps with
 | nil=>simp [zU]
 | cons r t ih =>
   have pw:=List.pairwise_cons.mp o.pw
   have ot:Ord t:=⟨fun z hz=>o.ok z (List.mem_cons_of_mem _ hz),pw.2⟩
   have ih:=ih ot
   cases h1:part1 (none,some a) r with
   | none =>
     have e1:zU (r::t) (none,some a)=zU t (none,some a):=by simp [zU,h1]
     rw [e1]
     have:(zU (r::t) (some b,none)).length<=(zU t (some b,none)).length+1:=by
      unfold zU
      rw [List.filterMap_cons]
      split <;> simp
     simp only [List.length_cons]
     omega
   | some r1 =>
     have e1:zU (r::t) (none,some a)=r1::zU t (none,some a):=by simp [zU,h1]
     rw [e1]
     cases h2:part1 (some b,none) r with
     | none =>
       have e2:zU (r::t) (some b,none)=zU t (some b,none):=by simp [zU,h2]
       rw [e2]
       simp only [List.length_cons]
       omega
     | some r2 =>
       have e2:zU (r::t) (some b,none)=r2::zU t (some b,none):=by simp [zU,h2]
       have e3:zU t (none,some a)=[]:=by
        unfold zU
        rw [List.filterMap_eq_nil_iff]
        intro z hz
        cases hz':part1 (none,some a) z with
        | none=>rfl
        | some z' =>
          exfalso
          obtain ⟨x,y,hx,hy,hxy⟩:=pw.1 z hz
          have k2:=qR h2
          have kz:=qR hz'
          obtain ⟨x2,ex2,hx2⟩:=k2.2.2.2.1 x hx
          obtain ⟨y2,ey2,hy2⟩:=k2.2.2.2.2.2.2 b rfl
          have:=k2.1 y2 x2 ey2 ex2
          obtain ⟨y3,ey3,hy3⟩:=kz.2.2.2.2.1 y hy
          obtain ⟨x3,ex3,hx3⟩:=kz.2.2.2.2.2.1 a rfl
          have:=kz.1 y3 x3 ey3 ex3
          omega
       rw [e2,e3]
       have:=yN t (some b,none)
       simp only [List.length_cons,List.length_nil]
       omega
theorem over_len {ps:List Rw} (o:Ord ps) (s:Spn) (hs:okS s) (v:Option Int):(overF ps s v).length<=ps.length+2:=by
 obtain ⟨lo,bh⟩:=s
 unfold overF loP hiP
 cases lo with
 | none =>
   cases bh with
   | none=>simp
   | some b =>
     have:=yN ps (some b,none)
     simp
     omega
 | some a =>
   cases bh with
   | none =>
     have:=yN ps (none,some a)
     simp
     omega
   | some b =>
     have:=parts_two o (hs a b rfl rfl)
     simp
     omega
theorem over_ord {ps:List Rw} (o:Ord ps) (s:Spn) (hs:okS s) (v:Option Int):Ord (overF ps s v):=by
 obtain ⟨lo,bh⟩:=s
 unfold overF
 have l1:∀ r∈(loP ps lo),ok3 r/\∃ a x,lo=some a/\r.2.1=some x/\x<=a:=by
  cases lo with
  | none=>intro r h; cases h
  | some a =>
    intro r h
    obtain ⟨q,_,h⟩:=mem_parts.mp h
    obtain ⟨x,e,hx⟩:=(qR h).2.2.2.2.2.1 a rfl
    exact ⟨(qR h).1,a,x,rfl,e,hx⟩
 have l2:∀ r∈(hiP ps bh),ok3 r/\∃ b y,bh=some b/\r.1=some y/\b<=y:=by
  cases bh with
  | none=>intro r h; cases h
  | some b =>
    intro r h
    obtain ⟨q,_,h⟩:=mem_parts.mp h
    obtain ⟨y,e,hy⟩:=(qR h).2.2.2.2.2.2 b rfl
    exact ⟨(qR h).1,b,y,rfl,e,hy⟩
 have o1:Ord (loP ps lo):=by
  cases lo with
  | none=>exact ⟨(fun _ h=>nomatch h),List.Pairwise.nil⟩
  | some a=>exact parts_ord o _
 have o2:Ord (hiP ps bh):=by
  cases bh with
  | none=>exact ⟨(fun _ h=>nomatch h),List.Pairwise.nil⟩
  | some b=>exact parts_ord o _
 refine ⟨fun r h=>?_,?_⟩
 · rcases List.mem_append.mp h with h | h
   · exact (l1 r h).1
   · rcases List.mem_cons.mp h with rfl | h
     · exact hs
     · exact (l2 r h).1
 · refine List.pairwise_append.mpr ⟨o1.pw, List.pairwise_cons.mpr ⟨fun r h => ?_, o2.pw⟩, fun a ha b hb => ?_⟩
   · obtain ⟨_, b, y, e, e2, hy⟩ := l2 r h
     exact ⟨b,y,e,e2,hy⟩
   · obtain ⟨_, x, x', e, e2, hx⟩ := l1 a ha
     rcases List.mem_cons.mp hb with rfl | hb
     · exact ⟨x',x,e2,e,hx⟩
     · obtain ⟨_, y, y', e3, e4, hy⟩ := l2 b hb
       have:=hs x y e e3
       exact ⟨x',y',e2,e4,by omega⟩
theorem over_tel {ps:List Rw} (s:Spn) (hs:okS s) (v:Option Int) (p w:Int):Tel (overF ps s v) p w↔if hasS s p=true then v=some w else Tel ps p w:=by
 obtain ⟨lo,bh⟩:=s
 have h1:Tel (loP ps lo) p w↔(∃ a,lo=some a/\p < a)/\Tel ps p w:=by
  cases lo with
  | none=>exact ⟨(fun ⟨r,h,_⟩=>nomatch h),(fun ⟨⟨a,e,_⟩,_⟩=>by cases e)⟩
  | some a =>
    show Tel (zU ps (none,some a)) p w↔_
    rw [parts_tel]
    simp [hasS]
 have h2:Tel (hiP ps bh) p w↔(∃ b,bh=some b/\b<=p)/\Tel ps p w:=by
  cases bh with
  | none=>exact ⟨(fun ⟨r,h,_⟩=>nomatch h),(fun ⟨⟨a,e,_⟩,_⟩=>by cases e)⟩
  | some b =>
    show Tel (zU ps (some b,none)) p w↔_
    rw [parts_tel]
    simp [hasS]
 have h3:Tel (overF ps (lo,bh) v) p w↔Tel (loP ps lo) p w \/ (hasS (lo,bh) p=true/\v=some w) \/ Tel (hiP ps bh) p w:=by
  unfold overF
  constructor
  · rintro ⟨r, h, e1, e2⟩
    rcases List.mem_append.mp h with h | h
    · exact .inl ⟨r,h,e1,e2⟩
    · rcases List.mem_cons.mp h with rfl | h
      · exact .inr (.inl ⟨e1,e2⟩)
      · exact .inr (.inr ⟨r,h,e1,e2⟩)
  · rintro (⟨r, h, e1, e2⟩ | ⟨e1, e2⟩ | ⟨r, h, e1, e2⟩)
    · exact ⟨r,List.mem_append_left _ h,e1,e2⟩
    · exact ⟨_,List.mem_append_right _ List.mem_cons_self,e1,e2⟩
    · exact ⟨r,List.mem_append_right _ (List.mem_cons_of_mem _ h),e1,e2⟩
 rw [h3,h1,h2]
 by_cases hp:hasS (lo,bh) p=true
 · rw [if_pos hp]
   have hq:=(jU _ _).mp hp
   constructor
   · rintro (⟨⟨a, e, hlt⟩, _⟩ | ⟨_, e⟩ | ⟨⟨b, e, hle⟩, _⟩)
     · have:=hq.1 a e; omega
     · exact e
     · have:=hq.2 b e; omega
   · exact fun e=>.inr (.inl ⟨hp,e⟩)
 · rw [if_neg hp]
   constructor
   · rintro (⟨_, h⟩ | ⟨e, _⟩ | ⟨_, h⟩)
     · exact h
     · exact (hp e).elim
     · exact h
   · intro h
     by_cases hl:∃ a,lo=some a/\p < a
     · exact .inl ⟨hl,h⟩
     · by_cases hb : ∃ b, bh = some b /\ b <= p
       · exact .inr (.inr ⟨hb,h⟩)
       · exfalso
         apply hp
         rw [jU]
         refine ⟨fun a e=>?_,fun b e=>?_⟩
         · exact Int.not_lt.mp fun z=>hl ⟨a,e,z⟩
         · exact Int.not_le.mp fun z=>hb ⟨b,e,z⟩
theorem over_eq {ps:List Rw} (s:Spn) (v:Option Int) (h:ps.length<=1000000):GP.rows_over.f [.lst (ps.map rwD),spD s,oi v]=some (.fresh ((overF ps s v).map rwD)):=by
 obtain ⟨lo,bh⟩:=s
 have p1:∀ a:Int,GP.parts_in.f [.lst (ps.map rwD),.tup [.non,.int a]]=some (.fresh ((zU ps (none,some a)).map rwD)):=fun a=>parts_eq ps (none,some a) (by omega)
 have p2:∀ a:Int,GP.parts_in.f [.lst (ps.map rwD),.tup [.int a,.non]]=some (.fresh ((zU ps (some a,none)).map rwD)):=fun a=>parts_eq ps (some a,none) (by omega)
 have e0:D.tup [oi lo,oi bh,oi v]=rwD (lo,bh,v):=rfl
 have fl:=xE (overF ps (lo,bh) v)
 unfold overF loP hiP at fl ⊢
 unfold GP.rows_over.f runG GP.rows_over.g
 cases lo with
 | none =>
   cases bh with
   | none=>simp at fl e0; simp [args,e0]
   | some b =>
     have z:=yN ps (some b,none)
     have z1:1+(zU ps (some b,none)).length<=16777216:=by omega
     simp at fl e0
     simp [args,p2,e0,z1,fl]
 | some a =>
   have z:=yN ps (none,some a)
   have z0:(zU ps (none,some a)).length<=16777216:=by omega
   have z1:(zU ps (none,some a)).length < 16777216:=by omega
   cases bh with
   | none =>
     simp at fl e0
     simp [args,p1,e0,z0,z1,fl]
   | some b =>
     have z':=yN ps (some b,none)
     have z2:(zU ps (none,some a)).length+1+(zU ps (some b,none)).length<=16777216:=by omega
     simp at fl e0
     simp [args,p1,p2,e0,z0,z1,z2,fl]
abbrev Rv:=Spn×Option Int
def rvD (r:Rv):D:=.tup [spD r.1,oi r.2]
@[simp] theorem rvD_flat (r:Rv):flat (rvD r)=true:=by simp [rvD]
@[simp] theorem rvD_flatR (r:Rv):flatR (rvD r)=some (.rt (.val (rvD r))):=jS (by simp)
@[simp] theorem rvD_shal (r:Rv) (n:Nat):shal (n+2) (rvD r)=true:=by simp [rvD]
@[simp] theorem rvD_tupG (h:List D->List Sl->Option (List Sl)) (r:Rv) (ds:List Sl):tupG 2 h (rvD r) ds=h [spD r.1,oi r.2] ds:=by simp [rvD]
@[simp] theorem rvD_eqv (r t:Rv):eqvD (rvD r) (rvD t)=decide (r=t):=by
 obtain ⟨a,b⟩:=r
 obtain ⟨x,y⟩:=t
 rw [Bool.eq_iff_iff]
 simp [rvD]
theorem flats_rv (l:List Rv):flats (l.map rvD)=true:=by
 induction l with
 | nil=>simp
 | cons a r ih=>simp [ih]
def put1 (ps:List Rw) (r:Rv):List Rw:=knitF (overF ps r.1 r.2)
def formedF (rows:List Rv):List Rw:=rows.foldl put1 []
theorem put1_map {ps:List Rw} (m:MapF ps) {r:Rv} (h:okS r.1):MapF (put1 ps r):=knitF_map (over_ord m.ord r.1 h r.2)
theorem put1_len {ps:List Rw} (m:MapF ps) {r:Rv} (h:okS r.1):(put1 ps r).length<=ps.length+2:=Nat.le_trans (knitF_len _) (over_len m.ord r.1 h r.2)
theorem put1_tel {ps:List Rw} (m:MapF ps) {r:Rv} (h:okS r.1) (p w:Int):Tel (put1 ps r) p w↔if hasS r.1 p=true then r.2=some w else Tel ps p w:=by
 unfold put1
 rw [knitF_tel (over_ord m.ord r.1 h r.2),over_tel r.1 h r.2]
theorem put1_eq {ps:List Rw} (m:MapF ps) (hl:ps.length<=100000) {s:Spn} {v:Option Int} (h:okS s):(GP.rows_over.f [.lst (ps.map rwD),spD s,oi v]=some (.fresh ((overF ps s v).map rwD)))/\GP.knit.f [.lst ((overF ps s v).map rwD)]=some (.fresh ((put1 ps (s,v)).map rwD)) :=
 ⟨over_eq s v (by omega),knit_eq _ (by have:=over_len m.ord s h v; omega)⟩
theorem MapF.nil:MapF []:=⟨⟨(fun _ h=>nomatch h),List.Pairwise.nil⟩,(fun _ h=>nomatch h),(fun i a b h _=>by simp at h)⟩
theorem formed_loop (R:Sl):∀ (rows:List Rv) (ps:List Rw) (a b:Sl),MapF ps->(∀ r∈rows,okS r.1)->ps.length+2 * rows.length<=100000 →
  (∃ a' b',jC (tupG 2 (qA (zO 2) (qA (zO 3) tgNil))) GP.formed.b1 (rows.map rvD) [R,.own (ps.map rwD),a,b]=some (.nx [R,.own ((rows.foldl put1 ps).map rwD),a',b']))/\MapF (rows.foldl put1 ps)/\(rows.foldl put1 ps).length<=ps.length+2 * rows.length
 | [],ps,a,b,m,_,_=>⟨⟨a,b,rfl⟩,m,by simp⟩
 | r :: rows, ps, a, b, m, hs, hl => by
   simp only [List.length_cons] at hl
   have hr:=hs r List.mem_cons_self
   have z:=put1_len m hr
   obtain ⟨⟨a',b',ih⟩,m',l'⟩:=formed_loop R rows (put1 ps r) (.v (spD r.1)) (.v (oi r.2)) (put1_map m hr) (fun x hx=>hs x (List.mem_cons_of_mem _ hx)) (by omega)
   obtain ⟨e1,e2⟩:=put1_eq m (by omega) (s:=r.1) (v:=r.2) hr
   refine ⟨⟨a',b',?_⟩,m',by simp only [List.foldl_cons,List.length_cons]; omega⟩
   have turn:GP.formed.b1 [R,.own (ps.map rwD),.v (spD r.1),.v (oi r.2)]=some (.nx [R,.own ((put1 ps r).map rwD),.v (spD r.1),.v (oi r.2)]):=by simp [GP.formed.b1,e1,e2]
   rw [List.foldl_cons]
   simp [jC,turn,ih]
theorem xQ (rows:List Rv) (hs:∀ r∈rows,okS r.1) (hl:rows.length<=1000):GP.formed.f [.lst (rows.map rvD)]=some (.fresh ((formedF rows).map rwD))/\MapF (formedF rows)/\(formedF rows).length<=2 * rows.length:=by
 obtain ⟨⟨a,b,e⟩,m,l⟩:=formed_loop (.v (.lst (rows.map rvD))) rows [] .no .no MapF.nil hs (by simp; omega)
 refine ⟨?_,m,by unfold formedF; simpa using l⟩
 simp only [List.map_nil] at e
 have fl:=xE (formedF rows)
 unfold formedF at fl ⊢
 unfold GP.formed.f runG GP.formed.g
 simp [args,e,fl]
def dueF (rows:List Rv) (p:Int):Option Int:=match rows.reverse.find? (fun r=>hasS r.1 p) with
 | some r=>r.2
 | none=>none
theorem formed_tel (rows:List Rv) (hs:∀ r∈rows,okS r.1) (p w:Int):Tel (formedF rows) p w↔dueF rows p=some w:=by
 have key:∀ (rows:List Rv) (ps:List Rw),MapF ps->(∀ r∈rows,okS r.1)->(Tel (rows.foldl put1 ps) p w↔(match rows.reverse.find? (fun r=>hasS r.1 p) with | some r=>r.2=some w | none=>Tel ps p w)):=by
  intro rows
  induction rows with
  | nil=>intro ps _ _; exact Iff.rfl
  | cons r rows ih =>
    intro ps m hs
    have hr:=hs r List.mem_cons_self
    rw [List.foldl_cons,ih (put1 ps r) (put1_map m hr) fun x hx=>hs x (List.mem_cons_of_mem _ hx)]
    rw [List.reverse_cons,List.find?_append]
    cases hf:rows.reverse.find? (fun r=>hasS r.1 p) with
    | some q=>simp
    | none =>
      rw [Option.none_or,put1_tel m hr]
      cases h:hasS r.1 p with
      | true=>simp [h]
      | false=>simp [h]
 unfold formedF
 rw [key rows [] MapF.nil hs]
 unfold dueF
 cases rows.reverse.find? (fun r=>hasS r.1 p) with
 | some r=>exact Iff.rfl
 | none=>exact ⟨(fun ⟨r,h,_⟩=>nomatch h),(fun h=>nomatch h)⟩
open Builtin.Int (intBits)
end FL
namespace FL
open PySem PySem.Spec PyProof.Rows L2
theorem jK {α : Type} {ga:D->List Sl->Option (List Sl)} {fe:FE} {s0:List Sl} (f h : α->D):∀ (xs:List α),(∀ x∈xs,∃ ds1,ga (f x) s0=some ds1/\fe ds1=some (h x))->compL ga (fun _=>some true) fe s0 (xs.map f)=some (xs.map h)
 | [],_=>rfl
 | x :: xs, H => by
   obtain ⟨ds1,e1,e2⟩:=H x List.mem_cons_self
   have ih:=jK (ga:=ga) (fe:=fe) (s0:=s0) f h xs fun y hy=>H y (List.mem_cons_of_mem _ hy)
   simp only [List.map_cons,compL,e1,e2,ih,Option.bind_some,if_true,Option.map_some]
theorem compL_filt {α : Type} {ga:D->List Sl->Option (List Sl)} {tt:FT} {fe:FE} {s0:List Sl} (f : α->D) (p : α->Bool) (h : α->D):∀ (xs:List α),(∀ x∈xs,∃ ds1,ga (f x) s0=some ds1/\tt ds1=some (p x)/\(p x=true->fe ds1=some (h x)))->compL ga tt fe s0 (xs.map f)=some ((xs.filter p).map h)
 | [],_=>rfl
 | x :: xs, H => by
   obtain ⟨ds1,e1,e2,e3⟩:=H x List.mem_cons_self
   have ih:=compL_filt (ga:=ga) (tt:=tt) (fe:=fe) (s0:=s0) f p h xs fun y hy=>H y (List.mem_cons_of_mem _ hy)
   cases hp:p x with
   | true=>simp [compL,e1,e2,e3 hp,ih,hp]
   | false=>simp [compL,e1,e2,ih,hp]
theorem flats_spn (l:List Spn):flats (l.map spD)=true:=by
 induction l with
 | nil=>simp
 | cons a r ih=>simp [ih,spD]
abbrev R4:=Option Int×Option Int×Option Int×Option Int
def r4D (r:R4):D:=.tup [oi r.1,oi r.2.1,oi r.2.2.1,oi r.2.2.2]
@[simp] theorem r4D_tupG (h:List D->List Sl->Option (List Sl)) (r:R4) (ds:List Sl):tupG 4 h (r4D r) ds=h [oi r.1,oi r.2.1,oi r.2.2.1,oi r.2.2.2] ds:=by simp [r4D]
theorem ix_rw {A:List Rw} {i:Nat} {a:Rw} (h:A[i]? = some a):ixD (.lst (A.map rwD)) (.int (i:Int))=some (rwD a):=by
 have hi:=(List.getElem?_eq_some_iff.mp h).1
 rw [xJ _ (by omega) (by simp; omega),Int.toNat_natCast,List.getElem?_map,h]
 rfl
open Builtin.Int (intBits)
structure DrawM (rows:List Rw) (s:Int):Prop where
 map:MapF rows
 fin:∀ r∈rows,∃ lo bh,r.1=some lo/\r.2.1=some bh/\bh<=s
 last:∀ r,rows.getLast? = some r->r.2.1=some s
theorem DrawM.nil (s:Int):DrawM [] s:=⟨MapF.nil,(fun _ h=>nomatch h),fun r h=>by simp at h⟩
end FL
namespace FL
open PySem PySem.Spec PyProof.Rows L2
open Builtin.Int (intBits)
@[simp] theorem notD_rw (r:Rw):notD (rwD r) .non=some (.bl true):=rfl
end FL
namespace FL
open PySem PySem.Spec PyProof.Rows L2
theorem if_yes {t:FT} {f g:FS} {ds:List Sl} (h:t ds=some true):ifG t f g ds=f ds:=by simp [h]
theorem if_not {t:FT} {f g:FS} {ds:List Sl} (h:t ds=some false):ifG t f g ds=g ds:=by simp [h]
end FL
section
open PySem PyProof.Rows L2 FL
end
namespace FL
open PySem PySem.Spec PyProof.Rows L2
open Builtin.Int (intBits)
end FL
namespace FL
open PySem PySem.Spec PyProof.Rows L2
open Builtin.Int (intBits)
@[simp] theorem sltW_eq (f:FE) (lo hi:List Sl->Option (Option Int)) (ds:List Sl):sltW f lo hi ds=(f ds).bind fun d=>(lo ds).bind fun a=>(hi ds).bind fun b=>match d with
 | .tup l=>some (.tup (cutD l a b))
 | _=>none:=rfl
theorem cut13 (a b c:D):cutD [a,b,c] (some 1) none=[b,c]:=cutD_from [a,b,c] 1
theorem val_at {ps:List Rw} (o:Ord ps) {q:Int} {k:Nat} (h1:∀ i r,i < k->ps[i]? = some r->∃ b,r.2.1=some b/\b<=q) (h2:∀ r b,ps[k]? = some r->r.2.1=some b->q < b) :
  valL ps q=match ps[k]? with | some r=>(match r.1 with | some a=>if a<=q then r.2.2 else none | none=>r.2.2) | none=>none:=by
 rw [valL_find o]
 have no1:∀ i r,i < k->ps[i]? = some r->has3 r q=false:=fun i r hi e=>by
  obtain ⟨b,e1,e2⟩:=h1 i r hi e
  cases hh:has3 r q with
  | false=>rfl
  | true=>have:=((jH r q).mp hh).2 b e1; omega
 have take:∀ r,r∈ps.take k->has3 r q=false:=fun r hr=>by
  obtain ⟨i,hi,e⟩:=List.getElem_of_mem hr
  have hik:i < k:=by rw [List.length_take] at hi; omega
  refine no1 i r hik ?_
  rw [<- List.getElem?_take_of_lt hik,List.getElem?_eq_getElem hi,e]
 have split:ps.find? (fun r=>has3 r q)=(ps.drop k).find? (fun r=>has3 r q):=by
  conv=>lhs; rw [<- List.take_append_drop k ps]
  rw [List.find?_append]
  have:(ps.take k).find? (fun r=>has3 r q)=none:=List.find?_eq_none.mpr fun r hr=>by rw [take r hr]; simp
  rw [this]; rfl
 rw [split]
 by_cases hk:k < ps.length
 · rw [List.drop_eq_getElem_cons hk, List.getElem?_eq_getElem hk]
   by_cases hh:has3 ps[k] q=true
   · rw [List.find?_cons_of_pos (p := fun r => has3 r q) hh]
     have:=((jH ps[k] q).mp hh).1
     cases ha:ps[k].1 with
     | none=>simp [ha]
     | some a=>have:=this a ha; simp [ha,this]
   · rw [List.find?_cons_of_neg (p := fun r => has3 r q) hh]
     have rest:(ps.drop (k+1)).find? (fun r=>has3 r q)=none:=by
      refine List.find?_eq_none.mpr fun r hr=>?_
      obtain ⟨i,hi,e⟩:=List.getElem_of_mem hr
      rw [List.length_drop] at hi
      have e':ps[k+1+i]'(by omega)=r:=by rw [<- e,List.getElem_drop]
      obtain ⟨x,y,g1,g2,g3⟩:=List.pairwise_iff_getElem.mp o.pw k (k+1+i) hk (by omega) (by omega)
      rw [e'] at g2
      have hxq:=h2 ps[k] x (List.getElem?_eq_getElem hk) g1
      intro z
      have:=((jH r q).mp z).1 y g2
      omega
     rw [rest]
     cases ha:ps[k].1 with
     | none =>
       exfalso
       refine hh ((jH _ q).mpr ⟨(fun a e=>by rw [ha] at e; cases e),(fun b e=>h2 ps[k] b (List.getElem?_eq_getElem hk) e)⟩)
     | some a =>
       have : ¬ a<=q:=fun z=>hh ((jH _ q).mpr ⟨(fun a' e=>by rw [ha] at e; cases e; exact z),(fun b e=>h2 ps[k] b (List.getElem?_eq_getElem hk) e)⟩)
       simp [ha,this]
 · rw [List.drop_of_length_le (by omega), List.getElem?_eq_none (by omega)]
   rfl
theorem flats_oi (l:List (Option Int)):flats (l.map oi)=true:=by
 induction l with
 | nil=>simp
 | cons a l ih=>simp [ih]
end FL
namespace FL
open PySem PySem.Spec PyProof.Rows L2
open Builtin.Int (intBits)
theorem insU_len (k:Int):∀ l:List Int,(insU k l).length<=l.length+1
 | []=>by simp [insU]
 | a :: l => by
   have:=insU_len k l
   unfold insU
   split
   · simp
   · split
     · simp
     · simp only [List.length_cons]; omega
theorem srtU_len:∀ ns:List Int,(srtU ns).length<=ns.length
 | []=>by simp [srtU]
 | k :: ns => by
   have h1:=insU_len k (srtU ns)
   have h2:=srtU_len ns
   show (insU k (srtU ns)).length<=_
   simp only [List.length_cons]
   omega
end FL
namespace FL
open PySem PyProof.Rows L2
open Builtin.Int (intBits)
abbrev Rl:=Int×Int×Int×Int×Int
def R5 (a b s t v:Int):D:=.tup [.int a,.int b,.int s,.int t,.int v]
def rlD (r:Rl):D:=R5 r.1 r.2.1 r.2.2.1 r.2.2.2.1 r.2.2.2.2
def isR (a b s t:Int):Bool:=decide (a < b) && (decide (1<=t) && (decide (t<=100) && (if t=1 then decide (s=0) else decide (b - a < s))))
def okL (r:Rl):Bool:=isR r.1 r.2.1 r.2.2.1 r.2.2.2.1
theorem ix5_3 (x y z w u:D):ixD (.tup [x,y,z,w,u]) (.int 3)=some w:=by rw [wY _ (by decide) (by simp)]; rfl
theorem ix5_4 (x y z w u:D):ixD (.tup [x,y,z,w,u]) (.int 4)=some u:=by rw [wY _ (by decide) (by simp)]; rfl
theorem rl0 (r:Rl):ixD (rlD r) (.int 0)=some (.int r.1):=by unfold rlD R5; simp
theorem rl1 (r:Rl):ixD (rlD r) (.int 1)=some (.int r.2.1):=by unfold rlD R5; simp
theorem rl2 (r:Rl):ixD (rlD r) (.int 2)=some (.int r.2.2.1):=by unfold rlD R5; simp
theorem rl3 (r:Rl):ixD (rlD r) (.int 3)=some (.int r.2.2.2.1):=by unfold rlD R5; exact ix5_3 _ _ _ _ _
theorem rl4 (r:Rl):ixD (rlD r) (.int 4)=some (.int r.2.2.2.2):=by unfold rlD R5; exact ix5_4 _ _ _ _ _
theorem xP (n:Nat) (l:List Rl):shals (n+2) (l.map rlD)=true:=xL fun d hd=>by obtain ⟨r,_,rfl⟩:=List.mem_map.mp hd; simp [rlD,R5]
theorem kE:∀ a:List Rl,eqvs (a.map rlD) (a.map rlD)=true
 | []=>by simp
 | a::r=>by simp [kE r]; simp [rlD,R5]
theorem eqD_rl (a:List Rl):eqD (.lst (a.map rlD)) (.lst (a.map rlD))=some (.bl true):=by rw [vB (by simpa using xP 38 a) (by simpa using xP 38 a),wI,kE]
theorem neD_rl (a:List Rl):neD (.lst (a.map rlD)) (.lst (a.map rlD))=some (.bl false):=by rw [kC (by simpa using xP 38 a) (by simpa using xP 38 a),wI,kE]; rfl
theorem neD_rl_nil (a:List Rl):neD (.lst (a.map rlD)) (.lst [])=some (.bl (!a.isEmpty)):=by
 rw [neD_nil (by simpa using xP 38 a)]
 cases a <;> simp
theorem is_rule_eq (a b s t v:Int):GP.is_rule.f [R5 a b s t v]=some (.val (.bl (isR a b s t))):=by
 unfold GP.is_rule.f runG GP.is_rule.g isR R5
 by_cases h1:a < b
 · have e1 : ¬ b - a < 1 := by omega
   by_cases h2:1<=t
   · have e2 : ¬ t < 1 := by omega
     by_cases h3:t<=100
     · have e3 : ¬ 100 < t := by omega
       by_cases h4:t=1
       · subst h4; simp [args,ix5_3,e1,h1]
       · simp [args,ix5_3,e1,h1,h2,e2,h3,e3,h4]
     · have e3 : 100 < t := by omega
       simp [args,ix5_3,e1,h1,h2,e2,h3,e3]
   · have e2 : t < 1 := by omega
     simp [args,ix5_3,e1,h1,h2,e2]
 · have e1 : b - a < 1 := by omega
   simp [args,ix5_3,e1,h1]
theorem okL_rule (r:Rl):GP.is_rule.f [rlD r]=some (.val (.bl (okL r))):=is_rule_eq _ _ _ _ _
theorem yE {r:Rl} (h:okL r=true):1<=r.2.2.2.1/\r.2.2.2.1<=100/\r.1 < r.2.1/\(r.2.2.2.1=1->r.2.2.1=0)/\(r.2.2.2.1≠1->r.2.1 - r.1 < r.2.2.1):=by
 unfold okL isR at h
 simp only [Bool.and_eq_true,decide_eq_true_eq] at h
 obtain ⟨h1,h2,h3,h4⟩:=h
 refine ⟨h2,h3,h1,fun z=>?_,fun z=>?_⟩
 · rw [if_pos z] at h4; simpa using h4
 · rw [if_neg z] at h4; simpa using h4
def strP (a b s:Int) (n:Nat):List Spn:=(List.range n).map fun (k:Nat)=>(some (a+(k:Int) * s),some (b+(k:Int) * s))
def strQ (r:Rl):List Spn:=strP r.1 r.2.1 r.2.2.1 r.2.2.2.1.toNat
theorem str_eq {r:Rl} (h:okL r=true):GP.stretches.f [rlD r]=some (.fresh ((strQ r).map spD)):=by
 have pr:=okL_rule r
 rw [h] at pr
 obtain ⟨t1,t2,_⟩:=yE h
 have ok:okR r.2.2.2.1:=wR (by omega) (by omega)
 have i0:=rl0 r
 have i1:=rl1 r
 have i2:=rl2 r
 have i3:=rl3 r
 have fl:=flats_spn (strQ r)
 unfold GP.stretches.f
 refine jZ ?_
 unfold GP.stretches.g
 unfold strQ at fl ⊢
 obtain ⟨a,b,s,t,v⟩:=r
 simp only at *
 generalize rlD (a,b,s,t,v)=R at *
 rw [qT (ds':=[.v R,.no]) (by simp [args,pr])]
 rw [qT (ds':=[.v R,.v (.int s)]) (by simp [i2])]
 have cp:(compG (rng1 (zJ ixD (zI 0) (zE (.int 3)))) [none,some 0,some 1] (zO 0) (fun _=>some true) (mkT (qH (zG (zJ xD (zJ ixD (zI 1) (zE (.int 0))) (zJ yV (zI 0) (zI 2))) (zG (zJ xD (zJ ixD (zI 1) (zE (.int 1))) (zJ yV (zI 0) (zI 2))) zZ))))) [.v R,.v (.int s)]=some ((strP a b s t.toNat).map spD):=by
  refine jT (items:=rangeD 0 t.toNat) (by simp [i3,ok]) (by simp [rangeD]; omega) ?_
  have e:rangeD 0 t.toNat=(List.range t.toNat).map (fun (k:Nat)=>D.int (k:Int)):=by simp [rangeD]
  rw [e,jK (fun (k:Nat)=>D.int (k:Int)) (fun (k:Nat)=>spD (some (a+(k:Int) * s),some (b+(k:Int) * s))),strP,List.map_map]
  · rfl
  · intro k hk
    have hk':k < t.toNat:=List.mem_range.mp hk
    have ml:yV (.int (k:Int)) (.int s)=some (.int ((k:Int) * s)):=kA (.of_left (wL (Nat.lt_of_lt_of_le (show (k:Int).natAbs < 128 by omega) (by decide))))
    exact ⟨_,rfl,by simp [qZ,i0,i1,ml,spD]⟩
 simp only [vZ,cp,Option.bind_some]
 simp [fl]
def rowsR (r:Rl):List Rv:=(strQ r).map fun s=>(s,some r.2.2.2.2)
def rowsL (rs:List Rl):List Rv:=rs.flatMap rowsR
theorem yK {r:Rl} (h:okL r=true):(rowsR r).length<=100/\((rowsR r).length:Int)=r.2.2.2.1:=by
 obtain ⟨t1,t2,_⟩:=yE h
 have e:(rowsR r).length=r.2.2.2.1.toNat:=by simp [rowsR,strQ,strP]
 rw [e]
 omega
theorem rowsR_ok {r:Rl} (h:okL r=true):∀ q∈rowsR r,okS q.1:=by
 intro q hq
 obtain ⟨s,hs,rfl⟩:=List.mem_map.mp hq
 obtain ⟨k,_,rfl⟩:=List.mem_map.mp hs
 intro a b e1 e2
 cases e1
 cases e2
 have:=(yE h).2.2.1
 omega
theorem rule_rows_eq {r:Rl} (h:okL r=true):GP.rule_rows.f [rlD r]=some (.fresh ((rowsR r).map rvD)):=by
 have se:=str_eq h
 have i4:=rl4 r
 have fl:=flats_rv (rowsR r)
 have hl:=(yK h).1
 have hl':(strQ r).length<=100:=by simpa [rowsR] using hl
 refine jZ ?_
 unfold GP.rule_rows.g
 have ar:args 1 [rlD r]=[.v (rlD r)]:=by simp [args]
 rw [ar]
 have cp:compG (viaA (jG 1 GP.stretches.f (zG (zI 0) zZ)) asLT) [none,some 0] (zO 0) (fun _=>some true) (mkT (qH (zG (jN 0) (zG (zJ ixD (zI 1) (zE (.int 4))) zZ)))) [.v (rlD r)]=some ((rowsR r).map rvD):=by
  refine jT (items:=(strQ r).map spD) (by simp [se]) (by simp; omega) ?_
  rw [jK spD (fun s=>rvD (s,some r.2.2.2.2)) (strQ r),rowsR,List.map_map]
  · rfl
  · intro s _
    exact ⟨_,rfl,by simp [qZ,i4,rvD]⟩
 simp only [vZ,cp,Option.bind_some]
 simp [fl]
theorem laid_turn (R:Sl) (acc:List Rv) {r:Rl} (h:okL r=true) (hz:acc.length+100 < 16777216):GP.laid.b1 [R,.own (acc.map rvD),.v (rlD r)]=some (.nx [R,.own ((acc++rowsR r).map rvD),.v (rlD r)]):=by
 have e:=rule_rows_eq h
 have hl:=(yK h).1
 have hz':acc.length+(rowsR r).length<=16777216:=by omega
 unfold GP.laid.b1
 generalize rlD r=Q at *
 simp [e,hz']
theorem wT (R:Sl):∀ (rs:List Rl) (acc:List Rv) (x:Sl),(∀ r∈rs,okL r=true)->acc.length+100 * rs.length < 16777216->∃ x',jC (zO 2) GP.laid.b1 (rs.map rlD) [R,.own (acc.map rvD),x]=some (.nx [R,.own ((acc++rowsL rs).map rvD),x'])
 | [],acc,x,_,_=>⟨x,by simp [jC,rowsL]⟩
 | r :: rs, acc, x, h, hz => by
   simp only [List.length_cons] at hz
   have t1:=laid_turn R acc (h r (.head _)) (by omega)
   have hl:=(yK (h r (.head _))).1
   obtain ⟨x',e⟩:=wT R rs (acc++rowsR r) (.v (rlD r)) (fun q hq=>h q (.tail _ hq)) (by simp only [List.length_append]; omega)
   refine ⟨x',?_⟩
   simp only [List.map_cons,jC,zO,Option.bind_some,List.set_cons_succ,List.set_cons_zero,t1]
   rw [e]
   simp [rowsL,List.append_assoc]
theorem xN {rs:List Rl} (h:∀ r∈rs,okL r=true):∀ q∈rowsL rs,okS q.1:=by
 intro q hq
 obtain ⟨r,hr,hq⟩:=List.mem_flatMap.mp hq
 exact rowsR_ok (h r hr) q hq
theorem rowsL_len:∀ {rs:List Rl},(∀ r∈rs,okL r=true)->((rowsL rs).length:Int)=(rs.map (·.2.2.2.1)).sum
 | [],_=>by simp [rowsL]
 | r :: rs, h => by
   have h1:=(yK (h r (.head _))).2
   have h2:=rowsL_len (rs:=rs) fun q hq=>h q (.tail _ hq)
   have e:rowsL (r::rs)=rowsR r++rowsL rs:=by simp [rowsL]
   rw [e,List.length_append,List.map_cons,List.sum_cons,<- h1,<- h2]
   omega
theorem laid_rows_eq {rows:List Rv} (hs:∀ r∈rows,okS r.1) (hl:rows.length<=300):GP.laid_rows.f [.lst (rows.map rvD)]=some (.fresh ((formedF rows).map rwD)):=by
 obtain ⟨e,_,_⟩:=xQ rows hs (by omega)
 have fl:=xE (formedF rows)
 have hn : ¬ (300:Int) < ((rows.map rvD).length:Int):=by simp; omega
 refine jZ ?_
 unfold GP.laid_rows.g
 generalize (formedF rows).map rwD=F at *
 generalize rows.map rvD=Q at *
 simp [args,e,fl,hn]
theorem laid_eq {rs:List Rl} (h:∀ r∈rs,okL r=true) (hz:rs.length<=10000) (hl:(rowsL rs).length<=300):GP.laid.f [.lst (rs.map rlD)]=some (.fresh ((formedF (rowsL rs)).map rwD)):=by
 obtain ⟨x',e⟩:=wT (.v (.lst (rs.map rlD))) rs [] .no h (by simp; omega)
 have er:=laid_rows_eq (xN h) hl
 have fl:=xE (formedF (rowsL rs))
 simp only [List.nil_append,List.map_nil] at e
 refine jZ ?_
 unfold GP.laid.g
 generalize (formedF (rowsL rs)).map rwD=F at *
 generalize (rowsL rs).map rvD=Q at *
 generalize rs.map rlD=P at *
 rw [qT (ds':=[.v (.lst P),.own [],.no]) (by simp [args]),qT (ds':=[.v (.lst P),.own Q,x']) (by rw [xA]; simpa using e)]
 simp [er,fl]
def hasR (r:Rl) (p:Int):Bool:=if 1 < r.2.2.2.1 then decide (0<=(p - r.1) / r.2.2.1) && decide ((p - r.1) / r.2.2.1 < r.2.2.2.1) && decide ((p - r.1) % r.2.2.1 < r.2.1 - r.1) else decide (r.1<=p) && decide (p < r.2.1)
theorem hasR_iff {r:Rl} (h:okL r=true) (p:Int):(rowsR r).any (fun q=>hasS q.1 p)=hasR r p:=by
 obtain ⟨t1,t2,t3,t4,t5⟩:=yE h
 obtain ⟨a,b,s,t,v⟩:=r
 simp only at t1 t2 t3 t4 t5
 have key:(rowsR (a,b,s,t,v)).any (fun q=>hasS q.1 p)=true↔∃ k:Nat,k < t.toNat/\a+(k:Int) * s<=p/\p < b+(k:Int) * s:=by
  rw [List.any_eq_true]
  constructor
  · rintro ⟨q, hq, hh⟩
    obtain ⟨u,hu,rfl⟩:=List.mem_map.mp hq
    obtain ⟨k,hk,rfl⟩:=List.mem_map.mp hu
    have:=(jU _ _).mp hh
    exact ⟨k,List.mem_range.mp hk,this.1 _ rfl,this.2 _ rfl⟩
  · rintro ⟨k, hk, h1, h2⟩
    refine ⟨((some (a+(k:Int) * s),some (b+(k:Int) * s)),some v),List.mem_map.mpr ⟨_,List.mem_map.mpr ⟨k,List.mem_range.mpr hk,rfl⟩,rfl⟩,(jU _ _).mpr ⟨fun x e=>?_,fun x e=>?_⟩⟩
    · cases e; exact h1
    · cases e; exact h2
 rw [Bool.eq_iff_iff,key]
 unfold hasR
 simp only
 by_cases ht:1 < t
 · have hs := t5 (by omega)
   have sp:0 < s:=by omega
   rw [if_pos ht]
   simp only [Bool.and_eq_true,decide_eq_true_eq]
   constructor
   · rintro ⟨k, hk, h1, h2⟩
     have e:(p - a) / s=(k:Int)/\(p - a) % s=p - a - (k:Int) * s:=by
      rw [Int.ediv_emod_unique sp]
      refine ⟨?_,by omega,by omega⟩
      rw [Int.mul_comm s]
      omega
     rw [e.1,e.2]
     omega
   · rintro ⟨⟨h1, h2⟩, h3⟩
     have e:=Int.emod_add_mul_ediv (p - a) s
     have m0:=Int.emod_nonneg (p - a) (show s≠0 by omega)
     refine ⟨((p - a) / s).toNat,by omega,?_,?_⟩
     · have : (((p - a) / s).toNat : Int) = (p - a) / s := by omega
       rw [this,Int.mul_comm]
       omega
     · have : (((p - a) / s).toNat : Int) = (p - a) / s := by omega
       rw [this,Int.mul_comm]
       omega
 · have e1 : t = 1 := by omega
   subst e1
   have hs:=t4 rfl
   subst hs
   rw [if_neg ht]
   simp only [Bool.and_eq_true,decide_eq_true_eq]
   constructor
   · rintro ⟨k, hk, h1, h2⟩
     simp at h1 h2
     exact ⟨h1,h2⟩
   · rintro ⟨h1, h2⟩
     exact ⟨0,by decide,by simpa using h1,by simpa using h2⟩
def lastR (rs:List Rl) (p:Int):Option Int:=(rs.reverse.find? (fun r=>hasR r p)).map (·.2.2.2.2)
theorem find_same (v:Option Int) (p:Int):∀ l:List Rv,(∀ q∈l,q.2=v)->(match l.find? (fun r=>hasS r.1 p) with | some r=>some r.2 | none=>none)=if l.any (fun q=>hasS q.1 p)=true then some v else none
 | [],_=>by simp
 | q :: l, h => by
   have ih:=find_same v p l fun x hx=>h x (.tail _ hx)
   cases e:hasS q.1 p with
   | true=>simp [e,h q (.head _)]
   | false =>
     rw [List.find?_cons_of_neg (p:=fun r:Rv=>hasS r.1 p) (by simp [e]),ih,List.any_cons,e,Bool.false_or]
theorem due_last (p:Int):∀ rs:List Rl,(∀ r∈rs,okL r=true)->dueF (rowsL rs.reverse) p=(rs.find? (fun r=>hasR r p)).map (·.2.2.2.2)
 | [],_=>by simp [rowsL,dueF]
 | r :: rs, h => by
   have ih:=due_last p rs fun q hq=>h q (.tail _ hq)
   have hr:=hasR_iff (h r (.head _)) p
   have e:rowsL (r::rs).reverse=rowsL rs.reverse++rowsR r:=by simp [rowsL]
   have fs:=find_same (some r.2.2.2.2) p (rowsR r).reverse (by
    intro q hq
    obtain ⟨s,_,rfl⟩:=List.mem_map.mp (List.mem_reverse.mp hq)
    rfl)
   rw [List.any_reverse,hr] at fs
   unfold dueF at ih ⊢
   rw [e,List.reverse_append,List.find?_append]
   cases hh:hasR r p with
   | true =>
     rw [hh] at fs
     cases hf:(rowsR r).reverse.find? (fun r=>hasS r.1 p) with
     | none=>rw [hf] at fs; simp at fs
     | some q =>
       rw [hf] at fs
       simp only [if_true] at fs
       have fs:=Option.some.inj fs
       simp [hh,fs]
   | false =>
     rw [hh] at fs
     cases hf:(rowsR r).reverse.find? (fun r=>hasS r.1 p) with
     | some q=>rw [hf] at fs; simp at fs
     | none =>
       simp only [Option.none_or,List.find?_cons,hh]
       exact ih
theorem laid_val {rs:List Rl} (h:∀ r∈rs,okL r=true) (hl:(rowsL rs).length<=1000) (p:Int):valL (formedF (rowsL rs)) p=lastR rs p:=by
 obtain ⟨_,m,_⟩:=xQ (rowsL rs) (xN h) hl
 have e:dueF (rowsL rs) p=lastR rs p:=by
  have:=due_last p rs.reverse fun r hr=>h r (List.mem_reverse.mp hr)
  rw [List.reverse_reverse] at this
  exact this
 apply Option.ext
 intro v
 rw [wJ m.ord,formed_tel _ (xN h),e]
theorem fin_rows:∀ rows:List Rv,(∀ q∈rows,∃ a b,q.1=(some a,some b))->∃ N:Int,∀ q∈rows,∀ p,hasS q.1 p=true->-N < p/\p < N
 | [],_=>⟨0,fun _ h=>nomatch h⟩
 | q :: rows, h => by
   obtain ⟨N,hN⟩:=fin_rows rows fun x hx=>h x (.tail _ hx)
   obtain ⟨a,b,e⟩:=h q (.head _)
   refine ⟨(N.natAbs+a.natAbs+b.natAbs+1:Nat),fun x hx p hp=>?_⟩
   rcases List.mem_cons.mp hx with rfl | hx
   · have := (jU _ _).mp hp
     rw [e] at this
     have h1:=this.1 a rfl
     have h2:=this.2 b rfl
     omega
   · have := hN x hx p hp
     omega
theorem formed_fin {rows:List Rv} (hs:∀ r∈rows,okS r.1) (hl:rows.length<=1000) (h:∀ q∈rows,∃ a b,q.1=(some a,some b)):∀ r∈formedF rows,∃ a b v,r=(some a,some b,some v):=by
 obtain ⟨_,m,_⟩:=xQ rows hs hl
 obtain ⟨N,hN⟩:=fin_rows rows h
 have bnd:∀ r∈formedF rows,∀ p,has3 r p=true->-N < p/\p < N:=by
  intro r hr p hp
  cases hv:r.2.2 with
  | none=>exact (m.val r hr hv).elim
  | some v =>
    have t:Tel (formedF rows) p v:=⟨r,hr,hp,hv⟩
    rw [formed_tel rows hs] at t
    unfold dueF at t
    cases hf:rows.reverse.find? (fun r=>hasS r.1 p) with
    | none=>rw [hf] at t; cases t
    | some q=>exact hN q (List.mem_reverse.mp (List.mem_of_find?_eq_some hf)) p (by simpa using List.find?_some hf)
 intro r hr
 have ok:=m.ord.ok r hr
 obtain ⟨lo,bh,w⟩:=r
 cases w with
 | none=>exact (m.val _ hr rfl).elim
 | some v =>
   have bb:=bnd _ hr
   cases lo with
   | none =>
     exfalso
     cases bh with
     | none=>have:=bb (-(N.natAbs:Int)) ((jH _ _).mpr ⟨(fun a e=>nomatch e),(fun b e=>nomatch e)⟩); omega
     | some b =>
       have:=bb (-((N.natAbs+b.natAbs+1:Nat):Int)) ((jH _ _).mpr ⟨(fun a e=>nomatch e),(fun b' e=>by cases e; omega)⟩)
       omega
   | some a =>
     cases bh with
     | none =>
       exfalso
       have:=bb ((N.natAbs+a.natAbs+1:Nat):Int) ((jH _ _).mpr ⟨(fun a' e=>by cases e; omega),(fun b e=>nomatch e)⟩)
       omega
     | some b=>exact ⟨a,b,v,rfl⟩
theorem rowsL_fin (rs:List Rl):∀ q∈rowsL rs,∃ a b,q.1=(some a,some b):=by
 intro q hq
 obtain ⟨r,_,hq⟩:=List.mem_flatMap.mp hq
 obtain ⟨s,hs,rfl⟩:=List.mem_map.mp hq
 obtain ⟨k,_,rfl⟩:=List.mem_map.mp hs
 exact ⟨_,_,rfl⟩
end FL
section
open PySem PyProof.Rows L2 FL
noncomputable def K72.X_stretches_9.x:List Sl->Bool:=(ifX (notT (testT (jG 1 GP.is_rule.f (zG (zI 0) zZ)))) alwaysX neverX)
noncomputable def K72.X_stretches_9.f:List D->Bool:=runX K72.X_stretches_9.x 2
noncomputable def K72.X_laid_rows_10.x:List Sl->Bool:=(ifX (zT (zJ gtD (callB lenD (zG (zI 0) zZ)) (zE (.int 300)))) alwaysX neverX)
noncomputable def K72.X_laid_rows_10.f:List D->Bool:=runX K72.X_laid_rows_10.x 1
noncomputable def K72.X_rule_rows_9.x:List Sl->Bool:=(callX 1 K72.X_stretches_9.f (zG (zI 0) zZ))
noncomputable def K72.X_rule_rows_9.f:List D->Bool:=runX K72.X_rule_rows_9.x 1
noncomputable def K72.X_laid_9.x:List Sl->Bool:=(seqX (setOG 1 (qH zZ))
 (forX (viaA (jN 0) asLT) (zO 2) GP.laid.b1 (extX 1 (callX 1 K72.X_rule_rows_9.f (zG (zI 2) zZ)))))
noncomputable def K72.X_laid_9.f:List D->Bool:=runX K72.X_laid_9.x 3
noncomputable def K72.X_laid_10.x:List Sl->Bool:=(seqX (setOG 1 (qH zZ))
 (seqX (forG (viaA (jN 0) asLT) (zO 2) GP.laid.b1)
 (callX 1 K72.X_laid_rows_10.f (zG (zI 1) zZ))))
noncomputable def K72.X_laid_10.f:List D->Bool:=runX K72.X_laid_10.x 3
noncomputable def K72.L_rule.g:FS:=(qO (yO 3 (zJ yU (zJ xD (zJ xD (zJ yV (zI 0) (zE (.int 48271))) (zJ yV (zJ yV (zI 1) (zI 1)) (zE (.int 69621)))) (zE (.int 7919))) (zE (.int 2147483647))))
 (qO (yO 3 (zJ yU (zJ yV (zI 3) (zI 3)) (zE (.int 2147483563))))
 (qO (yO 4 (zJ yU (zJ xD (zJ xD (zJ yV (zI 0) (zE (.int 39373))) (zJ yV (zJ yV (zI 1) (zI 1)) (zE (.int 16807)))) (zE (.int 611953))) (zE (.int 2147483629))))
 (qO (yO 4 (zJ yU (zJ yV (zI 4) (zI 3)) (zE (.int 2147483549))))
 (qO (yO 5 (zJ subD (zJ yU (zJ yL (zI 3) (zE (.int 4))) (zE (.int 61))) (zE (.int 30))))
 (qO (ifG (andT (zT (zJ eqD (zJ yU (zI 3) (zE (.int 4))) (zE (.int 0)))) (zT (zJ neD (zI 2) (mkL (qH zZ))))) (yO 5 (zJ subD (zJ xD (zJ ixD (zI 2) (zJ yU (zJ yL (zI 3) (zE (.int 4))) (callB lenD (zG (zI 2) zZ)))) (zJ yU (zJ yL (zI 3) (zE (.int 1000003))) (zE (.int 3)))) (zE (.int 1)))) jB)
 (qO (ifG (zT (zJ eqD (zJ yU (zI 3) (zE (.int 4))) (zE (.int 1)))) (yO 5 (zJ subD (zJ yU (zI 0) (zJ xD (zJ yV (zE (.int 2)) (zJ powD (zE (.int 10)) (zE (.int 60)))) (zE (.int 1)))) (zJ powD (zE (.int 10)) (zE (.int 60))))) jB)
 (qO (yO 6 (zJ xD (zE (.int 1)) (zJ ixD (mkL (qH (zG (zJ yU (zJ yL (zI 4) (zE (.int 5))) (zE (.int 4))) (zG (zJ yU (zJ yV (zI 0) (zE (.int 69621))) (zJ powD (zE (.int 10)) (zE (.int 40)))) zZ)))) (zJ yL (zJ yU (zI 4) (zE (.int 5))) (zE (.int 4))))))
 (qO (yO 7 (zJ xD (zJ xD (zI 6) (zE (.int 1))) (zJ ixD (mkL (qH (zG (zJ yU (zJ yL (zI 4) (zE (.int 20))) (zE (.int 9))) (zG (zJ yU (zJ yV (zI 0) (zE (.int 16807))) (zJ powD (zE (.int 10)) (zE (.int 40)))) zZ)))) (zJ yL (zJ yU (zJ yL (zI 4) (zE (.int 180))) (zE (.int 5))) (zE (.int 4))))))
 (qO (yO 8 (zJ xD (zE (.int 1)) (zJ yU (zJ yL (zI 4) (zE (.int 900))) (zE (.int 5)))))
 (qO (ifG (zT (zJ eqD (zI 8) (zE (.int 1)))) (yO 7 (zE (.int 0))) jB)
 (qO (yO 9 (zJ yU (zJ yL (zI 4) (zE (.int 4500))) (zE (.int 4))))
 (qO (ifG (zT (zJ eqD (zI 9) (zE (.int 3)))) (yO 9 (zJ subD (zJ yU (zI 0) (zJ xD (zJ yV (zE (.int 2)) (zJ powD (zE (.int 10)) (zE (.int 60)))) (zE (.int 1)))) (zJ powD (zE (.int 10)) (zE (.int 60))))) jB)
 (retG (mkT (qH (zG (jN 5) (zG (zJ xD (zI 5) (zI 6)) (zG (jN 7) (zG (jN 8) (zG (jN 9) zZ)))))))))))))))))))))
noncomputable def K72.L_rule.f:List D->Option Ret:=runG K72.L_rule.g 10
noncomputable def K72.L_ends.b1:FS:=(qO (appG 1 (zJ xD (zJ ixD (zI 0) (zE (.int 0))) (zJ yV (zI 2) (zJ ixD (zI 0) (zE (.int 2))))))
 (appG 1 (zJ xD (zJ ixD (zI 0) (zE (.int 1))) (zJ yV (zI 2) (zJ ixD (zI 0) (zE (.int 2)))))))
noncomputable def K72.L_ends.g:FS:=(qO (setOG 1 (qH zZ))
 (qO (forG (rng1 (zJ ixD (zI 0) (zE (.int 3)))) (zO 2) K72.L_ends.b1)
 (retXG 1)))
noncomputable def K72.L_ends.f:List D->Option Ret:=runG K72.L_ends.g 3
noncomputable def K72.L_great.g:FS:=(qO (yO 1 (zJ yU (zJ yL (zI 0) (zE (.int 3))) (zJ powD (zE (.int 10)) (zE (.int 50)))))
 (qO (setOG 2 (qH (zG (mkT (qH (zG (jN 1) (zG (zJ xD (zI 1) (zE (.int 2))) (zG (zE (.int 5)) (zG (zE (.int 100)) (zG (zJ yU (zI 0) (zE (.int 7))) zZ))))))) (zG (mkT (qH (zG (jN 1) (zG (zJ xD (zI 1) (zE (.int 2))) (zG (zE (.int 5)) (zG (zE (.int 100)) (zG (zE (.int 9)) zZ))))))) (zG (mkT (qH (zG (jN 1) (zG (zJ xD (zI 1) (zE (.int 2))) (zG (zE (.int 5)) (zG (zE (.int 100)) (zG (zJ yU (zJ yL (zI 0) (zE (.int 7))) (zE (.int 5))) zZ))))))) zZ)))))
 (qO (ifG (zT (zJ eqD (zJ yU (zI 0) (zE (.int 3))) (zE (.int 1)))) (retOG (catA (zI 2) (mkL (qH (zG (mkT (qH (zG (zJ xD (zI 1) (zE (.int 1))) (zG (zJ xD (zI 1) (zE (.int 7))) (zG (zE (.int 0)) (zG (zE (.int 1)) (zG (zE (.int 8)) zZ))))))) zZ))))) jB)
 (qO (ifG (zT (zJ eqD (zJ yU (zI 0) (zE (.int 3))) (zE (.int 2)))) (retOG (catA (mkL (qH (zG (mkT (qH (zG (zJ xD (zI 1) (zE (.int 1))) (zG (zJ xD (zI 1) (zE (.int 7))) (zG (zE (.int 0)) (zG (zE (.int 1)) (zG (zE (.int 8)) zZ))))))) zZ))) (zI 2))) jB)
 (retXG 2)))))
noncomputable def K72.L_great.f:List D->Option Ret:=runG K72.L_great.g 3
noncomputable def K72.L_is_map.b1:FS:=(qO (ifG (orT (notT (testT (isiG "tuple" (zJ ixD (zI 0) (zI 1))))) (orT (zT (zJ neD (callB lenD (zG (zJ ixD (zI 0) (zI 1)) zZ)) (zE (.int 3)))) (notT (testT (callB allD (zG (mkL (compG (viaA (zJ ixD (zI 0) (zI 1)) asLT) [none] (zO 0) (fun _=>some true) (jG 1 GL.whole.f (zG (zI 0) zZ)))) zZ)))))) (retG (zE (.bl false))) jB)
 (qO (asgG (tupG 3 (qA (zO 2) (qA (zO 3) (qA (zO 4) tgNil)))) (zJ ixD (zI 0) (zI 1)))
 (qO (yO 5 (zJ ixD (zI 0) (callB mxD (zG (zJ subD (zI 1) (zE (.int 1))) (zG (zE (.int 0)) zZ)))))
 (ifG (orT (zT (zJ geD (zI 2) (zI 3))) (andT (zT (zJ gtD (zI 1) (zE (.int 0)))) (orT (zT (zJ gtD (zJ ixD (zI 5) (zE (.int 1))) (zI 2))) (zT (zJ eqD (sltW (zI 5) (soP (zE (.int 1))) noP) (mkT (qH (zG (jN 2) (zG (jN 4) zZ))))))))) (retG (zE (.bl false))) jB))))
noncomputable def K72.L_is_map.g:FS:=(qO (ifG (notT (testT (isiG "list" (zI 0)))) (retG (zE (.bl false))) jB)
 (qO (forG (rng1 (callB lenD (zG (zI 0) zZ))) (zO 1) K72.L_is_map.b1)
 (retG (zE (.bl true)))))
noncomputable def K72.L_is_map.f:List D->Option Ret:=runG K72.L_is_map.g 6
noncomputable def K72.L_places.b1:FS:=(yO 2 (mkL (catA (zI 2) (jG 1 K72.L_ends.f (zG (zI 3) zZ)))))
noncomputable def K72.L_places.g:FS:=(qO (yO 2 (mkL (catA (mkL (compG (viaA (jN 1) asLT) [none] (zO 0) (fun _=>some true) (zJ ixD (zI 0) (zE (.int 0))))) (mkL (compG (viaA (jN 1) asLT) [none] (zO 0) (fun _=>some true) (zJ ixD (zI 0) (zE (.int 1))))))))
 (qO (forG (viaA (jN 0) asLT) (zO 3) K72.L_places.b1)
 (retOG (srtSA (mkL (catA (mkL (catA (mkL (qH (zG (zE (.int 0)) zZ))) (zI 2))) (mkL (compG (viaA (jN 2) asLT) [none] (zO 0) (fun _=>some true) (zJ subD (zI 0) (zE (.int 1)))))))))))
noncomputable def K72.L_places.f:List D->Option Ret:=runG K72.L_places.g 4
noncomputable def K72.L_values.b1:FS:=(yO 3 (zJ xD (zI 3) (zE (.int 1))))
noncomputable def K72.L_values.b2:FS:=(qO (whileN (andT (zT (zJ ltD (zI 3) (callB lenD (zG (zI 0) zZ)))) (zT (zJ leD (zJ ixD (zJ ixD (zI 0) (zI 3)) (zE (.int 1))) (zI 4)))) K72.L_values.b1 100000)
 (ifG (andT (zT (zJ ltD (zI 3) (callB lenD (zG (zI 0) zZ)))) (zT (zJ leD (zJ ixD (zJ ixD (zI 0) (zI 3)) (zE (.int 0))) (zI 4)))) (appG 2 (zJ ixD (zJ ixD (zI 0) (zI 3)) (zE (.int 2)))) (appG 2 (zE .non))))
noncomputable def K72.L_values.g:FS:=(qO (setOG 2 (qH zZ))
 (qO (yO 3 (zE (.int 0)))
 (qO (forG (viaA (jN 1) asLT) (zO 4) K72.L_values.b2)
 (retXG 2))))
noncomputable def K72.L_values.f:List D->Option Ret:=runG K72.L_values.g 5
noncomputable def K72.L_last.b1:FS:=(qO (yO 7 (zE (.int 0)))
 (qO (yO 8 (zJ subD (zI 1) (zI 2)))
 (qO (ifG (zT (zJ gtD (zI 5) (zE (.int 1)))) (asgG (tupG 2 (qA (zO 7) (qA (zO 8) tgNil))) (callB dvmD (zG (zJ subD (zI 1) (zI 2)) (zG (zI 4) zZ)))) jB)
 (ifG (andT (zT (chain leD ltD (zE (.int 0)) (zI 7) (zI 5))) (zT (chain leD ltD (zE (.int 0)) (zI 8) (zJ subD (zI 3) (zI 2))))) (retG (zI 6)) jB))))
noncomputable def K72.L_last.g:FS:=(qO (forG (revA (jN 0)) (tupG 5 (qA (zO 2) (qA (zO 3) (qA (zO 4) (qA (zO 5) (qA (zO 6) tgNil)))))) K72.L_last.b1)
 (retG (zE .non)))
noncomputable def K72.L_last.f:List D->Option Ret:=runG K72.L_last.g 9
noncomputable def K72.L_refused.g:FS:=(qO (tryG2 2 9 10 (dropG (jG 1 GP.laid.f (zG (zI 0) zZ))) (callX 1 K72.X_laid_9.f (zG (zI 0) zZ)) (callX 1 K72.X_laid_10.f (zG (zI 0) zZ))
 (qO (yO 3 (isxG 2 [(9,false),(10,false)]))
 (retG (andV (notV (jN 3)) (andV (isxG 2 [(9,true),(10,true)]) (zJ eqD (mkL (qH (zG (isxG 2 [(9,true),(10,false)]) (zG (isxG 2 [(9,false),(10,true)]) zZ)))) (zI 1)))))))
 (retG (zE (.bl false))))
noncomputable def K72.L_refused.f:List D->Option Ret:=runG K72.L_refused.g 4
noncomputable def K72.law.b1:FS:=(qO (yO 4 (jG 3 K72.L_rule.f (zG (zI 3) (zG (callB lenD (zG (zI 1) zZ)) (zG (zI 2) zZ)))))
 (ifG (fun ds=>(zT (zJ leD (zJ xD (callB sumD (zG (mkL (compG (viaA (jN 1) asLT) [none] (zO 0) (fun _=>some true) (zJ ixD (zI 0) (zE (.int 3))))) zZ)) (zJ ixD (zI 4) (zE (.int 3)))) (zE (.int 30)))) (relS 1 ds)) (qO (appG 1 (jN 4))
 (yO 2 (mkL (catA (zI 2) (jG 1 K72.L_ends.f (zG (zI 4) zZ)))))) jB))
noncomputable def K72.law.g:FS:=(qO (setOG 1 (qH zZ))
 (qO (yO 2 (mkL (qH zZ)))
 (qO (forG (viaA (mkL (sliA (zI 0) (soP (zE (.int 2))) noP)) asLT) (zO 3) K72.law.b1)
 (qO (yO 5 (jG 2 GL.cell_at.f (zG (zI 0) (zG (zE (.int 0)) zZ))))
 (qO (ifG (andT (zT (zJ eqD (zJ yU (zI 5) (zE (.int 6))) (zE (.int 1)))) (zT (zJ eqD (zJ yU (zJ yL (zI 5) (zE (.int 54))) (zE (.int 2))) (zE (.int 0))))) (setOG 1 (qH zZ)) jB)
 (qO (ifG (zT (zJ eqD (zJ yU (zI 5) (zE (.int 6))) (zE (.int 1)))) (setOG 1 (catA (zI 1) (jG 1 K72.L_great.f (zG (zJ yL (zI 5) (zE (.int 6))) zZ)))) jB)
 (qO (ifG (orT (zT (zJ eqD (zJ yU (zI 5) (zE (.int 6))) (zE (.int 2)))) (andT (zT (zJ eqD (zJ yU (zI 5) (zE (.int 6))) (zE (.int 1)))) (zT (zJ eqD (zJ yU (zJ yL (zI 5) (zE (.int 18))) (zE (.int 3))) (zE (.int 0)))))) (qO (yO 6 (zJ yU (jG 2 GL.cell_at.f (zG (zI 0) (zG (zE (.int 1)) zZ))) (zJ xD (callB lenD (zG (zI 1) zZ)) (zE (.int 1)))))
 (insG 1 (jN 6) (mkT (qH (zG (zE (.int 0)) (zG (zE (.int 1)) (zG (zE (.int 3)) (zG (zE (.int 0)) (zG (zE (.int 7)) zZ))))))))) jB)
 (qO (yO 7 (mkL (lisA (zI 1))))
 (qO (fun ds=>(ifG (zT (zJ neD (mkL (compG (viaA (jN 1) asLT) [none] (zO 0) (zT (zJ eqD (zJ ixD (zI 0) (zE (.int 3))) (zE (.int 0)))) (jN 0))) (mkL (qH zZ)))) (retG (andV (jG 2 K72.L_refused.f (zG (zI 7) (zG (mkL (qH (zG (zE (.bl true)) (zG (zE (.bl false)) zZ)))) zZ))) (zJ eqD (zI 7) (zI 1)))) jB) (relS 1 ds))
 (qO (fun ds=>(ifG (zT (zJ gtD (callB sumD (zG (mkL (compG (viaA (jN 1) asLT) [none] (zO 0) (fun _=>some true) (zJ ixD (zI 0) (zE (.int 3))))) zZ)) (zE (.int 300)))) (retG (andV (jG 2 K72.L_refused.f (zG (zI 7) (zG (mkL (qH (zG (zE (.bl false)) (zG (zE (.bl true)) zZ)))) zZ))) (zJ eqD (zI 7) (zI 1)))) jB) (relS 1 ds))
 (qO (yO 8 (jG 1 GP.laid.f (zG (zI 7) zZ)))
 (qO (ifG (orT (notT (testT (jG 1 K72.L_is_map.f (zG (zI 8) zZ)))) (zT (zJ neD (zI 7) (zI 1)))) (retG (zE (.bl false))) jB)
 (qO (yO 9 (jG 2 K72.L_places.f (zG (zI 1) (zG (zI 8) zZ))))
 (fun ds=>(retG (zJ eqD (jG 2 K72.L_values.f (zG (zI 8) (zG (zI 9) zZ))) (mkL (compG (viaA (jN 9) asLT) [none,some 1] (zO 0) (fun _=>some true) (jG 2 K72.L_last.f (zG (zI 1) (zG (zI 0) zZ))))))) (relS 1 ds)))))))))))))))
noncomputable def K72.law.f:List D->Option Ret:=runG K72.law.g 10
end
namespace K72
open PySem PyProof.Rows L2 FL
def top (i:Nat):Stmt:=PySem.Challenge.pw_spanmap_k72_laid.main.body.getD i (.Pass ⟨0,0,0,0⟩)
structure Glb (K:Frag) (mg:Str->Option Value):Prop where
 b_ValueError:mg "ValueError" = none
 b_all:mg "all" = none
 b_bool:mg "bool" = none
 b_divmod:mg "divmod" = none
 b_int:mg "int" = none
 b_isinstance:mg "isinstance" = none
 b_len:mg "len" = none
 b_list:mg "list" = none
 b_max:mg "max" = none
 b_min:mg "min" = none
 b_range:mg "range" = none
 b_reversed:mg "reversed" = none
 b_set:mg "set" = none
 b_sorted:mg "sorted" = none
 b_sum:mg "sum" = none
 b_tuple:mg "tuple" = none
 c_MOST_TIMES:∃ t,mg "MOST_TIMES" = some (.int 100 t)
 c_MOST_TOGETHER:∃ t,mg "MOST_TOGETHER" = some (.int 300 t)
 isx_TooMuch_9_10:∃ D,mg "TooMuch" = some (.ref D)/\IsxOk K (.ref D) [(9,false),(10,true)]
 isx_NoRule_9_10:∃ D,mg "NoRule" = some (.ref D)/\IsxOk K (.ref D) [(9,true),(10,false)]
 isxB_ValueError_9_10:IsxOk K (.type "ValueError") [(9,true),(10,true)]
 isxT_0:∃ D3 D1 D4 D8 D2 D7 D6 D12 D5 D11:Addr,mg "Clash" = some (.ref D3)/\mg "Empty" = some (.ref D1)/\mg "NoCount" = some (.ref D4)/\mg "NoDeed" = some (.ref D8)/\mg "NoEnd" = some (.ref D2)/\mg "NoMark" = some (.ref D7)/\mg "NoName" = some (.ref D6)/\mg "NoRow" = some (.ref D12)/\mg "NoShare" = some (.ref D5)/\mg "NoText" = some (.ref D11)/\IsxOkT K [.ref D3,.ref D1,.ref D4,.ref D8,.ref D2,.ref D7,.ref D6,.ref D12,.ref D5,.ref D11] [(9,false),(10,false)]
section
variable {P:Program} {w:World} {K:Frag} {mg:Str->Option Value} {base:Heap}
theorem sc_later_low:FnScope ["one","other"] ["one","other"] (zB (top 17)):=⟨rfl,rfl,rfl,by decide +kernel,rfl,by decide +kernel,by decide +kernel⟩
theorem body_later_low {f:Addr} (T:Glb K mg)  (cdv:Value) (A:Around) (outer:List Env) (s:Shared) (H:Hp) (E:XK) (hr:Room 0 (A.deeper (envOfC "later_low" (zB (top 17)) s.heap.objs.size f cdv))) :
  PSsv (cxOf CX0 P w K mg base ["one","other"] "later_low" (zB (top 17)) f cdv A outer s H E).nox (zL (top 17)) GP.later_low.g:=by
 have nd:(["one","other"]:List Str).Nodup:=sc_later_low.nd
 exact (zD (qL (pt_is (PVw.n (zA 0)) (PV.n jW)) (zH (qF (zA 1))) zP)
  (zD (qL (pt_is (PVw.n (zA 1)) (PV.n jW)) (zH (qF (zA 0))) zP)
  (zH (qF (PV.w (pv_max2 rfl T.b_max (qI (zA 0) (qI (zA 1) jA))))))))
theorem fok_later_low {f:Addr} {fd:FuncData} (Fn:Fun K "later_low" "later_low" (top 17) f fd) (T:Glb K mg)  : FnOk P w K mg base CX0 1 f fd ["one","other"] (spF K 2 GP.later_low.f) :=
 qY (k:=0) (F:=GP.later_low.f) (g:=GP.later_low.g) Fn sc_later_low (fun cdv A outer s H E hr=>body_later_low T  cdv A outer s H E hr) (fun ds r hl e=>zY e)
theorem sc_earlier_behind:FnScope ["one","other"] ["one","other"] (zB (top 18)):=⟨rfl,rfl,rfl,by decide +kernel,rfl,by decide +kernel,by decide +kernel⟩
theorem body_earlier_behind {f:Addr} (T:Glb K mg)  (cdv:Value) (A:Around) (outer:List Env) (s:Shared) (H:Hp) (E:XK) (hr:Room 0 (A.deeper (envOfC "earlier_behind" (zB (top 18)) s.heap.objs.size f cdv))) :
  PSsv (cxOf CX0 P w K mg base ["one","other"] "earlier_behind" (zB (top 18)) f cdv A outer s H E).nox (zL (top 18)) GP.earlier_behind.g:=by
 have nd:(["one","other"]:List Str).Nodup:=sc_earlier_behind.nd
 exact (zD (qL (pt_is (PVw.n (zA 0)) (PV.n jW)) (zH (qF (zA 1))) zP)
  (zD (qL (pt_is (PVw.n (zA 1)) (PV.n jW)) (zH (qF (zA 0))) zP)
  (zH (qF (PV.w (pv_min2 rfl T.b_min (qI (zA 0) (qI (zA 1) jA))))))))
theorem fok_earlier_behind {f:Addr} {fd:FuncData} (Fn:Fun K "earlier_behind" "earlier_behind" (top 18) f fd) (T:Glb K mg)  : FnOk P w K mg base CX0 1 f fd ["one","other"] (spF K 2 GP.earlier_behind.f) :=
 qY (k:=0) (F:=GP.earlier_behind.f) (g:=GP.earlier_behind.g) Fn sc_earlier_behind (fun cdv A outer s H E hr=>body_earlier_behind T  cdv A outer s H E hr) (fun ds r hl e=>zY e)
theorem sc_ends_ahead:FnScope ["behind","low"] ["behind","low"] (zB (top 16)):=⟨rfl,rfl,rfl,by decide +kernel,rfl,by decide +kernel,by decide +kernel⟩
theorem body_ends_ahead {f:Addr} (T:Glb K mg)  (cdv:Value) (A:Around) (outer:List Env) (s:Shared) (H:Hp) (E:XK) (hr:Room 0 (A.deeper (envOfC "ends_ahead" (zB (top 16)) s.heap.objs.size f cdv))) :
  PSsv (cxOf CX0 P w K mg base ["behind","low"] "ends_ahead" (zB (top 16)) f cdv A outer s H E).nox (zL (top 16)) GP.ends_ahead.g:=by
 have nd:(["behind","low"]:List Str).Nodup:=sc_ends_ahead.nd
 exact (zH (qF (PV.w (vA (pv_isnot (PVw.n (zA 0)) (PV.n jW)) (vA (pv_isnot (PVw.n (zA 1)) (PV.n jW)) (kD (pv_le (zA 0) (zA 1))))))))
theorem fok_ends_ahead {f:Addr} {fd:FuncData} (Fn:Fun K "ends_ahead" "ends_ahead" (top 16) f fd) (T:Glb K mg)  : FnOk P w K mg base CX0 1 f fd ["behind","low"] (spF K 2 GP.ends_ahead.f) :=
 qY (k:=0) (F:=GP.ends_ahead.f) (g:=GP.ends_ahead.g) Fn sc_ends_ahead (fun cdv A outer s H E hr=>body_ends_ahead T  cdv A outer s H E hr) (fun ds r hl e=>zY e)
theorem sc_meet:FnScope ["one","other","low","behind"] ["one","other"] (zB (top 15)):=⟨rfl,rfl,rfl,by decide +kernel,rfl,by decide +kernel,by decide +kernel⟩
theorem body_meet {f:Addr} (T:Glb K mg) (C_later_low:Cal P w K mg base "later_low" 1 2 GP.later_low.f) (C_earlier_behind:Cal P w K mg base "earlier_behind" 1 2 GP.earlier_behind.f) (C_ends_ahead:Cal P w K mg base "ends_ahead" 1 2 GP.ends_ahead.f) (cdv:Value) (A:Around) (outer:List Env) (s:Shared) (H:Hp) (E:XK) (hr:Room 1 (A.deeper (envOfC "meet" (zB (top 15)) s.heap.objs.size f cdv))) :
  PSsv (cxOf CX0 P w K mg base ["one","other","low","behind"] "meet" (zB (top 15)) f cdv A outer s H E).nox (zL (top 15)) GP.meet.g:=by
 have nd:(["one","other","low","behind"]:List Str).Nodup:=sc_meet.nd
 exact (zD (zQ (i:=2) nd (qB C_later_low hr (zK (PV.n (qE (zA 0) (PV.w zC))) (zK (PV.n (qE (zA 1) (PV.w zC))) zR))))
  (zD (zQ (i:=3) nd (qB C_earlier_behind hr (zK (PV.n (qE (zA 0) (PV.w zC))) (zK (PV.n (qE (zA 1) (PV.w zC))) zR))))
  (zD (qL (PVn.t (PV.n (qB C_ends_ahead hr (zK (PVw.n (zA 3)) (zK (PVw.n (zA 2)) zR))))) (zH (qF (PV.w jW))) zP)
  (zH (qF (PV.w (jJ (zF (zV 2) (zF (zV 3) zN)))))))))
theorem fok_meet {f:Addr} {fd:FuncData} (Fn:Fun K "meet" "meet" (top 15) f fd) (T:Glb K mg) (C_later_low:Cal P w K mg base "later_low" 1 2 GP.later_low.f) (C_earlier_behind:Cal P w K mg base "earlier_behind" 1 2 GP.earlier_behind.f) (C_ends_ahead:Cal P w K mg base "ends_ahead" 1 2 GP.ends_ahead.f):FnOk P w K mg base CX0 2 f fd ["one","other"] (spF K 2 GP.meet.f) :=
 qY (k:=1) (F:=GP.meet.f) (g:=GP.meet.g) Fn sc_meet (fun cdv A outer s H E hr=>body_meet T C_later_low C_earlier_behind C_ends_ahead cdv A outer s H E hr) (fun ds r hl e=>zY e)
theorem sc_knit:FnScope ["rows","pieces","low","behind","value"] ["rows"] (zB (top 20)):=⟨rfl,rfl,rfl,by decide +kernel,rfl,by decide +kernel,by decide +kernel⟩
theorem body_knit {f:Addr} (T:Glb K mg)  (cdv:Value) (A:Around) (outer:List Env) (s:Shared) (H:Hp) (E:XK) (hr:Room 0 (A.deeper (envOfC "knit" (zB (top 20)) s.heap.objs.size f cdv))) :
  PSsv (cxOf CX0 P w K mg base ["rows","pieces","low","behind","value"] "knit" (zB (top 20)) f cdv A outer s H E).nox (zL (top 20)) GP.knit.g:=by
 have nd:(["rows","pieces","low","behind","value"]:List Str).Nodup:=sc_knit.nd
 exact (zD (qX (i:=1) nd (qM zN))
  (zD (jY PassesOwn.never rfl (qV (zV 0)) (xX (n:=3) rfl (qD (zM (i:=2) nd) (qD (zM (i:=3) nd) (qD (zM (i:=4) nd) xG)))) (zD (qL (pt_is (PVw.n (zA 4)) (PV.n jW)) (zH psv_continue) zP)
  (zH (qL (PWv.t (yQ (PVn.t (PVw.n (zA 1))) (yQ (yW hr (PV.n (qE (PV.w (qE (zA 1) (PV.w (pv_neg zC)))) (PV.w zC))) (PVw.n (zA 2))) (yF (yW hr (PV.n (qE (PV.w (qE (zA 1) (PV.w (pv_neg zC)))) (PV.w zC))) (PVw.n (zA 4))))))) (zH (psv_put (i:=1) (jJ (zF (qE (PV.w (qE (zA 1) (PV.w (pv_neg zC)))) (PV.w zC)) (zF (zV 3) (zF (zV 4) zN)))) (pv_neg zC))) (zH (yX (i:=1) (jJ (zF (zV 2) (zF (zV 3) (zF (zV 4) zN))))))))))
  (zH (yP 1))))
theorem fok_knit {f:Addr} {fd:FuncData} (Fn:Fun K "knit" "knit" (top 20) f fd) (T:Glb K mg)  : FnOk P w K mg base CX0 1 f fd ["rows"] (spF K 1 GP.knit.f) :=
 qY (k:=0) (F:=GP.knit.f) (g:=GP.knit.g) Fn sc_knit (fun cdv A outer s H E hr=>body_knit T  cdv A outer s H E hr) (fun ds r hl e=>zY e)
theorem sc_parts_in:FnScope ["pieces","within","parts","low","behind","value","common"] ["pieces","within"] (zB (top 22)):=⟨rfl,rfl,rfl,by decide +kernel,rfl,by decide +kernel,by decide +kernel⟩
theorem body_parts_in {f:Addr} (T:Glb K mg) (C_meet:Cal P w K mg base "meet" 2 2 GP.meet.f) (cdv:Value) (A:Around) (outer:List Env) (s:Shared) (H:Hp) (E:XK) (hr:Room 2 (A.deeper (envOfC "parts_in" (zB (top 22)) s.heap.objs.size f cdv))) :
  PSsv (cxOf CX0 P w K mg base ["pieces","within","parts","low","behind","value","common"] "parts_in" (zB (top 22)) f cdv A outer s H E).nox (zL (top 22)) GP.parts_in.g:=by
 have nd:(["pieces","within","parts","low","behind","value","common"]:List Str).Nodup:=sc_parts_in.nd
 exact (zD (qX (i:=2) nd (qM zN))
  (zD (jY PassesOwn.never rfl (qV (zV 0)) (xX (n:=3) rfl (qD (zM (i:=3) nd) (qD (zM (i:=4) nd) (qD (zM (i:=5) nd) xG)))) (zD (zQ (i:=6) nd (qB C_meet hr (zK (PV.n (jJ (zF (zV 3) (zF (zV 4) zN)))) (zK (PVw.n (zA 1)) zR))))
  (zH (qL (vM (PVw.n (zA 6)) (PV.n jW)) (zH (yX (i:=2) (jJ (zF (qE (zA 6) (PV.w zC)) (zF (qE (zA 6) (PV.w zC)) (zF (zV 5) zN)))))) zP))))
  (zH (yP 2))))
theorem fok_parts_in {f:Addr} {fd:FuncData} (Fn:Fun K "parts_in" "parts_in" (top 22) f fd) (T:Glb K mg) (C_meet:Cal P w K mg base "meet" 2 2 GP.meet.f):FnOk P w K mg base CX0 3 f fd ["pieces","within"] (spF K 2 GP.parts_in.f) :=
 qY (k:=2) (F:=GP.parts_in.f) (g:=GP.parts_in.g) Fn sc_parts_in (fun cdv A outer s H E hr=>body_parts_in T C_meet cdv A outer s H E hr) (fun ds r hl e=>zY e)
theorem sc_rows_over:FnScope ["pieces","over","value","rows"] ["pieces","over","value"] (zB (top 23)):=⟨rfl,rfl,rfl,by decide +kernel,rfl,by decide +kernel,by decide +kernel⟩
theorem body_rows_over {f:Addr} (T:Glb K mg) (C_parts_in:Cal P w K mg base "parts_in" 3 2 GP.parts_in.f) (cdv:Value) (A:Around) (outer:List Env) (s:Shared) (H:Hp) (E:XK) (hr:Room 3 (A.deeper (envOfC "rows_over" (zB (top 23)) s.heap.objs.size f cdv))) :
  PSsv (cxOf CX0 P w K mg base ["pieces","over","value","rows"] "rows_over" (zB (top 23)) f cdv A outer s H E).nox (zL (top 23)) GP.rows_over.g:=by
 have nd:(["pieces","over","value","rows"]:List Str).Nodup:=sc_rows_over.nd
 exact (zD (qX (i:=3) nd (qM zN))
  (zD (qL (vM (PV.n (qE (zA 1) (PV.w zC))) (PV.n jW)) (zH (wM (i:=3) (jR C_parts_in hr (zK (PVw.n (zA 0)) (zK (PV.n (jJ (zF jW (zF (qE (zA 1) (PV.w zC)) zN)))) zR))))) zP)
  (zD (yX (i:=3) (jJ (zF (qE (zA 1) (PV.w zC)) (zF (qE (zA 1) (PV.w zC)) (zF (zV 2) zN)))))
  (zD (qL (vM (PV.n (qE (zA 1) (PV.w zC))) (PV.n jW)) (zH (wM (i:=3) (jR C_parts_in hr (zK (PVw.n (zA 0)) (zK (PV.n (jJ (zF (qE (zA 1) (PV.w zC)) (zF jW zN)))) zR))))) zP)
  (zH (yP 3))))))
theorem fok_rows_over {f:Addr} {fd:FuncData} (Fn:Fun K "rows_over" "rows_over" (top 23) f fd) (T:Glb K mg) (C_parts_in:Cal P w K mg base "parts_in" 3 2 GP.parts_in.f):FnOk P w K mg base CX0 4 f fd ["pieces","over","value"] (spF K 3 GP.rows_over.f) :=
 qY (k:=3) (F:=GP.rows_over.f) (g:=GP.rows_over.g) Fn sc_rows_over (fun cdv A outer s H E hr=>body_rows_over T C_parts_in cdv A outer s H E hr) (fun ds r hl e=>zY e)
theorem sc_formed:FnScope ["rows","pieces","over","value"] ["rows"] (zB (top 21)):=⟨rfl,rfl,rfl,by decide +kernel,rfl,by decide +kernel,by decide +kernel⟩
theorem body_formed {f:Addr} (T:Glb K mg) (C_knit:Cal P w K mg base "knit" 1 1 GP.knit.f) (C_rows_over:Cal P w K mg base "rows_over" 4 3 GP.rows_over.f) (cdv:Value) (A:Around) (outer:List Env) (s:Shared) (H:Hp) (E:XK) (hr:Room 4 (A.deeper (envOfC "formed" (zB (top 21)) s.heap.objs.size f cdv))) :
  PSsv (cxOf CX0 P w K mg base ["rows","pieces","over","value"] "formed" (zB (top 21)) f cdv A outer s H E).nox (zL (top 21)) GP.formed.g:=by
 have nd:(["rows","pieces","over","value"]:List Str).Nodup:=sc_formed.nd
 exact (zD (qX (i:=1) nd (qM zN))
  (zD (jY PassesOwn.never rfl (qV (zV 0)) (xX (n:=2) rfl (qD (zM (i:=2) nd) (qD (zM (i:=3) nd) xG))) (zH (qX (i:=1) nd (jR C_knit hr (zK (PV.n (qB C_rows_over hr (zK (PVw.n (zA 1)) (zK (PVw.n (zA 2)) (zK (PVw.n (zA 3)) zR))))) zR)))))
  (zH (yP 1))))
theorem fok_formed {f:Addr} {fd:FuncData} (Fn:Fun K "formed" "formed" (top 21) f fd) (T:Glb K mg) (C_knit:Cal P w K mg base "knit" 1 1 GP.knit.f) (C_rows_over:Cal P w K mg base "rows_over" 4 3 GP.rows_over.f):FnOk P w K mg base CX0 5 f fd ["rows"] (spF K 1 GP.formed.f) :=
 qY (k:=4) (F:=GP.formed.f) (g:=GP.formed.g) Fn sc_formed (fun cdv A outer s H E hr=>body_formed T C_knit C_rows_over cdv A outer s H E hr) (fun ds r hl e=>zY e)
theorem sc_is_rule:FnScope ["rule","wide","step","times"] ["rule"] (zB (top 31)):=⟨rfl,rfl,rfl,by decide +kernel,rfl,by decide +kernel,by decide +kernel⟩
theorem body_is_rule {f:Addr} (T:Glb K mg)  (cdv:Value) (A:Around) (outer:List Env) (s:Shared) (H:Hp) (E:XK) (hr:Room 0 (A.deeper (envOfC "is_rule" (zB (top 31)) s.heap.objs.size f cdv))) :
  PSsv (cxOf CX0 P w K mg base ["rule","wide","step","times"] "is_rule" (zB (top 31)) f cdv A outer s H E).nox (zL (top 31)) GP.is_rule.g:=by
 have nd:(["rule","wide","step","times"]:List Str).Nodup:=sc_is_rule.nd
 exact (zD (zQ (i:=1) nd (yH (PV.w (qE (zA 0) (PV.w zC))) (PV.w (qE (zA 0) (PV.w zC)))))
  (zD (zQ (i:=2) nd (qE (zA 0) (PV.w zC)))
  (zD (zQ (i:=3) nd (qE (zA 0) (PV.w zC)))
  (zD (qL (PWv.t (wA (pt_lt (zA 1) (PV.w zC)) (wA (pt_lt (zA 3) (PV.w zC)) (xZ (pt_gt (zA 3) (PV.w (vV T.c_MOST_TIMES))))))) (zH (qF (PV.w wX))) zP)
  (zH (qF (PV.w (pv_if (yW hr (PVw.n (zA 3)) (PV.n zC)) (pv_eq hr (PVw.n (zA 2)) (PV.n zC)) (pv_gt (zA 2) (zA 1))))))))))
theorem fok_is_rule {f:Addr} {fd:FuncData} (Fn:Fun K "is_rule" "is_rule" (top 31) f fd) (T:Glb K mg)  : FnOk P w K mg base CX0 1 f fd ["rule"] (spF K 1 GP.is_rule.f) :=
 qY (k:=0) (F:=GP.is_rule.f) (g:=GP.is_rule.g) Fn sc_is_rule (fun cdv A outer s H E hr=>body_is_rule T  cdv A outer s H E hr) (fun ds r hl e=>zY e)
theorem sc_stretches:FnScope ["rule","step"] ["rule"] (zB (top 27)):=⟨rfl,rfl,rfl,by decide +kernel,rfl,by decide +kernel,by decide +kernel⟩
theorem body_stretches {f:Addr} (T:Glb K mg) (C_is_rule:Cal P w K mg base "is_rule" 1 1 GP.is_rule.f) (cdv:Value) (A:Around) (outer:List Env) (s:Shared) (H:Hp) (E:XK) (hr:Room 1 (A.deeper (envOfC "stretches" (zB (top 27)) s.heap.objs.size f cdv))) :
  PSsv (cxOf CX0 P w K mg base ["rule","step"] "stretches" (zB (top 27)) f cdv A outer s H E).nox (zL (top 27)) GP.stretches.g:=by
 have nd:(["rule","step"]:List Str).Nodup:=sc_stretches.nd
 have nI0:(["number","rule","step"]:List Str).Nodup:=by decide +kernel
 exact (zD (qL (xW (PVn.t (PV.n (qB C_is_rule hr (zK (PVw.n (zA 0)) zR))))) (zH psv_never) zP)
  (zD (zQ (i:=1) nd (qE (zA 0) (PV.w zC)))
  (zH (yS (jQ (NY:=["number","rule","step"]) (mp:=[none,some 0,some 1]) (qQ (by kernel_rfl)) rfl (xR T.b_range (qE (zA 0) (PV.w zC))) (fun c=>(zM (i:=0) nI0)) (fun c=>yI) (fun c=>(jJ (zF (qJ (PV.w (qE (zA 1) (PV.w zC))) (PV.w (jF (zA 0) (zA 2)))) (zF (qJ (PV.w (qE (zA 1) (PV.w zC))) (PV.w (jF (zA 0) (zA 2)))) zN)))))))))
theorem fok_stretches {f:Addr} {fd:FuncData} (Fn:Fun K "stretches" "stretches" (top 27) f fd) (T:Glb K mg) (C_is_rule:Cal P w K mg base "is_rule" 1 1 GP.is_rule.f):FnOk P w K mg base CX0 2 f fd ["rule"] (spF K 1 GP.stretches.f) :=
 qY (k:=1) (F:=GP.stretches.f) (g:=GP.stretches.g) Fn sc_stretches (fun cdv A outer s H E hr=>body_stretches T C_is_rule cdv A outer s H E hr) (fun ds r hl e=>zY e)
theorem body_stretches_9 {f XC:Addr} (T:Glb K mg) (C_is_rule:Cal P w K mg base "is_rule" 1 1 GP.is_rule.f) (R:XR K mg 9 XC) (cdv:Value) (A:Around) (outer:List Env) (s:Shared) (H:Hp) (E:XK) (hr:Room 1 (A.deeper (envOfC "stretches" (zB (top 27)) s.heap.objs.size f cdv))) :
  PSsy (cxOf (CXM P w) P w K mg base ["rule","step"] "stretches" (zB (top 27)) f cdv A outer s H E) E XC (zL (top 27)) K72.X_stretches_9.x:=by
 have nd:(["rule","step"]:List Str).Nodup:=sc_stretches.nd
 exact (yD (psy_if (xW (PVn.t (PV.n (qB C_is_rule hr (zK (PVw.n (zA 0)) zR))))) (yD (PSx.y (psx_raise R.cls R.gl))
  yR) (pssy_never yR))
  yR)
theorem fokx_stretches_9 {f XC:Addr} {fd:FuncData} (Fn:Fun K "stretches" "stretches" (top 27) f fd) (T:Glb K mg) (C_is_rule:Cal P w K mg base "is_rule" 1 1 GP.is_rule.f) (R:XR K mg 9 XC):FnOk P w K mg base (CXM P w) 2 f fd ["rule"] (spX K 1 K72.X_stretches_9.f XC) :=
 wV (k:=1) (g:=K72.X_stretches_9.x) Fn sc_stretches (fun cdv A outer s H E hr=>body_stretches_9 T C_is_rule R cdv A outer s H E hr) (fun ds hl e=>e)
theorem sc_laid_rows:FnScope ["rows"] ["rows"] (zB (top 30)):=⟨rfl,rfl,rfl,by decide +kernel,rfl,by decide +kernel,by decide +kernel⟩
theorem body_laid_rows {f:Addr} (T:Glb K mg) (C_formed:Cal P w K mg base "formed" 5 1 GP.formed.f) (cdv:Value) (A:Around) (outer:List Env) (s:Shared) (H:Hp) (E:XK) (hr:Room 5 (A.deeper (envOfC "laid_rows" (zB (top 30)) s.heap.objs.size f cdv))) :
  PSsv (cxOf CX0 P w K mg base ["rows"] "laid_rows" (zB (top 30)) f cdv A outer s H E).nox (zL (top 30)) GP.laid_rows.g:=by
 have nd:(["rows"]:List Str).Nodup:=sc_laid_rows.nd
 exact (zD (qL (pt_gt (PV.w (xH T.b_len (qI (zA 0) jA))) (PV.w (vV T.c_MOST_TOGETHER))) (zH psv_never) zP)
  (zH (yS (jR C_formed hr (zK (PVw.n (zA 0)) zR)))))
theorem fok_laid_rows {f:Addr} {fd:FuncData} (Fn:Fun K "laid_rows" "laid_rows" (top 30) f fd) (T:Glb K mg) (C_formed:Cal P w K mg base "formed" 5 1 GP.formed.f):FnOk P w K mg base CX0 6 f fd ["rows"] (spF K 1 GP.laid_rows.f) :=
 qY (k:=5) (F:=GP.laid_rows.f) (g:=GP.laid_rows.g) Fn sc_laid_rows (fun cdv A outer s H E hr=>body_laid_rows T C_formed cdv A outer s H E hr) (fun ds r hl e=>zY e)
theorem body_laid_rows_10 {f XC:Addr} (T:Glb K mg) (C_formed:Cal P w K mg base "formed" 5 1 GP.formed.f) (R:XR K mg 10 XC) (cdv:Value) (A:Around) (outer:List Env) (s:Shared) (H:Hp) (E:XK) (hr:Room 5 (A.deeper (envOfC "laid_rows" (zB (top 30)) s.heap.objs.size f cdv))) :
  PSsy (cxOf (CXM P w) P w K mg base ["rows"] "laid_rows" (zB (top 30)) f cdv A outer s H E) E XC (zL (top 30)) K72.X_laid_rows_10.x:=by
 have nd:(["rows"]:List Str).Nodup:=sc_laid_rows.nd
 exact (yD (psy_if (pt_gt (PV.w (xH T.b_len (qI (zA 0) jA))) (PV.w (vV T.c_MOST_TOGETHER))) (yD (PSx.y (psx_raise R.cls R.gl))
  yR) (pssy_never yR))
  yR)
theorem fokx_laid_rows_10 {f XC:Addr} {fd:FuncData} (Fn:Fun K "laid_rows" "laid_rows" (top 30) f fd) (T:Glb K mg) (C_formed:Cal P w K mg base "formed" 5 1 GP.formed.f) (R:XR K mg 10 XC):FnOk P w K mg base (CXM P w) 6 f fd ["rows"] (spX K 1 K72.X_laid_rows_10.f XC) :=
 wV (k:=5) (g:=K72.X_laid_rows_10.x) Fn sc_laid_rows (fun cdv A outer s H E hr=>body_laid_rows_10 T C_formed R cdv A outer s H E hr) (fun ds hl e=>e)
theorem sc_rule_rows:FnScope ["rule"] ["rule"] (zB (top 29)):=⟨rfl,rfl,rfl,by decide +kernel,rfl,by decide +kernel,by decide +kernel⟩
theorem body_rule_rows {f:Addr} (T:Glb K mg) (C_stretches:Cal P w K mg base "stretches" 2 1 GP.stretches.f) (cdv:Value) (A:Around) (outer:List Env) (s:Shared) (H:Hp) (E:XK) (hr:Room 2 (A.deeper (envOfC "rule_rows" (zB (top 29)) s.heap.objs.size f cdv))) :
  PSsv (cxOf CX0 P w K mg base ["rule"] "rule_rows" (zB (top 29)) f cdv A outer s H E).nox (zL (top 29)) GP.rule_rows.g:=by
 have nd:(["rule"]:List Str).Nodup:=sc_rule_rows.nd
 have nI0:(["stretch","rule"]:List Str).Nodup:=by decide +kernel
 exact (zH (yS (jQ (NY:=["stretch","rule"]) (mp:=[none,some 0]) (qQ (by kernel_rfl)) rfl (qV (qB C_stretches hr (zK (PVw.n (zA 0)) zR))) (fun c=>(zM (i:=0) nI0)) (fun c=>yI) (fun c=>(jJ (zF (zV 0) (zF (qE (zA 1) (PV.w zC)) zN)))))))
theorem fok_rule_rows {f:Addr} {fd:FuncData} (Fn:Fun K "rule_rows" "rule_rows" (top 29) f fd) (T:Glb K mg) (C_stretches:Cal P w K mg base "stretches" 2 1 GP.stretches.f):FnOk P w K mg base CX0 3 f fd ["rule"] (spF K 1 GP.rule_rows.f) :=
 qY (k:=2) (F:=GP.rule_rows.f) (g:=GP.rule_rows.g) Fn sc_rule_rows (fun cdv A outer s H E hr=>body_rule_rows T C_stretches cdv A outer s H E hr) (fun ds r hl e=>zY e)
theorem body_rule_rows_9 {f XC:Addr} (T:Glb K mg) (C_stretches:Cal P w K mg base "stretches" 2 1 GP.stretches.f) (CX_stretches_9:CalX P w K mg base "stretches" 2 1 K72.X_stretches_9.f XC) (cdv:Value) (A:Around) (outer:List Env) (s:Shared) (H:Hp) (E:XK) (hr:Room 2 (A.deeper (envOfC "rule_rows" (zB (top 29)) s.heap.objs.size f cdv))) :
  PSsy (cxOf (CXM P w) P w K mg base ["rule"] "rule_rows" (zB (top 29)) f cdv A outer s H E) E XC (zL (top 29)) K72.X_rule_rows_9.x:=by
 have nd:(["rule"]:List Str).Nodup:=sc_rule_rows.nd
 have nI0:(["stretch","rule"]:List Str).Nodup:=by decide +kernel
 exact (yD (psy_ret (pey_comp (NY:=["stretch","rule"]) (mp:=[none,some 0]) (qQ (by kernel_rfl)) rfl (vK pass_on CX_stretches_9 hr (zK (PVw.n (zA 0)) zR)) (fun c=>(zM (i:=0) nI0)) (fun c=>yI) (fun c=>(jJ (zF (zV 0) (zF (qE (zA 1) (PV.w zC)) zN))))))
  yR)
theorem fokx_rule_rows_9 {f XC:Addr} {fd:FuncData} (Fn:Fun K "rule_rows" "rule_rows" (top 29) f fd) (T:Glb K mg) (C_stretches:Cal P w K mg base "stretches" 2 1 GP.stretches.f) (CX_stretches_9:CalX P w K mg base "stretches" 2 1 K72.X_stretches_9.f XC):FnOk P w K mg base (CXM P w) 3 f fd ["rule"] (spX K 1 K72.X_rule_rows_9.f XC) :=
 wV (k:=2) (g:=K72.X_rule_rows_9.x) Fn sc_rule_rows (fun cdv A outer s H E hr=>body_rule_rows_9 T C_stretches CX_stretches_9 cdv A outer s H E hr) (fun ds hl e=>e)
theorem sc_laid:FnScope ["rules","rows","rule"] ["rules"] (zB (top 28)):=⟨rfl,rfl,rfl,by decide +kernel,rfl,by decide +kernel,by decide +kernel⟩
theorem body_laid {f:Addr} (T:Glb K mg) (C_laid_rows:Cal P w K mg base "laid_rows" 6 1 GP.laid_rows.f) (C_rule_rows:Cal P w K mg base "rule_rows" 3 1 GP.rule_rows.f) (cdv:Value) (A:Around) (outer:List Env) (s:Shared) (H:Hp) (E:XK) (hr:Room 6 (A.deeper (envOfC "laid" (zB (top 28)) s.heap.objs.size f cdv))) :
  PSsv (cxOf CX0 P w K mg base ["rules","rows","rule"] "laid" (zB (top 28)) f cdv A outer s H E).nox (zL (top 28)) GP.laid.g:=by
 have nd:(["rules","rows","rule"]:List Str).Nodup:=sc_laid.nd
 exact (zD (qX (i:=1) nd (qM zN))
  (zD (jY PassesOwn.never rfl (qV (zV 0)) (zM (i:=2) nd) (zH (wM (i:=1) (jR C_rule_rows hr (zK (PVw.n (zA 2)) zR)))))
  (zH (yS (jR C_laid_rows hr (zK (PVw.n (zA 1)) zR))))))
theorem fok_laid {f:Addr} {fd:FuncData} (Fn:Fun K "laid" "laid" (top 28) f fd) (T:Glb K mg) (C_laid_rows:Cal P w K mg base "laid_rows" 6 1 GP.laid_rows.f) (C_rule_rows:Cal P w K mg base "rule_rows" 3 1 GP.rule_rows.f):FnOk P w K mg base CX0 7 f fd ["rules"] (spF K 1 GP.laid.f) :=
 qY (k:=6) (F:=GP.laid.f) (g:=GP.laid.g) Fn sc_laid (fun cdv A outer s H E hr=>body_laid T C_laid_rows C_rule_rows cdv A outer s H E hr) (fun ds r hl e=>zY e)
theorem body_laid_9 {f XC:Addr} (T:Glb K mg) (C_laid_rows:Cal P w K mg base "laid_rows" 6 1 GP.laid_rows.f) (C_rule_rows:Cal P w K mg base "rule_rows" 3 1 GP.rule_rows.f) (CX_rule_rows_9:CalX P w K mg base "rule_rows" 3 1 K72.X_rule_rows_9.f XC) (cdv:Value) (A:Around) (outer:List Env) (s:Shared) (H:Hp) (E:XK) (hr:Room 6 (A.deeper (envOfC "laid" (zB (top 28)) s.heap.objs.size f cdv))) :
  PSsy (cxOf (CXM P w) P w K mg base ["rules","rows","rule"] "laid" (zB (top 28)) f cdv A outer s H E) E XC (zL (top 28)) K72.X_laid_9.x:=by
 have nd:(["rules","rows","rule"]:List Str).Nodup:=sc_laid.nd
 exact (wW (qX (i:=1) nd (qM zN))
  (yD (psy_for thr_out (qV (zV 0)) (zM (i:=2) nd) (zH (wM (i:=1) (jR C_rule_rows hr (zK (PVw.n (zA 2)) zR)))) (pssz_ext (i:=1) (vK thr_pass CX_rule_rows_9 hr (zK (PVw.n (zA 2)) zR))))
  yR))
theorem fokx_laid_9 {f XC:Addr} {fd:FuncData} (Fn:Fun K "laid" "laid" (top 28) f fd) (T:Glb K mg) (C_laid_rows:Cal P w K mg base "laid_rows" 6 1 GP.laid_rows.f) (C_rule_rows:Cal P w K mg base "rule_rows" 3 1 GP.rule_rows.f) (CX_rule_rows_9:CalX P w K mg base "rule_rows" 3 1 K72.X_rule_rows_9.f XC):FnOk P w K mg base (CXM P w) 7 f fd ["rules"] (spX K 1 K72.X_laid_9.f XC) :=
 wV (k:=6) (g:=K72.X_laid_9.x) Fn sc_laid (fun cdv A outer s H E hr=>body_laid_9 T C_laid_rows C_rule_rows CX_rule_rows_9 cdv A outer s H E hr) (fun ds hl e=>e)
theorem body_laid_10 {f XC:Addr} (T:Glb K mg) (C_laid_rows:Cal P w K mg base "laid_rows" 6 1 GP.laid_rows.f) (C_rule_rows:Cal P w K mg base "rule_rows" 3 1 GP.rule_rows.f) (CX_laid_rows_10:CalX P w K mg base "laid_rows" 6 1 K72.X_laid_rows_10.f XC) (cdv:Value) (A:Around) (outer:List Env) (s:Shared) (H:Hp) (E:XK) (hr:Room 6 (A.deeper (envOfC "laid" (zB (top 28)) s.heap.objs.size f cdv))) :
  PSsy (cxOf (CXM P w) P w K mg base ["rules","rows","rule"] "laid" (zB (top 28)) f cdv A outer s H E) E XC (zL (top 28)) K72.X_laid_10.x:=by
 have nd:(["rules","rows","rule"]:List Str).Nodup:=sc_laid.nd
 exact (wW (qX (i:=1) nd (qM zN))
  (wW (PSv.ofNox (jY PassesOwn.never rfl (qV (zV 0)) (zM (i:=2) nd) (zH (wM (i:=1) (jR C_rule_rows hr (zK (PVw.n (zA 2)) zR))))))
  (yD (psy_ret (vK pass_on CX_laid_rows_10 hr (zK (PVw.n (zA 1)) zR)))
  yR)))
theorem fokx_laid_10 {f XC:Addr} {fd:FuncData} (Fn:Fun K "laid" "laid" (top 28) f fd) (T:Glb K mg) (C_laid_rows:Cal P w K mg base "laid_rows" 6 1 GP.laid_rows.f) (C_rule_rows:Cal P w K mg base "rule_rows" 3 1 GP.rule_rows.f) (CX_laid_rows_10:CalX P w K mg base "laid_rows" 6 1 K72.X_laid_rows_10.f XC):FnOk P w K mg base (CXM P w) 7 f fd ["rules"] (spX K 1 K72.X_laid_10.f XC) :=
 wV (k:=6) (g:=K72.X_laid_10.x) Fn sc_laid (fun cdv A outer s H E hr=>body_laid_10 T C_laid_rows C_rule_rows CX_laid_rows_10 cdv A outer s H E hr) (fun ds hl e=>e)
theorem sc__law_cell_at:FnScope ["_law_script","_law_k"] ["_law_script","_law_k"] (zB (top 33)):=⟨rfl,rfl,rfl,by decide +kernel,rfl,by decide +kernel,by decide +kernel⟩
theorem body__law_cell_at {f:Addr} (T:Glb K mg)  (cdv:Value) (A:Around) (outer:List Env) (s:Shared) (H:Hp) (E:XK) (hr:Room 0 (A.deeper (envOfC "_law_cell_at" (zB (top 33)) s.heap.objs.size f cdv))) :
  PSsv (cxOf CX0 P w K mg base ["_law_script","_law_k"] "_law_cell_at" (zB (top 33)) f cdv A outer s H E).nox (zL (top 33)) GL.cell_at.g:=by
 have nd:(["_law_script","_law_k"]:List Str).Nodup:=sc__law_cell_at.nd
 exact (zD (qL (pt_lt (zA 1) (PV.w (xH T.b_len (qI (zA 0) jA)))) (zH (qF (PV.w (qE (zA 0) (zA 1))))) zP)
  (zH (qF (PV.w zC))))
theorem fok__law_cell_at {f:Addr} {fd:FuncData} (Fn:Fun K "_law_cell_at" "_law_cell_at" (top 33) f fd) (T:Glb K mg)  : FnOk P w K mg base CX0 1 f fd ["_law_script","_law_k"] (spF K 2 GL.cell_at.f) :=
 qY (k:=0) (F:=GL.cell_at.f) (g:=GL.cell_at.g) Fn sc__law_cell_at (fun cdv A outer s H E hr=>body__law_cell_at T  cdv A outer s H E hr) (fun ds r hl e=>zY e)
theorem sc__law_whole:FnScope ["_law_found"] ["_law_found"] (zB (top 34)):=⟨rfl,rfl,rfl,by decide +kernel,rfl,by decide +kernel,by decide +kernel⟩
theorem body__law_whole {f:Addr} (T:Glb K mg)  (cdv:Value) (A:Around) (outer:List Env) (s:Shared) (H:Hp) (E:XK) (hr:Room 0 (A.deeper (envOfC "_law_whole" (zB (top 34)) s.heap.objs.size f cdv))) :
  PSsv (cxOf CX0 P w K mg base ["_law_found"] "_law_whole" (zB (top 34)) f cdv A outer s H E).nox (zL (top 34)) GL.whole.g:=by
 have nd:(["_law_found"]:List Str).Nodup:=sc__law_whole.nd
 exact (zH (qF (PV.w (vA (pv_isi T.b_isinstance T.b_int (by decide +kernel) (zA 0)) (kD (pv_not (pv_isi T.b_isinstance T.b_bool (by decide +kernel) (zA 0))))))))
theorem fok__law_whole {f:Addr} {fd:FuncData} (Fn:Fun K "_law_whole" "_law_whole" (top 34) f fd) (T:Glb K mg)  : FnOk P w K mg base CX0 1 f fd ["_law_found"] (spF K 1 GL.whole.f) :=
 qY (k:=0) (F:=GL.whole.f) (g:=GL.whole.g) Fn sc__law_whole (fun cdv A outer s H E hr=>body__law_whole T  cdv A outer s H E hr) (fun ds r hl e=>zY e)
theorem sc__law_rule:FnScope ["_law_cell","_law_k","_law_ends_here","_law_mixed","_law_more","_law_low","_law_long","_law_step","_law_times","_law_value"] ["_law_cell","_law_k","_law_ends_here"] (zB (top 35)):=⟨rfl,rfl,rfl,by decide +kernel,rfl,by decide +kernel,by decide +kernel⟩
theorem body__law_rule {f:Addr} (T:Glb K mg)  (cdv:Value) (A:Around) (outer:List Env) (s:Shared) (H:Hp) (E:XK) (hr:Room 0 (A.deeper (envOfC "_law_rule" (zB (top 35)) s.heap.objs.size f cdv))) :
  PSsv (cxOf CX0 P w K mg base ["_law_cell","_law_k","_law_ends_here","_law_mixed","_law_more","_law_low","_law_long","_law_step","_law_times","_law_value"] "_law_rule" (zB (top 35)) f cdv A outer s H E).nox (zL (top 35)) K72.L_rule.g:=by
 have nd:(["_law_cell","_law_k","_law_ends_here","_law_mixed","_law_more","_law_low","_law_long","_law_step","_law_times","_law_value"]:List Str).Nodup:=sc__law_rule.nd
 exact (zD (zQ (i:=3) nd (zW (PV.w (qJ (PV.w (qJ (PV.w (jF (zA 0) (PV.w zC))) (PV.w (jF (PV.w (jF (zA 1) (zA 1))) (PV.w zC))))) (PV.w zC))) (PV.w zC)))
  (zD (zQ (i:=3) nd (zW (PV.w (jF (zA 3) (zA 3))) (PV.w zC)))
  (zD (zQ (i:=4) nd (zW (PV.w (qJ (PV.w (qJ (PV.w (jF (zA 0) (PV.w zC))) (PV.w (jF (PV.w (jF (zA 1) (zA 1))) (PV.w zC))))) (PV.w zC))) (PV.w zC)))
  (zD (zQ (i:=4) nd (zW (PV.w (jF (zA 4) (zA 3))) (PV.w zC)))
  (zD (zQ (i:=5) nd (yH (PV.w (zW (PV.w (jI (zA 3) (PV.w zC))) (PV.w zC))) (PV.w zC)))
  (zD (qL (PWv.t (yQ (yW hr (PV.n (zW (zA 3) (PV.w zC))) (PV.n zC)) (yF (pt_ne hr (PVw.n (zA 2)) (PV.n (PVf.s (qM zN))))))) (zH (zQ (i:=5) nd (yH (PV.w (qJ (PV.w (qE (zA 2) (PV.w (zW (PV.w (jI (zA 3) (PV.w zC))) (PV.w (xH T.b_len (qI (zA 2) jA))))))) (PV.w (zW (PV.w (jI (zA 3) (PV.w zC))) (PV.w zC))))) (PV.w zC)))) zP)
  (zD (qL (yW hr (PV.n (zW (zA 3) (PV.w zC))) (PV.n zC)) (zH (zQ (i:=5) nd (yH (PV.w (zW (zA 0) (PV.w (qJ (PV.w (jF (PV.w zC) (PV.w (xI (PV.w zC) (PV.w zC))))) (PV.w zC))))) (PV.w (xI (PV.w zC) (PV.w zC)))))) zP)
  (zD (zQ (i:=6) nd (qJ (PV.w zC) (PV.w (qE (PV.w (PVf.s (qM (zF (zW (PV.w (jI (zA 4) (PV.w zC))) (PV.w zC)) (zF (zW (PV.w (jF (zA 0) (PV.w zC))) (PV.w (xI (PV.w zC) (PV.w zC)))) zN))))) (PV.w (jI (PV.w (zW (zA 4) (PV.w zC))) (PV.w zC)))))))
  (zD (zQ (i:=7) nd (qJ (PV.w (qJ (zA 6) (PV.w zC))) (PV.w (qE (PV.w (PVf.s (qM (zF (zW (PV.w (jI (zA 4) (PV.w zC))) (PV.w zC)) (zF (zW (PV.w (jF (zA 0) (PV.w zC))) (PV.w (xI (PV.w zC) (PV.w zC)))) zN))))) (PV.w (jI (PV.w (zW (PV.w (jI (zA 4) (PV.w zC))) (PV.w zC))) (PV.w zC)))))))
  (zD (zQ (i:=8) nd (qJ (PV.w zC) (PV.w (zW (PV.w (jI (zA 4) (PV.w zC))) (PV.w zC)))))
  (zD (qL (yW hr (PVw.n (zA 8)) (PV.n zC)) (zH (zQ (i:=7) nd zC)) zP)
  (zD (zQ (i:=9) nd (zW (PV.w (jI (zA 4) (PV.w zC))) (PV.w zC)))
  (zD (qL (yW hr (PVw.n (zA 9)) (PV.n zC)) (zH (zQ (i:=9) nd (yH (PV.w (zW (zA 0) (PV.w (qJ (PV.w (jF (PV.w zC) (PV.w (xI (PV.w zC) (PV.w zC))))) (PV.w zC))))) (PV.w (xI (PV.w zC) (PV.w zC)))))) zP)
  (zH (qF (PV.w (jJ (zF (zV 5) (zF (qJ (zA 5) (zA 6)) (zF (zV 7) (zF (zV 8) (zF (zV 9) zN))))))))))))))))))))))
theorem fok__law_rule {f:Addr} {fd:FuncData} (Fn:Fun K "_law_rule" "_law_rule" (top 35) f fd) (T:Glb K mg)  : FnOk P w K mg base CX0 1 f fd ["_law_cell","_law_k","_law_ends_here"] (spF K 3 K72.L_rule.f) :=
 qY (k:=0) (F:=K72.L_rule.f) (g:=K72.L_rule.g) Fn sc__law_rule (fun cdv A outer s H E hr=>body__law_rule T  cdv A outer s H E hr) (fun ds r hl e=>zY e)
theorem sc__law_ends:FnScope ["_law_rule_here","_law_found","_law_k"] ["_law_rule_here"] (zB (top 36)):=⟨rfl,rfl,rfl,by decide +kernel,rfl,by decide +kernel,by decide +kernel⟩
theorem body__law_ends {f:Addr} (T:Glb K mg)  (cdv:Value) (A:Around) (outer:List Env) (s:Shared) (H:Hp) (E:XK) (hr:Room 0 (A.deeper (envOfC "_law_ends" (zB (top 36)) s.heap.objs.size f cdv))) :
  PSsv (cxOf CX0 P w K mg base ["_law_rule_here","_law_found","_law_k"] "_law_ends" (zB (top 36)) f cdv A outer s H E).nox (zL (top 36)) K72.L_ends.g:=by
 have nd:(["_law_rule_here","_law_found","_law_k"]:List Str).Nodup:=sc__law_ends.nd
 exact (zD (qX (i:=1) nd (qM zN))
  (zD (jY PassesOwn.never rfl (xR T.b_range (qE (zA 0) (PV.w zC))) (zM (i:=2) nd) (zD (yX (i:=1) (qJ (PV.w (qE (zA 0) (PV.w zC))) (PV.w (jF (zA 2) (PV.w (qE (zA 0) (PV.w zC)))))))
  (zH (yX (i:=1) (qJ (PV.w (qE (zA 0) (PV.w zC))) (PV.w (jF (zA 2) (PV.w (qE (zA 0) (PV.w zC))))))))))
  (zH (yP 1))))
theorem fok__law_ends {f:Addr} {fd:FuncData} (Fn:Fun K "_law_ends" "_law_ends" (top 36) f fd) (T:Glb K mg)  : FnOk P w K mg base CX0 1 f fd ["_law_rule_here"] (spF K 1 K72.L_ends.f) :=
 qY (k:=0) (F:=K72.L_ends.f) (g:=K72.L_ends.g) Fn sc__law_ends (fun cdv A outer s H E hr=>body__law_ends T  cdv A outer s H E hr) (fun ds r hl e=>zY e)
theorem sc__law_great:FnScope ["_law_cell","_law_low","_law_some"] ["_law_cell"] (zB (top 37)):=⟨rfl,rfl,rfl,by decide +kernel,rfl,by decide +kernel,by decide +kernel⟩
theorem body__law_great {f:Addr} (T:Glb K mg)  (cdv:Value) (A:Around) (outer:List Env) (s:Shared) (H:Hp) (E:XK) (hr:Room 0 (A.deeper (envOfC "_law_great" (zB (top 37)) s.heap.objs.size f cdv))) :
  PSsv (cxOf CX0 P w K mg base ["_law_cell","_law_low","_law_some"] "_law_great" (zB (top 37)) f cdv A outer s H E).nox (zL (top 37)) K72.L_great.g:=by
 have nd:(["_law_cell","_law_low","_law_some"]:List Str).Nodup:=sc__law_great.nd
 exact (zD (zQ (i:=1) nd (zW (PV.w (jI (zA 0) (PV.w zC))) (PV.w (xI (PV.w zC) (PV.w zC)))))
  (zD (qX (i:=2) nd (qM (zF (jJ (zF (zV 1) (zF (qJ (zA 1) (PV.w zC)) (zF zC (zF zC (zF (zW (zA 0) (PV.w zC)) zN)))))) (zF (jJ (zF (zV 1) (zF (qJ (zA 1) (PV.w zC)) (zF zC (zF zC (zF zC zN)))))) (zF (jJ (zF (zV 1) (zF (qJ (zA 1) (PV.w zC)) (zF zC (zF zC (zF (zW (PV.w (jI (zA 0) (PV.w zC))) (PV.w zC)) zN)))))) zN)))))
  (zD (qL (yW hr (PV.n (zW (zA 0) (PV.w zC))) (PV.n zC)) (zH (yS (yZ (zA 2) (PV.w (PVf.s (qM (zF (jJ (zF (qJ (zA 1) (PV.w zC)) (zF (qJ (zA 1) (PV.w zC)) (zF zC (zF zC (zF zC zN)))))) zN))))))) zP)
  (zD (qL (yW hr (PV.n (zW (zA 0) (PV.w zC))) (PV.n zC)) (zH (yS (yZ (PV.w (PVf.s (qM (zF (jJ (zF (qJ (zA 1) (PV.w zC)) (zF (qJ (zA 1) (PV.w zC)) (zF zC (zF zC (zF zC zN)))))) zN)))) (zA 2)))) zP)
  (zH (yP 2))))))
theorem fok__law_great {f:Addr} {fd:FuncData} (Fn:Fun K "_law_great" "_law_great" (top 37) f fd) (T:Glb K mg)  : FnOk P w K mg base CX0 1 f fd ["_law_cell"] (spF K 1 K72.L_great.f) :=
 qY (k:=0) (F:=K72.L_great.f) (g:=K72.L_great.g) Fn sc__law_great (fun cdv A outer s H E hr=>body__law_great T  cdv A outer s H E hr) (fun ds r hl e=>zY e)
theorem sc__law_is_map:FnScope ["_law_found","_law_k","_law_low","_law_behind","_law_value","_law_ahead"] ["_law_found"] (zB (top 38)):=⟨rfl,rfl,rfl,by decide +kernel,rfl,by decide +kernel,by decide +kernel⟩
theorem body__law_is_map {f:Addr} (T:Glb K mg) (C__law_whole:Cal P w K mg base "_law_whole" 1 1 GL.whole.f) (cdv:Value) (A:Around) (outer:List Env) (s:Shared) (H:Hp) (E:XK) (hr:Room 1 (A.deeper (envOfC "_law_is_map" (zB (top 38)) s.heap.objs.size f cdv))) :
  PSsv (cxOf CX0 P w K mg base ["_law_found","_law_k","_law_low","_law_behind","_law_value","_law_ahead"] "_law_is_map" (zB (top 38)) f cdv A outer s H E).nox (zL (top 38)) K72.L_is_map.g:=by
 have nd:(["_law_found","_law_k","_law_low","_law_behind","_law_value","_law_ahead"]:List Str).Nodup:=sc__law_is_map.nd
 have nI0:(["_law_one"]:List Str).Nodup:=by decide +kernel
 exact (zD (qL (xW (PVn.t (PV.n (pv_isi T.b_isinstance T.b_list (by decide +kernel) (zA 0))))) (zH (qF (PV.w wX))) zP)
  (zD (jY PassesOwn.never rfl (xR T.b_range (xH T.b_len (qI (zA 0) jA))) (zM (i:=1) nd) (zD (qL (PWv.t (wA (xW (PVn.t (PV.n (pv_isi T.b_isinstance T.b_tuple (by decide +kernel) (PV.w (qE (zA 0) (zA 1))))))) (wA (pt_ne hr (PV.n (xH T.b_len (qI (PV.w (qE (zA 0) (zA 1))) jA))) (PV.n zC)) (xZ (xW (PVn.t (PV.n (pv_all rfl T.b_all (qI (PV.w (PVf.s (jQ (NY:=["_law_one"]) (mp:=[none]) (qQ (by kernel_rfl)) rfl (qV (qE (zA 0) (zA 1))) (fun c=>(zM (i:=0) nI0)) (fun c=>yI) (fun c=>(qB C__law_whole hr (zK (PVw.n (zA 0)) zR)))))) jA))))))))) (zH (qF (PV.w wX))) zP)
  (zD (psv_asg (qE (zA 0) (zA 1)) (xX (n:=3) rfl (qD (zM (i:=2) nd) (qD (zM (i:=3) nd) (qD (zM (i:=4) nd) xG)))))
  (zD (zQ (i:=5) nd (qE (zA 0) (PV.w (pv_max2 rfl T.b_max (qI (PV.w (yH (zA 1) (PV.w zC))) (qI (PV.w zC) jA))))))
  (zH (qL (PWv.t (wA (pt_ge (zA 2) (zA 3)) (xZ (PWv.t (yQ (pt_gt (zA 1) (PV.w zC)) (yF (PWv.t (wA (pt_gt (PV.w (qE (zA 5) (PV.w zC))) (zA 2)) (xZ (yW hr (PV.n (pv_sltw (zA 5) (pov_so (PV.w zC)) pov_no)) (PV.n (jJ (zF (zV 2) (zF (zV 4) zN)))))))))))))) (zH (qF (PV.w wX))) zP))))))
  (zH (qF (PV.w wX)))))
theorem fok__law_is_map {f:Addr} {fd:FuncData} (Fn:Fun K "_law_is_map" "_law_is_map" (top 38) f fd) (T:Glb K mg) (C__law_whole:Cal P w K mg base "_law_whole" 1 1 GL.whole.f):FnOk P w K mg base CX0 2 f fd ["_law_found"] (spF K 1 K72.L_is_map.f) :=
 qY (k:=1) (F:=K72.L_is_map.f) (g:=K72.L_is_map.g) Fn sc__law_is_map (fun cdv A outer s H E hr=>body__law_is_map T C__law_whole cdv A outer s H E hr) (fun ds r hl e=>zY e)
theorem sc__law_places:FnScope ["_law_rules","_law_pieces","_law_ends_here","_law_rule_here"] ["_law_rules","_law_pieces"] (zB (top 39)):=⟨rfl,rfl,rfl,by decide +kernel,rfl,by decide +kernel,by decide +kernel⟩
theorem body__law_places {f:Addr} (T:Glb K mg) (C__law_ends:Cal P w K mg base "_law_ends" 1 1 K72.L_ends.f) (cdv:Value) (A:Around) (outer:List Env) (s:Shared) (H:Hp) (E:XK) (hr:Room 1 (A.deeper (envOfC "_law_places" (zB (top 39)) s.heap.objs.size f cdv))) :
  PSsv (cxOf CX0 P w K mg base ["_law_rules","_law_pieces","_law_ends_here","_law_rule_here"] "_law_places" (zB (top 39)) f cdv A outer s H E).nox (zL (top 39)) K72.L_places.g:=by
 have nd:(["_law_rules","_law_pieces","_law_ends_here","_law_rule_here"]:List Str).Nodup:=sc__law_places.nd
 have nI0:(["_law_piece"]:List Str).Nodup:=by decide +kernel
 have nI1:(["_law_piece"]:List Str).Nodup:=by decide +kernel
 have nI2:(["_law_end"]:List Str).Nodup:=by decide +kernel
 exact (zD (zQ (i:=2) nd (PVf.s (yZ (PV.w (PVf.s (jQ (NY:=["_law_piece"]) (mp:=[none]) (qQ (by kernel_rfl)) rfl (qV (zV 1)) (fun c=>(zM (i:=0) nI0)) (fun c=>yI) (fun c=>(qE (zA 0) (PV.w zC)))))) (PV.w (PVf.s (jQ (NY:=["_law_piece"]) (mp:=[none]) (qQ (by kernel_rfl)) rfl (qV (zV 1)) (fun c=>(zM (i:=0) nI1)) (fun c=>yI) (fun c=>(qE (zA 0) (PV.w zC)))))))))
  (zD (jY PassesOwn.never rfl (qV (zV 0)) (zM (i:=3) nd) (zH (zQ (i:=2) nd (PVf.s (yZ (zA 2) (PV.w (qB C__law_ends hr (zK (PVw.n (zA 3)) zR))))))))
  (zH (yS (pvf_sortedSet rfl T.b_sorted T.b_set (PV.w (PVf.s (yZ (PV.w (PVf.s (yZ (PV.w (PVf.s (qM (zF zC zN)))) (zA 2)))) (PV.w (PVf.s (jQ (NY:=["_law_end"]) (mp:=[none]) (qQ (by kernel_rfl)) rfl (qV (zV 2)) (fun c=>(zM (i:=0) nI2)) (fun c=>yI) (fun c=>(yH (zA 0) (PV.w zC))))))))))))))
theorem fok__law_places {f:Addr} {fd:FuncData} (Fn:Fun K "_law_places" "_law_places" (top 39) f fd) (T:Glb K mg) (C__law_ends:Cal P w K mg base "_law_ends" 1 1 K72.L_ends.f):FnOk P w K mg base CX0 2 f fd ["_law_rules","_law_pieces"] (spF K 2 K72.L_places.f) :=
 qY (k:=1) (F:=K72.L_places.f) (g:=K72.L_places.g) Fn sc__law_places (fun cdv A outer s H E hr=>body__law_places T C__law_ends cdv A outer s H E hr) (fun ds r hl e=>zY e)
theorem sc__law_values:FnScope ["_law_pieces","_law_places_here","_law_found","_law_k","_law_place"] ["_law_pieces","_law_places_here"] (zB (top 40)):=⟨rfl,rfl,rfl,by decide +kernel,rfl,by decide +kernel,by decide +kernel⟩
theorem body__law_values {f:Addr} (T:Glb K mg)  (cdv:Value) (A:Around) (outer:List Env) (s:Shared) (H:Hp) (E:XK) (hr:Room 0 (A.deeper (envOfC "_law_values" (zB (top 40)) s.heap.objs.size f cdv))) :
  PSsv (cxOf CX0 P w K mg base ["_law_pieces","_law_places_here","_law_found","_law_k","_law_place"] "_law_values" (zB (top 40)) f cdv A outer s H E).nox (zL (top 40)) K72.L_values.g:=by
 have nd:(["_law_pieces","_law_places_here","_law_found","_law_k","_law_place"]:List Str).Nodup:=sc__law_values.nd
 exact (zD (qX (i:=2) nd (qM zN))
  (zD (zQ (i:=3) nd zC)
  (zD (jY PassesOwn.never rfl (qV (zV 1)) (zM (i:=4) nd) (zD (psv_while 100000 PassesOwn.never (PWv.t (yQ (pt_lt (zA 3) (PV.w (xH T.b_len (qI (zA 0) jA)))) (yF (pt_le (PV.w (qE (PV.w (qE (zA 0) (zA 3))) (PV.w zC))) (zA 4))))) (zH (zQ (i:=3) nd (qJ (zA 3) (PV.w zC)))))
  (zH (qL (PWv.t (yQ (pt_lt (zA 3) (PV.w (xH T.b_len (qI (zA 0) jA)))) (yF (pt_le (PV.w (qE (PV.w (qE (zA 0) (zA 3))) (PV.w zC))) (zA 4))))) (zH (yX (i:=2) (qE (PV.w (qE (zA 0) (zA 3))) (PV.w zC)))) (zH (yX (i:=2) jW))))))
  (zH (yP 2)))))
theorem fok__law_values {f:Addr} {fd:FuncData} (Fn:Fun K "_law_values" "_law_values" (top 40) f fd) (T:Glb K mg)  : FnOk P w K mg base CX0 1 f fd ["_law_pieces","_law_places_here"] (spF K 2 K72.L_values.f) :=
 qY (k:=0) (F:=K72.L_values.f) (g:=K72.L_values.g) Fn sc__law_values (fun cdv A outer s H E hr=>body__law_values T  cdv A outer s H E hr) (fun ds r hl e=>zY e)
theorem sc__law_last:FnScope ["_law_rules","_law_place","_law_low","_law_behind","_law_step","_law_times","_law_value","_law_turn","_law_rest"] ["_law_rules","_law_place"] (zB (top 41)):=⟨rfl,rfl,rfl,by decide +kernel,rfl,by decide +kernel,by decide +kernel⟩
theorem body__law_last {f:Addr} (T:Glb K mg)  (cdv:Value) (A:Around) (outer:List Env) (s:Shared) (H:Hp) (E:XK) (hr:Room 0 (A.deeper (envOfC "_law_last" (zB (top 41)) s.heap.objs.size f cdv))) :
  PSsv (cxOf CX0 P w K mg base ["_law_rules","_law_place","_law_low","_law_behind","_law_step","_law_times","_law_value","_law_turn","_law_rest"] "_law_last" (zB (top 41)) f cdv A outer s H E).nox (zL (top 41)) K72.L_last.g:=by
 have nd:(["_law_rules","_law_place","_law_low","_law_behind","_law_step","_law_times","_law_value","_law_turn","_law_rest"]:List Str).Nodup:=sc__law_last.nd
 exact (zD (jY PassesOwn.never rfl (piv_rev trivial T.b_reversed (zV 0)) (xX (n:=5) rfl (qD (zM (i:=2) nd) (qD (zM (i:=3) nd) (qD (zM (i:=4) nd) (qD (zM (i:=5) nd) (qD (zM (i:=6) nd) xG)))))) (zD (zQ (i:=7) nd zC)
  (zD (zQ (i:=8) nd (yH (zA 1) (zA 2)))
  (zD (qL (pt_gt (zA 5) (PV.w zC)) (zH (psv_asg (pv_divmod T.b_divmod (qI (PV.w (yH (zA 1) (zA 2))) (qI (zA 4) jA))) (xX (n:=2) rfl (qD (zM (i:=7) nd) (qD (zM (i:=8) nd) xG))))) zP)
  (zH (qL (PWv.t (yQ (ptv_chain op_le yG op_lt yG (PV.w zC) (zA 7) (zA 5)) (yF (ptv_chain op_le yG op_lt yG (PV.w zC) (zA 8) (PV.w (yH (zA 3) (zA 2))))))) (zH (qF (zA 6))) zP))))))
  (zH (qF (PV.w jW))))
theorem fok__law_last {f:Addr} {fd:FuncData} (Fn:Fun K "_law_last" "_law_last" (top 41) f fd) (T:Glb K mg)  : FnOk P w K mg base CX0 1 f fd ["_law_rules","_law_place"] (spF K 2 K72.L_last.f) :=
 qY (k:=0) (F:=K72.L_last.f) (g:=K72.L_last.g) Fn sc__law_last (fun cdv A outer s H E hr=>body__law_last T  cdv A outer s H E hr) (fun ds r hl e=>zY e)
theorem sc__law_refused:FnScope ["_law_rules","_law_way","e","_law_other"] ["_law_rules","_law_way"] (zB (top 42)):=⟨rfl,rfl,rfl,by decide +kernel,rfl,by decide +kernel,by decide +kernel⟩
theorem body__law_refused {f:Addr} (T:Glb K mg) (C_laid:Cal P w K mg base "laid" 7 1 GP.laid.f) {XS0:Addr} {XC9:Addr} (XT_9:XT K mg 9 "SpanError" XC9 XS0) (CX_laid_9:CalX P w K mg base "laid" 7 1 K72.X_laid_9.f XC9) {XC10:Addr} (XT_10:XT K mg 10 "SpanError" XC10 XS0) (CX_laid_10:CalX P w K mg base "laid" 7 1 K72.X_laid_10.f XC10) (cdv:Value) (A:Around) (outer:List Env) (s:Shared) (H:Hp) (E:XK) (hr:Room 7 (A.deeper (envOfC "_law_refused" (zB (top 42)) s.heap.objs.size f cdv))) :
  PSsv (cxOf CX0 P w K mg base ["_law_rules","_law_way","e","_law_other"] "_law_refused" (zB (top 42)) f cdv A outer s H E).nox (zL (top 42)) K72.L_refused.g:=by
 have nd:(["_law_rules","_law_way","e","_law_other"]:List Str).Nodup:=sc__law_refused.nd
 obtain ⟨D0_3,D0_1,D0_4,D0_8,D0_2,D0_7,D0_6,D0_12,D0_5,D0_11,m0_3,m0_1,m0_4,m0_8,m0_2,m0_7,m0_6,m0_12,m0_5,m0_11,it0⟩:=T.isxT_0
 exact (zD (psv_try2 (i:=2) (t:=9) (u:=10) nd XT_9.gl XT_9.cat XT_10.cat XT_9.nm XT_10.nm (fun W=>(psv_drop (qB C_laid hr (zK (PVw.n (zA 0)) zR))))
  (fun W=>thr_expr CX_laid_9 hr (zK (PVw.n (zA 0)) zR))
  (fun W=>thr_expr CX_laid_10 hr (zK (PVw.n (zA 0)) zR))
  (fun ea xe=>(zD (zQ (i:=3) nd (pv_isxT (i:=2) T.b_isinstance (jP m0_3 (jP m0_1 (jP m0_4 (jP m0_8 (jP m0_2 (jP m0_7 (jP m0_6 (jP m0_12 (jP m0_5 (jP m0_11 pac_nil)))))))))) it0))
  (zH (qF (PV.w (vA (pv_not (zV 3)) (vA (pv_isxB (i:=2) T.b_isinstance T.b_ValueError T.isxB_ValueError_9_10) (kD (pv_eqH hr (PV.n (PVf.s (qM (zF (pv_isx (i:=2) T.b_isinstance T.isx_NoRule_9_10) (zF (pv_isx (i:=2) T.b_isinstance T.isx_TooMuch_9_10) zN))))) (PVw.n (zA 1))))))))))))
  (zH (qF (PV.w wX))))
theorem fok__law_refused {f:Addr} {fd:FuncData} (Fn:Fun K "_law_refused" "_law_refused" (top 42) f fd) (T:Glb K mg) (C_laid:Cal P w K mg base "laid" 7 1 GP.laid.f) {XS0:Addr} {XC9:Addr} (XT_9:XT K mg 9 "SpanError" XC9 XS0) (CX_laid_9:CalX P w K mg base "laid" 7 1 K72.X_laid_9.f XC9) {XC10:Addr} (XT_10:XT K mg 10 "SpanError" XC10 XS0) (CX_laid_10:CalX P w K mg base "laid" 7 1 K72.X_laid_10.f XC10):FnOk P w K mg base CX0 8 f fd ["_law_rules","_law_way"] (spF K 2 K72.L_refused.f) :=
 qY (k:=7) (F:=K72.L_refused.f) (g:=K72.L_refused.g) Fn sc__law_refused (fun cdv A outer s H E hr=>body__law_refused T C_laid XT_9 CX_laid_9 XT_10 CX_laid_10 cdv A outer s H E hr) (fun ds r hl e=>zY e)
theorem sc_law:FnScope ["_law_script","_law_rules","_law_ends_here","_law_cell","_law_rule_here","_law_way","_law_at","_law_handed","_law_told","_law_places_here"] ["_law_script"] (zB (top 43)):=⟨rfl,rfl,rfl,by decide +kernel,rfl,by decide +kernel,by decide +kernel⟩
theorem body_law {f:Addr} (T:Glb K mg) (C__law_cell_at:Cal P w K mg base "_law_cell_at" 1 2 GL.cell_at.f) (C_laid:Cal P w K mg base "laid" 7 1 GP.laid.f) (C__law_places:Cal P w K mg base "_law_places" 2 2 K72.L_places.f) (C__law_rule:Cal P w K mg base "_law_rule" 1 3 K72.L_rule.f) (C__law_values:Cal P w K mg base "_law_values" 1 2 K72.L_values.f) (C__law_great:Cal P w K mg base "_law_great" 1 1 K72.L_great.f) (C__law_refused:Cal P w K mg base "_law_refused" 8 2 K72.L_refused.f) (C__law_is_map:Cal P w K mg base "_law_is_map" 2 1 K72.L_is_map.f) (C__law_last:Cal P w K mg base "_law_last" 1 2 K72.L_last.f) (C__law_ends:Cal P w K mg base "_law_ends" 1 1 K72.L_ends.f) (cdv:Value) (A:Around) (outer:List Env) (s:Shared) (H:Hp) (E:XK) (hr:Room 8 (A.deeper (envOfC "law" (zB (top 43)) s.heap.objs.size f cdv))) :
  PSsv (cxOf CX0 P w K mg base ["_law_script","_law_rules","_law_ends_here","_law_cell","_law_rule_here","_law_way","_law_at","_law_handed","_law_told","_law_places_here"] "law" (zB (top 43)) f cdv A outer s H E).nox (zL (top 43)) K72.law.g:=by
 have nd:(["_law_script","_law_rules","_law_ends_here","_law_cell","_law_rule_here","_law_way","_law_at","_law_handed","_law_told","_law_places_here"]:List Str).Nodup:=sc_law.nd
 have nI0:(["_law_one"]:List Str).Nodup:=by decide +kernel
 have nI1:(["_law_rule_here"]:List Str).Nodup:=by decide +kernel
 have nI2:(["_law_rule_here"]:List Str).Nodup:=by decide +kernel
 have nI3:(["_law_place","_law_rules"]:List Str).Nodup:=by decide +kernel
 exact (zD (qX (i:=1) nd (qM zN))
  (zD (zQ (i:=2) nd (PVf.s (qM zN)))
  (zD (jY PassesOwn.never rfl (qV (PVf.s (pvf_slice (zA 0) (pov_so (PV.w zC)) pov_no))) (zM (i:=3) nd) (zD (zQ (i:=4) nd (qB C__law_rule hr (zK (PVw.n (zA 3)) (zK (PV.n (xH T.b_len (qI (zA 1) jA))) (zK (PVw.n (zA 2)) zR)))))
  (zH (qL (ptv_rel 1 (pt_le (PV.w (qJ (PV.w (pv_sum rfl T.b_sum (qI (PV.w (PVf.s (jQ (NY:=["_law_one"]) (mp:=[none]) (qQ (by kernel_rfl)) rfl (qV (zV 1)) (fun c=>(zM (i:=0) nI0)) (fun c=>yI) (fun c=>(qE (zA 0) (PV.w zC)))))) jA))) (PV.w (qE (zA 4) (PV.w zC))))) (PV.w zC))) (zD (yX (i:=1) (zV 4))
  (zH (zQ (i:=2) nd (PVf.s (yZ (zA 2) (PV.w (qB C__law_ends hr (zK (PVw.n (zA 4)) zR)))))))) zP))))
  (zD (zQ (i:=5) nd (qB C__law_cell_at hr (zK (PVw.n (zA 0)) (zK (PV.n zC) zR))))
  (zD (qL (PWv.t (yQ (yW hr (PV.n (zW (zA 5) (PV.w zC))) (PV.n zC)) (yF (yW hr (PV.n (zW (PV.w (jI (zA 5) (PV.w zC))) (PV.w zC))) (PV.n zC))))) (zH (qX (i:=1) nd (qM zN))) zP)
  (zD (qL (yW hr (PV.n (zW (zA 5) (PV.w zC))) (PV.n zC)) (zH (qX (i:=1) nd (yZ (zA 1) (PV.w (qB C__law_great hr (zK (PV.n (jI (zA 5) (PV.w zC))) zR)))))) zP)
  (zD (qL (PWv.t (wA (yW hr (PV.n (zW (zA 5) (PV.w zC))) (PV.n zC)) (xZ (PWv.t (yQ (yW hr (PV.n (zW (zA 5) (PV.w zC))) (PV.n zC)) (yF (yW hr (PV.n (zW (PV.w (jI (zA 5) (PV.w zC))) (PV.w zC))) (PV.n zC)))))))) (zD (zQ (i:=6) nd (zW (PV.w (qB C__law_cell_at hr (zK (PVw.n (zA 0)) (zK (PV.n zC) zR)))) (PV.w (qJ (PV.w (xH T.b_len (qI (zA 1) jA))) (PV.w zC)))))
  (zH (psv_ins (i:=1) (zV 6) (jJ (zF zC (zF zC (zF zC (zF zC (zF zC zN))))))))) zP)
  (zD (zQ (i:=7) nd (PVf.s (pvf_list T.b_list (zA 1))))
  (zD (psv_rel 1 (qL (pt_ne hr (PV.n (PVf.s (jQ (NY:=["_law_rule_here"]) (mp:=[none]) (qQ (by kernel_rfl)) rfl (qV (zV 1)) (fun c=>(zM (i:=0) nI1)) (fun c=>(pfv_one (yW hr (PV.n (qE (zA 0) (PV.w zC))) (PV.n zC)))) (fun c=>(zV 0))))) (PV.n (PVf.s (qM zN)))) (zH (qF (PV.w (vA (qB C__law_refused hr (zK (PVw.n (zA 7)) (zK (PV.n (PVf.s (qM (zF wX (zF wX zN))))) zR))) (kD (pv_eq hr (PVw.n (zA 7)) (PVw.n (zA 1)))))))) zP))
  (zD (psv_rel 1 (qL (pt_gt (PV.w (pv_sum rfl T.b_sum (qI (PV.w (PVf.s (jQ (NY:=["_law_rule_here"]) (mp:=[none]) (qQ (by kernel_rfl)) rfl (qV (zV 1)) (fun c=>(zM (i:=0) nI2)) (fun c=>yI) (fun c=>(qE (zA 0) (PV.w zC)))))) jA))) (PV.w zC)) (zH (qF (PV.w (vA (qB C__law_refused hr (zK (PVw.n (zA 7)) (zK (PV.n (PVf.s (qM (zF wX (zF wX zN))))) zR))) (kD (pv_eq hr (PVw.n (zA 7)) (PVw.n (zA 1)))))))) zP))
  (zD (zQ (i:=8) nd (qB C_laid hr (zK (PVw.n (zA 7)) zR)))
  (zD (qL (PWv.t (wA (xW (PVn.t (PV.n (qB C__law_is_map hr (zK (PVw.n (zA 8)) zR))))) (xZ (pt_ne hr (PVw.n (zA 7)) (PVw.n (zA 1)))))) (zH (qF (PV.w wX))) zP)
  (zD (zQ (i:=9) nd (qB C__law_places hr (zK (PVw.n (zA 1)) (zK (PVw.n (zA 8)) zR))))
  (zH (psv_rel 1 (qF (PV.w (pv_eq hr (PV.n (qB C__law_values hr (zK (PVw.n (zA 8)) (zK (PVw.n (zA 9)) zR)))) (PV.n (PVf.s (jQ (NY:=["_law_place","_law_rules"]) (mp:=[none,some 1]) (qQ (by kernel_rfl)) rfl (qV (zV 9)) (fun c=>(zM (i:=0) nI3)) (fun c=>yI) (fun c=>(qB C__law_last hr (zK (PVw.n (zA 1)) (zK (PVw.n (zA 0)) zR)))))))))))))))))))))))))
theorem fok_law {f:Addr} {fd:FuncData} (Fn:Fun K "law" "law" (top 43) f fd) (T:Glb K mg) (C__law_cell_at:Cal P w K mg base "_law_cell_at" 1 2 GL.cell_at.f) (C_laid:Cal P w K mg base "laid" 7 1 GP.laid.f) (C__law_places:Cal P w K mg base "_law_places" 2 2 K72.L_places.f) (C__law_rule:Cal P w K mg base "_law_rule" 1 3 K72.L_rule.f) (C__law_values:Cal P w K mg base "_law_values" 1 2 K72.L_values.f) (C__law_great:Cal P w K mg base "_law_great" 1 1 K72.L_great.f) (C__law_refused:Cal P w K mg base "_law_refused" 8 2 K72.L_refused.f) (C__law_is_map:Cal P w K mg base "_law_is_map" 2 1 K72.L_is_map.f) (C__law_last:Cal P w K mg base "_law_last" 1 2 K72.L_last.f) (C__law_ends:Cal P w K mg base "_law_ends" 1 1 K72.L_ends.f):FnOk P w K mg base CX0 9 f fd ["_law_script"] (spF K 1 K72.law.f) :=
 qY (k:=8) (F:=K72.law.f) (g:=K72.law.g) Fn sc_law (fun cdv A outer s H E hr=>body_law T C__law_cell_at C_laid C__law_places C__law_rule C__law_values C__law_great C__law_refused C__law_is_map C__law_last C__law_ends cdv A outer s H E hr) (fun ds r hl e=>zY e)
end
end K72
namespace K72
open PySem PyProof.Rows L2 FL
open Builtin.Int (intBits)
theorem str9 (r:Rl):K72.X_stretches_9.f [rlD r] = !okL r:=by
 have pr:=okL_rule r
 unfold K72.X_stretches_9.f runX K72.X_stretches_9.x ifX
 cases h:okL r with
 | true=>rw [h] at pr; simp [args,pr,neverX]
 | false=>rw [h] at pr; simp [args,pr,alwaysX]
theorem rows9 (r:Rl):K72.X_rule_rows_9.f [rlD r] = !okL r:=by
 have e:=str9 r
 unfold K72.X_rule_rows_9.f runX K72.X_rule_rows_9.x callX
 simp [args,e]
theorem loop9 (R:Sl):∀ (rs:List Rl) (acc:List Rv) (x:Sl),acc.length+100 * rs.length < 16777216->loopX (zO 2) GP.laid.b1 (extX 1 (callX 1 K72.X_rule_rows_9.f (zG (zI 2) zZ))) (rs.map rlD) [R,.own (acc.map rvD),x]=rs.any (fun r=>!okL r)
 | [],acc,x,_=>rfl
 | r :: rs, acc, x, hz => by
   simp only [List.length_cons] at hz
   have e9:=rows9 r
   have ex:extX 1 (callX 1 K72.X_rule_rows_9.f (zG (zI 2) zZ)) [R,.own (acc.map rvD),.v (rlD r)] = !okL r:=by
    simp [extX,callX,e9]
   simp only [List.map_cons,loopX,zO,List.set_cons_succ,List.set_cons_zero,ex]
   cases h:okL r with
   | false=>simp [h]
   | true =>
     have t1:=laid_turn R acc h (by omega)
     have hl:=(yK h).1
     have ih:=loop9 R rs (acc++rowsR r) (.v (rlD r)) (by simp only [List.length_append]; omega)
     rw [List.map_append] at ih t1
     simp [t1,ih,h]
theorem laid9 (rs:List Rl) (hz:rs.length<=10000):K72.X_laid_9.f [.lst (rs.map rlD)]=rs.any (fun r=>!okL r):=by
 have e:=loop9 (.v (.lst (rs.map rlD))) rs [] .no (by simp; omega)
 simp only [List.map_nil] at e
 unfold K72.X_laid_9.f runX K72.X_laid_9.x seqX
 have ar:args 3 [.lst (rs.map rlD)]=[.v (.lst (rs.map rlD)),.no,.no]:=by simp [args]
 rw [ar]
 generalize rs.map rlD=P at *
 have s1:setOG 1 (qH zZ) [.v (.lst P),.no,.no]=some (.nx [.v (.lst P),.own [],.no]):=by simp
 rw [s1]
 simp only [forX]
 simpa using e
theorem rows10 (rows:List Rv):K72.X_laid_rows_10.f [.lst (rows.map rvD)]=decide (300 < rows.length):=by
 unfold K72.X_laid_rows_10.f runX K72.X_laid_rows_10.x ifX
 by_cases h:300 < rows.length
 · have h' : (300 : Int) < ((rows.map rvD).length : Int) := by simp; omega
   generalize rows.map rvD=Q at *
   simp [args,h',h,alwaysX]
 · have h' : ¬ (300 : Int) < ((rows.map rvD).length : Int) := by simp; omega
   generalize rows.map rvD=Q at *
   simp [args,h',h,neverX]
theorem laid10 {rs:List Rl} (h:∀ r∈rs,okL r=true) (hz:rs.length<=10000):K72.X_laid_10.f [.lst (rs.map rlD)]=decide (300 < (rowsL rs).length):=by
 obtain ⟨x',e⟩:=wT (.v (.lst (rs.map rlD))) rs [] .no h (by simp; omega)
 have er:=rows10 (rowsL rs)
 simp only [List.nil_append,List.map_nil] at e
 unfold K72.X_laid_10.f runX K72.X_laid_10.x
 have ar:args 3 [.lst (rs.map rlD)]=[.v (.lst (rs.map rlD)),.no,.no]:=by simp [args]
 rw [ar]
 generalize (rowsL rs).map rvD=Q at *
 generalize rs.map rlD=P at *
 have s1:setOG 1 (qH zZ) [.v (.lst P),.no,.no]=some (.nx [.v (.lst P),.own [],.no]):=by simp
 have s2:forG (viaA (jN 0) asLT) (zO 2) GP.laid.b1 [.v (.lst P),.own [],.no]=some (.nx [.v (.lst P),.own Q,x']):=by rw [xA]; simpa using e
 simp only [seqX,s1,s2]
 simp [callX,er]
theorem eqB2 (a b:Bool):eqD (.lst [.bl a,.bl b]) (.lst [.bl a,.bl b])=some (.bl true):=by
 rw [vB (by simp) (by simp)]
 simp
theorem refused9 {rs:List Rl} (hz:rs.length<=10000) (h:rs.any (fun r=>!okL r)=true):K72.L_refused.f [.lst (rs.map rlD),.lst [.bl true,.bl false]]=some (.val (.bl true)):=by
 have e9:=laid9 rs hz
 rw [h] at e9
 have eq:=eqB2 true false
 refine jZ ?_
 have ar:args 4 [.lst (rs.map rlD),.lst [.bl true,.bl false]]=[.v (.lst (rs.map rlD)),.v (.lst [.bl true,.bl false]),.no,.no]:=by simp [args]
 rw [ar]
 generalize rs.map rlD=P at *
 unfold K72.L_refused.g
 have cx:callX 1 K72.X_laid_9.f (zG (zI 0) zZ) [.v (.lst P),.v (.lst [.bl true,.bl false]),.no,.no]=true:=by simp [callX,e9]
 refine seq_rt ?_
 unfold tryG2
 rw [if_pos cx]
 simp [isxG,List.lookup,goneO,eq]
theorem refused10 {rs:List Rl} (hz:rs.length<=10000) (h:∀ r∈rs,okL r=true) (hl:300 < (rowsL rs).length):K72.L_refused.f [.lst (rs.map rlD),.lst [.bl false,.bl true]]=some (.val (.bl true)):=by
 have e9:=laid9 rs hz
 have n9:rs.any (fun r=>!okL r)=false:=by
  rw [List.any_eq_false]
  intro r hr
  simp [h r hr]
 rw [n9] at e9
 have e10:=laid10 h hz
 rw [decide_eq_true hl] at e10
 have eq:=eqB2 false true
 refine jZ ?_
 have ar:args 4 [.lst (rs.map rlD),.lst [.bl false,.bl true]]=[.v (.lst (rs.map rlD)),.v (.lst [.bl false,.bl true]),.no,.no]:=by simp [args]
 rw [ar]
 generalize rs.map rlD=P at *
 unfold K72.L_refused.g
 have cx : ¬ callX 1 K72.X_laid_9.f (zG (zI 0) zZ) [.v (.lst P),.v (.lst [.bl false,.bl true]),.no,.no]=true:=by simp [callX,e9]
 have cy:callX 1 K72.X_laid_10.f (zG (zI 0) zZ) [.v (.lst P),.v (.lst [.bl false,.bl true]),.no,.no]=true:=by simp [callX,e10]
 refine seq_rt ?_
 unfold tryG2
 rw [if_neg cx,if_pos cy]
 simp [isxG,List.lookup,goneO,eq]
def Good (g:FS) (ds:List Sl) (P:Ret->Prop):Prop:=∃ r,g ds=some (.rt r)/\P r
theorem jL {f g:FS} {ds:List Sl} {P:Ret->Prop} (Q:List Sl->Prop) (h1:∃ ds',f ds=some (.nx ds')/\Q ds') (h2:∀ ds',Q ds'->Good g ds' P):Good (qO f g) ds P:=by
 obtain ⟨ds',e,q⟩:=h1
 obtain ⟨r,e2,p⟩:=h2 ds' q
 exact ⟨r,by rw [qT e,e2],p⟩
theorem jO {f g:FS} {ds ds':List Sl} {P:Ret->Prop} (h1:f ds=some (.nx ds')) (h2:Good g ds' P):Good (qO f g) ds P:=jL (· = ds') ⟨_,h1,rfl⟩ fun _ e=>by rw [e]; exact h2
theorem good_rt {f g:FS} {ds:List Sl} {P:Ret->Prop} (h:Good f ds P):Good (qO f g) ds P:=by
 obtain ⟨r,e,p⟩:=h
 exact ⟨r,seq_rt e,p⟩
def okP (r:Rl):Prop:=okL r=true/\0<=r.2.2.1/\r.2.2.1 < 10 ^ 50
theorem pick2 (x y:D) {i:Int} (h:i=0 \/ i=1):ixD (.lst [x,y]) (.int i)=some (if i=0 then x else y):=by
 rcases h with rfl | rfl
 · simp
 · simp
theorem rule_ex (c:Int) (k:Nat) (es:List Int) (hc:intBits c<=1048576) (hk:k<=1000) (he:es.length<=1000000):∃ r:Rl,okP r/\K72.L_rule.f [.int c,.int (k:Int),.lst (es.map D.int)]=some (.val (rlD r)):=by
 have small:∀ {a b:Int},a.natAbs < 2 ^ 60->yV (.int a) (.int b)=some (.int (a * b)):=fun h=>kA (.of_left (wL (Nat.lt_of_lt_of_le h (by decide))))
 have mc:∀ {b:Int},b.natAbs < 2 ^ 60->yV (.int c) (.int b)=some (.int (c * b)):=fun h=>kA (mulOk_of_bits hc (wL (m:=60) h) (by decide))
 have p60:powD (.int 10) (.int 60)=some (.int (10 ^ 60)):=pow10 (by decide) (by decide)
 have p40:powD (.int 10) (.int 40)=some (.int (10 ^ 40)):=pow10 (by decide) (by decide)
 have m2:yV (.int 2) (.int (10 ^ 60))=some (.int (2 * 10 ^ 60)):=small (by decide)
 have q60:(0:Int) < 2 * 10 ^ 60+1:=by decide
 have q40:(0:Int) < 10 ^ 40:=by decide
 have hkk:((k:Int) * (k:Int)).natAbs < 2 ^ 30:=by
  rw [<- Int.natCast_mul,Int.natAbs_natCast]
  exact Nat.lt_of_le_of_lt (Nat.mul_le_mul hk hk) (by decide)
 have k1:yV (.int (k:Int)) (.int (k:Int))=some (.int ((k:Int) * (k:Int))):=small (by have:(k:Int).natAbs=k:=Int.natAbs_natCast k; rw [this]; exact Nat.lt_of_le_of_lt hk (by decide))
 have k2:∀ z:Int,yV (.int ((k:Int) * (k:Int))) (.int z)=some (.int ((k:Int) * (k:Int) * z)):=fun z=>small (Nat.lt_trans hkk (by decide))
 have k2a:=k2 69621
 have k2b:=k2 16807
 have c1:yV (.int c) (.int 48271)=some (.int (c * 48271)):=mc (by decide)
 have c2:yV (.int c) (.int 39373)=some (.int (c * 39373)):=mc (by decide)
 have c3:yV (.int c) (.int 69621)=some (.int (c * 69621)):=mc (by decide)
 have c4:yV (.int c) (.int 16807)=some (.int (c * 16807)):=mc (by decide)
 generalize hE:es.map D.int=E at *
 have hEl:E.length=es.length:=by rw [<- hE]; simp
 suffices G:Good K72.L_rule.g (args 10 [.int c,.int (k:Int),.lst E]) (fun r=>∃ q,okP q/\r = .val (rlD q)) by
  obtain ⟨r,e,q,hq,rfl⟩:=G
  exact ⟨q,hq,jZ e⟩
 have ar:args 10 [.int c,.int (k:Int),.lst E]=[.v (.int c),.v (.int (k:Int)),.v (.lst E),.no,.no,.no,.no,.no,.no,.no]:=by simp [args]
 rw [ar]
 unfold K72.L_rule.g
 generalize hkq:(k:Int) * (k:Int)=kk at *
 generalize hkn:(k:Int)=kn at *
 refine jL (fun ds=>∃ x:Int,0<=x/\x < 2147483647/\ds=[.v (.int c),.v (.int kn),.v (.lst E),.v (.int x),.no,.no,.no,.no,.no,.no]) ⟨_,by simp [c1,k1,k2a]; rfl,_,Int.emod_nonneg _ (by decide),Int.emod_lt_of_pos _ (by decide),rfl⟩ ?_
 rintro _ ⟨x,x0,x1,rfl⟩
 have mx:yV (.int x) (.int x)=some (.int (x * x)):=small (by omega)
 refine jL (fun ds=>∃ m:Int,0<=m/\m < 2147483563/\ds=[.v (.int c),.v (.int kn),.v (.lst E),.v (.int m),.no,.no,.no,.no,.no,.no]) ⟨_,by simp [mx]; rfl,_,Int.emod_nonneg _ (by decide),Int.emod_lt_of_pos _ (by decide),rfl⟩ ?_
 rintro _ ⟨m,m0,m1,rfl⟩
 refine jL (fun ds=>∃ x:Int,0<=x/\x < 2147483629/\ds=[.v (.int c),.v (.int kn),.v (.lst E),.v (.int m),.v (.int x),.no,.no,.no,.no,.no]) ⟨_,by simp [c2,k1,k2b]; rfl,_,Int.emod_nonneg _ (by decide),Int.emod_lt_of_pos _ (by decide),rfl⟩ ?_
 rintro _ ⟨y,y0,y1,rfl⟩
 have my:yV (.int y) (.int m)=some (.int (y * m)):=small (by omega)
 refine jL (fun ds=>∃ x:Int,0<=x/\x < 2147483549/\ds=[.v (.int c),.v (.int kn),.v (.lst E),.v (.int m),.v (.int x),.no,.no,.no,.no,.no]) ⟨_,by simp [my]; rfl,_,Int.emod_nonneg _ (by decide),Int.emod_lt_of_pos _ (by decide),rfl⟩ ?_
 rintro _ ⟨w,w0,w1,rfl⟩
 refine jO (ds':=[.v (.int c),.v (.int kn),.v (.lst E),.v (.int m),.v (.int w),.v (.int (m / 4 % 61 - 30)),.no,.no,.no,.no]) (by simp) ?_
 refine jL (fun ds=>∃ lo:Int,ds=[.v (.int c),.v (.int kn),.v (.lst E),.v (.int m),.v (.int w),.v (.int lo),.no,.no,.no,.no]) ?_ ?_
 · have ne:neD (.lst E) (.lst [])=some (.bl (!E.isEmpty)):=by
    rw [<- hE]
    exact neD_nil (by simpa using shals_ints 39 es)
   by_cases h:m % 4=0
   · by_cases h2 : es = []
     · subst h2
       simp only [List.map_nil] at hE
       subst hE
       exact ⟨_,by simp [h,ne]; rfl,_,rfl⟩
     · have hp : 0 < es.length := List.length_pos_iff.mpr h2
       have hne:E.isEmpty=false:=by
        rw [<- hE]
        cases es with
        | nil=>exact (h2 rfl).elim
        | cons a r=>rfl
       have md:=vO (m / 4) (show (0:Int) < (E.length:Int) by omega)
       obtain ⟨v,_,hv⟩:=ix_ints es (i:=m / 4 % (E.length:Int)) (Int.emod_nonneg _ (by omega)) (by rw [hEl]; exact Int.emod_lt_of_pos _ (by omega))
       rw [hE] at hv
       exact ⟨_,by simp [h,ne,hne,md,hv]; rfl,_,rfl⟩
   · exact ⟨_,by simp [h]; rfl,_,rfl⟩
 rintro _ ⟨lo0,rfl⟩
 refine jL (fun ds=>∃ lo:Int,ds=[.v (.int c),.v (.int kn),.v (.lst E),.v (.int m),.v (.int w),.v (.int lo),.no,.no,.no,.no]) ?_ ?_
 · by_cases h : m % 4 = 1
   · exact ⟨_,by simp [-Int.reducePow,-Nat.reducePow,h,p60,m2,q60]; rfl,_,rfl⟩
   · exact ⟨_,by simp [-Int.reducePow,-Nat.reducePow,h]; rfl,_,rfl⟩
 rintro _ ⟨lo,rfl⟩
 refine jL (fun ds=>∃ n:Int,1<=n/\n<=10 ^ 40+3/\ds=[.v (.int c),.v (.int kn),.v (.lst E),.v (.int m),.v (.int w),.v (.int lo),.v (.int n),.no,.no,.no]) ?_ ?_
 · have h1 := Int.emod_nonneg (c * 69621) (show (10 : Int) ^ 40 ≠ 0 by decide)
   have h2:=Int.emod_lt_of_pos (c * 69621) q40
   rcases (by omega:w % 5 / 4=0 \/ w % 5 / 4=1) with h | h
   · refine ⟨_, by simp [-Int.reducePow, -Nat.reducePow, h, p40, c3, q40]; rfl, _, ?_, ?_, rfl⟩
     · omega
     · have : (0 : Int) <= 10 ^ 40 := by decide
       omega
   · refine ⟨_, by simp [-Int.reducePow, -Nat.reducePow, h, p40, c3, q40]; rfl, _, ?_, ?_, rfl⟩
     · omega
     · omega
 rintro _ ⟨n,n0,n1,rfl⟩
 refine jL (fun ds=>∃ s:Int,n < s/\s < 10 ^ 50/\ds=[.v (.int c),.v (.int kn),.v (.lst E),.v (.int m),.v (.int w),.v (.int lo),.v (.int n),.v (.int s),.no,.no]) ?_ ?_
 · have h1 := Int.emod_nonneg (c * 16807) (show (10 : Int) ^ 40 ≠ 0 by decide)
   have h2:=Int.emod_lt_of_pos (c * 16807) q40
   have h3:(10:Int) ^ 40+10 ^ 40+20 < 10 ^ 50:=by decide
   have h4:(20:Int) < 10 ^ 40:=by decide
   rcases (by omega:w / 180 % 5 / 4=0 \/ w / 180 % 5 / 4=1) with h | h
   · refine ⟨_, by simp [-Int.reducePow, -Nat.reducePow, h, p40, c4, q40]; rfl, _, ?_, ?_, rfl⟩
     · omega
     · omega
   · refine ⟨_, by simp [-Int.reducePow, -Nat.reducePow, h, p40, c4, q40]; rfl, _, ?_, ?_, rfl⟩
     · omega
     · omega
 rintro _ ⟨s,s0,s1,rfl⟩
 refine jO (ds':=[.v (.int c),.v (.int kn),.v (.lst E),.v (.int m),.v (.int w),.v (.int lo),.v (.int n),.v (.int s),.v (.int (1+w / 900 % 5)),.no]) (by simp) ?_
 generalize ht:1+w / 900 % 5=t
 have t0:1<=t/\t<=5:=by omega
 refine jL (fun ds=>∃ s':Int,okP (lo,lo+n,s',t,0)/\ds=[.v (.int c),.v (.int kn),.v (.lst E),.v (.int m),.v (.int w),.v (.int lo),.v (.int n),.v (.int s'),.v (.int t),.no]) ?_ ?_
 · by_cases h : t = 1
   · refine ⟨_, by simp [h], 0, ⟨?_, by simp, by simp⟩, rfl⟩
     simp [okL,isR,h]
     omega
   · refine ⟨_, by simp [h], s, ⟨?_, by simp; omega, by simpa using s1⟩, rfl⟩
     simp [okL,isR,h]
     omega
 rintro _ ⟨s',os,rfl⟩
 refine jO (ds':=[.v (.int c),.v (.int kn),.v (.lst E),.v (.int m),.v (.int w),.v (.int lo),.v (.int n),.v (.int s'),.v (.int t),.v (.int (w / 4500 % 4))]) (by simp) ?_
 refine jL (fun ds=>∃ v:Int,ds=[.v (.int c),.v (.int kn),.v (.lst E),.v (.int m),.v (.int w),.v (.int lo),.v (.int n),.v (.int s'),.v (.int t),.v (.int v)]) ?_ ?_
 · by_cases h : w / 4500 % 4 = 3
   · exact ⟨_,by simp [-Int.reducePow,-Nat.reducePow,h,p60,m2,q60]; rfl,_,rfl⟩
   · exact ⟨_,by simp [-Int.reducePow,-Nat.reducePow,h]; rfl,_,rfl⟩
 rintro _ ⟨v,rfl⟩
 exact ⟨_,by simp; rfl,(lo,lo+n,s',t,v),os,rfl⟩
theorem endsK_ex {r:Rl} (h1:0<=r.2.2.2.1) (h2:r.2.2.2.1<=100):∃ es:List Int,es.length=2 * r.2.2.2.1.toNat/\K72.L_ends.f [rlD r]=some (.fresh (es.map D.int)):=by
 have i0:=rl0 r
 have i1:=rl1 r
 have i2:=rl2 r
 have i3:=rl3 r
 obtain ⟨a,b,s,t,v⟩:=r
 simp only at *
 generalize rlD (a,b,s,t,v)=R at *
 have turn:∀ (k:Nat) (es:List Int),k < 100->es.length<=1000->K72.L_ends.b1 [.v R,.own (es.map D.int),.v (.int (k:Int))]=some (.nx [.v R,.own ((es++[a+(k:Int) * s,b+(k:Int) * s]).map D.int),.v (.int (k:Int))]):=by
  intro k es hk he
  have ml:yV (.int (k:Int)) (.int s)=some (.int ((k:Int) * s)):=kA (.of_left (wL (Nat.lt_of_lt_of_le (show (k:Int).natAbs < 128 by omega) (by decide))))
  have z1:es.length < 16777216:=by omega
  have z2:es.length+1 < 16777216:=by omega
  unfold K72.L_ends.b1
  simp [i0,i1,i2,ml,z1,z2]
 obtain ⟨ds',e,es,x,hl,rfl⟩:=loop_invN (ga:=zO 2) (body:=K72.L_ends.b1) (fun n ds=>∃ (es:List Int) (x:Sl),es.length=2 * n/\ds=[.v R,.own (es.map D.int),x]) (rangeD 0 t.toNat) 0 [.v R,.own [],.no] ⟨[],.no,rfl,rfl⟩ (by
  rintro d hd m _ hm ⟨es,x,hl,rfl⟩
  obtain ⟨k,hk,rfl⟩:=mem_rangeD hd
  have hm':m < t.toNat:=by simpa [rangeD] using hm
  rw [Int.zero_add]
  exact ⟨_,_,rfl,.inl (turn k es (by omega) (by omega)),_,_,by simp; omega,rfl⟩)
 have hn:(0+(rangeD 0 t.toNat).length)=t.toNat:=by simp [rangeD]
 rw [hn] at hl
 have fl:=flats_ints es
 have ok:okR t:=wR (by omega) (by omega)
 refine ⟨es,hl,jZ ?_⟩
 unfold K72.L_ends.g
 rw [qT (ds':=[.v R,.own [],.no]) (by simp [args]),qT (ds':=[.v R,.own (es.map D.int),x]) (by rw [xA]; simpa [i3,ok] using e)]
 simp [fl]
theorem okG1 (l v:Int):okP (l,l+2,5,100,v):=⟨by simp [okL,isR]; omega,by simp,by simp⟩
theorem okG2 (l v:Int):okP (l+1,l+7,0,1,v):=⟨by simp [okL,isR],by simp,by simp⟩
theorem greatK_ex (c:Int):∃ gs:List Rl,gs.length<=4/\(∀ g∈gs,okP g)/\K72.L_great.f [.int c]=some (.fresh (gs.map rlD)):=by
 have p50:powD (.int 10) (.int 50)=some (.int (10 ^ 50)):=pow10 (by decide) (by decide)
 have q50:(0:Int) < 10 ^ 50:=by decide
 have md:=vO (c / 3) q50
 generalize hl:c / 3 % 10 ^ 50=l at *
 have three:∀ g∈[((l,l+2,5,100,c % 7):Rl),(l,l+2,5,100,9),(l,l+2,5,100,c / 7 % 5)],okP g:=by
  intro g hg
  simp only [List.mem_cons,List.not_mem_nil,or_false] at hg
  rcases hg with rfl | rfl | rfl <;> exact okG1 _ _
 by_cases h1:c % 3=1
 · refine ⟨[(l, l + 2, 5, 100, c % 7), (l, l + 2, 5, 100, 9), (l, l + 2, 5, 100, c / 7 % 5)] ++ [(l + 1, l + 7, 0, 1, 8)], by simp, fun g hg => ?_, jZ ?_⟩
   · rcases List.mem_append.mp hg with hg | hg
     · exact three g hg
     · rw [List.mem_singleton.mp hg]; exact okG2 _ _
   · unfold K72.L_great.g
     simp [-Int.reducePow,-Nat.reducePow,args,p50,md,h1,rlD,R5]
 · by_cases h2 : c % 3 = 2
   · refine ⟨[(l + 1, l + 7, 0, 1, 8)] ++ [(l, l + 2, 5, 100, c % 7), (l, l + 2, 5, 100, 9), (l, l + 2, 5, 100, c / 7 % 5)], by simp, fun g hg => ?_, jZ ?_⟩
     · rcases List.mem_append.mp hg with hg | hg
       · rw [List.mem_singleton.mp hg]; exact okG2 _ _
       · exact three g hg
     · unfold K72.L_great.g
       simp [-Int.reducePow,-Nat.reducePow,args,p50,md,h2,rlD,R5]
   · refine ⟨[(l, l + 2, 5, 100, c % 7), (l, l + 2, 5, 100, 9), (l, l + 2, 5, 100, c / 7 % 5)], by simp, three, jZ ?_⟩
     unfold K72.L_great.g
     simp [-Int.reducePow,-Nat.reducePow,args,p50,md,h1,h2,rlD,R5]
def Fin3 (ps:List Rw):Prop:=∀ r∈ps,∃ a b v,r=(some a,some b,some v)
theorem mapK_turn (ps:List Rw) (h:MapF ps) (hf:Fin3 ps) (k:Nat) (hk:k < ps.length) (b c d e:Sl):∃ b' c' d' e',K72.L_is_map.b1 [.v (.lst (ps.map rwD)),.v (.int (k:Int)),b,c,d,e]=some (.nx [.v (.lst (ps.map rwD)),.v (.int (k:Int)),b',c',d',e']):=by
 have hkm:k - 1 < ps.length:=by omega
 obtain ⟨lo,bh,v,hr⟩:=hf ps[k] (List.getElem_mem hk)
 obtain ⟨alo,abh,av,ha⟩:=hf ps[k - 1] (List.getElem_mem hkm)
 have i1:ixD (.lst (ps.map rwD)) (.int (k:Int))=some (.tup [.int lo,.int bh,.int v]):=by rw [ix_rw (List.getElem?_eq_getElem hk),hr]; rfl
 have i2:ixD (.lst (ps.map rwD)) (.int ((k - 1:Nat):Int))=some (.tup [.int alo,.int abh,.int av]):=by rw [ix_rw (List.getElem?_eq_getElem hkm),ha]; rfl
 have ok:lo < bh:=h.ord.ok _ (List.getElem_mem hk) lo bh (by rw [hr]) (by rw [hr])
 have hj:max ((k:Int) - 1) 0=((k - 1:Nat):Int):=by omega
 have rel:0 < k->abh<=lo/\¬ (abh=lo/\av=v):=by
  intro hp
  obtain ⟨x,y,g1,g2,g3⟩:=List.pairwise_iff_getElem.mp h.ord.pw (k - 1) k hkm hk (by omega)
  rw [ha] at g1
  rw [hr] at g2
  cases g1
  cases g2
  have adj:=h.adj (k - 1) ps[k - 1] ps[k] (List.getElem?_eq_getElem hkm) (by rw [show k - 1+1=k by omega]; exact List.getElem?_eq_getElem hk)
  rw [ha,hr] at adj
  exact ⟨g3,fun ⟨e1,e2⟩=>adj ⟨by rw [e1],by rw [e2]⟩⟩
 generalize ps.map rwD=P at *
 have cp:compG (viaA (zJ ixD (zI 0) (zI 1)) asLT) [none] (zO 0) (fun _=>some true) (jG 1 GL.whole.f (zG (zI 0) zZ)) [.v (.lst P),.v (.int (k:Int)),b,c,d,e]=some [.bl true,.bl true,.bl true]:=by
  refine jT (items:=[lo,bh,v].map D.int) (by simp [i1]) (by simp) ?_
  rw [jK D.int (fun _=>D.bl true) [lo,bh,v]]
  · rfl
  · intro x _
    exact ⟨_,rfl,by simp [qZ,whole_int]⟩
 have al:allD [.lst [.bl true,.bl true,.bl true]]=some (.bl true):=allD_bls [true,true,true]
 refine ⟨.v (.int lo),.v (.int bh),.v (.int v),.v (.tup [.int alo,.int abh,.int av]),?_⟩
 unfold K72.L_is_map.b1
 have s1:∀ k2:FS,qO (ifG (orT (notT (testT (isiG "tuple" (zJ ixD (zI 0) (zI 1))))) (orT (zT (zJ neD (callB lenD (zG (zJ ixD (zI 0) (zI 1)) zZ)) (zE (.int 3)))) (notT (testT (callB allD (zG (mkL (compG (viaA (zJ ixD (zI 0) (zI 1)) asLT) [none] (zO 0) (fun _=>some true) (jG 1 GL.whole.f (zG (zI 0) zZ)))) zZ)))))) (retG (zE (.bl false))) jB) k2 [.v (.lst P),.v (.int (k:Int)),b,c,d,e]=k2 [.v (.lst P),.v (.int (k:Int)),b,c,d,e]:=fun k2=>by
  refine qT ?_
  refine (if_not ?_).trans rfl
  simp only [orT_eq,notT_eq,testT_eq,isiG_eq,testB_eq,callB_eq,consA_eq,mkL_eq,cp,nilA_eq,Option.map_some,Option.bind_some,al]
  simp [i1]
 rw [s1,qT (ds':=[.v (.lst P),.v (.int (k:Int)),.v (.int lo),.v (.int bh),.v (.int v),e]) (by simp [i1]),qT (ds':=[.v (.lst P),.v (.int (k:Int)),.v (.int lo),.v (.int bh),.v (.int v),.v (.tup [.int alo,.int abh,.int av])]) (by simp [hj,i2])]
 have g0 : ¬ bh<=lo:=by omega
 by_cases hk0:0 < k
 · obtain ⟨r1, r2⟩ := rel hk0
   have g1 : ¬ lo < abh:=by omega
   have eq:eqD (.tup [.int abh,.int av]) (.tup [.int lo,.int v])=some (.bl false):=by
    rw [vB (by simp) (by simp)]
    simp only [eqvD_tup,eqvs_cons,eqvD_int,eqvs_nil,Bool.and_true]
    rw [<- Bool.decide_and,decide_eq_false r2]
   simp [g0,hk0,g1,cut13,eq]
 · simp [g0,hk0]
theorem mapK_eq (ps:List Rw) (h:MapF ps) (hf:Fin3 ps) (hl:ps.length<=10000):K72.L_is_map.f [.lst (ps.map rwD)]=some (.val (.bl true)):=by
 obtain ⟨ds',e1,a',b',c',d',e',rfl⟩:=loop_inv (ga:=zO 1) (body:=K72.L_is_map.b1) (fun ds=>∃ a b c d e,ds=[.v (.lst (ps.map rwD)),a,b,c,d,e]) (rangeD 0 ps.length) [.v (.lst (ps.map rwD)),.no,.no,.no,.no,.no] ⟨_,_,_,_,_,rfl⟩ (by
  rintro _ hd _ ⟨a,b,c,d,e,rfl⟩
  obtain ⟨k,hk,rfl⟩:=mem_rangeD hd
  obtain ⟨b',c',d',e',ee⟩:=mapK_turn ps h hf k hk b c d e
  rw [show (0+(k:Int))=(k:Int) by omega]
  exact ⟨_,_,rfl,.inl ee,_,_,_,_,_,rfl⟩)
 have ok:okR (ps.length:Int):=wR (by omega) (by omega)
 unfold K72.L_is_map.f runG K72.L_is_map.g
 simp [args,ok,e1]
theorem pl_loop (R0 R1:Sl):∀ (rs:List Rl) (es:List Int) (x:Sl),(∀ r∈rs,okL r=true)->es.length+2 * (rowsL rs).length<=100000->∃ (es':List Int) (x':Sl),es'.length=es.length+2 * (rowsL rs).length/\jC (zO 3) K72.L_places.b1 (rs.map rlD) [R0,R1,.v (.lst (es.map D.int)),x]=some (.nx [R0,R1,.v (.lst (es'.map D.int)),x'])
 | [],es,x,_,_=>⟨es,x,by simp [rowsL],by simp [jC]⟩
 | r :: rs, es, x, h, hz => by
   have e0:rowsL (r::rs)=rowsR r++rowsL rs:=by simp [rowsL]
   rw [e0,List.length_append] at hz ⊢
   have hr:=h r (.head _)
   obtain ⟨t1,t2,_⟩:=yE hr
   have hl:=(yK hr).2
   obtain ⟨fs,hf,ef⟩:=endsK_ex (r:=r) (by omega) t2
   have hfl:fs.length=2 * (rowsR r).length:=by omega
   obtain ⟨es',x',g1,g2⟩:=pl_loop R0 R1 rs (es++fs) (.v (rlD r)) (fun q hq=>h q (.tail _ hq)) (by simp only [List.length_append]; omega)
   refine ⟨es',x',by rw [g1,List.length_append]; omega,?_⟩
   have hz':es.length+fs.length<=16777216:=by omega
   have turn:K72.L_places.b1 [R0,R1,.v (.lst (es.map D.int)),.v (rlD r)]=some (.nx [R0,R1,.v (.lst ((es++fs).map D.int)),.v (rlD r)]):=by
    unfold K72.L_places.b1
    generalize rlD r=Q at *
    simp [ef,hz']
   simp only [List.map_cons,jC,zO,Option.bind_some,List.set_cons_succ,List.set_cons_zero,turn]
   exact g2
theorem placesK_ex {ps:List Rw} {rs:List Rl} (hf:Fin3 ps) (h:∀ r∈rs,okL r=true) (hp:ps.length<=600) (hl:(rowsL rs).length<=300):∃ qs:List Int,qs.Pairwise (· < ·)/\qs.length<=4000/\K72.L_places.f [.lst (rs.map rlD),.lst (ps.map rwD)]=some (.fresh (qs.map D.int)):=by
 have c0:∀ a b c:Sl,compG (viaA (jN 1) asLT) [none] (zO 0) (fun _=>some true) (zJ ixD (zI 0) (zE (.int 0))) [a,.v (.lst (ps.map rwD)),b,c]=some ((ps.map fun r=>r.1.getD 0).map D.int):=by
  intro a b c
  refine jT (items:=ps.map rwD) (by simp) (by simp; omega) ?_
  rw [jK rwD (fun r=>D.int (r.1.getD 0)) ps,List.map_map]
  · rfl
  · intro r hr
    obtain ⟨x,y,v,rfl⟩:=hf r hr
    exact ⟨_,rfl,by simp [qZ,rwD]⟩
 have c1:∀ a b c:Sl,compG (viaA (jN 1) asLT) [none] (zO 0) (fun _=>some true) (zJ ixD (zI 0) (zE (.int 1))) [a,.v (.lst (ps.map rwD)),b,c]=some ((ps.map fun r=>r.2.1.getD 0).map D.int):=by
  intro a b c
  refine jT (items:=ps.map rwD) (by simp) (by simp; omega) ?_
  rw [jK rwD (fun r=>D.int (r.2.1.getD 0)) ps,List.map_map]
  · rfl
  · intro r hr
    obtain ⟨x,y,v,rfl⟩:=hf r hr
    exact ⟨_,rfl,by simp [qZ,rwD]⟩
 obtain ⟨e0,he0⟩:∃ e0:List Int,(ps.map fun r=>r.1.getD 0)++(ps.map fun r=>r.2.1.getD 0)=e0:=⟨_,rfl⟩
 have hl0:e0.length=2 * ps.length:=by rw [<- he0]; simp; omega
 have hm0:(ps.map fun r=>r.1.getD 0).map D.int++(ps.map fun r=>r.2.1.getD 0).map D.int=e0.map D.int:=by rw [<- he0,List.map_append]
 have hz0:((ps.map fun r=>r.1.getD 0).map D.int).length+((ps.map fun r=>r.2.1.getD 0).map D.int).length<=16777216:=by simp; omega
 obtain ⟨es,x,g1,g2⟩:=pl_loop (.v (.lst (rs.map rlD))) (.v (.lst (ps.map rwD))) rs e0 .no h (by omega)
 have c2:compG (viaA (jN 2) asLT) [none] (zO 0) (fun _=>some true) (zJ subD (zI 0) (zE (.int 1))) [.v (.lst (rs.map rlD)),.v (.lst (ps.map rwD)),.v (.lst (es.map D.int)),x]=some ((es.map (· - 1)).map D.int):=by
  refine jT (items:=es.map D.int) (by simp) (by simp; omega) ?_
  rw [jK D.int (fun i=>D.int (i - 1)) es,List.map_map]
  · rfl
  · intro r hr
    exact ⟨_,rfl,by simp [qZ]⟩
 obtain ⟨Z,hZ⟩:∃ Z:List Int,0::es++es.map (· - 1)=Z:=⟨_,rfl⟩
 have hZl:Z.length=1+2 * es.length:=by rw [<- hZ]; simp; omega
 have hZm:D.int 0::(es.map D.int++(es.map (· - 1)).map D.int)=Z.map D.int:=by rw [<- hZ]; simp
 have hi:=wU Z
 have fl:=flats_ints (srtU Z)
 have hs:=srtU_len Z
 have hz1:Z.length+1 < 4096:=by omega
 have w1:1+(es.map D.int).length<=16777216:=by simp; omega
 have w1':(es.map D.int).length+1<=16777216:=by simp; omega
 have w2:1+(es.map D.int).length+((es.map (· - 1)).map D.int).length<=16777216:=by simp; omega
 have w2':(es.map D.int).length+1+((es.map (· - 1)).map D.int).length<=16777216:=by simp; omega
 refine ⟨srtU Z,srtU_lt Z,by omega,jZ ?_⟩
 have ar:args 4 [.lst (rs.map rlD),.lst (ps.map rwD)]=[.v (.lst (rs.map rlD)),.v (.lst (ps.map rwD)),.no,.no]:=by simp [args]
 rw [ar]
 unfold K72.L_places.g
 have a0:=c0 (.v (.lst (rs.map rlD))) .no .no
 have a1:=c1 (.v (.lst (rs.map rlD))) .no .no
 generalize (ps.map fun r=>r.1.getD 0).map D.int=A0 at *
 generalize (ps.map fun r=>r.2.1.getD 0).map D.int=A1 at *
 generalize e0.map D.int=E0 at *
 generalize es.map D.int=E1 at *
 generalize (es.map (· - 1)).map D.int=E2 at *
 generalize rs.map rlD=P at *
 generalize ps.map rwD=Q at *
 rw [qT (ds':=[.v (.lst P),.v (.lst Q),.v (.lst E0),.no]) (by
  simp only [setG_eq,mkL_eq,catA_eq,a0,a1,Option.map_some,Option.bind_some,szl,hz0,if_true,hm0]
  simp)]
 rw [qT (ds':=[.v (.lst P),.v (.lst Q),.v (.lst E1),x]) (by rw [xA]; simpa using g2)]
 have sr:srtSA (mkL (catA (mkL (catA (mkL (qH (zG (zE (.int 0)) zZ))) (zI 2))) (mkL (compG (viaA (jN 2) asLT) [none] (zO 0) (fun _=>some true) (zJ subD (zI 0) (zE (.int 1))))))) [.v (.lst P),.v (.lst Q),.v (.lst E1),x]=some ((srtU Z).map D.int):=by
  have k1:catA (mkL (qH (zG (zE (.int 0)) zZ))) (zI 2) [.v (.lst P),.v (.lst Q),.v (.lst E1),x]=some (.int 0::E1):=by simp [w1,w1']
  have k2:catA (mkL (catA (mkL (qH (zG (zE (.int 0)) zZ))) (zI 2))) (mkL (compG (viaA (jN 2) asLT) [none] (zO 0) (fun _=>some true) (zJ subD (zI 0) (zE (.int 1))))) [.v (.lst P),.v (.lst Q),.v (.lst E1),x]=some (Z.map D.int):=by
   rw [catA_eq]
   simp only [mkL_eq,k1,c2,Option.map_some,Option.bind_some,szl,List.length_cons,w2',if_true]
   rw [<- hZm]
   rfl
  unfold srtSA
  simp only [mkL_eq,k2,Option.map_some,Option.bind_some,hi,hz1,if_true]
 simp only [vZ,sr,Option.bind_some]
 simp [fl]
def valK:FT:=andT (zT (zJ ltD (zI 3) (callB lenD (zG (zI 0) zZ)))) (zT (zJ leD (zJ ixD (zJ ixD (zI 0) (zI 3)) (zE (.int 1))) (zI 4)))
theorem valK_eq {ps:List Rw} (hf:Fin3 ps) (q:Int) (k:Nat) (R O:Sl):valK [.v (.lst (ps.map rwD)),R,O,.v (.int (k:Int)),.v (.int q)]=some (match ps[k]? with | some r=>(match r.2.1 with | some b=>decide (b<=q) | none=>false) | none=>false):=by
 unfold valK
 by_cases hk:k < ps.length
 · have i1 : ixD (.lst (ps.map rwD)) (.int (k : Int)) = some (rwD ps[k]) := ix_rw (List.getElem?_eq_getElem hk)
   have hk':(k:Int) < (ps.length:Int):=by omega
   obtain ⟨a,b,v,hr⟩:=hf _ (List.getElem_mem hk)
   rw [List.getElem?_eq_getElem hk]
   rw [hr] at i1 ⊢
   simp [i1,hk]
 · rw [List.getElem?_eq_none (by omega)]
   simp [hk]
theorem valK_while {ps:List Rw} (hf:Fin3 ps) (q:Int) (R O:Sl):∀ (n k m:Nat),ps.length - k<=n->k<=ps.length->n < m->∃ k',k<=k'/\k'<=ps.length/\(∀ i r,k<=i->i < k'->ps[i]? = some r->∃ b,r.2.1=some b/\b<=q)/\(∀ r b,ps[k']? = some r->r.2.1=some b->q < b) ∧
  whileN valK K72.L_values.b1 m [.v (.lst (ps.map rwD)),R,O,.v (.int (k:Int)),.v (.int q)]=some (.nx [.v (.lst (ps.map rwD)),R,O,.v (.int (k':Int)),.v (.int q)])
 | n,k,0,h1,h2,h3=>by omega
 | n, k, m + 1, h1, h2, h3 => by
   have hc:=valK_eq hf q k R O
   by_cases hk:∃ r b,ps[k]? = some r/\r.2.1=some b/\b<=q
   · obtain ⟨r, b, e1, e2, e3⟩ := hk
     rw [e1] at hc
     simp only [e2,e3,decide_true] at hc
     have hlt:k < ps.length:=(List.getElem?_eq_some_iff.mp e1).1
     have hb:K72.L_values.b1 [.v (.lst (ps.map rwD)),R,O,.v (.int (k:Int)),.v (.int q)]=some (.nx [.v (.lst (ps.map rwD)),R,O,.v (.int ((k+1:Nat):Int)),.v (.int q)]):=by
      unfold K72.L_values.b1
      simp
     obtain ⟨k',g1,g2,g3,g4,g5⟩:=valK_while hf q R O (n - 1) (k+1) m (by omega) (by omega) (by omega)
     refine ⟨k',by omega,g2,fun i r' i1 i2 e=>?_,g4,?_⟩
     · by_cases hi : i = k
       · subst hi
         rw [e1] at e
         cases e
         exact ⟨b,e2,e3⟩
       · exact g3 i r' (by omega) i2 e
     · rw [whileN, hc]
       simp only [Option.bind_some,if_true,hb]
       exact g5
   · refine ⟨k, Nat.le_refl _, h2, fun i r i1 i2 => by omega, fun r b e1 e2 => ?_, ?_⟩
     · have : ¬ b <= q := fun z => hk ⟨r, b, e1, e2, z⟩
       omega
     · have:(match ps[k]? with | some r=>(match r.2.1 with | some b=>decide (b<=q) | none=>false) | none=>false)=false:=by
        cases e1:ps[k]? with
        | none=>rfl
        | some r =>
          cases e2:r.2.1 with
          | none=>simp [e2]
          | some b =>
            have : ¬ b<=q:=fun z=>hk ⟨r,b,e1,e2,z⟩
            simp [e2,this]
       rw [whileN,hc,this]
       simp
theorem valK_turn {ps:List Rw} (o:Ord ps) (hf:Fin3 ps) (hl:ps.length<=10000) (R:Sl) (acc:List D) (k:Nat) (q:Int) (hz:acc.length < 16777216) (hk:k<=ps.length) (h1:∀ i r,i < k->ps[i]? = some r->∃ b,r.2.1=some b/\b<=q) :
  ∃ k',k'<=ps.length/\(∀ i r,i < k'->ps[i]? = some r->∃ b,r.2.1=some b/\b<=q) ∧
   K72.L_values.b2 [.v (.lst (ps.map rwD)),R,.own acc,.v (.int (k:Int)),.v (.int q)]=some (.nx [.v (.lst (ps.map rwD)),R,.own (acc++[oi (valL ps q)]),.v (.int (k':Int)),.v (.int q)]):=by
 obtain ⟨k',g1,g2,g3,g4,g5⟩:=valK_while hf q R (.own acc) ps.length k 100000 (by omega) hk (by omega)
 have h1':∀ i r,i < k'->ps[i]? = some r->∃ b,r.2.1=some b/\b<=q:=fun i r hi e=>by
  by_cases hik:i < k
  · exact h1 i r hik e
  · exact g3 i r (by omega) hi e
 refine ⟨k',g2,h1',?_⟩
 have hv:=val_at o h1' g4
 unfold K72.L_values.b2
 rw [show (whileN (andT (zT (zJ ltD (zI 3) (callB lenD (zG (zI 0) zZ)))) (zT (zJ leD (zJ ixD (zJ ixD (zI 0) (zI 3)) (zE (.int 1))) (zI 4)))) K72.L_values.b1 100000)=whileN valK K72.L_values.b1 100000 from rfl]
 rw [qT g5,hv]
 by_cases hk':k' < ps.length
 · have i1 : ixD (.lst (ps.map rwD)) (.int (k' : Int)) = some (rwD ps[k']) := ix_rw (List.getElem?_eq_getElem hk')
   obtain ⟨a,b,v,hr⟩:=hf _ (List.getElem_mem hk')
   rw [List.getElem?_eq_getElem hk']
   rw [hr] at i1 ⊢
   by_cases ha:a<=q
   · simp [i1,hk',ha,hz]
   · simp [i1,hk',ha,hz]
 · rw [List.getElem?_eq_none (by omega)]
   simp [hk',hz]
theorem valK_loop {ps:List Rw} (o:Ord ps) (hf:Fin3 ps) (hl:ps.length<=10000) (R:Sl):∀ (qs:List Int) (acc:List D) (k:Nat) (x:Sl),qs.Pairwise (· < ·)->acc.length+qs.length < 16777216->k<=ps.length->(∀ q∈qs,∀ i r,i < k->ps[i]? = some r->∃ b,r.2.1=some b/\b<=q) →
  ∃ k' x',jC (zO 4) K72.L_values.b2 (qs.map D.int) [.v (.lst (ps.map rwD)),R,.own acc,.v (.int (k:Int)),x]=some (.nx [.v (.lst (ps.map rwD)),R,.own (acc++qs.map fun q=>oi (valL ps q)),.v (.int (k':Nat)),x'])
 | [],acc,k,x,_,_,_,_=>⟨k,x,by simp [jC]⟩
 | q :: qs, acc, k, x, hp, hz, hk, h => by
   obtain ⟨p1,p2⟩:=List.pairwise_cons.mp hp
   simp only [List.length_cons] at hz
   obtain ⟨k1,g1,g2,g3⟩:=valK_turn o hf hl R acc k q (by omega) hk (h q (.head _))
   obtain ⟨k',x',e⟩:=valK_loop o hf hl R qs (acc++[oi (valL ps q)]) k1 (.v (.int q)) p2 (by simp; omega) g1 fun q' hq' i r hi e=>by
    obtain ⟨b,e1,e2⟩:=g2 i r hi e
    exact ⟨b,e1,by have:=p1 q' hq'; omega⟩
   refine ⟨k',x',?_⟩
   simp only [List.map_cons,jC,zO,Option.bind_some,List.set_cons_succ,List.set_cons_zero,g3]
   rw [e]
   simp
theorem valuesK_eq {ps:List Rw} (o:Ord ps) (hf:Fin3 ps) (hl:ps.length<=10000) (qs:List Int) (hq:qs.Pairwise (· < ·)) (hz:qs.length<=10000):K72.L_values.f [.lst (ps.map rwD),.lst (qs.map D.int)]=some (.fresh ((qs.map (valL ps)).map oi)):=by
 obtain ⟨k',x',e⟩:=valK_loop o hf hl (.v (.lst (qs.map D.int))) qs [] 0 .no hq (by simp; omega) (Nat.zero_le _) (fun q _ i r hi=>by omega)
 have fl:=flats_oi (qs.map (valL ps))
 have em:(qs.map fun q=>oi (valL ps q))=(qs.map (valL ps)).map oi:=by simp
 rw [List.nil_append,em] at e
 refine jZ ?_
 unfold K72.L_values.g
 generalize (qs.map (valL ps)).map oi=Z at *
 generalize ps.map rwD=P at *
 generalize qs.map D.int=Q at *
 rw [qT (ds':=[.v (.lst P),.v (.lst Q),.own [],.no,.no]) (by simp [args]),qT (ds':=[.v (.lst P),.v (.lst Q),.own [],.v (.int 0),.no]) (by simp),qT (ds':=[.v (.lst P),.v (.lst Q),.own Z,.v (.int (k':Int)),x']) (by rw [xA]; simpa using e)]
 simp [fl]
theorem lastK_turn {r:Rl} (h:okP r) (R:Sl) (p:Int) (x7 x8:Sl):∃ y7 y8,K72.L_last.b1 [R,.v (.int p),.v (.int r.1),.v (.int r.2.1),.v (.int r.2.2.1),.v (.int r.2.2.2.1),.v (.int r.2.2.2.2),x7,x8]=if hasR r p=true then some (.rt (.val (.int r.2.2.2.2))) else some (.nx [R,.v (.int p),.v (.int r.1),.v (.int r.2.1),.v (.int r.2.2.1),.v (.int r.2.2.2.1),.v (.int r.2.2.2.2),y7,y8]):=by
 obtain ⟨h0,h1,h2⟩:=h
 obtain ⟨t1,t2,t3,t4,t5⟩:=yE h0
 obtain ⟨a,b,s,t,v⟩:=r
 simp only at *
 unfold hasR K72.L_last.b1
 simp only
 by_cases ht:1 < t
 · have sp : 0 < s := by have := t5 (by omega); omega
   have dok:divOk s:=⟨sp,by
    have:s.natAbs < 2 ^ 200:=by
     have:(10:Int) ^ 50 < 2 ^ 200:=by decide
     have h3:s < 2 ^ 200:=by omega
     omega
    have:=(Nat.log2_lt (n:=s.natAbs) (k:=200) (by omega)).mpr this
    omega⟩
   have dm:dvmD [.int (p - a),.int s]=some (.tup [.int ((p - a) / s),.int ((p - a) % s)]):=by simp [dvmD,dok]
   have m0:=Int.emod_nonneg (p - a) (show s≠0 by omega)
   refine ⟨.v (.int ((p - a) / s)),.v (.int ((p - a) % s)),?_⟩
   rw [qT (ds':=[R,.v (.int p),.v (.int a),.v (.int b),.v (.int s),.v (.int t),.v (.int v),.v (.int 0),x8]) (by simp),qT (ds':=[R,.v (.int p),.v (.int a),.v (.int b),.v (.int s),.v (.int t),.v (.int v),.v (.int 0),.v (.int (p - a))]) (by simp),
    qT (ds':=[R,.v (.int p),.v (.int a),.v (.int b),.v (.int s),.v (.int t),.v (.int v),.v (.int ((p - a) / s)),.v (.int ((p - a) % s))]) (by simp [ht,dm]),if_pos ht]
   generalize (p - a) / s=q at *
   generalize (p - a) % s=m at *
   by_cases c1:0<=q
   · by_cases c2 : q < t
     · by_cases c3 : m < b - a
       · simp [c1,c2,c3,m0]
       · simp [c1,c2,c3,m0]
     · simp [c1,c2]
   · simp [c1]
 · refine ⟨.v (.int 0), .v (.int (p - a)), ?_⟩
   rw [qT (ds':=[R,.v (.int p),.v (.int a),.v (.int b),.v (.int s),.v (.int t),.v (.int v),.v (.int 0),x8]) (by simp),qT (ds':=[R,.v (.int p),.v (.int a),.v (.int b),.v (.int s),.v (.int t),.v (.int v),.v (.int 0),.v (.int (p - a))]) (by simp),
    qT (ds':=[R,.v (.int p),.v (.int a),.v (.int b),.v (.int s),.v (.int t),.v (.int v),.v (.int 0),.v (.int (p - a))]) (by simp [ht]),if_neg ht]
   have c0:0 < t:=by omega
   by_cases c1:a<=p
   · have d1 : 0 <= p - a := by omega
     by_cases c2:p < b
     · have d2 : p - a < b - a := by omega
       simp [c0,c1,c2,d1,d2]
     · have d2 : ¬ p - a < b - a := by omega
       simp [c0,c1,c2,d1,d2]
   · have d1 : ¬ 0 <= p - a := by omega
     simp [c0,c1,d1]
theorem lastK_loop (R:Sl) (p:Int):∀ (rs:List Rl) (x2 x3 x4 x5 x6 x7 x8:Sl),(∀ r∈rs,okP r)->∃ y2 y3 y4 y5 y6 y7 y8,jC (tupG 5 (qA (zO 2) (qA (zO 3) (qA (zO 4) (qA (zO 5) (qA (zO 6) tgNil)))))) K72.L_last.b1 (rs.map rlD) [R,.v (.int p),x2,x3,x4,x5,x6,x7,x8]=match rs.find? (fun r=>hasR r p) with | some r=>some (.rt (.val (.int r.2.2.2.2))) | none=>some (.nx [R,.v (.int p),y2,y3,y4,y5,y6,y7,y8])
 | [],x2,x3,x4,x5,x6,x7,x8,_=>⟨x2,x3,x4,x5,x6,x7,x8,rfl⟩
 | r :: rs, x2, x3, x4, x5, x6, x7, x8, h => by
   obtain ⟨y7,y8,e⟩:=lastK_turn (h r (.head _)) R p x7 x8
   obtain ⟨z2,z3,z4,z5,z6,z7,z8,e2⟩:=lastK_loop R p rs (.v (.int r.1)) (.v (.int r.2.1)) (.v (.int r.2.2.1)) (.v (.int r.2.2.2.1)) (.v (.int r.2.2.2.2)) y7 y8 fun q hq=>h q (.tail _ hq)
   refine ⟨z2,z3,z4,z5,z6,z7,z8,?_⟩
   have tg:tupG 5 (qA (zO 2) (qA (zO 3) (qA (zO 4) (qA (zO 5) (qA (zO 6) tgNil))))) (rlD r) [R,.v (.int p),x2,x3,x4,x5,x6,x7,x8]=some [R,.v (.int p),.v (.int r.1),.v (.int r.2.1),.v (.int r.2.2.1),.v (.int r.2.2.2.1),.v (.int r.2.2.2.2),x7,x8]:=by simp [rlD,R5]
   cases hh:hasR r p with
   | true =>
     rw [hh,if_pos rfl] at e
     simp [jC,tg,e,hh]
   | false =>
     rw [hh,if_neg (by simp)] at e
     rw [List.find?_cons_of_neg (p:=fun r:Rl=>hasR r p) (by simp [hh]),<- e2]
     simp [jC,tg,e]
theorem lastK_eq {rs:List Rl} (h:∀ r∈rs,okP r) (p:Int):K72.L_last.f [.lst (rs.map rlD),.int p]=some (.val (oi (lastR rs p))):=by
 obtain ⟨y2,y3,y4,y5,y6,y7,y8,e⟩:=lastK_loop (.v (.lst (rs.map rlD))) p rs.reverse .no .no .no .no .no .no .no fun r hr=>h r (List.mem_reverse.mp hr)
 rw [List.map_reverse] at e
 unfold lastR
 refine jZ ?_
 have ar:args 9 [.lst (rs.map rlD),.int p]=[.v (.lst (rs.map rlD)),.v (.int p),.no,.no,.no,.no,.no,.no,.no]:=by simp [args]
 rw [ar]
 unfold K72.L_last.g
 generalize rs.map rlD=P at *
 cases hf:rs.reverse.find? (fun r=>hasR r p) with
 | none =>
   rw [hf] at e
   rw [qT (ds':=[.v (.lst P),.v (.int p),y2,y3,y4,y5,y6,y7,y8]) (by rw [xA]; simpa using e)]
   simp
 | some r =>
   rw [hf] at e
   refine seq_rt ?_
   rw [xA]
   simpa using e
theorem sum_comp {rs:List Rl} (hl:rs.length<=1000) (ds:List Sl) (h:ds[1]? = some (.v (.lst (rs.map rlD)))):compG (viaA (jN 1) asLT) [none] (zO 0) (fun _=>some true) (zJ ixD (zI 0) (zE (.int 3))) ds=some ((rs.map (·.2.2.2.1)).map D.int):=by
 refine jT (items:=rs.map rlD) (by simp [h]) (by simp; omega) ?_
 rw [jK rlD (fun r=>D.int r.2.2.2.1) rs,List.map_map]
 · rfl
 · intro r _
   exact ⟨_,rfl,by simp [qZ,rl3]⟩
theorem zero_comp {rs:List Rl} (hl:rs.length<=1000) (ds:List Sl) (h:ds[1]? = some (.v (.lst (rs.map rlD)))):compG (viaA (jN 1) asLT) [none] (zO 0) (zT (zJ eqD (zJ ixD (zI 0) (zE (.int 3))) (zE (.int 0)))) (jN 0) ds=some ((rs.filter (fun r=>decide (r.2.2.2.1=0))).map rlD):=by
 refine jT (items:=rs.map rlD) (by simp [h]) (by simp; omega) ?_
 refine compL_filt rlD (fun r=>decide (r.2.2.2.1=0)) rlD rs ?_
 intro r _
 exact ⟨_,rfl,by simp [qZ,rl3],fun _=>by simp [qZ]⟩
theorem sum_ints (ns:List Int):sumD [.lst (ns.map D.int)]=some (.int ns.sum):=by simp [sumD,wU]
theorem law_turn (S0:Sl) {rs:List Rl} {es:List Int} {c:Int} (hc:intBits c<=1048576) (hr:rs.length<=200) (he:es.length<=100000) (ho:∀ r∈rs,okP r) (x4:Sl):∃ (rs':List Rl) (es':List Int) (y4:Sl),(∀ r∈rs',okP r)/\rs'.length<=rs.length+1/\es'.length<=es.length+200 ∧
  K72.law.b1 [S0,.own (rs.map rlD),.v (.lst (es.map D.int)),.v (.int c),x4,.no,.no,.no,.no,.no]=some (.nx [S0,.own (rs'.map rlD),.v (.lst (es'.map D.int)),.v (.int c),y4,.no,.no,.no,.no,.no]):=by
 obtain ⟨r,rok,er⟩:=rule_ex c rs.length es hc (by omega) (by omega)
 obtain ⟨t1,t2,_⟩:=yE rok.1
 obtain ⟨fs,hf,ef⟩:=endsK_ex (r:=r) (by omega) t2
 have i3:=rl3 r
 have cp:=sum_comp (rs:=rs) (by omega) [S0,.v (.lst (rs.map rlD)),.v (.lst (es.map D.int)),.v (.int c),.v (rlD r),.no,.no,.no,.no,.no] rfl
 have sm:=sum_ints (rs.map (·.2.2.2.1))
 have hl:(rs.map rlD).length=rs.length:=List.length_map _
 unfold K72.law.b1
 generalize hS:(rs.map (·.2.2.2.1)).sum=S at *
 generalize (rs.map (·.2.2.2.1)).map D.int=SI at *
 rw [qT (ds':=[S0,.own (rs.map rlD),.v (.lst (es.map D.int)),.v (.int c),.v (rlD r),.no,.no,.no,.no,.no]) (by
  generalize rlD r=Q at *
  generalize rs.map rlD=P at *
  simp [hl,er])]
 have z1:rs.length < 16777216:=by omega
 have z2:es.length+fs.length<=16777216:=by omega
 have hm:(rs++[r]).map rlD=rs.map rlD++[rlD r]:=by simp
 by_cases hT:S+r.2.2.2.1<=30
 · refine ⟨rs ++ [r], es ++ fs, .v (rlD r), fun q hq => ?_, by simp, by simp; omega, ?_⟩
   · rcases List.mem_append.mp hq with hq | hq
     · exact ho q hq
     · rw [List.mem_singleton.mp hq]; exact rok
   · rw [hm]
     generalize rlD r=Q at *
     generalize rs.map rlD=P at *
     rw [if_yes (by simp [cp,sm,i3,hT]),qT (ds':=[S0,.own (P++[Q]),.v (.lst (es.map D.int)),.v (.int c),.v Q,.no,.no,.no,.no,.no]) (by simp [hl,z1])]
     simp [ef,z2]
 · refine ⟨rs, es, .v (rlD r), ho, by omega, by omega, ?_⟩
   generalize rlD r=Q at *
   generalize rs.map rlD=P at *
   rw [if_not (by simp [cp,sm,i3,hT])]
   rfl
theorem law_loop (S0:Sl):∀ (cs:List Int) (rs:List Rl) (es:List Int) (x3 x4:Sl),(∀ c∈cs,intBits c<=1048576)->rs.length+cs.length<=100->es.length+200 * cs.length<=50000->(∀ r∈rs,okP r)->∃ (rs':List Rl) (es':List Int) (y3 y4:Sl),(∀ r∈rs',okP r)/\rs'.length<=rs.length+cs.length ∧
  jC (zO 3) K72.law.b1 (cs.map D.int) [S0,.own (rs.map rlD),.v (.lst (es.map D.int)),x3,x4,.no,.no,.no,.no,.no]=some (.nx [S0,.own (rs'.map rlD),.v (.lst (es'.map D.int)),y3,y4,.no,.no,.no,.no,.no])
 | [],rs,es,x3,x4,_,_,_,h=>⟨rs,es,x3,x4,h,by simp,by simp [jC]⟩
 | c :: cs, rs, es, x3, x4, hb, h1, h2, h => by
   simp only [List.length_cons] at h1 h2
   obtain ⟨rs1,es1,y4,o1,l1,l2,e1⟩:=law_turn S0 (rs:=rs) (es:=es) (hb c (.head _)) (by omega) (by omega) h x4
   obtain ⟨rs',es',y3,y4',o2,l3,e2⟩:=law_loop S0 cs rs1 es1 (.v (.int c)) y4 (fun x hx=>hb x (.tail _ hx)) (by omega) (by omega) o1
   refine ⟨rs',es',y3,y4',o2,by simp only [List.length_cons]; omega,?_⟩
   simp only [List.map_cons,jC,zO,Option.bind_some,List.set_cons_succ,List.set_cons_zero,e1]
   exact e2
def badR:Rl:=(0,1,3,0,7)
theorem eqD_ois (l:List (Option Int)):eqD (.lst (l.map oi)) (.lst (l.map oi))=some (.bl true):=by
 have sh:shals 40 (l.map oi)=true:=xL fun d hd=>by obtain ⟨r,_,rfl⟩:=List.mem_map.mp hd; simp
 have eq:eqvs (l.map oi) (l.map oi)=true:=by
  induction l with
  | nil=>simp
  | cons a l ih=>simp [ih (xL fun d hd=>by obtain ⟨r,_,rfl⟩:=List.mem_map.mp hd; simp)]
 rw [vB (by simpa using sh) (by simpa using sh),wI,eq]
theorem run_law (ns:List Int) (hl:ns.length<=63) (hb:∀ c∈ns,intBits c<=1048576):K72.law.f [.lst (ns.map D.int)]=some (.val (.bl true)):=by
 have c0:GL.cell_at.f [.lst (ns.map D.int),.int 0]=some (.val (.int (cel ns 0))):=cell_eq ns 0
 have c1:GL.cell_at.f [.lst (ns.map D.int),.int 1]=some (.val (.int (cel ns 1))):=cell_eq ns 1
 have sl:cutD (ns.map D.int) (some 2) none=(ns.drop 2).map D.int:=by rw [List.map_drop]; exact cutD_from _ 2
 obtain ⟨rs0,es,y3,y4,o0,l0,e0⟩:=law_loop (.v (.lst (ns.map D.int))) (ns.drop 2) [] [] .no .no (fun c hc=>hb c (List.mem_of_mem_drop hc)) (by simp; omega) (by simp; omega) (fun _ h=>nomatch h)
 have l0':rs0.length<=63:=by simp at l0; omega
 clear l0
 simp only [List.map_nil] at e0
 suffices G:Good K72.law.g (args 10 [.lst (ns.map D.int)]) (fun r=>r = .val (.bl true)) by
  obtain ⟨r,e,rfl⟩:=G
  exact jZ e
 have ar:args 10 [.lst (ns.map D.int)]=[.v (.lst (ns.map D.int)),.no,.no,.no,.no,.no,.no,.no,.no,.no]:=by simp [args]
 rw [ar]
 unfold K72.law.g
 generalize cel ns 0=way at *
 generalize cel ns 1=at1 at *
 generalize hns:ns.map D.int=NS at *
 generalize (ns.drop 2).map D.int=CS at *
 generalize es.map D.int=ES at *
 refine jO (ds':=[.v (.lst NS),.own [],.no,.no,.no,.no,.no,.no,.no,.no]) (by simp) ?_
 refine jO (ds':=[.v (.lst NS),.own [],.v (.lst []),.no,.no,.no,.no,.no,.no,.no]) (by simp) ?_
 refine jO (ds':=[.v (.lst NS),.own (rs0.map rlD),.v (.lst ES),y3,y4,.no,.no,.no,.no,.no]) (by rw [xA]; simpa [sl] using e0) ?_
 refine jO (ds':=[.v (.lst NS),.own (rs0.map rlD),.v (.lst ES),y3,y4,.v (.int way),.no,.no,.no,.no]) (by simp [c0]) ?_
 refine jL (fun ds=>∃ rs:List Rl,(∀ r∈rs,okP r)/\rs.length<=63/\ds=[.v (.lst NS),.own (rs.map rlD),.v (.lst ES),y3,y4,.v (.int way),.no,.no,.no,.no]) ?_ ?_
 · by_cases h1 : way % 6 = 1
   · by_cases h2 : way / 54 % 2 = 0
     · exact ⟨_,by simp [h1,h2],[],(fun _ h=>nomatch h),by simp,rfl⟩
     · exact ⟨_,by simp [h1,h2],rs0,o0,l0',rfl⟩
   · exact ⟨_,by simp [h1],rs0,o0,l0',rfl⟩
 rintro _ ⟨rs1,o1,l1,rfl⟩
 refine jL (fun ds=>∃ rs:List Rl,(∀ r∈rs,okP r)/\rs.length<=67/\ds=[.v (.lst NS),.own (rs.map rlD),.v (.lst ES),y3,y4,.v (.int way),.no,.no,.no,.no]) ?_ ?_
 · by_cases h1 : way % 6 = 1
   · obtain ⟨gs, g1, g2, g3⟩ := greatK_ex (way / 6)
     refine ⟨[.v (.lst NS),.own ((rs1++gs).map rlD),.v (.lst ES),y3,y4,.v (.int way),.no,.no,.no,.no],?_,rs1++gs,fun r hr=>?_,by simp; omega,rfl⟩
     · have hz : (rs1.map rlD).length + (gs.map rlD).length <= 16777216 := by simp; omega
       rw [List.map_append]
       generalize rs1.map rlD=P at *
       generalize gs.map rlD=Q at *
       simp [h1,g3,hz]
     · rcases List.mem_append.mp hr with hr | hr
       · exact o1 r hr
       · exact g2 r hr
   · exact ⟨_,by simp [h1],rs1,o1,by omega,rfl⟩
 rintro _ ⟨rs,o2,l2,rfl⟩
 refine jL (fun ds=>∃ (fs:List Rl) (y6:Sl),(∀ r∈fs,okP r \/ r=badR)/\fs.length<=68/\ds=[.v (.lst NS),.own (fs.map rlD),.v (.lst ES),y3,y4,.v (.int way),y6,.no,.no,.no]) ?_ ?_
 · have ins:∃ (fs:List Rl) (y6:Sl),(∀ r∈fs,okP r \/ r=badR)/\fs.length<=68/\(qO (yO 6 (zJ yU (jG 2 GL.cell_at.f (zG (zI 0) (zG (zE (.int 1)) zZ))) (zJ xD (callB lenD (zG (zI 1) zZ)) (zE (.int 1)))))
 (insG 1 (jN 6) (mkT (qH (zG (zE (.int 0)) (zG (zE (.int 1)) (zG (zE (.int 3)) (zG (zE (.int 0)) (zG (zE (.int 7)) zZ))))))))) [.v (.lst NS),.own (rs.map rlD),.v (.lst ES),y3,y4,.v (.int way),.no,.no,.no,.no]=some (.nx [.v (.lst NS),.own (fs.map rlD),.v (.lst ES),y3,y4,.v (.int way),y6,.no,.no,.no]):=by
    have hp:(0:Int) < (rs.length:Int)+1:=by omega
    have md:=vO at1 hp
    have n0:=Int.emod_nonneg at1 (show (rs.length:Int)+1≠0 by omega)
    have n1:=Int.emod_lt_of_pos at1 hp
    generalize at1 % ((rs.length:Int)+1)=n at *
    refine ⟨rs.take n.toNat++badR::rs.drop n.toNat,.v (.int n),fun r hr=>?_,by simp; omega,?_⟩
    · rcases List.mem_append.mp hr with hr | hr
      · exact .inl (o2 r (List.mem_of_mem_take hr))
      · rcases List.mem_cons.mp hr with hr | hr
        · exact .inr hr
        · exact .inl (o2 r (List.mem_of_mem_drop hr))
    · have hL : (rs.map rlD).length = rs.length := List.length_map _
      have em:(rs.take n.toNat++badR::rs.drop n.toNat).map rlD=(rs.map rlD).take n.toNat++.tup [.int 0,.int 1,.int 3,.int 0,.int 7]::(rs.map rlD).drop n.toNat:=by
       rw [List.map_append,List.map_cons,List.map_take,List.map_drop]
       rfl
      rw [em]
      have m1:n<=(rs.length:Int):=by omega
      have m2:rs.length < 16777216:=by omega
      generalize rs.map rlD=P at *
      rw [qT (ds':=[.v (.lst NS),.own P,.v (.lst ES),y3,y4,.v (.int way),.v (.int n),.no,.no,.no]) (by simp [c1,hL,md])]
      simp [insG,hL,n0,m1,m2]
   obtain ⟨fs,y6,f1,f2,f3⟩:=ins
   by_cases h2:way % 6=2
   · exact ⟨_,(if_yes (by simp [h2])).trans f3,fs,y6,f1,f2,rfl⟩
   · by_cases h1 : way % 6 = 1
     · by_cases h3 : way / 18 % 3 = 0
       · exact ⟨_,(if_yes (by simp [h1,h3])).trans f3,fs,y6,f1,f2,rfl⟩
       · exact ⟨_,(if_not (by simp [h1,h3])).trans rfl,rs,.no,fun r hr=>.inl (o2 r hr),by omega,rfl⟩
     · exact ⟨_,(if_not (by simp [h1,h2])).trans rfl,rs,.no,fun r hr=>.inl (o2 r hr),by omega,rfl⟩
 rintro _ ⟨fs,y6,f1,f2,rfl⟩
 have hz:fs.length<=10000:=by omega
 refine jO (ds':=[.v (.lst NS),.own (fs.map rlD),.v (.lst ES),y3,y4,.v (.int way),y6,.v (.lst (fs.map rlD)),.no,.no]) (by simp) ?_
 have cz:=zero_comp (rs:=fs) (by omega) [.v (.lst NS),.v (.lst (fs.map rlD)),.v (.lst ES),y3,y4,.v (.int way),y6,.v (.lst (fs.map rlD)),.no,.no] rfl
 have nz:=neD_rl_nil (fs.filter (fun r=>decide (r.2.2.2.1=0)))
 have eqr:=eqD_rl fs
 have ner:=neD_rl fs
 by_cases hbad:∃ r∈fs,r.2.2.2.1=0
 · obtain ⟨r, hr, ht⟩ := hbad
   have ne:(fs.filter (fun r=>decide (r.2.2.2.1=0))).isEmpty=false:=by
    rw [List.isEmpty_eq_false_iff_exists_mem]
    exact ⟨r,List.mem_filter.mpr ⟨hr,by simpa using ht⟩⟩
   rw [ne] at nz
   have rf:=refused9 hz (List.any_eq_true.mpr ⟨r,hr,by
    cases e:okL r with
    | false=>rfl
    | true=>have:=(yE e).1; omega⟩)
   generalize (fs.filter (fun r=>decide (r.2.2.2.1=0))).map rlD=F0 at *
   generalize fs.map rlD=F at *
   exact good_rt ⟨_,by simp [cz,nz,rf,eqr],rfl⟩
 have hok:∀ r∈fs,okP r:=fun r hr=>by
  rcases f1 r hr with h | h
  · exact h
  · exact (hbad ⟨r,hr,by rw [h]; rfl⟩).elim
 have hokL:∀ r∈fs,okL r=true:=fun r hr=>(hok r hr).1
 have ne:(fs.filter (fun r=>decide (r.2.2.2.1=0)))=[]:=List.filter_eq_nil_iff.mpr fun r hr z=>hbad ⟨r,hr,by simpa using z⟩
 rw [ne] at nz cz
 simp only [List.map_nil,List.isEmpty_nil,Bool.not_true] at nz cz
 refine jO (ds':=[.v (.lst NS),.v (.lst (fs.map rlD)),.v (.lst ES),y3,y4,.v (.int way),y6,.v (.lst (fs.map rlD)),.no,.no]) (by
  generalize fs.map rlD=F at *
  simp [cz,nz]) ?_
 have cs:=sum_comp (rs:=fs) (by omega) [.v (.lst NS),.v (.lst (fs.map rlD)),.v (.lst ES),y3,y4,.v (.int way),y6,.v (.lst (fs.map rlD)),.no,.no] rfl
 have sm:=sum_ints (fs.map (·.2.2.2.1))
 rw [<- rowsL_len hokL] at sm
 generalize (fs.map (·.2.2.2.1)).map D.int=SI at *
 by_cases hbig:300 < (rowsL fs).length
 · have rf := refused10 hz hokL hbig
   have hbig':(300:Int) < ((rowsL fs).length:Int):=by omega
   generalize ((rowsL fs).length:Int)=T at *
   generalize fs.map rlD=F at *
   exact good_rt ⟨_,by simp [cs,sm,hbig',rf,eqr],rfl⟩
 have hbig' : ¬ (300:Int) < ((rowsL fs).length:Int):=by omega
 refine jO (ds':=[.v (.lst NS),.v (.lst (fs.map rlD)),.v (.lst ES),y3,y4,.v (.int way),y6,.v (.lst (fs.map rlD)),.no,.no]) (by
  generalize ((rowsL fs).length:Int)=T at *
  generalize fs.map rlD=F at *
  simp [cs,sm,hbig']) ?_
 have hsm:(rowsL fs).length<=300:=by omega
 have ld:=laid_eq hokL hz hsm
 obtain ⟨_,mp,ml⟩:=xQ (rowsL fs) (xN hokL) (by omega)
 have fin:Fin3 (formedF (rowsL fs)):=formed_fin (xN hokL) (by omega) (rowsL_fin fs)
 have mq:=mapK_eq _ mp fin (by omega)
 obtain ⟨qs,q1,q2,q3⟩:=placesK_ex fin hokL (by omega) hsm
 have vq:=valuesK_eq mp.ord fin (by omega) qs q1 (by omega)
 have lv:qs.map (valL (formedF (rowsL fs)))=qs.map (lastR fs):=List.map_congr_left fun p _=>laid_val hokL (by omega) p
 rw [lv] at vq
 have eqo:=eqD_ois (qs.map (lastR fs))
 have lc:∀ (a b c d e f g h:Sl),compG (viaA (jN 9) asLT) [none,some 1] (zO 0) (fun _=>some true) (jG 2 K72.L_last.f (zG (zI 1) (zG (zI 0) zZ))) [a,.v (.lst (fs.map rlD)),b,c,d,e,f,g,h,.v (.lst (qs.map D.int))]=some ((qs.map (lastR fs)).map oi):=by
  intro a b c d e f g h
  refine jT (items:=qs.map D.int) (by simp) (by simp; omega) ?_
  rw [jK D.int (fun p=>oi (lastR fs p)) qs,List.map_map]
  · rfl
  · intro p _
    exact ⟨_,rfl,by simp [qZ,lastK_eq hok]⟩
 generalize (formedF (rowsL fs)).map rwD=M at *
 generalize (qs.map (lastR fs)).map oi=V at *
 generalize qs.map D.int=Q at *
 generalize fs.map rlD=F at *
 refine jO (ds':=[.v (.lst NS),.v (.lst F),.v (.lst ES),y3,y4,.v (.int way),y6,.v (.lst F),.v (.lst M),.no]) (by simp [ld]) ?_
 refine jO (ds':=[.v (.lst NS),.v (.lst F),.v (.lst ES),y3,y4,.v (.int way),y6,.v (.lst F),.v (.lst M),.no]) (by simp [mq,ner]) ?_
 refine jO (ds':=[.v (.lst NS),.v (.lst F),.v (.lst ES),y3,y4,.v (.int way),y6,.v (.lst F),.v (.lst M),.v (.lst Q)]) (by simp [q3]) ?_
 exact ⟨_,by simp [lc,vq,eqo],rfl⟩
end K72
namespace K72
open PySem PyProof.Rows L2 FL
set_option maxHeartbeats 0 in
theorem all_mk {l:PySem.W.OpenLaw} {w:World} {K:PySem.W.Frag} {h:Heap} {mg:Str->Option Value} {fa:Addr} (X:K.In h) (G:h.Ns mainGlobals mg) (hfa:mg "law" = some (.ref fa))
  {f0:Addr} {od0 an0:Option Addr} {sl0:Array (Option Value)} {oc0 kV0 dc0 pm0 cd0 ct0:Value}
  {f1:Addr} {od1 an1:Option Addr} {sl1:Array (Option Value)} {oc1 kV1 dc1 pm1 cd1 ct1:Value}
  {f2:Addr} {od2 an2:Option Addr} {sl2:Array (Option Value)} {oc2 kV2 dc2 pm2 cd2 ct2:Value}
  {f3:Addr} {od3 an3:Option Addr} {sl3:Array (Option Value)} {oc3 kV3 dc3 pm3 cd3 ct3:Value}
  {f4:Addr} {od4 an4:Option Addr} {sl4:Array (Option Value)} {oc4 kV4 dc4 pm4 cd4 ct4:Value}
  {f5:Addr} {od5 an5:Option Addr} {sl5:Array (Option Value)} {oc5 kV5 dc5 pm5 cd5 ct5:Value}
  {f6:Addr} {od6 an6:Option Addr} {sl6:Array (Option Value)} {oc6 kV6 dc6 pm6 cd6 ct6:Value}
  {f7:Addr} {od7 an7:Option Addr} {sl7:Array (Option Value)} {oc7 kV7 dc7 pm7 cd7 ct7:Value}
  {f8:Addr} {od8 an8:Option Addr} {sl8:Array (Option Value)} {oc8 kV8 dc8 pm8 cd8 ct8:Value}
  {f9:Addr} {od9 an9:Option Addr} {sl9:Array (Option Value)} {oc9 kV9 dc9 pm9 cd9 ct9:Value}
  {f10:Addr} {od10 an10:Option Addr} {sl10:Array (Option Value)} {oc10 kV10 dc10 pm10 cd10 ct10:Value}
  {f11:Addr} {od11 an11:Option Addr} {sl11:Array (Option Value)} {oc11 kV11 dc11 pm11 cd11 ct11:Value}
  {f12:Addr} {od12 an12:Option Addr} {sl12:Array (Option Value)} {oc12 kV12 dc12 pm12 cd12 ct12:Value}
  {f13:Addr} {od13 an13:Option Addr} {sl13:Array (Option Value)} {oc13 kV13 dc13 pm13 cd13 ct13:Value}
  {f14:Addr} {od14 an14:Option Addr} {sl14:Array (Option Value)} {oc14 kV14 dc14 pm14 cd14 ct14:Value}
  {f15:Addr} {od15 an15:Option Addr} {sl15:Array (Option Value)} {oc15 kV15 dc15 pm15 cd15 ct15:Value}
  {f16:Addr} {od16 an16:Option Addr} {sl16:Array (Option Value)} {oc16 kV16 dc16 pm16 cd16 ct16:Value}
  {f17:Addr} {od17 an17:Option Addr} {sl17:Array (Option Value)} {oc17 kV17 dc17 pm17 cd17 ct17:Value}
  {f18:Addr} {od18 an18:Option Addr} {sl18:Array (Option Value)} {oc18 kV18 dc18 pm18 cd18 ct18:Value}
  {f19:Addr} {od19 an19:Option Addr} {sl19:Array (Option Value)} {oc19 kV19 dc19 pm19 cd19 ct19:Value}
  {f20:Addr} {od20 an20:Option Addr} {sl20:Array (Option Value)} {oc20 kV20 dc20 pm20 cd20 ct20:Value}
  {f21:Addr} {od21 an21:Option Addr} {sl21:Array (Option Value)} {oc21 kV21 dc21 pm21 cd21 ct21:Value}
  {f22:Addr} {od22 an22:Option Addr} {sl22:Array (Option Value)} {oc22 kV22 dc22 pm22 cd22 ct22:Value}
  {f23:Addr} {od23 an23:Option Addr} {sl23:Array (Option Value)} {oc23 kV23 dc23 pm23 cd23 ct23:Value}
  {E0:Addr}
  {E1:Addr}
  {E2:Addr}
  {E3:Addr}
  {E4:Addr}
  {E5:Addr}
  {E6:Addr}
  {E7:Addr}
  {E8:Addr}
  {E9:Addr}
  {E10:Addr}
  {E11:Addr}
  {E12:Addr}
  {t0:Tok}
  {t1:Tok}
  (a0:PySem.W.nsIn K mainGlobals "later_low" = some (some (.ref f0))) (l0:K.lookup f0=some ⟨oc0,od0,.func (PySem.W.fnOf "later_low" "later_low" (qC (top 17)) (zL (top 17)) (zB (top 17)) .none kV0 dc0 pm0 an0 cd0 ct0),sl0⟩) (c0:PySem.W.codeIn K cd0 "later_low" = true) (k0:PySem.W.keepIn K (.ref f0)=true)
  (a1:PySem.W.nsIn K mainGlobals "earlier_behind" = some (some (.ref f1))) (l1:K.lookup f1=some ⟨oc1,od1,.func (PySem.W.fnOf "earlier_behind" "earlier_behind" (qC (top 18)) (zL (top 18)) (zB (top 18)) .none kV1 dc1 pm1 an1 cd1 ct1),sl1⟩) (c1:PySem.W.codeIn K cd1 "earlier_behind" = true) (k1:PySem.W.keepIn K (.ref f1)=true)
  (a2:PySem.W.nsIn K mainGlobals "ends_ahead" = some (some (.ref f2))) (l2:K.lookup f2=some ⟨oc2,od2,.func (PySem.W.fnOf "ends_ahead" "ends_ahead" (qC (top 16)) (zL (top 16)) (zB (top 16)) .none kV2 dc2 pm2 an2 cd2 ct2),sl2⟩) (c2:PySem.W.codeIn K cd2 "ends_ahead" = true) (k2:PySem.W.keepIn K (.ref f2)=true)
  (a3:PySem.W.nsIn K mainGlobals "meet" = some (some (.ref f3))) (l3:K.lookup f3=some ⟨oc3,od3,.func (PySem.W.fnOf "meet" "meet" (qC (top 15)) (zL (top 15)) (zB (top 15)) .none kV3 dc3 pm3 an3 cd3 ct3),sl3⟩) (c3:PySem.W.codeIn K cd3 "meet" = true) (k3:PySem.W.keepIn K (.ref f3)=true)
  (a4:PySem.W.nsIn K mainGlobals "knit" = some (some (.ref f4))) (l4:K.lookup f4=some ⟨oc4,od4,.func (PySem.W.fnOf "knit" "knit" (qC (top 20)) (zL (top 20)) (zB (top 20)) .none kV4 dc4 pm4 an4 cd4 ct4),sl4⟩) (c4:PySem.W.codeIn K cd4 "knit" = true) (k4:PySem.W.keepIn K (.ref f4)=true)
  (a5:PySem.W.nsIn K mainGlobals "parts_in" = some (some (.ref f5))) (l5:K.lookup f5=some ⟨oc5,od5,.func (PySem.W.fnOf "parts_in" "parts_in" (qC (top 22)) (zL (top 22)) (zB (top 22)) .none kV5 dc5 pm5 an5 cd5 ct5),sl5⟩) (c5:PySem.W.codeIn K cd5 "parts_in" = true) (k5:PySem.W.keepIn K (.ref f5)=true)
  (a6:PySem.W.nsIn K mainGlobals "rows_over" = some (some (.ref f6))) (l6:K.lookup f6=some ⟨oc6,od6,.func (PySem.W.fnOf "rows_over" "rows_over" (qC (top 23)) (zL (top 23)) (zB (top 23)) .none kV6 dc6 pm6 an6 cd6 ct6),sl6⟩) (c6:PySem.W.codeIn K cd6 "rows_over" = true) (k6:PySem.W.keepIn K (.ref f6)=true)
  (a7:PySem.W.nsIn K mainGlobals "formed" = some (some (.ref f7))) (l7:K.lookup f7=some ⟨oc7,od7,.func (PySem.W.fnOf "formed" "formed" (qC (top 21)) (zL (top 21)) (zB (top 21)) .none kV7 dc7 pm7 an7 cd7 ct7),sl7⟩) (c7:PySem.W.codeIn K cd7 "formed" = true) (k7:PySem.W.keepIn K (.ref f7)=true)
  (a8:PySem.W.nsIn K mainGlobals "is_rule" = some (some (.ref f8))) (l8:K.lookup f8=some ⟨oc8,od8,.func (PySem.W.fnOf "is_rule" "is_rule" (qC (top 31)) (zL (top 31)) (zB (top 31)) .none kV8 dc8 pm8 an8 cd8 ct8),sl8⟩) (c8:PySem.W.codeIn K cd8 "is_rule" = true) (k8:PySem.W.keepIn K (.ref f8)=true)
  (a9:PySem.W.nsIn K mainGlobals "stretches" = some (some (.ref f9))) (l9:K.lookup f9=some ⟨oc9,od9,.func (PySem.W.fnOf "stretches" "stretches" (qC (top 27)) (zL (top 27)) (zB (top 27)) .none kV9 dc9 pm9 an9 cd9 ct9),sl9⟩) (c9:PySem.W.codeIn K cd9 "stretches" = true) (k9:PySem.W.keepIn K (.ref f9)=true)
  (a10:PySem.W.nsIn K mainGlobals "laid_rows" = some (some (.ref f10))) (l10:K.lookup f10=some ⟨oc10,od10,.func (PySem.W.fnOf "laid_rows" "laid_rows" (qC (top 30)) (zL (top 30)) (zB (top 30)) .none kV10 dc10 pm10 an10 cd10 ct10),sl10⟩) (c10:PySem.W.codeIn K cd10 "laid_rows" = true) (k10:PySem.W.keepIn K (.ref f10)=true)
  (a11:PySem.W.nsIn K mainGlobals "rule_rows" = some (some (.ref f11))) (l11:K.lookup f11=some ⟨oc11,od11,.func (PySem.W.fnOf "rule_rows" "rule_rows" (qC (top 29)) (zL (top 29)) (zB (top 29)) .none kV11 dc11 pm11 an11 cd11 ct11),sl11⟩) (c11:PySem.W.codeIn K cd11 "rule_rows" = true) (k11:PySem.W.keepIn K (.ref f11)=true)
  (a12:PySem.W.nsIn K mainGlobals "laid" = some (some (.ref f12))) (l12:K.lookup f12=some ⟨oc12,od12,.func (PySem.W.fnOf "laid" "laid" (qC (top 28)) (zL (top 28)) (zB (top 28)) .none kV12 dc12 pm12 an12 cd12 ct12),sl12⟩) (c12:PySem.W.codeIn K cd12 "laid" = true) (k12:PySem.W.keepIn K (.ref f12)=true)
  (a13:PySem.W.nsIn K mainGlobals "_law_cell_at" = some (some (.ref f13))) (l13:K.lookup f13=some ⟨oc13,od13,.func (PySem.W.fnOf "_law_cell_at" "_law_cell_at" (qC (top 33)) (zL (top 33)) (zB (top 33)) .none kV13 dc13 pm13 an13 cd13 ct13),sl13⟩) (c13:PySem.W.codeIn K cd13 "_law_cell_at" = true) (k13:PySem.W.keepIn K (.ref f13)=true)
  (a14:PySem.W.nsIn K mainGlobals "_law_whole" = some (some (.ref f14))) (l14:K.lookup f14=some ⟨oc14,od14,.func (PySem.W.fnOf "_law_whole" "_law_whole" (qC (top 34)) (zL (top 34)) (zB (top 34)) .none kV14 dc14 pm14 an14 cd14 ct14),sl14⟩) (c14:PySem.W.codeIn K cd14 "_law_whole" = true) (k14:PySem.W.keepIn K (.ref f14)=true)
  (a15:PySem.W.nsIn K mainGlobals "_law_rule" = some (some (.ref f15))) (l15:K.lookup f15=some ⟨oc15,od15,.func (PySem.W.fnOf "_law_rule" "_law_rule" (qC (top 35)) (zL (top 35)) (zB (top 35)) .none kV15 dc15 pm15 an15 cd15 ct15),sl15⟩) (c15:PySem.W.codeIn K cd15 "_law_rule" = true) (k15:PySem.W.keepIn K (.ref f15)=true)
  (a16:PySem.W.nsIn K mainGlobals "_law_ends" = some (some (.ref f16))) (l16:K.lookup f16=some ⟨oc16,od16,.func (PySem.W.fnOf "_law_ends" "_law_ends" (qC (top 36)) (zL (top 36)) (zB (top 36)) .none kV16 dc16 pm16 an16 cd16 ct16),sl16⟩) (c16:PySem.W.codeIn K cd16 "_law_ends" = true) (k16:PySem.W.keepIn K (.ref f16)=true)
  (a17:PySem.W.nsIn K mainGlobals "_law_great" = some (some (.ref f17))) (l17:K.lookup f17=some ⟨oc17,od17,.func (PySem.W.fnOf "_law_great" "_law_great" (qC (top 37)) (zL (top 37)) (zB (top 37)) .none kV17 dc17 pm17 an17 cd17 ct17),sl17⟩) (c17:PySem.W.codeIn K cd17 "_law_great" = true) (k17:PySem.W.keepIn K (.ref f17)=true)
  (a18:PySem.W.nsIn K mainGlobals "_law_is_map" = some (some (.ref f18))) (l18:K.lookup f18=some ⟨oc18,od18,.func (PySem.W.fnOf "_law_is_map" "_law_is_map" (qC (top 38)) (zL (top 38)) (zB (top 38)) .none kV18 dc18 pm18 an18 cd18 ct18),sl18⟩) (c18:PySem.W.codeIn K cd18 "_law_is_map" = true) (k18:PySem.W.keepIn K (.ref f18)=true)
  (a19:PySem.W.nsIn K mainGlobals "_law_places" = some (some (.ref f19))) (l19:K.lookup f19=some ⟨oc19,od19,.func (PySem.W.fnOf "_law_places" "_law_places" (qC (top 39)) (zL (top 39)) (zB (top 39)) .none kV19 dc19 pm19 an19 cd19 ct19),sl19⟩) (c19:PySem.W.codeIn K cd19 "_law_places" = true) (k19:PySem.W.keepIn K (.ref f19)=true)
  (a20:PySem.W.nsIn K mainGlobals "_law_values" = some (some (.ref f20))) (l20:K.lookup f20=some ⟨oc20,od20,.func (PySem.W.fnOf "_law_values" "_law_values" (qC (top 40)) (zL (top 40)) (zB (top 40)) .none kV20 dc20 pm20 an20 cd20 ct20),sl20⟩) (c20:PySem.W.codeIn K cd20 "_law_values" = true) (k20:PySem.W.keepIn K (.ref f20)=true)
  (a21:PySem.W.nsIn K mainGlobals "_law_last" = some (some (.ref f21))) (l21:K.lookup f21=some ⟨oc21,od21,.func (PySem.W.fnOf "_law_last" "_law_last" (qC (top 41)) (zL (top 41)) (zB (top 41)) .none kV21 dc21 pm21 an21 cd21 ct21),sl21⟩) (c21:PySem.W.codeIn K cd21 "_law_last" = true) (k21:PySem.W.keepIn K (.ref f21)=true)
  (a22:PySem.W.nsIn K mainGlobals "_law_refused" = some (some (.ref f22))) (l22:K.lookup f22=some ⟨oc22,od22,.func (PySem.W.fnOf "_law_refused" "_law_refused" (qC (top 42)) (zL (top 42)) (zB (top 42)) .none kV22 dc22 pm22 an22 cd22 ct22),sl22⟩) (c22:PySem.W.codeIn K cd22 "_law_refused" = true) (k22:PySem.W.keepIn K (.ref f22)=true)
  (a23:PySem.W.nsIn K mainGlobals "law" = some (some (.ref f23))) (l23:K.lookup f23=some ⟨oc23,od23,.func (PySem.W.fnOf "law" "law" (qC (top 43)) (zL (top 43)) (zB (top 43)) .none kV23 dc23 pm23 an23 cd23 ct23),sl23⟩) (c23:PySem.W.codeIn K cd23 "law" = true) (k23:PySem.W.keepIn K (.ref f23)=true)
  (xn0:PySem.W.nsIn K mainGlobals "SpanError" = some (some (.ref E0)))
  (xn1:PySem.W.nsIn K mainGlobals "Empty" = some (some (.ref E1)))
  (xn2:PySem.W.nsIn K mainGlobals "NoEnd" = some (some (.ref E2)))
  (xn3:PySem.W.nsIn K mainGlobals "Clash" = some (some (.ref E3)))
  (xn4:PySem.W.nsIn K mainGlobals "NoCount" = some (some (.ref E4)))
  (xn5:PySem.W.nsIn K mainGlobals "NoShare" = some (some (.ref E5)))
  (xn6:PySem.W.nsIn K mainGlobals "NoName" = some (some (.ref E6)))
  (xn7:PySem.W.nsIn K mainGlobals "NoMark" = some (some (.ref E7)))
  (xn8:PySem.W.nsIn K mainGlobals "NoDeed" = some (some (.ref E8)))
  (xn9:PySem.W.nsIn K mainGlobals "NoRule" = some (some (.ref E9)))
  (xn10:PySem.W.nsIn K mainGlobals "TooMuch" = some (some (.ref E10)))
  (xn11:PySem.W.nsIn K mainGlobals "NoText" = some (some (.ref E11)))
  (xn12:PySem.W.nsIn K mainGlobals "NoRow" = some (some (.ref E12)))
  (xe9:PySem.W.excIn K E9 [.type "ValueError",.type "Exception",.type "BaseException",.type "object"] "ValueError.__new__" = true) (xg9:PySem.W.findIn K (.ref E9) "__getattribute__" = some (some (.builtin "BaseException.__getattribute__"))) (xh9:PySem.W.findIn K (.ref E9) "__getattr__" = some none) (xc9:PySem.W.findIn K (.ref E9) "__class__" = some (some (.builtin "object.__class__"))) (xo9:PySem.W.mroIn K E9 (.type "object")=some true)
  (xe10:PySem.W.excIn K E10 [.type "ValueError",.type "Exception",.type "BaseException",.type "object"] "ValueError.__new__" = true) (xg10:PySem.W.findIn K (.ref E10) "__getattribute__" = some (some (.builtin "BaseException.__getattribute__"))) (xh10:PySem.W.findIn K (.ref E10) "__getattr__" = some none) (xc10:PySem.W.findIn K (.ref E10) "__class__" = some (some (.builtin "object.__class__"))) (xo10:PySem.W.mroIn K E10 (.type "object")=some true)
  (xb0:PySem.W.mroIn K E0 (.type "BaseException")=some true)
  (xb9:PySem.W.mroIn K E9 (.type "BaseException")=some true)
  (xb10:PySem.W.mroIn K E10 (.type "BaseException")=some true)
  (xu0:PySem.W.isClsIn K E0=true) (xy0:PySem.W.typeIn K (.ref E0)=some (.type "type"))
  (xu1:PySem.W.isClsIn K E1=true) (xy1:PySem.W.typeIn K (.ref E1)=some (.type "type"))
  (xu2:PySem.W.isClsIn K E2=true) (xy2:PySem.W.typeIn K (.ref E2)=some (.type "type"))
  (xu3:PySem.W.isClsIn K E3=true) (xy3:PySem.W.typeIn K (.ref E3)=some (.type "type"))
  (xu4:PySem.W.isClsIn K E4=true) (xy4:PySem.W.typeIn K (.ref E4)=some (.type "type"))
  (xu5:PySem.W.isClsIn K E5=true) (xy5:PySem.W.typeIn K (.ref E5)=some (.type "type"))
  (xu6:PySem.W.isClsIn K E6=true) (xy6:PySem.W.typeIn K (.ref E6)=some (.type "type"))
  (xu7:PySem.W.isClsIn K E7=true) (xy7:PySem.W.typeIn K (.ref E7)=some (.type "type"))
  (xu8:PySem.W.isClsIn K E8=true) (xy8:PySem.W.typeIn K (.ref E8)=some (.type "type"))
  (xu9:PySem.W.isClsIn K E9=true) (xy9:PySem.W.typeIn K (.ref E9)=some (.type "type"))
  (xu10:PySem.W.isClsIn K E10=true) (xy10:PySem.W.typeIn K (.ref E10)=some (.type "type"))
  (xu11:PySem.W.isClsIn K E11=true) (xy11:PySem.W.typeIn K (.ref E11)=some (.type "type"))
  (xu12:PySem.W.isClsIn K E12=true) (xy12:PySem.W.typeIn K (.ref E12)=some (.type "type"))
  (xs9_0:PySem.W.subIn K (.ref E9) (.ref E0)=some true)
  (xs9_1:PySem.W.subIn K (.ref E9) (.ref E1)=some false)
  (xq9_1:(Value.ref E9 == Value.ref E1)=false)
  (xs9_2:PySem.W.subIn K (.ref E9) (.ref E2)=some false)
  (xq9_2:(Value.ref E9 == Value.ref E2)=false)
  (xs9_3:PySem.W.subIn K (.ref E9) (.ref E3)=some false)
  (xq9_3:(Value.ref E9 == Value.ref E3)=false)
  (xs9_4:PySem.W.subIn K (.ref E9) (.ref E4)=some false)
  (xq9_4:(Value.ref E9 == Value.ref E4)=false)
  (xs9_5:PySem.W.subIn K (.ref E9) (.ref E5)=some false)
  (xq9_5:(Value.ref E9 == Value.ref E5)=false)
  (xs9_6:PySem.W.subIn K (.ref E9) (.ref E6)=some false)
  (xq9_6:(Value.ref E9 == Value.ref E6)=false)
  (xs9_7:PySem.W.subIn K (.ref E9) (.ref E7)=some false)
  (xq9_7:(Value.ref E9 == Value.ref E7)=false)
  (xs9_8:PySem.W.subIn K (.ref E9) (.ref E8)=some false)
  (xq9_8:(Value.ref E9 == Value.ref E8)=false)
  (xs9_10:PySem.W.subIn K (.ref E9) (.ref E10)=some false)
  (xq9_10:(Value.ref E9 == Value.ref E10)=false)
  (xs9_11:PySem.W.subIn K (.ref E9) (.ref E11)=some false)
  (xq9_11:(Value.ref E9 == Value.ref E11)=false)
  (xs9_12:PySem.W.subIn K (.ref E9) (.ref E12)=some false)
  (xq9_12:(Value.ref E9 == Value.ref E12)=false)
  (xs10_0:PySem.W.subIn K (.ref E10) (.ref E0)=some true)
  (xs10_1:PySem.W.subIn K (.ref E10) (.ref E1)=some false)
  (xq10_1:(Value.ref E10 == Value.ref E1)=false)
  (xs10_2:PySem.W.subIn K (.ref E10) (.ref E2)=some false)
  (xq10_2:(Value.ref E10 == Value.ref E2)=false)
  (xs10_3:PySem.W.subIn K (.ref E10) (.ref E3)=some false)
  (xq10_3:(Value.ref E10 == Value.ref E3)=false)
  (xs10_4:PySem.W.subIn K (.ref E10) (.ref E4)=some false)
  (xq10_4:(Value.ref E10 == Value.ref E4)=false)
  (xs10_5:PySem.W.subIn K (.ref E10) (.ref E5)=some false)
  (xq10_5:(Value.ref E10 == Value.ref E5)=false)
  (xs10_6:PySem.W.subIn K (.ref E10) (.ref E6)=some false)
  (xq10_6:(Value.ref E10 == Value.ref E6)=false)
  (xs10_7:PySem.W.subIn K (.ref E10) (.ref E7)=some false)
  (xq10_7:(Value.ref E10 == Value.ref E7)=false)
  (xs10_8:PySem.W.subIn K (.ref E10) (.ref E8)=some false)
  (xq10_8:(Value.ref E10 == Value.ref E8)=false)
  (xs10_9:PySem.W.subIn K (.ref E10) (.ref E9)=some false)
  (xq10_9:(Value.ref E10 == Value.ref E9)=false)
  (xs10_11:PySem.W.subIn K (.ref E10) (.ref E11)=some false)
  (xq10_11:(Value.ref E10 == Value.ref E11)=false)
  (xs10_12:PySem.W.subIn K (.ref E10) (.ref E12)=some false)
  (xq10_12:(Value.ref E10 == Value.ref E12)=false)
  (xs9_ValueError:PySem.W.subIn K (.ref E9) (.type "ValueError")=some true)
  (xs10_ValueError:PySem.W.subIn K (.ref E10) (.type "ValueError")=some true)
  (z0:PySem.W.nsIn K mainGlobals "ValueError" = some none)
  (z1:PySem.W.nsIn K mainGlobals "all" = some none)
  (z2:PySem.W.nsIn K mainGlobals "bool" = some none)
  (z3:PySem.W.nsIn K mainGlobals "divmod" = some none)
  (z4:PySem.W.nsIn K mainGlobals "int" = some none)
  (z5:PySem.W.nsIn K mainGlobals "isinstance" = some none)
  (z6:PySem.W.nsIn K mainGlobals "len" = some none)
  (z7:PySem.W.nsIn K mainGlobals "list" = some none)
  (z8:PySem.W.nsIn K mainGlobals "max" = some none)
  (z9:PySem.W.nsIn K mainGlobals "min" = some none)
  (z10:PySem.W.nsIn K mainGlobals "range" = some none)
  (z11:PySem.W.nsIn K mainGlobals "reversed" = some none)
  (z12:PySem.W.nsIn K mainGlobals "set" = some none)
  (z13:PySem.W.nsIn K mainGlobals "sorted" = some none)
  (z14:PySem.W.nsIn K mainGlobals "sum" = some none)
  (z15:PySem.W.nsIn K mainGlobals "tuple" = some none)
  (v0:PySem.W.nsIn K mainGlobals "MOST_TIMES" = some (some (.int 100 t0)))
  (v1:PySem.W.nsIn K mainGlobals "MOST_TOGETHER" = some (some (.int 300 t1))) :
  ∃ fd:FuncData,(∀ (s:Shared) (v:Value),BindsTo s fd ⟨[v],[]⟩ [("_law_script",v)])/\∀ base:Heap,K.In base->base.Ns mainGlobals mg->FnOk l.prog w K mg base CX0 9 fa fd ["_law_script"] (spLawB K 63):=by
 have e:=hfa.symm.trans (PySem.W.mg_of X G a23)
 cases e
 have T:Glb K mg:=⟨PySem.W.mg_none_of X G z0,PySem.W.mg_none_of X G z1,PySem.W.mg_none_of X G z2,PySem.W.mg_none_of X G z3,PySem.W.mg_none_of X G z4,PySem.W.mg_none_of X G z5,PySem.W.mg_none_of X G z6,PySem.W.mg_none_of X G z7,PySem.W.mg_none_of X G z8,PySem.W.mg_none_of X G z9,PySem.W.mg_none_of X G z10,PySem.W.mg_none_of X G z11,PySem.W.mg_none_of X G z12,PySem.W.mg_none_of X G z13,PySem.W.mg_none_of X G z14,PySem.W.mg_none_of X G z15,⟨_,PySem.W.mg_of X G v0⟩,⟨_,PySem.W.mg_of X G v1⟩,⟨E10,PySem.W.mg_of X G xn10,(xC (t:=9) (by exact xn9) ⟨xg9,xh9,xc9,xo9,xb9⟩ (jD xu10 xy10 xs9_10 xq9_10) (xC (t:=10) (by exact xn10) ⟨xg10,xh10,xc10,xo10,xb10⟩ (kit_self E10) kI))⟩,⟨E9,PySem.W.mg_of X G xn9,(xC (t:=9) (by exact xn9) ⟨xg9,xh9,xc9,xo9,xb9⟩ (kit_self E9) (xC (t:=10) (by exact xn10) ⟨xg10,xh10,xc10,xo10,xb10⟩ (jD xu9 xy9 xs10_9 xq10_9) kI))⟩,(xC (t:=9) (by exact xn9) ⟨xg9,xh9,xc9,xo9,xb9⟩ (kitB_yes (by decide +kernel) xs9_ValueError) (xC (t:=10) (by exact xn10) ⟨xg10,xh10,xc10,xo10,xb10⟩ (kitB_yes (by decide +kernel) xs10_ValueError) kI)),⟨E3,E1,E4,E8,E2,E7,E6,E12,E5,E11,PySem.W.mg_of X G xn3,PySem.W.mg_of X G xn1,PySem.W.mg_of X G xn4,PySem.W.mg_of X G xn8,PySem.W.mg_of X G xn2,PySem.W.mg_of X G xn7,PySem.W.mg_of X G xn6,PySem.W.mg_of X G xn12,PySem.W.mg_of X G xn5,PySem.W.mg_of X G xn11,(isx_consT (t:=9) (by exact xn9) ⟨xg9,xh9,xc9,xo9,xb9⟩ (zX (jD xu3 xy3 xs9_3 xq9_3) (zX (jD xu1 xy1 xs9_1 xq9_1) (zX (jD xu4 xy4 xs9_4 xq9_4) (zX (jD xu8 xy8 xs9_8 xq9_8) (zX (jD xu2 xy2 xs9_2 xq9_2) (zX (jD xu7 xy7 xs9_7 xq9_7) (zX (jD xu6 xy6 xs9_6 xq9_6) (zX (jD xu12 xy12 xs9_12 xq9_12) (zX (jD xu5 xy5 xs9_5 xq9_5) (zX (jD xu11 xy11 xs9_11 xq9_11) kitAny_nil)))))))))) (isx_oneT (t:=10) (by exact xn10) ⟨xg10,xh10,xc10,xo10,xb10⟩ (zX (jD xu3 xy3 xs10_3 xq10_3) (zX (jD xu1 xy1 xs10_1 xq10_1) (zX (jD xu4 xy4 xs10_4 xq10_4) (zX (jD xu8 xy8 xs10_8 xq10_8) (zX (jD xu2 xy2 xs10_2 xq10_2) (zX (jD xu7 xy7 xs10_7 xq10_7) (zX (jD xu6 xy6 xs10_6 xq10_6) (zX (jD xu12 xy12 xs10_12 xq10_12) (zX (jD xu5 xy5 xs10_5 xq10_5) (zX (jD xu11 xy11 xs10_11 xq10_11) kitAny_nil)))))))))) ))⟩⟩
 have XR_9:XR K mg 9 E9:=⟨by exact xn9,by exact PySem.W.mg_of X G xn9,⟨xe9,⟨xg9,xh9,xc9,xo9,xb9⟩⟩⟩
 have XR_10:XR K mg 10 E10:=⟨by exact xn10,by exact PySem.W.mg_of X G xn10,⟨xe10,⟨xg10,xh10,xc10,xo10,xb10⟩⟩⟩
 have XT_9:XT K mg 9 "SpanError" E9 E0:=⟨by exact xn9,PySem.W.mg_of X G xn0,⟨kitCls_yes xu0 xy0 xs9_0,xb0⟩⟩
 have XT_10:XT K mg 10 "SpanError" E10 E0:=⟨by exact xn10,PySem.W.mg_of X G xn0,⟨kitCls_yes xu0 xy0 xs10_0,xb0⟩⟩
 have F0:=qW (st:=(top 17)) l0 c0 k0
 have b0:=F0.binds (ps:=["one","other"]) fun _ _ _ _ _ _ us hl=>match us,hl with | [_,_],_=>rfl
 have F1:=qW (st:=(top 18)) l1 c1 k1
 have b1:=F1.binds (ps:=["one","other"]) fun _ _ _ _ _ _ us hl=>match us,hl with | [_,_],_=>rfl
 have F2:=qW (st:=(top 16)) l2 c2 k2
 have b2:=F2.binds (ps:=["behind","low"]) fun _ _ _ _ _ _ us hl=>match us,hl with | [_,_],_=>rfl
 have F3:=qW (st:=(top 15)) l3 c3 k3
 have b3:=F3.binds (ps:=["one","other"]) fun _ _ _ _ _ _ us hl=>match us,hl with | [_,_],_=>rfl
 have F4:=qW (st:=(top 20)) l4 c4 k4
 have b4:=F4.binds (ps:=["rows"]) fun _ _ _ _ _ _ us hl=>match us,hl with | [_],_=>rfl
 have F5:=qW (st:=(top 22)) l5 c5 k5
 have b5:=F5.binds (ps:=["pieces","within"]) fun _ _ _ _ _ _ us hl=>match us,hl with | [_,_],_=>rfl
 have F6:=qW (st:=(top 23)) l6 c6 k6
 have b6:=F6.binds (ps:=["pieces","over","value"]) fun _ _ _ _ _ _ us hl=>match us,hl with | [_,_,_],_=>rfl
 have F7:=qW (st:=(top 21)) l7 c7 k7
 have b7:=F7.binds (ps:=["rows"]) fun _ _ _ _ _ _ us hl=>match us,hl with | [_],_=>rfl
 have F8:=qW (st:=(top 31)) l8 c8 k8
 have b8:=F8.binds (ps:=["rule"]) fun _ _ _ _ _ _ us hl=>match us,hl with | [_],_=>rfl
 have F9:=qW (st:=(top 27)) l9 c9 k9
 have b9:=F9.binds (ps:=["rule"]) fun _ _ _ _ _ _ us hl=>match us,hl with | [_],_=>rfl
 have F10:=qW (st:=(top 30)) l10 c10 k10
 have b10:=F10.binds (ps:=["rows"]) fun _ _ _ _ _ _ us hl=>match us,hl with | [_],_=>rfl
 have F11:=qW (st:=(top 29)) l11 c11 k11
 have b11:=F11.binds (ps:=["rule"]) fun _ _ _ _ _ _ us hl=>match us,hl with | [_],_=>rfl
 have F12:=qW (st:=(top 28)) l12 c12 k12
 have b12:=F12.binds (ps:=["rules"]) fun _ _ _ _ _ _ us hl=>match us,hl with | [_],_=>rfl
 have F13:=qW (st:=(top 33)) l13 c13 k13
 have b13:=F13.binds (ps:=["_law_script","_law_k"]) fun _ _ _ _ _ _ us hl=>match us,hl with | [_,_],_=>rfl
 have F14:=qW (st:=(top 34)) l14 c14 k14
 have b14:=F14.binds (ps:=["_law_found"]) fun _ _ _ _ _ _ us hl=>match us,hl with | [_],_=>rfl
 have F15:=qW (st:=(top 35)) l15 c15 k15
 have b15:=F15.binds (ps:=["_law_cell","_law_k","_law_ends_here"]) fun _ _ _ _ _ _ us hl=>match us,hl with | [_,_,_],_=>rfl
 have F16:=qW (st:=(top 36)) l16 c16 k16
 have b16:=F16.binds (ps:=["_law_rule_here"]) fun _ _ _ _ _ _ us hl=>match us,hl with | [_],_=>rfl
 have F17:=qW (st:=(top 37)) l17 c17 k17
 have b17:=F17.binds (ps:=["_law_cell"]) fun _ _ _ _ _ _ us hl=>match us,hl with | [_],_=>rfl
 have F18:=qW (st:=(top 38)) l18 c18 k18
 have b18:=F18.binds (ps:=["_law_found"]) fun _ _ _ _ _ _ us hl=>match us,hl with | [_],_=>rfl
 have F19:=qW (st:=(top 39)) l19 c19 k19
 have b19:=F19.binds (ps:=["_law_rules","_law_pieces"]) fun _ _ _ _ _ _ us hl=>match us,hl with | [_,_],_=>rfl
 have F20:=qW (st:=(top 40)) l20 c20 k20
 have b20:=F20.binds (ps:=["_law_pieces","_law_places_here"]) fun _ _ _ _ _ _ us hl=>match us,hl with | [_,_],_=>rfl
 have F21:=qW (st:=(top 41)) l21 c21 k21
 have b21:=F21.binds (ps:=["_law_rules","_law_place"]) fun _ _ _ _ _ _ us hl=>match us,hl with | [_,_],_=>rfl
 have F22:=qW (st:=(top 42)) l22 c22 k22
 have b22:=F22.binds (ps:=["_law_rules","_law_way"]) fun _ _ _ _ _ _ us hl=>match us,hl with | [_,_],_=>rfl
 have F23:=qW (st:=(top 43)) l23 c23 k23
 refine ⟨PySem.W.fnOf "law" "law" (qC (top 43)) (zL (top 43)) (zB (top 43)) .none kV23 dc23 pm23 an23 cd23 ct23,fun s v=>.of_eq rfl,fun base _ _=>?_⟩
 have G0:=fok_later_low (P:=l.prog) (w:=w) (base:=base) F0 T
 have C_later_low:Cal l.prog w K mg base "later_low" 1 2 GP.later_low.f:=⟨f0,_,_,G0,b0,k0,PySem.W.mg_of X G a0⟩
 have G1:=fok_earlier_behind (P:=l.prog) (w:=w) (base:=base) F1 T
 have C_earlier_behind:Cal l.prog w K mg base "earlier_behind" 1 2 GP.earlier_behind.f:=⟨f1,_,_,G1,b1,k1,PySem.W.mg_of X G a1⟩
 have G2:=fok_ends_ahead (P:=l.prog) (w:=w) (base:=base) F2 T
 have C_ends_ahead:Cal l.prog w K mg base "ends_ahead" 1 2 GP.ends_ahead.f:=⟨f2,_,_,G2,b2,k2,PySem.W.mg_of X G a2⟩
 have G3:=fok_meet (P:=l.prog) (w:=w) (base:=base) F3 T C_later_low C_earlier_behind C_ends_ahead
 have C_meet:Cal l.prog w K mg base "meet" 2 2 GP.meet.f:=⟨f3,_,_,G3,b3,k3,PySem.W.mg_of X G a3⟩
 have G4:=fok_knit (P:=l.prog) (w:=w) (base:=base) F4 T
 have C_knit:Cal l.prog w K mg base "knit" 1 1 GP.knit.f:=⟨f4,_,_,G4,b4,k4,PySem.W.mg_of X G a4⟩
 have G5:=fok_parts_in (P:=l.prog) (w:=w) (base:=base) F5 T C_meet
 have C_parts_in:Cal l.prog w K mg base "parts_in" 3 2 GP.parts_in.f:=⟨f5,_,_,G5,b5,k5,PySem.W.mg_of X G a5⟩
 have G6:=fok_rows_over (P:=l.prog) (w:=w) (base:=base) F6 T C_parts_in
 have C_rows_over:Cal l.prog w K mg base "rows_over" 4 3 GP.rows_over.f:=⟨f6,_,_,G6,b6,k6,PySem.W.mg_of X G a6⟩
 have G7:=fok_formed (P:=l.prog) (w:=w) (base:=base) F7 T C_knit C_rows_over
 have C_formed:Cal l.prog w K mg base "formed" 5 1 GP.formed.f:=⟨f7,_,_,G7,b7,k7,PySem.W.mg_of X G a7⟩
 have G8:=fok_is_rule (P:=l.prog) (w:=w) (base:=base) F8 T
 have C_is_rule:Cal l.prog w K mg base "is_rule" 1 1 GP.is_rule.f:=⟨f8,_,_,G8,b8,k8,PySem.W.mg_of X G a8⟩
 have GX9_9:=fokx_stretches_9 (P:=l.prog) (w:=w) (base:=base) F9 T C_is_rule XR_9
 have CX_stretches_9:CalX l.prog w K mg base "stretches" 2 1 K72.X_stretches_9.f E9:=⟨f9,_,_,GX9_9,b9,k9,PySem.W.mg_of X G a9⟩
 have G9:=fok_stretches (P:=l.prog) (w:=w) (base:=base) F9 T C_is_rule
 have C_stretches:Cal l.prog w K mg base "stretches" 2 1 GP.stretches.f:=⟨f9,_,_,G9,b9,k9,PySem.W.mg_of X G a9⟩
 have GX10_10:=fokx_laid_rows_10 (P:=l.prog) (w:=w) (base:=base) F10 T C_formed XR_10
 have CX_laid_rows_10:CalX l.prog w K mg base "laid_rows" 6 1 K72.X_laid_rows_10.f E10:=⟨f10,_,_,GX10_10,b10,k10,PySem.W.mg_of X G a10⟩
 have G10:=fok_laid_rows (P:=l.prog) (w:=w) (base:=base) F10 T C_formed
 have C_laid_rows:Cal l.prog w K mg base "laid_rows" 6 1 GP.laid_rows.f:=⟨f10,_,_,G10,b10,k10,PySem.W.mg_of X G a10⟩
 have GX11_9:=fokx_rule_rows_9 (P:=l.prog) (w:=w) (base:=base) F11 T C_stretches CX_stretches_9
 have CX_rule_rows_9:CalX l.prog w K mg base "rule_rows" 3 1 K72.X_rule_rows_9.f E9:=⟨f11,_,_,GX11_9,b11,k11,PySem.W.mg_of X G a11⟩
 have G11:=fok_rule_rows (P:=l.prog) (w:=w) (base:=base) F11 T C_stretches
 have C_rule_rows:Cal l.prog w K mg base "rule_rows" 3 1 GP.rule_rows.f:=⟨f11,_,_,G11,b11,k11,PySem.W.mg_of X G a11⟩
 have GX12_9:=fokx_laid_9 (P:=l.prog) (w:=w) (base:=base) F12 T C_laid_rows C_rule_rows CX_rule_rows_9
 have CX_laid_9:CalX l.prog w K mg base "laid" 7 1 K72.X_laid_9.f E9:=⟨f12,_,_,GX12_9,b12,k12,PySem.W.mg_of X G a12⟩
 have GX12_10:=fokx_laid_10 (P:=l.prog) (w:=w) (base:=base) F12 T C_laid_rows C_rule_rows CX_laid_rows_10
 have CX_laid_10:CalX l.prog w K mg base "laid" 7 1 K72.X_laid_10.f E10:=⟨f12,_,_,GX12_10,b12,k12,PySem.W.mg_of X G a12⟩
 have G12:=fok_laid (P:=l.prog) (w:=w) (base:=base) F12 T C_laid_rows C_rule_rows
 have C_laid:Cal l.prog w K mg base "laid" 7 1 GP.laid.f:=⟨f12,_,_,G12,b12,k12,PySem.W.mg_of X G a12⟩
 have G13:=fok__law_cell_at (P:=l.prog) (w:=w) (base:=base) F13 T
 have C__law_cell_at:Cal l.prog w K mg base "_law_cell_at" 1 2 GL.cell_at.f:=⟨f13,_,_,G13,b13,k13,PySem.W.mg_of X G a13⟩
 have G14:=fok__law_whole (P:=l.prog) (w:=w) (base:=base) F14 T
 have C__law_whole:Cal l.prog w K mg base "_law_whole" 1 1 GL.whole.f:=⟨f14,_,_,G14,b14,k14,PySem.W.mg_of X G a14⟩
 have G15:=fok__law_rule (P:=l.prog) (w:=w) (base:=base) F15 T
 have C__law_rule:Cal l.prog w K mg base "_law_rule" 1 3 K72.L_rule.f:=⟨f15,_,_,G15,b15,k15,PySem.W.mg_of X G a15⟩
 have G16:=fok__law_ends (P:=l.prog) (w:=w) (base:=base) F16 T
 have C__law_ends:Cal l.prog w K mg base "_law_ends" 1 1 K72.L_ends.f:=⟨f16,_,_,G16,b16,k16,PySem.W.mg_of X G a16⟩
 have G17:=fok__law_great (P:=l.prog) (w:=w) (base:=base) F17 T
 have C__law_great:Cal l.prog w K mg base "_law_great" 1 1 K72.L_great.f:=⟨f17,_,_,G17,b17,k17,PySem.W.mg_of X G a17⟩
 have G18:=fok__law_is_map (P:=l.prog) (w:=w) (base:=base) F18 T C__law_whole
 have C__law_is_map:Cal l.prog w K mg base "_law_is_map" 2 1 K72.L_is_map.f:=⟨f18,_,_,G18,b18,k18,PySem.W.mg_of X G a18⟩
 have G19:=fok__law_places (P:=l.prog) (w:=w) (base:=base) F19 T C__law_ends
 have C__law_places:Cal l.prog w K mg base "_law_places" 2 2 K72.L_places.f:=⟨f19,_,_,G19,b19,k19,PySem.W.mg_of X G a19⟩
 have G20:=fok__law_values (P:=l.prog) (w:=w) (base:=base) F20 T
 have C__law_values:Cal l.prog w K mg base "_law_values" 1 2 K72.L_values.f:=⟨f20,_,_,G20,b20,k20,PySem.W.mg_of X G a20⟩
 have G21:=fok__law_last (P:=l.prog) (w:=w) (base:=base) F21 T
 have C__law_last:Cal l.prog w K mg base "_law_last" 1 2 K72.L_last.f:=⟨f21,_,_,G21,b21,k21,PySem.W.mg_of X G a21⟩
 have G22:=fok__law_refused (P:=l.prog) (w:=w) (base:=base) F22 T C_laid XT_9 CX_laid_9 XT_10 CX_laid_10
 have C__law_refused:Cal l.prog w K mg base "_law_refused" 8 2 K72.L_refused.f:=⟨f22,_,_,G22,b22,k22,PySem.W.mg_of X G a22⟩
 exact law_ofB (F:=K72.law.f) (fok_law F23 T C__law_cell_at C_laid C__law_places C__law_rule C__law_values C__law_great C__law_refused C__law_is_map C__law_last C__law_ends) run_law
end K72
def PySem.W.Fast.tw5085021935137602608:Unit:=()
def PySem.W.Fast.tw12669667749771819672:Unit:=()
def PySem.W.Fast.tw3458193883981499850:Unit:=()
def PySem.W.Fast.tw7047505844541357714:Unit:=()
def PySem.W.Fast.tw8413317740739848670:Unit:=()
def PySem.W.Fast.tw9794054756647273871:Unit:=()
def PySem.W.Fast.tw16234606707402130111:Unit:=()
def PySem.W.Fast.tw840338560787753908:Unit:=()
def PySem.W.Fast.tw7638512208119972517:Unit:=()
def PySem.W.Fast.tw12268155479785037654:Unit:=()
def PySem.W.Fast.tw10785915161550912201:Unit:=()
def PySem.W.Fast.tw960982355795099076:Unit:=()
def PySem.W.Fast.tw7903661042616782061:Unit:=()
def PySem.W.Fast.tw6498106450204832738:Unit:=()
def PySem.W.Fast.tw13702640996708538868:Unit:=()
def PySem.W.Fast.tw1861819691419356548:Unit:=()
def PySem.W.Fast.tw8676214550771887749:Unit:=()
def PySem.W.Fast.tw14599851944521921165:Unit:=()
open PySem PySem.W PyProof.Rows
set_option maxRecDepth 100000 in
set_option maxHeartbeats 0 in
theorem PySem.Challenge.cw_spanmap_k72_laid_holds : PySem.Challenge.rw_spanmap_k72_laid.Holds := by
 w_on; o_law; k_head; (case hw=>w_witness2)
 k_fill
 refine' FL.walkB (l:=PySem.Challenge.rw_spanmap_k72_laid) (k:=9) rfl rfl ⟨rfl,by decide,by decide⟩ (fun w h Y=>PySem.W.kIn_of Y) (fun w=>by kernel_rfl) ?T ?F
 case T =>
  intro w
  dsimp only [L2.makers]
  repeat (first
   | exact FL.TabL.nil
   | (apply FL.tabL_no; k_is)
   | (apply FL.tabL_yes; k_is; k_is; exact rfl; k_is; exact rfl; kernel_rfl))
  all_goals decide
 case F =>
  intro w mg fa h KX G hmg
  refine' K72.all_mk KX G hmg ?a0 ?l0 ?c0 ?k0 ?a1 ?l1 ?c1 ?k1 ?a2 ?l2 ?c2 ?k2 ?a3 ?l3 ?c3 ?k3 ?a4 ?l4 ?c4 ?k4 ?a5 ?l5 ?c5 ?k5 ?a6 ?l6 ?c6 ?k6 ?a7 ?l7 ?c7 ?k7 ?a8 ?l8 ?c8 ?k8 ?a9 ?l9 ?c9 ?k9 ?a10 ?l10 ?c10 ?k10 ?a11 ?l11 ?c11 ?k11 ?a12 ?l12 ?c12 ?k12 ?a13 ?l13 ?c13 ?k13 ?a14 ?l14 ?c14 ?k14 ?a15 ?l15 ?c15 ?k15 ?a16 ?l16 ?c16 ?k16 ?a17 ?l17 ?c17 ?k17 ?a18 ?l18 ?c18 ?k18 ?a19 ?l19 ?c19 ?k19 ?a20 ?l20 ?c20 ?k20 ?a21 ?l21 ?c21 ?k21 ?a22 ?l22 ?c22 ?k22 ?a23 ?l23 ?c23 ?k23 ?xn0 ?xn1 ?xn2 ?xn3 ?xn4 ?xn5 ?xn6 ?xn7 ?xn8 ?xn9 ?xn10 ?xn11 ?xn12 ?xe9 ?xg9 ?xh9 ?xc9 ?xo9 ?xe10 ?xg10 ?xh10 ?xc10 ?xo10 ?xb0 ?xb9 ?xb10 ?xu0 ?xy0 ?xu1 ?xy1 ?xu2 ?xy2 ?xu3 ?xy3 ?xu4 ?xy4 ?xu5 ?xy5 ?xu6 ?xy6 ?xu7 ?xy7 ?xu8 ?xy8 ?xu9 ?xy9 ?xu10 ?xy10 ?xu11 ?xy11 ?xu12 ?xy12 ?xs9_0 ?xs9_1 ?xq9_1 ?xs9_2 ?xq9_2 ?xs9_3 ?xq9_3 ?xs9_4 ?xq9_4 ?xs9_5 ?xq9_5 ?xs9_6 ?xq9_6 ?xs9_7 ?xq9_7 ?xs9_8 ?xq9_8 ?xs9_10 ?xq9_10 ?xs9_11 ?xq9_11 ?xs9_12 ?xq9_12 ?xs10_0 ?xs10_1 ?xq10_1 ?xs10_2 ?xq10_2 ?xs10_3 ?xq10_3 ?xs10_4 ?xq10_4 ?xs10_5 ?xq10_5 ?xs10_6 ?xq10_6 ?xs10_7 ?xq10_7 ?xs10_8 ?xq10_8 ?xs10_9 ?xq10_9 ?xs10_11 ?xq10_11 ?xs10_12 ?xq10_12 ?xs9_ValueError ?xs10_ValueError ?z0 ?z1 ?z2 ?z3 ?z4 ?z5 ?z6 ?z7 ?z8 ?z9 ?z10 ?z11 ?z12 ?z13 ?z14 ?z15 ?v0 ?v1
  (case a0=>k_is)
  (case l0=>k_is)
  (case c0=>k_is)
  (case k0=>k_is)
  (case a1=>k_is)
  (case l1=>k_is)
  (case c1=>k_is)
  (case k1=>k_is)
  (case a2=>k_is)
  (case l2=>k_is)
  (case c2=>k_is)
  (case k2=>k_is)
  (case a3=>k_is)
  (case l3=>k_is)
  (case c3=>k_is)
  (case k3=>k_is)
  (case a4=>k_is)
  (case l4=>k_is)
  (case c4=>k_is)
  (case k4=>k_is)
  (case a5=>k_is)
  (case l5=>k_is)
  (case c5=>k_is)
  (case k5=>k_is)
  (case a6=>k_is)
  (case l6=>k_is)
  (case c6=>k_is)
  (case k6=>k_is)
  (case a7=>k_is)
  (case l7=>k_is)
  (case c7=>k_is)
  (case k7=>k_is)
  (case a8=>k_is)
  (case l8=>k_is)
  (case c8=>k_is)
  (case k8=>k_is)
  (case a9=>k_is)
  (case l9=>k_is)
  (case c9=>k_is)
  (case k9=>k_is)
  (case a10=>k_is)
  (case l10=>k_is)
  (case c10=>k_is)
  (case k10=>k_is)
  (case a11=>k_is)
  (case l11=>k_is)
  (case c11=>k_is)
  (case k11=>k_is)
  (case a12=>k_is)
  (case l12=>k_is)
  (case c12=>k_is)
  (case k12=>k_is)
  (case a13=>k_is)
  (case l13=>k_is)
  (case c13=>k_is)
  (case k13=>k_is)
  (case a14=>k_is)
  (case l14=>k_is)
  (case c14=>k_is)
  (case k14=>k_is)
  (case a15=>k_is)
  (case l15=>k_is)
  (case c15=>k_is)
  (case k15=>k_is)
  (case a16=>k_is)
  (case l16=>k_is)
  (case c16=>k_is)
  (case k16=>k_is)
  (case a17=>k_is)
  (case l17=>k_is)
  (case c17=>k_is)
  (case k17=>k_is)
  (case a18=>k_is)
  (case l18=>k_is)
  (case c18=>k_is)
  (case k18=>k_is)
  (case a19=>k_is)
  (case l19=>k_is)
  (case c19=>k_is)
  (case k19=>k_is)
  (case a20=>k_is)
  (case l20=>k_is)
  (case c20=>k_is)
  (case k20=>k_is)
  (case a21=>k_is)
  (case l21=>k_is)
  (case c21=>k_is)
  (case k21=>k_is)
  (case a22=>k_is)
  (case l22=>k_is)
  (case c22=>k_is)
  (case k22=>k_is)
  (case a23=>k_is)
  (case l23=>k_is)
  (case c23=>k_is)
  (case k23=>k_is)
  (case xn0=>k_is)
  (case xn1=>k_is)
  (case xn2=>k_is)
  (case xn3=>k_is)
  (case xn4=>k_is)
  (case xn5=>k_is)
  (case xn6=>k_is)
  (case xn7=>k_is)
  (case xn8=>k_is)
  (case xn9=>k_is)
  (case xn10=>k_is)
  (case xn11=>k_is)
  (case xn12=>k_is)
  (case xe9=>k_exc)
  (case xg9=>k_is)
  (case xh9=>k_is)
  (case xc9=>k_is)
  (case xo9=>k_is)
  (case xe10=>k_exc)
  (case xg10=>k_is)
  (case xh10=>k_is)
  (case xc10=>k_is)
  (case xo10=>k_is)
  (case xb0=>k_is)
  (case xb9=>k_is)
  (case xb10=>k_is)
  (case xu0=>k_is)
  (case xy0=>k_is)
  (case xu1=>k_is)
  (case xy1=>k_is)
  (case xu2=>k_is)
  (case xy2=>k_is)
  (case xu3=>k_is)
  (case xy3=>k_is)
  (case xu4=>k_is)
  (case xy4=>k_is)
  (case xu5=>k_is)
  (case xy5=>k_is)
  (case xu6=>k_is)
  (case xy6=>k_is)
  (case xu7=>k_is)
  (case xy7=>k_is)
  (case xu8=>k_is)
  (case xy8=>k_is)
  (case xu9=>k_is)
  (case xy9=>k_is)
  (case xu10=>k_is)
  (case xy10=>k_is)
  (case xu11=>k_is)
  (case xy11=>k_is)
  (case xu12=>k_is)
  (case xy12=>k_is)
  (case xs9_0=>k_is)
  (case xs9_1=>k_is)
  (case xq9_1=>decide)
  (case xs9_2=>k_is)
  (case xq9_2=>decide)
  (case xs9_3=>k_is)
  (case xq9_3=>decide)
  (case xs9_4=>k_is)
  (case xq9_4=>decide)
  (case xs9_5=>k_is)
  (case xq9_5=>decide)
  (case xs9_6=>k_is)
  (case xq9_6=>decide)
  (case xs9_7=>k_is)
  (case xq9_7=>decide)
  (case xs9_8=>k_is)
  (case xq9_8=>decide)
  (case xs9_10=>k_is)
  (case xq9_10=>decide)
  (case xs9_11=>k_is)
  (case xq9_11=>decide)
  (case xs9_12=>k_is)
  (case xq9_12=>decide)
  (case xs10_0=>k_is)
  (case xs10_1=>k_is)
  (case xq10_1=>decide)
  (case xs10_2=>k_is)
  (case xq10_2=>decide)
  (case xs10_3=>k_is)
  (case xq10_3=>decide)
  (case xs10_4=>k_is)
  (case xq10_4=>decide)
  (case xs10_5=>k_is)
  (case xq10_5=>decide)
  (case xs10_6=>k_is)
  (case xq10_6=>decide)
  (case xs10_7=>k_is)
  (case xq10_7=>decide)
  (case xs10_8=>k_is)
  (case xq10_8=>decide)
  (case xs10_9=>k_is)
  (case xq10_9=>decide)
  (case xs10_11=>k_is)
  (case xq10_11=>decide)
  (case xs10_12=>k_is)
  (case xq10_12=>decide)
  (case xs9_ValueError=>k_is)
  (case xs10_ValueError=>k_is)
  (case z0=>k_is)
  (case z1=>k_is)
  (case z2=>k_is)
  (case z3=>k_is)
  (case z4=>k_is)
  (case z5=>k_is)
  (case z6=>k_is)
  (case z7=>k_is)
  (case z8=>k_is)
  (case z9=>k_is)
  (case z10=>k_is)
  (case z11=>k_is)
  (case z12=>k_is)
  (case z13=>k_is)
  (case z14=>k_is)
  (case z15=>k_is)
  (case v0=>k_is)
  (case v1=>k_is)
#print axioms PySem.Challenge.cw_spanmap_k72_laid_holds
