import PyProof.Rows.All
import Wide.All
import OpenK.AllK
import Wide.FinOn
import Lean
import PyProof.EqAt
import PyProof.EqKinds
import PyProof.TupleCall
import PyProof.ListRange
import PyProof.P3In
import PyProof.NeData
import PyProof.NsDelKeeps
import PyProof.SliceList
import KE.KLam
import KE.KIntText
import PySem.Challenge.RW_spanmap_k84_wheels_joined
set_option Elab.async false
set_option linter.all false
set_option maxRecDepth 100000
namespace HT
def sIx (n d:Nat):Option Int->Nat
 | none=>d
 | some v=>if v < 0 then (v+(n:Int)).toNat else min v.toNat n
end HT
namespace L2
open PySem
abbrev Key:=Sum Int Str
def ixN (n:Nat) (i:Int):Option Nat:=if 0<=i then (if i < n then some i.toNat else none) else if -(n:Int)<=i then some (i+n).toNat else none
def atI {α : Type} (xs:List α) (i:Int):Option α:=(ixN xs.length i).bind fun j=>xs[j]?
end L2
namespace FL
open PySem PySem.Spec PyProof.Rows L2
def clsName:Nat->Str
 | 0=>"Put" | 1=>"Widen" | 2=>"Narrow" | 3=>"Move" | 4=>"Stretch" | 5=>"Mirror" | 6=>"Deed" | 7=>"Shut" | 8=>"Open" | 9=>"Endless" | 10=>"End" | _=>""
def clsFlds:Nat->List Str
 | 0=>["span","fill"] | 1=>["fill","at","many"] | 2=>["fill","at","many"] | 3=>["fill","far"] | 4=>["fill","top","bottom"] | 5=>["fill"] | 6=>["fill"] | 7=>["place"] | 8=>["place"] | _=>[]
def fnName:Nat->Str
 | 0=>"either" | 1=>"if_both" | 2=>"if_alone" | 3=>"summed" | 4=>"_law_first" | 5=>"_law_both" | 6=>"_law_left" | 7=>"_law_sum" | 8=>"_law_none" | _=>""
inductive D where
 | non | bl (b:Bool) | int (i:Int) | str (x:Str) | tup (ds:List D) | lst (ds:List D)
 | dct (ks:List Key) (ds:List D) | ins (t:Nat) (ds:List D) | clo (m n:Nat) (ds:List D)
mutual
def flat:D->Bool
 | .non | .bl _ | .int _ | .str _=>true
 | .tup ds=>flats ds
 | _=>false
def flats:List D->Bool
 | []=>true
 | d::r=>flat d && flats r
end
def xName:Nat->Str
 | 0=>"SpanError" | 1=>"Empty" | 2=>"NoEnd" | 3=>"Clash" | 4=>"NoCount" | 5=>"NoShare" | 6=>"NoName" | 7=>"NoMark" | 8=>"NoDeed" | 9=>"NoRule" | 10=>"TooMuch" | 11=>"NoText" | _=>"NoRow"
inductive OT where
 | val (d:D) | lst (l:List OT) | tup (l:List OT)
mutual
def otD:OT->D
 | .val d=>d
 | .lst l=>.lst (otDs l)
 | .tup l=>.tup (otDs l)
def otDs:List OT->List D
 | []=>[]
 | t::r=>otD t::otDs r
end
inductive Sl where
 | no | v (d:D) | own (l:List D) | exc (t:Nat) | fr (l:List D) | ob (r:Option Nat) (t:OT)
abbrev FE:=List Sl->Option D
abbrev FT:=List Sl->Option Bool
abbrev FA:=List Sl->Option (List D)
def mkL (f:FA):FE:=fun ds=>(f ds).map D.lst
def qW (i:Nat):FE:=fun ds=>match ds[i]? with | some (.v d)=>some d | _=>none
def zJ (i:Nat):FE:=fun ds=>match ds[i]? with | some (.v d)=>some d | some (.own l)=>some (.lst l) | _=>none
def zE (d:D):FE:=fun _=>some d
def zL (op:D->D->Option D) (fa fb:FE):FE:=fun ds=>(fa ds).bind fun x=>(fb ds).bind fun y=>op x y
def isB:D->Option Bool
 | .bl b=>some b
 | _=>none
def zU (f:FE):FT:=fun ds=>(f ds).bind isB
def xN:D->D->Option D
 | .int i,.int j=>some (.int (i+j))
 | .str x,.str y=>if x.length+y.length<=sizeLine then some (.str (x++y)) else none
 | _,_=>none
def subD:D->D->Option D
 | .int i,.int j=>some (.int (i - j))
 | _,_=>none
def divOk (j:Int):Prop:=0 < j/\j.natAbs.log2 < 9000
noncomputable instance divOkD (j:Int):Decidable (divOk j):=Classical.propDecidable _
noncomputable def qY:D->D->Option D
 | .int i,.int j=>if divOk j then some (.int (i / j)) else none
 | _,_=>none
def xL:D->D->Option D
 | .int i,.int j=>if 0 < j then some (.int (i % j)) else none
 | _,_=>none
def cmpI (p:Int->Int->Bool):D->D->Option D
 | .int i,.int j=>some (.bl (p i j))
 | _,_=>none
def andT (c d:FT):FT:=fun ds=>(c ds).bind fun b=>if b=true then d ds else some false
def orT (c d:FT):FT:=fun ds=>(c ds).bind fun b=>if b=true then some true else d ds
def notT (c:FT):FT:=fun ds=>(c ds).map not
def andV (f g:FE):FE:=fun ds=>(f ds).bind fun d=>match d with | .bl true=>g ds | .bl false=>some (.bl false) | _=>none
def orV (f g:FE):FE:=fun ds=>(f ds).bind fun d=>match d with | .bl true=>some (.bl true) | .bl false=>g ds | _=>none
def notV (f:FE):FE:=fun ds=>(f ds).bind fun d=>match d with | .bl b=>some (.bl (!b)) | _=>none
def ifV (c:FT) (f g:FE):FE:=fun ds=>(c ds).bind fun b=>if b=true then f ds else g ds
def chain (op op':D->D->Option D) (fa fb fc:FE):FE:=fun ds=>(fa ds).bind fun x=>(fb ds).bind fun y=>(op x y).bind fun z=>match z with
 | .bl true=>(fc ds).bind fun w=>op' y w
 | .bl false=>some (.bl false)
 | _=>none
def zG (f:FE) (g:FA):FA:=fun ds=>(f ds).bind fun x=>(g ds).map fun r=>x::r
def qC:FA:=fun _=>some []
def qN (f:FA):FA:=fun ds=>(f ds).bind fun l=>if l.length<=sizeLine then some l else none
def mkT (f:FA):FE:=fun ds=>(f ds).map D.tup
def ixD:D->D->Option D
 | .lst l,.int i=>atI l i
 | .tup l,.int i=>atI l i
 | .str x,.int i=>if x.length<=sizeLine then (atI x.cps.toList i).map fun c=>.str ⟨#[c]⟩ else none
 | _,_=>none
inductive Ret where
 | val (d:D) | fresh (l:List D) | any (d:D) | obj (t:OT)
def retV:Ret->Option D
 | .val d=>some d
 | .fresh l=>some (.lst l)
 | .any _=>none
 | .obj t=>some (otD t)
def retF:Ret->Option (List D)
 | .fresh l=>some l
 | _=>none
def qF (n:Nat) (F:List D->Option Ret) (g:FA):FE:=fun ds=>(g ds).bind fun l=>if l.length=n then (F l).bind retV else none
def callF (n:Nat) (F:List D->Option Ret) (g:FA):FA:=fun ds=>(g ds).bind fun l=>if l.length=n then (F l).bind retF else none
def callB (F:List D->Option D) (g:FA):FE:=fun ds=>(g ds).bind F
def lenD:List D->Option D
 | [.lst l]=>some (.int l.length)
 | [.tup l]=>some (.int l.length)
 | [.str x]=>if x.length<=sizeLine then some (.int x.length) else none
 | _=>none
inductive Out where
 | nx (ds:List Sl) | rt (r:Ret) | bk (ds:List Sl) | ct (ds:List Sl)
abbrev FS:=List Sl->Option Out
def qO:FS:=fun ds=>some (.nx ds)
def qG (f g:FS):FS:=fun ds=>(f ds).bind fun o=>match o with | .nx ds'=>g ds' | o=>some o
def ifG (c:FT) (f g:FS):FS:=fun ds=>(c ds).bind fun b=>if b=true then f ds else g ds
def jM (i:Nat) (f:FE):FS:=fun ds=>(f ds).map fun d=>.nx (ds.set i (.v d))
def setOG (i:Nat) (f:FA):FS:=fun ds=>(f ds).map fun l=>.nx (ds.set i (.own l))
def flatR (d:D):Option Out:=if flat d=true then some (.rt (.val d)) else none
def retG (f:FE):FS:=fun ds=>(f ds).bind flatR
def flatF (l:List D):Option Out:=if flats l=true then some (.rt (.fresh l)) else none
def retOG (f:FA):FS:=fun ds=>(f ds).bind flatF
def retXG (i:Nat):FS:=fun ds=>match ds[i]? with | some (.own l)=>flatF l | _=>none
def putG (i:Nat) (fk fe:FE):FS:=fun ds=>match ds[i]? with
 | some (.own l) => (fe ds).bind fun d => (fk ds).bind fun k => match k with
   | .int n=>(ixN l.length n).map fun j=>.nx (ds.set i (.own (l.set j d)))
   | _=>none
 | _=>none
def appG (i:Nat) (fe:FE):FS:=fun ds=>match ds[i]? with
 | some (.own l)=>(fe ds).bind fun d=>if l.length < sizeLine then some (.nx (ds.set i (.own (l++[d])))) else none
 | _=>none
def args (n:Nat) (ds:List D):List Sl:=ds.map Sl.v++List.replicate (n - ds.length) Sl.no
def viaA (f:FE) (k:D->Option (List D)):FA:=fun ds=>(f ds).bind k
def rangeD (lo:Int) (n:Nat):List D:=(List.range n).map fun (k:Nat)=>D.int (lo+(k:Int))
def okR (j:Int):Prop:=-(2 ^ 62)<=j/\j < 2 ^ 62
noncomputable instance okRD (j:Int):Decidable (okR j):=Classical.propDecidable _
noncomputable def rng1 (f:FE):FA:=fun ds=>(f ds).bind fun d=>match d with | .int j=>if okR j then some (rangeD 0 j.toNat) else none | _=>none
def zT (i:Nat):D->List Sl->Option (List Sl):=fun d ds=>some (ds.set i (.v d))
def tgNil:List D->List Sl->Option (List Sl)
 | [],ds=>some ds
 | _,_=>none
def zO (g:D->List Sl->Option (List Sl)) (h:List D->List Sl->Option (List Sl)):List D->List Sl->Option (List Sl)
 | d::r,ds=>(g d ds).bind fun ds'=>h r ds'
 | _,_=>none
def tupG (n:Nat) (h:List D->List Sl->Option (List Sl)):D->List Sl->Option (List Sl)
 | .tup l,ds=>if l.length=n then h l ds else none
 | _,_=>none
def qS (ga:D->List Sl->Option (List Sl)) (body:FS):List D->List Sl->Option Out
 | [],ds=>some (.nx ds)
 | d :: r, ds => (ga d ds).bind fun ds1 => (body ds1).bind fun o => match o with
   | .nx ds2=>qS ga body r ds2
   | .ct ds2=>qS ga body r ds2
   | .bk ds2=>some (.nx ds2)
   | .rt r=>some (.rt r)
def forG (fi:FA) (ga:D->List Sl->Option (List Sl)) (body:FS):FS:=fun ds=>(fi ds).bind fun items=>qS ga body items ds
def compL (ga:D->List Sl->Option (List Sl)) (tt:FT) (fe:FE) (s0:List Sl):List D->Option (List D)
 | []=>some []
 | d::r=>(ga d s0).bind fun ds1=>(tt ds1).bind fun b=>if b=true then (fe ds1).bind fun y=>(compL ga tt fe s0 r).map fun ys=>y::ys else compL ga tt fe s0 r
def jS (mp:List (Option Nat)) (ds:List Sl):List Sl:=mp.map fun o=>match o with
 | some j=>(match ds[j]? with | some (.v d)=>.v d | _=>.no)
 | none=>.no
def compG (fi:FA) (mp:List (Option Nat)) (ga:D->List Sl->Option (List Sl)) (tt:FT) (fe:FE):FA:=fun ds=>(fi ds).bind fun items=>if items.length<=sizeLine then compL ga tt fe (jS mp ds) items else none
def tyD:D->Option String
 | .non=>some "NoneType"
 | .bl _=>some "bool"
 | .int _=>some "int"
 | .str _=>some "str"
 | .tup _=>some "tuple"
 | .lst _=>some "list"
 | .dct _ _=>some "dict"
 | .ins _ _=>none
 | .clo _ _ _=>none
def kitN:List String:=["NoneType","bool","int","str","tuple","list","dict"]
def kitT:List String:=["bool","int","str","tuple","list","dict"]
def kitF (t T:String):Option Bool:=if t∈kitN/\T∈kitT then some (t == T || (t == "bool" && T == "int")) else none
def isiD (T:String) (d:D):Option D:=(tyD d).bind fun t=>(kitF t T).map D.bl
def isiG (T:String) (f:FE):FE:=fun ds=>(f ds).bind (isiD T)
def blsD:List D->Option (List Bool)
 | []=>some []
 | .bl b::r=>(blsD r).map fun bs=>b::bs
 | _=>none
def allD:List D->Option D
 | [.lst l]=>(blsD l).map fun bs=>.bl (bs.all id)
 | _=>none
def negD:D->Option D
 | .int i=>some (.int (-i))
 | _=>none
def un1 (op:D->Option D) (f:FE):FE:=fun ds=>(f ds).bind op
def flV (f:FE):FE:=fun ds=>(f ds).bind fun d=>if flat d=true then some d else none
def retDG (f:FE):FS:=fun ds=>(f ds).map fun d=>.rt (.val d)
def runG (g:FS) (n:Nat):List D->Option Ret:=fun ds=>match g (args n ds) with
 | some (.rt r)=>some r
 | some (.nx _)=>some (.val .non)
 | _=>none
def CPowB (i j:Int):Prop:=0<=j/\(Builtin.Int.intBits i:Int) * j<=2 ^ 27
mutual
def toPy:D->PyData
 | .non=>.none
 | .bl b=>.bool b
 | .int i=>.int i
 | .str x=>.str x
 | .tup ds=>.tuple (toPys ds)
 | .lst ds=>.list (toPys ds)
 | .dct _ _=>.none
 | .ins _ _=>.none
 | .clo _ _ _=>.none
def toPys:List D->List PyData
 | []=>[]
 | d::r=>toPy d::toPys r
end
mutual
def shal:Nat->D->Bool
 | _,.non=>true
 | _,.bl _=>true
 | _,.int _=>true
 | _,.str x=>PyData.strOk x
 | n,.tup ds=>shals n ds
 | n,.lst ds=>shals n ds
 | _,.dct _ _=>false
 | _,.ins _ _=>false
 | _,.clo _ _ _=>false
def shals:Nat->List D->Bool
 | _,[]=>true
 | 0,_::_=>false
 | n+1,d::r=>shal n d && shals (n+1) r
end
def eqvD (x y:D):Bool:=PyData.eqv (toPy x) (toPy y)
def eqvs (x y:List D):Bool:=PyData.eqvAll (toPys x) (toPys y)
def eqD (x y:D):Option D:=if shal 40 x=true/\shal 40 y=true then some (.bl (eqvD x y)) else none
def neD (x y:D):Option D:=if shal 40 x=true/\shal 40 y=true then some (.bl (!eqvD x y)) else none
def isD:D->D->Option D
 | .non,.non=>some (.bl true)
 | _,.non=>some (.bl false)
 | _,_=>none
def notD:D->D->Option D
 | .non,.non=>some (.bl false)
 | _,.non=>some (.bl true)
 | _,_=>none
def asLT:D->Option (List D)
 | .lst l=>some l
 | .tup l=>some l
 | _=>none
noncomputable instance mulOkD (i j:Int):Decidable (IntMulOk i j):=Classical.propDecidable _
noncomputable instance powOkD (i j:Int):Decidable (CPowB i j):=Classical.propDecidable _
noncomputable def yT:D->D->Option D
 | .int i,.int j=>if IntMulOk i j then some (.int (i * j)) else none
 | _,_=>none
noncomputable def powD:D->D->Option D
 | .int i,.int j=>if CPowB i j then some (.int (i ^ j.toNat)) else none
 | _,_=>none
def catA (fa fb:FE):FA:=fun ds=>(fa ds).bind fun x=>(fb ds).bind fun y=>match x,y with
 | .lst a,.lst b=>if a.length+b.length<=sizeLine then some (a++b) else none
 | _,_=>none
def noP:List Sl->Option (Option Int):=fun _=>some none
def soP (f:FE):List Sl->Option (Option Int):=fun ds=>(f ds).bind fun d=>match d with | .int i=>some (some i) | _=>none
def cutD (l:List D) (lo hi:Option Int):List D:=(l.drop (HT.sIx l.length 0 lo)).take (HT.sIx l.length l.length hi - HT.sIx l.length 0 lo)
def sliA (f:FE) (lo hi:List Sl->Option (Option Int)):FA:=fun ds=>(f ds).bind fun d=>(lo ds).bind fun a=>(hi ds).bind fun b=>match d with
 | .lst l=>some (cutD l a b)
 | _=>none
def lisA (f:FE):FA:=fun ds=>(f ds).bind asLT
def mxD:List D->Option D
 | [.int i,.int j]=>some (.int (if j > i then j else i))
 | _=>none
def mnD:List D->Option D
 | [.int i,.int j]=>some (.int (if j < i then j else i))
 | _=>none
def absD:List D->Option D
 | [.int i]=>some (.int (if i < 0 then -i else i))
 | _=>none
def truD:D->Option Bool
 | .non=>some false
 | .bl b=>some b
 | .int i=>some (i != 0)
 | .str x=>if x.length<=sizeLine then some ((x.length:Int) != 0) else none
 | .tup l=>some (!l.isEmpty)
 | .lst l=>some (!l.isEmpty)
 | _=>none
def testT (f:FE):FT:=fun ds=>(f ds).bind truD
def relS (i:Nat) (ds:List Sl):List Sl:=match ds[i]? with | some (.own l)=>ds.set i (.v (.lst l)) | _=>ds
def whileN (c:FT) (b:FS):Nat->FS
 | 0,_=>none
 | n + 1, ds => (c ds).bind fun k => if k = true then (b ds).bind fun o => match o with
   | .nx ds2=>whileN c b n ds2
   | .ct ds2=>whileN c b n ds2
   | .bk ds2=>some (.nx ds2)
   | .rt r=>some (.rt r) else some (.nx ds)
def asgG (ga:D->List Sl->Option (List Sl)) (f:FE):FS:=fun ds=>(f ds).bind fun d=>(ga d ds).map .nx
def extG (i:Nat) (fe:FA):FS:=fun ds=>match ds[i]? with
 | some (.own l)=>(fe ds).bind fun d=>if l.length+d.length<=sizeLine then some (.nx (ds.set i (.own (l++d)))) else none
 | _=>none
def clrG (i:Nat):FS:=fun ds=>match ds[i]? with
 | some (.own l)=>some (.nx (ds.set i (.own [])))
 | _=>none
def anyD:List D->Option D
 | [.lst l]=>(blsD l).map fun bs=>.bl (bs.any id)
 | _=>none
def ltD:D->D->Option D:=cmpI fun i j=>decide (i < j)
def leD:D->D->Option D:=cmpI fun i j=>decide (i<=j)
def gtD:D->D->Option D:=cmpI fun i j=>decide (j < i)
def geD:D->D->Option D:=cmpI fun i j=>decide (j<=i)
noncomputable def rng2 (fa fb:FE):FA:=fun ds=>(fa ds).bind fun x=>(fb ds).bind fun y=>match x,y with
 | .int i,.int j=>if okR i/\okR j then some (rangeD i (j - i).toNat) else none
 | _,_=>none
def range3D (lo c:Int) (n:Nat):List D:=(List.range n).map fun (k:Nat)=>D.int (lo+(k:Int) * c)
def steps3 (i j c:Int):Nat:=if i < j then ((j - i - 1) / c+1).toNat else 0
def okR3 (i j c:Int):Prop:=-(2 ^ 61)<=i/\i < 2 ^ 61/\-(2 ^ 61)<=j/\j < 2 ^ 61/\0 < c/\c < 1000000
noncomputable instance okR3D (i j c:Int):Decidable (okR3 i j c):=Classical.propDecidable _
noncomputable def rng3 (fa fb fc:FE):FA:=fun ds=>(fa ds).bind fun x=>(fb ds).bind fun y=>(fc ds).bind fun z=>match x,y,z with
 | .int i,.int j,.int c=>if okR3 i j c then some (range3D i c (steps3 i j c)) else none
 | _,_,_=>none
def revA (f:FE):FA:=fun ds=>(f ds).bind fun d=>match d with
 | .lst l=>some l.reverse
 | _=>none
def augA (i:Nat) (f:FE):FS:=fun ds=>(qW i ds).bind fun x=>(f ds).bind fun y=>match x,y with
 | .int a,.int b=>some (.nx (ds.set i (.v (.int (a+b)))))
 | _,_=>none
def parG (i j:Nat) (f:FA):FS:=fun ds=>(f ds).bind fun l=>match l with
 | [a,b]=>some (.nx ((ds.set i (.v a)).set j (.v b)))
 | _=>none
def int1D:List D->Option D
 | [.int i]=>some (.int i)
 | [.bl b]=>some (.int (if b then 1 else 0))
 | _=>none
abbrev Fun2:=D->List D->Option Ret
mutual
def noclo:D->Bool
 | .tup ds=>noclos ds
 | .lst ds=>noclos ds
 | .dct _ ds=>noclos ds
 | .ins _ ds=>noclos ds
 | .clo _ _ _=>false
 | _=>true
def noclos:List D->Bool
 | []=>true
 | d::r=>noclo d && noclos r
end
def capsA:List Nat->FA
 | []=>fun _=>some []
 | i::r=>fun ds=>(qW i ds).bind fun d=>(capsA r ds).map fun l=>d::l
def callW (Φ : Fun2) (i:Nat) (g:FA):FE:=fun ds=>(qW i ds).bind fun f=>(g ds).bind fun l=>(Φ f l).bind retV
end FL
namespace FL
open PySem PyProof.Rows L2
def isBV (x:D) (b:Bool):Bool:=match x with
 | .bl c=>c == b
 | _=>false
def isBD (x y:D):Option D:=match y with
 | .bl b=>some (.bl (isBV x b))
 | _=>none
def fldD (ix:List (Nat×Nat)):D->Option D
 | .ins t ds=>(ix.lookup t).bind fun i=>ds[i]?
 | _=>none
def fldG (ix:List (Nat×Nat)) (f:FE):FE:=fun ds=>(f ds).bind (fldD ix)
def methR (n:Nat) (cs:List Nat) (F:Nat->List D->Option Ret) (o:D) (l:List D):Option Ret:=match o with
 | .ins t es=>if t∈cs/\l.length=n then F t (.ins t es::l) else none
 | _=>none
def methV (n:Nat) (cs:List Nat) (F:Nat->List D->Option Ret) (fo:FE) (g:FA):FE:=fun ds=>(fo ds).bind fun o=>(g ds).bind fun l=>(methR n cs F o l).bind retV
def methF (n:Nat) (cs:List Nat) (F:Nat->List D->Option Ret) (fo:FE) (g:FA):FA:=fun ds=>(fo ds).bind fun o=>(g ds).bind fun l=>(methR n cs F o l).bind retF
def makeG (t n:Nat) (G:List D->Option (List D)) (g:FA):FE:=fun ds=>(g ds).bind fun l=>if l.length=n/\flats l=true then (G l).map (D.ins t) else none
end FL
namespace FL
open PySem
def ifX (c:FT) (a b:List Sl->Bool):List Sl->Bool:=fun ds=>match c ds with
 | some true=>a ds
 | some false=>b ds
 | none=>false
def neverX:List Sl->Bool:=fun _=>false
def alwaysX:List Sl->Bool:=fun _=>true
def seqX (f:FS) (x:List Sl->Bool):List Sl->Bool:=fun ds=>match f ds with
 | some (.nx ds')=>x ds'
 | _=>false
def callX (n:Nat) (R:List D->Bool) (g:FA):List Sl->Bool:=fun ds=>match g ds with
 | some l=>decide (l.length=n) && R l
 | none=>false
def runX (x:List Sl->Bool) (n:Nat):List D->Bool:=fun ds=>x (args n ds)
def enumD (l:List D):List D:=l.mapIdx fun i d=>.tup [.int (i:Int),d]
def enuA (f:FE):FA:=fun ds=>(f ds).bind fun d=>match d with
 | .lst l=>some (enumD l)
 | _=>none
def okRB (i j:Int):Prop:=-(2 ^ 61)<=i/\i < 2 ^ 61/\-(2 ^ 61)<=j/\j < 2 ^ 61
noncomputable instance okRBD (i j:Int):Decidable (okRB i j):=Classical.propDecidable _
noncomputable def rngB (fa fb fc:FE):FA:=fun ds=>(fa ds).bind fun x=>(fb ds).bind fun y=>(fc ds).bind fun z=>match x,y,z with
 | .int i,.int j,.int c=>if c = -1/\okRB i j then some (range3D i (-1) (i - j).toNat) else none
 | _,_,_=>none
def flA (f:FA):FA:=fun ds=>(f ds).bind fun l=>if flats l=true then some l else none
def getO (i:Nat):FE:=fun ds=>match ds[i]? with
 | some (.own l)=>if flats l=true then some (.lst l) else none
 | _=>none
end FL
namespace FL
def sltW (f:FE) (lo hi:List Sl->Option (Option Int)):FE:=fun ds=>(f ds).bind fun d=>(lo ds).bind fun a=>(hi ds).bind fun b=>match d with
 | .tup l=>some (.tup (cutD l a b))
 | _=>none
end FL
namespace FL
open PySem PyProof.Rows L2
def phiOf (l:List ((Nat×Nat)×(List D->List D->Option Ret))):Fun2:=fun f as=>match f with
 | .clo m n caps=>(l.lookup (m,n)).bind fun F=>F caps as
 | _=>none
def cloV (m n:Nat) (is:List Nat):FE:=fun ds=>(capsA is ds).map (.clo m n)
def lamS (n:Nat) (g:FS) (caps as:List D):Option Ret:=if as.length=n then (match g ((as++caps).map Sl.v) with
 | some (.rt r)=>some r
 | some (.nx _)=>some (.val .non)
 | _=>none) else none
def flatC:D->Bool
 | .clo _ _ cs=>flats cs
 | d=>flat d
def retCG (f:FE):FS:=fun ds=>(f ds).bind fun d=>if flatC d=true then some (.rt (.val d)) else none
def rngL (fa fb:FE):FA:=fun ds=>(fa ds).bind fun x=>(fb ds).bind fun y=>match x,y with
 | .int i,.int j=>some (rangeD i (j - i).toNat)
 | _,_=>none
@[simp] theorem rngL_eq (fa fb:FE) (ds:List Sl):rngL fa fb ds=(fa ds).bind fun x=>(fb ds).bind fun y=>match x,y with
 | .int i,.int j=>some (rangeD i (j - i).toNat)
 | _,_=>none:=rfl
def tryNG (g:FS) (x:List Sl->Bool) (h:FS):FS:=fun ds=>if x ds=true then h ds else g ds
noncomputable instance mulOkSD (x:Str) (n:Int):Decidable (MulOk x n):=Classical.propDecidable _
abbrev FO:=List Sl->Option OT
abbrev FOs:=List Sl->Option (List OT)
def getN (i:Nat):FE:=fun ds=>match ds[i]? with
 | some (.v d)=>some d
 | some (.own l)=>some (.lst l)
 | some (.ob _ t)=>some (otD t)
 | _=>none
def vO (f:FE):FO:=fun ds=>(f ds).map OT.val
def lO (f:FA):FO:=fun ds=>(f ds).map fun l=>.lst (l.map OT.val)
def nilO:FOs:=fun _=>some []
def consO (f:FO) (g:FOs):FOs:=fun ds=>(f ds).bind fun x=>(g ds).map fun r=>x::r
def tO (f:FOs):FO:=fun ds=>(f ds).bind fun l=>if l.length<=sizeLine then some (.tup l) else none
def sO (f:FOs):FO:=fun ds=>(f ds).bind fun l=>if l.length<=sizeLine then some (.lst l) else none
def setB (i:Nat) (f:FO):FS:=fun ds=>(f ds).map fun t=>.nx (ds.set i (.ob none t))
mutual
def flatO:OT->Bool
 | .val d=>flat d
 | .lst l=>flatOs l
 | .tup l=>flatOs l
def flatOs:List OT->Bool
 | []=>true
 | t::r=>flatO t && flatOs r
end
def subO:List Nat->OT->Option OT
 | [],t=>some t
 | k::p,.tup l=>(l[k]?).bind (subO p)
 | k::p,.lst l=>(l[k]?).bind (subO p)
 | _::_,.val _=>none
def isL:OT->Bool
 | .lst _=>true
 | _=>false
def clrT:List Nat->OT->OT
 | [],_=>.lst []
 | k::p,.tup l=>.tup (l.modify k (clrT p))
 | k::p,.lst l=>.lst (l.modify k (clrT p))
 | _::_,.val d=>.val d
def clrP (i:Nat) (p:List Nat):FS:=fun ds=>match ds[i]? with
 | some (.ob r t) => (match subO p t with
   | some u=>if isL u=true then some (.nx (ds.set i (.ob r (clrT p t)))) else none
   | none=>none)
 | _=>none
@[simp] theorem getN_eq (i:Nat) (ds:List Sl):getN i ds=match ds[i]? with
 | some (.v d)=>some d
 | some (.own l)=>some (.lst l)
 | some (.ob _ t)=>some (otD t)
 | _=>none:=rfl
@[simp] theorem vO_eq (f:FE) (ds:List Sl):vO f ds=(f ds).map OT.val:=rfl
@[simp] theorem lO_eq (f:FA) (ds:List Sl):lO f ds=(f ds).map fun l=>.lst (l.map OT.val):=rfl
@[simp] theorem nilO_eq (ds:List Sl):nilO ds=some []:=rfl
@[simp] theorem consO_eq (f:FO) (g:FOs) (ds:List Sl):consO f g ds=(f ds).bind fun x=>(g ds).map fun r=>x::r:=rfl
@[simp] theorem tO_eq (f:FOs) (ds:List Sl):tO f ds=(f ds).bind fun l=>if l.length<=sizeLine then some (.tup l) else none:=rfl
@[simp] theorem setB_eq (i:Nat) (f:FO) (ds:List Sl):setB i f ds=(f ds).map fun t=>.nx (ds.set i (.ob none t)):=rfl
theorem otDs_vals:∀ l:List D,otDs (l.map OT.val)=l
 | []=>by simp [otDs]
 | d::r=>by simp [otDs,otD,otDs_vals r]
end FL
namespace L2
open PySem PySem.Spec PyProof.Rows
def keyIs:Key->Value->Bool
 | .inl k,v=>Value.isInt k v
 | .inr x,v=>Value.isStrOf x v
def keyH (w:World):Key->Int
 | .inl k=>hashInt k
 | .inr x=>hashStr w x
theorem jE:∀ {k:Key} {v:Value},keyIs k v=true->(∃ i t,k=Sum.inl i/\v=Value.int i t) \/ (∃ x t,k=Sum.inr x/\v=Value.str x t)
 | .inl i, v, h => by
   obtain ⟨t,e⟩:=Value.isInt_shape (k:=i) (v:=v) h
   exact .inl ⟨i,t,rfl,e⟩
 | .inr x, v, h => by
   obtain ⟨t,e⟩:=Value.isStrOf_shape (x:=x) (v:=v) h
   exact .inr ⟨x,t,rfl,e⟩
theorem key_ll (a b:Int):decide ((Sum.inl a:Key)=Sum.inl b)=(a == b):=by
 by_cases e:a=b
 · subst e; simp
 · have h : ¬ (Sum.inl a : Key) = Sum.inl b := fun q => e (Sum.inl.inj q)
   rw [decide_eq_false h]
   exact (beq_eq_false_iff_ne.mpr e).symm
theorem key_rr (a b:Str):decide ((Sum.inr a:Key)=Sum.inr b)=decide (a=b):=by
 by_cases e:a=b
 · subst e; simp
 · have h : ¬ (Sum.inr a : Key) = Sum.inr b := fun q => e (Sum.inr.inj q)
   rw [decide_eq_false h,decide_eq_false e]
theorem key_lr (a:Int) (b:Str):decide ((Sum.inl a:Key)=Sum.inr b)=false:=decide_eq_false (fun q=>nomatch q)
theorem key_rl (a:Str) (b:Int):decide ((Sum.inr a:Key)=Sum.inl b)=false:=decide_eq_false (fun q=>nomatch q)
def mixKind (prog:Program) (w:World):PySem.KeyKind prog w Key where
 is:=keyIs
 hash:=keyH w
 inj:=fun v a b ha hb=>by
  rcases jE ha with ⟨i,t,rfl,rfl⟩ | ⟨x,t,rfl,rfl⟩
  · rcases jE hb with ⟨j, u, rfl, e⟩ | ⟨y, u, rfl, e⟩
    · injection e with e1 _; rw [e1]
    · exact nomatch e
  · rcases jE hb with ⟨j, u, rfl, e⟩ | ⟨y, u, rfl, e⟩
    · exact nomatch e
    · injection e with e1 _; rw [e1]
 byValue:=fun k v h=>by
  rcases jE h with ⟨i,t,rfl,rfl⟩ | ⟨x,t,rfl,rfl⟩ <;> rfl
 pyHash:=fun hv h=>by
  rcases jE hv with ⟨i,t,rfl,rfl⟩ | ⟨x,t,rfl,rfl⟩
  · exact wpAny_pyHash_int h
  · exact wpAny_pyHash_str h
 eqBool:=fun hu hv h=>by
  rcases jE hu with ⟨i,t,rfl,rfl⟩ | ⟨x,t,rfl,rfl⟩
  · rcases jE hv with ⟨j, u, rfl, rfl⟩ | ⟨y, u, rfl, rfl⟩
    · rw [key_ll] at h; exact wpAny_eqBool_int h
    · rw [key_lr] at h; exact SeqAt.EqAt.int_str i t y u _ _ _ _ h
  · rcases jE hv with ⟨j, u, rfl, rfl⟩ | ⟨y, u, rfl, rfl⟩
    · rw [key_rl] at h; exact SeqAt.EqAt.str_int x t j u _ _ _ _ h
    · rw [key_rr] at h; exact wpAny_eqBool_str h
 «strs»:=fun k x t v h=>by
  rcases jE h with ⟨i,u,rfl,e⟩ | ⟨y,u,rfl,e⟩
  · exact nomatch e
  · injection e with e1 _
    subst e1
    cases v <;> rfl
end L2
namespace L2
open PySem PySem.Spec PyProof.Rows
inductive V where
 | non | bl (b:Bool) | int (i:Int) | str (x:Str) | byt (b:Array UInt8) | flt (b:UInt64) | ref (a:Addr) | ty (n:String)
 deriving DecidableEq
def RelV:V->Value->Prop
 | .non,u=>u=Value.none
 | .bl b,u=>u=Value.bool b
 | .int i,u=>∃ t,u=Value.int i t
 | .str x,u=>∃ t,u=Value.str x t
 | .byt b,u=>∃ t,u=Value.bytes b t
 | .flt b,u=>∃ t,u=Value.float b t
 | .ref a,u=>u=Value.ref a
 | .ty n,u=>u=Value.type n
abbrev Vals:List V->List Value->Prop:=Paired RelV
theorem Vals.length {xs:List V} {us:List Value} (r:Vals xs us):xs.length=us.length:=Paired.length r
theorem Vals.get:∀ {xs:List V} {us:List Value} {i:Nat} {x:V},Vals xs us->xs[i]? = some x->∃ u,us[i]? = some u/\RelV x u
 | _,_,_,_,.nil,e=>by simp at e
 | _,_,0,_,.cons r _,e=>by simp at e; subst e; exact ⟨_,rfl,r⟩
 | _, _, i + 1, x, .cons _ t, e => by
   obtain ⟨u,h1,h2⟩:=Vals.get (i:=i) (x:=x) t (by simpa using e)
   exact ⟨u,by simpa using h1,h2⟩
theorem Vals.set {x:V} {u:Value} (r:RelV x u):∀ {xs:List V} {us:List Value} (i:Nat),Vals xs us->Vals (xs.set i x) (us.set i u)
 | _,_,_,.nil=>.nil
 | _,_,0,.cons _ t=>.cons r t
 | _,_,i+1,.cons q t=>.cons q (Vals.set r i t)
theorem Vals.append:∀ {xs ys:List V} {us ws:List Value},Vals xs us->Vals ys ws->Vals (xs++ys) (us++ws)
 | _,_,_,_,.nil,s=>s
 | _,_,_,_,.cons r t,s=>.cons r (Vals.append t s)
theorem Vals.take:∀ {xs:List V} {us:List Value} (n:Nat),Vals xs us->Vals (xs.take n) (us.take n)
 | _,_,0,_=>.nil
 | _,_,_+1,.nil=>.nil
 | _,_,n+1,.cons r t=>.cons r (Vals.take n t)
theorem Vals.drop:∀ {xs:List V} {us:List Value} (n:Nat),Vals xs us->Vals (xs.drop n) (us.drop n)
 | _,_,0,r=>r
 | _,_,_+1,.nil=>.nil
 | _,_,n+1,.cons _ t=>Vals.drop n t
def RelO:Option V->Option Value->Prop
 | some v,some u=>RelV v u
 | none,none=>True
 | _,_=>False
def KV {κ : Type} : List (κ×V)->List (κ×Value)->Prop:=Paired fun (p : κ×V) (q : κ×Value)=>p.1=q.1/\RelV p.2 q.2
def kV:Key->V
 | .inl i=>.int i
 | .inr x=>.str x
inductive HO where
 | lst (xs:List V)
 | tup (xs:List V)
 | dK (kvs:List (Key×V)) | dT (kvs:List (List Key×V))
 | set (S:Int->Bool) (n:Nat)
 | ins (C dx:Addr) (fs:List (Str×V))
 | own (x:Addr)
 | xd (fs:List (Str×V))
 | met (f x:Addr)
 | rng (lo hi:Int)
 | frz (o:Obj) (u:HO)
 | tbl (q:Nat->Nat->Str)
 | ext (φ : Heap->Prop)
abbrev Hp:=Addr->Option HO
def upd (H:Hp) (a:Addr) (o:HO):Hp:=fun b=>if b=a then some o else H b
theorem qK {H:Hp} {a:Addr} {o:HO} : upd H a o a=some o:=by unfold upd; rw [if_pos rfl]
theorem qA {H:Hp} {a b:Addr} {o:HO} (h:b≠a):upd H a o b=H b:=by unfold upd; rw [if_neg h]
theorem jJ {H:Hp} {a b:Addr} {o:HO} (h:H a=some o) (h':H b=none):a≠b:=by
 intro e; subst e; rw [h] at h'; cases h'
def TblOk (H:Hp) (q:Nat->Nat->Str) (ps:Array Value):Prop:=TriplesOk ps.toList/\∀ pos v,codeAmong pos ps.toList=some v->∃ c o u vs t,v = .ref c/\H c=some (.frz o u)/\o.data = .fields vs/\vs[1]? = some (.str (q pos.line pos.col) t)
def Fixed:HO->Prop
 | .tup _=>True
 | .frz o _=>∃ vs,o.data = .fields vs
 | _=>False
def Fx:={ u:HO // Fixed u }
section
variable (P:Program) (w:World)
def ObjOk (H:Hp) (h:Heap) (a:Addr):HO->Prop
 | .lst xs=>xs.length<=sizeLine/\∃ (its:List Value) (n:Nat),Vals xs its/\h.get? a=some { cls:=.type "list",data:=.seq its.toArray n }
 | .tup xs=>xs.length<=sizeLine/\∃ its:List Value,Vals xs its/\IsTup h a its.toArray
 | .dK kvs=>kvs.length<=sizeLine/\(a == sysModules)=false/\∃ vs,KV kvs vs/\h.DictOf (mixKind P w) a vs
 | .dT kvs=>kvs.length<=sizeLine/\(a == sysModules)=false/\∃ xs:List (List Key×Addr×Value),
    Paired (fun (p:List Key×V) (q:List Key×Addr×Value)=>p.1=q.1/\H q.2.1=some (.tup (p.1.map kV))/\RelV p.2 q.2.2) kvs xs ∧
    ∃ o es ep,h.get? a=some o/\o.ExactDict/\o.data = .dict es ep/\es.toList=xs.map (entryOfKey (tupleKind (mixKind P w)))/\(xs.map (·.1)).Nodup
 | .set S n=>h.SetOf (intKind P w) a S n
 | .ins C dx fs=>H dx=some (.own a)/\fs.length<=1000/\dx≠a/\h.get? a=some (PySem.W.instObj C dx) ∧
    ∃ mA,h.Ns1 dx mA/\(∀ f,RelO (fs.lookup f) (mA f))/\PySem.Within mA (fs.map (·.1))
 | .own _=>∃ o,h.get? a=some o
 | .xd fs=>∃ mA,h.Ns1 a mA/\∀ f,RelO (fs.lookup f) (mA f)
 | .rng lo hi=>∃ t u v,h.get? a=some { cls:=.type "range",data:=.fields #[.int lo t,.int hi u,.int 1 v] }
 | .frz o u=>h.get? a=some o/\ObjOk H h a u
 | .tbl q=>∃ ps,h.get? a=some (PySem.W.tabObj ps)/\TblOk H q ps
 | .met f x=>h.get? a=some (PySem.W.methodObj (.ref f) (.ref x))
 | .ext φ=>φ h/\(∃ o,h.get? a=some o)/\∀ h1 h2:Heap,φ h1->(∀ o,h1.get? a=some o->h2.get? a=some o)->φ h2
def HOk (H:Hp) (h:Heap):Prop:=∀ a o,H a=some o->ObjOk P w H h a o
end
section
variable {P:Program} {w:World} {H H':Hp} {h h':Heap} {a:Addr} {o:HO}
theorem ObjOk.lt (x:ObjOk P w H h a o):a < h.objs.size:=by
 cases o with
 | lst xs=>obtain ⟨_,_,_,_,e⟩:=x; exact Heap.lt_size e
 | tup xs=>obtain ⟨_,_,_,p⟩:=x; exact p.lt
 | dK kvs=>obtain ⟨_,_,_,_,o,_,_,e,_⟩:=x; exact Heap.lt_size e
 | dT kvs=>obtain ⟨_,_,_,_,o,_,_,e,_⟩:=x; exact Heap.lt_size e
 | set S n=>obtain ⟨o,_,_,_,e,_⟩:=x; exact Heap.lt_size e
 | ins C dx fs=>obtain ⟨_,_,_,e,_⟩:=x; exact Heap.lt_size e
 | own y=>obtain ⟨_,e⟩:=x; exact Heap.lt_size e
 | xd fs=>obtain ⟨_,⟨_,_,_,e,_⟩,_⟩:=x; exact Heap.lt_size e
 | rng lo hi=>obtain ⟨_,_,_,e⟩:=x; exact Heap.lt_size e
 | frz ob u=>obtain ⟨e,_⟩:=x; exact Heap.lt_size e
 | tbl q=>obtain ⟨_,e,_⟩:=x; exact Heap.lt_size e
 | met f y=>exact Heap.lt_size (show h.get? a=some _ from x)
 | ext φ=>obtain ⟨_,⟨_,e⟩,_⟩:=x; exact Heap.lt_size e
theorem Paired.mapP {α β : Type} {F G : α->β->Prop} : ∀ {l₁ : List α} {l₂ : List β},Paired F l₁ l₂->(∀ a b,F a b->G a b)->Paired G l₁ l₂
 | _,_,.nil,_=>.nil
 | _,_,.cons r t,f=>.cons (f _ _ r) (Paired.mapP t f)
theorem ObjOk.stay (x:ObjOk P w H h a o) (k:∀ b u,(b=a \/ H b=some (.own a))->h.get? b=some u->h'.get? b=some u)
  (ho:∀ b,H b=some (.own a)->H' b=some (.own a)) (ht:∀ b (xs:Fx),H b=some xs.1->H' b=some xs.1):ObjOk P w H' h' a o:=by
 induction o with
 | lst xs=>obtain ⟨z,its,n,r,e⟩:=x; exact ⟨z,its,n,r,k _ _ (.inl rfl) e⟩
 | tup xs=>obtain ⟨z,its,r,ob,e,c⟩:=x; exact ⟨z,its,r,ob,k _ _ (.inl rfl) e,c⟩
 | dK kvs=>obtain ⟨z,y,vs,r,ob,es,ep,e,c⟩:=x; exact ⟨z,y,vs,r,ob,es,ep,k _ _ (.inl rfl) e,c⟩
 | dT kvs =>
   obtain ⟨z,y,xs,r,ob,es,ep,e,c⟩:=x
   exact ⟨z,y,xs,Paired.mapP r fun p q z=>⟨z.1,ht _ ⟨.tup _,trivial⟩ z.2.1,z.2.2⟩,ob,es,ep,k _ _ (.inl rfl) e,c⟩
 | set S n=>obtain ⟨ob,es,ep,t,e,c⟩:=x; exact ⟨ob,es,ep,t,k _ _ (.inl rfl) e,c⟩
 | ins C dx fs =>
   obtain ⟨d,z,ne,e,mA,⟨od,es,ep,e2,c⟩,r⟩:=x
   exact ⟨ho _ d,z,ne,k _ _ (.inl rfl) e,mA,⟨od,es,ep,k _ _ (.inr d) e2,c⟩,r⟩
 | own y=>obtain ⟨ob,e⟩:=x; exact ⟨ob,k _ _ (.inl rfl) e⟩
 | xd fs=>obtain ⟨mA,⟨od,es,ep,e,c⟩,r⟩:=x; exact ⟨mA,⟨od,es,ep,k _ _ (.inl rfl) e,c⟩,r⟩
 | rng lo hi=>obtain ⟨t,u,v,e⟩:=x; exact ⟨t,u,v,k _ _ (.inl rfl) e⟩
 | frz ob u ih=>obtain ⟨e,q⟩:=x; exact ⟨k _ _ (.inl rfl) e,ih q⟩
 | tbl q =>
   obtain ⟨ps,e,t1,t2⟩:=x
   refine ⟨ps,k a _ (.inl rfl) e,t1,fun pos v z=>?_⟩
   obtain ⟨c,o,u,vs,t,h1,h2,h3,h4⟩:=t2 pos v z
   exact ⟨c,o,u,vs,t,h1,ht c ⟨.frz o u,vs,h3⟩ h2,h3,h4⟩
 | met f y =>
   have e:h.get? a=some (PySem.W.methodObj (.ref f) (.ref y)):=x
   show h'.get? a=some (PySem.W.methodObj (.ref f) (.ref y))
   exact k a _ (.inl rfl) e
 | ext φ=>obtain ⟨p,⟨o,e⟩,st⟩:=x; exact ⟨st _ _ p fun o q=>k _ _ (.inl rfl) q,⟨o,k _ _ (.inl rfl) e⟩,st⟩
theorem HOk.lt (x:HOk P w H h) (e:H a=some o):a < h.objs.size:=(x a o e).lt
theorem HOk.fresh (x:HOk P w H h) (e:h.objs.size<=a):H a=none:=by
 cases q:H a with
 | none=>rfl
 | some u=>exact absurd (Nat.lt_of_lt_of_le (x.lt q) e) (Nat.lt_irrefl _)
theorem HOk.kept (x:HOk P w H h) (k:∀ b u,h.get? b=some u->h'.get? b=some u):HOk P w H h':=fun a o e =>
 (x a o e).stay (fun b u _ q=>k b u q) (fun _ q=>q) fun _ _ q=>q
theorem HOk.laid (x:HOk P w H h) (k:∀ b u,h.get? b=some u->h'.get? b=some u) (hp:h.objs.size<=a) (new:ObjOk P w (upd H a o) h' a o):HOk P w (upd H a o) h':=fun b u e=>by
 have hn:=x.fresh hp
 by_cases hb:b=a
 · subst hb; rw [qK] at e; cases e; exact new
 · rw [qA hb] at e
   exact (x b u e).stay (fun c v _ q=>k c v q) (fun c q=>by rw [qA (jJ q hn)]; exact q) fun c xs q=>by rw [qA (jJ q hn)]; exact q
end
def Rd (H:Hp) (a:Addr) (u:HO):Prop:=H a=some u \/ ∃ o,H a=some (.frz o u)
theorem Rd.ok {P:Program} {w:World} {H:Hp} {h:Heap} {a:Addr} {u:HO} (r:Rd H a u) (x:HOk P w H h):ObjOk P w H h a u:=by
 rcases r with r | ⟨o,r⟩
 · exact x a u r
 · obtain ⟨_, q⟩ := x a _ r
   exact q
def Mut:Option HO->Prop
 | some (.lst _)=>True
 | some (.dK _)=>True
 | some (.dT _)=>True
 | some (.set _ _)=>True
 | some (.ins _ _ _)=>True
 | some (.ext _)=>True
 | _=>False
section
variable {P:Program} {w:World} {H:Hp} {h h':Heap} {x e:Addr} {o':HO}
theorem HOk.write (ok:HOk P w H h) (mu:Mut (H x)) (he:e=x \/ H e=some (.own x)) (k:∀ b u,b≠e->h.get? b=some u->h'.get? b=some u) (heo:∃ u,h'.get? e=some u)
  (new:ObjOk P w (upd H x o') h' x o'):HOk P w (upd H x o') h':=fun b u q=>by
 have nown:∀ c y,H c=some (.own y)->c≠x:=fun c y r z=>by subst z; rw [r] at mu; exact mu
 have ntup:∀ c (xs:Fx),H c=some xs.1->c≠x:=fun c xs r z=>by
  subst z; rw [r] at mu; obtain ⟨u,hu⟩:=xs
  cases u <;> first | exact False.elim mu | exact False.elim hu
 by_cases hb:b=x
 · subst hb; rw [qK] at q; cases q; exact new
 · rw [qA hb] at q
   by_cases hbe:b=e
   · have q':H b=some (.own x):=by
      rcases he with z | z
      · exact absurd (hbe.trans z) hb
      · rw [hbe]; exact z
     rw [q] at q'; cases q'
     obtain ⟨v,hv⟩:=heo
     exact ⟨v,by rw [hbe]; exact hv⟩
   · refine (ok b u q).stay (fun c v hc r => k c v ?_ r) (fun c r => by rw [qA (nown c b r)]; exact r) fun c xs r => by rw [qA (ntup c xs r)]; exact r
     rcases hc with rfl | hc
     · exact hbe
     · rintro rfl
       rcases he with z | z
       · exact nown c b hc z
       · rw [hc] at z; cases z; exact hb rfl
end
structure Un (fs ex:List Addr) (H H':Hp) (h h':Heap):Prop where
 keep:∀ b o,h.get? b=some o->H b=none->b ∉ fs->b ∉ ex->h'.get? b=some o
 slot:∀ b o,h.get? b=some o->H b=none->b∈fs->b ∉ ex->∃ sl,h'.get? b=some { o with slots:=sl }
 free:∀ b o,h.get? b=some o->H b=none->b ∉ ex->H' b=none
 there:∀ b o,h.get? b=some o->b ∉ ex->∃ o',h'.get? b=some o'
 tups:∀ b xs,H b=some (.tup xs)->H' b=some (.tup xs)
 frzs:∀ b o u,H b=some (.frz o u)->H' b=some (.frz o u)
 tbls:∀ b ps,H b=some (.tbl ps)->H' b=some (.tbl ps)
section
variable {fs fs' ex ex':List Addr} {H H1 H2:Hp} {h h1 h2 h':Heap} {a x e:Addr} {o:HO}
theorem Un.any (u:Un fs ex H H1 h h1) {b:Addr} {ob:Obj} (q:h.get? b=some ob) (n:H b=none) (hx:b ∉ ex):∃ sl,h1.get? b=some { ob with slots:=sl }:=by
 by_cases hb:b∈fs
 · exact u.slot b ob q n hb hx
 · exact ⟨ob.slots,u.keep b ob q n hb hx⟩
theorem Un.trans (a:Un fs ex H H1 h h1) (b:Un fs ex H1 H2 h1 h2):Un fs ex H H2 h h2 where
 keep:=fun c ob q n hc hx=>b.keep c ob (a.keep c ob q n hc hx) (a.free c ob q n hx) hc hx
 slot:=fun c ob q n hc hx=>by
  obtain ⟨sl,e1⟩:=a.slot c ob q n hc hx
  obtain ⟨sl',e2⟩:=b.slot c _ e1 (a.free c ob q n hx) hc hx
  exact ⟨sl',e2⟩
 free:=fun c ob q n hx=>by
  obtain ⟨o',e1⟩:=a.there c ob q hx
  exact b.free c o' e1 (a.free c ob q n hx) hx
 there:=fun c ob q hx=>by
  obtain ⟨o',e1⟩:=a.there c ob q hx
  exact b.there c o' e1 hx
 tups:=fun c xs q=>b.tups c xs (a.tups c xs q)
 frzs:=fun c ob xs q=>b.frzs c ob xs (a.frzs c ob xs q)
 tbls:=fun c ps q=>b.tbls c ps (a.tbls c ps q)
theorem Un.kept (k:∀ b u,h.get? b=some u->h'.get? b=some u):Un fs ex H H h h' :=
 ⟨fun b ob q _ _ _=>k b ob q,fun b ob q _ _ _=>⟨ob.slots,k b ob q⟩,fun _ _ _ n _=>n,fun b ob q _=>⟨ob,k b ob q⟩,fun _ _ q=>q,fun _ _ _ q=>q,fun _ _ q=>q⟩
theorem Un.refl:Un fs ex H H h h:=Un.kept fun _ _ q=>q
theorem Un.laid (k:∀ b u,h.get? b=some u->h'.get? b=some u) (hp:h.objs.size<=a) (hn:H a=none):Un fs ex H (upd H a o) h h' where
 keep:=fun b u q _ _ _=>k b u q
 slot:=fun b u q _ _ _=>⟨u.slots,k b u q⟩
 free:=fun b u q n _=>by rw [qA (Nat.ne_of_lt (Nat.lt_of_lt_of_le (Heap.lt_size q) hp))]; exact n
 there:=fun b u q _=>⟨u,k b u q⟩
 tups:=fun b xs q=>by rw [qA (jJ q hn)]; exact q
 frzs:=fun b u xs q=>by rw [qA (jJ q hn)]; exact q
 tbls:=fun b ps q=>by rw [qA (jJ q hn)]; exact q
theorem Un.write (mu:Mut (H x)) (he:e=x \/ H e=some (.own x)) (k:∀ b u,b≠e->h.get? b=some u->h'.get? b=some u) (heo:∃ u,h'.get? e=some u):Un fs ex H (upd H x o) h h':=by
 have hx:∀ b,H b=none->b≠x:=fun b n z=>by subst z; rw [n] at mu; exact mu
 have hb:∀ b,H b=none->b≠e:=fun b n z=>by
  subst z
  rcases he with r | r
  · exact hx b n r
  · rw [n] at r; cases r
 have hm:∀ b u,H b=some u->¬ Mut (some u)->b≠x:=fun b u q nm z=>by subst z; rw [q] at mu; exact nm mu
 refine ⟨fun b u q n _ _=>k b u (hb b n) q,fun b u q n _ _=>⟨u.slots,k b u (hb b n) q⟩,fun b u q n _=>by rw [qA (hx b n)]; exact n,fun b u q _=>?_,
  fun b xs q=>by rw [qA (hm b _ q fun z=>z)]; exact q,fun b u xs q=>by rw [qA (hm b _ q fun z=>z)]; exact q,fun b ps q=>by rw [qA (hm b _ q fun z=>z)]; exact q⟩
 by_cases hbe:b=e
 · subst hbe; exact heo
 · exact ⟨u,k b u hbe q⟩
end
def trk (h:Heap) (H:Hp):List Addr:=(List.range h.objs.size).filter fun a=>(H a).isSome
def hidT (h:Heap) (H:Hp):Heap:=PySem.W.hideAll h (trk h H)
theorem hidT_size (h:Heap) (H:Hp):(hidT h H).objs.size=h.objs.size:=PySem.W.hideAll_size _ _
theorem hidT_get {h:Heap} {H:Hp} {b:Addr} {o:Obj} (e:h.get? b=some o) (n:H b=none):(hidT h H).get? b=some o :=
 PySem.W.hideAll_get _ e fun hm=>by
  have q:(H b).isSome=true:=(List.mem_filter.mp hm).2
  rw [n] at q; simp at q
theorem of_hidT {h:Heap} {H:Hp} {b:Addr} {o:Obj} (e:(hidT h H).get? b=some o):h.get? b=some o/\H b=none:=by
 have e':h.get? b=some o:=PySem.W.of_hideAll (trk h H) e
 refine ⟨e',?_⟩
 cases q:H b with
 | none=>rfl
 | some x =>
   have hm:b∈trk h H:=List.mem_filter.mpr ⟨List.mem_range.mpr (Heap.lt_size e'),by simp [q]⟩
   have z:(hidT h H).get? b=none:=PySem.W.hideAll_none (trk h H) hm
   rw [z] at e; cases e
def allNews (g h:Heap) (L:Addr):List (Addr×Obj):=(List.range h.objs.size).filterMap fun a=>if a=L \/ (g.get? a).isSome=true then none else (h.get? a).map fun o=>(a,o)
def rest (g h:Heap) (L d:Addr):List (Addr×Obj):=(allNews g h L).filter fun p=>decide (p.1≠d)
end L2
namespace L2
open PySem PySem.Spec PyProof.Rows
structure Mod (K:PySem.W.Frag) (mg:Str->Option Value) (base:Heap):Prop where
 kin:K.In base
 glob:base.Ns mainGlobals mg
 blt:∃ mb,base.Ns builtinsNs mb/\∀ x:Str,x≠"__name__"->mb x=bootBuiltins x
 nolimit:base.NoLimit
structure Cx where
 prog:Program
 w:World
 K:PySem.W.Frag
 mg:Str->Option Value
 base:Heap
 A:Around
 N:List Str
 s₀ : Shared
 H₀ : Hp
 env:Env
 outer:List Env
 stack:List Env
 ex:List Addr
 fn:Str->Bool
 calm:Bool
 pn:List (Addr×Obj)
 xe:Value->Shared->Prop
def frs (l:List Env):List Addr:=l.filterMap (·.frame)
abbrev Cx.fs (X:Cx):List Addr:=frs X.outer
def Vis (sc:Scope) (x:Str):Prop:=sc.names.lookup x=some .local \/ sc.names.lookup x=some .cell \/ sc.names.lookup x=some .free
def Loc (sc:Scope) (x:Str):Prop:=sc.names.lookup x=some .local \/ sc.names.lookup x=some .cell
def Look (env:Env) (h:Heap) (m:Str->Option Value) (x:Str) (u:Value):Prop :=
 (env.kindOf x=some .local/\m x=some u) \/ ((env.kindOf x=some .cell \/ env.kindOf x=some .free)/\∃ c,env.cells.lookup x=some c/\h.IsCell c (some u))
def makers:List Str:=["law","_law_with_itself","_law_ways","_law_way","holding","_law_any_test","_law_test","_law_turned","_law_right","wheel_run","answer_run"]
def innerN:List Stmt->Nat->Nat->Str
 | [],_,_=>"<lambda>"
 | .FunctionDef n _ _ _ _ _ _ _ _ pos::r,l,c=>if pos.line=l/\pos.col=c then n else innerN r l c
 | _::r,l,c=>innerN r l c
def innerQ (K:PySem.W.Frag) (x:Str) (l c:Nat):Str:=match PySem.W.nsIn K mainGlobals x with
 | some (some (.ref f)) => (match K.lookup f with
   | some ⟨_, _, .func fd, _⟩ => (match fd.body with
     | .stmts b=>x++".<locals>."++innerN b l c
     | _=>x)
   | _=>x)
 | _=>x
structure TabsK (K:PySem.W.Frag) (mg:Str->Option Value) (base:Heap) (H:Hp):Prop where
 bm:∃ bm ob,mg "__builtins__" = some (.ref bm)/\bm≠builtinsNs/\base.get? bm=some ob/\ob.cls = .type "module"/\ob.dict=some builtinsNs/\ob.data = .plain
 tab:∀ x c P,x∈makers->PySem.W.tabIn K x=some (c,P)->PySem.W.CodeHd base c P/\H P=some (.tbl (innerQ K x))
def Bsz (K:PySem.W.Frag) (mg:Str->Option Value) (base h:Heap) (H:Hp):Prop:=base.objs.size<=h.objs.size/\TabsK K mg base H
def FreeC (X:Cx) (H:Hp) (x:Str) (c:Addr):Prop:=H c=none \/ (X.fn x=false/\∃ o u,H c=some (.frz o u))
theorem FreeC.now {X:Cx} {H:Hp} {x:Str} {c:Addr} (h:FreeC X H x c) (hf:X.fn x=true):H c=none:=h.elim id fun z=>by rw [hf] at z; cases z.1
structure Cx.Ok (X:Cx):Prop where
 mod:Mod X.K X.mg X.base
 kind:X.env.scope.kind = .function
 glob:X.env.globals=mainGlobals
 blt:X.env.builtins=builtinsNs
 above:X.s₀.heap.objs.size<=X.env.locals
 inj:∀ x y c,X.env.cells.lookup x=some c->X.env.cells.lookup y=some c->x=y
 has:∀ x,(X.env.kindOf x=some .cell \/ X.env.kindOf x=some .free)->∃ c,X.env.cells.lookup x=some c
 cab:∀ x c,X.fn x=true->X.env.cells.lookup x=some c->X.s₀.heap.objs.size<=c
 hd:X.calm=true->X.A.handled=none
 frames:X.A.frames=some X.stack
 stk:X.stack=X.outer \/ (X.stack=X.env::X.outer/\X.env.frame=some X.env.locals)
 exf:∀ b∈X.ex,b≠X.env.locals/\∀ x c,X.env.cells.lookup x=some c->c≠b
 bs:∀ b o,X.base.get? b=some o->X.s₀.heap.get? b=some o/\X.H₀ b=none
 bsz:Bsz X.K X.mg X.base X.s₀.heap X.H₀
 noex:∀ b o,X.base.get? b=some o->b ∉ X.ex
 exfs:∀ b∈X.ex,b ∉ X.fs
 funs:X.s₀.heap.FunFrames X.base X.outer
 frf:∀ b∈X.fs,X.H₀ b=none
structure Inv (X:Cx) (pins:List (Addr×Obj)) (σ : List (Option V)) (H:Hp) (s:Shared):Prop where
 ok:X.Ok
 os:s.os=X.s₀.os
 bare:AllBare s.gens
 base:Un X.fs X.ex X.H₀ H X.s₀.heap s.heap
 loc:∃ m,s.heap.Ns X.env.locals m/\∀ (i:Nat) (x:Str) (v:V),X.N[i]? = some x->σ[i]? = some (some v)->Vis X.env.scope x->∃ u,RelV v u/\Look X.env s.heap m x u
 cell:∀ x c,X.env.cells.lookup x=some c->∃ v,s.heap.IsCell c v
 free:H X.env.locals=none
 freeC:∀ x c,X.env.cells.lookup x=some c->FreeC X H x c
 pin:∀ p∈X.pn++pins,s.heap.get? p.1=some p.2/\H p.1=none/\p.1≠X.env.locals/\p.1 ∉ X.fs/\∀ v,p.2.data≠.cell v
 hok:HOk X.prog X.w H s.heap
 len : σ.length=X.N.length
section
variable {X:Cx} {pins:List (Addr×Obj)} {σ : List (Option V)} {H H':Hp} {s:Shared} {h':Heap}
theorem Cx.Ok.nofr (ok:X.Ok) {b:Addr} {o:Obj} (e:X.base.get? b=some o):b ∉ X.fs:=fun hb=>by
 have:=(ok.funs.mem hb).1
 rw [e] at this; cases this
theorem Inv.bs (I:Inv X pins σ H s):∀ b o,X.base.get? b=some o->s.heap.get? b=some o/\H b=none:=fun b o e =>
 ⟨I.base.keep b o (I.ok.bs b o e).1 (I.ok.bs b o e).2 (I.ok.nofr e) (I.ok.noex b o e),I.base.free b o (I.ok.bs b o e).1 (I.ok.bs b o e).2 (I.ok.noex b o e)⟩
theorem Inv.bk (I:Inv X pins σ H s):∀ b o,X.base.get? b=some o->s.heap.get? b=some o:=fun b o e=>(I.bs b o e).1
theorem Inv.mod (I:Inv X pins σ H s):Mod X.K X.mg X.base:=I.ok.mod
theorem Inv.kIn (I:Inv X pins σ H s):X.K.In s.heap:=I.ok.mod.kin.keeps I.bk
theorem Inv.lt (I:Inv X pins σ H s):X.env.locals < s.heap.objs.size:=let ⟨_,hn,_⟩:=I.loc; hn.lt
theorem Inv.sz (I:Inv X pins σ H s):X.s₀.heap.objs.size<=s.heap.objs.size:=Nat.le_trans I.ok.above (Nat.le_of_lt I.lt)
theorem Inv.nofs (I:Inv X pins σ H s) {a:Addr} (h:s.heap.objs.size<=a):a ∉ X.fs:=fun hb=>by
 obtain ⟨_,o,ho,_⟩:=I.ok.funs.mem hb
 exact absurd (Nat.lt_of_lt_of_le (Heap.lt_size ho) (Nat.le_trans I.sz h)) (Nat.lt_irrefl _)
theorem Inv.cne (I:Inv X pins σ H s):∀ x c,X.env.cells.lookup x=some c->c≠X.env.locals:=fun x c e z=>by
 obtain ⟨v,o,ho,hd⟩:=I.cell x c e
 obtain ⟨m,⟨o',es,ep,ho',hd',_⟩,_⟩:=I.loc
 rw [z,ho'] at ho; cases ho; rw [hd'] at hd; cases hd
theorem Inv.funs (I:Inv X pins σ H s):s.heap.FunFrames X.base X.outer:=by
 have all:∀ (l:List Env),(∀ b∈frs l,b∈X.fs)->X.s₀.heap.FunFrames X.base l->s.heap.FunFrames X.base l:=by
  intro l
  induction l with
  | nil=>intro _ _; trivial
  | cons env r ih =>
    intro hs hl
    obtain ⟨hk,⟨L,o,hf,hn,ho,hd⟩,hr⟩:=hl
    have hL:L∈X.fs:=hs L (by unfold frs; rw [List.filterMap_cons,hf]; exact List.mem_cons_self)
    obtain ⟨sl,e⟩:=I.base.slot L o ho (I.ok.frf L hL) hL fun z=>I.ok.exfs L z hL
    exact ⟨hk,⟨L,_,hf,hn,e,hd⟩,ih (fun b hb=>hs b (by unfold frs; rw [List.filterMap_cons,hf]; exact List.mem_cons_of_mem _ hb)) hr⟩
 exact all X.outer (fun _ hb=>hb) I.ok.funs
theorem Inv.stack (I:Inv X pins σ H s):s.heap.FunFrames X.base X.stack:=by
 rcases I.ok.stk with e | ⟨e,hf⟩
 · rw [e]; exact I.funs
 · rw [e]
   obtain ⟨m,hn,_⟩:=I.loc
   refine .cons (by rw [I.ok.kind]; decide) hf hn ?_ I.funs
   exact Heap.get?_none_of_le (Nat.le_trans I.ok.bsz.1 I.ok.above)
theorem Inv.stkSub (I:Inv X pins σ H s):∀ b∈frs X.stack,b∈X.env.locals::X.fs:=fun b hb=>by
 rcases I.ok.stk with e | ⟨e,hf⟩
 · rw [e] at hb; exact List.mem_cons_of_mem _ hb
 · rw [e] at hb
   unfold frs at hb
   rw [List.filterMap_cons,hf] at hb
   exact hb
theorem Inv.stkFree (I:Inv X pins σ H s):∀ b∈frs X.stack,H b=none:=fun b hb=>by
 rcases List.mem_cons.mp (I.stkSub b hb) with e | hb
 · rw [e]; exact I.free
 · obtain ⟨_, o, ho, _⟩ := I.ok.funs.mem hb
   exact I.base.free b o ho (I.ok.frf b hb) fun z=>I.ok.exfs b z hb
theorem Inv.step {g':Array GenState} {t':Nat} {d':Drawn} {ch:List Addr} (I:Inv X pins σ H s)
  (hch:∀ b∈ch,(b∈X.ex \/ X.s₀.heap.objs.size<=b)/\b≠X.env.locals/\(∀ x c,X.env.cells.lookup x=some c->c≠b)/\∀ p∈X.pn++pins,p.1≠b)
  (keep:∀ b o,b≠X.env.locals->b ∉ X.fs->b ∉ ch->s.heap.get? b=some o->H b=none->h'.get? b=some o)
  (slot:∀ b o,b≠X.env.locals->b∈X.fs->b ∉ ch->s.heap.get? b=some o->H b=none->∃ sl,h'.get? b=some { o with slots:=sl }) (free:∀ b o,b ∉ ch->s.heap.get? b=some o->H b=none->H' b=none)
  (there:∀ b o,b ∉ ch->s.heap.get? b=some o->∃ o',h'.get? b=some o')
  (tups:∀ b xs,H b=some (.tup xs)->H' b=some (.tup xs)) (frzs:∀ b o u,H b=some (.frz o u)->H' b=some (.frz o u)) (tbls:∀ b ps,H b=some (.tbl ps)->H' b=some (.tbl ps))
  (ns:∀ m,s.heap.Ns X.env.locals m->h'.Ns X.env.locals m) (hok:HOk X.prog X.w H' h') (hg:AllBare g') :
  Inv X pins σ H' { s with heap:=h',gens:=g',drawn:=d',toks:=t' }:=by
 have neL:∀ b o,X.s₀.heap.get? b=some o->b≠X.env.locals:=fun b o e=>Nat.ne_of_lt (Nat.lt_of_lt_of_le (Heap.lt_size e) I.ok.above)
 have neC:∀ b o,X.s₀.heap.get? b=some o->b ∉ X.ex->b ∉ ch:=fun b o e hx hb=>by
  rcases (hch b hb).1 with z | z
  · exact hx z
  · exact absurd (Nat.lt_of_lt_of_le (Heap.lt_size e) z) (Nat.lt_irrefl _)
 have cellK:∀ x c,X.env.cells.lookup x=some c->∀ v,s.heap.IsCell c v->h'.IsCell c v:=fun x c e v ⟨o,ho,hd⟩=>by
  have nch:c ∉ ch:=fun z=>(hch c z).2.2.1 x c e rfl
  rcases I.freeC x c e with fr | ⟨_,of,uf,fr⟩
  · by_cases hc : c ∈ X.fs
    · obtain ⟨sl, q⟩ := slot c o (I.cne x c e) hc nch ho fr
      exact ⟨_,q,hd⟩
    · exact ⟨o,keep c o (I.cne x c e) hc nch ho fr,hd⟩
  · obtain ⟨e1, _⟩ := I.hok c _ fr
    obtain ⟨e2,_⟩:=hok c _ (frzs c of uf fr)
    rw [ho] at e1; cases e1
    exact ⟨o,e2,hd⟩
 refine ⟨I.ok,I.os,hg,⟨fun b o e n hb hx=>?_,fun b o e n hb hx=>?_,fun b o e n hx=>?_,fun b o e hx=>?_,fun b xs e=>tups b xs (I.base.tups b xs e),fun b o xs e=>frzs b o xs (I.base.frzs b o xs e),fun b ps e=>?_⟩,?_,fun x c e=>?_,?_,fun x c e=>?_,fun p hp=>?_,hok,I.len⟩
 · exact keep b o (neL b o e) hb (neC b o e hx) (I.base.keep b o e n hb hx) (I.base.free b o e n hx)
 · obtain ⟨sl, e1⟩ := I.base.slot b o e n hb hx
   obtain ⟨sl',e2⟩:=slot b _ (neL b o e) hb (neC b o e hx) e1 (I.base.free b o e n hx)
   exact ⟨sl',e2⟩
 · obtain ⟨o', e1⟩ := I.base.there b o e hx
   exact free b o' (neC b o e hx) e1 (I.base.free b o e n hx)
 · obtain ⟨o', e1⟩ := I.base.there b o e hx
   exact there b o' (neC b o e hx) e1
 · exact tbls b ps (I.base.tbls b ps e)
 · obtain ⟨m, hn, hl⟩ := I.loc
   refine ⟨m,ns m hn,fun i x v e1 e2 e3=>?_⟩
   obtain ⟨u,r,l⟩:=hl i x v e1 e2 e3
   refine ⟨u,r,?_⟩
   rcases l with l | ⟨k,c,e,z⟩
   · exact .inl l
   · exact .inr ⟨k,c,e,cellK x c e _ z⟩
 · obtain ⟨v, z⟩ := I.cell x c e
   exact ⟨v,cellK x c e v z⟩
 · obtain ⟨m, ⟨o, _, _, ho, _⟩, _⟩ := I.loc
   exact free _ o (fun z=>(hch _ z).2.1 rfl) ho I.free
 · obtain ⟨v, o, ho, hd⟩ := I.cell x c e
   exact (I.freeC x c e).elim (fun fr=>.inl (free c o (fun z=>(hch c z).2.2.1 x c e rfl) ho fr)) fun ⟨h1,of,uf,fr⟩=>.inr ⟨h1,of,uf,frzs c of uf fr⟩
 · obtain ⟨e, n, ne, nf, d⟩ := I.pin p hp
   have nch:p.1 ∉ ch:=fun z=>(hch p.1 z).2.2.2 p hp rfl
   exact ⟨keep p.1 p.2 ne nf nch e n,free p.1 p.2 nch e n,ne,nf,d⟩
theorem Inv.un {t':Nat} (I:Inv X pins σ H s) (u:Un X.fs [] H H' s.heap h') (hok:HOk X.prog X.w H' h'):Inv X pins σ H' { s with heap:=h',toks:=t' }:=by
 obtain ⟨m,⟨o,es,ep,ho,r⟩,_⟩:=id I.loc
 obtain ⟨sl,hL⟩:=u.any ho I.free (by simp)
 exact I.step (g':=s.gens) (d':=s.drawn) (ch:=[]) (fun _ z=>nomatch z) (fun b o _ hb _ e n=>u.keep b o e n hb (by simp)) (fun b o _ hb _ e n=>u.slot b o e n hb (by simp)) (fun b o _ e n=>u.free b o e n (by simp)) (fun b o _ e=>u.there b o e (by simp)) u.tups u.frzs u.tbls (fun m' hm=>by
  obtain ⟨o',es',ep',ho',r'⟩:=hm
  rw [ho] at ho'; cases ho'
  exact ⟨_,es',ep',hL,r'⟩) hok I.bare
theorem Inv.call {g':Array GenState} {t':Nat} {d':Drawn} {ch:List Addr} (I:Inv X pins σ H s) (u:Un (frs X.stack) ch H H' s.heap h') (hok:HOk X.prog X.w H' h') (hg:AllBare g')
  (hch:∀ b∈ch,(b∈X.ex \/ X.s₀.heap.objs.size<=b)/\b≠X.env.locals/\(∀ x c,X.env.cells.lookup x=some c->c≠b)/\∀ p∈X.pn++pins,p.1≠b) :
  Inv X pins σ H' { s with heap:=h',gens:=g',drawn:=d',toks:=t' }:=by
 obtain ⟨m,⟨o,es,ep,ho,r⟩,_⟩:=id I.loc
 obtain ⟨sl,hL⟩:=u.any ho I.free fun z=>(hch _ z).2.1 rfl
 exact I.step (ch:=ch) hch (fun b o hL hb hc e n=>u.keep b o e n (fun z=>(List.mem_cons.mp (I.stkSub b z)).elim hL hb) hc) (fun b o _ _ hc e n=>u.any e n hc) (fun b o hc e n=>u.free b o e n hc) (fun b o hc e=>u.there b o e hc) u.tups u.frzs u.tbls (fun m' hm=>by
  obtain ⟨o',es',ep',ho',r'⟩:=hm
  rw [ho] at ho'; cases ho'
  exact ⟨_,es',ep',hL,r'⟩) hok hg
theorem Inv.turned {t':Nat} {it:Addr} (I:Inv X pins σ H s) (k:∀ b o,b≠it->s.heap.get? b=some o->h'.get? b=some o) (hn:H it=none) (hL:it≠X.env.locals)
  (h1:it∈X.ex \/ X.s₀.heap.objs.size<=it) (h2:∀ x c,X.env.cells.lookup x=some c->c≠it) (h3:∀ p∈X.pn++pins,p.1≠it):Inv X pins σ H { s with heap:=h',toks:=t' }:=by
 have nit:∀ b u,H b=some u->b≠it:=fun b u e z=>by rw [z,hn] at e; cases e
 refine I.step (g':=s.gens) (d':=s.drawn) (ch:=[it]) (fun b hb=>?_) (fun b o _ _ hc e _=>k b o (fun z=>hc (by simp [z])) e) (fun b o _ _ hc e _=>⟨o.slots,k b o (fun z=>hc (by simp [z])) e⟩) (fun _ _ _ _ n=>n)
  (fun b o hc e=>⟨o,k b o (fun z=>hc (by simp [z])) e⟩) (fun _ _ e=>e) (fun _ _ _ e=>e) (fun _ _ e=>e) (fun m hm=>?_) (fun b u e=>?_) I.bare
 · have e : b = it := by simpa using hb
   subst e
   exact ⟨h1,hL,h2,h3⟩
 · obtain ⟨o, es, ep, ho, r⟩ := hm
   exact ⟨o,es,ep,k _ o (Ne.symm hL) ho,r⟩
 · refine (I.hok b u e).stay (fun c v hc q => k c v ?_ q) (fun _ q => q) fun _ _ q => q
   rcases hc with z | z
   · rw [z]; exact nit b u e
   · exact nit c _ z
theorem Inv.tok (I:Inv X pins σ H s) (t:Nat):Inv X pins σ H { s with toks:=t }:=I.un (h':=s.heap) (t':=t) Un.refl I.hok
theorem Inv.kept {t':Nat} (I:Inv X pins σ H s) (k:∀ b u,s.heap.get? b=some u->h'.get? b=some u):Inv X pins σ H { s with heap:=h',toks:=t' }:=I.un (Un.kept k) (I.hok.kept k)
theorem Inv.laid {a:Addr} {o:HO} {t':Nat} (I:Inv X pins σ H s) (k:∀ b u,s.heap.get? b=some u->h'.get? b=some u) (hp:s.heap.objs.size<=a) (new:ObjOk X.prog X.w (upd H a o) h' a o) :
  Inv X pins σ (upd H a o) { s with heap:=h',toks:=t' }:=I.un (Un.laid k hp (I.hok.fresh hp)) (I.hok.laid k hp new)
theorem Inv.write {x e:Addr} {o:HO} {t':Nat} (I:Inv X pins σ H s) (mu:Mut (H x)) (he:e=x \/ H e=some (.own x)) (k:∀ b u,b≠e->s.heap.get? b=some u->h'.get? b=some u) (heo:∃ u,h'.get? e=some u)
  (new:ObjOk X.prog X.w (upd H x o) h' x o):Inv X pins σ (upd H x o) { s with heap:=h',toks:=t' }:=I.un (Un.write mu he k heo) (I.hok.write mu he k heo new)
theorem Inv.pins_of {pins':List (Addr×Obj)} (I:Inv X pins σ H s) (h:∀ p∈pins',s.heap.get? p.1=some p.2/\H p.1=none/\p.1≠X.env.locals/\p.1 ∉ X.fs/\∀ v,p.2.data≠.cell v):Inv X pins' σ H s :=
 ⟨I.ok,I.os,I.bare,I.base,I.loc,I.cell,I.free,I.freeC,fun p hp=>(List.mem_append.mp hp).elim (fun z=>I.pin p (List.mem_append_left _ z)) (h p),I.hok,I.len⟩
theorem nodup_ix {N:List Str} (hN:N.Nodup) {i j:Nat} {x:Str} (a:N[i]? = some x) (b:N[j]? = some x):i=j:=by
 obtain ⟨h1,e1⟩:=List.getElem?_eq_some_iff.mp a
 obtain ⟨h2,e2⟩:=List.getElem?_eq_some_iff.mp b
 exact (List.getElem_inj hN).mp (e1.trans e2.symm)
theorem store_ok2 {M:Model} {A:Around} {E:Value->Shared->Prop} {i:Nat} {x:Str} {v:V} {u:Value} {Q:Unit->Shared->Prop} (I:Inv X pins σ H s) (hN:X.N.Nodup) (hi:X.N[i]? = some x) (hx:Loc X.env.scope x) (r:RelV v u)
  (h:∀ s',Inv X pins (σ.set i (some v)) H s'->(∃ a,Heap.SameBut a s.heap s'.heap/\(a=X.env.locals \/ X.env.cells.lookup x=some a))->Q () s') (hf:X.fn x=true \/ X.env.scope.names.lookup x=some .local:=by first | exact .inl rfl | exact .inr rfl | assumption):wpAny M A (storeName X.env x u) Q E s:=by
 obtain ⟨m,hn,hl⟩:=id I.loc
 have hcls:(X.env.scope.kind == .class || (X.env.scope.kind == .module && X.env.locals != X.env.globals))=false:=by rw [I.ok.kind]; rfl
 have hiσ : i < σ.length:=by rw [I.len]; exact (List.getElem?_eq_some_iff.mp hi).1
 have cne:=I.cne
 have tracked:∀ {a:Addr} {h':Heap},(∃ o,s.heap.get? a=some o/\H a=none)->Heap.SameBut a s.heap h'->HOk X.prog X.w H h':=fun {a h'} ha hs b ob e=>by
  obtain ⟨_,_,hfree⟩:=ha
  refine (I.hok b ob e).stay (fun c w' hc q=>(hs.2 c ?_).trans q) (fun _ q=>q) fun _ _ q=>q
  rintro rfl
  rcases hc with rfl | hc
  · rw [hfree] at e; cases e
  · rw [hfree] at hc; cases hc
 rcases hx with hk | hk
 · refine wpAny_storeName_local hk hn (fun h' hn' hs => ?_) hcls
   obtain ⟨oL,_,_,hoL,_⟩:=id hn
   refine h _ ⟨I.ok,I.os,I.bare,⟨fun b o e n hb hx=>?_,fun b o e n hb hx=>?_,I.base.free,fun b o e hx=>?_,I.base.tups,I.base.frzs,I.base.tbls⟩,⟨_,hn',fun j y v' e1 e2 e3=>?_⟩,fun y c e=>?_,I.free,I.freeC,fun p hp=>?_,tracked ⟨oL,hoL,I.free⟩ hs,by simpa using I.len⟩ ⟨_,hs,.inl rfl⟩
   · exact (hs.2 b (Nat.ne_of_lt (Nat.lt_of_lt_of_le (Heap.lt_size e) I.ok.above))).trans (I.base.keep b o e n hb hx)
   · obtain ⟨sl, e1⟩ := I.base.slot b o e n hb hx
     exact ⟨sl,(hs.2 b (Nat.ne_of_lt (Nat.lt_of_lt_of_le (Heap.lt_size e) I.ok.above))).trans e1⟩
   · obtain ⟨o', e1⟩ := I.base.there b o e hx
     exact ⟨o',(hs.2 b (Nat.ne_of_lt (Nat.lt_of_lt_of_le (Heap.lt_size e) I.ok.above))).trans e1⟩
   · by_cases hj : j = i
     · subst hj
       rw [hi] at e1; cases e1
       rw [List.getElem?_set_self hiσ] at e2
       cases e2
       exact ⟨u,r,.inl ⟨hk,by simp⟩⟩
     · rw [List.getElem?_set_ne (Ne.symm hj)] at e2
       obtain ⟨u',r',q⟩:=hl j y v' e1 e2 e3
       refine ⟨u',r',?_⟩
       rcases q with ⟨k,e⟩ | ⟨k,c,e,z⟩
       · refine .inl ⟨k, ?_⟩
         have:y≠x:=fun e=>hj (nodup_ix hN e1 (e ▸ hi))
         simp [this,e]
       · exact .inr ⟨k,c,e,z.sameBut hs (cne y c e)⟩
   · obtain ⟨w', z⟩ := I.cell y c e
     exact ⟨w',z.sameBut hs (cne y c e)⟩
   · obtain ⟨e, n, ne, nf, d⟩ := I.pin p hp
     exact ⟨(hs.2 p.1 ne).trans e,n,ne,nf,d⟩
 · have hfn:X.fn x=true:=by
    rcases hf with z | z
    · exact z
    · rw [z] at hk; cases hk
   obtain ⟨c,hc⟩:=I.ok.has x (.inl hk)
   obtain ⟨w',z⟩:=I.cell x c hc
   refine wpAny_storeName_cell I.ok.kind hk hc z (fun h' hc' hs=>?_)
   obtain ⟨oc,hoc,hocd⟩:=id z
   refine h { s with heap:=h' } ⟨I.ok,I.os,I.bare,⟨fun b o e n hb hx=>?_,fun b o e n hb hx=>?_,I.base.free,fun b o e hx=>?_,I.base.tups,I.base.frzs,I.base.tbls⟩,⟨m,hn.sameBut hs (Ne.symm (cne x c hc)),fun j y v' e1 e2 e3=>?_⟩,fun y c' e=>?_,I.free,I.freeC,fun p hp=>?_,tracked ⟨oc,hoc,(I.freeC x c hc).now hfn⟩ hs,by simpa using I.len⟩ ⟨c,hs,.inr hc⟩
   · exact (hs.2 b (Nat.ne_of_lt (Nat.lt_of_lt_of_le (Heap.lt_size e) (I.ok.cab x c hfn hc)))).trans (I.base.keep b o e n hb hx)
   · obtain ⟨sl, e1⟩ := I.base.slot b o e n hb hx
     exact ⟨sl,(hs.2 b (Nat.ne_of_lt (Nat.lt_of_lt_of_le (Heap.lt_size e) (I.ok.cab x c hfn hc)))).trans e1⟩
   · obtain ⟨o', e1⟩ := I.base.there b o e hx
     exact ⟨o',(hs.2 b (Nat.ne_of_lt (Nat.lt_of_lt_of_le (Heap.lt_size e) (I.ok.cab x c hfn hc)))).trans e1⟩
   · by_cases hj : j = i
     · subst hj
       rw [hi] at e1; cases e1
       rw [List.getElem?_set_self hiσ] at e2
       cases e2
       exact ⟨u,r,.inr ⟨.inl hk,c,hc,hc'⟩⟩
     · rw [List.getElem?_set_ne (Ne.symm hj)] at e2
       obtain ⟨u',r',q⟩:=hl j y v' e1 e2 e3
       refine ⟨u',r',?_⟩
       rcases q with q | ⟨k,c',e,z'⟩
       · exact .inl q
       · refine .inr ⟨k, c', e, z'.sameBut hs ?_⟩
         rintro rfl
         exact hj (nodup_ix hN e1 (I.ok.inj _ _ _ e hc ▸ hi))
   · by_cases hcc : c' = c
     · subst hcc; exact ⟨_,hc'⟩
     · obtain ⟨w2, z2⟩ := I.cell y c' e
       exact ⟨w2,z2.sameBut hs hcc⟩
   · obtain ⟨e, n, ne, nf, d⟩ := I.pin p hp
     refine ⟨(hs.2 p.1 ?_).trans e,n,ne,nf,d⟩
     intro q
     rw [q,hoc] at e
     have q':oc=p.2:=Option.some.inj e
     exact d w' (by rw [<- q']; exact hocd)
theorem xJ {M:Model} {A:Around} {E:Value->Shared->Prop} {i:Nat} {x:Str} {v:V} {u:Value} {Q:Unit->Shared->Prop} (I:Inv X pins σ H s) (hN:X.N.Nodup) (hi:X.N[i]? = some x) (hx:Loc X.env.scope x) (r:RelV v u)
  (h:∀ s',Inv X pins (σ.set i (some v)) H s'->Q () s') (hf:X.fn x=true \/ X.env.scope.names.lookup x=some .local:=by first | exact .inl rfl | exact .inr rfl | assumption):wpAny M A (storeName X.env x u) Q E s :=
 store_ok2 I hN hi hx r (fun s' I' _=>h s' I') hf
theorem Inv.call' {s':Shared} {ch:List Addr} (I:Inv X pins σ H s) (ho:s'.os=s.os) (u:Un (frs X.stack) ch H H' s.heap s'.heap) (hok:HOk X.prog X.w H' s'.heap) (hg:AllBare s'.gens)
  (hch:∀ b∈ch,(b∈X.ex \/ X.s₀.heap.objs.size<=b)/\b≠X.env.locals/\(∀ x c,X.env.cells.lookup x=some c->c≠b)/\∀ p∈X.pn++pins,p.1≠b):Inv X pins σ H' s':=by
 obtain ⟨h',g',d',t',o'⟩:=s'
 have e:o'=s.os:=ho
 subst e
 exact I.call (g':=g') (t':=t') (d':=d') u hok hg hch
end
abbrev XK:=Value->Option Addr->Hp->Prop
abbrev St:=List (Option V)
abbrev VK:=V->Hp->Prop
abbrev TE:=St->Hp->VK->Prop
abbrev TT:=St->Hp->(Bool->Hp->Prop)->Prop
abbrev TA:=St->Hp->(List V->Hp->Prop)->Prop
structure Ends where
 nx:St->Hp->Prop
 rt:VK
 bk:St->Hp->Prop:=fun _ _=>False
 ct:St->Hp->Prop:=fun _ _=>False
abbrev TS:=Ends->St->Hp->Prop
def EP (X:Cx) (pins:List (Addr×Obj)) (σ : St) (Q:VK) (u:Value) (s':Shared):Prop:=∃ v H',Inv X pins σ H' s'/\RelV v u/\Q v H'
def TP (X:Cx) (pins:List (Addr×Obj)) (σ : St) (Q:Bool->Hp->Prop) (b:Bool) (s':Shared):Prop:=∃ H',Inv X pins σ H' s'/\Q b H'
def AP (X:Cx) (pins:List (Addr×Obj)) (σ : St) (Q:List V->Hp->Prop) (us:List Value) (s':Shared):Prop:=∃ vs H',Inv X pins σ H' s'/\Vals vs us/\Q vs H'
def SP (X:Cx) (pins:List (Addr×Obj)) (D:Ends) (f:Flow) (s':Shared):Prop :=
 match f with
 | .next=>∃ σ' H',Inv X pins σ' H' s'/\D.nx σ' H'
 | .brk=>∃ σ' H',Inv X pins σ' H' s'/\D.bk σ' H'
 | .cont=>∃ σ' H',Inv X pins σ' H' s'/\D.ct σ' H'
 | .ret u=>∃ v σ' H',Inv X pins σ' H' s'/\RelV v u/\D.rt v H'
def PE (X:Cx) (e:Expr) (t:TE):Prop :=
 ∀ (pins:List (Addr×Obj)) (s:Shared) (σ : St) (H:Hp) (Q:VK),Inv X pins σ H s->t σ H Q->wpAny (model X.prog X.w) X.A (eval e X.env) (EP X pins σ Q) X.xe s
def PT (X:Cx) (e:Expr) (t:TT):Prop :=
 ∀ (pins:List (Addr×Obj)) (s:Shared) (σ : St) (H:Hp) (Q:Bool->Hp->Prop),Inv X pins σ H s->t σ H Q->wpAny (model X.prog X.w) X.A (isTrue e X.env (eval e X.env)) (TP X pins σ Q) X.xe s
def PW (X:Cx) (e:Expr) (t:TT):Prop :=
 ∀ (whole:Sem Value) (pins:List (Addr×Obj)) (s:Shared) (σ : St) (H:Hp) (Q:Bool->Hp->Prop),Inv X pins σ H s->t σ H Q->wpAny (model X.prog X.w) X.A (isTrue e X.env whole) (TP X pins σ Q) X.xe s
theorem PW.pt {X:Cx} {e:Expr} {t:TT} (h:PW X e t):PT X e t:=h _
def PA (X:Cx) (es:List Expr) (t:TA):Prop :=
 ∀ (pos:Pos) (pins:List (Addr×Obj)) (s:Shared) (σ : St) (H:Hp) (Q:List V->Hp->Prop),Inv X pins σ H s->t σ H Q->wpAny (model X.prog X.w) X.A (spliced (backTo pos (starEach es X.env))) (AP X pins σ Q) X.xe s
def PS (X:Cx) (st:Stmt) (t:TS):Prop :=
 ∀ (pins:List (Addr×Obj)) (s:Shared) (σ : St) (H:Hp) (D:Ends),Inv X pins σ H s->t D σ H->wpAny (model X.prog X.w) X.A (exec st X.env) (SP X pins D) X.xe s
def PSs (X:Cx) (st:List Stmt) (t:TS):Prop :=
 ∀ (pins:List (Addr×Obj)) (s:Shared) (σ : St) (H:Hp) (D:Ends),Inv X pins σ H s->t D σ H->wpAny (model X.prog X.w) X.A (execs st X.env) (SP X pins D) X.xe s
theorem thn {α : Type} {t:Sem α} {Q Q' : α->Shared->Prop} {M:Model} {A:Around} {E:Value->Shared->Prop} {s:Shared} (h:wpAny M A t Q E s) (hQ:∀ a s,Q a s->Q' a s):wpAny M A t Q' E s:=wpAny_mono h hQ fun _ _ x=>x
end L2
namespace L2
open PySem PySem.Spec PyProof.Rows
section
variable {X:Cx}
def tVar (i:Nat):TE:=fun σ H Q=>∃ v,σ[i]? = some (some v)/\Q v H
def tC (v:V):TE:=fun _ H Q=>Q v H
theorem xP {i:Nat} {x:Str} {pos:Pos} (hN:X.N[i]? = some x) (hv:Vis X.env.scope x) (hd:(x == ("__debug__" : Str))=false:=by decide) (hcd:(x == ("__classdict__" : Str))=false:=by decide):PE X (.Name x pos) (tVar i):=by
 intro pins s σ H Q I h
 obtain ⟨v,e,h⟩:=h
 obtain ⟨m,hn,hl⟩:=I.loc
 obtain ⟨u,r,l⟩:=hl i x v hN e hv
 have fin:EP X pins σ Q u s:=⟨v,H,I,r,h⟩
 rcases l with ⟨hk,hm⟩ | ⟨hk,c,hc,hcell⟩
 · exact wpAny_Name (wpAny_loadName_local I.ok.kind hk hn hm fin) hd
 · rcases hk with hk | hk
   · exact wpAny_Name (wpAny_loadName_cell I.ok.kind hk hc hcell fin) hd
   · exact wpAny_Name (wpAny_loadName_free I.ok.kind hk hc hcell fin hcd) hd
theorem pe_int {i j pos} : PE X (.Constant (.int i) j pos) (tC (.int i)):=fun _ _ _ H _ I h=>wpAny_Constant_int ⟨.int i,H,I.tok _,⟨_,rfl⟩,h⟩
theorem pe_bl {b j pos} : PE X (.Constant (.bool b) j pos) (tC (.bl b)):=fun _ _ _ H _ I h=>Constant_bool ⟨.bl b,H,I,rfl,h⟩
theorem pe_non {j pos} : PE X (.Constant .none j pos) (tC .non):=fun _ _ _ H _ I h=>Constant_none ⟨.non,H,I,rfl,h⟩
def Gl (X:Cx) (x:Str):Prop:=X.env.kindOf x=some .globalImplicit
theorem wV {E:Value->Shared->Prop} {pins:List (Addr×Obj)} {s:Shared} {σ : St} {H:Hp} {x:Str} {u:Value} {pos:Pos} {Q:Value->Shared->Prop} (I:Inv X pins σ H s) (hg:Gl X x) (hm:X.mg x=some u) (h:Q u s)
  (hd:(x == ("__debug__" : Str))=false:=by decide):wpAny (model X.prog X.w) X.A (eval (.Name x pos) X.env) Q E s :=
 Calls.Name_function_global I.ok.kind hg (Calls.loadGlobal_global (by rw [I.ok.glob]; exact I.mod.glob.keeps I.bk) hm h) hd
theorem wJ {E:Value->Shared->Prop} {pins:List (Addr×Obj)} {s:Shared} {σ : St} {H:Hp} {x:Str} {u:Value} {pos:Pos} {Q:Value->Shared->Prop} (I:Inv X pins σ H s) (hg:Gl X x) (hm:X.mg x=none) (hv:bootBuiltins x=some u) (h:Q u s)
  (hn:x≠"__name__":=by decide) (hd:(x == ("__debug__" : Str))=false:=by decide):wpAny (model X.prog X.w) X.A (eval (.Name x pos) X.env) Q E s:=by
 obtain ⟨mb,h1,h2⟩:=I.mod.blt
 exact Calls.Name_function_global I.ok.kind hg (Calls.loadGlobal_builtin (by rw [I.ok.glob]; exact I.mod.glob.keeps I.bk) hm (by rw [I.ok.blt]; exact h1.keeps I.bk) ((h2 x hn).trans hv) h) hd
theorem pe_glob {x:Str} {v:V} {u:Value} {pos:Pos} (hg:Gl X x) (hm:X.mg x=some u) (r:RelV v u) (hd:(x == ("__debug__" : Str))=false:=by decide):PE X (.Name x pos) (tC v) :=
 fun _ _ _ H _ I h=>wV I hg hm ⟨v,H,I,r,h⟩ hd
theorem pe_bltn {x:Str} {v:V} {u:Value} {pos:Pos} (hg:Gl X x) (hm:X.mg x=none) (hv:bootBuiltins x=some u) (r:RelV v u) (hn:x≠"__name__":=by decide) (hd:(x == ("__debug__" : Str))=false:=by decide):PE X (.Name x pos) (tC v) :=
 fun _ _ _ H _ I h=>wJ I hg hm hv ⟨v,H,I,r,h⟩ hn hd
variable {a b:Expr} {ta tb:TE} {pos:Pos}
def tB (t:TE):TT:=fun σ H Q=>t σ H fun x H1=>∃ c,x = .bl c/\Q c H1
theorem pt_val {e:Expr} {t:TE} (h:PE X e t) (he:∀ whole,isTrue e X.env whole=(do let v <- whole; standAt e.pos; holding [v] (truthy v)):=by intro _; rfl):PT X e (tB t):=by
 intro pins s σ H Q I hw
 refine isTrue_plain (thn (h pins s σ H _ I hw) fun v s1 ⟨x,H1,I1,r1,q1⟩=>?_) (he _)
 obtain ⟨d,rfl,q⟩:=q1
 cases r1
 exact wpAny_truthy_bool ⟨H1,I1,q⟩
variable {tA tB':TT} {rest:List Expr}
def tAnd (t u:TT):TT:=fun σ H Q=>t σ H fun c H1=>if c=true then u σ H1 Q else Q false H1
def tOr (t u:TT):TT:=fun σ H Q=>t σ H fun c H1=>if c=true then Q true H1 else u σ H1 Q
def tNot (t:TT):TT:=fun σ H Q=>t σ H fun c H1=>Q (!c) H1
theorem pw_and1 (ha:PT X a tA):PW X (.BoolOp .And [a] pos) tA:=by
 intro wh pins s σ H Q I h
 refine isTrue_and (thn (ha pins s σ H Q I h) fun c s1 e=>?_)
 cases c with
 | true=>exact isTrue_and_nil e
 | false=>exact e
theorem pw_or1 (ha:PT X a tA):PW X (.BoolOp .Or [a] pos) tA:=by
 intro wh pins s σ H Q I h
 refine isTrue_or (thn (ha pins s σ H Q I h) fun c s1 e=>?_)
 cases c with
 | false=>exact isTrue_or_nil e
 | true=>exact e
theorem pw_and (ha:PT X a tA) (hb:PW X (.BoolOp .And (b::rest) pos) tB'):PW X (.BoolOp .And (a::b::rest) pos) (tAnd tA tB'):=by
 intro wh pins s σ H Q I h
 refine isTrue_and (thn (ha pins s σ H _ I h) fun c s1 ⟨H1,I1,q1⟩=>?_)
 cases c with
 | true=>exact hb wh pins s1 σ H1 Q I1 q1
 | false=>exact ⟨H1,I1,q1⟩
theorem pw_or (ha:PT X a tA) (hb:PW X (.BoolOp .Or (b::rest) pos) tB'):PW X (.BoolOp .Or (a::b::rest) pos) (tOr tA tB'):=by
 intro wh pins s σ H Q I h
 refine isTrue_or (thn (ha pins s σ H _ I h) fun c s1 ⟨H1,I1,q1⟩=>?_)
 cases c with
 | true=>exact ⟨H1,I1,q1⟩
 | false=>exact hb wh pins s1 σ H1 Q I1 q1
theorem pt_not (ha:PT X a tA):PT X (.UnaryOp .Not a pos) (tNot tA):=by
 intro pins s σ H Q I h
 exact isTrue_not (ha pins s σ H (fun c H1=>Q (!c) H1) I h)
def tAndV (ta tb:TE):TE:=fun σ H Q=>ta σ H fun x H1=>∃ c,x = .bl c/\if c=true then tb σ H1 Q else Q (.bl false) H1
def tOrV (ta tb:TE):TE:=fun σ H Q=>ta σ H fun x H1=>∃ c,x = .bl c/\if c=true then Q (.bl true) H1 else tb σ H1 Q
theorem pe_one {op} {t:TE} (h:PE X a t):PE X (.BoolOp op [a] pos) t:=fun pins s σ H Q I hw=>BoolOp_one (h pins s σ H Q I hw)
theorem pe_and (ha:PE X a ta) (hb:PE X (.BoolOp .And (b::rest) pos) tb):PE X (.BoolOp .And (a::b::rest) pos) (tAndV ta tb):=by
 intro pins s σ H Q I h
 refine BoolOp_and (thn (ha pins s σ H _ I h) fun v s1 ⟨x,H1,I1,r1,q1⟩=>?_)
 obtain ⟨c,rfl,q1⟩:=q1
 cases r1
 refine wpAny_truthy_bool ?_
 cases c with
 | true=>exact hb pins s1 σ H1 Q I1 q1
 | false=>exact ⟨.bl false,H1,I1,rfl,q1⟩
theorem pe_or (ha:PE X a ta) (hb:PE X (.BoolOp .Or (b::rest) pos) tb):PE X (.BoolOp .Or (a::b::rest) pos) (tOrV ta tb):=by
 intro pins s σ H Q I h
 refine BoolOp_or (thn (ha pins s σ H _ I h) fun v s1 ⟨x,H1,I1,r1,q1⟩=>?_)
 obtain ⟨c,rfl,q1⟩:=q1
 cases r1
 refine wpAny_truthy_bool ?_
 cases c with
 | false=>exact hb pins s1 σ H1 Q I1 q1
 | true=>exact ⟨.bl true,H1,I1,rfl,q1⟩
def tIf (t:TT) (ta tb:TE):TE:=fun σ H Q=>t σ H fun c H1=>if c=true then ta σ H1 Q else tb σ H1 Q
theorem pe_ifExp {c:Expr} (hc:PT X c tA) (ha:PE X a ta) (hb:PE X b tb):PE X (.IfExp c a b pos) (tIf tA ta tb):=by
 intro pins s σ H Q I h
 refine wpAny_IfExp (thn (hc pins s σ H _ I h) fun d s1 ⟨H1,I1,q1⟩=>?_)
 cases d with
 | true=>exact ha pins s1 σ H1 Q I1 q1
 | false=>exact hb pins s1 σ H1 Q I1 q1
end
end L2
namespace L2
open PySem PySem.Spec PyProof.Rows
def SqL (K:PySem.W.Frag) (H:Hp) (a:Addr) (xs:List V):Prop :=
 Rd H a (.lst xs) ∨
  ∃ (o:Obj) (its:Array Value) (n:Nat),K.lookup a=some o/\o.cls = .type "list"/\o.dict=none/\o.data = .seq its n/\its.size<=sizeLine/\Vals xs its.toList
def SqT (K:PySem.W.Frag) (H:Hp) (a:Addr) (xs:List V):Prop :=
 Rd H a (.tup xs) ∨
  ∃ (o:Obj) (its:Array Value) (n:Nat),K.lookup a=some o/\o.cls = .type "tuple"/\o.data = .seq its n/\its.size<=sizeLine/\Vals xs its.toList
def absV:Value->Option V
 | .none=>some .non
 | .bool b=>some (.bl b)
 | .int i _=>some (.int i)
 | .str x _=>some (.str x)
 | .bytes b _=>some (.byt b)
 | .float b _=>some (.flt b)
 | .ref a=>some (.ref a)
 | .type n=>some (.ty n)
 | _=>none
theorem RelV.abs {x:V} {u:Value} (r:RelV x u):absV u=some x:=by
 cases x with
 | non=>cases r; rfl
 | bl _=>cases r; rfl
 | int _=>obtain ⟨t,rfl⟩:=r; rfl
 | str _=>obtain ⟨t,rfl⟩:=r; rfl
 | byt _=>obtain ⟨t,rfl⟩:=r; rfl
 | flt _=>obtain ⟨t,rfl⟩:=r; rfl
 | ref _=>cases r; rfl
 | ty _=>cases r; rfl
theorem RelV.inj {x y:V} {u:Value} (r:RelV x u) (q:RelV y u):x=y:=Option.some.inj (r.abs.symm.trans q.abs)
theorem Vals.inj:∀ {xs ys:List V} {us:List Value},Vals xs us->Vals ys us->xs=ys
 | _,_,_,.nil,.nil=>rfl
 | _,_,_,.cons r t,.cons r' t'=>by rw [r.inj r',Vals.inj t t']
section
variable {X:Cx} {pins:List (Addr×Obj)} {σ : St} {H:Hp} {s:Shared} {a:Addr} {xs ys:List V}
theorem SqL.of {K:PySem.W.Frag} (h:H a=some (.lst xs)):SqL K H a xs:=.inl (.inl h)
theorem Inv.list (I:Inv X pins σ H s) (h:SqL X.K H a xs):∃ its:List Value,Vals xs its/\PlainL s.heap a its.toArray/\xs.length<=sizeLine:=by
 rcases h with h | ⟨o,its,n,hk,hc,hd,hs,hz,r⟩
 · obtain ⟨z, its, n, r, e⟩ := h.ok I.hok
   exact ⟨its,r,⟨_,n,e,rfl,rfl,rfl⟩,z⟩
 · refine ⟨its.toList, r, ⟨o, n, I.kIn a o hk, hc, hd, by simpa using hs⟩, ?_⟩
   have e:=r.length
   simp only [Array.length_toList] at e
   omega
theorem Inv.tuple (I:Inv X pins σ H s) (h:SqT X.K H a xs):∃ its:List Value,Vals xs its/\IsTup s.heap a its.toArray/\xs.length<=sizeLine:=by
 rcases h with h | ⟨o,its,n,hk,hc,hs,hz,r⟩
 · obtain ⟨z, its, r, p⟩ := h.ok I.hok
   exact ⟨its,r,p,z⟩
 · refine ⟨its.toList, r, ⟨o, I.kIn a o hk, hc, n, by simpa using hs⟩, ?_⟩
   have e:=r.length
   simp only [Array.length_toList] at e
   omega
theorem Inv.list_inj (I:Inv X pins σ H s) (h:SqL X.K H a xs) (h':SqL X.K H a ys):xs=ys:=by
 obtain ⟨its,r,⟨o,n,e,_,_,d⟩,_⟩:=I.list h
 obtain ⟨its',r',⟨o',n',e',_,_,d'⟩,_⟩:=I.list h'
 rw [e] at e'; cases e'
 rw [d] at d'
 injection d' with d1 _
 have:its=its':=by simpa using congrArg Array.toList d1
 subst this
 exact r.inj r'
theorem Inv.tuple_inj (I:Inv X pins σ H s) (h:SqT X.K H a xs) (h':SqT X.K H a ys):xs=ys:=by
 obtain ⟨its,r,⟨o,e,_,n,d⟩,_⟩:=I.tuple h
 obtain ⟨its',r',⟨o',e',_,n',d'⟩,_⟩:=I.tuple h'
 rw [e] at e'; cases e'
 rw [d] at d'
 injection d' with d1 _
 have:its=its':=by simpa using congrArg Array.toList d1
 subst this
 exact r.inj r'
end
abbrev Cx.wish (X:Cx) (E:Value->Shared->Prop):Cx:={ X with xe:=E }
abbrev Cx.nox (X:Cx):Cx:=X.wish fun _ _=>False
theorem Cx.Ok.wish {X:Cx} (ok:X.Ok) (E:Value->Shared->Prop):(X.wish E).Ok :=
 ⟨ok.mod,ok.kind,ok.glob,ok.blt,ok.above,ok.inj,ok.has,ok.cab,ok.hd,ok.frames,ok.stk,ok.exf,ok.bs,ok.bsz,ok.noex,ok.exfs,ok.funs,ok.frf⟩
theorem Cx.Ok.unwish {X:Cx} {E:Value->Shared->Prop} (ok:(X.wish E).Ok):X.Ok :=
 ⟨ok.mod,ok.kind,ok.glob,ok.blt,ok.above,ok.inj,ok.has,ok.cab,ok.hd,ok.frames,ok.stk,ok.exf,ok.bs,ok.bsz,ok.noex,ok.exfs,ok.funs,ok.frf⟩
section
variable {X:Cx} {pins:List (Addr×Obj)} {σ : St} {H:Hp} {s:Shared} {E:Value->Shared->Prop}
theorem Inv.wish (I:Inv X pins σ H s) (E:Value->Shared->Prop):Inv (X.wish E) pins σ H s:=⟨I.ok.wish E,I.os,I.bare,I.base,I.loc,I.cell,I.free,I.freeC,I.pin,I.hok,I.len⟩
theorem Inv.unwish (I:Inv (X.wish E) pins σ H s):Inv X pins σ H s:=⟨I.ok.unwish,I.os,I.bare,I.base,I.loc,I.cell,I.free,I.freeC,I.pin,I.hok,I.len⟩
theorem SP.unwish {D:Ends} {f:Flow} {s':Shared} (h:SP (X.wish E) pins D f s'):SP X pins D f s':=by
 cases f with
 | next=>obtain ⟨σ',H',I,q⟩:=h; exact ⟨σ',H',I.unwish,q⟩
 | brk=>obtain ⟨σ',H',I,q⟩:=h; exact ⟨σ',H',I.unwish,q⟩
 | cont=>obtain ⟨σ',H',I,q⟩:=h; exact ⟨σ',H',I.unwish,q⟩
 | ret u=>obtain ⟨v,σ',H',I,r,q⟩:=h; exact ⟨v,σ',H',I.unwish,r,q⟩
theorem PE.nox {e:Expr} {t:TE} (h:PE X.nox e t):PE X e t:=fun pins s σ H Q I hw =>
 wpAny_mono (h pins s σ H Q (I.wish _) hw) (fun _ _ ⟨v,H',I',r,q⟩=>⟨v,H',I'.unwish,r,q⟩) fun _ _ z=>False.elim z
theorem PT.nox {e:Expr} {t:TT} (h:PT X.nox e t):PT X e t:=fun pins s σ H Q I hw =>
 wpAny_mono (h pins s σ H Q (I.wish _) hw) (fun _ _ ⟨H',I',q⟩=>⟨H',I'.unwish,q⟩) fun _ _ z=>False.elim z
theorem PSs.nox {st:List Stmt} {t:TS} (h:PSs X.nox st t):PSs X st t:=fun pins s σ H D I hw =>
 wpAny_mono (h pins s σ H D (I.wish _) hw) (fun _ _ q=>q.unwish) fun _ _ z=>False.elim z
end
section
variable {X:Cx} {st:Stmt} {rest:List Stmt} {t u:TS} {e:Expr} {te:TE} {pos:Pos}
def tNext:TS:=fun D σ H=>D.nx σ H
def tSeq (t u:TS):TS:=fun D σ H=>t { D with nx:=u D } σ H
theorem pss_nil:PSs X [] tNext:=fun _ _ σ H _ I h=>wpAny_execs_nil ⟨σ,H,I,h⟩
theorem kG (h1:PS X st t) (h2:PSs X rest u):PSs X (st::rest) (tSeq t u):=by
 intro pins s σ H D I h
 refine wpAny_execs_cons (thn (h1 pins s σ H { D with nx:=u D } I h) fun f s1 q=>?_)
 cases f with
 | next =>
   obtain ⟨σ',H',I',q⟩:=q
   exact h2 pins s1 σ' H' D I' q
 | ret v=>exact q
 | brk=>exact q
 | cont=>exact q
theorem pss_one (h1:PS X st t):PSs X [st] t:=by
 intro pins s σ H D I h
 refine wpAny_execs_cons (thn (h1 pins s σ H D I h) fun f s1 q=>?_)
 cases f with
 | next=>exact wpAny_execs_nil q
 | ret v=>exact q
 | brk=>exact q
 | cont=>exact q
def tCont:TS:=fun D σ H=>D.ct σ H
theorem ps_continue:PS X (.Continue pos) tCont:=fun _ _ σ H _ I h=>wpAny_Continue ⟨σ,H,I,h⟩
theorem Inv.quiet {pins:List (Addr×Obj)} {σ : St} {H:Hp} {s:Shared} (I:Inv X pins σ H s):interactive X.env=false:=by simp [interactive,I.ok.kind]
def tDrop (te:TE):TS:=fun D σ H=>te σ H fun _ H1=>D.nx σ H1
theorem ps_expr (he:PE X e te) (hs:swapsWith e none pos.line X.env=pure false:=by rfl):PS X (.Expr e pos) (tDrop te):=by
 intro pins s σ H D I h
 exact wpAny_Expr_any (thn (he pins s σ H _ I h) fun v s1 ⟨x,H1,I1,r1,q1⟩=>⟨σ,H1,I1,q1⟩) I.quiet hs
def tRet (te:TE):TS:=fun D σ H=>te σ H D.rt
theorem vS (he:PE X e te):PS X (.Return (some e) pos) (tRet te):=by
 intro pins s σ H D I h
 exact wpAny_Return_some (thn (he pins s σ H _ I h) fun v s1 ⟨x,H1,I1,r1,q1⟩=>⟨x,σ,H1,I1,r1,q1⟩)
def tIfS (c:TT) (t u:TS):TS:=fun D σ H=>c σ H fun b H1=>if b=true then t D σ H1 else u D σ H1
theorem ps_if {c:Expr} {a b:List Stmt} {tc:TT} (hc:PT X c tc) (ha:PSs X a t) (hb:PSs X b u):PS X (.If c a b pos) (tIfS tc t u):=by
 intro pins s σ H D I h
 refine wpAny_If (thn (hc pins s σ H _ I h) fun d s1 ⟨H1,I1,q1⟩=>?_)
 cases d with
 | true=>exact ha pins s1 σ H1 D I1 q1
 | false=>exact hb pins s1 σ H1 D I1 q1
def tNever:TS:=fun _ _ _=>False
theorem ps_never:PS X st tNever:=fun _ _ _ _ _ _ h=>h.elim
end
abbrev TG:=V->St->Hp->(St->Hp->Prop)->Prop
abbrev TGs:=List V->St->Hp->(St->Hp->Prop)->Prop
def PG (X:Cx) (target:Expr) (t:TG):Prop :=
 ∀ (pins:List (Addr×Obj)) (s:Shared) (σ : St) (H:Hp) (v:V) (u:Value) (Q:St->Hp->Prop),Inv X pins σ H s->RelV v u->t v σ H Q →
  wpAny (model X.prog X.w) X.A (assign target X.env u) (fun _ s'=>∃ σ' H',Inv X pins σ' H' s'/\Q σ' H') X.xe s
def PGs (X:Cx) (ts:List Expr) (t:TGs):Prop :=
 ∀ (pins:List (Addr×Obj)) (s:Shared) (σ : St) (H:Hp) (vs:List V) (us:List Value) (Q:St->Hp->Prop),Inv X pins σ H s->Vals vs us->t vs σ H Q →
  wpAny (model X.prog X.w) X.A (assignInOrder ((assignEach ts X.env).map (·.2)) us) (fun _ s'=>∃ σ' H',Inv X pins σ' H' s'/\Q σ' H') X.xe s
abbrev TSet:=V->V->V->Hp->(Hp->Prop)->Prop
def PSet (X:Cx) (t:TSet):Prop :=
 ∀ (pins:List (Addr×Obj)) (s:Shared) (σ : St) (H:Hp) (o i v:V) (ov iv u:Value) (Q:Hp->Prop),Inv X pins σ H s->RelV o ov->RelV i iv->RelV v u->t o i v H Q →
  wpAny (model X.prog X.w) X.A (setItem ov iv u) (fun _ s'=>∃ H',Inv X pins σ H' s'/\Q H') X.xe s
abbrev TIp:=V->V->Hp->VK->Prop
def PIp (X:Cx) (op:Operator) (t:TIp):Prop :=
 ∀ (pins:List (Addr×Obj)) (s:Shared) (σ : St) (H:Hp) (x y:V) (v u:Value) (Q:VK),Inv X pins σ H s->RelV x v->RelV y u->t x y H Q →
  wpAny (model X.prog X.w) X.A (inplaceOp op v u) (EP X pins σ Q) X.xe s
section
variable {X:Cx} {pos:Pos}
def gName (i:Nat):TG:=fun v σ H Q=>Q (σ.set i (some v)) H
theorem pg_name {i:Nat} {x:Str} (hN:X.N.Nodup) (hi:X.N[i]? = some x) (hx:Loc X.env.scope x) (hf:X.fn x=true \/ X.env.scope.names.lookup x=some .local:=by first | exact .inl rfl | exact .inr rfl | assumption):PG X (.Name x pos) (gName i):=by
 intro pins s σ H v u Q I r h
 exact wpAny_assign_Name (xJ I hN hi hx r (fun s' I'=>⟨_,H,I',h⟩) hf)
def gNil:TGs:=fun vs σ H Q=>vs=[]/\Q σ H
def gCons (t:TG) (u:TGs):TGs:=fun vs σ H Q=>∃ v r,vs=v::r/\t v σ H fun σ' H'=>u r σ' H' Q
theorem pgs_nil:PGs X [] gNil:=by
 intro pins s σ H vs us Q I r h
 obtain ⟨e,h⟩:=h
 subst e
 cases r
 exact assignInOrder_nil ⟨σ,H,I,h⟩
theorem pgs_cons {e:Expr} {es:List Expr} {t:TG} {u:TGs} (h1:PG X e t) (h2:PGs X es u)
  (hs:(assignEach (e::es) X.env).map (·.2)=assign e X.env::(assignEach es X.env).map (·.2):=by rfl):PGs X (e::es) (gCons t u):=by
 intro pins s σ H vs us Q I r h
 obtain ⟨v,vr,e1,h⟩:=h
 subst e1
 cases r with
 | cons r rr =>
   rw [hs]
   refine assignInOrder_cons (thn (h1 pins s σ H _ _ _ I r h) fun _ s1 ⟨σ1,H1,I1,q1⟩=>?_)
   exact h2 pins s1 σ1 H1 _ _ Q I1 rr q1
def gTup (K:PySem.W.Frag) (n:Nat) (t:TGs):TG:=fun v σ H Q=>∃ a xs,v = .ref a/\SqT K H a xs/\xs.length=n/\t xs σ H Q
theorem pg_tup {es:List Expr} {k:Nat} {t:TGs} {n:Nat} (hc:X.calm=true) (h:PGs X es t)
  (hn:(assignEach es X.env).length=n:=by rfl) (hst:(assignEach es X.env).findIdx? (·.1)=none:=by rfl):PG X (.Tuple es k pos) (gTup X.K n t):=by
 intro pins s σ H v u Q I r hw
 obtain ⟨a,xs,e1,hq,hl,hw⟩:=hw
 subst e1
 cases r
 obtain ⟨its,rv,ht,hz⟩:=I.tuple hq
 refine assign_Tuple_tuple (I.ok.hd hc) ht (by simp [hn,<- hl,rv.length]) hst fun h' hx=>?_
 have I1:Inv X pins σ H { s with heap:=h' }:=I.kept (t':=s.toks) fun b o e=>hx b o (Nat.ne_of_lt (Heap.lt_size e)) e
 exact h pins _ σ H xs _ Q I1 (by simpa using rv) hw
def gSub (to ti:TE) (t:TSet):TG:=fun v σ H Q=>to σ H fun o H1=>ti σ H1 fun i H2=>t o i v H2 fun H3=>Q σ H3
theorem pg_sub {o i:Expr} {to ti:TE} {t:TSet} (ho:PE X o to) (hi:PE X i ti) (hs:PSet X t)
  (ha:∀ v,assign (.Subscript o i pos) X.env v=(do
    let ov <- holding [v] (eval o X.env)
    let iv <- holding [v,ov] (eval i X.env)
    standAt pos
    holding [v,ov,iv] (setItem ov iv v)
    release [v,ov,iv] []):=by intro _; rfl):PG X (.Subscript o i pos) (gSub to ti t):=by
 intro pins s σ H v u Q I r h
 rw [ha]
 refine wpAny_bind (wpAny_holding (thn (ho pins s σ H _ I h) fun ov s1 ⟨x,H1,I1,r1,q1⟩=>?_))
 refine wpAny_bind (wpAny_holding (thn (hi pins s1 σ H1 _ I1 q1) fun iv s2 ⟨y,H2,I2,r2,q2⟩=>?_))
 refine wpAny_bind (wpAny_standAt (wpAny_bind (wpAny_holding (thn (hs pins s2 σ H2 x y v ov iv u _ I2 r1 r2 r q2) fun _ s3 ⟨H3,I3,q3⟩=>?_))))
 exact wpAny_release ⟨σ,H3,I3,q3⟩
def tAsg (te:TE) (g:TG):TS:=fun D σ H=>te σ H fun x H1=>g x σ H1 D.nx
theorem ps_asg {tg e:Expr} {te:TE} {g:TG} (he:PE X e te) (hg:PG X tg g) (hs:swapsWithSole [tg] e pos.line X.env=pure false:=by rfl) (hw:swappedStores [tg] e X.env=pure none:=by rfl)
  (h1:(assignEach [tg] X.env).map (·.2)=[assign tg X.env]:=by rfl):PS X (.Assign [tg] e pos) (tAsg te g):=by
 intro pins s σ H D I h
 refine wpAny_Assign_stores (thn (he pins s σ H _ I h) fun v s1 ⟨x,H1,I1,r1,q1⟩=>?_) hs hw
 rw [h1]
 exact thn (hg pins s1 σ H1 x v _ I1 r1 q1) fun _ s2 q=>q
theorem ps_set {i:Nat} {x:Str} {e:Expr} {te:TE} {pos':Pos} (hN:X.N.Nodup) (hi:X.N[i]? = some x) (hx:Loc X.env.scope x) (he:PE X e te) (hs:swapsWith e (some (.Name x pos')) pos.line X.env=pure false:=by rfl) (hf:X.fn x=true \/ X.env.scope.names.lookup x=some .local:=by first | exact .inl rfl | exact .inr rfl | assumption) :
  PS X (.Assign [.Name x pos'] e pos) (tAsg te (gName i)):=by
 intro pins s σ H D I h
 refine wpAny_Assign_Name (thn (he pins s σ H _ I h) fun v s1 ⟨y,H1,I1,r1,q1⟩=>?_) hs
 exact xJ I1 hN hi hx r1 (fun s2 I2=>⟨_,H1,I2,q1⟩) hf
def tPar (i j:Nat) (ta:TA):TS:=fun D σ H=>ta σ H fun vs H1=>∃ v w,vs=[v,w]/\D.nx ((σ.set i (some v)).set j (some w)) H1
theorem ps_par {i j:Nat} {x y:Str} {a b:Expr} {ta:TA} {px py pt:Pos} {kt k2 pt2} (hc:X.calm=true) (hN:X.N.Nodup) (hi:X.N[i]? = some x) (hj:X.N[j]? = some y) (hij:i≠j)
  (hx:X.env.scope.names.lookup x=some .local) (hy:X.env.scope.names.lookup y=some .local) (ha:PA X [a,b] ta)
  (hw:swappedStores [.Tuple [.Name x px,.Name y py] kt pt] (.Tuple [a,b] k2 pt2) X.env=pure (some [x,y]))
  (hs:swapsWithSole [.Tuple [.Name x px,.Name y py] kt pt] (.Tuple [a,b] k2 pt2) pos.line X.env=pure false:=by rfl) :
  PS X (.Assign [.Tuple [.Name x px,.Name y py] kt pt] (.Tuple [a,b] k2 pt2) pos) (tPar i j ta):=by
 intro pins s σ H D I h
 rw [exec_Assign_arm]
 refine wpAny_bind (wpAny_standAt ?_)
 rw [hs]
 refine wpAny_bind (wpAny_pure ?_)
 rw [if_neg (by decide)]
 refine wpAny_bind (Tuple_ (thn (ha _ pins s σ H _ I h) fun us s1 ⟨vs,H1,I1,r1,q1⟩=>?_))
 obtain ⟨v,w,e1,q1⟩:=q1
 subst e1
 obtain ⟨u1,u2,rfl,rv,rw'⟩:∃ u1 u2,us=[u1,u2]/\RelV v u1/\RelV w u2:=by
  cases r1 with
  | cons p q =>
    cases q with
    | cons p' q' =>
      cases q'
      exact ⟨_,_,rfl,p,p'⟩
 refine wpAny_newObj_type ?_ (by show 2<=sizeLine; decide)
 have I2:Inv X pins σ H1 { s1 with heap:=s1.heap.push { cls:=.type "tuple",data:=.seq [u1,u2].toArray } }:=I1.kept (t':=s1.toks) fun b o e=>Heap.get?_push_of_some _ e
 rw [hw]
 refine wpAny_bind (wpAny_pure ?_)
 show wpAny (model X.prog X.w) X.A (do rule "assign.swapped-stores"; let items <- unpackItems (.ref s1.heap.objs.size) 2 none; assignInOrder [fun v=>bindName X.env y v,fun v=>bindName X.env x v] items.reverse; pure Flow.next) _ _ _
 refine wpAny_bind (wpAny_rule (wpAny_bind (unpackItems_tuple (items:=#[u1,u2]) (I.ok.hd hc) (IsTup.new s1.heap _) fun h' hx'=>?_)))
 have I3:=I2.kept (h':=h') (t':=s1.toks) fun b o e=>hx' b o (Nat.ne_of_lt (Heap.lt_size e)) e
 show wpAny _ _ (assignInOrder [fun v=>bindName X.env y v,fun v=>bindName X.env x v] [u2,u1] >>= fun _=>pure Flow.next) _ _ _
 refine wpAny_bind (assignInOrder_cons (wpAny_bindName (xJ I3 hN hj (.inl hy) rw' (fun s2 I4=>?_) (.inr hy))))
 refine assignInOrder_cons (wpAny_bindName (xJ I4 hN hi (.inl hx) rv (fun s3 I5=>assignInOrder_nil (wpAny_pure ?_)) (.inr hx)))
 rw [List.set_comm _ _ (Ne.symm hij)] at I5
 exact ⟨_,H1,I5,q1⟩
def tAug (i:Nat) (te:TE) (ti:TIp):TS:=fun D σ H=>∃ x,σ[i]? = some (some x)/\te σ H fun y H1=>ti x y H1 fun z H2=>D.nx (σ.set i (some z)) H2
theorem ps_aug {i:Nat} {x:Str} {e:Expr} {te:TE} {op:Operator} {ti:TIp} {pos':Pos} (hN:X.N.Nodup) (hi:X.N[i]? = some x) (hx:Loc X.env.scope x) (he:PE X e te) (ho:PIp X op ti) (hf:X.fn x=true \/ X.env.scope.names.lookup x=some .local:=by first | exact .inl rfl | exact .inr rfl | assumption) :
  PS X (.AugAssign (.Name x pos') op e pos) (tAug i te ti):=by
 intro pins s σ H D I h
 obtain ⟨v,e1,h⟩:=h
 obtain ⟨m,hn,hl⟩:=I.loc
 have vis:Vis X.env.scope x:=by rcases hx with k | k; exact .inl k; exact .inr (.inl k)
 obtain ⟨u,r,l⟩:=hl i x v hi e1 vis
 refine wpAny_AugAssign_Name ?_
 have go:wpAny (model X.prog X.w) X.A (eval e X.env) (fun w s₂=>wpAny (model X.prog X.w) X.A (inplaceOp op u w) (fun r s₃=>wpAny (model X.prog X.w) X.A (storeName X.env x r) (fun _=>SP X pins D .next) X.xe s₃) X.xe s₂) X.xe s:=by
  refine thn (he pins s σ H _ I h) fun w s1 ⟨y,H1,I1,r1,q1⟩=>?_
  refine thn (ho pins s1 σ H1 v y u w _ I1 r r1 q1) fun z s2 ⟨zv,H2,I2,r2,q2⟩=>?_
  exact xJ I2 hN hi hx r2 (fun s3 I3=>⟨_,H2,I3,q2⟩) hf
 rcases l with ⟨hk,hm⟩ | ⟨hk,c,hc,hcell⟩
 · exact wpAny_loadName_local I.ok.kind hk hn hm go
 · rcases hk with hk | hk
   · exact wpAny_loadName_cell I.ok.kind hk hc hcell go
   · rcases hx with k | k
     · have : X.env.scope.names.lookup x = some .free := hk
       rw [k] at this; cases this
     · have : X.env.scope.names.lookup x = some .free := hk
       rw [k] at this; cases this
def ipI (f:Int->Int->Int):TIp:=fun x y H Q=>∃ i j,x = .int i/\y = .int j/\Q (.int (f i j)) H
theorem ip_add:PIp X .Add (ipI fun i j=>i+j):=by
 intro pins s σ H x y v u Q I r1 r2 h
 obtain ⟨i,j,e1,e2,q⟩:=h
 subst e1; subst e2
 obtain ⟨t,rfl⟩:=r1
 obtain ⟨t',rfl⟩:=r2
 exact iadd_int ⟨.int _,H,I.tok _,⟨_,rfl⟩,q⟩
end
section
variable {X:Cx} {pos:Pos}
def tWhile (c:TT) (tb:TS):TS:=fun D σ H=>∃ W:Nat->St->Hp->Prop,(∃ m,W m σ H)/\∀ m σ H,W m σ H →
 c σ H fun b H1=>if b=true then ∃ N:St->Hp->Prop,(∀ σ' H',N σ' H'->∃ m',m' < m/\W m' σ' H')/\tb { D with nx:=N,ct:=N,bk:=D.nx } σ H1 else D.nx σ H1
theorem ps_while {c:Expr} {body:List Stmt} {tc:TT} {tb:TS} (hp:PassesOwn (model X.prog X.w) X.A X.env X.xe) (hc:PT X c tc) (hb:PSs X body tb):PS X (.While c body [] pos) (tWhile tc tb):=by
 intro pins s σ H D I h
 obtain ⟨W,⟨m0,w0⟩,turn⟩:=h
 refine wpAny_While (codeAny_whileLoop (fun n s'=>∃ σ' H',Inv X pins σ' H' s'/\W n σ' H') ?_ m0 ⟨σ,H,I,w0⟩)
 rintro n s1 ⟨σ1,H1,I1,w1⟩
 refine wpAny_passesOwn hp (thn (hc pins s1 σ1 H1 _ I1 (turn n σ1 H1 w1)) fun b s2 ⟨H2,I2,q2⟩=>?_)
 cases b with
 | true =>
   obtain ⟨N,hN,q2⟩:=q2
   rw [if_pos rfl]
   refine wpAny_passesOwn hp (thn (hb pins s2 σ1 H2 _ I2 q2) fun f s3 q3=>?_)
   cases f with
   | next =>
     obtain ⟨σ3,H3,I3,n3⟩:=q3
     obtain ⟨m',hm,w3⟩:=hN σ3 H3 n3
     exact ⟨m',hm,σ3,H3,I3,w3⟩
   | cont =>
     obtain ⟨σ3,H3,I3,n3⟩:=q3
     obtain ⟨m',hm,w3⟩:=hN σ3 H3 n3
     exact ⟨m',hm,σ3,H3,I3,w3⟩
   | brk=>exact q3
   | ret v=>exact q3
 | false =>
   rw [if_neg Bool.false_ne_true]
   exact wpAny_execs_nil ⟨σ1,H2,I2,q2⟩
end
structure It where
 go:Nat->Hp->Prop
 yld:Nat->Hp->V->Hp->Prop
 stop:Nat->Hp->Prop
def FpOk (X:Cx) (pins:List (Addr×Obj)) (H:Hp) (b:Addr):Prop :=
 H b=none/\b≠X.env.locals/\b ∉ X.fs/\(b∈X.ex \/ X.s₀.heap.objs.size<=b)/\(∀ x c,X.env.cells.lookup x=some c->c≠b)/\∀ p∈X.pn++pins,p.1≠b
theorem Inv.fpOk {X:Cx} {pins:List (Addr×Obj)} {σ : St} {H H':Hp} {s:Shared} {b:Addr} (I:Inv X pins σ H s) (hb:s.heap.objs.size<=b) (hn:H' b=none):FpOk X pins H' b:=by
 refine ⟨hn,Nat.ne_of_gt (Nat.lt_of_lt_of_le I.lt hb),I.nofs hb,.inr (Nat.le_trans I.sz hb),fun x c e z=>?_,fun p hp z=>?_⟩
 · obtain ⟨v, q⟩ := I.cell x c e
   exact absurd (Nat.lt_of_lt_of_le q.lt (by rw [z]; exact hb)) (Nat.lt_irrefl _)
 · exact absurd (Nat.lt_of_lt_of_le (Heap.lt_size (I.pin p hp).1) (by rw [z]; exact hb)) (Nat.lt_irrefl _)
structure Turn (P:Program) (w:World) (K:PySem.W.Frag) (tg:Expr) (J:It) (fp:List Addr) (it:Addr) (tn:Nat->Heap->Prop):Prop where
 mem:it∈fp
 obj:∀ i h,tn i h->∀ b∈fp,∃ o,h.get? b=some o/\∀ v,o.data≠.cell v
 keep:∀ i h h',tn i h->(∀ b∈fp,∀ o,h.get? b=some o->h'.get? b=some o)->tn i h'
 item:∀ (X:Cx),X.prog=P->X.w=w->X.K=K->X.calm=true->∀ (i:Nat) (pins:List (Addr×Obj)) (s:Shared) (σ : St) (H:Hp) (E:Value->Shared->Prop),Inv X pins σ H s->(∀ b∈fp,FpOk X pins H b)->tn i s.heap->J.go i H →
  wpAny (model P w) X.A (pyNext (.ref it)) (fun r s1=>∃ u,r=some u ∧
   wpAny (model P w) X.A (letOwnedTupleGo tg (.ref it) u) (fun _ s2=>∃ x H',Inv X pins σ H' s2/\RelV x u/\J.yld i H x H'/\tn (i+1) s2.heap/\∀ b∈fp,H' b=none) E s1) E s
 done:∀ (X:Cx),X.prog=P->X.w=w->X.K=K->X.calm=true->∀ (i:Nat) (pins:List (Addr×Obj)) (s:Shared) (σ : St) (H:Hp) (E:Value->Shared->Prop),Inv X pins σ H s->(∀ b∈fp,FpOk X pins H b)->tn i s.heap->J.stop i H →
  wpAny (model P w) X.A (pyNext (.ref it)) (fun r s1=>r=none/\Inv X pins σ H s1) E s
 self:∀ (A:Around) (i:Nat) (s:Shared) (Q:Value->Shared->Prop) (E:Value->Shared->Prop),tn i s.heap->Q (.ref it) s->wpAny (model P w) A (pyIter (.ref it)) Q E s
abbrev TI:=St->Hp->(It->Hp->Prop)->Prop
def PIE (X:Cx) (pins:List (Addr×Obj)) (σ : St) (tg:Expr) (R:It->Hp->Prop) (itv:Value) (s2:Shared):Prop :=
 ∃ (it:Addr) (fp:List Addr) (tn:Nat->Heap->Prop) (J:It) (H':Hp),itv = .ref it/\Inv X pins σ H' s2/\Turn X.prog X.w X.K tg J fp it tn/\tn 0 s2.heap/\(∀ b∈fp,FpOk X pins H' b)/\R J H'
def PI (X:Cx) (tg iter:Expr) (wi:TI):Prop :=
 ∀ (pins:List (Addr×Obj)) (s:Shared) (σ : St) (H:Hp) (R:It->Hp->Prop),Inv X pins σ H s->wi σ H R →
  wpAny (model X.prog X.w) X.A (eval iter X.env) (fun v s1=>wpAny (model X.prog X.w) X.A (pyIter v) (PIE X pins σ tg R) X.xe s1) X.xe s
theorem go_of {M:Model} {A:Around} {E:Value->Shared->Prop} {s:Shared} {tg:Expr} {it:Addr} {u:Value} {o:Obj} {n:String} {vs:Array Value} {Q:Unit->Shared->Prop} (ho:s.heap.get? it=some o) (hc:o.cls = .type n) (hd:o.data = .fields vs)
  (hn:["enumerate","zip","dict_itemiterator","dict_reverseitemiterator","odict_iterator","itertools.zip_longest","itertools.pairwise"].contains n=false) (hQ:Q () s):wpAny M A (letOwnedTupleGo tg (.ref it) u) Q E s:=by
 unfold letOwnedTupleGo
 cases tg <;> first
  | exact wpAny_pure hQ
  | (cases u <;> first
      | exact wpAny_pure hQ
      | (refine wpAny_bind (wpAny_load ho ?_)
         rw [hc,hd]
         show wpAny M A (if (["enumerate","zip","dict_itemiterator","dict_reverseitemiterator","odict_iterator","itertools.zip_longest","itertools.pairwise"].contains n && vs[0]? == some (rawInt _))=true then _ else _) Q E s
         rw [if_neg (by intro h; rw [hn,Bool.false_and] at h; cases h)]
         exact wpAny_pure hQ))
def Itl (K:PySem.W.Frag) (a:Addr):It :=
 ⟨fun i H=>∃ xs x,SqL K H a xs/\xs[i]? = some x,fun i H x H'=>H'=H/\∀ xs,SqL K H a xs->xs[i]? = some x,fun i H=>∃ xs,SqL K H a xs/\xs.length<=i⟩
def Itt (K:PySem.W.Frag) (a:Addr):It :=
 ⟨fun i H=>∃ xs x,SqT K H a xs/\xs[i]? = some x,fun i H x H'=>H'=H/\∀ xs,SqT K H a xs->xs[i]? = some x,fun i H=>∃ xs,SqT K H a xs/\xs.length<=i⟩
def Itr (lo:Int) (n:Nat):It:=⟨fun i _=>i < n,fun i H x H'=>H'=H/\x = .int (lo+i),fun i _=>n<=i⟩
theorem turn_list {P:Program} {w:World} {K:PySem.W.Frag} {tg:Expr} (a it:Addr):Turn P w K tg (Itl K a) [it] it (fun i h=>h.IsListIter it a i) where
 mem:=by simp
 obj:=fun i h st b hb=>by
  have e:b=it:=by simpa using hb
  subst e
  obtain ⟨o,e,c,d⟩:=st
  exact ⟨o,e,fun v z=>by rw [d] at z; cases z⟩
 keep:=fun i h h' st k=>st.at fun o e=>k it (by simp) o e
 item:=by
  intro X hP hw hK hc i pins s σ H E I hf st hg
  subst hP hw hK
  obtain ⟨xs,x,hq,hx⟩:=hg
  obtain ⟨its,rv,p,hz⟩:=I.list hq
  obtain ⟨u,hu,ru⟩:=rv.get hx
  obtain ⟨f0,f1,f2,f3,f4,f5⟩:=hf it (by simp)
  refine wpAny_pyNext_list_item st p.isList (x:=u) (by simpa using hu) fun h' st' sb=>?_
  have I1:Inv X pins σ H { s with heap:=h' }:=I.turned (t':=s.toks) (fun b o hb e=>(sb.2 b hb).trans e) f0 f1 f3 f4 f5
  obtain ⟨o,e,c,d⟩:=id st'
  exact ⟨u,rfl,go_of (s:={ s with heap:=h' }) e c d (by decide) ⟨x,H,I1,ru,⟨rfl,fun ys hy=>by rw [I.list_inj hy hq]; exact hx⟩,st',fun b hb=>(hf b hb).1⟩⟩
 done:=by
  intro X hP hw hK hc i pins s σ H E I hf st hg
  subst hP hw hK
  obtain ⟨xs,hq,hx⟩:=hg
  obtain ⟨its,rv,p,hz⟩:=I.list hq
  obtain ⟨f0,f1,f2,f3,f4,f5⟩:=hf it (by simp)
  have hl:=rv.length
  exact wpAny_pyNext_list_end (I.ok.hd hc) st p.isList (by simp; omega) fun h' eb=>⟨rfl,I.turned (t':=s.toks) (fun b o hb e=>eb b o hb e) f0 f1 f3 f4 f5⟩
 self:=fun _ _ _ _ _ st h=>wpAny_pyIter_listiter st h
theorem turn_tuple {P:Program} {w:World} {K:PySem.W.Frag} {tg:Expr} (a it:Addr):Turn P w K tg (Itt K a) [it] it (fun i h=>h.IsTupleIter it a i) where
 mem:=by simp
 obj:=fun i h st b hb=>by
  have e:b=it:=by simpa using hb
  subst e
  obtain ⟨o,e,c,d⟩:=st
  exact ⟨o,e,fun v z=>by rw [d] at z; cases z⟩
 keep:=fun i h h' st k=>st.at fun o e=>k it (by simp) o e
 item:=by
  intro X hP hw hK hc i pins s σ H E I hf st hg
  subst hP hw hK
  obtain ⟨xs,x,hq,hx⟩:=hg
  obtain ⟨its,rv,p,hz⟩:=I.tuple hq
  obtain ⟨u,hu,ru⟩:=rv.get hx
  obtain ⟨f0,f1,f2,f3,f4,f5⟩:=hf it (by simp)
  refine wpAny_pyNext_tuple_item st (show s.heap.IsTuple a its.toArray from p) (x:=u) (by simpa using hu) fun h' st' sb=>?_
  have I1:Inv X pins σ H { s with heap:=h' }:=I.turned (t':=s.toks) (fun b o hb e=>(sb.2 b hb).trans e) f0 f1 f3 f4 f5
  obtain ⟨o,e,c,d⟩:=id st'
  exact ⟨u,rfl,go_of (s:={ s with heap:=h' }) e c d (by decide) ⟨x,H,I1,ru,⟨rfl,fun ys hy=>by rw [I.tuple_inj hy hq]; exact hx⟩,st',fun b hb=>(hf b hb).1⟩⟩
 done:=by
  intro X hP hw hK hc i pins s σ H E I hf st hg
  subst hP hw hK
  obtain ⟨xs,hq,hx⟩:=hg
  obtain ⟨its,rv,p,hz⟩:=I.tuple hq
  obtain ⟨f0,f1,f2,f3,f4,f5⟩:=hf it (by simp)
  have hl:=rv.length
  exact wpAny_pyNext_tuple_end (I.ok.hd hc) st (show s.heap.IsTuple a its.toArray from p) (by simp; omega) fun h' eb=>⟨rfl,I.turned (t':=s.toks) (fun b o hb e=>eb b o hb e) f0 f1 f3 f4 f5⟩
 self:=fun _ _ _ _ _ st h=>wpAny_pyIter_tupleiter st h
theorem turn_range {P:Program} {w:World} {K:PySem.W.Frag} {tg:Expr} (it:Addr) (lo:Int) (n:Nat):Turn P w K tg (Itr lo n) [it] it (fun i h=>IsRangeIter h it (lo+(i:Nat) * 1) ((n:Int) - (i:Nat)) 1) where
 mem:=by simp
 obj:=fun i h st b hb=>by
  have e:b=it:=by simpa using hb
  subst e
  exact ⟨_,st,fun v z=>by
   have z':Data.fields _=Data.cell v:=z
   cases z'⟩
 keep:=fun i h h' st k=>k it (by simp) _ st
 item:=by
  intro X hP hw hK hc i pins s σ H E I hf st hg
  subst hP hw hK
  obtain ⟨f0,f1,f2,f3,f4,f5⟩:=hf it (by simp)
  have W:=Walks.range (prog:=X.prog) (w:=X.w) (I.ok.hd hc) it lo 1 n
  refine W.item i s _ _ hg st fun v h' tk hv st' kk=>?_
  obtain ⟨t,rfl⟩:=hv
  have I1:Inv X pins σ H { s with heap:=h',toks:=tk }:=I.turned (fun b o hb e=>kk b o (by simpa using hb) e) f0 f1 f3 f4 f5
  refine ⟨_,rfl,go_of (s:={ s with heap:=h',toks:=tk }) (n:="range_iterator") st' rfl rfl (by decide) ⟨.int (lo+i),H,I1,⟨t,?_⟩,⟨rfl,rfl⟩,st',fun b hb=>(hf b hb).1⟩⟩
  rw [Int.mul_one]
 done:=by
  intro X hP hw hK hc i pins s σ H E I hf st hg
  subst hP hw hK
  obtain ⟨f0,f1,f2,f3,f4,f5⟩:=hf it (by simp)
  exact wpAny_pyNext_range_end (I.ok.hd hc) st (by have:n<=i:=hg; omega) fun h' eb=>⟨rfl,I.turned (t':=s.toks) (fun b o hb e=>eb b o hb e) f0 f1 f3 f4 f5⟩
 self:=fun _ _ _ _ _ st h=>wpAny_pyIter_rangeiter st h
end L2
namespace L2
open PySem PySem.Spec PyProof.Rows
section
variable {X:Cx} {tg:Expr}
def iList (K:PySem.W.Frag) (tl:TE):TI:=fun σ H R=>tl σ H fun x H1=>∃ a,x = .ref a/\(∃ xs,SqL K H1 a xs)/\R (Itl K a) H1
def iTup (K:PySem.W.Frag) (tl:TE):TI:=fun σ H R=>tl σ H fun x H1=>∃ a,x = .ref a/\(∃ xs,SqT K H1 a xs)/\R (Itt K a) H1
theorem pi_list {l:Expr} {tl:TE} (hl:PE X l tl):PI X tg l (iList X.K tl):=by
 intro pins s σ H R I h
 refine thn (hl pins s σ H _ I h) fun v s1 ⟨x,H1,I1,r1,q1⟩=>?_
 obtain ⟨a,e,⟨xs,hq⟩,q⟩:=q1
 subst e
 cases r1
 obtain ⟨its,rv,p,hz⟩:=I1.list hq
 refine wpAny_pyIter_list p.isList ?_
 refine ⟨s1.heap.objs.size,[s1.heap.objs.size],_,_,H1,rfl,I1.kept (t':=s1.toks) fun b o e=>Heap.get?_push_of_some _ e,turn_list a _,⟨_,Heap.get?_push_size _ rfl,rfl,rfl⟩,fun b hb=>?_,q⟩
 have e:b=s1.heap.objs.size:=by simpa using hb
 subst e
 exact I1.fpOk (Nat.le_refl _) (I1.hok.fresh (Nat.le_refl _))
theorem pi_tup {l:Expr} {tl:TE} (hl:PE X l tl):PI X tg l (iTup X.K tl):=by
 intro pins s σ H R I h
 refine thn (hl pins s σ H _ I h) fun v s1 ⟨x,H1,I1,r1,q1⟩=>?_
 obtain ⟨a,e,⟨xs,hq⟩,q⟩:=q1
 subst e
 cases r1
 obtain ⟨its,rv,p,hz⟩:=I1.tuple hq
 refine wpAny_pyIter_tuple (show s1.heap.IsTuple a its.toArray from p) ?_
 refine ⟨s1.heap.objs.size,[s1.heap.objs.size],_,_,H1,rfl,I1.kept (t':=s1.toks) fun b o e=>Heap.get?_push_of_some _ e,turn_tuple a _,⟨_,Heap.get?_push_size _ rfl,rfl,rfl⟩,fun b hb=>?_,q⟩
 have e:b=s1.heap.objs.size:=by simpa using hb
 subst e
 exact I1.fpOk (Nat.le_refl _) (I1.hok.fresh (Nat.le_refl _))
theorem range_it {pins:List (Addr×Obj)} {σ : St} {H:Hp} {s:Shared} {R:It->Hp->Prop} {E:Value->Shared->Prop} {lo hi:Int} {t u v:Tok} {tk:Nat} (I:Inv X pins σ H s) (h1 : -(2 ^ 62)<=lo) (h2:lo < 2 ^ 62) (h3 : -(2 ^ 62)<=hi) (h4:hi < 2 ^ 62)
  (q:R (Itr lo (hi - lo).toNat) H):wpAny (model X.prog X.w) X.A (pyIter (.ref s.heap.objs.size)) (PIE X pins σ tg R) E { s with heap:=s.heap.push { cls:=.type "range",data:=.fields #[.int lo t,.int hi u,.int 1 v] },toks:=tk }:=by
 refine wpAny_pyIter_range (IsRange.new ..) (small_one h1 h2 h3 h4) ?_
 have I1:Inv X pins σ H { s with heap:=s.heap.push { cls:=.type "range",data:=.fields #[.int lo t,.int hi u,.int 1 v] },toks:=tk }:=I.kept fun b o e=>Heap.get?_push_of_some _ e
 refine ⟨(s.heap.push { cls:=.type "range",data:=.fields #[.int lo t,.int hi u,.int 1 v] }).objs.size,[(s.heap.push { cls:=.type "range",data:=.fields #[.int lo t,.int hi u,.int 1 v] }).objs.size],_,_,H,rfl,
  I1.kept (t':=tk) fun b o e=>Heap.get?_push_of_some _ e,turn_range _ lo (hi - lo).toNat,?_,fun b hb=>?_,q⟩
 · have e1 : lo + ((0 : Nat) : Int) * 1 = lo := by simp
   have e2:(((hi - lo).toNat:Nat):Int) - ((0:Nat):Int)=Builtin.Range.rangeSize lo hi 1:=by rw [rangeSize_one]; split <;> omega
   show IsRangeIter _ _ (lo+((0:Nat):Int) * 1) ((((hi - lo).toNat:Nat):Int) - ((0:Nat):Int)) 1
   rw [e1,e2]
   exact Heap.get?_push_size _ rfl
 · have e : b = (s.heap.push { cls := .type "range", data := .fields #[.int lo t, .int hi u, .int 1 v] }).objs.size := by simpa using hb
   subst e
   exact I1.fpOk (Nat.le_refl _) (I1.hok.fresh (Nat.le_refl _))
def iRng1 (ta:TA):TI:=fun σ H R=>ta σ H fun vs H1=>∃ j:Int,vs=[.int j]/\-(2 ^ 62)<=j/\j < 2 ^ 62/\R (Itr 0 j.toNat) H1
def iRng2 (ta:TA):TI:=fun σ H R=>ta σ H fun vs H1=>∃ i j:Int,vs=[.int i,.int j]/\(-(2 ^ 62)<=i/\i < 2 ^ 62/\-(2 ^ 62)<=j/\j < 2 ^ 62)/\R (Itr i (j - i).toNat) H1
theorem pi_range1 {a:Expr} {ta:TA} {p pos:Pos} (hg:Gl X "range") (hm:X.mg "range" = none) (ha:PA X [a] ta) (hs:starEach [a] X.env=[(false,eval a X.env)]:=by rfl):PI X tg (.Call (.Name "range" p) [a] [] pos) (iRng1 ta):=by
 intro pins s σ H R I h
 refine Call_ (wJ I hg hm boot_range (PyProof.Rows.callWith_type1 (thn (ha pos pins s σ H _ I h) fun us s1 ⟨vs,H1,I1,r1,q1⟩=>?_) hs rfl))
 obtain ⟨j,e,q1,q2,q⟩:=q1
 subst e
 cases r1 with
 | cons r rr =>
   cases rr
   obtain ⟨t,rfl⟩:=r
   exact call_range_1 (range_it I1 (by omega) (by omega) q1 q2 (by simpa using q))
theorem pi_range2 {a b:Expr} {ta:TA} {p pos:Pos} (hg:Gl X "range") (hm:X.mg "range" = none) (ha:PA X [a,b] ta) (hs:starEach [a,b] X.env=[(false,eval a X.env),(false,eval b X.env)]:=by rfl) (hs2:starEach [b] X.env=[(false,eval b X.env)]:=by rfl) :
  PI X tg (.Call (.Name "range" p) [a,b] [] pos) (iRng2 ta):=by
 intro pins s σ H R I h
 refine Call_ (wJ I hg hm boot_range (PyProof.Rows.callWith_type1 (thn (ha pos pins s σ H _ I h) fun us s1 ⟨vs,H1,I1,r1,q1⟩=>?_) (by rw [hs,hs2]) (by rw [hs2]; rfl)))
 obtain ⟨i,j,e,⟨q1,q2,q3,q4⟩,q⟩:=q1
 subst e
 cases r1 with
 | cons r rr =>
   cases rr with
   | cons r' rr =>
     cases rr
     obtain ⟨t,rfl⟩:=r
     obtain ⟨t',rfl⟩:=r'
     exact call_range_2 (range_it I1 q1 q2 q3 q4 q)
def tFor (wi:TI) (g:TG) (tb:TS):TS:=fun D σ H=>wi σ H fun J H1=>∃ W:Nat->Nat->St->Hp->Prop,(∃ m,W 0 m σ H1)/\∀ i m σ H,W i m σ H →
 (J.stop i H/\D.nx σ H) \/ (J.go i H/\∃ N:St->Hp->Prop,(∀ σ' H',N σ' H'->∃ m',m' < m/\W (i+1) m' σ' H')/\∀ x H',J.yld i H x H'->g x σ H' fun σ2 H2=>tb { D with nx:=N,ct:=N,bk:=D.nx } σ2 H2)
def pinsAt (fp:List Addr) (h:Heap):List (Addr×Obj):=fp.filterMap fun b=>(h.get? b).map fun o=>(b,o)
theorem xH {fp:List Addr} {h:Heap} {b:Addr} {o:Obj} (hb:b∈fp) (e:h.get? b=some o):(b,o)∈pinsAt fp h:=List.mem_filterMap.mpr ⟨b,hb,by rw [e]; rfl⟩
theorem of_pinsAt {fp:List Addr} {h:Heap} {p:Addr×Obj} (hp:p∈pinsAt fp h):p.1∈fp/\h.get? p.1=some p.2:=by
 obtain ⟨b,hb,e⟩:=List.mem_filterMap.mp hp
 cases q:h.get? b with
 | none=>rw [q] at e; cases e
 | some o =>
   rw [q] at e
   have e':(b,o)=p:=Option.some.inj e
   subst e'
   exact ⟨hb,q⟩
theorem Inv.pinned {pins:List (Addr×Obj)} {σ : St} {H:Hp} {s:Shared} {fp:List Addr} (I:Inv X pins σ H s) (hf:∀ b∈fp,FpOk X pins H b) (ho:∀ b∈fp,∃ o,s.heap.get? b=some o/\∀ v,o.data≠.cell v):Inv X (pins++pinsAt fp s.heap) σ H s :=
 I.pins_of fun p hp=>(List.mem_append.mp hp).elim (fun z=>I.pin p (List.mem_append_right _ z)) fun z=>by
  obtain ⟨hb,e⟩:=of_pinsAt z
  obtain ⟨f0,f1,f2,_⟩:=hf p.1 hb
  obtain ⟨o,e',d⟩:=ho p.1 hb
  rw [e] at e'; cases e'
  exact ⟨e,f0,f1,f2,d⟩
theorem Inv.unpinned {pins pl:List (Addr×Obj)} {σ : St} {H:Hp} {s:Shared} (I:Inv X (pins++pl) σ H s):Inv X pins σ H s:=I.pins_of fun p hp=>I.pin p (List.mem_append_right _ (List.mem_append_left _ hp))
theorem ps_for {iter:Expr} {body:List Stmt} {wi:TI} {g:TG} {tb:TS} {pos:Pos} (hp:PassesOwn (model X.prog X.w) X.A X.env X.xe) (hc:X.calm=true) (hi:PI X tg iter wi) (hg:PG X tg g) (hb:PSs X body tb)
  (hs:∀ x,foldedSetIterable iter X.env x=pure x:=by intro _; rfl):PS X (.For tg iter body [] pos) (tFor wi g tb):=by
 intro pins s σ H D I h
 refine wpAny_For (thn (hi pins s σ H _ I h) fun v s1 h1=>thn h1 fun itv s2 h2=>?_) hs
 obtain ⟨it,fp,tn,J,H2,e,I2,T,st2,f2,W,⟨m0,w0⟩,turn⟩:=h2
 subst e
 have stat:∀ {H':Hp},(∀ b∈fp,H' b=none)->∀ b∈fp,FpOk X pins H' b:=fun hn b hb=>⟨hn b hb,(f2 b hb).2⟩
 refine codeAny_forLoop_any (fun n s'=>∃ i σ' H',Inv X pins σ' H' s'/\tn i s'.heap/\(∀ b∈fp,H' b=none)/\W i n σ' H') ?_ m0 ⟨0,σ,H2,I2,st2,fun b hb=>(f2 b hb).1,w0⟩
 rintro n s3 ⟨i,σ3,H3,I3,st3,fr3,w3⟩
 rcases turn i n σ3 H3 w3 with ⟨stop,qn⟩ | ⟨go,N,hN,step⟩
 · refine wpAny_passesOwn hp (thn (T.done X rfl rfl rfl hc i pins s3 σ3 H3 X.xe I3 (stat fr3) st3 stop) fun r s4 ⟨hr, I4⟩ => ?_)
   subst hr
   exact wpAny_execs_nil ⟨σ3,H3,I4,qn⟩
 · refine wpAny_passesOwn hp (thn (T.item X rfl rfl rfl hc i pins s3 σ3 H3 X.xe I3 (stat fr3) st3 go) fun r s4 ⟨u, hr, h4⟩ => ?_)
   subst hr
   refine wpAny_passesOwn hp (thn h4 fun _ s5 ⟨x,H5,I5,r5,y5,st5,fr5⟩=>?_)
   have I5':=I5.pinned (stat fr5) (T.obj _ _ st5)
   refine wpAny_passesOwn hp (thn (hg _ s5 σ3 H5 x u _ I5' r5 (step x H5 y5)) fun _ s6 ⟨σ6,H6,I6,q6⟩=>?_)
   refine wpAny_passesOwn hp (thn (hb _ s6 σ6 H6 _ I6 q6) fun f s7 q7=>?_)
   have again:∀ {σ7:St} {H7:Hp},Inv X (pins++pinsAt fp s5.heap) σ7 H7 s7->N σ7 H7->∃ m,m < n/\∃ i σ' H',Inv X pins σ' H' s7/\tn i s7.heap/\(∀ b∈fp,H' b=none)/\W i m σ' H':=fun {σ7 H7} I7 n7=>by
    obtain ⟨m',hm,w7⟩:=hN σ7 H7 n7
    refine ⟨m',hm,i+1,σ7,H7,I7.unpinned,T.keep _ _ _ st5 fun b hb o e=>(I7.pin (b,o) (List.mem_append_right _ (List.mem_append_right _ (xH hb e)))).1,fun b hb=>?_,w7⟩
    obtain ⟨o,e,d⟩:=T.obj _ _ st5 b hb
    exact (I7.pin (b,o) (List.mem_append_right _ (List.mem_append_right _ (xH hb e)))).2.1
   cases f with
   | next=>obtain ⟨σ7,H7,I7,n7⟩:=q7; exact again I7 n7
   | cont=>obtain ⟨σ7,H7,I7,n7⟩:=q7; exact again I7 n7
   | brk=>obtain ⟨σ7,H7,I7,q7⟩:=q7; exact ⟨σ7,H7,I7.unpinned,q7⟩
   | ret v=>obtain ⟨x7,σ7,H7,I7,r7,q7⟩:=q7; exact ⟨x7,σ7,H7,I7.unpinned,r7,q7⟩
end
end L2
namespace L2
open PySem PySem.Spec PyProof.Rows
abbrev R2:=V->V->Hp->VK->Prop
def OpR (X:Cx) (f:Value->Value->Sem Value) (r:R2):Prop :=
 ∀ (pins:List (Addr×Obj)) (s:Shared) (σ : St) (H:Hp) (x y:V) (v u:Value) (Q:VK),Inv X pins σ H s->RelV x v->RelV y u->r x y H Q →
  wpAny (model X.prog X.w) X.A (f v u) (EP X pins σ Q) X.xe s
def UnR (X:Cx) (f:Value->Sem Value) (r:V->Hp->VK->Prop):Prop :=
 ∀ (pins:List (Addr×Obj)) (s:Shared) (σ : St) (H:Hp) (x:V) (v:Value) (Q:VK),Inv X pins σ H s->RelV x v->r x H Q →
  wpAny (model X.prog X.w) X.A (f v) (EP X pins σ Q) X.xe s
def CallR (X:Cx) (f:Value) (r:List V->Hp->VK->Prop):Prop :=
 ∀ (pins:List (Addr×Obj)) (s:Shared) (σ : St) (H:Hp) (xs:List V) (us:List Value) (Q:VK),Inv X pins σ H s->Vals xs us->r xs H Q →
  wpAny (model X.prog X.w) X.A (call f us) (EP X pins σ Q) X.xe s
def TruR (X:Cx) (r:V->Hp->(Bool->Hp->Prop)->Prop):Prop :=
 ∀ (pins:List (Addr×Obj)) (s:Shared) (σ : St) (H:Hp) (x:V) (v:Value) (Q:Bool->Hp->Prop),Inv X pins σ H s->RelV x v->r x H Q →
  wpAny (model X.prog X.w) X.A (truthy v) (TP X pins σ Q) X.xe s
def tOp (r:R2) (ta tb:TE):TE:=fun σ H Q=>ta σ H fun x H1=>tb σ H1 fun y H2=>r x y H2 Q
def tUn (r:V->Hp->VK->Prop) (ta:TE):TE:=fun σ H Q=>ta σ H fun x H1=>r x H1 Q
def rI (C:Int->Int->Prop) (g:Int->Int->V):R2:=fun x y H Q=>∃ i j,x = .int i/\y = .int j/\C i j/\Q (g i j) H
def rI0 (g:Int->Int->V):R2:=fun x y H Q=>∃ i j,x = .int i/\y = .int j/\Q (g i j) H
def rU (g:Int->V):V->Hp->VK->Prop:=fun x H Q=>∃ i,x = .int i/\Q (g i) H
section
variable {X:Cx} {a b c:Expr} {ta tb tc:TE} {pos:Pos}
theorem binT (ha:PE X a ta) (hb:PE X b tb) {pins:List (Addr×Obj)} {s:Shared} {σ : St} {H:Hp} {R:V->V->Hp->Prop} (I:Inv X pins σ H s)
  (h:ta σ H fun x H1=>tb σ H1 fun y H2=>R x y H2) {Q:Value->Shared->Prop} {f:Value->Value->Sem Value}
  (hf:∀ v u s2 x y H2,Inv X pins σ H2 s2->RelV x v->RelV y u->R x y H2->wpAny (model X.prog X.w) X.A (f v u) Q X.xe s2) :
  wpAny (model X.prog X.w) X.A (eval a X.env) (fun v s₁=>wpAny (model X.prog X.w) X.A (eval b X.env) (fun u s₂=>wpAny (model X.prog X.w) X.A (f v u) Q X.xe s₂) X.xe s₁) X.xe s:=by
 refine thn (ha pins s σ H _ I h) fun v s1 ⟨x,H1,I1,r1,q1⟩=>?_
 refine thn (hb pins s1 σ H1 _ I1 q1) fun u s2 ⟨y,H2,I2,r2,q2⟩=>?_
 exact hf v u s2 x y H2 I2 r1 r2 q2
theorem pe_op {op:Operator} {r:R2} (ho:OpR X (binaryOp op) r) (ha:PE X a ta) (hb:PE X b tb):PE X (.BinOp a op b pos) (tOp r ta tb):=by
 intro pins s σ H Q I h
 exact wpAny_BinOp (binT ha hb I h fun v u s2 x y H2 I2 rx ry q=>ho pins s2 σ H2 x y v u Q I2 rx ry q)
theorem pe_un {op:UnaryOp} {r:V->Hp->VK->Prop} (ho:UnR X (unaryOp op) r) (ha:PE X a ta):PE X (.UnaryOp op a pos) (tUn r ta):=by
 intro pins s σ H Q I h
 exact UnaryOp_ (thn (ha pins s σ H _ I h) fun v s1 ⟨x,H1,I1,r1,q1⟩=>ho pins s1 σ H1 x v Q I1 r1 q1)
theorem opI {f:Value->Value->Sem Value} {C:Int->Int->Prop} {g:Int->Int->Int}
  (rule:∀ (i j:Int) (t u:Tok) (s:Shared) (Q:Value->Shared->Prop) (E:Value->Shared->Prop),C i j->Q (.int (g i j) s.toks) { s with toks:=s.toks+1 }->wpAny (model X.prog X.w) X.A (f (.int i t) (.int j u)) Q E s) :
  OpR X f (rI C fun i j=>.int (g i j)):=by
 intro pins s σ H x y v u Q I rx ry h
 obtain ⟨i,j,rfl,rfl,hc,q⟩:=h
 obtain ⟨t,rfl⟩:=rx
 obtain ⟨t',rfl⟩:=ry
 exact rule i j t t' s _ _ hc ⟨.int (g i j),H,I.tok _,⟨_,rfl⟩,q⟩
theorem opI0 {f:Value->Value->Sem Value} {g:Int->Int->Int}
  (rule:∀ (i j:Int) (t u:Tok) (s:Shared) (Q:Value->Shared->Prop) (E:Value->Shared->Prop),Q (.int (g i j) s.toks) { s with toks:=s.toks+1 }->wpAny (model X.prog X.w) X.A (f (.int i t) (.int j u)) Q E s) :
  OpR X f (rI0 fun i j=>.int (g i j)):=by
 intro pins s σ H x y v u Q I rx ry h
 obtain ⟨i,j,rfl,rfl,q⟩:=h
 obtain ⟨t,rfl⟩:=rx
 obtain ⟨t',rfl⟩:=ry
 exact rule i j t t' s _ _ ⟨.int (g i j),H,I.tok _,⟨_,rfl⟩,q⟩
theorem opB0 {f:Value->Value->Sem Value} {g:Int->Int->Bool}
  (rule:∀ (i j:Int) (t u:Tok) (s:Shared) (Q:Value->Shared->Prop) (E:Value->Shared->Prop),Q (.bool (g i j)) s->wpAny (model X.prog X.w) X.A (f (.int i t) (.int j u)) Q E s) :
  OpR X f (rI0 fun i j=>.bl (g i j)):=by
 intro pins s σ H x y v u Q I rx ry h
 obtain ⟨i,j,rfl,rfl,q⟩:=h
 obtain ⟨t,rfl⟩:=rx
 obtain ⟨t',rfl⟩:=ry
 exact rule i j t t' s _ _ ⟨.bl (g i j),H,I,rfl,q⟩
def CMul (i j:Int):Prop:=(-(2 ^ 64) < i/\i < 2 ^ 64) \/ (-(2 ^ 64) < j/\j < 2 ^ 64)
theorem CMul.ok {i j:Int} (h:CMul i j):IntMulOk i j:=by
 rcases h with ⟨h1,h2⟩ | ⟨h1,h2⟩
 · exact .of_left (intBits_le_64 h1 h2)
 · exact .of_right (intBits_le_64 h1 h2)
theorem op_add:OpR X (binaryOp .Add) (rI0 fun i j=>.int (i+j)):=opI0 fun _ _ _ _ _ _ _ q=>add_int q
theorem op_sub:OpR X (binaryOp .Sub) (rI0 fun i j=>.int (i - j)):=opI0 fun _ _ _ _ _ _ _ q=>sub_int q
theorem op_mod:OpR X (binaryOp .Mod) (rI (fun _ j=>0 < j) fun i j=>.int (i % j)):=opI fun i j _ _ _ _ _ hc q=>by
 have h1:(0:Int) < j:=hc
 exact mod_int' (by omega) (by rw [Int.fmod_eq_emod_of_nonneg i (by omega)]; exact q)
theorem unI {f:Value->Sem Value} {g:Int->Int}
  (rule:∀ (i:Int) (t:Tok) (s:Shared) (Q:Value->Shared->Prop) (E:Value->Shared->Prop),Q (.int (g i) s.toks) { s with toks:=s.toks+1 }->wpAny (model X.prog X.w) X.A (f (.int i t)) Q E s) :
  UnR X f (rU fun i=>.int (g i)):=by
 intro pins s σ H x v Q I rx h
 obtain ⟨i,rfl,q⟩:=h
 obtain ⟨t,rfl⟩:=rx
 exact rule i t s _ _ ⟨.int (g i),H,I.tok _,⟨_,rfl⟩,q⟩
theorem un_neg:UnR X (unaryOp .USub) (rU fun i=>.int (-i)):=unI fun _ _ _ _ _ q=>neg_int q
end
section
variable {X:Cx} {a b c:Expr} {ta tb tc:TE} {pos:Pos}
theorem fin_bl {pins:List (Addr×Obj)} {σ : St} {H:Hp} {s:Shared} {Q:VK} {k k':Bool} (I:Inv X pins σ H s) (q:Q (.bl k) H) (e:k=k'):EP X pins σ Q (.bool k') s:=by
 subst e
 exact ⟨.bl k,H,I,rfl,q⟩
theorem op_lt:OpR X (compareOp .Lt) (rI0 fun i j=>.bl (decide (i < j))):=opB0 fun _ _ _ _ _ _ _ q=>lt_int q
theorem op_le:OpR X (compareOp .LtE) (rI0 fun i j=>.bl (decide (i<=j))):=opB0 fun _ _ _ _ _ _ _ q=>le_int q
theorem op_gt:OpR X (compareOp .Gt) (rI0 fun i j=>.bl (decide (j < i))):=opB0 fun _ _ _ _ _ _ _ q=>gt_int q
theorem op_ge:OpR X (compareOp .GtE) (rI0 fun i j=>.bl (decide (j<=i))):=opB0 fun _ _ _ _ _ _ _ q=>ge_int q
theorem op_isN:OpR X (compareOp .Is) (fun x y H Q=>y = .non/\Q (.bl (decide (x = .non))) H):=by
 intro pins s σ H x y v u Q I rx ry h
 obtain ⟨rfl,q⟩:=h
 cases ry
 refine is_none_gen (fin_bl I q ?_)
 cases x <;> first
  | (cases rx; rfl)
  | (obtain ⟨t,rfl⟩:=rx; rfl)
theorem op_notN:OpR X (compareOp .IsNot) (fun x y H Q=>y = .non/\Q (.bl (!decide (x = .non))) H):=by
 intro pins s σ H x y v u Q I rx ry h
 obtain ⟨rfl,q⟩:=h
 cases ry
 refine isnot_none_gen (fin_bl I q ?_)
 cases x <;> first
  | (cases rx; rfl)
  | (obtain ⟨t,rfl⟩:=rx; rfl)
theorem OpR.or {f:Value->Value->Sem Value} {r r':R2} (h:OpR X f r) (h':OpR X f r'):OpR X f (fun x y H Q=>r x y H Q \/ r' x y H Q):=by
 intro pins s σ H x y v u Q I rx ry q
 rcases q with q | q
 · exact h pins s σ H x y v u Q I rx ry q
 · exact h' pins s σ H x y v u Q I rx ry q
theorem nomark (b:Expr) {op:CmpOp} (h:op≠.In:=by decide) (h2:op≠.NotIn:=by decide):behindInMarks op b=false:=by
 have e1:(op == CmpOp.In)=false:=by cases op <;> first | rfl | exact absurd rfl h
 have e2:(op == CmpOp.NotIn)=false:=by cases op <;> first | rfl | exact absurd rfl h2
 cases b <;> simp [behindInMarks,e1,e2]
theorem pe_cmpR {op:CmpOp} {r:R2} (ho:OpR X (compareOp op) r) (ha:PE X a ta) (hb:PE X b tb) (hm:behindInMarks op b=false):PE X (.Compare a [op] [b] pos) (tOp r ta tb):=by
 intro pins s σ H Q I h
 exact wpAny_Compare1 (binT ha hb I h fun v u s2 x y H2 I2 rx ry q=>ho pins s2 σ H2 x y v u Q I2 rx ry q) hm
def tTest (t:TE):TT:=fun σ H Q=>t σ H fun x H'=>∃ k,x = .bl k/\Q k H'
theorem pt_cmpR {op:CmpOp} {r:R2} (ho:OpR X (compareOp op) r) (ha:PE X a ta) (hb:PE X b tb) (hm:behindInMarks op b=false):PT X (.Compare a [op] [b] pos) (tTest (tOp r ta tb)):=by
 intro pins s σ H Q I h
 refine wpAny_isTrue_Compare1 (thn (ha pins s σ H _ I h) fun v s1 ⟨x,H1,I1,r1,q1⟩=>thn (hb pins s1 σ H1 _ I1 q1) fun u s2 ⟨y,H2,I2,r2,q2⟩ =>
  thn (ho pins s2 σ H2 x y v u _ I2 r1 r2 q2) fun c s3 ⟨z,H3,I3,r3,k,e,q3⟩=>?_) hm
 subst e
 cases r3
 exact wpAny_truthy_bool ⟨H3,I3,q3⟩
def TruV (K:PySem.W.Frag) (x:V) (H:Hp) (k:Bool):Prop :=
 match x with
 | .non=>k=false
 | .bl b=>k=b
 | .int i=>k=(i != 0)
 | .str y=>y.length<=sizeLine/\k=((y.length:Int) != 0)
 | .byt y=>y.size<=sizeLine/\k=((y.size:Int) != 0)
 | .ref p=>(∃ xs,SqL K H p xs/\k = !xs.isEmpty) \/ (∃ xs,SqT K H p xs/\k = !xs.isEmpty) \/ ∃ kvs,H p=some (.dK kvs)/\k = !kvs.isEmpty
 | _=>False
theorem isEmpty_kv {κ : Type} {kvs:List (κ×V)} {vs:List (κ×Value)} (r:KV kvs vs):(!vs.isEmpty) = !kvs.isEmpty:=by
 cases r <;> rfl
theorem isEmpty_of {xs:List V} {its:List Value} (r:Vals xs its):(!its.toArray.isEmpty) = !xs.isEmpty:=by
 cases r <;> simp
theorem line63:(sizeLine:Nat) < 2 ^ 63:=by rw [sizeLine_eq]; decide
theorem tru_ok:TruR X (fun x H Q=>∃ k,TruV X.K x H k/\Q k H):=by
 intro pins s σ H x v Q I rx h
 obtain ⟨k,e,q⟩:=h
 have hl:=line63
 have hs:sizeLine=16777216:=sizeLine_eq
 cases x with
 | non =>
   cases rx
   have e':k=false:=e
   subst e'
   exact truthy_none ⟨H,I,q⟩
 | bl b =>
   cases rx
   have e':k=b:=e
   subst e'
   exact wpAny_truthy_bool ⟨H,I,q⟩
 | int i =>
   obtain ⟨t,rfl⟩:=rx
   have e':k=(i != 0):=e
   subst e'
   exact PySem.P.truthy_int ⟨H,I,q⟩
 | str y =>
   obtain ⟨t,rfl⟩:=rx
   obtain ⟨hy,e'⟩:y.length<=sizeLine/\k=((y.length:Int) != 0):=e
   subst e'
   exact PySem.P.truthy_str (by omega) ⟨H,I.tok _,q⟩
 | byt y =>
   obtain ⟨t,rfl⟩:=rx
   obtain ⟨hy,e'⟩:y.size<=sizeLine/\k=((y.size:Int) != 0):=e
   subst e'
   exact PySem.W.truthy_bytes (by omega) ⟨H,I.tok _,q⟩
 | ref p =>
   cases rx
   have e':(∃ xs,SqL X.K H p xs/\k = !xs.isEmpty) \/ (∃ xs,SqT X.K H p xs/\k = !xs.isEmpty) \/ ∃ kvs,H p=some (.dK kvs)/\k = !kvs.isEmpty:=e
   rcases e' with ⟨xs,hx,e'⟩ | ⟨xs,hx,e'⟩ | ⟨kvs,hx,e'⟩
   · subst e'
     obtain ⟨its,r,pl,hz⟩:=I.list hx
     have hlen:=r.length
     exact wpAny_truthy_list pl.isList (by simp only [List.size_toArray]; omega) ⟨H,I.tok _,by rw [isEmpty_of r]; exact q⟩
   · subst e'
     obtain ⟨its,r,pl,hz⟩:=I.tuple hx
     have hlen:=r.length
     exact truthy_tuple pl (by simp only [List.size_toArray]; omega) ⟨H,I.tok _,by rw [isEmpty_of r]; exact q⟩
   · subst e'
     obtain ⟨hz,hS,vs,r,m⟩:kvs.length<=sizeLine/\(p == sysModules)=false/\∃ vs,KV kvs vs/\s.heap.DictOf (mixKind X.prog X.w) p vs:=I.hok p _ hx
     have hlen:kvs.length=vs.length:=Paired.length r
     exact wpAny_truthy_dict hS m (by omega) ⟨H,I.tok _,by rw [isEmpty_kv r]; exact q⟩
 | _=>exact (show False from e).elim
theorem pt_truth (ha:PE X a ta) (he:∀ whole,isTrue a X.env whole=(do let v <- whole; standAt a.pos; holding [v] (truthy v))) :
  PT X a (fun σ H Q=>ta σ H fun x H'=>∃ k,TruV X.K x H' k/\Q k H'):=by
 intro pins s σ H Q I h
 exact isTrue_plain (thn (ha pins s σ H _ I h) fun v s1 ⟨x,H1,I1,r1,q1⟩=>tru_ok pins s1 σ H1 x v Q I1 r1 q1) (he _)
theorem op_add_str:OpR X (binaryOp .Add) (fun x y H Q=>∃ i j,x = .str i/\y = .str j/\i.length+j.length<=sizeLine/\Q (.str (i++j)) H):=by
 intro pins s σ H x y v u Q I rx ry h
 obtain ⟨i,j,rfl,rfl,hz,q⟩:=h
 obtain ⟨t,rfl⟩:=rx
 obtain ⟨t',rfl⟩:=ry
 exact add_str (fun t' tk=>⟨.str (i++j),H,I.tok _,⟨_,rfl⟩,q⟩) hz
theorem vals1 {x:V} {us:List Value} (r:Vals [x] us):∃ u,us=[u]/\RelV x u:=by
 cases r with
 | cons r1 r2=>cases r2; exact ⟨_,rfl,r1⟩
theorem vals2 {x y:V} {us:List Value} (r:Vals [x,y] us):∃ u w',us=[u,w']/\RelV x u/\RelV y w':=by
 cases r with
 | cons r1 r2 =>
   cases r2 with
   | cons r3 r4=>cases r4; exact ⟨_,_,rfl,r1,r3⟩
theorem call_max2 (hc:X.calm=true):CallR X (.builtin "max") (fun xs H Q=>∃ i j,xs=[.int i,.int j]/\Q (.int (if j > i then j else i)) H):=by
 intro pins s σ H xs us Q I r h
 obtain ⟨i,j,rfl,q⟩:=h
 obtain ⟨u,w',rfl,⟨t,rfl⟩,⟨t',rfl⟩⟩:=vals2 r
 refine max_two_ints (I.ok.hd hc) fun h' tk k=>⟨_,H,I.kept k,?_,q⟩
 by_cases hj:j > i
 · rw [if_pos hj,if_pos hj]; exact ⟨_,rfl⟩
 · rw [if_neg hj,if_neg hj]; exact ⟨_,rfl⟩
theorem call_min2 (hc:X.calm=true):CallR X (.builtin "min") (fun xs H Q=>∃ i j,xs=[.int i,.int j]/\Q (.int (if j < i then j else i)) H):=by
 intro pins s σ H xs us Q I r h
 obtain ⟨i,j,rfl,q⟩:=h
 obtain ⟨u,w',rfl,⟨t,rfl⟩,⟨t',rfl⟩⟩:=vals2 r
 refine min_two_ints (I.ok.hd hc) fun h' tk k=>⟨_,H,I.kept k,?_,q⟩
 by_cases hj:j < i
 · rw [if_pos hj,if_pos hj]; exact ⟨_,rfl⟩
 · rw [if_neg hj,if_neg hj]; exact ⟨_,rfl⟩
theorem call_int1:CallR X (.type "int") (fun xs H Q=>(∃ i,xs=[.int i]/\Q (.int i) H) \/ ∃ k,xs=[.bl k]/\Q (.int (if k then 1 else 0)) H):=by
 intro pins s σ H xs us Q I r h
 rcases h with ⟨i,rfl,q⟩ | ⟨k,rfl,q⟩
 · obtain ⟨u, rfl, t, rfl⟩ := vals1 r
   exact call_int_int ⟨.int i,H,I,⟨_,rfl⟩,q⟩
 · obtain ⟨u, rfl, r1⟩ := vals1 r
   cases r1
   exact call_int_bool ⟨.int (if k then 1 else 0),H,I.tok _,⟨_,rfl⟩,q⟩
end
end L2
namespace L2
open PySem PySem.Spec PyProof.Rows
structure ObjM (h:Heap) (x dx C:Addr) (mA:Str->Option Value):Prop where
 obj:h.get? x=some (PySem.W.instObj C dx)
 ns:h.Ns1 dx mA
 ne:dx≠x
theorem lookIn_ns {h:Heap} {dx:Addr} {mA:Str->Option Value} (n:h.Ns1 dx mA):∃ od,h.get? dx=some od/\∀ name,PySem.W.lookIn name od=some (mA name):=by
 obtain ⟨o,es,ep,ho,hd,hk,_,hm⟩:=n
 refine ⟨o,ho,fun name=>?_⟩
 have e:=hm name
 unfold nsFind findBy at e
 rw [<- Array.find?_toList] at e
 unfold PySem.W.lookIn
 rw [hd]
 dsimp only
 split
 · rename_i y q
   rw [q] at e
   exact congrArg some e
 · rename_i q
   rw [q] at e
   have a:es.toList.any (·.refKey)=false:=by
    rw [List.any_eq_false]
    intro y hy
    obtain ⟨z,t,hkey⟩:=hk y (Array.mem_toList_iff.mp hy)
    simp [DictEntry.refKey,hkey]
   have a' : ¬ es.toList.any (·.refKey)=true:=by rw [a]; exact Bool.false_ne_true
   rw [if_neg a']
   exact congrArg some e
theorem ObjM.look {h:Heap} {x dx C:Addr} {mA:Str->Option Value} (I:ObjM h x dx C mA):∃ od,PySem.W.InstAt h x (PySem.W.instObj C dx) C (some od)/\∀ name,PySem.W.lookIn name od=some (mA name) :=
 let ⟨od,ho,hl⟩:=lookIn_ns I.ns
 ⟨od,⟨I.obj,rfl,rfl,ho⟩,hl⟩
section
variable {prog:Program} {w:World} {A:Around} {E:Value->Shared->Prop} {s:Shared} {K:PySem.W.Frag} {x dx C f:Addr} {mA:Str->Option Value} {name:Str} {v:Value}
end
section
variable {P:Program} {w:World} {H H':Hp} {h h':Heap} {a C dx:Addr} {fs fs':List (Str×V)}
theorem ins_get (hok:HOk P w H h) (e:H a=some (.ins C dx fs)):∃ mA,ObjM h a dx C mA/\(∀ f,RelO (fs.lookup f) (mA f))/\PySem.Within mA (fs.map (·.1))/\fs.length<=1000/\H dx=some (.own a):=by
 obtain ⟨d,z,ne,ob,mA,n,r,q⟩:=(show ObjOk P w H h a (.ins C dx fs) from hok a _ e)
 exact ⟨mA,⟨ob,n,ne⟩,r,q,z,d⟩
end
structure Cls (K:PySem.W.Frag) (C:Addr):Prop where
 pg:PySem.W.plainGet K C Str.empty=true
 hd:PySem.W.hasDictIn K C=true
 po:PySem.W.plainOver K C=true
 sa:PySem.W.findIn K (.ref C) "__setattr__" = some (some (.builtin "object.__setattr__"))
theorem Cls.get {K:PySem.W.Frag} {C:Addr} (c:Cls K C) (f:Str):PySem.W.plainGet K C f=true:=c.pg
section
variable {X:Cx} {pins:List (Addr×Obj)} {σ : St} {H:Hp} {s:Shared} {a C dx:Addr} {fs:List (Str×V)} {f:Str} {v:V} {A:Around} {E:Value->Shared->Prop}
end
section
variable {X:Cx} {o e value:Expr} {f:Str} {pos pos' tpos:Pos} {ta tv:TE}
end
section
variable {X:Cx} {pins:List (Addr×Obj)} {σ : St} {H:Hp} {s:Shared} {A:Around} {E:Value->Shared->Prop} {Q:Value->Shared->Prop} {c:Value} {b:Bool}
inductive TyOf (K:PySem.W.Frag) (H:Hp):V->Value->Prop where
 | non:TyOf K H .non (.type "NoneType")
 | bl (x:Bool):TyOf K H (.bl x) (.type "bool")
 | int (i:Int):TyOf K H (.int i) (.type "int")
 | str (x:Str):TyOf K H (.str x) (.type "str")
 | flt (x:UInt64):TyOf K H (.flt x) (.type "float")
 | lst {a:Addr} {xs:List V} (e:H a=some (.lst xs)):TyOf K H (.ref a) (.type "list")
 | frz {a:Addr} {o:Obj} {xs:List V} (e:H a=some (.frz o (.lst xs))):TyOf K H (.ref a) (.type "list")
 | tup {a:Addr} {xs:List V} (e:H a=some (.tup xs)):TyOf K H (.ref a) (.type "tuple")
 | dK {a:Addr} {kvs:List (Key×V)} (e:H a=some (.dK kvs)):TyOf K H (.ref a) (.type "dict")
 | dT {a:Addr} {kvs:List (List Key×V)} (e:H a=some (.dT kvs)):TyOf K H (.ref a) (.type "dict")
 | ins {a C dx:Addr} {fs:List (Str×V)} (e:H a=some (.ins C dx fs)) (cl:Cls K C) (ha:PySem.W.findIn K (.ref C) "__class__" = some (some (.builtin "object.__class__")))
    (hn:PySem.W.specialIn K (.builtin "object.__class__") "__get__" = some (some (.builtin "getset_descriptor.__get__"))) (htk:PySem.W.takesIn K (.builtin "object.__class__")=some true)
    (hm:PySem.W.mroIn K C (.type "object")=some true):TyOf K H (.ref a) (.ref C)
theorem isinst_ok {x:V} {u t:Value} (I:Inv X pins σ H s) (rx:RelV x u) (ty:TyOf X.K H x t) (e:PySem.W.kitOne X.K t c=some b) (h:∀ tk,Q (.bool b) { s with toks:=tk }) :
  wpAny (model X.prog X.w) A (call (.builtin "isinstance") [u,c]) Q E s:=by
 cases ty with
 | non=>cases (show u=Value.none from rx); exact PySem.W.kia_one PySem.W.kitx_none I.kIn True.intro e (fun z=>nomatch z) h
 | bl y=>cases (show u=Value.bool y from rx); exact PySem.W.kia_one PySem.W.kitx_bool I.kIn True.intro e (fun z=>nomatch z) h
 | int i=>obtain ⟨t,q⟩:=(show ∃ t,u=Value.int i t from rx); cases q; exact PySem.W.kia_one PySem.W.kitx_int I.kIn True.intro e (fun z=>nomatch z) h
 | str y=>obtain ⟨t,q⟩:=(show ∃ t,u=Value.str y t from rx); cases q; exact PySem.W.kia_one PySem.W.kitx_str I.kIn True.intro e (fun z=>nomatch z) h
 | flt y=>obtain ⟨t,q⟩:=(show ∃ t,u=Value.float y t from rx); cases q; exact PySem.W.kia_one PySem.W.kitx_float I.kIn True.intro e (fun z=>nomatch z) h
 | @lst a xs ea =>
   cases (show u=Value.ref a from rx)
   obtain ⟨_,_,n,_,h1⟩:=(show ObjOk X.prog X.w H s.heap a (.lst xs) from I.hok a _ ea)
   exact PySem.W.kia_one PySem.W.kitx_list I.kIn ⟨_,h1,rfl⟩ e (fun z=>nomatch z) h
 | @frz a ob xs ea =>
   cases (show u=Value.ref a from rx)
   obtain ⟨_,_,_,n,_,h1⟩:=(show ObjOk X.prog X.w H s.heap a (.frz ob (.lst xs)) from I.hok a _ ea)
   exact PySem.W.kia_one PySem.W.kitx_list I.kIn ⟨_,h1,rfl⟩ e (fun z=>nomatch z) h
 | @tup a xs ea =>
   cases (show u=Value.ref a from rx)
   obtain ⟨_,_,_,p⟩:=(show ObjOk X.prog X.w H s.heap a (.tup xs) from I.hok a _ ea)
   obtain ⟨o,h1,h2,_⟩:=p
   exact PySem.W.kia_one PySem.W.kitx_tuple I.kIn ⟨o,h1,h2⟩ e (fun z=>nomatch z) h
 | @dK a kvs ea =>
   cases (show u=Value.ref a from rx)
   obtain ⟨_,_,vs,_,p⟩:=(show ObjOk X.prog X.w H s.heap a (.dK kvs) from I.hok a _ ea)
   obtain ⟨o,es,ep,h1,h2,_⟩:=p
   exact PySem.W.kia_one PySem.W.kitx_dict I.kIn ⟨o,h1,h2.1⟩ e (fun z=>nomatch z) h
 | @dT a kvs ea =>
   cases (show u=Value.ref a from rx)
   obtain ⟨_,_,xs,_,o,es,ep,h1,h2,_⟩:=(show ObjOk X.prog X.w H s.heap a (.dT kvs) from I.hok a _ ea)
   exact PySem.W.kia_one PySem.W.kitx_dict I.kIn ⟨o,h1,h2.1⟩ e (fun z=>nomatch z) h
 | @ins a C dx fs ea cl ha hn htk hm =>
   cases (show u=Value.ref a from rx)
   obtain ⟨mA,O,_⟩:=ins_get I.hok ea
   obtain ⟨od,J,_⟩:=O.look
   exact PySem.W.kia_one (PySem.W.kitx_own (cl.get _) cl.hd ha hn htk hm) I.kIn J e (fun z=>nomatch z) h
end
end L2
namespace L2
open PySem PySem.Spec PyProof.Rows
structure Room (k:Nat) (A:Around):Prop where
 hd:A.handled=none
 dp:A.depth+3 * k+5 < recursionLimit
 un:A.units+16 * k+200 < cLine
theorem Room.mono {j k:Nat} {A:Around} (r:Room k A) (h:j<=k):Room j A:=⟨r.hd,by have:=r.dp; omega,by have:=r.un; omega⟩
theorem Room.deeper {k:Nat} {A:Around} (r:Room (k+1) A) (env:Env):Room k (A.deeper env) :=
 ⟨r.hd,by have:=r.dp; show A.depth+1+3 * k+5 < _; omega,by have:=r.un; show A.units+3+16 * k+200 < _; omega⟩
theorem Room.depth {k:Nat} {A:Around} (r:Room k A):A.depth < recursionLimit:=by have:=r.dp; omega
def tNil:TA:=fun _ H Q=>Q [] H
def tCons (ta:TE) (tr:TA):TA:=fun σ H Q=>ta σ H fun x H1=>tr σ H1 fun xs H2=>Q (x::xs) H2
section
variable {X:Cx} {e:Expr} {es:List Expr} {te:TE} {t:TA} {pos:Pos}
theorem xO:PA X [] tNil:=fun _ _ _ _ H Q I h=>Calls.spliced_nil ⟨[],H,I,.nil,h⟩
theorem yL (ha:PE X e te) (hr:PA X es t) (hs:starEach (e::es) X.env=(false,eval e X.env)::starEach es X.env:=by rfl):PA X (e::es) (tCons te t):=by
 intro pos pins s σ H Q I h
 rw [hs]
 show wpAny _ _ (spliced ((false,eval e X.env)::backTo pos (starEach es X.env))) _ _ s
 refine Calls.spliced_cons (thn (ha pins s σ H _ I h) fun u s1 ⟨x,H1,I1,r1,q1⟩=>?_)
 exact thn (hr pos pins s1 σ H1 _ I1 q1) fun us s2 ⟨xs,H2,I2,r2,q2⟩=>⟨x::xs,H2,I2,.cons r1 r2,q2⟩
def tTup (t:TA):TE:=fun σ H Q=>t σ H fun xs H1=>xs.length<=sizeLine/\∀ p,H1 p=none->Q (.ref p) (upd H1 p (.tup xs))
def tLst (t:TA):TE:=fun σ H Q=>t σ H fun xs H1=>xs.length<=sizeLine/\∀ p,H1 p=none->Q (.ref p) (upd H1 p (.lst xs))
theorem pe_tup {x1} (h:PA X es t):PE X (.Tuple es x1 pos) (tTup t):=by
 intro pins s σ H Q I hq
 refine wpAny_Tuple_spliced (thn (h pos pins s σ H _ I hq) fun us s1 ⟨xs,H1,I1,r,z,q⟩=>⟨by rw [<- r.length]; exact z,?_⟩)
 have hf:H1 s1.heap.objs.size=none:=I1.hok.fresh (Nat.le_refl _)
 refine ⟨.ref s1.heap.objs.size,upd H1 s1.heap.objs.size (.tup xs),I1.laid (t':=s1.toks) (fun b u e=>Heap.get?_push_of_some _ e) (Nat.le_refl _) ?_,rfl,q _ hf⟩
 exact ⟨z,us,r,⟨_,Heap.get?_push_size _ rfl,rfl,_,rfl⟩⟩
theorem pe_lst (h:PA X es t):PE X (.List es pos) (tLst t):=by
 intro pins s σ H Q I hq
 refine wpAny_List_spliced (thn (h pos pins s σ H _ I hq) fun us s1 ⟨xs,H1,I1,r,z,q⟩=>⟨by rw [<- r.length]; exact z,?_⟩)
 have hf:H1 s1.heap.objs.size=none:=I1.hok.fresh (Nat.le_refl _)
 refine ⟨.ref s1.heap.objs.size,upd H1 s1.heap.objs.size (.lst xs),I1.laid (t':=s1.toks) (fun b u e=>Heap.get?_push_of_some _ e) (Nat.le_refl _) ?_,rfl,q _ hf⟩
 exact ⟨z,us,0,r,Heap.get?_push_size _ rfl⟩
end
abbrev Sp:=List V->Hp->VK->XK->Prop
abbrev CXT:=List Env->Hp->Shared->XK->Value->Shared->Prop
structure Env0 (P:Program) (w:World) (K:PySem.W.Frag) (mg:Str->Option Value) (base:Heap) (A:Around) (outer:List Env) (s:Shared) (H:Hp):Prop where
 frames:A.frames=some outer
 mod:Mod K mg base
 bs:∀ b o,base.get? b=some o->s.heap.get? b=some o/\H b=none
 bsz:Bsz K mg base s.heap H
 funs:s.heap.FunFrames base outer
 frf:∀ b∈frs outer,H b=none
 hok:HOk P w H s.heap
 bare:AllBare s.gens
def CE (outer:List Env) (P:Program) (w:World) (H:Hp) (s:Shared) (Q:VK) (u:Value) (s':Shared):Prop :=
 ∃ v H',s'.os=s.os/\AllBare s'.gens/\Un (frs outer) [] H H' s.heap s'.heap/\HOk P w H' s'.heap/\RelV v u/\Q v H'
def CR (CX:CXT) (outer:List Env) (P:Program) (w:World) (H:Hp) (s:Shared) (Q:VK) (E:XK) (r:Result) (s':Shared):Prop :=
 match r with
 | .ok (.ret u)=>CE outer P w H s Q u s'
 | .ok _=>False
 | .error e=>CX outer H s E e s'
structure FnOk (P:Program) (w:World) (K:PySem.W.Frag) (mg:Str->Option Value) (base:Heap) (CX:CXT) (k:Nat) (f:Addr) (fd:FuncData) (ps:List Str) (sp:Sp):Prop where
 len:∀ vs H Q E,sp vs H Q E->vs.length=ps.length
 run:∀ (A:Around) (outer:List Env) (s:Shared) (H:Hp) (args:Args) (us:List Value) (vs:List V) (Q:VK) (E:XK),Room k A->Env0 P w K mg base A outer s H->BindsTo s fd args (ps.zip us)->Vals vs us->sp vs H Q E →
  codeAny (model P w) A (.call (.ref f) args) (CR CX outer P w H s Q E) s
theorem FnOk.imp {P:Program} {w:World} {K:PySem.W.Frag} {mg:Str->Option Value} {base:Heap} {CX:CXT} {k:Nat} {f:Addr} {fd:FuncData} {ps:List Str} {sp sp':Sp} (F:FnOk P w K mg base CX k f fd ps sp)
  (h:∀ vs H Q E,sp' vs H Q E->sp vs H Q E):FnOk P w K mg base CX k f fd ps sp' :=
 ⟨fun vs H Q E q=>F.len vs H Q E (h _ _ _ _ q),fun A outer s H args us vs Q E hr he hb hv hs=>F.run A outer s H args us vs Q E hr he hb hv (h _ _ _ _ hs)⟩
section
variable {X:Cx} {pins:List (Addr×Obj)} {σ : St} {H:Hp} {s s':Shared}
theorem Inv.tabsH (I:Inv X pins σ H s):TabsK X.K X.mg X.base H:=⟨I.ok.bsz.2.bm,fun x c P hx ht=>⟨(I.ok.bsz.2.tab x c P hx ht).1,I.base.tbls _ _ (I.ok.bsz.2.tab x c P hx ht).2⟩⟩
theorem Inv.env0 (I:Inv X pins σ H s):Env0 X.prog X.w X.K X.mg X.base X.A X.stack s H :=
 ⟨I.ok.frames,I.ok.mod,I.bs,⟨Nat.le_trans I.ok.bsz.1 I.sz,I.tabsH⟩,I.stack,I.stkFree,I.hok,I.bare⟩
theorem Inv.after {Q:VK} {u:Value} (I:Inv X pins σ H s) (h:CE X.stack X.prog X.w H s Q u s'):EP X pins σ Q u s':=by
 obtain ⟨v,H',os,bare,un,hok,r,q⟩:=h
 obtain ⟨hh,g,d,t,os'⟩:=s'
 obtain rfl:os'=s.os:=os
 exact ⟨v,H',I.call (h':=hh) (g':=g) (d':=d) (t':=t) (ch:=[]) un hok bare (fun b z=>absurd z (by simp)),r,q⟩
end
def tCall (sp:Sp) (dvs:List V) (E:XK) (t:TA):TE:=fun σ H Q=>t σ H fun vs H1=>sp (vs++dvs) H1 Q E
def Binds (K:PySem.W.Frag) (fd:FuncData) (ps:List Str) (ds:List Value):Prop :=
 ∀ (s:Shared) (us:List Value),K.In s.heap->(us++ds).length=ps.length->BindsTo s fd ⟨us,[]⟩ (ps.zip (us++ds))
theorem Binds.all {K:PySem.W.Frag} {fd:FuncData} {ps:List Str} (h:∀ us:List Value,us.length=ps.length->bindArgs fd ⟨us,[]⟩=pure (ps.zip us)):Binds K fd ps []:=fun s us _ hl=>by
 rw [List.append_nil] at hl ⊢
 exact .of_eq (h us hl)
def Passes (CX:CXT) (X:Cx) (E:XK):Prop:=∀ (pins:List (Addr×Obj)) (σ : St) (H:Hp) (s:Shared) (e:Value) (s':Shared),Inv X pins σ H s->CX X.stack H s E e s'->X.xe e s'
section
variable {X:Cx} {CX:CXT} {k:Nat} {f C:Addr} {fd:FuncData} {ps:List Str} {sp:Sp} {dvs:List V} {ds:List Value} {E:XK} {x m:Str} {p pos apos:Pos} {e o:Expr} {es:List Expr} {ta:TE} {t:TA}
theorem run_fn {pins:List (Addr×Obj)} {σ : St} {H:Hp} {s:Shared} {Q:VK} {us:List Value} {vs:List V} (F:FnOk X.prog X.w X.K X.mg X.base CX k f fd ps sp) (hr:Room k X.A) (hb:Binds X.K fd ps ds) (hd:Vals dvs ds) (hx:Passes CX X E)
  (I:Inv X pins σ H s) (r:Vals vs us) (h:sp (vs++dvs) H Q E):wpAny (model X.prog X.w) X.A (call (.ref f) us) (EP X pins σ Q) X.xe s:=by
 have r2:Vals (vs++dvs) (us++ds):=r.append hd
 have hl:(us++ds).length=ps.length:=by rw [<- r2.length]; exact F.len _ _ _ _ h
 refine wpAny_call (codeAny_mono (F.run X.A X.stack s H ⟨us,[]⟩ (us++ds) (vs++dvs) Q E hr I.env0 (hb s us I.kIn hl) r2 h) fun r s' hq=>?_)
 cases r with
 | error e=>exact hx pins σ H s e s' I hq
 | ok fl =>
   cases fl with
   | ret u=>exact I.after hq
   | next=>exact False.elim hq
   | brk=>exact False.elim hq
   | cont=>exact False.elim hq
theorem pe_call (F:FnOk X.prog X.w X.K X.mg X.base CX k f fd ps sp) (hr:Room k X.A) (hg:Gl X x) (hm:X.mg x=some (.ref f)) (hk:PySem.W.keepIn X.K (.ref f)=true) (hb:Binds X.K fd ps ds) (hd:Vals dvs ds) (hx:Passes CX X E)
  (ha:PA X (e::es) t) (hdb:(x == ("__debug__" : Str))=false:=by decide) (he:starEach (e::es) X.env=(false,eval e X.env)::starEach es X.env:=by rfl) (hpl:(backTo pos (starEach es X.env)).any (·.1)=false:=by rfl) :
  PE X (.Call (.Name x p) (e::es) [] pos) (tCall sp dvs E t):=by
 intro pins s σ H Q I h
 refine wpAny_Call_Name_kw (wV I hg hm ?_ hdb)
 refine PySem.W.callWith_K (h₀:=X.base) I.ok.mod.kin hk (thn (ha pos pins s σ H _ I h) fun us s1 ⟨vs,H1,I1,r,q⟩=>⟨I1.kIn,?_⟩) he hpl
 exact run_fn F hr hb hd hx I1 r q
end
section
variable {X:Cx} {CX:CXT} {k:Nat} {f C:Addr} {fd:FuncData} {ps ks:List Str} {sp:Sp} {E:XK} {x m:Str} {p pos apos kpos:Pos} {e o:Expr} {es:List Expr} {kws:List Keyword} {te ta:TE} {t tk:TA} {nm:Option Str}
variable {g:List Value->List Value->List Value} {gV:List V->List V->List V}
end
structure FnScope (N P:List Str) (sc:Scope):Prop where
 kind:sc.kind = .function
 co:sc.isCoroutine=false
 gen:sc.isGenerator=false
 nd:N.Nodup
 pre:N.take P.length=P
 par:∀ x∈P,sc.names.lookup x=some .local \/ sc.names.lookup x=some .cell
 nofree:∀ y∈sc.names,y.2≠.free
theorem bindL_out {kindOf:Str->Option NameKind} {x:Str} : ∀ {binds:List (Str×Value)} {m:Str->Option Value},(∀ v,(x,v) ∉ binds)->bindL kindOf binds m x=m x
 | [],_,_=>rfl
 | (n, v) :: r, m, h => by
   unfold bindL
   rw [bindL_out fun w hw=>h w (List.mem_cons_of_mem _ hw)]
   split
   · have : x ≠ n := by rintro rfl; exact h v List.mem_cons_self
     simp [this]
   · rfl
theorem bindC_out {kindOf:Str->Option NameKind} {x:Str} : ∀ {binds:List (Str×Value)} {m:Str->Option Value},(∀ v,(x,v) ∉ binds)->bindC kindOf binds m x=m x
 | [],_,_=>rfl
 | (n, v) :: r, m, h => by
   unfold bindC
   rw [bindC_out fun w hw=>h w (List.mem_cons_of_mem _ hw)]
   split
   · rfl
   · have : x ≠ n := by rintro rfl; exact h v List.mem_cons_self
     simp [this]
theorem bindL_get {kindOf:Str->Option NameKind} {x:Str} {v:Value} : ∀ {P:List Str} {vs:List Value} {i:Nat} {m:Str->Option Value},P.Nodup->P[i]? = some x->vs[i]? = some v->kindOf x=some .local →
  bindL kindOf (P.zip vs) m x=some v
 | [],_,_,_,_,h,_,_=>by simp at h
 | _::_,[],_,_,_,_,h,_=>by simp at h
 | p :: P, w :: vs, 0, m, nd, h1, h2, hk => by
   simp at h1 h2; subst h1; subst h2
   show bindL kindOf ((p,w)::P.zip vs) m p=_
   unfold bindL
   rw [bindL_out fun v hv=>(List.nodup_cons.mp nd).1 (List.of_mem_zip hv).1,if_pos hk]
   simp
 | p :: P, w :: vs, i + 1, m, nd, h1, h2, hk => by
   show bindL kindOf ((p,w)::P.zip vs) m x=_
   unfold bindL
   exact bindL_get (i:=i) (List.nodup_cons.mp nd).2 (by simpa using h1) (by simpa using h2) hk
theorem bindC_get {kindOf:Str->Option NameKind} {x:Str} {v:Value} : ∀ {P:List Str} {vs:List Value} {i:Nat} {m:Str->Option Value},P.Nodup->P[i]? = some x->vs[i]? = some v->kindOf x≠some .local →
  bindC kindOf (P.zip vs) m x=some v
 | [],_,_,_,_,h,_,_=>by simp at h
 | _::_,[],_,_,_,_,h,_=>by simp at h
 | p :: P, w :: vs, 0, m, nd, h1, h2, hk => by
   simp at h1 h2; subst h1; subst h2
   show bindC kindOf ((p,w)::P.zip vs) m p=_
   unfold bindC
   rw [bindC_out fun v hv=>(List.nodup_cons.mp nd).1 (List.of_mem_zip hv).1,if_neg hk]
   simp
 | p :: P, w :: vs, i + 1, m, nd, h1, h2, hk => by
   show bindC kindOf ((p,w)::P.zip vs) m x=_
   unfold bindC
   exact bindC_get (i:=i) (List.nodup_cons.mp nd).2 (by simpa using h1) (by simpa using h2) hk
def start (N:List Str) (vs:List V):St:=vs.map some++List.replicate (N.length - vs.length) none
def cxOf (CX:CXT) (P:Program) (w:World) (K:PySem.W.Frag) (mg:Str->Option Value) (base:Heap) (N:List Str) (qual:Str) (scope:Scope) (f:Addr) (cd:Value) (A:Around) (outer:List Env) (s:Shared) (H:Hp) (E:XK):Cx where
 prog:=P
 w:=w
 K:=K
 mg:=mg
 base:=base
 A:=A.deeper (envOfC qual scope s.heap.objs.size f cd)
 N:=N
 s₀:=s
 H₀:=H
 env:=envOfC qual scope s.heap.objs.size f cd
 outer:=outer
 stack:=envOfC qual scope s.heap.objs.size f cd::outer
 ex:=[]
 calm:=true
 fn:=fun _=>true
 pn:=[]
 xe:=fun e s'=>wpAny (model P w) (A.deeper (envOfC qual scope s.heap.objs.size f cd)) (leaving (envOfC qual scope s.heap.objs.size f cd) e) (fun _ s''=>CX outer H s E e s'') (fun e' s''=>CX outer H s E e' s'') s'
theorem cell_has {sc:Scope} {n:Nat} {x:Str} (h:sc.names.lookup x=some .cell):∃ c,(cellsFrom n sc.names []).lookup x=some c:=by
 have q:=PySem.W.cellsFrom_some sc.names n [] (.inl h)
 exact Option.isSome_iff_exists.mp q
theorem inv_start {CX:CXT} {P:Program} {w:World} {K:PySem.W.Frag} {mg:Str->Option Value} {base:Heap} {N ps:List Str} {qual:Str} {scope:Scope} {f:Addr} {cd:Value} {A:Around} {outer:List Env} {s s1:Shared} {H:Hp} {E:XK} {us:List Value} {vs:List V}
  (S:FnScope N ps scope) (hd:A.handled=none) (e0:Env0 P w K mg base A outer s H) (hl:vs.length=ps.length) (r:Vals vs us)
  (x:InCallC s s.heap.objs.size (bindL (envOfC qual scope s.heap.objs.size f cd).kindOf (ps.zip us) fun _=>none) (cellsFrom (s.heap.objs.size+1) scope.names []) (bindC (envOfC qual scope s.heap.objs.size f cd).kindOf (ps.zip us) fun _=>none) s1) :
  Inv (cxOf CX P w K mg base N qual scope f cd A outer s H E) [] (start N vs) H s1:=by
 have hpl:ps.length<=N.length:=by have:=congrArg List.length S.pre; rw [List.length_take] at this; omega
 obtain ⟨h1,tk,rfl,hk⟩:=x.done
 have noA:∀ b:Addr,b ∉ (cxOf CX P w K mg base N qual scope f cd A outer s H E).ex:=fun b z=>absurd (show b∈([]:List Addr) from z) (by simp)
 refine ⟨⟨e0.mod,S.kind,rfl,rfl,Nat.le_refl _,fun y z c h1 h2=>?_,fun y hy=>?_,fun y c _ h=>?_,fun _=>hd,Around.frames_deeper e0.frames,.inr ⟨rfl,rfl⟩,fun b z=>absurd z (noA b),e0.bs,e0.bsz,fun b _ _=>noA b,fun b z=>absurd z (noA b),e0.funs,e0.frf⟩,
  rfl,e0.bare,Un.kept hk,⟨_,x.toInCall.ns,fun i y v h1 h2 h3=>?_⟩,fun y c h=>⟨_,x.cell y c h⟩,e0.hok.fresh (Nat.le_refl _),fun y c h=>?_,fun p hp=>absurd (show p∈([]:List (Addr×Obj)) from hp) (by simp),e0.hok.kept hk,?_⟩
 · exact name_of_addr x.apart (PySem.mem_of_lookup h1) (PySem.mem_of_lookup h2)
 · have hy : scope.names.lookup y = some .cell \/ scope.names.lookup y = some .free := hy
   rcases hy with hy | hy
   · exact cell_has hy
   · exact absurd rfl (S.nofree _ (PySem.mem_of_lookup hy))
 · exact Nat.le_of_lt (x.above y c (PySem.mem_of_lookup h))
 · have hi:i < vs.length:=by
    unfold start at h2
    by_cases hi:i < vs.length
    · exact hi
    · rw [List.getElem?_append_right (by simpa using hi)] at h2
      rw [List.getElem?_replicate] at h2
      split at h2 <;> cases h2
   have ha:vs[i]? = some v:=by
    unfold start at h2
    rw [List.getElem?_append_left (by simpa using hi),List.getElem?_map] at h2
    cases e:vs[i]? with
    | none=>rw [e] at h2; cases h2
    | some a=>rw [e] at h2; cases h2; rfl
   obtain ⟨u,hu,rv⟩:=r.get ha
   have hp:ps[i]? = some y:=by
    rw [<- S.pre,List.getElem?_take_of_lt (by omega)]; exact h1
   have ndP:ps.Nodup:=by rw [<- S.pre]; exact S.nd.sublist (List.take_sublist _ _)
   refine ⟨u,rv,?_⟩
   rcases S.par y (List.mem_of_getElem? hp) with k | k
   · exact .inl ⟨k,bindL_get ndP hp hu k⟩
   · obtain ⟨c, e⟩ := cell_has (n := s.heap.objs.size + 1) k
     refine .inr ⟨.inl k,c,e,?_⟩
     have q:=x.cell y c e
     rw [bindC_get ndP hp hu (by show scope.names.lookup y≠_; rw [k]; decide)] at q
     exact q
 · exact .inl (e0.hok.fresh (Nat.le_of_lt (x.above y c (PySem.mem_of_lookup h))))
 · unfold start
   show _=N.length
   rw [List.length_append,List.length_map,List.length_replicate]
   omega
theorem fn_of {CX:CXT} {P:Program} {w:World} {K:PySem.W.Frag} {mg:Str->Option Value} {base:Heap} {k:Nat} {f:Addr} {name qual:Str} {params:Arguments} {body:List Stmt} {scope:Scope} {dV kV doc pm cdv ct oc:Value} {an od:Option Addr}
  {osl:Array (Option Value)} {N ps:List Str} {sp:Sp} (lk:K.lookup f=some ⟨oc,od,.func (PySem.W.fnOf name qual params body scope dV kV doc pm an cdv ct),osl⟩) (hcd:PySem.W.codeIn K cdv qual=true) (S:FnScope N ps scope)
  (len:∀ vs H Q E,sp vs H Q E->vs.length=ps.length)
  (hbody:∀ (A:Around) (outer:List Env) (s:Shared) (H:Hp) (vs:List V) (Q:VK) (E:XK),Room k (A.deeper (envOfC qual scope s.heap.objs.size f cdv))->sp vs H Q E →
    ∃ t,PSs (cxOf CX P w K mg base N qual scope f cdv A outer s H E) body t/\t { nx:=fun _ H'=>Q .non H',rt:=Q } (start N vs) H) :
  FnOk P w K mg base CX (k+1) f (PySem.W.fnOf name qual params body scope dV kV doc pm an cdv ct) ps sp:=by
 refine ⟨len,fun A outer s H args us vs Q E hr e0 hb r hsp=>?_⟩
 have hl:=len _ _ _ _ hsp
 have KX:K.In s.heap:=e0.mod.kin.keeps fun b o e=>(e0.bs b o e).1
 have lim:s.heap.NoLimit:=e0.mod.nolimit.keeps fun b o e=>(e0.bs b o e).1
 have hkind:∀ y∈ps.zip us,scope.names.lookup y.1=some .local \/ (scope.names.lookup y.1=some .cell/\((cellsFrom (s.heap.objs.size+1) scope.names []).lookup y.1).isSome=true):=fun ⟨n,v⟩ hy=>by
  rcases S.par n (List.of_mem_zip hy).1 with q | q
  · exact .inl q
  · exact .inr ⟨q,PySem.W.cellsFrom_some _ _ _ (.inl q)⟩
 refine codeAny_call_function hr.depth (KX _ _ lk) rfl S.co S.gen rfl (PySem.W.codeRec_of KX hcd) (hb _ _ _ _ ?_)
 refine wpAny_newFunctionEnv_cells S.kind hkind fun env he s1 x=>?_
 subst he
 refine ⟨lim.keeps x.toInCall.keep,codeAny_func ?_⟩
 obtain ⟨t,ht,hq⟩:=hbody A outer s H vs Q E (hr.deeper _) hsp
 have I:Inv (cxOf CX P w K mg base N qual scope f cdv A outer s H E) [] (start N vs) H s1:=inv_start S hr.hd e0 hl r x
 refine wpAny_mono (ht [] s1 (start N vs) H _ I hq) (fun fl s' hs=>?_) fun e s' hs=>hs
 have fin:∀ {σ':St} {H':Hp} {v:V} {u:Value},Inv (cxOf CX P w K mg base N qual scope f cdv A outer s H E) [] σ' H' s'->RelV v u->Q v H'->CE outer P w H s Q u s' :=
  fun {σ' H' v u} J rv q=>⟨v,H',J.os,J.bare,J.base,J.hok,rv,q⟩
 cases fl with
 | ret u =>
   obtain ⟨v,σ',H',J,rv,q⟩:=hs
   exact fin J rv q
 | next =>
   obtain ⟨σ',H',J,q⟩:=hs
   exact fin (v:=V.non) (u:=Value.none) J rfl q
 | brk =>
   obtain ⟨_,_,_,q⟩:=hs
   exact False.elim q
 | cont =>
   obtain ⟨_,_,_,q⟩:=hs
   exact False.elim q
end L2
namespace L2
open PySem PySem.Spec PyProof.Rows
section
variable {X:Cx} {x:Str} {p pos:Pos} {e:Expr} {es:List Expr} {t:TA} {id T:String} {r:List V->Hp->VK->Prop}
def tCB (r:List V->Hp->VK->Prop) (t:TA):TE:=fun σ H Q=>t σ H fun vs H1=>r vs H1 Q
theorem pe_callB (hc:CallR X (.builtin id) r) (hg:Gl X x) (hm:X.mg x=none) (hv:bootBuiltins x=some (.builtin id)) (ha:PA X (e::es) t) (hn:x≠"__name__":=by decide) (hdb:(x == ("__debug__" : Str))=false:=by decide)
  (he:starEach (e::es) X.env=(false,eval e X.env)::starEach es X.env:=by rfl) (hpl:(backTo pos (starEach es X.env)).any (·.1)=false:=by rfl):PE X (.Call (.Name x p) (e::es) [] pos) (tCB r t):=by
 intro pins s σ H Q I h
 refine wpAny_Call_Name_kw (wJ I hg hm hv ?_ hn hdb)
 exact PyProof.Rows.callWith_builtin1 (thn (ha pos pins s σ H _ I h) fun us s1 ⟨vs,H1,I1,r1,q1⟩=>hc pins s1 σ H1 vs us Q I1 r1 q1) he hpl
theorem pe_callTy (hc:CallR X (.type T) r) (hg:Gl X x) (hm:X.mg x=none) (hv:bootBuiltins x=some (.type T)) (ha:PA X (e::es) t) (hn:x≠"__name__":=by decide) (hdb:(x == ("__debug__" : Str))=false:=by decide)
  (he:starEach (e::es) X.env=(false,eval e X.env)::starEach es X.env:=by rfl) (hpl:(backTo pos (starEach es X.env)).any (·.1)=false:=by rfl):PE X (.Call (.Name x p) (e::es) [] pos) (tCB r t):=by
 intro pins s σ H Q I h
 refine wpAny_Call_Name_kw (wJ I hg hm hv ?_ hn hdb)
 exact PyProof.Rows.callWith_type1 (thn (ha pos pins s σ H _ I h) fun us s1 ⟨vs,H1,I1,r1,q1⟩=>hc pins s1 σ H1 vs us Q I1 r1 q1) he hpl
end
end L2
namespace HT
open PySem PyProof.Rows
section
open PySem.SeqAt
open PySem.AutoSeq1 (wpAny_loadPart')
open PySem.MeetsSeq PySem.MeetsSeq2 PySem.MeetsSeq3
end
section
variable {prog:Program} {w:World} {A:Around} {E:Value->Shared->Prop} {s:Shared}
end
end HT
namespace L2
open PySem PySem.Spec PyProof.Rows
abbrev TO:=St->Hp->(Option Int->Hp->Prop)->Prop
def PO (X:Cx) (e:Option Expr) (t:TO):Prop :=
 ∀ (pins:List (Addr×Obj)) (s:Shared) (σ : St) (H:Hp) (Q:Option Int->Hp->Prop),Inv X pins σ H s->t σ H Q →
  wpAny (model X.prog X.w) X.A (evalPart e X.env) (fun u s'=>∃ o H',Inv X pins σ H' s'/\IsPart u o/\Q o H') X.xe s
def tNoPart:TO:=fun _ H Q=>Q none H
def tPart (t:TE):TO:=fun σ H Q=>t σ H fun x H1=>∃ i,x = .int i/\Q (some i) H1
section
variable {X:Cx} {e:Expr} {te:TE} {lo hi:Option Expr} {tl th:TO} {pos p2:Pos}
theorem po_none:PO X none tNoPart:=by
 intro pins s σ H Q I h
 rw [evalPart_none]
 exact wpAny_pure ⟨none,H,I,.none,h⟩
theorem po_some (h:PE X e te):PO X (some e) (tPart te):=by
 intro pins s σ H Q I hw
 rw [evalPart_some]
 refine thn (h pins s σ H _ I hw) fun u s1 ⟨x,H1,I1,r1,q1⟩=>?_
 obtain ⟨i,rfl,q⟩:=q1
 obtain ⟨t,rfl⟩:=r1
 exact ⟨some i,H1,I1,.int i t,q⟩
def SlR (X:Cx) (r:V->Option Int->Option Int->Hp->VK->Prop):Prop :=
 ∀ (pins:List (Addr×Obj)) (s:Shared) (σ : St) (H:Hp) (x:V) (v vl vu:Value) (lo hi:Option Int) (sl:Addr) (Q:VK),Inv X pins σ H s->RelV x v->s.heap.IsSliceOf sl vl vu .none->IsPart vl lo->IsPart vu hi->r x lo hi H Q →
  ∃ T id,typeLookup (.type T) "__getitem__" = pure (some (.builtin id))/\s.TypeIs v T/\wpAny (model X.prog X.w) X.A (getItem v (.ref sl)) (EP X pins σ Q) X.xe s
def tSl (r:V->Option Int->Option Int->Hp->VK->Prop) (te:TE) (tl th:TO):TE:=fun σ H Q=>te σ H fun x H1=>tl σ H1 fun l H2=>th σ H2 fun u H3=>r x l u H3 Q
theorem pe_slice {r:V->Option Int->Option Int->Hp->VK->Prop} (hr:SlR X r) (he:PE X e te) (hl:PO X lo tl) (hu:PO X hi th):PE X (.Subscript e (.Slice lo hi none p2) pos) (tSl r te tl th):=by
 intro pins s σ H Q I h
 refine Subscript_ (thn (he pins s σ H _ I h) fun v s1 ⟨x,H1,I1,r1,q1⟩=>?_)
 refine wpAny_Slice (thn (hl pins s1 σ H1 _ I1 q1) fun vl s2 ⟨l,H2,I2,pl,q2⟩=>thn (hu pins s2 σ H2 _ I2 q2) fun vu s3 ⟨u,H3,I3,pu,q3⟩=>?_)
 rw [evalPart_none]
 refine wpAny_pure ?_
 have I4:Inv X pins σ H3 { s3 with heap:=s3.heap.push { cls:=.type "slice",data:=.fields #[vl,vu,.none] } }:=I3.kept (t':=s3.toks) fun b ob q=>Heap.get?_push_of_some _ q
 obtain ⟨T,id,hT,ht,hg⟩:=hr pins { s3 with heap:=s3.heap.push { cls:=.type "slice",data:=.fields #[vl,vu,.none] } } σ H3 x v vl vu l u s3.heap.objs.size Q I4 r1 (Heap.IsSliceOf.new ..) pl pu q3
 show wpAny (model X.prog X.w) X.A (subscriptTail e (.Slice lo hi none p2) v (.ref s3.heap.objs.size)) (EP X pins σ Q) X.xe { s3 with heap:=s3.heap.push { cls:=.type "slice",data:=.fields #[vl,vu,.none] } }
 exact tail_any (ops:=[.ref s3.heap.objs.size,v]) ht hT hg (by with_unfolding_all rfl)
def cutV (xs:List V) (lo hi:Option Int):List V:=(xs.drop (HT.sIx xs.length 0 lo)).take (HT.sIx xs.length xs.length hi - HT.sIx xs.length 0 lo)
theorem cutV_length (xs:List V) (lo hi:Option Int):(cutV xs lo hi).length<=xs.length:=by
 unfold cutV
 rw [List.length_take,List.length_drop]
 omega
end
end L2
namespace L2
open PySem PySem.Spec PyProof.Rows
theorem ixN_seq {n:Nat} {i:Int} {j:Nat} (h:ixN n i=some j):seqIndex? i n=some j/\j < n/\-(n:Int)<=i/\i < n:=by
 unfold ixN at h
 by_cases h0:0<=i
 · rw [if_pos h0] at h
   by_cases h1:i < n
   · rw [if_pos h1] at h
     have e:i.toNat=j:=Option.some.inj h
     exact ⟨by rw [seqIndex_of h0 h1,e],by omega,by omega,h1⟩
   · rw [if_neg h1] at h; cases h
 · rw [if_neg h0] at h
   by_cases h1 : -(n:Int)<=i
   · rw [if_pos h1] at h
     have e:(i+n).toNat=j:=Option.some.inj h
     exact ⟨by rw [seqIndex_neg (by omega) h1,e],by omega,h1,by omega⟩
   · rw [if_neg h1] at h; cases h
theorem atI_get {α : Type} {xs:List α} {i:Int} {v : α} (h:atI xs i=some v):∃ j,seqIndex? i xs.length=some j/\xs[j]? = some v/\j < xs.length/\-(xs.length:Int)<=i/\i < xs.length:=by
 unfold atI at h
 cases e:ixN xs.length i with
 | none=>rw [e] at h; cases h
 | some j =>
   rw [e] at h
   obtain ⟨h1,h2,h3,h4⟩:=ixN_seq e
   exact ⟨j,h1,h,h2,h3,h4⟩
theorem atI_nat {α : Type} {xs:List α} {j:Nat} {v : α} (h:xs[j]? = some v):atI xs (j:Int)=some v:=by
 have hj:j < xs.length:=(List.getElem?_eq_some_iff.mp h).1
 have e:ixN xs.length (j:Int)=some j:=by
  unfold ixN
  rw [if_pos (by omega),if_pos (by omega)]; simp
 unfold atI; rw [e]; exact h
def PlainIx (b:Expr):Prop:=∀ o i,subscripted b false o i=operate [o,i] (getItem o i)
def IxR (X:Cx) (r:R2):Prop :=
 ∀ (value slice:Expr) (pins:List (Addr×Obj)) (s:Shared) (σ : St) (H:Hp) (x y:V) (v u:Value) (Q:VK),Inv X pins σ H s->RelV x v->RelV y u->r x y H Q →
  subscripted slice false v u=operate [v,u] (getItem v u)->wpAny (model X.prog X.w) X.A (subscriptTail value slice v u) (EP X pins σ Q) X.xe s
def MtR (X:Cx) (id:String) (r:V->List V->Hp->VK->Prop):Prop :=
 ∀ (pins:List (Addr×Obj)) (s:Shared) (σ : St) (H:Hp) (x:V) (xs:List V) (v:Value) (us:List Value) (Q:VK),Inv X pins σ H s->RelV x v->Vals xs us->r x xs H Q →
  wpAny (model X.prog X.w) X.A (call (.builtin id) (v::us)) (EP X pins σ Q) X.xe s
section
variable {X:Cx} {a b:Expr} {ta tb:TE} {pos:Pos}
theorem IxR.or {r r':R2} (h:IxR X r) (h':IxR X r'):IxR X (fun x y H Q=>r x y H Q \/ r' x y H Q):=by
 intro value slice pins s σ H x y v u Q I rx ry q hs
 rcases q with q | q
 · exact h value slice pins s σ H x y v u Q I rx ry q hs
 · exact h' value slice pins s σ H x y v u Q I rx ry q hs
theorem pe_ix {r:R2} (hr:IxR X r) (ha:PE X a ta) (hb:PE X b tb) (hs:PlainIx b):PE X (.Subscript a b pos) (tOp r ta tb):=by
 intro pins s σ H Q I h
 exact Subscript_ (binT ha hb I h fun v u s2 x y H2 I2 rx ry q=>hr a b pins s2 σ H2 x y v u Q I2 rx ry q (hs _ _))
def rIxL (K:PySem.W.Frag):R2:=fun x y H Q=>∃ p xs i v,x = .ref p/\y = .int i/\SqL K H p xs/\atI xs i=some v/\Q v H
def rIxT (K:PySem.W.Frag):R2:=fun x y H Q=>∃ p xs i v,x = .ref p/\y = .int i/\SqT K H p xs/\atI xs i=some v/\Q v H
def rIxS:R2:=fun x y H Q=>∃ z i c,x = .str z/\y = .int i/\z.length<=sizeLine/\atI z.cps.toList i=some c/\Q (.str ⟨#[c]⟩) H
theorem ix_list:IxR X (rIxL X.K):=by
 intro value slice pins s σ H x y v u Q I rx ry h hs
 obtain ⟨p,xs,i,z,rfl,rfl,hq,he,q⟩:=h
 cases rx
 obtain ⟨t,rfl⟩:=ry
 obtain ⟨its,r,pl,hz⟩:=I.list hq
 obtain ⟨j,h1,h2,h3,h4,h5⟩:=atI_get he
 obtain ⟨w,ew,rw'⟩:=r.get h2
 have hl:=r.length
 have hn:=line63
 have fin:EP X pins σ Q w s:=⟨z,H,I,rw',q⟩
 by_cases h0:0<=i
 · have hj:i.toNat=j:=by
    rw [seqIndex_of h0 h5] at h1
    exact Option.some.inj h1
   exact item_listR pl.isList h0 (by omega) (by rw [hj]; simpa using ew) fin hs
 · have hj:(i+(its.toArray.size:Int)).toNat=j:=by
    rw [seqIndex_neg (by omega) h4] at h1
    rw [List.size_toArray,<- hl]
    exact Option.some.inj h1
   exact subscriptTail_builtinR (x:=w) pl.isList.typeIs slot_list_getitem.lookup
    (wpAny_getItem_list_neg (Q:=fun r s'=>r=w/\EP X pins σ Q r s') pl.isList (by omega) (by rw [List.size_toArray] <;> omega) (by omega) (by rw [hj]; simpa using ew) ⟨rfl,fin⟩) hs
theorem ix_tup:IxR X (rIxT X.K):=by
 intro value slice pins s σ H x y v u Q I rx ry h hs
 obtain ⟨p,xs,i,z,rfl,rfl,hq,he,q⟩:=h
 cases rx
 obtain ⟨t,rfl⟩:=ry
 obtain ⟨its,r,pl,hz⟩:=I.tuple hq
 obtain ⟨j,h1,h2,h3,h4,h5⟩:=atI_get he
 obtain ⟨w,ew,rw'⟩:=r.get h2
 have hl:=r.length
 have hn:=line63
 have fin:EP X pins σ Q w s:=⟨z,H,I,rw',q⟩
 exact subscriptTail_builtinR (x:=w) pl.typeIs slot_tuple_getitem.lookup
  (getItem_tuple (j:=j) (Q:=fun r s'=>r=w/\EP X pins σ Q r s') pl (by omega) (by omega) (by rw [List.size_toArray,<- hl]; exact h1) (by simpa using ew) ⟨rfl,fin⟩) hs
theorem ix_str:IxR X rIxS:=by
 intro value slice pins s σ H x y v u Q I rx ry h hs
 obtain ⟨z,i,c,rfl,rfl,hz,he,q⟩:=h
 obtain ⟨t,rfl⟩:=rx
 obtain ⟨t',rfl⟩:=ry
 obtain ⟨j,h1,h2,h3,h4,h5⟩:=atI_get he
 have hl:z.cps.toList.length=z.length:=by simp [Str.length]
 rw [hl] at h1 h4 h5
 have hn:=line63
 exact tail_any (typeIs_str s z t) slot_str_getitem.lookup (getItem_str (c:=c) (by
  have e1:decide (i < -(2 ^ 63:Int))=false:=decide_eq_false (by omega)
  have e2:decide (i ≥ 2 ^ 63)=false:=decide_eq_false (by omega)
  rw [e1,e2,Bool.or_false]) (by rw [h1]; simpa using h2) ⟨.str ⟨#[c]⟩,H,I.tok _,⟨_,rfl⟩,q⟩) hs
def rIx (K:PySem.W.Frag):R2:=fun x y H Q=>rIxL K x y H Q \/ rIxT K x y H Q \/ rIxS x y H Q
theorem ix_seq:IxR X (rIx X.K):=ix_list.or (ix_tup.or ix_str)
theorem mapSeq_set (its:List Value) (n j:Nat) (u:Value):Obj.mapSeq (·.setIfInBounds j u) { cls:=.type "list",data:=.seq its.toArray n } = { cls:=.type "list",data:=.seq (its.set j u).toArray n }:=by
 simp [Obj.mapSeq]
theorem Inv.lst {pins:List (Addr×Obj)} {σ : St} {H:Hp} {s:Shared} {p:Addr} {xs:List V} (I:Inv X pins σ H s) (h:H p=some (.lst xs)) :
  ∃ (its:List Value) (n:Nat),Vals xs its/\s.heap.get? p=some { cls:=.type "list",data:=.seq its.toArray n }/\xs.length<=sizeLine:=by
 obtain ⟨z,its,n,r,e⟩:=I.hok p _ h
 exact ⟨its,n,r,e,z⟩
theorem Inv.lstUpd {pins:List (Addr×Obj)} {σ : St} {H:Hp} {s:Shared} {p:Addr} {xs ys:List V} {its its':List Value} {n n':Nat} {f:Obj->Obj} (I:Inv X pins σ H s) (h:H p=some (.lst xs))
  (ho:s.heap.get? p=some { cls:=.type "list",data:=.seq its.toArray n }) (hf:f { cls:=.type "list",data:=.seq its.toArray n } = { cls:=.type "list",data:=.seq its'.toArray n' }) (r:Vals ys its') (hz:ys.length<=sizeLine) (t:Nat) :
  Inv X pins σ (upd H p (.lst ys)) { s with heap:=s.heap.update p f,toks:=t }:=by
 have e:(s.heap.update p f).get? p=some { cls:=.type "list",data:=.seq its'.toArray n' }:=by
  rw [Heap.get?_update_self f ho (by rw [hf] <;> rfl),hf]
 refine I.write (x:=p) (e:=p) (by rw [h]; trivial) (.inl rfl) (fun b u hb q=>(Heap.get?_update_other _ _ (Ne.symm hb)).trans q) ⟨_,e⟩ ?_
 exact ⟨hz,its',n',r,e⟩
def rSetL:V->V->V->Hp->(Hp->Prop)->Prop:=fun o i v H Q=>∃ p xs k j,o = .ref p/\i = .int k/\H p=some (.lst xs)/\ixN xs.length k=some j/\Q (upd H p (.lst (xs.set j v)))
theorem set_list:PSet X rSetL:=by
 intro pins s σ H o i v ov iv u Q I ro ri rv h
 obtain ⟨p,xs,k,j,rfl,rfl,hp,hj,q⟩:=h
 cases ro
 obtain ⟨t,rfl⟩:=ri
 obtain ⟨its,n,r,ho,hz⟩:=I.lst hp
 obtain ⟨h1,h2,h3,h4⟩:=ixN_seq hj
 have hl:=r.length
 have hn:=line63
 have I':Inv X pins σ (upd H p (.lst (xs.set j v))) { s with heap:=s.heap.update p (Obj.mapSeq (·.setIfInBounds j u)) } :=
  I.lstUpd hp ho (mapSeq_set its n j u) (r.set rv j) (by rw [List.length_set]; exact hz) s.toks
 by_cases h0:0<=k
 · have hk:k.toNat=j:=by
    rw [seqIndex_of h0 h4] at h1
    exact Option.some.inj h1
   exact PySem.W.ki_setAt ho h0 (by omega) (by rw [List.size_toArray,<- hl]; exact h4) (by rw [hk]; exact ⟨_,I',q⟩)
 · have hk:(k+(its.toArray.size:Int)).toNat=j:=by
    rw [seqIndex_neg (by omega) h3] at h1
    rw [List.size_toArray,<- hl]
    exact Option.some.inj h1
   exact PySem.W.ki_setBack ho (by omega) (by rw [List.size_toArray,<- hl]; exact h3) (by omega) (by rw [hk]; exact ⟨_,I',q⟩)
theorem slice_bounds (lo hi:Option Int) (n:Nat):(sliceBounds lo hi none n).1=((HT.sIx n 0 lo:Nat):Int)/\(sliceBounds lo hi none n).2.1=((HT.sIx n n hi:Nat):Int)/\(sliceBounds lo hi none n).2.2=1:=by
 refine ⟨?_,?_,rfl⟩
 · cases lo with
   | none=>simp [sliceBounds,HT.sIx]
   | some i =>
     simp only [sliceBounds,HT.sIx,Option.getD_none,show (1:Int) > 0 by decide,if_true]
     by_cases h:i < 0
     · simp only [h,if_true] <;> omega
     · simp only [h,if_false] <;> omega
 · cases hi with
   | none=>simp [sliceBounds,HT.sIx]
   | some i =>
     simp only [sliceBounds,HT.sIx,Option.getD_none,show (1:Int) > 0 by decide,if_true]
     by_cases h:i < 0
     · simp only [h,if_true] <;> omega
     · simp only [h,if_false] <;> omega
theorem slicePick_cut (its:List Value) (lo hi:Option Int):slicePick its.toArray lo hi none=((its.drop (HT.sIx its.length 0 lo)).take (HT.sIx its.length its.length hi - HT.sIx its.length 0 lo)).toArray:=by
 obtain ⟨h1,h2,h3⟩:=slice_bounds lo hi its.toArray.size
 unfold slicePick
 rw [h1,h2,h3]
 simp only [sliceRange_one,pick_run,List.size_toArray] <;> rfl
def rSlL (K:PySem.W.Frag):V->Option Int->Option Int->Hp->VK->Prop:=fun x lo hi H Q=>∃ a xs,x = .ref a/\SqL K H a xs/\∀ p,H p=none->Q (.ref p) (upd H p (.lst (cutV xs lo hi)))
theorem sl_list:SlR X (rSlL X.K):=by
 intro pins s σ H x v vl vu lo hi sl Q I rx hs pl pu h
 obtain ⟨a,xs,rfl,hx,q⟩:=h
 cases rx
 obtain ⟨its,r,ht,hz⟩:=I.list hx
 have hlen:=r.length
 refine ⟨"list",_,slot_list_getitem.lookup,ht.isList.typeIs,?_⟩
 refine wpAny_getItem_list_slice ht.isList hs pl pu .none (by simp) ?_ (by rw [List.size_toArray] <;> omega)
 rw [slicePick_cut,<- hlen]
 refine ⟨.ref s.heap.objs.size,_,I.laid (t':=s.toks) (o:=.lst (cutV xs lo hi)) (fun b ob q=>Heap.get?_push_of_some _ q) (Nat.le_refl _) ?_,rfl,q _ (I.hok.fresh (Nat.le_refl _))⟩
 exact ⟨Nat.le_trans (cutV_length xs lo hi) hz,_,0,(r.drop (HT.sIx xs.length 0 lo)).take (HT.sIx xs.length xs.length hi - HT.sIx xs.length 0 lo),Heap.get?_push_size _ rfl⟩
theorem call_len_seq:CallR X (.builtin "len") (fun xs H Q=>∃ p ys,xs=[.ref p]/\(SqL X.K H p ys \/ SqT X.K H p ys)/\Q (.int ys.length) H):=by
 intro pins s σ H xs us Q I r h
 obtain ⟨p,ys,rfl,hq,q⟩:=h
 obtain ⟨u,rfl,rx⟩:=vals1 r
 cases rx
 have hn:=line63
 rcases hq with hq | hq
 · obtain ⟨its, r', pl, hz⟩ := I.list hq
   have hlen:=r'.length
   exact Calls.call_len_list pl.isList (by simp only [List.size_toArray] <;> omega) ⟨.int ys.length,H,I.tok _,⟨s.toks+1,by rw [List.size_toArray,hlen]⟩,q⟩
 · obtain ⟨its, r', pl, hz⟩ := I.tuple hq
   have hlen:=r'.length
   exact len_tuple pl (by simp only [List.size_toArray] <;> omega) ⟨.int ys.length,H,I.tok _,⟨s.toks+1,by rw [List.size_toArray,hlen]⟩,q⟩
theorem call_len_str:CallR X (.builtin "len") (fun xs H Q=>∃ z,xs=[.str z]/\z.length<=sizeLine/\Q (.int z.length) H):=by
 intro pins s σ H xs us Q I r h
 obtain ⟨z,rfl,hz,q⟩:=h
 obtain ⟨u,rfl,t,rfl⟩:=vals1 r
 have hn:=line63
 exact len_str (by omega) ⟨.int z.length,H,I.tok _,⟨_,rfl⟩,q⟩
theorem CallR.or {f:Value} {r r':List V->Hp->VK->Prop} (h:CallR X f r) (h':CallR X f r'):CallR X f (fun xs H Q=>r xs H Q \/ r' xs H Q):=by
 intro pins s σ H xs us Q I rs q
 rcases q with q | q
 · exact h pins s σ H xs us Q I rs q
 · exact h' pins s σ H xs us Q I rs q
theorem call_list_of:CallR X (.type "list") (fun xs H Q=>∃ p ys,xs=[.ref p]/\(SqL X.K H p ys \/ SqT X.K H p ys)/\∀ l,H l=none->Q (.ref l) (upd H l (.lst ys))):=by
 intro pins s σ H xs us Q I r h
 obtain ⟨p,ys,rfl,hq,q⟩:=h
 obtain ⟨u,rfl,rx⟩:=vals1 r
 cases rx
 have fin:∀ (its:List Value),Vals ys its->ys.length<=sizeLine->∀ (h':Heap) (c':Nat),(∀ b o',s.heap.get? b=some o'->h'.get? b=some o') →
   h'.get? s.heap.objs.size=some { cls:=.type "list",dict:=none,data:=.seq its.toArray c',slots:=#[] }->EP X pins σ Q (.ref s.heap.objs.size) { s with heap:=h' }:=fun its r' hz h' c' kp e =>
  ⟨.ref s.heap.objs.size,_,I.laid (t':=s.toks) kp (Nat.le_refl _) (show ObjOk X.prog X.w _ h' _ (.lst ys) from ⟨hz,its,c',r',e⟩),rfl,q _ (I.hok.fresh (Nat.le_refl _))⟩
 rcases hq with hq | hq
 · obtain ⟨its, r', pl, hz⟩ := I.list hq
   have hlen:=r'.length
   obtain ⟨o,ho,hc,n,hd⟩:=pl.isList
   exact call_list_seq p (.inl rfl) ho hc hd (fun h' c' kp e=>fin its r' hz h' c' kp e) (by simp only [List.size_toArray] <;> omega)
 · obtain ⟨its, r', pl, hz⟩ := I.tuple hq
   have hlen:=r'.length
   obtain ⟨o,ho,hc,n,hd⟩:=pl
   exact call_list_seq p (.inr rfl) ho hc hd (fun h' c' kp e=>fin its r' hz h' c' kp e) (by simp only [List.size_toArray] <;> omega)
def tyV (K:PySem.W.Frag) (T:String) (x:V) (H:Hp):Prop:=match x with
 | .str _=>T = "str"
 | .int _=>T = "int"
 | .ref p=>(T = "list"/\∃ xs,SqL K H p xs) \/ (T = "tuple"/\∃ o,K.lookup p=some o/\o.cls = .type "tuple"/\o.dict=none) ∨
    (T = "dict"/\((∃ kvs,H p=some (.dK kvs)) \/ ∃ kvs,H p=some (.dT kvs))) \/ (T = "set"/\∃ S n,H p=some (.set S n))
 | _=>False
theorem tyV_is {pins:List (Addr×Obj)} {σ : St} {H:Hp} {s:Shared} {T:String} {x:V} {v:Value} (I:Inv X pins σ H s) (r:RelV x v) (ty:tyV X.K T x H) :
  s.TypeIs v T/\∀ a,v = .ref a->∃ ob,s.heap.get? a=some ob/\ob.dict=none:=by
 cases x with
 | str z =>
   obtain ⟨t,rfl⟩:=r
   cases (show T = "str" from ty)
   exact ⟨typeIs_str s z t,fun _ e=>nomatch e⟩
 | int i =>
   obtain ⟨t,rfl⟩:=r
   cases (show T = "int" from ty)
   exact ⟨typeIs_int s i t,fun _ e=>nomatch e⟩
 | ref p =>
   cases r
   rcases ty with ⟨rfl,xs,hq⟩ | ⟨rfl,o,hk,hc,hd⟩ | ⟨rfl,hk⟩ | ⟨rfl,S,n,hk⟩
   · obtain ⟨its, _, pl, _⟩ := I.list hq
     refine ⟨pl.isList.typeIs,fun a e=>?_⟩
     cases e
     obtain ⟨o,n,e,c,hd,_⟩:=pl
     exact ⟨o,e,hd⟩
   · refine ⟨⟨o, I.kIn p o hk, hc⟩, fun a e => ?_⟩
     cases e
     exact ⟨o,I.kIn _ o hk,hd⟩
   · have z:∃ o,s.heap.get? p=some o/\o.ExactDict:=by
      rcases hk with ⟨kvs,hk⟩ | ⟨kvs,hk⟩
      · obtain ⟨_, _, _, _, o, _, _, e, ex, _⟩ := I.hok p _ hk
        exact ⟨o,e,ex⟩
      · obtain ⟨_, _, _, _, o, _, _, e, ex, _⟩ := I.hok p _ hk
        exact ⟨o,e,ex⟩
     obtain ⟨o,e,ex⟩:=z
     refine ⟨⟨o,e,ex.1⟩,fun a e2=>?_⟩
     cases e2
     exact ⟨o,e,ex.2.1⟩
   · obtain ⟨o, _, _, _, e, ex, _⟩ := I.hok p _ hk
     refine ⟨⟨o,e,ex.1⟩,fun a e2=>?_⟩
     cases e2
     exact ⟨o,e,ex.2.1⟩
 | _=>exact False.elim ty
def tBM0 (K:PySem.W.Frag) (T:String) (r:V->List V->Hp->VK->Prop) (to:TE):TE:=fun σ H Q=>to σ H fun x H1=>tyV K T x H1/\r x [] H1 Q
def tBM (K:PySem.W.Frag) (T:String) (r:V->List V->Hp->VK->Prop) (to:TE) (t:TA):TE:=fun σ H Q=>to σ H fun x H1=>tyV K T x H1/\t σ H1 fun xs H2=>r x xs H2 Q
variable {o e:Expr} {es:List Expr} {to:TE} {t:TA} {name:Str} {apos cpos:Pos} {T id:String} {r:V->List V->Hp->VK->Prop}
theorem pe_bm0 (pa:PlainAttrs T) (slot:Slot T name id) (hty:typeOf (.builtin id)=pure (.type "method_descriptor")) (hm:MtR X id r) (ho:PE X o to)
  (hbase:attributeBase o name X.env (eval o X.env)=eval o X.env:=by rfl) (hline:(apos.endLine == cpos.line)=true:=by rfl):PE X (.Call (.Attribute o name apos) [] [] cpos) (tBM0 X.K T r to):=by
 intro pins s σ H Q I h
 refine wpAny_Call_method0_late hbase hline (thn (ho pins s σ H _ I h) fun v s1 ⟨x,H1,I1,r1,ty,q1⟩=>?_)
 obtain ⟨h1,h2⟩:=tyV_is I1 r1 ty
 exact ⟨T,id,pa,slot,hty,h1,h2,Calls.callWith_builtin rfl (PySem.evalArgs_none (hm pins s1 σ H1 x [] v [] Q I1 r1 .nil q1))⟩
theorem pe_bm (pa:PlainAttrs T) (slot:Slot T name id) (hty:typeOf (.builtin id)=pure (.type "method_descriptor")) (hm:MtR X id r) (ho:PE X o to) (ha:PA X (e::es) t)
  (hbase:attributeBase o name X.env (eval o X.env)=eval o X.env:=by rfl)
  (hfew:((backTo cpos (starEach (e::es) X.env)).all (fun x=>!x.1) && (backToKw cpos (keywordEach [] X.env)).all (fun x=>x.1.isSome)
    && decide ((e::es).length+([]:List Keyword).length+(if ([]:List Keyword).isEmpty then 0 else 1) < 30))=true:=by rfl)
  (hline:(apos.endLine == cpos.line)=true:=by rfl) (hs:starEach (e::es) X.env=(false,eval e X.env)::starEach es X.env:=by rfl) (hplain:(backTo cpos (starEach es X.env)).any (·.1)=false:=by rfl) :
  PE X (.Call (.Attribute o name apos) (e::es) [] cpos) (tBM X.K T r to t):=by
 intro pins s σ H Q I h
 refine wpAny_Call_method_late hbase hfew hline rfl (thn (ho pins s σ H _ I h) fun v s1 ⟨x,H1,I1,r1,ty,q1⟩=>?_)
 obtain ⟨h1,h2⟩:=tyV_is I1 r1 ty
 refine ⟨T,id,pa,slot,hty,h1,h2,?_⟩
 have hA:=ha cpos pins s1 σ H1 _ I1 q1
 rw [hs] at hA ⊢
 refine Calls.callWith_builtin (by show (false || (backTo cpos (starEach es X.env)).any (·.1))=false; rw [hplain] <;> rfl) (Calls.evalArgs_plain ?_)
 exact thn hA fun us s2 ⟨vs,H2,I2,r2,q2⟩=>hm pins s2 σ H2 x vs v us Q I2 r1 r2 q2
/- xs.append(e),list.index on a module's tuple .. are MtR facts of 06m -/
end
end L2
namespace L2
open PySem PySem.Spec PyProof.Rows
def MtM (X:Cx) (id:String) (r:V->List V->Hp->VK->Prop):Prop :=
 ∀ (pins:List (Addr×Obj)) (s:Shared) (σ : St) (H:Hp) (x:V) (xs:List V) (v:Value) (us:List Value) (Q:VK),Inv X pins σ H s->RelV x v->Vals xs us->r x xs H Q →
  wpAny (model X.prog X.w) X.A (call (.builtin id) (v::us)) (EP X pins σ Q) X.xe s
theorem Vals.one:∀ {x:V} {us:List Value},Vals [x] us->∃ u,us=[u]/\RelV x u
 | _,_,.cons r .nil=>⟨_,rfl,r⟩
theorem Vals.zero:∀ {us:List Value},Vals [] us->us=[]
 | _,.nil=>rfl
theorem Vals.dropLast {xs:List V} {us:List Value} (h:Vals xs us):Vals xs.dropLast us.dropLast:=by
 induction h with
 | nil=>exact .nil
 | cons r t ih =>
   cases t with
   | nil=>exact .nil
   | cons q t'=>exact .cons r ih
theorem Vals.reverse {xs:List V} {us:List Value} (h:Vals xs us):Vals xs.reverse us.reverse:=by
 induction h with
 | nil=>exact .nil
 | cons r t ih=>rw [List.reverse_cons,List.reverse_cons]; exact Vals.append ih (.cons r .nil)
section
variable {X:Cx} {pins:List (Addr×Obj)} {σ : St} {H:Hp} {s:Shared} {l b:Addr} {xs ys zs:List V}
theorem Inv.lset {its its':List Value} {n:Nat} {f:Array Value->Array Value} {t':Nat} (I:Inv X pins σ H s) (hH:H l=some (.lst xs))
  (e:s.heap.get? l=some { cls:=.type "list",data:=.seq its.toArray n }) (hf:f its.toArray=its'.toArray) (hv:Vals ys its') (hz:ys.length<=sizeLine) :
  Inv X pins σ (upd H l (.lst ys)) { s with heap:=s.heap.update l (Obj.mapSeq f),toks:=t' }:=by
 have q:=PySem.IsL.update e f
 rw [hf] at q
 refine I.write (x:=l) (e:=l) (by rw [hH]; exact trivial) (.inl rfl) (fun b' u hb hu=>(Heap.get?_update_other s.heap (Obj.mapSeq f) (Ne.symm hb)).trans hu) ⟨_,q⟩ ?_
 exact ⟨hz,its',_,hv,q⟩
theorem Inv.lnew {its:List Value} {t':Nat} (I:Inv X pins σ H s) (hv:Vals ys its) (hz:ys.length<=sizeLine) :
  Inv X pins σ (upd H s.heap.objs.size (.lst ys)) { s with heap:=s.heap.push { cls:=.type "list",data:=.seq its.toArray },toks:=t' } :=
 I.laid (fun _ _ q=>Heap.get?_push_of_some _ q) (Nat.le_refl _) ⟨hz,its,0,hv,Heap.get?_push_size _ rfl⟩
theorem Inv.fresh (I:Inv X pins σ H s):H s.heap.objs.size=none:=I.hok.fresh (Nat.le_refl _)
theorem Inv.lstM (I:Inv X pins σ H s) (hH:H l=some (.lst xs)):xs.length<=sizeLine/\∃ (its:List Value) (n:Nat),Vals xs its/\xs.length=its.length/\s.heap.get? l=some { cls:=.type "list",data:=.seq its.toArray n }:=by
 obtain ⟨z,its,n,r,e⟩:=I.hok l _ hH
 exact ⟨z,its,n,r,r.length,e⟩
theorem notLongL {n:Nat} (h:n<=sizeLine):Builtin.List.listTooLong n=false:=by
 unfold Builtin.List.listTooLong
 exact decide_eq_false (by omega)
end
section
variable {X:Cx}
def rAppend:V->List V->Hp->VK->Prop:=fun x vs H Q=>∃ l xs y,x = .ref l/\vs=[y]/\H l=some (.lst xs)/\xs.length < sizeLine/\Q .non (upd H l (.lst (xs++[y])))
theorem mt_append:MtM X "list.append" rAppend:=by
 intro pins s σ H x vs v us Q I rx rv h
 obtain ⟨l,xs,y,rfl,rfl,hH,hz,q⟩:=h
 cases rx
 obtain ⟨u,rfl,ru⟩:=rv.one
 obtain ⟨z,its,n,r,hl,e⟩:=I.lstM hH
 refine call_meets F.slot_list_append ⟨_,e,rfl⟩ F.entry_list_append (F.args_list_append_2 _ _) (PySem.list_append l its.toArray n u (by rw [List.size_toArray]; omega)) ⟨e,?_⟩
 refine ⟨.non,_,I.lset (its':=its++[u]) hH e (by simp) (r.append (.cons ru .nil)) ?_,rfl,q⟩
 rw [List.length_append,List.length_singleton]
 omega
def rExtend:V->List V->Hp->VK->Prop:=fun x vs H Q=>∃ l b xs zs,x = .ref l/\vs=[.ref b]/\H l=some (.lst xs)/\H b=some (.lst zs)/\xs.length+zs.length<=sizeLine/\Q .non (upd H l (.lst (xs++zs)))
theorem mt_extend:MtM X "list.extend" rExtend:=by
 intro pins s σ H x vs v us Q I rx rv h
 obtain ⟨l,b,xs,zs,rfl,rfl,hH,hB,hz,q⟩:=h
 cases rx
 obtain ⟨u,rfl,ru⟩:=rv.one
 cases ru
 obtain ⟨z,its,n,r,hl,e⟩:=I.lstM hH
 obtain ⟨z2,its2,n2,r2,hl2,e2⟩:=I.lstM hB
 have hsz:its.toArray.size+its2.toArray.size<=sizeLine:=by rw [List.size_toArray,List.size_toArray]; omega
 have hlong : ¬ (!its.toArray.isEmpty && Builtin.List.listTooLong (its.toArray.size+its2.toArray.size))=true:=by
  rw [notLongL hsz,Bool.and_false]
  exact Bool.false_ne_true
 refine call_meets F.slot_list_extend ⟨_,e,rfl⟩ F.entry_list_extend (F.args_list_extend_2 _ _)
  (AutoSeq1.list_extend_list_list_0 l its.toArray n b its2.toArray n2 hlong (by rw [List.size_toArray]; omega) (by omega)) ⟨e,e2,?_⟩
 refine ⟨.non,_,I.lset (its':=its++its2) hH e (by simp) (r.append r2) ?_,rfl,q⟩
 rw [List.length_append]
 omega
def rClear:V->List V->Hp->VK->Prop:=fun x vs H Q=>∃ l xs,x = .ref l/\vs=[]/\H l=some (.lst xs)/\Q .non (upd H l (.lst []))
theorem mt_clear:MtM X "list.clear" rClear:=by
 intro pins s σ H x vs v us Q I rx rv h
 obtain ⟨l,xs,rfl,rfl,hH,q⟩:=h
 cases rx
 have hus:=rv.zero
 subst hus
 obtain ⟨z,its,n,r,hl,e⟩:=I.lstM hH
 refine call_meets F.slot_list_clear ⟨_,e,rfl⟩ F.entry_list_clear (F.args_list_clear_1 _) (AutoSeq1.list_clear_list_0 l its.toArray n (by rw [List.size_toArray]; omega)) ⟨e,?_⟩
 exact ⟨.non,_,I.lset (its':=[]) (ys:=[]) hH e rfl .nil (Nat.zero_le _),rfl,q⟩
end
section
variable {prog:Program} {w:World} {A:Around} {E:Value->Shared->Prop} {s:Shared}
end
section
variable {X:Cx}
end
end L2
namespace L2
open PySem PySem.Spec PyProof.Rows
section
variable {κ : Type} [DecidableEq κ]
def valV (kvs:List (κ×V)) (k : κ):Option V:=(kvs.find? fun kv=>decide (kv.1=k)).map (·.2)
def putK (kvs:List (κ×V)) (k : κ) (v:V):List (κ×V) :=
 if (kvs.any fun kv=>decide (kv.1=k))=true then kvs.map (fun kv=>if kv.1=k then (kv.1,v) else kv) else kvs++[(k,v)]
def dropK (kvs:List (κ×V)) (k : κ):List (κ×V):=kvs.filter fun kv=>decide (kv.1≠k)
theorem valV_pos {p : κ×V} {r:List (κ×V)} {k : κ} (e:p.1=k):valV (p::r) k=some p.2:=by simp [valV,List.find?_cons,e]
theorem valV_neg {p : κ×V} {r:List (κ×V)} {k : κ} (e : ¬ p.1=k):valV (p::r) k=valV r k:=by simp [valV,List.find?_cons,e]
theorem RelO.getD {o:Option V} {u:Option Value} {d:V} {d':Value} (r:RelO o u) (rd:RelV d d'):RelV (o.getD d) (u.getD d'):=by
 cases o with
 | none => cases u with
   | none=>exact rd
   | some _=>exact (show False from r).elim
 | some _ => cases u with
   | none=>exact (show False from r).elim
   | some _=>exact r
theorem KV.val {kvs:List (κ×V)} {vs:List (κ×Value)} (r:KV kvs vs) (k : κ):RelO (valV kvs k) (valueAt vs k):=by
 unfold KV at r
 induction r with
 | nil=>exact True.intro
 | @cons p q ps qs h t ih =>
   obtain ⟨h1,h2⟩:=h
   by_cases e:p.1=k
   · have e' : q.1 = k := h1.symm.trans e
     have b:valueAt (q::qs) k=some q.2:=by simp [valueAt,List.find?_cons,e']
     rw [valV_pos e,b]; exact h2
   · have e' : ¬ q.1 = k := fun z => e (h1.trans z)
     have b:valueAt (q::qs) k=valueAt qs k:=by simp [valueAt,List.find?_cons,e']
     rw [valV_neg e,b]; exact ih
theorem KV.any {kvs:List (κ×V)} {vs:List (κ×Value)} (r:KV kvs vs) (k : κ):(kvs.any fun kv=>decide (kv.1=k))=vs.any fun kv=>decide (kv.1=k):=by
 unfold KV at r
 induction r with
 | nil=>rfl
 | cons h t ih=>rw [List.any_cons,List.any_cons,ih,h.1]
theorem KV.drop {kvs:List (κ×V)} {vs:List (κ×Value)} (r:KV kvs vs) (k : κ):KV (dropK kvs k) (without vs k):=by
 unfold KV at r ⊢
 unfold dropK without
 induction r with
 | nil=>exact .nil
 | @cons p q ps qs h t ih =>
   obtain ⟨h1,h2⟩:=h
   rw [List.filter_cons,List.filter_cons]
   by_cases e:p.1=k
   · have a : ¬ decide (p.1 ≠ k) = true := by simp [e]
     have b : ¬ decide (q.1≠k)=true:=by simp [h1.symm.trans e]
     rw [if_neg a,if_neg b]; exact ih
   · have e' : ¬ q.1 = k := fun z => e (h1.trans z)
     have a:decide (p.1≠k)=true:=by simp [e]
     have b:decide (q.1≠k)=true:=by simp [e']
     rw [if_pos a,if_pos b]; exact .cons ⟨h1,h2⟩ ih
theorem KV.length {kvs:List (κ×V)} {vs:List (κ×Value)} (r:KV kvs vs):kvs.length=vs.length:=Paired.length r
end
abbrev KT (H:Hp):List (List Key×V)->List (List Key×Addr×Value)->Prop:=Paired fun p q=>p.1=q.1/\H q.2.1=some (.tup (p.1.map kV))/\RelV p.2 q.2.2
theorem KT.val {H:Hp} {kvs:List (List Key×V)} {xs:List (List Key×Addr×Value)} (r:KT H kvs xs) (k:List Key):RelO (valV kvs k) ((atKey xs k).map (·.2)):=by
 induction r with
 | nil=>exact True.intro
 | @cons p q ps qs h t ih =>
   obtain ⟨h1,_,h2⟩:=h
   by_cases e:p.1=k
   · have e' : q.1 = k := h1.symm.trans e
     have b:atKey (q::qs) k=some q.2:=by simp [atKey,List.find?_cons,e']
     rw [valV_pos e,b]; exact h2
   · have e' : ¬ q.1 = k := fun z => e (h1.trans z)
     have b:atKey (q::qs) k=atKey qs k:=by simp [atKey,List.find?_cons,e']
     rw [valV_neg e,b]; exact ih
section
variable {P:Program} {w:World} {H:Hp} {h:Heap} {a:Addr}
end
def DGet (H:Hp) (a:Addr) (y:V) (r:Option V):Prop :=
 (∃ kvs k,Rd H a (.dK kvs)/\y=kV k/\r=valV kvs k) \/ ∃ kvs k b,Rd H a (.dT kvs)/\y = .ref b/\H b=some (.tup (k.map kV))/\r=valV kvs k
def DPut (H:Hp) (a:Addr) (y v:V) (H':Hp):Prop :=
 (∃ kvs k,H a=some (.dK kvs)/\y=kV k/\kvs.length < sizeLine/\H'=upd H a (.dK (putK kvs k v))) ∨
 ∃ kvs k b,H a=some (.dT kvs)/\y = .ref b/\H b=some (.tup (k.map kV))/\kvs.length < sizeLine/\H'=upd H a (.dT (putK kvs k v))
theorem DGet.t {H:Hp} {a b:Addr} {kvs:List (List Key×V)} {k:List Key} (e:H a=some (.dT kvs)) (eb:H b=some (.tup (k.map kV))):DGet H a (.ref b) (valV kvs k):=.inr ⟨kvs,k,b,.inl e,rfl,eb,rfl⟩
theorem DPut.t {H:Hp} {a b:Addr} {kvs:List (List Key×V)} {k:List Key} {v:V} (e:H a=some (.dT kvs)) (eb:H b=some (.tup (k.map kV))) (hl:kvs.length < sizeLine) :
  DPut H a (.ref b) v (upd H a (.dT (putK kvs k v))):=.inr ⟨kvs,k,b,e,rfl,eb,hl,rfl⟩
section
variable {X:Cx} {pins:List (Addr×Obj)} {σ : St} {H:Hp} {s:Shared} {a:Addr} {y v:V} {u r:Value} {o:Option V} {A:Around} {E:Value->Shared->Prop}
end
section
variable {X:Cx} {pins:List (Addr×Obj)} {σ : St} {H:Hp} {s:Shared} {a:Addr} {kvs:List (Key×V)} {k:Key} {u:Value} {A:Around} {E:Value->Shared->Prop}
end
section
variable {X:Cx} {o i e value:Expr} {pos pos' tpos:Pos} {td ty tv:TE}
end
section
variable {X:Cx} {pos:Pos}
end
section
variable {X:Cx} {pins:List (Addr×Obj)} {σ : St} {H:Hp} {s:Shared} {a:Addr} {y d:V} {u r:Value} {o:Option V} {A:Around} {E:Value->Shared->Prop}
end
section
variable {X:Cx} {o e f:Expr} {apos cpos:Pos} {td ty tx:TE}
end
section
variable {X:Cx} {pins:List (Addr×Obj)} {σ : St} {H:Hp} {s:Shared} {a:Addr} {kvs:List (Key×V)} {A:Around} {E:Value->Shared->Prop}
end
section
variable {X:Cx} {pins:List (Addr×Obj)} {σ : St} {H:Hp} {s:Shared} {a:Addr} {y:V} {u:Value} {A:Around} {E:Value->Shared->Prop}
end
end L2
namespace Att
open PySem PySem.W PySem.Calls PyProof.Rows
theorem ints_of_wellAll {P:Params} {h:Heap} : ∀ (ns:List Int) (vs:List Value),WellAll P h vs (ns.map WData.int)->IntsAre vs ns:=by
 intro ns
 induction ns with
 | nil =>
   intro vs w
   rw [List.map_nil] at w
   cases w
   exact .nil
 | cons n ns ih =>
   intro vs w
   rw [List.map_cons] at w
   cases w with
   | cons a b =>
     cases a
     exact .cons _ _ (ih _ b)
theorem script_of {l:OpenLaw} {n:Nat} (hn:l.most=some n) {P:Params} {h:Heap} {args:List WData} {vals:List Value}
  (hpre:l.row.toRowW.claim.pre args=true) (hwl:WellAll P h vals args) :
  ∃ a vs ns,vals=[Value.ref a]/\args=[WData.list (ns.map WData.int)]/\h.get? a=some { cls:=.type "list",data:=.seq vs.toArray }/\IntsAre vs ns/\ns.length<=n:=by
 have hsh:WShape.hasAll [] args [.list .int]=true:=(pre_splitW hpre).1
 have hc:l.pre.holds [] { args:=args } = true:=(pre_splitW hpre).2
 obtain ⟨d,r,rfl,h1,h2⟩:=hasAllW_cons hsh
 obtain rfl:=hasAllW_nil h2
 obtain ⟨xs,rfl,h3⟩:=hasW_list h1
 obtain ⟨ns,rfl⟩:=items_int h3
 have hlen:ns.length<=n:=by
  unfold OpenLaw.pre at hc
  have h4:(WTm.not (.lt (.lit (.int (n:Int))) (.len (.arg 0)))).holds [] { args:=[.list (ns.map .int)] } = true:=by
   have h4:=(holds_andW hc).1
   rw [hn] at h4
   exact h4
  have h5:=condW_of h4 (w_not (w_lt w_lit (w_len_list (w_arg rfl))))
  rw [List.length_map] at h5
  refine Nat.le_of_not_lt fun q=>?_
  have q':(n:Int) < ((ns.length:Nat):Int):=by omega
  first
   | (rw [decide_eq_true q'] at h5; exact absurd h5 (by decide))
   | (simp at h5; omega)
 cases hwl with
 | cons w1 w2 =>
   cases w2
   cases w1 with
   | list ho hall=>exact ⟨_,_,ns,rfl,rfl,ho,ints_of_wellAll ns _ hall,hlen⟩
theorem post_true (l:OpenLaw) (args:List WData):l.row.toRowW.claim.post args (.bool true) args=true :=
 postW_of (r:=l.row.toRowW) (X:=(true == true))
  (show WShape.has [] (.bool true) .bool=true by first | rfl | decide | simp [WShape.has,WShape.arms,WShape.armsAll])
  (show (WTm.eq .res (.lit (.bool true))).value [] { args:=args,res:=some (.bool true),after:=args } = some (.bool (true == true)) from w_eq_bool (w_res rfl) w_lit) rfl
section
variable {prog:Program} {w:World} {A:Around} {E:Value->Shared->Prop} {s:Shared} {K:Frag}
end
end Att
namespace L2
open PySem PySem.Spec PyProof.Rows
theorem vals_ints:∀ {vs:List Value} {ns:List Int},IntsAre vs ns->Vals (ns.map V.int) vs
 | _,_,.nil=>.nil
 | _,_,.cons n t h=>.cons ⟨t,rfl⟩ (vals_ints h)
end L2
namespace L2
open PySem PySem.Spec PyProof.Rows
def zY (s:Stmt):Arguments:=match s with
 | .FunctionDef _ a _ _ _ _ _ _ _ _=>a
 | _=>{ posonlyargs:=[],args:=[],vararg:=none,kwonlyargs:=[],kw_defaults:=[],kwarg:=none,defaults:=[] }
def zI (s:Stmt):List Stmt:=match s with
 | .FunctionDef _ _ b _ _ _ _ _ _ _=>b
 | _=>[]
def zB (s:Stmt):Scope:=match s with
 | .FunctionDef _ _ _ _ _ _ sc _ _ _=>sc
 | _=>{ kind:=.function,names:=[],isGenerator:=false,isCoroutine:=false }
abbrev CX0:CXT:=fun _ _ _ _ _ _=>False
abbrev E0:XK:=fun _ _ _=>False
theorem pass0 {X:Cx} : Passes CX0 X E0:=fun _ _ _ _ _ _ _ h=>h.elim
structure Fun (K:PySem.W.Frag) (x qual:Str) (st:Stmt) (f:Addr) (fd:FuncData):Prop where
 ex:∃ (oc:Value) (od:Option Addr) (kV doc pm:Value) (an:Option Addr) (cdv ct:Value) (osl:Array (Option Value)),
  fd=PySem.W.fnOf x qual (zY st) (zI st) (zB st) .none kV doc pm an cdv ct/\K.lookup f=some ⟨oc,od,.func fd,osl⟩/\PySem.W.codeIn K cdv qual=true
 kp:PySem.W.keepIn K (.ref f)=true
section
variable {P:Program} {w:World} {K:PySem.W.Frag} {mg:Str->Option Value} {base:Heap}
theorem Fun.ok {x qual:Str} {st:Stmt} {f:Addr} {fd:FuncData} {N ps:List Str} {k:Nat} {sp:Sp} (F:Fun K x qual st f fd) (S:FnScope N ps (zB st)) (len:∀ vs H Q E,sp vs H Q E->vs.length=ps.length)
  (hbody:∀ (cdv:Value) (A:Around) (outer:List Env) (s:Shared) (H:Hp) (vs:List V) (Q:VK) (E:XK),Room k (A.deeper (envOfC qual (zB st) s.heap.objs.size f cdv))->sp vs H Q E →
    ∃ t,PSs (cxOf CX0 P w K mg base N qual (zB st) f cdv A outer s H E).nox (zI st) t/\t { nx:=fun _ H'=>Q .non H',rt:=Q } (start N vs) H):FnOk P w K mg base CX0 (k+1) f fd ps sp:=by
 obtain ⟨oc,od,kV,doc,pm,an,cdv,ct,osl,rfl,lk,hcd⟩:=F.ex
 refine fn_of lk hcd S len fun A outer s H vs Q E hr hsp=>?_
 obtain ⟨t,h,q⟩:=hbody cdv A outer s H vs Q E hr hsp
 exact ⟨t,h.nox,q⟩
theorem Fun.binds {x qual:Str} {st:Stmt} {f:Addr} {fd:FuncData} {ps:List Str} (F:Fun K x qual st f fd)
  (h:∀ (kV doc pm:Value) (an:Option Addr) (cdv ct:Value) (us:List Value),us.length=ps.length->bindArgs (PySem.W.fnOf x qual (zY st) (zI st) (zB st) .none kV doc pm an cdv ct) ⟨us,[]⟩=pure (ps.zip us)):Binds K fd ps []:=by
 obtain ⟨oc,od,kV,doc,pm,an,cdv,ct,osl,rfl,lk,hcd⟩:=F.ex
 exact .all (h kV doc pm an cdv ct)
theorem qQ {x qual:Str} {st:Stmt} {f:Addr} {oc:Value} {od an:Option Addr} {osl:Array (Option Value)} {kV doc pm cdv ct:Value} (l:K.lookup f=some ⟨oc,od,.func (PySem.W.fnOf x qual (zY st) (zI st) (zB st) .none kV doc pm an cdv ct),osl⟩)
  (c:PySem.W.codeIn K cdv qual=true) (k:PySem.W.keepIn K (.ref f)=true):Fun K x qual st f (PySem.W.fnOf x qual (zY st) (zI st) (zB st) .none kV doc pm an cdv ct):=⟨⟨oc,od,kV,doc,pm,an,cdv,ct,osl,rfl,l,c⟩,k⟩
end
section
variable {X:Cx}
end
theorem iteF {A B:Prop} (h:B):if false=true then A else B:=by
 rw [if_neg Bool.false_ne_true]
 exact h
theorem iteT {A B:Prop} (h:A):if true=true then A else B:=by
 rw [if_pos rfl]
 exact h
def Same (H H':Hp):Prop:=∀ b o,H b=some o->H' b=some o
theorem Same.refl (H:Hp):Same H H:=fun _ _ h=>h
theorem Same.trans {H H1 H2:Hp} (a:Same H H1) (b:Same H1 H2):Same H H2:=fun c o h=>b c o (a c o h)
theorem Same.free {H H':Hp} (e:Same H H') {l:Addr} (h:H' l=Option.none):H l=Option.none:=by
 cases q:H l with
 | none=>rfl
 | some o =>
   rw [e l o q] at h
   cases h
end L2
namespace L2
open PySem PySem.Spec PyProof.Rows
section
variable {X:Cx}
end
section
variable {κ : Type} [DecidableEq κ]
end
end L2
namespace L2
open PySem PySem.Spec PyProof.Rows
def yK (env:Env):List (Str×NameKind)->List (Str×Addr)->List (Str×Addr)
 | [],cs=>cs
 | (n,k)::r,cs=>yK env r (if k == NameKind.free then (match env.cells.lookup n with | some c=>(n,c)::cs | none=>cs) else cs)
theorem yS {scope:Scope} {env:Env} (h:∀ y∈scope.names,y.2=NameKind.free->∃ c,env.cells.lookup y.1=some c):closureFor scope env=pure (yK env scope.names []):=by
 simp only [closureFor]
 generalize ([]:List (Str×Addr))=cs
 revert h cs
 generalize scope.names=l
 intro h
 induction l with
 | nil=>intro cs; rfl
 | cons y r ih =>
   intro cs
   obtain ⟨n,k⟩:=y
   have ihr:=ih fun z hz=>h z (List.mem_cons_of_mem _ hz)
   simp only [List.forIn_cons,yK]
   by_cases hk:k=NameKind.free
   · obtain ⟨c, hc⟩ := h (n, k) List.mem_cons_self hk
     have hc':env.cells.lookup n=some c:=hc
     have hcell:cellOf env n=pure c:=by unfold cellOf; rw [hc']
     subst hk
     simp only [hcell,hc',beq_self_eq_true,if_true,pure_bind,bind_pure_comp,map_pure,bind_assoc]
     first
      | exact ihr _
      | simpa using ihr _
   · have hb : (k == NameKind.free) = false := by simpa using hk
     simp only [hb,Bool.false_eq_true,if_false,pure_bind]
     first
      | exact ihr _
      | simpa using ihr _
theorem closL_from {env:Env} : ∀ (l:List (Str×NameKind)) (cs:List (Str×Addr)),(∀ x c,cs.lookup x=some c->env.cells.lookup x=some c)->∀ x c,(yK env l cs).lookup x=some c->env.cells.lookup x=some c
 | [],_,h=>h
 | (n, k) :: r, cs, h => by
   unfold yK
   refine closL_from r _ fun x c e=>?_
   split at e
   · cases hc : env.cells.lookup n with
     | none=>rw [hc] at e; exact h x c e
     | some c' =>
       rw [hc] at e
       simp only [List.lookup_cons] at e
       by_cases hx:x == n
       · rw [hx] at e
         cases e
         rw [beq_iff_eq] at hx
         rw [hx]
         exact hc
       · have hx' : (x == n) = false := by simpa using hx
         rw [hx'] at e
         exact h x c e
   · exact h x c e
theorem closL_keep {env:Env} : ∀ (l:List (Str×NameKind)) (cs:List (Str×Addr)) (x:Str),(∃ c,cs.lookup x=some c)->∃ c,(yK env l cs).lookup x=some c
 | [],_,_,h=>h
 | (n, k) :: r, cs, x, h => by
   unfold yK
   refine closL_keep r _ x ?_
   split
   · cases hc : env.cells.lookup n with
     | none=>exact h
     | some c' =>
       simp only [List.lookup_cons]
       by_cases hx:x == n
       · rw [hx]; exact ⟨_,rfl⟩
       · have hx' : (x == n) = false := by simpa using hx
         rw [hx']; exact h
   · exact h
theorem vM {env:Env} : ∀ (l:List (Str×NameKind)) (cs:List (Str×Addr)) (x:Str) (c:Addr),(x,NameKind.free)∈l->env.cells.lookup x=some c->∃ c,(yK env l cs).lookup x=some c
 | [],_,_,_,h,_=>nomatch h
 | (n, k) :: r, cs, x, c, h, hc => by
   unfold yK
   rcases List.mem_cons.mp h with e | e
   · cases e
     refine closL_keep r _ _ ?_
     simp only [beq_self_eq_true,if_true,hc,List.lookup_cons]
     exact ⟨_,rfl⟩
   · exact vM r _ x c e hc
theorem lookup_relabel_free {env:Env} : ∀ {names:List (Str×NameKind)} {x:Str},names.lookup x=some NameKind.free →
  (names.map fun (n,k)=>if (k == NameKind.free && env.scope.kind == .function && env.kindOf n == some .cell) then (n,NameKind.cell) else (n,k)).lookup x=some NameKind.cell ∨
  (names.map fun (n,k)=>if (k == NameKind.free && env.scope.kind == .function && env.kindOf n == some .cell) then (n,NameKind.cell) else (n,k)).lookup x=some NameKind.free
 | [],_,h=>by simp at h
 | (n, k) :: r, x, h => by
   have ih:=@lookup_relabel_free env r x
   simp only [List.map_cons]
   cases hx:x == n with
   | true =>
     simp only [List.lookup_cons,hx] at h
     cases h
     by_cases hc:(NameKind.free == NameKind.free && env.scope.kind == .function && env.kindOf n == some .cell)=true
     · rw [if_pos hc]; left; simp only [List.lookup_cons,hx]
     · rw [if_neg hc]; right; simp only [List.lookup_cons,hx]
   | false =>
     simp only [List.lookup_cons,hx] at h
     by_cases hc:(k == NameKind.free && env.scope.kind == .function && env.kindOf n == some .cell)=true
     · rw [if_pos hc]; simp only [List.lookup_cons,hx]; exact ih h
     · rw [if_neg hc]; simp only [List.lookup_cons,hx]; exact ih h
theorem wD {env:Env} : ∀ {names:List (Str×NameKind)} {x:Str} {k':NameKind},(∀ y∈names,y.2≠NameKind.cell) →
  (names.map fun (n,k)=>if (k == NameKind.free && env.scope.kind == .function && env.kindOf n == some .cell) then (n,NameKind.cell) else (n,k)).lookup x=some k'->(k'=NameKind.cell \/ k'=NameKind.free)->(x,NameKind.free)∈names
 | [],_,_,_,h,_=>by simp at h
 | (n, k) :: r, x, k', hn, h, hk => by
   have ih:=@wD env r x k' fun y hy=>hn y (List.mem_cons_of_mem _ hy)
   simp only [List.map_cons] at h
   cases hx:x == n with
   | true =>
     have ex:x=n:=by simpa using hx
     by_cases hc:(k == NameKind.free && env.scope.kind == .function && env.kindOf n == some .cell)=true
     · have:k=NameKind.free:=by
        simp only [Bool.and_eq_true,beq_iff_eq] at hc
        exact hc.1.1
       subst this; subst ex
       exact List.mem_cons_self
     · rw [if_neg hc] at h
       simp only [List.lookup_cons,hx] at h
       cases h
       rcases hk with hk | hk
       · exact absurd hk (hn (n,k) List.mem_cons_self)
       · subst hk; subst ex; exact List.mem_cons_self
   | false =>
     by_cases hc:(k == NameKind.free && env.scope.kind == .function && env.kindOf n == some .cell)=true
     · rw [if_pos hc] at h; simp only [List.lookup_cons,hx] at h; exact List.mem_cons_of_mem _ (ih h hk)
     · rw [if_neg hc] at h; simp only [List.lookup_cons,hx] at h; exact List.mem_cons_of_mem _ (ih h hk)
section
variable {X:Cx}
structure CI where
 C:Addr
 s:Shared
 H:Hp
 ex:List Addr
def yH (X:Cx) (scope:Scope) (NY:List Str) (c:CI):Cx where
 prog:=X.prog
 w:=X.w
 K:=X.K
 mg:=X.mg
 base:=X.base
 A:=X.A
 N:=NY
 s₀:=c.s
 H₀:=c.H
 env:=compEnvC scope (yK X.env scope.names []) c.C X.env
 outer:=X.stack
 stack:=X.stack
 ex:=c.ex
 fn:=fun _=>false
 calm:=X.calm
 pn:=[]
 xe:=fun _ _=>False
theorem Inv.adopt {pins:List (Addr×Obj)} {σ : St} {H:Hp} {s:Shared} {a:Addr} {o:HO} (I:Inv X pins σ H s) (hn:H a=none) (young:X.s₀.heap.objs.size<=a) (hL:a≠X.env.locals)
  (hc:∀ x c,X.env.cells.lookup x=some c->c≠a) (hp:∀ p∈X.pn++pins,p.1≠a) (new:ObjOk X.prog X.w (upd H a o) s.heap a o):Inv X pins σ (upd H a o) s:=by
 have ne:∀ {b:Addr} {u:HO},H b=some u->b≠a:=fun e z=>by rw [z,hn] at e; cases e
 refine ⟨I.ok,I.os,I.bare,⟨I.base.keep,I.base.slot,fun b ob q n hx=>?_,I.base.there,fun b xs q=>?_,fun b ob u q=>?_,fun b ps q=>?_⟩,I.loc,I.cell,?_,fun x c e=>?_,fun p hpm=>?_,fun b u e=>?_,I.len⟩
 · rw [qA (Nat.ne_of_lt (Nat.lt_of_lt_of_le (Heap.lt_size q) young))]
   exact I.base.free b ob q n hx
 · have := I.base.tups b xs q
   rw [qA (ne this)]; exact this
 · have := I.base.frzs b ob u q
   rw [qA (ne this)]; exact this
 · have := I.base.tbls b ps q
   rw [qA (ne this)]; exact this
 · rw [qA (Ne.symm hL)]; exact I.free
 · have := I.freeC x c e
   unfold FreeC at this ⊢
   rw [qA (hc x c e)]; exact this
 · obtain ⟨h1, h2, h3⟩ := I.pin p hpm
   exact ⟨h1,by rw [qA (hp p hpm)]; exact h2,h3⟩
 · by_cases hb : b = a
   · subst hb; rw [qK] at e; cases e; exact new
   · rw [qA hb] at e
     exact (I.hok b u e).stay (fun c v _ q=>q) (fun c q=>by rw [qA (ne q)]; exact q) fun c xs q=>by rw [qA (ne q)]; exact q
def PF (X:Cx) (ifs:List Expr) (t:TT):Prop :=
 ∀ (pins:List (Addr×Obj)) (s:Shared) (σ : St) (H:Hp) (Q:Bool->Hp->Prop),Inv X pins σ H s->t σ H Q →
  wpAny (model X.prog X.w) X.A (forIn ifs true fun c r=>if r=true then do let ok <- isTrue c X.env (eval c X.env); pure (ForInStep.yield ok) else pure (ForInStep.yield r)) (TP X pins σ Q) X.xe s
def tNoIf:TT:=fun _ H Q=>Q true H
theorem pf_nil:PF X [] tNoIf:=fun _ _ _ H _ I h=>wpAny_tests_nil ⟨H,I,h⟩
theorem pf_one {c:Expr} {t:TT} (h:PT X c t):PF X [c] t:=fun pins s σ H Q I q=>wpAny_tests_one (h pins s σ H Q I q)
def slotsY (mp:List (Option Nat)) (σ : St):St:=mp.map fun o=>o.bind fun j=>σ[j]?.join
def tCompK (J:It) (mp:List (Option Nat)) (g:CI->TG) (tt:CI->TT) (te:CI->TE) (σ : St) (H1:Hp) (R:List V->Hp->Prop):Prop :=
 ∀ c:CI,∃ W:Nat->Nat->List V->Hp->Prop,(∃ m,W 0 m [] H1)/\∀ i m ys H,W i m ys H →
  (J.stop i H/\R ys H) ∨
  (J.go i H/\ys.length < sizeLine/\∀ x H',J.yld i H x H'->g c x (slotsY mp σ) H' fun σ2 H2=>tt c σ2 H2 fun b H3 =>
    if b=true then te c σ2 H3 fun y H4=>∃ m',m' < m/\W (i+1) m' (ys++[y]) H4 else ∃ m',m' < m/\W (i+1) m' ys H3)
def tComp (wi:TI) (mp:List (Option Nat)) (g:CI->TG) (tt:CI->TT) (te:CI->TE):TE:=fun σ H Q=>wi σ H fun J H1 =>
 tCompK J mp g tt te σ H1 fun ys H'=>ys.length<=sizeLine/\∀ p,H' p=none->Q (.ref p) (upd H' p (.lst ys))
structure CompScope (X:Cx) (scope:Scope) (NY:List Str) (mp:List (Option Nat)):Prop where
 kind:scope.kind = .function
 nocell:∀ y∈scope.names,y.2≠.cell
 names:∀ y∈scope.names,y.2 = .local->scope.names.lookup y.1=some .local
 free:∀ y∈scope.names,y.2 = .free->(X.env.kindOf y.1=some .cell \/ X.env.kindOf y.1=some .free)
 len:mp.length=NY.length
 map:∀ (i:Nat) (x:Str) (j:Nat),NY[i]? = some x->mp[i]? = some (some j)->X.N[j]? = some x/\scope.names.lookup x=some .free
theorem compLoop_own {prog:Program} {w:World} {A:Around} {R:Result->Shared->Prop} {s:Shared} {elt target iter:Expr} {ifs:List Expr} {scope:Scope} {pos:Pos} {it acc:Value} {env:Env} (I:Nat->Shared->Prop)
  (turn:∀ n s,I n s->wpAny (model prog w) A (pyNext it) (fun r s₁=>match r with
    | none=>R (.ok .next) s₁
    | some v=>wpAny (model prog w) A (letOwnedTupleGo target it v) (fun _ s₁'=>wpAny (model prog w) A (assign target env v) (fun _ s₂ =>
       wpAny (model prog w) A (forIn ifs true fun c r=>if r=true then do let ok <- isTrue c env (eval c env); pure (ForInStep.yield ok) else pure (ForInStep.yield r)) (fun ok s₃ =>
        if ok=true then wpAny (model prog w) A (eval elt env) (fun x s₄ =>
         wpAny (model prog w) A (call (.builtin "list.append") [acc,x]) (fun _ s₅=>∃ m,m < n/\I m s₅) (fun _ _=>False) s₄) (fun _ _=>False) s₃
        else ∃ m,m < n/\I m s₃) (fun _ _=>False) s₂) (fun _ _=>False) s₁') (fun _ _=>False) s₁) (fun _ _=>False) s)
  (n:Nat) (h:I n s) :
  codeAny (model prog w) A (.compLoop (.ListComp elt [⟨target,iter,ifs,0⟩] scope pos) 0 it acc env) R s:=by
 refine codeAny_loop rfl I (fun n s hI=>?_) n h
 show wpAny _ A ((compTurn (.ListComp elt [⟨target,iter,ifs,0⟩] scope pos) 0 it acc env).onRaise (fun x=>do noteFrame x env; theTreesLotGoes x)) _ _ s
 refine wpAny_noted ?_
 rw [compTurn_list]
 refine wpAny_bind (wpAny_standAt (wpAny_bind (wpAny_mono (turn n s hI) (fun r s₁ h₁=>?_) fun _ _ h'=>h'.elim)))
 cases r with
 | none=>exact wpAny_pure h₁
 | some v =>
   refine wpAny_bind (wpAny_mono h₁ (fun _ s₁' h₁'=>?_) fun _ _ h'=>h'.elim)
   refine wpAny_bind (wpAny_mono h₁' (fun _ s₂ h₂=>wpAny_bind (wpAny_mono h₂ (fun ok s₃ h₃=>?_) fun _ _ h'=>h'.elim)) fun _ _ h'=>h'.elim)
   cases ok with
   | false=>exact wpAny_pure ⟨rfl,h₃⟩
   | true =>
     exact wpAny_bind (wpAny_bind (wpAny_mono h₃ (fun x s₄ h₄=>wpAny_bind (wpAny_mono h₄ (fun _ s₅ h₅=>wpAny_pure (wpAny_pure ⟨rfl,h₅⟩)) fun _ _ h'=>h'.elim)) fun _ _ h'=>h'.elim))
theorem comp_block {E:Value->Shared->Prop} {scope:Scope} {NY:List Str} {mp:List (Option Nat)} {tg iter elt:Expr} {ifs:List Expr} {pos:Pos} {g:CI->TG} {tt:CI->TT} {te:CI->TE} {pins:List (Addr×Obj)} {σ : St} {H:Hp} {s₂ : Shared}
  {J:It} {fp:List Addr} {it:Addr} {tn:Nat->Heap->Prop} {R:List V->Hp->Prop} {RR:Value->Addr->Result->Shared->Prop}
  (S:CompScope X scope NY mp) (hc:X.calm=true) (I:Inv X pins σ H s₂) (T:Turn X.prog X.w X.K tg J fp it tn) (st:tn 0 s₂.heap) (hf:∀ b∈fp,FpOk X pins H b)
  (hg:∀ c,PG (yH X scope NY c) tg (g c)) (ht:∀ c,PF (yH X scope NY c) ifs (tt c)) (he:∀ c,PE (yH X scope NY c) elt (te c))
  (h:tCompK J mp g tt te σ H R)
  (fin:∀ (s':Shared) (C:Addr) (m:Str->Option Value) (ys:List V) (H':Hp),R ys H'->H' s₂.heap.objs.size=none->H' C=none->C≠s₂.heap.objs.size->s'.heap.Ns C m →
    (ys.length<=sizeLine->Inv X pins σ (upd H' s₂.heap.objs.size (.lst ys)) s') →
    (C≠X.env.locals/\X.s₀.heap.objs.size<=C/\(∀ x c,X.env.cells.lookup x=some c->c≠C)/\∀ p∈X.pn++pins,p.1≠C)->RR (.ref s₂.heap.objs.size) C (.ok .next) s') :
  wpAny (model X.prog X.w) X.A (newList []) (fun acc s₃=>wpAny (model X.prog X.w) X.A (newFunctionEnv scope X.env.globals (yK X.env scope.names []) [] X.env.qual none .none (some X.env)) (fun cenv s₄ =>
   codeAny (model X.prog X.w) X.A (.compStart (.ListComp elt [⟨tg,iter,ifs,0⟩] scope pos) 0 (.ref it) acc { cenv with scope:=relabel scope X.env }) (RR acc cenv.locals) s₄) E s₃) E s₂:=by
 refine wpAny_newObj_type (wpAny_newFunctionEnv S.nocell (by intro y hy; simp at hy) (fun h₁ hns₁ hsb₁=>?_) S.kind)
 dsimp only at hns₁ hsb₁ ⊢
 generalize hH2:s₂.heap.push { cls:=.type "list",dict:=none,data:=.seq ([]:List Value).toArray } = H2 at hns₁ hsb₁ ⊢
 have hC:(H2.objs.size:Nat)=s₂.heap.objs.size+1:=by rw [<- hH2,Heap.size_push]
 generalize hDd:s₂.heap.objs.size=D at fin hC ⊢
 generalize hCC:H2.objs.size=C at hns₁ hsb₁ hC ⊢
 have hC:(C:Nat)=(D:Nat)+1:=hC
 have hDC:D≠C:=fun z=>absurd (z.trans hC) (Nat.ne_of_lt (Nat.lt_succ_self _))
 have ltC:∀ {b:Addr},b < D->b≠C:=fun {b} h=>Nat.ne_of_lt (Nat.lt_of_lt_of_eq (Nat.lt_succ_of_lt h) hC.symm)
 have ltD:∀ {b:Addr},b < D->b≠D:=fun {b} h=>Nat.ne_of_lt h
 have hlt:∀ {b:Addr} {o:Obj},s₂.heap.get? b=some o->(b:Nat) < D:=fun e=>hDd ▸ Heap.lt_size e
 have k2:∀ b o,s₂.heap.get? b=some o->H2.get? b=some o:=fun b o e=>hH2 ▸ Heap.get?_push_of_some _ e
 have k1:∀ b o,H2.get? b=some o->h₁.get? b=some o:=fun b o e=>by
  have hb:b < C:=hCC ▸ Heap.lt_size e
  exact hsb₁.extBut b o (Nat.ne_of_lt hb) (Heap.get?_push_of_some _ e)
 have fr:∀ a,D<=a->H a=none:=fun a ha=>I.hok.fresh (hDd ▸ ha)
 have accP:h₁.PlainList D #[]:=⟨_,k1 _ _ (by rw [<- hH2,<- hDd]; exact Heap.get?_push_size _ rfl)⟩
 have fpo:∀ b∈fp,(b:Nat) < D:=fun b hb=>let ⟨o,e,_⟩:=T.obj 0 _ st b hb; hlt e
 have clF:∀ x c,(yK X.env scope.names []).lookup x=some c->X.env.cells.lookup x=some c:=closL_from _ _ fun x c e=>nomatch e
 have cellLt:∀ x c,X.env.cells.lookup x=some c->(c:Nat) < D:=fun x c e=>by
  obtain ⟨v,o,ho,_⟩:=I.cell x c e
  exact hlt ho
 have locLt:(X.env.locals:Nat) < D:=hDd ▸ I.lt
 have stkLt:∀ b∈frs X.stack,(b:Nat) < D:=fun b hb=>by
  obtain ⟨_,o,ho,_⟩:=I.stack.mem hb
  exact hlt ho
 have fpStk:∀ b∈fp,b ∉ frs X.stack:=fun b hb z=>by
  obtain ⟨_,f1,f2,_⟩:=hf b hb
  rcases List.mem_cons.mp (I.stkSub b z) with q | q
  · exact f1 q
  · exact f2 q
 have pinLt:∀ p∈X.pn++pins,(p.1:Nat) < D:=fun p hp=>hlt (I.pin p hp).1
 have pinStk:∀ p∈X.pn++pins,p.1 ∉ frs X.stack:=fun p hp z=>by
  obtain ⟨_,_,f1,f2,_⟩:=I.pin p hp
  rcases List.mem_cons.mp (I.stkSub _ z) with q | q
  · exact f1 q
  · exact f2 q
 let Y:Cx:=yH X scope NY ⟨C,{ s₂ with heap:=H2 },H,D::fp⟩
 obtain ⟨W,⟨m0,w0⟩,turn⟩:=h ⟨C,{ s₂ with heap:=H2 },H,D::fp⟩
 have okY:Y.Ok:=by
  refine ⟨I.ok.mod,S.kind,I.ok.glob,I.ok.blt,Nat.le_of_eq hCC,fun x y c h1 h2=>I.ok.inj x y c (clF _ _ h1) (clF _ _ h2),fun x hx=>?_,fun x c hfn=>absurd hfn (by intro z; cases z),I.ok.hd,I.ok.frames,.inl rfl,fun b hb=>?_,fun b o e=>?_,?_,fun b o e=>?_,fun b hb=>?_,?_,I.stkFree⟩
  · have hx':(x,NameKind.free)∈scope.names:=by
     rcases hx with hx | hx
     · exact wD S.nocell hx (.inl rfl)
     · exact wD S.nocell hx (.inr rfl)
    obtain ⟨c,e⟩:=I.ok.has x (S.free _ hx' rfl)
    exact vM _ _ x c hx' e
  · rcases List.mem_cons.mp hb with z | z
    · subst z
      exact ⟨hDC,fun x c e q=>absurd (cellLt x c (clF x c e)) (by rw [q]; exact Nat.lt_irrefl _)⟩
    · have := fpo b z
      exact ⟨ltC this,fun x c e q=>(hf b z).2.2.2.2.1 x c (clF x c e) q⟩
  · have := I.bs b o e
    exact ⟨k2 b o this.1,this.2⟩
  · refine ⟨?_, I.tabsH⟩
    show (X.base.objs.size:Nat)<=H2.objs.size
    have h1:(X.base.objs.size:Nat)<=s₂.heap.objs.size:=Nat.le_trans I.ok.bsz.1 I.sz
    have h2:(H2.objs.size:Nat)=C:=hCC
    have h3:(s₂.heap.objs.size:Nat)=D:=hDd
    omega
  · have hb := I.bs b o e
    have hb':=hlt hb.1
    intro z
    rcases List.mem_cons.mp z with z | z
    · rw [z] at hb'; exact Nat.lt_irrefl _ hb'
    · rcases (hf b z).2.2.2.1 with q | q
      · exact I.ok.noex b o e q
      · exact absurd (Nat.lt_of_lt_of_le (Heap.lt_size (I.ok.bs b o e).1) q) (Nat.lt_irrefl _)
  · rcases List.mem_cons.mp hb with z | z
    · subst z
      exact fun q=>absurd (stkLt _ q) (Nat.lt_irrefl _)
    · exact fpStk b z
  · exact I.stack.of_keeps fun b o e _=>⟨o,k2 b o e,rfl⟩
 have capt:∀ (i:Nat) (x:Str) (v:V),NY[i]? = some x->(slotsY mp σ)[i]? = some (some v)->∃ u c,RelV v u/\(Y.env.kindOf x=some .cell \/ Y.env.kindOf x=some .free)/\Y.env.cells.lookup x=some c/\H2.IsCell c (some u)/\(H c=none \/ ∃ o u,H c=some (.frz o u))/\c ∉ D::fp:=by
  intro i x v e1 e2
  have e2':(mp[i]?.map fun o=>o.bind fun j=>σ[j]?.join)=some (some v):=by
   unfold slotsY at e2
   rwa [List.getElem?_map] at e2
  cases hm:mp[i]? with
  | none=>rw [hm] at e2'; cases e2'
  | some o =>
    rw [hm] at e2'
    cases o with
    | none=>simp at e2'
    | some j =>
      simp only [Option.map_some,Option.bind_some,Option.some.injEq] at e2'
      have e4 : σ[j]? = some (some v):=by
       cases hs : σ[j]? with
       | none=>rw [hs] at e2'; cases e2'
       | some q=>rw [hs] at e2'; simp at e2'; rw [e2']
      obtain ⟨hXj,hfr⟩:=S.map i x j e1 hm
      have hmem:(x,NameKind.free)∈scope.names:=PySem.mem_of_lookup hfr
      have hk:=S.free _ hmem rfl
      obtain ⟨m,hn,hl⟩:=I.loc
      obtain ⟨u,ru,l⟩:=hl j x v hXj e4 (hk.elim (fun z=>.inr (.inl z)) fun z=>.inr (.inr z))
      have hlook:∃ c,X.env.cells.lookup x=some c/\s₂.heap.IsCell c (some u):=by
       rcases l with ⟨kl,_⟩ | ⟨_,c,ec,hcell⟩
       · rcases hk with q | q
         · exact absurd (kl.symm.trans q) (by intro z; cases z)
         · exact absurd (kl.symm.trans q) (by intro z; cases z)
       · exact ⟨c,ec,hcell⟩
      obtain ⟨c,ec,oc,hoc,hocd⟩:=hlook
      obtain ⟨c',ec'⟩:=vM (env:=X.env) scope.names [] x c hmem ec
      have:c'=c:=Option.some.inj ((clF x c' ec').symm.trans ec)
      subst this
      refine ⟨u,c',ru,lookup_relabel_free hfr,ec',⟨oc,k2 _ _ hoc,hocd⟩,(I.freeC x c' ec).imp id And.right,fun z=>?_⟩
      rcases List.mem_cons.mp z with z | z
      · have:=cellLt x c' ec; rw [z] at this; exact Nat.lt_irrefl _ this
      · exact (hf c' z).2.2.2.2.1 x c' ec rfl
 have lenY:(slotsY mp σ).length=NY.length:=by
  unfold slotsY
  rw [List.length_map]
  exact S.len
 have I0:∀ tk,Inv Y [] (slotsY mp σ) H { s₂ with heap:=h₁,toks:=tk }:=by
  intro tk
  refine ⟨okY,rfl,I.bare,Un.kept k1,⟨_,hns₁,fun i x v e1 e2 e3=>?_⟩,fun x c e=>?_,fr C (by show (D:Nat)<=C; omega),fun x c e=>(I.freeC x c (clF x c e)).imp id fun z=>⟨rfl,z.2⟩,fun p hp=>absurd (show p∈([]:List (Addr×Obj)) from hp) (by simp),I.hok.kept fun b o e=>k1 b o (k2 b o e),lenY⟩
  · obtain ⟨u, c, ru, hk, ec, ⟨oc, hoc, hocd⟩, _⟩ := capt i x v e1 e2
    exact ⟨u,ru,.inr ⟨hk,c,ec,oc,k1 _ _ hoc,hocd⟩⟩
  · obtain ⟨v, o, ho, hd⟩ := I.cell x c (clF x c e)
    exact ⟨v,o,k1 _ _ (k2 _ _ ho),hd⟩
 have stat:∀ {H':Hp} {pl:List (Addr×Obj)},(∀ p∈pl,p.1 ∉ fp)->(∀ b∈fp,H' b=none)->∀ b∈fp,FpOk Y pl H' b:=fun hpl hn b hb=>by
  have hbD:=fpo b hb
  refine ⟨hn b hb,ltC hbD,fpStk b hb,.inl (List.mem_cons_of_mem _ hb),fun x c e=>(hf b hb).2.2.2.2.1 x c (clF x c e),fun p hp z=>hpl p (show p∈_ from hp) (z ▸ hb)⟩
 have dN:D ∉ Y.fs:=fun q=>absurd (stkLt _ q) (Nat.lt_irrefl _)
 have dFp:D ∉ fp:=fun q=>absurd (fpo _ q) (Nat.lt_irrefl _)
 have plD:∀ (o:Obj),∀ p∈[(D,o)],p.1 ∉ fp:=fun o p hp=>by
  have e:p=(D,o):=by simpa using hp
  rw [e]; exact dFp
 have keyC:∀ (tk:Nat) (it':Value),it' = .ref it->codeAny (model X.prog X.w) X.A (.compLoop (.ListComp elt [⟨tg,iter,ifs,0⟩] scope pos) 0 it' (.ref D) Y.env) (RR (.ref D) C) { s₂ with heap:=h₁,toks:=tk }:=by
  rintro tk _ rfl
  refine compLoop_own (fun n s'=>∃ i ys H' its,Inv Y [] (slotsY mp σ) H' s'/\tn i s'.heap/\(∀ b∈fp,H' b=none)/\H' D=none/\s'.heap.PlainList D its/\Vals ys its.toList/\W i n ys H') ?_ m0
   ⟨0,[],H,#[],I0 tk,T.keep 0 _ _ st fun b _ o e=>k1 b o (k2 b o e),fun b hb=>(hf b hb).1,fr D (Nat.le_refl _),accP,.nil,w0⟩
  rintro n s3 ⟨i,ys,H3,its,I3,st3,fr3,d3,⟨kk,pl3⟩,rv3,w3⟩
  have I3':Inv Y [(D,{ cls:=.type "list",data:=.seq its kk })] (slotsY mp σ) H3 s3:=I3.pins_of fun p hp=>by
   have e:p=(D,{ cls:=.type "list",data:=.seq its kk }):=by simpa using hp
   subst e
   exact ⟨pl3,d3,hDC,dN,fun v z=>nomatch (show Data.seq its kk=Data.cell v from z)⟩
  rcases turn i n ys H3 w3 with ⟨stop,qn⟩ | ⟨go,hsz,step⟩
  · refine thn (T.done Y rfl rfl rfl hc i _ s3 _ H3 _ I3' (stat (plD _) fr3) st3 stop) fun r s4 ⟨hr, I4⟩ => ?_
    subst hr
    have hD4:s4.heap.get? D=some { cls:=.type "list",data:=.seq its kk }:=(I4.pin (D,_) (by simp)).1
    have u:Un (frs X.stack) fp H H3 s₂.heap s4.heap:=by
     have B:Un (frs X.stack) (D::fp) H H3 H2 s4.heap:=I4.base
     have nx:∀ {b:Addr} {o:Obj},s₂.heap.get? b=some o->b ∉ fp->b ∉ D::fp:=fun e hb z=>by
      rcases List.mem_cons.mp z with z | z
      · have:=hlt e; rw [z] at this; exact Nat.lt_irrefl _ this
      · exact hb z
     exact ⟨fun b o q n hb hx=>B.keep b o (k2 b o q) n hb (nx q hx),fun b o q n hb hx=>B.slot b o (k2 b o q) n hb (nx q hx),fun b o q n hx=>B.free b o (k2 b o q) n (nx q hx),fun b o q hx=>B.there b o (k2 b o q) (nx q hx),B.tups,B.frzs,B.tbls⟩
    have J4:Inv X pins σ H3 s4:=I.call' I4.os u I4.hok I4.bare fun b hb=>⟨(hf b hb).2.2.2.1,(hf b hb).2.1,(hf b hb).2.2.2.2.1,(hf b hb).2.2.2.2.2⟩
    obtain ⟨m4,hn4,_⟩:=I4.loc
    refine fin s4 C m4 ys H3 qn d3 I4.free (Ne.symm hDC) hn4 (fun hz=>?_) ⟨(ltC locLt).symm,?_,fun x c e=>?_,fun p hp=>?_⟩
    · refine J4.adopt d3 ?_ (ltD locLt).symm (fun x c e => ?_) (fun p hp => ?_) ⟨hz, its.toList, kk, rv3, hD4⟩
      · exact hDd ▸ I.sz
      · exact ltD (cellLt x c e)
      · exact ltD (pinLt p hp)
    · have : (X.s₀.heap.objs.size : Nat) <= D := hDd ▸ I.sz
      show (X.s₀.heap.objs.size:Nat)<=C
      omega
    · exact ltC (cellLt x c e)
    · exact ltC (pinLt p hp)
  · refine thn (T.item Y rfl rfl rfl hc i _ s3 _ H3 _ I3' (stat (plD _) fr3) st3 go) fun r s4 ⟨u, hr, h4⟩ => ?_
    subst hr
    refine thn h4 fun _ s5 ⟨x,H5,I5,r5,y5,st5,fr5⟩=>?_
    have I5':=I5.pinned (stat (plD _) fr5) (T.obj _ _ st5)
    refine thn (hg _ _ s5 _ H5 x u _ I5' r5 (step x H5 y5)) fun _ s6 ⟨σ6,H6,I6,q6⟩=>?_
    refine thn (ht _ _ s6 σ6 H6 _ I6 q6) fun ok s7 ⟨H7,I7,q7⟩=>?_
    have back:∀ {s8:Shared} {σ8:St} {H8:Hp},Inv Y ([(D,{ cls:=.type "list",data:=.seq its kk })]++pinsAt fp s5.heap) σ8 H8 s8 →
      tn (i+1) s8.heap/\(∀ b∈fp,H8 b=none)/\H8 D=none/\s8.heap.get? D=some { cls:=.type "list",data:=.seq its kk }:=fun {s8 σ8 H8} I8=>by
     refine ⟨T.keep _ _ _ st5 fun b hb o e=>(I8.pin (b,o) (List.mem_append_right _ (List.mem_append_right _ (xH hb e)))).1,fun b hb=>?_,?_,?_⟩
     · obtain ⟨o, e, d⟩ := T.obj _ _ st5 b hb
       exact (I8.pin (b,o) (List.mem_append_right _ (List.mem_append_right _ (xH hb e)))).2.1
     · exact (I8.pin (D,_) (List.mem_append_right _ (List.mem_append_left _ (List.mem_singleton.mpr rfl)))).2.1
     · exact (I8.pin (D,_) (List.mem_append_right _ (List.mem_append_left _ (List.mem_singleton.mpr rfl)))).1
    have drop:∀ {s8:Shared} {σ8:St} {H8:Hp} {pl:List (Addr×Obj)},Inv Y pl σ8 H8 s8->Inv Y [] (slotsY mp σ) H8 s8:=fun {s8 σ8 H8 pl} I8=>by
     obtain ⟨m8,hn8,_⟩:=I8.loc
     refine ⟨I8.ok,I8.os,I8.bare,I8.base,⟨m8,hn8,fun i x v e1 e2 e3=>?_⟩,I8.cell,I8.free,I8.freeC,fun p hp=>absurd (show p∈([]:List (Addr×Obj)) from hp) (by simp),I8.hok,lenY⟩
     obtain ⟨u,c,ru,hk,ec,⟨oc,hoc,hocd⟩,hn,hx⟩:=capt i x v e1 e2
     rcases hn with hn | ⟨ob,ub,hn⟩
     · obtain ⟨sl, e⟩ := I8.base.any hoc hn hx
       exact ⟨u,ru,.inr ⟨hk,c,ec,_,e,hocd⟩⟩
     · obtain ⟨e1, _⟩ := I.hok c _ hn
       obtain ⟨e2,_⟩:=I8.hok c _ (I8.base.frzs c ob ub hn)
       have e3:=k2 _ _ e1
       rw [hoc] at e3; cases e3
       exact ⟨u,ru,.inr ⟨hk,c,ec,oc,e2,hocd⟩⟩
    cases ok with
    | false =>
      obtain ⟨m',hm',w'⟩:=q7
      obtain ⟨b1,b2,b3,b4⟩:=back I7
      exact ⟨m',hm',i+1,ys,H7,its,drop I7,b1,b2,b3,⟨kk,b4⟩,rv3,w'⟩
    | true =>
      refine thn (he _ _ s7 σ6 H7 _ I7 q7) fun y s8 ⟨yv,H8,I8,r8,q8⟩=>?_
      obtain ⟨b1,b2,b3,b4⟩:=back I8
      have hl:ys.length=its.size:=by simpa using rv3.length
      refine wpAny_list_append_plain (items:=its) ⟨kk,b4⟩ (fun h' pl' sb=>?_) (by omega)
      obtain ⟨m',hm',w'⟩:=q8
      have I9:Inv Y [] (slotsY mp σ) H8 { s8 with heap:=h' }:=(drop I8).turned (it:=D) (t':=s8.toks) (fun b o hb e=>(sb.2 b hb).trans e) b3 hDC (.inl List.mem_cons_self) (fun x c e=>ltD (cellLt x c (clF x c e))) fun p hp=>absurd (show p∈([]:List (Addr×Obj)) from hp) (by simp)
      refine ⟨m',hm',i+1,ys++[yv],H8,its.push y,I9,?_,b2,b3,pl',?_,w'⟩
      · exact T.keep _ _ _ b1 fun b hb o e=>(sb.2 b (fun z=>dFp (z ▸ hb))).trans e
      · rw [Array.toList_push]
        exact rv3.append (.cons r8 .nil)
 exact codeAny_compStart_list (keyC _ _ rfl) (T.self _ 0 _ _ _ (T.keep 0 _ _ st fun b _ o e=>k1 b o (k2 b o e)) (keyC _ _ rfl))
theorem pe_comp {scope:Scope} {NY:List Str} {mp:List (Option Nat)} {tg iter elt:Expr} {ifs:List Expr} {pos:Pos} {wi:TI} {g:CI->TG} {tt:CI->TT} {te:CI->TE}
  (S:CompScope X scope NY mp) (hc:X.calm=true) (hi:PI X tg iter wi)
  (hg:∀ c,PG (yH X scope NY c) tg (g c)) (ht:∀ c,PF (yH X scope NY c) ifs (tt c)) (he:∀ c,PE (yH X scope NY c) elt (te c))
  (hs:∀ x,foldedSetIterable iter X.env x=pure x:=by intro _; rfl):PE X (.ListComp elt [⟨tg,iter,ifs,0⟩] scope pos) (tComp wi mp g tt te):=by
 intro pins s σ H Q I h
 rw [eval_ListComp]
 refine wpAny_comprehension_free (use:=none) rfl hs (yS fun y hy hk=>I.ok.has y.1 (S.free y hy hk)) S.kind S.names (thn (hi pins s σ H _ I h) fun v s1 h1=>thn h1 fun itv s2 h2=>?_)
 obtain ⟨it,fp,tn,J,H2,e,I2,T,st2,f2,hk⟩:=h2
 subst e
 refine comp_block (RR:=fun acc C=>compPost (model X.prog X.w) X.A X.xe none (EP X pins σ Q) acc C) S hc I2 T st2 f2 hg ht he hk ?_
 intro s' C m ys H' q hD hC hCD hn hI hct
 refine ⟨m,hn,fun h' sb=>?_⟩
 have J':=hI q.1
 refine ⟨.ref s2.heap.objs.size,_,J'.turned (it:=C) (t':=s'.toks) (fun b o hb e=>(sb.2 b hb).trans e) (by rw [qA hCD]; exact hC) hct.1 (.inr hct.2.1) hct.2.2.1 hct.2.2.2,rfl,q.2 _ hD⟩
def tCompS (wi:TI) (mp:List (Option Nat)) (g:CI->TG) (tt:CI->TT) (te:CI->TE) (i:Nat):TS:=fun D σ H=>tComp wi mp g tt te σ H fun v H1=>D.nx (σ.set i (some v)) H1
theorem ps_comp {i:Nat} {y:Str} {py:Pos} {scope:Scope} {NY:List Str} {mp:List (Option Nat)} {tg iter elt:Expr} {ifs:List Expr} {pos spos:Pos} {wi:TI} {g:CI->TG} {tt:CI->TT} {te:CI->TE}
  (hN:X.N.Nodup) (hy:X.N[i]? = some y) (hl:X.env.scope.names.lookup y=some .local)
  (hsw:swapsWith (.ListComp elt [⟨tg,iter,ifs,0⟩] scope pos) (some (.Name y py)) spos.line X.env=pure true)
  (S:CompScope X scope NY mp) (hc:X.calm=true) (hi:PI X tg iter wi)
  (hg:∀ c,PG (yH X scope NY c) tg (g c)) (ht:∀ c,PF (yH X scope NY c) ifs (tt c)) (he:∀ c,PE (yH X scope NY c) elt (te c))
  (hs:∀ x,foldedSetIterable iter X.env x=pure x:=by intro _; rfl):PS X (.Assign [.Name y py] (.ListComp elt [⟨tg,iter,ifs,0⟩] scope pos) spos) (tCompS wi mp g tt te i):=by
 intro pins s σ H D I h
 rw [exec_Assign_Name_used _ _ _ _ hsw]
 refine wpAny_bind (wpAny_standAt (wpAny_bind ?_))
 show wpAny _ X.A (do let _ <- comprehension (.ListComp elt [⟨tg,iter,ifs,0⟩] scope pos) scope X.env _ (newList []) false (eval iter X.env) (some (assign (.Name y py) X.env))) _ _ s
 refine wpAny_bind (wpAny_mono (wpAny_comprehension_free (use:=some (assign (.Name y py) X.env)) (Q:=fun _ s'=>SP X pins D .next s') rfl hs (yS fun y hy hk=>I.ok.has y.1 (S.free y hy hk)) S.kind S.names
  (thn (hi pins s σ H _ I h) fun v s1 h1=>thn h1 fun itv s2 h2=>?_)) (fun _ s' hq=>wpAny_pure (wpAny_pure hq)) fun _ _ e=>e)
 obtain ⟨it,fp,tn,J,H2,e,I2,T,st2,f2,hk⟩:=h2
 subst e
 refine comp_block (RR:=fun acc C=>compPost (model X.prog X.w) X.A X.xe (some (assign (.Name y py) X.env)) (fun _ s'=>SP X pins D .next s') acc C) S hc I2 T st2 f2 hg ht he hk ?_
 intro s' C m ys H' q hD hC hCD hn hI hct
 have J':=hI q.1
 refine wpAny_assign_Name (store_ok2 J' hN hy (.inl hl) (v:=.ref s2.heap.objs.size) rfl (fun s'' I'' sb=>?_) (.inr hl))
 obtain ⟨a,sba,ha⟩:=sb
 have haC:C≠a:=by
  rcases ha with rfl | ha
  · exact hct.1
  · exact fun z=>hct.2.2.1 _ _ ha z.symm
 refine ⟨m,hn.sameBut sba haC,fun h' sb'=>?_⟩
 exact ⟨_,_,I''.turned (it:=C) (t':=s''.toks) (fun b o hb e=>(sb'.2 b hb).trans e) (by rw [qA hCD]; exact hC) hct.1 (.inr hct.2.1) hct.2.2.1 hct.2.2.2,q.2 _ hD⟩
end
end L2
namespace TS
open PySem PyProof.Rows
set_option autoImplicit false
def ky (p:Keyed):Int:=numOf p.1
def IsI (p:Keyed):Prop:=∃ n t,p.1 = .int n t
def Ch (xs ys:Array Keyed) (i j:Nat):Prop:=xs.Perm ys/\∀ k,(k < i \/ j<=k)->K xs k=K ys k
section
variable {prog:Program} {w:World} {A:Around} {E:Value->Shared->Prop} {s:Shared} {a₀ : Array Keyed}
end
end TS
namespace TS
open PySem PyProof.Rows
set_option autoImplicit false
def gallop':Bool->Keyed->Array Keyed->Nat->Nat->Nat->StateT SortSt Sem (Option Nat):=sortPriv% PySem.Builtin.gallop
section
variable {prog:Program} {w:World} {A:Around} {E:Value->Shared->Prop} {s:Shared}
variable {st:SortSt} {ask:Nat->StateT SortSt Sem (Option Bool)} {g:Nat->Bool} {n:Nat}
 (hask:∀ (i:Nat) (R:Option Bool->SortSt->Prop),i < n->R (some (g i)) st->wpS (model prog w) A E s (ask i) R st)
 (mono:∀ i j,i<=j->j < n->g j=true->g i=true)
include hask mono
end
section
variable {prog:Program} {w:World} {A:Around} {E:Value->Shared->Prop} {s:Shared} {st:SortSt}
end
end TS
namespace TS
open PySem PyProof.Rows
set_option autoImplicit false
def Sd (l:List Keyed):Prop:=l.Pairwise fun p q=>ky p<=ky q
theorem Sd.app {l r:List Keyed} : Sd (l++r)↔Sd l/\Sd r/\∀ p∈l,∀ q∈r,ky p<=ky q:=by
 unfold Sd; rw [List.pairwise_append]
structure Mg (a b:List Keyed) (o:List Keyed) (x y:Nat):Prop where
 xa:x<=a.length
 yb:y<=b.length
 pm:(o++(a.drop x++b.drop y)).Perm (a++b)
 sd:Sd o
 le:∀ p∈o,∀ q,(q∈a.drop x \/ q∈b.drop y)->ky p<=ky q
def Dn (a b:List Keyed) (r:List Keyed):Prop:=r.Perm (a++b)/\Sd r
theorem Mg.endF {a b o:List Keyed} {x y:Nat} (m:Mg a b o x y) (ha:Sd a) (hb:Sd b) (h:x=a.length \/ y=b.length):Dn a b (o++a.drop x++b.drop y):=by
 refine ⟨by rw [List.append_assoc]; exact m.pm,?_⟩
 rw [List.append_assoc]
 refine Sd.app.mpr ⟨m.sd,?_,fun p hp q hq=>m.le p hp q (List.mem_append.mp hq)⟩
 rcases h with h | h
 · rw [h,List.drop_length,List.nil_append]; exact List.Pairwise.sublist (List.drop_sublist ..) hb
 · rw [h,List.drop_length,List.append_nil]; exact List.Pairwise.sublist (List.drop_sublist ..) ha
def setMG (g:Nat):StateT SortSt Sem Unit:=(sortPriv% PySem.Builtin.setMinGallop) g
def fin (a b o:Array Keyed) (x y:Nat):Array Keyed:=o++a.extract x a.size++b.extract y b.size
structure Two (a b:Array Keyed):Prop where
 sa:Sd a.toList
 sb:Sd b.toList
 ia:∀ p∈a.toList,IsI p
 ib:∀ p∈b.toList,IsI p
 na:1<=a.size
 nb:1<=b.size
 fst:∀ p∈a.toList,∀ q,b.toList[0]? = some q->ky q<=ky p
 lst:∀ q∈b.toList,∀ p,a.toList[a.toList.length - 1]? = some p->ky q<=ky p
theorem fin_list (a b o:Array Keyed) (x y:Nat):(fin a b o x y).toList=o.toList++a.toList.drop x++b.toList.drop y:=by
 unfold fin
 simp only [Array.toList_append,Array.toList_extract,List.extract_eq_drop_take]
 congr 1
 · congr 1
   rw [List.take_of_length_le (by simp)]
 · rw [List.take_of_length_le (by simp)]
section
variable {prog:Program} {w:World} {A:Around} {E:Value->Shared->Prop} {s:Shared} {a b:Array Keyed}
structure In (a b o:Array Keyed) (x y:Nat):Prop where
 mg:Mg a.toList b.toList o.toList x y
 x1:x+1 < a.size
 y1:y < b.size
def Told (a b:Array Keyed) (r:Array Keyed):Prop:=Dn a.toList b.toList r.toList
theorem Mg.told {o:Array Keyed} {x y:Nat} (T:Two a b) (m:Mg a.toList b.toList o.toList x y) (h:x=a.size \/ y=b.size):Told a b (fin a b o x y):=by
 unfold Told; rw [fin_list]; exact m.endF T.sa T.sb (by simpa using h)
end
end TS
namespace TS
open PySem PyProof.Rows
set_option autoImplicit false
def fiH (a b o:Array Keyed) (x y:Nat):Array Keyed:=a.extract 0 x++b.extract 0 y++o.reverse
def fiB (a b o:Array Keyed) (x y:Nat):Array Keyed:=b.extract 0 y++a.extract 0 x++o.reverse
abbrev GH:=Option (Array Keyed)×Nat×Nat×Array Keyed×Nat×Nat×Nat
def hi3 (a b o:Array Keyed) (x y mg ca cb:Nat):StateT SortSt Sem (ForInStep GH):=do
 let p <- elem' a (x - 1)
 if (x - 1 == 0)=true then pure (ForInStep.done (some (fiH a b (o.push p) (x - 1) y),x - 1,y,o.push p,mg,ca,cb))
 else if (decide (ca < 7) && decide (cb < 7))=true then pure (ForInStep.done (none,x - 1,y,o.push p,mg,ca,cb))
 else pure (ForInStep.yield (none,x - 1,y,o.push p,mg,ca,cb))
def hi2 (a b o:Array Keyed) (x y mg ca cb:Nat):StateT SortSt Sem (ForInStep GH):=do
 let p <- elem' b (y - 1)
 if (y - 1 == 1)=true then pure (ForInStep.done (some (fiB a b (o.push p) x (y - 1)),x,y - 1,o.push p,mg,ca,cb))
 else do
  let q <- elem' a (x - 1)
  let r <- gallop' true q b 0 (y - 1) (y - 1 - 1)
  match r with
   | some t =>
     if y - 1 - t > 0 then
      if (t == 1)=true then pure (ForInStep.done (some (fiB a b (o.push p++(b.extract t (y - 1)).reverse) x t),x,t,o.push p++(b.extract t (y - 1)).reverse,mg,ca,y - 1 - t))
      else if (t == 0)=true then pure (ForInStep.done (some (fiH a b (o.push p++(b.extract t (y - 1)).reverse) x t),x,t,o.push p++(b.extract t (y - 1)).reverse,mg,ca,y - 1 - t))
      else hi3 a b (o.push p++(b.extract t (y - 1)).reverse) x t mg ca (y - 1 - t)
     else hi3 a b (o.push p) x (y - 1) mg ca (y - 1 - t)
   | _=>pure (ForInStep.done (some (fiH a b (o.push p) x (y - 1)),x,y - 1,o.push p,mg,ca,cb))
def hi1 (a b o:Array Keyed) (x y mg ca cb:Nat):StateT SortSt Sem (ForInStep GH):=do
 setMG mg
 let q <- elem' b (y - 1)
 let r <- gallop' false q a 0 x (x - 1)
 match r with
  | some t =>
    if x - t > 0 then
     if (t == 0)=true then pure (ForInStep.done (some (fiH a b (o++(a.extract t x).reverse) t y),t,y,o++(a.extract t x).reverse,mg,x - t,cb))
     else hi2 a b (o++(a.extract t x).reverse) t y mg (x - t) cb
    else hi2 a b o x y mg (x - t) cb
  | _=>pure (ForInStep.done (some (fiH a b o x y),x,y,o,mg,ca,cb))
structure Mh (a b:List Keyed) (o:List Keyed) (x y:Nat):Prop where
 xa:x<=a.length
 yb:y<=b.length
 pm:((a.take x++b.take y)++o.reverse).Perm (a++b)
 sd:Sd o.reverse
 le:∀ p∈o,∀ q,(q∈a.take x \/ q∈b.take y)->ky q<=ky p
theorem Mh.endF {a b o:List Keyed} {x y:Nat} (m:Mh a b o x y) (ha:Sd a) (hb:Sd b) (h:x=0 \/ y=0):Dn a b (a.take x++b.take y++o.reverse):=by
 refine ⟨m.pm,Sd.app.mpr ⟨?_,m.sd,fun q hq p hp=>m.le p (List.mem_reverse.mp hp) q (List.mem_append.mp hq)⟩⟩
 rcases h with h | h
 · rw [h,List.take_zero,List.nil_append]; exact List.Pairwise.sublist (List.take_sublist ..) hb
 · rw [h,List.take_zero,List.append_nil]; exact List.Pairwise.sublist (List.take_sublist ..) ha
theorem fiH_list (a b o:Array Keyed) (x y:Nat):(fiH a b o x y).toList=a.toList.take x++b.toList.take y++o.toList.reverse:=by
 unfold fiH
 simp only [Array.toList_append,Array.toList_extract,List.extract_eq_drop_take,Array.toList_reverse,List.drop_zero,Nat.sub_zero]
section
variable {prog:Program} {w:World} {A:Around} {E:Value->Shared->Prop} {s:Shared} {a b:Array Keyed}
theorem Mh.told {o:Array Keyed} {x y:Nat} (T:Two a b) (m:Mh a.toList b.toList o.toList x y) (h:x=0 \/ y=0):Told a b (fiH a b o x y):=by
 unfold Told; rw [fiH_list]; exact m.endF T.sa T.sb h
end
end TS
namespace TS
open PySem PyProof.Rows
set_option autoImplicit false
section
variable {prog:Program} {w:World} {A:Around} {E:Value->Shared->Prop} {s:Shared} {a₀ : Array Keyed}
end
end TS
namespace TS
open PySem PyProof.Rows
set_option autoImplicit false
abbrev PQ:=Nat×Nat×Nat
def pick (p:Array PQ):Nat :=
 if Option.any (fun x=>decide (x < p[p.size - 2+1]?.elim 0 fun x=>x.2.1)) (if p.size - 2 > 0 then Option.map (fun x=>x.2.1) p[p.size - 2 - 1]? else none)=true then p.size - 2 - 1 else p.size - 2
section
variable {prog:Program} {w:World} {A:Around} {E:Value->Shared->Prop} {s:Shared} {a₀ : Array Keyed}
end
section
variable {prog:Program} {w:World} {A:Around} {E:Value->Shared->Prop} {s:Shared}
end
end TS
namespace TS
open PySem PyProof.Rows
set_option autoImplicit false
def Rise (xs:Array Nat):Prop:=xs.toList.Pairwise (· < ·)
theorem Rise.lt {xs:Array Nat} (h:Rise xs) {i k:Nat} (hik:i < k) (hk:k < xs.size) (d:Nat):xs.getD i d < xs.getD k d:=by
 have:=List.pairwise_iff_getElem.mp h i k (by simp; omega) (by simpa using hk) hik
 simp only [Array.getD_eq_getD_getElem?,getElem?_pos xs i (by omega),getElem?_pos xs k hk,Option.getD_some]
 simpa using this
section
variable {prog:Program} {w:World} {A:Around} {E:Value->Shared->Prop} {s:Shared}
end
end TS
namespace TS
open PySem PyProof.Rows
set_option autoImplicit false
section
variable {prog:Program} {w:World}
section
variable {A:Around} {R:Result->Shared->Prop} {J:Addr} {feet hand:List Addr} {G:Array GenState->Array GenState->Prop} {n:Nat} {P:Nat->Value->Prop} {Z:Nat->Shared->Prop}
end
section
variable {A:Around} {E:Value->Shared->Prop} {s:Shared}
end
end
end TS
namespace TS
open PySem PyProof.Rows
set_option autoImplicit false
section
variable {prog:Program} {w:World} {A:Around} {E:Value->Shared->Prop} {s:Shared}
end
end TS
namespace TS
open PySem PyProof.Rows
set_option autoImplicit false
section
variable {prog:Program} {w:World} {A:Around} {E:Value->Shared->Prop} {s:Shared}
end
end TS
namespace FL
open PySem PySem.Spec PyProof.Rows L2
abbrev Frag:=PySem.W.Frag
def KLst (K:Frag) (a:Addr) (xs:List V):Prop:=∃ (o:Obj) (its:Array Value) (n:Nat),K.lookup a=some o/\o.cls = .type "list"/\o.dict=none/\o.data = .seq its n/\its.size<=sizeLine/\Vals xs its.toList
def KTup (K:Frag) (a:Addr) (xs:List V):Prop:=∃ (o:Obj) (its:Array Value) (n:Nat),K.lookup a=some o/\o.cls = .type "tuple"/\o.data = .seq its n/\its.size<=sizeLine/\Vals xs its.toList
structure LamT where
 qual:Str
 params:Arguments
 body:FuncBody
 scope:Scope
def lamsE (q:Str):Nat->Expr->List LamT
 | 0,_=>[]
 | n + 1, e => match e with
   | .Lambda a b sc _=>[⟨q++"<lambda>",a,.expr b,sc⟩]
   | .Call _ as _ _=>as.flatMap (lamsE q n)
   | .Compare l _ cs _=>lamsE q n l++cs.flatMap (lamsE q n)
   | .BoolOp _ vs _=>vs.flatMap (lamsE q n)
   | .UnaryOp _ o _=>lamsE q n o
   | .BinOp l _ r _=>lamsE q n l++lamsE q n r
   | .IfExp t b o _=>lamsE q n t++(lamsE q n b++lamsE q n o)
   | .List es _=>es.flatMap (lamsE q n)
   | .Tuple es _ _=>es.flatMap (lamsE q n)
   | .Subscript v i _=>lamsE q n v++lamsE q n i
   | _=>[]
def lamsS (q:Str):Nat->Stmt->List LamT
 | 0,_=>[]
 | n + 1, s => match s with
   | .FunctionDef x a b _ _ _ sc _ _ _=>[⟨q++x,a,.stmts b,sc⟩]
   | .Assign _ e _=>lamsE q 12 e
   | .Return (some e) _=>lamsE q 12 e
   | .Expr e _=>lamsE q 12 e
   | .If t a b _=>lamsE q 12 t++(a.flatMap (lamsS q n)++b.flatMap (lamsS q n))
   | .For _ _ a _ _=>a.flatMap (lamsS q n)
   | .While _ a _ _=>a.flatMap (lamsS q n)
   | _=>[]
def lamsOf (x:Str) (b:List Stmt):List LamT:=b.flatMap (lamsS (x++".<locals>.") 8)
def textIn (K:PySem.W.Frag) (m n:Nat):Option LamT:=(makers[m]?).bind fun x=>match PySem.W.nsIn K mainGlobals x with
 | some (some (.ref f)) => (match K.lookup f with
   | some ⟨_, _, .func fd, _⟩ => (match fd.body with
     | .stmts b=>(lamsOf x b)[n]?
     | _=>none)
   | _=>none)
 | _=>none
def freeR (l:List (Str×NameKind)):List Str:=((l.filter fun y=>y.2 == NameKind.free).map (·.1)).reverse
inductive ClosOk (H:Hp) (O:Addr->Prop):List (Str×Addr)->List V->Prop
 | nil:ClosOk H O [] []
 | cons {n:Str} {c:Addr} {o:Obj} {u:HO} {w:Value} {x:V} {cl:List (Str×Addr)} {xs:List V} (no : ¬ O c) (h:H c=some (.frz o u)) (d:o.data = .cell (some w)) (r:RelV x w) (t:ClosOk H O cl xs):ClosOk H O ((n,c)::cl) (x::xs)
def LamAt (H:Hp) (O:Addr->Prop) (f:Addr) (t:LamT) (cl:List (Str×Addr)):Prop:=¬ O f/\∃ (o oc:Obj) (u uc:HO) (fd:FuncData) (c:Addr) (vs:Array Value) (tq:Tok),
 H f=some (.frz o u)/\o.cls = .type "function"/\o.data = .func fd/\fd.qualname=t.qual/\fd.params=t.params/\fd.body=t.body/\fd.scope=t.scope/\fd.globals=mainGlobals/\fd.closure=cl/\fd.defaults = .none/\fd.kwdefaults = .none/\fd.code = .ref c/\fd.builtins=builtinsNs ∧
 ¬ O c/\H c=some (.frz oc uc)/\oc.data = .fields vs/\vs[1]? = some (.str t.qual tq)
mutual
inductive Rep (K:Frag) (H:Hp) (O:Addr->Prop):V->D->Prop
 | non:Rep K H O .non .non
 | bl (b:Bool):Rep K H O (.bl b) (.bl b)
 | int (i:Int):Rep K H O (.int i) (.int i)
 | str (x:Str):Rep K H O (.str x) (.str x)
 | tup {a:Addr} {xs:List V} {ds:List D} (n : ¬ O a) (h:Rd H a (.tup xs)) (r:Reps K H O xs ds):Rep K H O (.ref a) (.tup ds)
 | tupK {a:Addr} {xs:List V} {ds:List D} (h:KTup K a xs) (r:Reps K H O xs ds):Rep K H O (.ref a) (.tup ds)
 | lst {a:Addr} {xs:List V} {ds:List D} (n : ¬ O a) (h:Rd H a (.lst xs)) (r:Reps K H O xs ds):Rep K H O (.ref a) (.lst ds)
 | lstK {a:Addr} {xs:List V} {ds:List D} (h:KLst K a xs) (r:Reps K H O xs ds):Rep K H O (.ref a) (.lst ds)
 | dct {a:Addr} {kvs:List (Key×V)} {ks:List Key} {ds:List D} (n : ¬ O a) (h:H a=some (.dK kvs)) (e:kvs.map (·.1)=ks) (r:Reps K H O (kvs.map (·.2)) ds):Rep K H O (.ref a) (.dct ks ds)
 | ins {a C dx:Addr} {t:Nat} {kvs:List (Str×V)} {ds:List D} (c:PySem.W.nsIn K mainGlobals (clsName t)=some (some (.ref C))) (n : ¬ O a) (h:H a=some (.ins C dx kvs)) (e:kvs.map (·.1)=clsFlds t) (r:Reps K H O (kvs.map (·.2)) ds):Rep K H O (.ref a) (.ins t ds)
 | clo {f:Addr} {m n:Nat} {t:LamT} {cl:List (Str×Addr)} {xs:List V} {ds:List D} (tx:textIn K m n=some t) (h:LamAt H O f t cl) (e:cl.map (·.1)=freeR t.scope.names) (nd:(cl.map (·.2)).Nodup) (c:ClosOk H O cl xs) (r:Reps K H O xs ds):Rep K H O (.ref f) (.clo m n ds)
 | fnK {f:Addr} {k:Nat} (h:PySem.W.nsIn K mainGlobals (fnName k)=some (some (.ref f))):Rep K H O (.ref f) (.clo 1000 k [])
inductive Reps (K:Frag) (H:Hp) (O:Addr->Prop):List V->List D->Prop
 | nil:Reps K H O [] []
 | cons {x:V} {d:D} {xs:List V} {ds:List D} (h:Rep K H O x d) (t:Reps K H O xs ds):Reps K H O (x::xs) (d::ds)
end
section
variable {K:Frag} {H H':Hp} {O O':Addr->Prop}
def Keep (O:Addr->Prop) (H H':Hp):Prop:=∀ b o,¬ O b->H b=some o->H' b=some o
theorem Keep.of_same (h:Same H H'):Keep O H H':=fun b o _ e=>h b o e
theorem Keep.rd {a:Addr} {u:HO} (k:Keep O H H') (n : ¬ O a) (h:Rd H a u):Rd H' a u:=by
 rcases h with h | ⟨o,h⟩
 · exact .inl (k _ _ n h)
 · exact .inr ⟨o,k _ _ n h⟩
theorem ClosOk.keep (k:Keep O H H'):∀ {cl:List (Str×Addr)} {xs:List V},ClosOk H O cl xs->ClosOk H' O cl xs
 | _,_,.nil=>.nil
 | _,_,.cons no h d r t=>.cons no (k _ _ no h) d r (ClosOk.keep k t)
theorem LamAt.keep {f:Addr} {t:LamT} {cl:List (Str×Addr)} (k:Keep O H H') (h:LamAt H O f t cl):LamAt H' O f t cl:=by
 obtain ⟨n,o,oc,u,uc,fd,c,vs,tq,h1,h2,h3,h4,h5,h6,h7,h8,h9,h10,h11,h12,h13,h14,h15,h16,h17⟩:=h
 exact ⟨n,o,oc,u,uc,fd,c,vs,tq,k _ _ n h1,h2,h3,h4,h5,h6,h7,h8,h9,h10,h11,h12,h13,h14,k _ _ h14 h15,h16,h17⟩
theorem ClosOk.of (k:∀ a o u,H a=some (.frz o u)->¬ O' a):∀ {cl:List (Str×Addr)} {xs:List V},ClosOk H O cl xs->ClosOk H O' cl xs
 | _,_,.nil=>.nil
 | _,_,.cons no h d r t=>.cons (k _ _ _ h) h d r (ClosOk.of k t)
theorem LamAt.of {f:Addr} {t:LamT} {cl:List (Str×Addr)} (k:∀ a o u,H a=some (.frz o u)->¬ O' a) (h:LamAt H O f t cl):LamAt H O' f t cl:=by
 obtain ⟨n,o,oc,u,uc,fd,c,vs,tq,h1,h2,h3,h4,h5,h6,h7,h8,h9,h10,h11,h12,h13,h14,h15,h16,h17⟩:=h
 exact ⟨k _ _ _ h1,o,oc,u,uc,fd,c,vs,tq,h1,h2,h3,h4,h5,h6,h7,h8,h9,h10,h11,h12,h13,k _ _ _ h15,h15,h16,h17⟩
theorem ClosOk.nots (k:∀ a,O' a->O a):∀ {cl:List (Str×Addr)} {xs:List V},ClosOk H O cl xs->ClosOk H O' cl xs
 | _,_,.nil=>.nil
 | _,_,.cons no h d r t=>.cons (fun z=>no (k _ z)) h d r (ClosOk.nots k t)
theorem LamAt.nots {f:Addr} {t:LamT} {cl:List (Str×Addr)} (k:∀ a,O' a->O a) (h:LamAt H O f t cl):LamAt H O' f t cl:=by
 obtain ⟨n,o,oc,u,uc,fd,c,vs,tq,h1,h2,h3,h4,h5,h6,h7,h8,h9,h10,h11,h12,h13,h14,h15,h16,h17⟩:=h
 exact ⟨fun z=>n (k _ z),o,oc,u,uc,fd,c,vs,tq,h1,h2,h3,h4,h5,h6,h7,h8,h9,h10,h11,h12,h13,fun z=>h14 (k _ z),h15,h16,h17⟩
def ins1 (p:Addr) (O:Addr->Prop):Addr->Prop:=fun b=>b=p \/ O b
theorem ClosOk.ins {p:Addr} (hp:H p=none):∀ {cl:List (Str×Addr)} {xs:List V},ClosOk H O cl xs->ClosOk H (ins1 p O) cl xs
 | _,_,.nil=>.nil
 | _,_,.cons no h d r t=>.cons (fun z=>z.elim (fun e=>by rw [e,hp] at h; cases h) no) h d r (ClosOk.ins hp t)
theorem LamAt.ins {p f:Addr} {t:LamT} {cl:List (Str×Addr)} (hp:H p=none) (h:LamAt H O f t cl):LamAt H (ins1 p O) f t cl:=by
 obtain ⟨n,o,oc,u,uc,fd,c,vs,tq,h1,h2,h3,h4,h5,h6,h7,h8,h9,h10,h11,h12,h13,h14,h15,h16,h17⟩:=h
 exact ⟨fun z=>z.elim (fun e=>by rw [e,hp] at h1; cases h1) n,o,oc,u,uc,fd,c,vs,tq,h1,h2,h3,h4,h5,h6,h7,h8,h9,h10,h11,h12,h13,fun z=>z.elim (fun e=>by rw [e,hp] at h15; cases h15) h14,h15,h16,h17⟩
mutual
theorem Rep.keep (k:Keep O H H'):∀ {v:V} {d:D},Rep K H O v d->Rep K H' O v d
 | _,_,.non=>.non
 | _,_,.bl b=>.bl b
 | _,_,.int i=>.int i
 | _,_,.str x=>.str x
 | _,_,.tup n h r=>.tup n (k.rd n h) (Reps.keep k r)
 | _,_,.tupK h r=>.tupK h (Reps.keep k r)
 | _,_,.lst n h r=>.lst n (k.rd n h) (Reps.keep k r)
 | _,_,.lstK h r=>.lstK h (Reps.keep k r)
 | _,_,.dct n h e r=>.dct n (k _ _ n h) e (Reps.keep k r)
 | _,_,.ins c n h e r=>.ins c n (k _ _ n h) e (Reps.keep k r)
 | _,_,.clo tx h e nd c r=>.clo tx (h.keep k) e nd (c.keep k) (Reps.keep k r)
 | _,_,.fnK h=>.fnK h
theorem Reps.keep (k:Keep O H H'):∀ {vs:List V} {ds:List D},Reps K H O vs ds->Reps K H' O vs ds
 | _,_,.nil=>.nil
 | _,_,.cons h t=>.cons (Rep.keep k h) (Reps.keep k t)
end
theorem Rep.mono (k:Same H H') {v:V} {d:D} (h:Rep K H O v d):Rep K H' O v d:=h.keep (.of_same k)
theorem Reps.mono (k:Same H H') {v:List V} {d:List D} (h:Reps K H O v d):Reps K H' O v d:=h.keep (.of_same k)
mutual
theorem Rep.less (k:∀ a,O' a->O a):∀ {v:V} {d:D},Rep K H O v d->Rep K H O' v d
 | _,_,.non=>.non
 | _,_,.bl b=>.bl b
 | _,_,.int i=>.int i
 | _,_,.str x=>.str x
 | _,_,.tup n h r=>.tup (fun z=>n (k _ z)) h (Reps.less k r)
 | _,_,.tupK h r=>.tupK h (Reps.less k r)
 | _,_,.lst n h r=>.lst (fun z=>n (k _ z)) h (Reps.less k r)
 | _,_,.lstK h r=>.lstK h (Reps.less k r)
 | _,_,.dct n h e r=>.dct (fun z=>n (k _ z)) h e (Reps.less k r)
 | _,_,.ins c n h e r=>.ins c (fun z=>n (k _ z)) h e (Reps.less k r)
 | _,_,.clo tx h e nd c r=>.clo tx (h.nots k) e nd (c.nots k) (Reps.less k r)
 | _,_,.fnK h=>.fnK h
theorem Reps.less (k:∀ a,O' a->O a):∀ {vs:List V} {ds:List D},Reps K H O vs ds->Reps K H O' vs ds
 | _,_,.nil=>.nil
 | _,_,.cons h t=>.cons (Rep.less k h) (Reps.less k t)
end
theorem Rd.some {a:Addr} {u:HO} (h:Rd H a u):H a≠none:=by
 rcases h with h | ⟨o,h⟩ <;> (rw [h]; simp)
mutual
theorem Rep.more {p:Addr} (hp:H p=none):∀ {v:V} {d:D},Rep K H O v d->Rep K H (ins1 p O) v d
 | _,_,.non=>.non
 | _,_,.bl b=>.bl b
 | _,_,.int i=>.int i
 | _,_,.str x=>.str x
 | _,_,.tup n h r=>.tup (fun z=>z.elim (fun e=>Rd.some h (e ▸ hp)) n) h (Reps.more hp r)
 | _,_,.tupK h r=>.tupK h (Reps.more hp r)
 | _,_,.lst n h r=>.lst (fun z=>z.elim (fun e=>Rd.some h (e ▸ hp)) n) h (Reps.more hp r)
 | _,_,.lstK h r=>.lstK h (Reps.more hp r)
 | _,_,.dct n h e r=>.dct (fun z=>z.elim (fun e=>by rw [e,hp] at h; cases h) n) h e (Reps.more hp r)
 | _,_,.ins c n h e r=>.ins c (fun z=>z.elim (fun e=>by rw [e,hp] at h; cases h) n) h e (Reps.more hp r)
 | _,_,.clo tx h e nd c r=>.clo tx (h.ins hp) e nd (c.ins hp) (Reps.more hp r)
 | _,_,.fnK h=>.fnK h
theorem Reps.more {p:Addr} (hp:H p=none):∀ {vs:List V} {ds:List D},Reps K H O vs ds->Reps K H (ins1 p O) vs ds
 | _,_,.nil=>.nil
 | _,_,.cons h t=>.cons (Rep.more hp h) (Reps.more hp t)
end
def mutO:HO->Bool
 | .lst _ | .dK _ | .dT _ | .set _ _ | .ins _ _ _=>true
 | _=>false
def Old (H:Hp):Addr->Prop:=fun a=>∃ o,H a=some o/\mutO o=true
theorem Old.mono (k:Same H H') {a:Addr} (h:Old H a):Old H' a:=let ⟨o,e,m⟩:=h; ⟨o,k _ _ e,m⟩
def jI:Addr->Prop:=fun _=>False
mutual
theorem Rep.flatten (ho:∀ a,O a->Old H a):∀ {v:V} {d:D},flat d=true->Rep K H O' v d->Rep K H O v d
 | _,_,_,.non=>.non
 | _,_,_,.bl b=>.bl b
 | _,_,_,.int i=>.int i
 | _,_,_,.str x=>.str x
 | _,_,f,.tup (a:=a) n h r=>.tup (fun z=>by
    obtain ⟨u,e,m⟩:=ho a z
    rcases h with h | ⟨o,h⟩
    · rw [e] at h; cases h; cases m
    · rw [e] at h; cases h; cases m) h (Reps.flatten ho (by simpa [flat] using f) r)
 | _,_,f,.tupK h r=>.tupK h (Reps.flatten ho (by simpa [flat] using f) r)
 | _,_,f,.lst _ _ _=>by simp [flat] at f
 | _,_,f,.lstK _ _=>by simp [flat] at f
 | _,_,f,.dct _ _ _ _=>by simp [flat] at f
 | _,_,f,.ins _ _ _ _ _=>by simp [flat] at f
 | _,_,f,.clo _ _ _ _ _ _=>by simp [flat] at f
 | _,_,f,.fnK _=>by simp [flat] at f
theorem Reps.flatten (ho:∀ a,O a->Old H a):∀ {vs:List V} {ds:List D},flats ds=true->Reps K H O' vs ds->Reps K H O vs ds
 | _,_,_,.nil=>.nil
 | _, _, f, .cons h t => by
   simp only [flats,Bool.and_eq_true] at f
   exact .cons (Rep.flatten ho f.1 h) (Reps.flatten ho f.2 t)
end
theorem Reps.length:∀ {vs:List V} {ds:List D},Reps K H O vs ds->vs.length=ds.length
 | _,_,.nil=>rfl
 | _,_,.cons _ t=>by simp [Reps.length t]
theorem Reps.get:∀ {vs:List V} {ds:List D} {i:Nat} {d:D},Reps K H O vs ds->ds[i]? = some d->∃ v,vs[i]? = some v/\Rep K H O v d
 | _,_,_,_,.nil,e=>by simp at e
 | _,_,0,_,.cons h _,e=>by simp at e; subst e; exact ⟨_,rfl,h⟩
 | _, _, i + 1, d, .cons _ t, e => by
   obtain ⟨v,h1,h2⟩:=Reps.get (i:=i) (d:=d) t (by simpa using e)
   exact ⟨v,by simpa using h1,h2⟩
theorem Reps.append:∀ {xs ys:List V} {ds es:List D},Reps K H O xs ds->Reps K H O ys es->Reps K H O (xs++ys) (ds++es)
 | _,_,_,_,.nil,s=>s
 | _,_,_,_,.cons r t,s=>.cons r (Reps.append t s)
theorem Reps.set {x:V} {d:D} (r:Rep K H O x d):∀ {xs:List V} {ds:List D} (i:Nat),Reps K H O xs ds->Reps K H O (xs.set i x) (ds.set i d)
 | _,_,_,.nil=>.nil
 | _,_,0,.cons _ t=>.cons r t
 | _,_,i+1,.cons q t=>.cons q (Reps.set r i t)
theorem Reps.drop:∀ {xs:List V} {ds:List D} (n:Nat),Reps K H O xs ds->Reps K H O (xs.drop n) (ds.drop n)
 | _,_,0,r=>r
 | _,_,_+1,.nil=>.nil
 | _,_,n+1,.cons _ t=>Reps.drop n t
theorem Reps.take:∀ {xs:List V} {ds:List D} (n:Nat),Reps K H O xs ds->Reps K H O (xs.take n) (ds.take n)
 | _,_,0,_=>.nil
 | _,_,_+1,.nil=>.nil
 | _,_,n+1,.cons r t=>.cons r (Reps.take n t)
theorem Reps.ints:∀ (ns:List Int),Reps K H O (ns.map V.int) (ns.map D.int)
 | []=>.nil
 | n::r=>.cons (.int n) (Reps.ints r)
def WRep (K:Frag) (H:Hp) (O:Addr->Prop) (v:V) (d:D):Prop:=Rep K H O v d \/ ∃ a xs l,v = .ref a/\d = .lst l/\O a/\H a=some (.lst xs)/\Reps K H O xs l
theorem WRep.mono (k:Same H H') {v:V} {d:D} (h:WRep K H O v d):WRep K H' O v d:=by
 rcases h with h | ⟨a,xs,l,e1,e2,ho,h,r⟩
 · exact .inl (h.mono k)
 · exact .inr ⟨a,xs,l,e1,e2,ho,k _ _ h,r.mono k⟩
theorem WRep.any {v:V} {d:D} (h:WRep K H O v d):Rep K H jI v d:=by
 rcases h with h | ⟨a,xs,l,rfl,rfl,ho,h,r⟩
 · exact h.less (fun _ z=>z.elim)
 · exact .lst (fun z=>z.elim) (.inl h) (r.less fun _ z=>z.elim)
theorem WRep.seqL {v:V} {l:List D} (h:WRep K H O v (.lst l)):∃ a xs,v = .ref a/\SqL K H a xs/\Reps K H O xs l:=by
 rcases h with h | ⟨a,xs,l',rfl,e,ho,h,r⟩
 · cases h with
   | lst n h r=>exact ⟨_,_,rfl,.inl h,r⟩
   | lstK h r=>exact ⟨_,_,rfl,.inr h,r⟩
 · cases e; exact ⟨a,xs,rfl,.inl (.inl h),r⟩
theorem WRep.seqT {v:V} {l:List D} (h:WRep K H O v (.tup l)):∃ a xs,v = .ref a/\SqT K H a xs/\Reps K H O xs l:=by
 rcases h with h | ⟨a,xs,l',rfl,e,ho,h,r⟩
 · cases h with
   | tup n h r=>exact ⟨_,_,rfl,.inl h,r⟩
   | tupK h r=>exact ⟨_,_,rfl,.inr h,r⟩
 · cases e
theorem WRep.int' {v:V} {i:Int} (h:WRep K H O v (.int i)):v = .int i:=by
 rcases h with h | ⟨a,xs,l',rfl,e,_⟩
 · cases h; rfl
 · cases e
theorem WRep.bl' {v:V} {i:Bool} (h:WRep K H O v (.bl i)):v = .bl i:=by
 rcases h with h | ⟨a,xs,l',rfl,e,_⟩
 · cases h; rfl
 · cases e
theorem WRep.str' {v:V} {i:Str} (h:WRep K H O v (.str i)):v = .str i:=by
 rcases h with h | ⟨a,xs,l',rfl,e,_⟩
 · cases h; rfl
 · cases e
end
mutual
inductive RepO (K:Frag) (H:Hp) (O:Addr->Prop):V->OT->List Addr->Prop
 | val {v:V} {d:D} (r:Rep K H O v d):RepO K H O v (.val d) []
 | lst {a:Addr} {xs:List V} {ts:List OT} {fs:List Addr} (n:O a) (h:H a=some (.lst xs)) (r:RepsO K H O xs ts fs):RepO K H O (.ref a) (.lst ts) (a::fs)
 | tup {a:Addr} {xs:List V} {ts:List OT} {fs:List Addr} (n : ¬ O a) (h:Rd H a (.tup xs)) (r:RepsO K H O xs ts fs):RepO K H O (.ref a) (.tup ts) fs
inductive RepsO (K:Frag) (H:Hp) (O:Addr->Prop):List V->List OT->List Addr->Prop
 | nil:RepsO K H O [] [] []
 | cons {x:V} {t:OT} {xs:List V} {ts:List OT} {fs gs:List Addr} (h:RepO K H O x t fs) (r:RepsO K H O xs ts gs):RepsO K H O (x::xs) (t::ts) (fs++gs)
end
section
variable {K:Frag} {H H':Hp} {O O':Addr->Prop}
mutual
theorem RepO.keep (k:Keep O H H'):∀ {v:V} {t:OT} {fs:List Addr},RepO K H O v t fs->(∀ b∈fs,∀ u,H b=some u->H' b=some u)->RepO K H' O v t fs
 | _,_,_,.val r,_=>.val (r.keep k)
 | _,_,_,.lst n h r,hb=>.lst n (hb _ (.head _) _ h) (RepsO.keep k r fun b z=>hb b (.tail _ z))
 | _,_,_,.tup n h r,hb=>.tup n (k.rd n h) (RepsO.keep k r hb)
theorem RepsO.keep (k:Keep O H H'):∀ {v:List V} {t:List OT} {fs:List Addr},RepsO K H O v t fs->(∀ b∈fs,∀ u,H b=some u->H' b=some u)->RepsO K H' O v t fs
 | _,_,_,.nil,_=>.nil
 | _,_,_,.cons h r,hb=>.cons (RepO.keep k h fun b z=>hb b (List.mem_append_left _ z)) (RepsO.keep k r fun b z=>hb b (List.mem_append_right _ z))
end
theorem RepO.mono (k:Same H H') {v:V} {t:OT} {fs:List Addr} (h:RepO K H O v t fs):RepO K H' O v t fs:=h.keep (.of_same k) fun b _ u e=>k b u e
theorem RepsO.mono (k:Same H H') {v:List V} {t:List OT} {fs:List Addr} (h:RepsO K H O v t fs):RepsO K H' O v t fs:=h.keep (.of_same k) fun b _ u e=>k b u e
mutual
theorem RepO.less (k:∀ a,O' a->O a):∀ {v:V} {t:OT} {fs:List Addr},RepO K H O v t fs->(∀ b∈fs,O' b)->RepO K H O' v t fs
 | _,_,_,.val r,_=>.val (r.less k)
 | _,_,_,.lst n h r,hb=>.lst (hb _ (.head _)) h (RepsO.less k r fun b z=>hb b (.tail _ z))
 | _,_,_,.tup n h r,hb=>.tup (fun z=>n (k _ z)) h (RepsO.less k r hb)
theorem RepsO.less (k:∀ a,O' a->O a):∀ {v:List V} {t:List OT} {fs:List Addr},RepsO K H O v t fs->(∀ b∈fs,O' b)->RepsO K H O' v t fs
 | _,_,_,.nil,_=>.nil
 | _,_,_,.cons h r,hb=>.cons (RepO.less k h fun b z=>hb b (List.mem_append_left _ z)) (RepsO.less k r fun b z=>hb b (List.mem_append_right _ z))
end
mutual
theorem RepO.more {p:Addr} (hp:H p=none):∀ {v:V} {t:OT} {fs:List Addr},RepO K H O v t fs->RepO K H (ins1 p O) v t fs
 | _,_,_,.val r=>.val (r.more hp)
 | _,_,_,.lst n h r=>.lst (.inr n) h (RepsO.more hp r)
 | _,_,_,.tup n h r=>.tup (fun z=>z.elim (fun e=>Rd.some h (e ▸ hp)) n) h (RepsO.more hp r)
theorem RepsO.more {p:Addr} (hp:H p=none):∀ {v:List V} {t:List OT} {fs:List Addr},RepsO K H O v t fs->RepsO K H (ins1 p O) v t fs
 | _,_,_,.nil=>.nil
 | _,_,_,.cons h r=>.cons (RepO.more hp h) (RepsO.more hp r)
end
mutual
theorem RepO.owns:∀ {v:V} {t:OT} {fs:List Addr},RepO K H O v t fs->∀ b∈fs,O b/\∃ xs,H b=some (.lst xs)
 | _,_,_,.val r,b,z=>nomatch z
 | _, _, _, .lst (xs := xs) n h r, b, z => by
   rcases List.mem_cons.mp z with rfl | z
   · exact ⟨n,xs,h⟩
   · exact RepsO.owns r b z
 | _,_,_,.tup n h r,b,z=>RepsO.owns r b z
theorem RepsO.owns:∀ {v:List V} {t:List OT} {fs:List Addr},RepsO K H O v t fs->∀ b∈fs,O b/\∃ xs,H b=some (.lst xs)
 | _,_,_,.nil,b,z=>nomatch z
 | _,_,_,.cons h r,b,z=>(List.mem_append.mp z).elim (RepO.owns h b) (RepsO.owns r b)
end
mutual
theorem RepO.any:∀ {v:V} {t:OT} {fs:List Addr},RepO K H O v t fs->Rep K H jI v (otD t)
 | _,_,_,.val r=>r.less fun _ z=>z.elim
 | _,_,_,.lst n h r=>by unfold otD; exact .lst (fun z=>z) (.inl h) (RepsO.any r)
 | _,_,_,.tup n h r=>by unfold otD; exact .tup (fun z=>z) h (RepsO.any r)
theorem RepsO.any:∀ {v:List V} {t:List OT} {fs:List Addr},RepsO K H O v t fs->Reps K H jI v (otDs t)
 | _,_,_,.nil=>by unfold otDs; exact .nil
 | _,_,_,.cons h r=>by unfold otDs; exact .cons (RepO.any h) (RepsO.any r)
end
end
def SlOk (K:Frag) (H₀ H:Hp) (O:Addr->Prop):Option V->Sl->Prop
 | _,.no=>True
 | some x,.v d=>Rep K H O x d
 | some (.ref a),.own l=>O a/\∃ xs,H a=some (.lst xs)/\Reps K H O xs l
 | some (.ref a),.fr l=>¬ O a/\H₀ a=none/\∃ xs,H a=some (.lst xs)/\Reps K H O xs l
 | _,.ob _ _=>True
 | some (.ref a),.exc t=>∃ C o u,PySem.W.nsIn K mainGlobals (xName t)=some (some (.ref C))/\H a=some (.frz o u)/\o.cls = .ref C
 | _,_=>False
def IsOwn (ds:List Sl) (i:Nat):Prop:=∃ l,ds[i]? = some (.own l)
inductive HI where
 | rep (v:V) (d:D) | base (B:Addr->Prop)
abbrev Hold:=List HI
def HOk (K:Frag) (H₀ H:Hp) (O:Addr->Prop):HI->Prop
 | .rep v d=>Rep K H O v d
 | .base B=>∀ a,B a->O a/\H₀ a≠none
def Obs (K:Frag) (H₀ H:Hp) (O:Addr->Prop) (σ : L2.St) (ds:List Sl):Prop:=∃ F:Nat->List Addr,∀ (i:Nat) (r:Option Nat) (t:OT),ds[i]? = some (.ob r t)->∃ v,σ[i]? = some (some v)/\RepO K H O v t (F i)/\(∀ a,r=some a->v = .ref a)/\(F i).Nodup ∧
 ∀ b∈F i,H₀ b=none/\(∀ j r' t',j≠i->ds[j]? = some (.ob r' t')->b ∉ F j)/\∀ j,IsOwn ds j->σ[j]?≠some (some (.ref b))
structure Ok (K:Frag) (H₀ H:Hp) (O:Addr->Prop) (σ : L2.St) (ds:List Sl) (hd:Hold):Prop where
 same:Same H₀ H
 fresh:∀ (i:Nat) (l:List D) (a:Addr),ds[i]? = some (.own l)->σ[i]? = some (some (.ref a))->H₀ a=none
 dom:∀ a,O a->∃ xs,H a=some (.lst xs)
 len : σ.length=ds.length
 sl:∀ (i:Nat) (s:Sl),ds[i]? = some s->SlOk K H₀ H O (σ[i]?.join) s
 apart:∀ (i j:Nat) (a:Addr),i≠j->IsOwn ds i->IsOwn ds j->σ[i]? = some (some (.ref a))->σ[j]? = some (some (.ref a))->False
 hold:∀ p∈hd,HOk K H₀ H O p
 obs:Obs K H₀ H O σ ds
section
variable {K:Frag} {H₀ H H':Hp} {O O':Addr->Prop} {σ : L2.St} {ds:List Sl} {hd:Hold}
theorem HOk.mono (k:Same H H'):∀ {p:HI},HOk K H₀ H O p->HOk K H₀ H' O p
 | .rep _ _,h=>Rep.mono k h
 | .base _,h=>h
theorem HOk.keep (k:Keep O H H'):∀ {p:HI},HOk K H₀ H O p->HOk K H₀ H' O p
 | .rep _ _,h=>Rep.keep k h
 | .base _,h=>h
theorem Obs.tr {σ':L2.St} {ds':List Sl} (h:Obs K H₀ H O σ ds) (tr:∀ v t fs,RepO K H O v t fs->(∀ b∈fs,H₀ b=none/\∀ j,IsOwn ds j->σ[j]?≠some (some (.ref b)))->RepO K H' O' v t fs)
  (hob:∀ (i:Nat) (r:Option Nat) (t:OT),ds'[i]? = some (.ob r t)->ds[i]? = some (.ob r t)/\σ'[i]? = σ[i]?)
  (hown:∀ (j:Nat) (b:Addr),IsOwn ds' j->σ'[j]? = some (some (.ref b))->(IsOwn ds j/\σ[j]? = some (some (.ref b))) \/ H b=none):Obs K H₀ H' O' σ' ds':=by
 obtain ⟨F,hF⟩:=h
 refine ⟨F,fun i r t e=>?_⟩
 obtain ⟨e1,e2⟩:=hob i r t e
 obtain ⟨v,h1,h2,h3,h4,h5⟩:=hF i r t e1
 refine ⟨v,e2.trans h1,tr v t _ h2 fun b hb=>⟨(h5 b hb).1,(h5 b hb).2.2⟩,h3,h4,fun b hb=>⟨(h5 b hb).1,fun j r' t' hj ej=>(h5 b hb).2.1 j r' t' hj (hob j r' t' ej).1,fun j oj ej=>?_⟩⟩
 rcases hown j b oj ej with ⟨o1,o2⟩ | hn
 · exact (h5 b hb).2.2 j o1 o2
 · obtain ⟨_, xs, z⟩ := h2.owns b hb
   rw [hn] at z; cases z
theorem Obs.no (h:∀ (i:Nat) (r:Option Nat) (t:OT),ds[i]?≠some (.ob r t)):Obs K H₀ H O σ ds:=⟨fun _=>[],fun i r t e=>(h i r t e).elim⟩
theorem Obs.mono (k:Same H H') (h:Obs K H₀ H O σ ds):Obs K H₀ H' O σ ds:=h.tr (fun _ _ _ r _=>r.mono k) (fun _ _ _ e=>⟨e,rfl⟩) fun _ _ o e=>.inl ⟨o,e⟩
theorem ob_set {i:Nat} {s:Sl} (hs:∀ r t,s≠.ob r t) {j:Nat} {r:Option Nat} {t:OT} (e:(ds.set i s)[j]? = some (.ob r t)):ds[j]? = some (.ob r t)/\j≠i:=by
 by_cases hj:j=i
 · subst hj
   by_cases hl:j < ds.length
   · rw [List.getElem?_set_self hl] at e
     cases e
     exact (hs r t rfl).elim
   · rw [List.getElem?_eq_none (by simpa using hl)] at e; cases e
 · rw [List.getElem?_set_ne (Ne.symm hj)] at e
   exact ⟨e,hj⟩
theorem own_set {i:Nat} {s:Sl} (hs:∀ l,s≠.own l) {j:Nat} (e:IsOwn (ds.set i s) j):IsOwn ds j/\j≠i:=by
 obtain ⟨l,e⟩:=e
 by_cases hj:j=i
 · subst hj
   by_cases hl:j < ds.length
   · rw [List.getElem?_set_self hl] at e
     cases e
     exact (hs l rfl).elim
   · rw [List.getElem?_eq_none (by simpa using hl)] at e; cases e
 · rw [List.getElem?_set_ne (Ne.symm hj)] at e
   exact ⟨⟨l,e⟩,hj⟩
theorem SlOk.mono (k:Same H H'):∀ {x:Option V} {s:Sl},SlOk K H₀ H O x s->SlOk K H₀ H' O x s
 | none,.no,_=>trivial
 | some (.ref _),.no,_=>trivial
 | some _,.no,_=>by simp [SlOk]
 | x, .ob _ _, _ => by cases x with
   | none=>trivial
   | some x=>cases x <;> trivial
 | some x, .v d, h => by
   have h:Rep K H O x d:=by cases x <;> exact h
   show SlOk K H₀ H' O (some x) (.v d)
   have:=h.mono k
   cases x <;> exact this
 | some (.ref a),.own l,⟨ho,xs,h,r⟩=>⟨ho,xs,k _ _ h,r.mono k⟩
 | some (.ref a),.fr l,⟨ho,h0,xs,h,r⟩=>⟨ho,h0,xs,k _ _ h,r.mono k⟩
 | some (.ref a),.exc t,⟨C,o,u,h1,h2,h3⟩=>⟨C,o,u,h1,k _ _ h2,h3⟩
theorem Ok.old (o:Ok K H₀ H O σ ds hd) {a:Addr} (h:O a):Old H a:=let ⟨xs,e⟩:=o.dom a h; ⟨_,e,rfl⟩
theorem Ok.mono (k:Same H H') (o:Ok K H₀ H O σ ds hd):Ok K H₀ H' O σ ds hd :=
 ⟨o.same.trans k,o.fresh,fun a h=>let ⟨xs,e⟩:=o.dom a h; ⟨xs,k _ _ e⟩,o.len,fun i s e=>(o.sl i s e).mono k,o.apart,fun p hp=>(o.hold p hp).mono k,o.obs.mono k⟩
theorem Ok.free {p:Addr} (o:Ok K H₀ H O σ ds hd) (h:H p=none) : ¬ O p:=fun z=>by
 obtain ⟨xs,e⟩:=o.dom p z
 rw [h] at e; cases e
theorem Ok.read {i:Nat} {d:D} (o:Ok K H₀ H O σ ds hd) (e:ds[i]? = some (.v d)):∃ v,σ[i]? = some (some v)/\Rep K H O v d:=by
 have h:=o.sl i _ e
 cases q : σ[i]? with
 | none=>rw [q] at h; exact h.elim
 | some x =>
   rw [q] at h
   cases x with
   | none=>exact h.elim
   | some x=>exact ⟨x,rfl,by cases x <;> exact h⟩
theorem Ok.readO {i:Nat} {l:List D} (o:Ok K H₀ H O σ ds hd) (e:ds[i]? = some (.own l)):∃ a xs,σ[i]? = some (some (.ref a))/\O a/\H a=some (.lst xs)/\Reps K H O xs l:=by
 have h:=o.sl i _ e
 cases q : σ[i]? with
 | none=>rw [q] at h; exact h.elim
 | some x =>
   rw [q] at h
   cases x with
   | none=>exact h.elim
   | some x =>
     cases x with
     | ref a=>obtain ⟨ho,xs,h1,h2⟩:=h; exact ⟨a,xs,rfl,ho,h1,h2⟩
     | _=>exact h.elim
theorem Ok.readX {i t:Nat} (o:Ok K H₀ H O σ ds hd) (e:ds[i]? = some (.exc t)):∃ a C ob u,σ[i]? = some (some (.ref a))/\PySem.W.nsIn K mainGlobals (xName t)=some (some (.ref C))/\H a=some (.frz ob u)/\ob.cls = .ref C:=by
 have h:=o.sl i _ e
 cases q : σ[i]? with
 | none=>rw [q] at h; exact h.elim
 | some x =>
   rw [q] at h
   cases x with
   | none=>exact h.elim
   | some x =>
     cases x with
     | ref a=>obtain ⟨C,ob,u,h1,h2,h3⟩:=h; exact ⟨a,C,ob,u,rfl,h1,h2,h3⟩
     | _=>exact h.elim
theorem Ok.readF {i:Nat} {l:List D} (o:Ok K H₀ H O σ ds hd) (e:ds[i]? = some (.fr l)):∃ a xs,σ[i]? = some (some (.ref a))/\¬ O a/\H₀ a=none/\H a=some (.lst xs)/\Reps K H O xs l:=by
 have h:=o.sl i _ e
 cases q : σ[i]? with
 | none=>rw [q] at h; exact h.elim
 | some x =>
   rw [q] at h
   cases x with
   | none=>exact h.elim
   | some x =>
     cases x with
     | ref a=>obtain ⟨ho,h0,xs,h1,h2⟩:=h; exact ⟨a,xs,rfl,ho,h0,h1,h2⟩
     | _=>exact h.elim
theorem yF {x:Option V} : SlOk K H₀ H O x .no:=by
 cases x with
 | none=>trivial
 | some x=>cases x <;> trivial
theorem wC {x:Option V} {r:Option Nat} {t:OT} : SlOk K H₀ H O x (.ob r t):=by
 cases x with
 | none=>trivial
 | some x=>cases x <;> trivial
theorem wI {x:V} {d:D} (h:Rep K H O x d):SlOk K H₀ H O (some x) (.v d):=by
 cases x <;> exact h
theorem Ok.set {i:Nat} {v:V} {d:D} (o:Ok K H₀ H O σ ds hd) (r:Rep K H O v d):Ok K H₀ H O (σ.set i (some v)) (ds.set i (.v d)) hd:=by
 have own':∀ {j:Nat},IsOwn (ds.set i (.v d)) j->j≠i/\IsOwn ds j:=fun {j} ⟨l,e⟩=>by
  by_cases hj:j=i
  · subst hj
    by_cases hl:j < ds.length
    · rw [List.getElem?_set_self hl] at e; cases e
    · rw [List.getElem?_eq_none (by simpa using hl)] at e; cases e
  · rw [List.getElem?_set_ne (Ne.symm hj)] at e
    exact ⟨hj,l,e⟩
 refine ⟨o.same,fun j l a e1 e2=>?_,o.dom,by simpa using o.len,fun j s e=>?_,fun j k a hjk hj hk e1 e2=>?_,o.hold,o.obs.tr (fun _ _ _ r _=>r) (fun j r t e=>by
  obtain ⟨e1,hj⟩:=ob_set (fun r t=>by intro z; cases z) e
  exact ⟨e1,by rw [List.getElem?_set_ne (Ne.symm hj)]⟩) (fun j b oj ej=>by
  obtain ⟨o1,hj⟩:=own_set (fun l=>by intro z; cases z) oj
  rw [List.getElem?_set_ne (Ne.symm hj)] at ej
  exact .inl ⟨o1,ej⟩)⟩
 · obtain ⟨n1, h1⟩ := own' ⟨l, e1⟩
   rw [List.getElem?_set_ne (Ne.symm n1)] at e1 e2
   exact o.fresh j l a e1 e2
 · by_cases hj : j = i
   · subst hj
     by_cases hl:j < ds.length
     · rw [List.getElem?_set_self hl] at e
       cases e
       rw [List.getElem?_set_self (by rw [o.len]; exact hl)]
       exact wI r
     · rw [List.getElem?_eq_none (by simpa using hl)] at e; cases e
   · rw [List.getElem?_set_ne (Ne.symm hj)] at e
     rw [List.getElem?_set_ne (Ne.symm hj)]
     exact o.sl j s e
 · obtain ⟨n1, h1⟩ := own' hj
   obtain ⟨n2,h2⟩:=own' hk
   rw [List.getElem?_set_ne (Ne.symm n1)] at e1
   rw [List.getElem?_set_ne (Ne.symm n2)] at e2
   exact o.apart j k a hjk h1 h2 e1 e2
theorem Ok.setO {i:Nat} {a:Addr} {xs:List V} {l:List D} (o:Ok K H₀ H O σ ds hd) (k:Same H H') (hn:H a=none) (e:H' a=some (.lst xs)) (r:Reps K H' (ins1 a O) xs l) :
  Ok K H₀ H' (ins1 a O) (σ.set i (some (.ref a))) (ds.set i (.own l)) hd:=by
 have up:∀ {v:V} {d:D},Rep K H O v d->Rep K H' (ins1 a O) v d:=fun h=>(h.more hn).mono k
 have ups:∀ {v:List V} {d:List D},Reps K H O v d->Reps K H' (ins1 a O) v d:=fun h=>(h.more hn).mono k
 have other:∀ j:Nat,IsOwn ds j->σ[j]? = some (some (.ref a))->False:=fun j ⟨l',e'⟩ q=>by
  obtain ⟨b,ys,h1,h2,h3,_⟩:=o.readO e'
  rw [q] at h1; cases h1
  rw [hn] at h3; cases h3
 have own':∀ {j:Nat},j≠i->IsOwn (ds.set i (.own l)) j->IsOwn ds j:=fun {j} hj ⟨l',e'⟩=>⟨l',by rwa [List.getElem?_set_ne (Ne.symm hj)] at e'⟩
 refine ⟨o.same.trans k,fun j l' b e1 e2=>?_,fun b hb=>?_,by simpa using o.len,fun j s es=>?_,fun j m b hjm hj hm e1 e2=>?_,fun p hp=>?_,o.obs.tr (fun _ _ _ r _=>(r.more hn).mono k) (fun j r t e=>by
  obtain ⟨e1,hj⟩:=ob_set (fun r t=>by intro z; cases z) e
  exact ⟨e1,by rw [List.getElem?_set_ne (Ne.symm hj)]⟩) (fun j b oj ej=>by
  by_cases hj:j=i
  · subst hj
    by_cases hl:j < σ.length
    · rw [List.getElem?_set_self hl] at ej; cases ej; exact .inr hn
    · rw [List.getElem?_eq_none (by simpa using hl)] at ej; cases ej
  · rw [List.getElem?_set_ne (Ne.symm hj)] at ej
    obtain ⟨l',e'⟩:=oj
    rw [List.getElem?_set_ne (Ne.symm hj)] at e'
    exact .inl ⟨⟨l',e'⟩,ej⟩)⟩
 rotate_left 4
 · have := o.hold p hp
   cases p with
   | rep v d=>exact up this
   | base B=>exact fun b hb=>⟨.inr (this b hb).1,(this b hb).2⟩
 · by_cases hj : j = i
   · subst hj
     by_cases hl:j < σ.length
     · rw [List.getElem?_set_self hl] at e2
       cases e2
       exact o.same.free hn
     · rw [List.getElem?_eq_none (by simpa using hl)] at e2; cases e2
   · rw [List.getElem?_set_ne (Ne.symm hj)] at e1 e2
     exact o.fresh j l' b e1 e2
 · rcases hb with rfl | hb
   · exact ⟨xs,e⟩
   · obtain ⟨ys, q⟩ := o.dom b hb
     exact ⟨ys,k _ _ q⟩
 · by_cases hj : j = i
   · subst hj
     by_cases hl:j < ds.length
     · rw [List.getElem?_set_self hl] at es
       cases es
       rw [List.getElem?_set_self (by rw [o.len]; exact hl)]
       exact ⟨.inl rfl,xs,e,r⟩
     · rw [List.getElem?_eq_none (by simpa using hl)] at es; cases es
   · rw [List.getElem?_set_ne (Ne.symm hj)] at es
     rw [List.getElem?_set_ne (Ne.symm hj)]
     cases s with
     | no=>exact yF
     | ob r t=>exact wC
     | exc t =>
       obtain ⟨a',C',ob',u',q1,q2,q3,q4⟩:=o.readX es
       rw [q1]
       exact ⟨C',ob',u',q2,k _ _ q3,q4⟩
     | fr l' =>
       obtain ⟨a',xs',q1,q2,q0,q3,q4⟩:=o.readF es
       rw [q1]
       exact ⟨fun z=>z.elim (fun e'=>by rw [e',hn] at q3; cases q3) q2,q0,xs',k _ _ q3,ups q4⟩
     | v d =>
       obtain ⟨v,h1,h2⟩:=o.read es
       rw [h1]
       exact wI (up h2)
     | own l' =>
       obtain ⟨b,ys,h1,h2,h3,h4⟩:=o.readO es
       rw [h1]
       exact ⟨.inr h2,ys,k _ _ h3,ups h4⟩
 · have hs:∀ {q:Nat},q=i->(σ.set i (some (V.ref a)))[q]? = some (some (.ref b))->b=a:=fun {q} hq eq=>by
    subst hq
    by_cases hl:q < σ.length
    · rw [List.getElem?_set_self hl] at eq
      cases eq; rfl
    · rw [List.getElem?_eq_none (by simpa using hl)] at eq; cases eq
   by_cases h1:j=i
   · have hb := hs h1 e1
     have h2:m≠i:=fun z=>hjm (h1.trans z.symm)
     rw [List.getElem?_set_ne (Ne.symm h2),hb] at e2
     exact other m (own' h2 hm) e2
   · by_cases h2 : m = i
     · have hb := hs h2 e2
       rw [List.getElem?_set_ne (Ne.symm h1),hb] at e1
       exact other j (own' h1 hj) e1
     · rw [List.getElem?_set_ne (Ne.symm h1)] at e1
       rw [List.getElem?_set_ne (Ne.symm h2)] at e2
       exact o.apart j m b hjm (own' h1 hj) (own' h2 hm) e1 e2
theorem Ok.modify {i:Nat} {l l':List D} {a:Addr} {xs':List V} (o:Ok K H₀ H O σ ds hd) (e:ds[i]? = some (.own l)) (ea : σ[i]? = some (some (.ref a))) (r:Reps K H O xs' l') :
  Ok K H₀ (upd H a (.lst xs')) O σ (ds.set i (.own l')) hd:=by
 obtain ⟨a',xs,h1,h2,h3,h4⟩:=o.readO e
 rw [ea] at h1; cases h1
 have hl:i < ds.length:=(List.getElem?_eq_some_iff.mp e).1
 have k:Keep O H (upd H a (.lst xs')):=fun b u hb eb=>by
  rw [qA (fun (z:b=a)=>hb (z.symm ▸ h2))]; exact eb
 refine ⟨fun b u eb=>?_,fun j l2 b e1 e2=>?_,fun b hb=>?_,by simpa using o.len,fun j s es=>?_,fun j m b hjm hj hm e1 e2=>?_,fun p hp=>(o.hold p hp).keep k,o.obs.tr (fun _ _ _ r hb=>r.keep k fun b z u eu=>by rw [qA (fun q=>(hb b z).2 i ⟨l,e⟩ (by rw [q]; exact ea))]; exact eu) (fun j r t ej=>by
  obtain ⟨e1,hj⟩:=ob_set (fun r t=>by intro z; cases z) ej
  exact ⟨e1,rfl⟩) (fun j b oj ej=>by
  by_cases hj:j=i
  · subst hj; exact .inl ⟨⟨l,e⟩,ej⟩
  · obtain ⟨l', e'⟩ := oj
    rw [List.getElem?_set_ne (Ne.symm hj)] at e'
    exact .inl ⟨⟨l',e'⟩,ej⟩)⟩
 rotate_left 1
 · by_cases hj : j = i
   · subst hj; exact o.fresh j l b e e2
   · rw [List.getElem?_set_ne (Ne.symm hj)] at e1; exact o.fresh j l2 b e1 e2
 rotate_right 1
 · rw [qA (fun z => by rw [z, o.fresh i l a e ea] at eb; cases eb)]
   exact o.same b u eb
 · by_cases hba : b = a
   · subst hba; exact ⟨xs',qK⟩
   · rw [qA hba]; exact o.dom b hb
 · by_cases hj : j = i
   · subst hj
     rw [List.getElem?_set_self hl] at es
     cases es
     rw [ea]
     exact ⟨h2,xs',qK,r.keep k⟩
   · rw [List.getElem?_set_ne (Ne.symm hj)] at es
     cases s with
     | no=>exact yF
     | ob r t=>exact wC
     | exc t =>
       obtain ⟨a',C',ob',u',q1,q2,q3,q4⟩:=o.readX es
       rw [q1]
       exact ⟨C',ob',u',q2,by rw [qA (fun z=>by rw [z,h3] at q3; cases q3)]; exact q3,q4⟩
     | fr l' =>
       obtain ⟨a',xs'',q1,q2,q0,q3,q4⟩:=o.readF es
       rw [q1]
       exact ⟨q2,q0,xs'',by rw [qA (fun z=>q2 (by rw [z]; exact h2))]; exact q3,q4.keep k⟩
     | v d =>
       obtain ⟨v,q1,q2⟩:=o.read es
       rw [q1]
       exact wI (q2.keep k)
     | own l'' =>
       obtain ⟨b,ys,q1,q2,q3,q4⟩:=o.readO es
       rw [q1]
       refine ⟨q2,ys,?_,q4.keep k⟩
       rw [qA (fun z=>?_)]
       · exact q3
       · subst z
         exact o.apart j i b hj ⟨_,es⟩ ⟨l,e⟩ q1 ea
 · have own':∀ {j:Nat},IsOwn (ds.set i (.own l')) j->IsOwn ds j:=fun {j} ⟨l'',e'⟩=>by
    by_cases hj:j=i
    · subst hj; exact ⟨l,e⟩
    · rw [List.getElem?_set_ne (Ne.symm hj)] at e'; exact ⟨l'',e'⟩
   exact o.apart j m b hjm (own' hj) (own' hm) e1 e2
theorem Ok.holdMore {p:HI} (o:Ok K H₀ H O σ ds hd) (r:HOk K H₀ H O p):Ok K H₀ H O σ ds (p::hd) :=
 ⟨o.same,o.fresh,o.dom,o.len,o.sl,o.apart,fun q hq=>(List.mem_cons.mp hq).elim (fun e=>e ▸ r) (o.hold q),o.obs⟩
theorem Ok.holdLess {p:HI} (o:Ok K H₀ H O σ ds (p::hd)):Ok K H₀ H O σ ds hd :=
 ⟨o.same,o.fresh,o.dom,o.len,o.sl,o.apart,fun q hq=>o.hold q (List.mem_cons_of_mem _ hq),o.obs⟩
end
section
variable (X:Cx)
def PV (e:Expr) (f:FE):Prop:=∃ t,PE X e t/\∀ H₀ H O σ ds hd d Q,Ok X.K H₀ H O σ ds hd->f ds=some d->(∀ v H',Same H H'->Rep X.K H' O v d->Q v H')->t σ H Q
def PVw (e:Expr) (f:FE):Prop:=∃ t,PE X e t/\∀ H₀ H O σ ds hd d Q,Ok X.K H₀ H O σ ds hd->f ds=some d->(∀ v H',Same H H'->WRep X.K H' O v d->Q v H')->t σ H Q
def PVf (e:Expr) (f:FA):Prop:=∃ t,PE X e t/\∀ H₀ H O σ ds hd l Q,Ok X.K H₀ H O σ ds hd->f ds=some l →
 (∀ a xs H',Same H H'->H a=none->H' a=some (.lst xs)->Reps X.K H' (ins1 a O) xs l->Q (.ref a) H')->t σ H Q
def PTv (e:Expr) (c:FT):Prop:=∃ t,PT X e t/\∀ H₀ H O σ ds hd b Q,Ok X.K H₀ H O σ ds hd->c ds=some b->(∀ H',Same H H'->Q b H')->t σ H Q
def PWv (e:Expr) (c:FT):Prop:=∃ t,PW X e t/\∀ H₀ H O σ ds hd b Q,Ok X.K H₀ H O σ ds hd->c ds=some b->(∀ H',Same H H'->Q b H')->t σ H Q
def PAv (es:List Expr) (f:FA):Prop:=∃ t,PA X es t/\∀ H₀ H O σ ds hd l Q,Ok X.K H₀ H O σ ds hd->f ds=some l->(∀ vs H',Same H H'->Paired (WRep X.K H' O) vs l->Q vs H')->t σ H Q
def PAs (es:List Expr) (f:FA):Prop:=∃ t,PA X es t/\∀ H₀ H O σ ds hd l Q,Ok X.K H₀ H O σ ds hd->f ds=some l->(∀ vs H',Same H H'->Reps X.K H' O vs l->Q vs H')->t σ H Q
end
section
variable {X:Cx}
theorem PV.w {e:Expr} {f:FE} (h:PV X e f):PVw X e f:=by
 obtain ⟨t,ht,hf⟩:=h
 exact ⟨t,ht,fun H₀ H O σ ds hd d Q o e q=>hf H₀ H O σ ds hd d Q o e fun v H' s r=>q v H' s (.inl r)⟩
theorem PVf.s {e:Expr} {f:FA} (h:PVf X e f):PV X e (mkL f):=by
 obtain ⟨t,ht,hf⟩:=h
 refine ⟨t,ht,fun H₀ H O σ ds hd d Q o e q=>?_⟩
 unfold mkL at e
 cases hl:f ds with
 | none=>rw [hl] at e; cases e
 | some l =>
   rw [hl] at e; cases e
   refine hf H₀ H O σ ds hd l Q o hl fun a xs H' s hn he r=>q _ _ s ?_
   exact .lst (o.free hn) (.inl he) (r.less fun _ z=>.inr z)
theorem zX (i:Nat) {x:Str} {pos:Pos} (hN:X.N[i]? = some x:=by rfl) (hv:Vis X.env.scope x:=by first | exact Or.inl rfl | exact Or.inr (Or.inl rfl) | exact Or.inr (Or.inr rfl)) (hd:(x == ("__debug__" : Str))=false:=by decide)
  (hcd:(x == ("__classdict__" : Str))=false:=by decide):PV X (.Name x pos) (qW i):=by
 refine ⟨_,xP hN hv hd hcd,fun H₀ H O σ ds hd d Q o e q=>?_⟩
 unfold qW at e
 cases hs:ds[i]? with
 | none=>rw [hs] at e; cases e
 | some s =>
   rw [hs] at e
   cases s with
   | v d' =>
     cases e
     obtain ⟨v,h1,h2⟩:=o.read hs
     exact ⟨v,h1,q v H (Same.refl _) h2⟩
   | no=>cases e
   | exc _=>cases e
   | fr _=>cases e
   | ob _ _=>cases e
   | own l=>cases e
theorem zA (i:Nat) {x:Str} {pos:Pos} (hN:X.N[i]? = some x:=by rfl) (hv:Vis X.env.scope x:=by first | exact Or.inl rfl | exact Or.inr (Or.inl rfl) | exact Or.inr (Or.inr rfl)) (hd:(x == ("__debug__" : Str))=false:=by decide)
  (hcd:(x == ("__classdict__" : Str))=false:=by decide):PVw X (.Name x pos) (zJ i):=by
 refine ⟨_,xP hN hv hd hcd,fun H₀ H O σ ds hd d Q o e q=>?_⟩
 unfold zJ at e
 cases hs:ds[i]? with
 | none=>rw [hs] at e; cases e
 | some s =>
   rw [hs] at e
   cases s with
   | v d' =>
     cases e
     obtain ⟨v,h1,h2⟩:=o.read hs
     exact ⟨v,h1,q v H (Same.refl _) (.inl h2)⟩
   | no=>cases e
   | exc _=>cases e
   | fr _=>cases e
   | ob _ _=>cases e
   | own l =>
     cases e
     obtain ⟨a,xs,h1,h2,h3,h4⟩:=o.readO hs
     exact ⟨.ref a,h1,q _ H (Same.refl _) (.inr ⟨a,xs,l,rfl,rfl,h2,h3,h4⟩)⟩
theorem zF {i:Int} {j pos} : PV X (.Constant (.int i) j pos) (zE (.int i)):=⟨_,pe_int,fun _ H _ _ _ _ _ _ _ e q=>by cases e; exact q _ H (Same.refl _) (.int i)⟩
theorem jT {b:Bool} {j pos} : PV X (.Constant (.bool b) j pos) (zE (.bl b)):=⟨_,pe_bl,fun _ H _ _ _ _ _ _ _ e q=>by cases e; exact q _ H (Same.refl _) (.bl b)⟩
theorem qL {j pos} : PV X (.Constant .none j pos) (zE .non):=⟨_,pe_non,fun _ H _ _ _ _ _ _ _ e q=>by cases e; exact q _ H (Same.refl _) .non⟩
theorem pv_glob {x:Str} {v:V} {u:Value} {d:D} {pos:Pos} (hg:Gl X x) (hm:X.mg x=some u) (r:RelV v u) (hr:∀ H O,Rep X.K H O v d) (hd:(x == ("__debug__" : Str))=false:=by decide):PV X (.Name x pos) (zE d) :=
 ⟨_,pe_glob hg hm r hd,fun _ H O _ _ _ _ _ _ e q=>by cases e; exact q _ H (Same.refl _) (hr H O)⟩
def OpS (X:Cx) (r:R2) (op:D->D->Option D):Prop:=∀ H O x y dx dy d Q,(∀ a,O a->∃ xs,H a=some (.lst xs))->WRep X.K H O x dx->WRep X.K H O y dy->op dx dy=some d->(∀ v H',Same H H'->Rep X.K H' O v d->Q v H')->r x y H Q
theorem pv_tOp {r:R2} {op:D->D->Option D} (hs:OpS X r op) {a b:Expr} {fa fb:FE} {ta tb:TE} (ha:∀ H₀ H O σ ds hd d Q,Ok X.K H₀ H O σ ds hd->fa ds=some d->(∀ v H',Same H H'->WRep X.K H' O v d->Q v H')->ta σ H Q)
  (hb:∀ H₀ H O σ ds hd d Q,Ok X.K H₀ H O σ ds hd->fb ds=some d->(∀ v H',Same H H'->WRep X.K H' O v d->Q v H')->tb σ H Q) :
  ∀ H₀ H O σ ds hd d Q,Ok X.K H₀ H O σ ds hd->zL op fa fb ds=some d->(∀ v H',Same H H'->Rep X.K H' O v d->Q v H')->tOp r ta tb σ H Q:=by
 intro H₀ H O σ ds hd d Q o e q
 unfold zL at e
 cases h1:fa ds with
 | none=>rw [h1] at e; cases e
 | some dx =>
   cases h2:fb ds with
   | none=>rw [h1,h2] at e; cases e
   | some dy =>
     rw [h1,h2] at e
     refine ha H₀ H O σ ds hd dx _ o h1 fun x H1 s1 r1=>?_
     refine hb H₀ H1 O σ ds hd dy _ (o.mono s1) h2 fun y H2 s2 r2=>?_
     exact hs H2 O x y dx dy d Q ((o.mono s1).mono s2).dom (r1.mono s2) r2 e fun v H' s r=>q v H' ((s1.trans s2).trans s) r
theorem vQ {op:Operator} {r:R2} {opD:D->D->Option D} {a b:Expr} {fa fb:FE} {pos:Pos} (ho:OpR X (binaryOp op) r) (hs:OpS X r opD) (ha:PVw X a fa) (hb:PVw X b fb):PV X (.BinOp a op b pos) (zL opD fa fb):=by
 obtain ⟨ta,pa,ha⟩:=ha
 obtain ⟨tb,pb,hb⟩:=hb
 exact ⟨_,pe_op ho pa pb,pv_tOp hs (a:=a) (b:=b) ha hb⟩
theorem pv_cmp {op:CmpOp} {r:R2} {opD:D->D->Option D} {a b:Expr} {fa fb:FE} {pos:Pos} (ho:OpR X (compareOp op) r) (hs:OpS X r opD) (ha:PVw X a fa) (hb:PVw X b fb) (hm:behindInMarks op b=false):PV X (.Compare a [op] [b] pos) (zL opD fa fb):=by
 obtain ⟨ta,pa,ha⟩:=ha
 obtain ⟨tb,pb,hb⟩:=hb
 exact ⟨_,pe_cmpR ho pa pb hm,pv_tOp hs (a:=a) (b:=b) ha hb⟩
theorem kE {op:CmpOp} {r:R2} {opD:D->D->Option D} {a b:Expr} {fa fb:FE} {pos:Pos} (ho:OpR X (compareOp op) r) (hs:OpS X r opD) (ha:PVw X a fa) (hb:PVw X b fb) (hm:behindInMarks op b=false):PTv X (.Compare a [op] [b] pos) (zU (zL opD fa fb)):=by
 obtain ⟨ta,pa,ha⟩:=ha
 obtain ⟨tb,pb,hb⟩:=hb
 refine ⟨_,pt_cmpR ho pa pb hm,fun H₀ H O σ ds hd k Q o e q=>?_⟩
 unfold zU at e
 cases h:zL opD fa fb ds with
 | none=>rw [h] at e; cases e
 | some d =>
   rw [h] at e
   refine pv_tOp hs (a:=a) (b:=b) ha hb H₀ H O σ ds hd d _ o h fun v H' s r=>?_
   cases d with
   | bl c=>cases e; cases r; exact ⟨_,rfl,q H' s⟩
   | _=>cases e
theorem os_add:OpS X (fun x y H Q=>rI0 (fun i j=>.int (i+j)) x y H Q \/ ∃ i j,x = .str i/\y = .str j/\i.length+j.length<=sizeLine/\Q (.str (i++j)) H) xN:=by
 intro H O x y dx dy d Q ho rx ry e q
 cases dx <;> cases dy <;> first | (simp [xN] at e; done) | skip
 · cases e
   rw [rx.int',ry.int']
   exact .inl ⟨_,_,rfl,rfl,q _ H (Same.refl _) (.int _)⟩
 · rename_i x y
   simp only [xN] at e
   split at e
   · rename_i hl
     cases e
     rw [rx.str',ry.str']
     exact .inr ⟨_,_,rfl,rfl,hl,q _ H (Same.refl _) (.str _)⟩
   · cases e
theorem op_addU:OpR X (binaryOp .Add) (fun x y H Q=>rI0 (fun i j=>.int (i+j)) x y H Q \/ ∃ i j,x = .str i/\y = .str j/\i.length+j.length<=sizeLine/\Q (.str (i++j)) H):=op_add.or op_add_str
theorem os_sub:OpS X (rI0 fun i j=>.int (i - j)) subD:=by
 intro H O x y dx dy d Q ho rx ry e q
 cases dx <;> cases dy <;> first | (simp [subD] at e; done) | skip
 cases e
 rw [rx.int',ry.int']
 exact ⟨_,_,rfl,rfl,q _ H (Same.refl _) (.int _)⟩
def CDivB (i j:Int):Prop:=divOk j
theorem op_fdivB:OpR X (binaryOp .FloorDiv) (rI CDivB fun i j=>.int (i / j)):=opI fun i j _ _ _ _ _ hc q=>by
 have e:i.fdiv j=i / j:=Int.fdiv_eq_ediv_of_nonneg _ (Int.le_of_lt hc.1)
 refine floordiv_int (by have:=hc.1; omega) ?_ (.inl (PyProof.noPylong_of_log2 hc.2))
 rw [e]; exact q
theorem os_fdiv:OpS X (rI CDivB fun i j=>.int (i / j)) qY:=by
 intro H O x y dx dy d Q ho rx ry e q
 cases dx <;> cases dy <;> first | (simp [qY] at e; done) | skip
 simp only [qY] at e
 split at e
 · rename_i hc
   cases e
   rw [rx.int',ry.int']
   exact ⟨_,_,rfl,rfl,hc,q _ H (Same.refl _) (.int _)⟩
 · cases e
theorem os_mod:OpS X (rI (fun _ j=>0 < j) fun i j=>.int (i % j)) xL:=by
 intro H O x y dx dy d Q ho rx ry e q
 cases dx <;> cases dy <;> first | (simp [xL] at e; done) | skip
 simp only [xL] at e
 split at e
 · rename_i hc
   cases e
   rw [rx.int',ry.int']
   exact ⟨_,_,rfl,rfl,hc,q _ H (Same.refl _) (.int _)⟩
 · cases e
theorem wG {p:Int->Int->Bool} : OpS X (rI0 fun i j=>.bl (p i j)) (cmpI p):=by
 intro H O x y dx dy d Q ho rx ry e q
 cases dx <;> cases dy <;> first | (simp [cmpI] at e; done) | skip
 cases e
 rw [rx.int',ry.int']
 exact ⟨_,_,rfl,rfl,q _ H (Same.refl _) (.bl _)⟩
end
section
variable {X:Cx}
theorem PV.t {e:Expr} {f:FE} (h:PV X e f) (he:∀ whole,isTrue e X.env whole=(do let v <- whole; standAt e.pos; holding [v] (truthy v)):=by intro _; rfl):PTv X e (zU f):=by
 obtain ⟨t,ht,hf⟩:=h
 refine ⟨_,pt_val ht he,fun H₀ H O σ ds hd k Q o e q=>?_⟩
 unfold zU at e
 cases h:f ds with
 | none=>rw [h] at e; cases e
 | some d =>
   rw [h] at e
   refine hf H₀ H O σ ds hd d _ o h fun v H' s r=>?_
   cases d with
   | bl c=>cases e; cases r; exact ⟨_,rfl,q H' s⟩
   | _=>cases e
theorem jG {a:Expr} {pos:Pos} {c:FT} (ha:PTv X a c):PWv X (.BoolOp .And [a] pos) c:=by
 obtain ⟨t,ht,hf⟩:=ha
 exact ⟨_,pw_and1 ht,hf⟩
theorem jY {a:Expr} {pos:Pos} {c:FT} (ha:PTv X a c):PWv X (.BoolOp .Or [a] pos) c:=by
 obtain ⟨t,ht,hf⟩:=ha
 exact ⟨_,pw_or1 ht,hf⟩
theorem jD {a b:Expr} {rest:List Expr} {pos:Pos} {c d:FT} (ha:PTv X a c) (hb:PWv X (.BoolOp .And (b::rest) pos) d):PWv X (.BoolOp .And (a::b::rest) pos) (andT c d):=by
 obtain ⟨t,ht,hf⟩:=ha
 obtain ⟨u,hu,hg⟩:=hb
 refine ⟨_,pw_and ht hu,fun H₀ H O σ ds hd k Q o e q=>?_⟩
 unfold andT at e
 cases h:c ds with
 | none=>rw [h] at e; cases e
 | some b =>
   rw [h] at e
   refine hf H₀ H O σ ds hd b _ o h fun H' s=>?_
   cases b with
   | true=>exact iteT (hg H₀ H' O σ ds hd k Q (o.mono s) (by simpa using e) fun H'' s'=>q H'' (s.trans s'))
   | false =>
     have:false=k:=by simpa using e
     subst this
     exact iteF (q H' s)
theorem yI {a b:Expr} {rest:List Expr} {pos:Pos} {c d:FT} (ha:PTv X a c) (hb:PWv X (.BoolOp .Or (b::rest) pos) d):PWv X (.BoolOp .Or (a::b::rest) pos) (orT c d):=by
 obtain ⟨t,ht,hf⟩:=ha
 obtain ⟨u,hu,hg⟩:=hb
 refine ⟨_,pw_or ht hu,fun H₀ H O σ ds hd k Q o e q=>?_⟩
 unfold orT at e
 cases h:c ds with
 | none=>rw [h] at e; cases e
 | some b =>
   rw [h] at e
   refine hf H₀ H O σ ds hd b _ o h fun H' s=>?_
   cases b with
   | false=>exact iteF (hg H₀ H' O σ ds hd k Q (o.mono s) (by simpa using e) fun H'' s'=>q H'' (s.trans s'))
   | true =>
     have:true=k:=by simpa using e
     subst this
     exact iteT (q H' s)
theorem PWv.t {e:Expr} {c:FT} (h:PWv X e c):PTv X e c:=by
 obtain ⟨t,ht,hf⟩:=h
 exact ⟨t,ht.pt,hf⟩
theorem jV {a:Expr} {pos:Pos} {c:FT} (ha:PTv X a c):PTv X (.UnaryOp .Not a pos) (notT c):=by
 obtain ⟨t,ht,hf⟩:=ha
 refine ⟨_,pt_not ht,fun H₀ H O σ ds hd k Q o e q=>?_⟩
 unfold notT at e
 cases h:c ds with
 | none=>rw [h] at e; cases e
 | some b =>
   rw [h] at e
   cases e
   exact hf H₀ H O σ ds hd b _ o h fun H' s=>q H' s
theorem pv_one {a:Expr} {op} {pos:Pos} {f:FE} (ha:PV X a f):PV X (.BoolOp op [a] pos) f:=by
 obtain ⟨t,ht,hf⟩:=ha
 exact ⟨_,pe_one ht,hf⟩
theorem pv_and {a b:Expr} {rest:List Expr} {pos:Pos} {f g:FE} (ha:PV X a f) (hb:PV X (.BoolOp .And (b::rest) pos) g):PV X (.BoolOp .And (a::b::rest) pos) (andV f g):=by
 obtain ⟨t,ht,hf⟩:=ha
 obtain ⟨u,hu,hg⟩:=hb
 refine ⟨_,pe_and ht hu,fun H₀ H O σ ds hd d Q o e q=>?_⟩
 unfold andV at e
 cases h:f ds with
 | none=>rw [h] at e; cases e
 | some dd =>
   rw [h] at e
   refine hf H₀ H O σ ds hd dd _ o h fun v H' s r=>?_
   cases dd with
   | bl c =>
     cases r
     cases c with
     | true=>exact ⟨true,rfl,iteT (hg H₀ H' O σ ds hd d Q (o.mono s) e fun v H'' s'=>q v H'' (s.trans s'))⟩
     | false =>
       have:D.bl false=d:=Option.some.inj e
       subst this
       exact ⟨false,rfl,iteF (q _ H' s (.bl false))⟩
   | _=>cases e
theorem pv_or {a b:Expr} {rest:List Expr} {pos:Pos} {f g:FE} (ha:PV X a f) (hb:PV X (.BoolOp .Or (b::rest) pos) g):PV X (.BoolOp .Or (a::b::rest) pos) (orV f g):=by
 obtain ⟨t,ht,hf⟩:=ha
 obtain ⟨u,hu,hg⟩:=hb
 refine ⟨_,pe_or ht hu,fun H₀ H O σ ds hd d Q o e q=>?_⟩
 unfold orV at e
 cases h:f ds with
 | none=>rw [h] at e; cases e
 | some dd =>
   rw [h] at e
   refine hf H₀ H O σ ds hd dd _ o h fun v H' s r=>?_
   cases dd with
   | bl c =>
     cases r
     cases c with
     | false=>exact ⟨false,rfl,iteF (hg H₀ H' O σ ds hd d Q (o.mono s) e fun v H'' s'=>q v H'' (s.trans s'))⟩
     | true =>
       have:D.bl true=d:=Option.some.inj e
       subst this
       exact ⟨true,rfl,iteT (q _ H' s (.bl true))⟩
   | _=>cases e
theorem pv_if {c a b:Expr} {pos:Pos} {fc:FT} {f g:FE} (hc:PTv X c fc) (ha:PV X a f) (hb:PV X b g):PV X (.IfExp c a b pos) (ifV fc f g):=by
 obtain ⟨tc,pc,hc⟩:=hc
 obtain ⟨t,ht,hf⟩:=ha
 obtain ⟨u,hu,hg⟩:=hb
 refine ⟨_,pe_ifExp pc ht hu,fun H₀ H O σ ds hd d Q o e q=>?_⟩
 unfold ifV at e
 cases h:fc ds with
 | none=>rw [h] at e; cases e
 | some k =>
   rw [h] at e
   refine hc H₀ H O σ ds hd k _ o h fun H' s=>?_
   cases k with
   | true=>exact iteT (hf H₀ H' O σ ds hd d Q (o.mono s) (by simpa using e) fun v H'' s'=>q v H'' (s.trans s'))
   | false=>exact iteF (hg H₀ H' O σ ds hd d Q (o.mono s) (by simpa using e) fun v H'' s'=>q v H'' (s.trans s'))
theorem jC:PAv X [] qC:=⟨_,xO,fun _ H _ _ _ _ _ _ _ e q=>by cases e; exact q _ H (Same.refl _) .nil⟩
theorem qB:PAs X [] qC:=⟨_,xO,fun _ H _ _ _ _ _ _ _ e q=>by cases e; exact q _ H (Same.refl _) .nil⟩
theorem qH {e:Expr} {es:List Expr} {f:FE} {g:FA} (ha:PVw X e f) (hr:PAv X es g) (hs:starEach (e::es) X.env=(false,eval e X.env)::starEach es X.env:=by rfl):PAv X (e::es) (zG f g):=by
 obtain ⟨t,ht,hf⟩:=ha
 obtain ⟨u,hu,hg⟩:=hr
 refine ⟨_,yL ht hu hs,fun H₀ H O σ ds hd l Q o e q=>?_⟩
 unfold zG at e
 cases h:f ds with
 | none=>rw [h] at e; cases e
 | some x =>
   cases h2:g ds with
   | none=>rw [h,h2] at e; cases e
   | some r =>
     rw [h,h2] at e
     cases e
     refine hf H₀ H O σ ds hd x _ o h fun v H1 s1 r1=>?_
     refine hg H₀ H1 O σ ds hd r _ (o.mono s1) h2 fun vs H2 s2 r2=>?_
     exact q _ H2 (s1.trans s2) (.cons (r1.mono s2) r2)
theorem zK {e:Expr} {es:List Expr} {f:FE} {g:FA} (ha:PV X e f) (hr:PAs X es g) (hs:starEach (e::es) X.env=(false,eval e X.env)::starEach es X.env:=by rfl):PAs X (e::es) (zG f g):=by
 obtain ⟨t,ht,hf⟩:=ha
 obtain ⟨u,hu,hg⟩:=hr
 refine ⟨_,yL ht hu hs,fun H₀ H O σ ds hd l Q o e q=>?_⟩
 unfold zG at e
 cases h:f ds with
 | none=>rw [h] at e; cases e
 | some x =>
   cases h2:g ds with
   | none=>rw [h,h2] at e; cases e
   | some r =>
     rw [h,h2] at e
     cases e
     refine hf H₀ H O σ ds hd x _ o h fun v H1 s1 r1=>?_
     refine hg H₀ H1 O σ ds hd r _ (o.mono s1) h2 fun vs H2 s2 r2=>?_
     exact q _ H2 (s1.trans s2) (.cons (r1.mono s2) r2)
theorem qP {H:Hp} {p:Addr} (h:H p=none) (o:HO):Same H (upd H p o):=fun b u q=>by rw [qA (jJ q h)]; exact q
theorem jB {es:List Expr} {pos:Pos} {g:FA} (h:PAs X es g):PVf X (.List es pos) (qN g):=by
 obtain ⟨t,ht,hf⟩:=h
 refine ⟨_,pe_lst ht,fun H₀ H O σ ds hd l Q o e q=>?_⟩
 unfold qN at e
 cases h:g ds with
 | none=>rw [h] at e; cases e
 | some l' =>
   rw [h] at e
   simp only [Option.bind_some] at e
   split at e
   · rename_i hl
     cases e
     refine hf H₀ H O σ ds hd l _ o h fun vs H1 s1 r1=>⟨by rw [r1.length]; exact hl,fun p hp=>?_⟩
     refine q p vs _ (s1.trans (qP hp _)) (s1.free hp) qK ?_
     exact (r1.more hp).mono (qP hp _)
   · cases e
theorem jR {es:List Expr} {x1} {pos:Pos} {g:FA} (h:PAs X es g):PV X (.Tuple es x1 pos) (mkT (qN g)):=by
 obtain ⟨t,ht,hf⟩:=h
 refine ⟨_,pe_tup ht,fun H₀ H O σ ds hd d Q o e q=>?_⟩
 unfold mkT qN at e
 cases h:g ds with
 | none=>rw [h] at e; cases e
 | some l' =>
   rw [h] at e
   simp only [Option.bind_some] at e
   split at e
   · rename_i hl
     cases e
     refine hf H₀ H O σ ds hd l' _ o h fun vs H1 s1 r1=>⟨by rw [r1.length]; exact hl,fun p hp=>?_⟩
     refine q _ _ (s1.trans (qP hp _)) ?_
     exact .tup ((o.mono s1).free hp) (.inl qK) (r1.mono (qP hp _))
   · cases e
theorem atI_rep {K:Frag} {H:Hp} {O:Addr->Prop} {xs:List V} {l:List D} {i:Int} {d:D} (r:Reps K H O xs l) (e:atI l i=some d):∃ v,atI xs i=some v/\Rep K H O v d:=by
 unfold atI at e ⊢
 rw [r.length]
 cases h:ixN l.length i with
 | none=>rw [h] at e; cases e
 | some j =>
   rw [h] at e
   exact r.get e
theorem ix_sem {K:Frag} {H:Hp} {O:Addr->Prop} {x y:V} {dx dy d:D} {Q:VK} (rx:WRep K H O x dx) (ry:WRep K H O y dy) (e:ixD dx dy=some d) (q:∀ v H',Same H H'->Rep K H' O v d->Q v H'):rIx K x y H Q:=by
 cases dx <;> cases dy <;> first | (simp [ixD] at e; done) | skip
 · simp only [ixD] at e
   split at e
   · rename_i hl
     rw [rx.str',ry.int']
     rename_i z i
     cases hc:atI z.cps.toList i with
     | none=>rw [hc] at e; cases e
     | some c =>
       rw [hc] at e
       cases e
       exact .inr (.inr ⟨_,_,c,rfl,rfl,hl,hc,q _ H (Same.refl _) (.str _)⟩)
   · cases e
 · obtain ⟨a, xs, rfl, hs, r⟩ := rx.seqT
   rw [ry.int']
   obtain ⟨v,h1,h2⟩:=atI_rep r e
   exact .inr (.inl ⟨a,xs,_,v,rfl,rfl,hs,h1,q _ H (Same.refl _) h2⟩)
 · obtain ⟨a, xs, rfl, hs, r⟩ := rx.seqL
   rw [ry.int']
   obtain ⟨v,h1,h2⟩:=atI_rep r e
   exact .inl ⟨a,xs,_,v,rfl,rfl,hs,h1,q _ H (Same.refl _) h2⟩
theorem os_ix:OpS X (rIx X.K) ixD:=fun H O x y dx dy d Q ho rx ry e q=>ix_sem rx ry e q
theorem zR {a b:Expr} {fa fb:FE} {pos:Pos} (ha:PVw X a fa) (hb:PVw X b fb) (hs:PlainIx b:=by exact fun _ _=>rfl):PV X (.Subscript a b pos) (zL ixD fa fb):=by
 obtain ⟨ta,pa,ha⟩:=ha
 obtain ⟨tb,pb,hb⟩:=hb
 exact ⟨_,pe_ix ix_seq pa pb hs,pv_tOp os_ix (a:=a) (b:=b) ha hb⟩
end
def RetOk (K:Frag) (H H':Hp) (v:V):Ret->Prop
 | .val d=>Rep K H' (Old H) v d
 | .fresh l=>∃ a xs,v = .ref a/\H a=none/\H' a=some (.lst xs)/\Reps K H' (ins1 a (Old H)) xs l
 | .any d=>Rep K H' jI v d
 | .obj t=>∃ fs,RepO K H' (fun b=>b∈fs \/ Old H b) v t fs/\fs.Nodup/\∀ b∈fs,H b=none
def RetB (K:Frag) (H:Hp) (hd:Hold) (v:V):Ret->Prop
 | .any d=>∀ B,HI.base B∈hd->Rep K H B v d
 | _=>True
def spF (K:Frag) (n:Nat) (F:List D->Option Ret):Sp:=fun vs H Q _=>vs.length=n/\∃ ds r,Reps K H jI vs ds/\F ds=some r/\∀ v H',Same H H'->RetOk K H H' v r->Q v H'
section
variable {X:Cx}
mutual
theorem RepO.val' {K:Frag} {H:Hp} {O O':Addr->Prop} : ∀ {v:V} {t:OT} {fs:List Addr},RepO K H O v t fs->(∀ a,O' a->O a/\a ∉ fs)->Rep K H O' v (otD t)
 | _,_,_,.val r,k=>r.less fun a z=>(k a z).1
 | _,_,_,.lst n h r,k=>by unfold otD; exact .lst (fun z=>(k _ z).2 (.head _)) (.inl h) (RepsO.val' r fun a z=>⟨(k a z).1,fun q=>(k a z).2 (.tail _ q)⟩)
 | _,_,_,.tup n h r,k=>by unfold otD; exact .tup (fun z=>n (k _ z).1) h (RepsO.val' r k)
theorem RepsO.val' {K:Frag} {H:Hp} {O O':Addr->Prop} : ∀ {v:List V} {t:List OT} {fs:List Addr},RepsO K H O v t fs->(∀ a,O' a->O a/\a ∉ fs)->Reps K H O' v (otDs t)
 | _,_,_,.nil,_=>by unfold otDs; exact .nil
 | _,_,_,.cons h r,k=>by unfold otDs; exact .cons (RepO.val' h fun a z=>⟨(k a z).1,fun q=>(k a z).2 (List.mem_append_left _ q)⟩) (RepsO.val' r fun a z=>⟨(k a z).1,fun q=>(k a z).2 (List.mem_append_right _ q)⟩)
end
theorem retV_ok {K:Frag} {H H':Hp} {O:Addr->Prop} {v:V} {r:Ret} {d:D} (h:RetOk K H H' v r) (e:retV r=some d) (ho:∀ a,O a->Old H a):Rep K H' O v d:=by
 cases r with
 | any d'=>cases e
 | val d'=>cases e; exact h.less ho
 | obj t =>
   cases e
   obtain ⟨fs,h1,h2,h3⟩:=h
   refine h1.val' fun a z=>⟨.inr (ho a z),fun q=>?_⟩
   obtain ⟨o,e,_⟩:=ho a z
   rw [h3 a q] at e; cases e
 | fresh l =>
   cases e
   obtain ⟨a,xs,rfl,h1,h2,h3⟩:=h
   refine .lst (fun z=>?_) (.inl h2) (h3.less fun b z=>.inr (ho b z))
   obtain ⟨o,e,_⟩:=ho a z
   rw [h1] at e; cases e
theorem retF_ok {K:Frag} {H H':Hp} {O:Addr->Prop} {v:V} {r:Ret} {l:List D} (h:RetOk K H H' v r) (e:retF r=some l) (ho:∀ a,O a->Old H a):∃ a xs,v = .ref a/\H a=none/\H' a=some (.lst xs)/\Reps K H' (ins1 a O) xs l:=by
 cases r with
 | any d'=>cases e
 | val d'=>cases e
 | obj t=>cases e
 | fresh l' =>
   cases e
   obtain ⟨a,xs,rfl,h1,h2,h3⟩:=h
   exact ⟨a,xs,rfl,h1,h2,h3.less fun b z=>z.elim .inl fun z=>.inr (ho b z)⟩
section
variable {k:Nat} {f:Addr} {fd:FuncData} {ps:List Str} {n:Nat} {F:List D->Option Ret} {x:Str} {p pos:Pos} {e:Expr} {es:List Expr} {g:FA}
end
def CallS (X:Cx) (r:List V->Hp->VK->Prop) (F:List D->Option D):Prop:=∀ H O vs l d Q,(∀ a,O a->∃ xs,H a=some (.lst xs))->Paired (WRep X.K H O) vs l->F l=some d->(∀ v H',Same H H'->Rep X.K H' O v d->Q v H')->r vs H Q
theorem kD {x:Str} {p pos:Pos} {e:Expr} {es:List Expr} {id:String} {r:List V->Hp->VK->Prop} {F:List D->Option D} {g:FA} (hc:CallR X (.builtin id) r) (hs:CallS X r F) (hm:X.mg x=none) (hv:bootBuiltins x=some (.builtin id)) (ha:PAv X (e::es) g)
  (hg:Gl X x) (hn:x≠"__name__":=by decide) (hdb:(x == ("__debug__" : Str))=false:=by decide) (he:starEach (e::es) X.env=(false,eval e X.env)::starEach es X.env:=by rfl) (hpl:(backTo pos (starEach es X.env)).any (·.1)=false:=by rfl) :
  PV X (.Call (.Name x p) (e::es) [] pos) (callB F g):=by
 obtain ⟨t,ht,hf⟩:=ha
 refine ⟨_,pe_callB hc hg hm hv ht hn hdb he hpl,fun H₀ H O σ ds hd d Q o e q=>?_⟩
 unfold callB at e
 cases h:g ds with
 | none=>rw [h] at e; cases e
 | some l =>
   rw [h] at e
   refine hf H₀ H O σ ds hd l _ o h fun vs H1 s1 r1=>?_
   exact hs H1 O vs l d Q (o.mono s1).dom r1 e fun v H' s' r=>q v H' (s1.trans s') r
theorem call_lenU:CallR X (.builtin "len") (fun xs H Q=>(∃ p ys,xs=[.ref p]/\(SqL X.K H p ys \/ SqT X.K H p ys)/\Q (.int ys.length) H) \/ ∃ z,xs=[.str z]/\z.length<=sizeLine/\Q (.int z.length) H):=call_len_seq.or call_len_str
theorem cs_len:CallS X (fun xs H Q=>(∃ p ys,xs=[.ref p]/\(SqL X.K H p ys \/ SqT X.K H p ys)/\Q (.int ys.length) H) \/ ∃ z,xs=[.str z]/\z.length<=sizeLine/\Q (.int z.length) H) lenD:=by
 intro H O vs l d Q ho r e q
 match l,r,e with
 | [.lst l], .cons r .nil, e =>
   cases e
   obtain ⟨a,xs,rfl,hs,rs⟩:=r.seqL
   refine .inl ⟨a,xs,rfl,.inl hs,?_⟩
   rw [rs.length]
   exact q _ H (Same.refl _) (.int _)
 | [.tup l], .cons r .nil, e =>
   cases e
   obtain ⟨a,xs,rfl,hs,rs⟩:=r.seqT
   refine .inl ⟨a,xs,rfl,.inr hs,?_⟩
   rw [rs.length]
   exact q _ H (Same.refl _) (.int _)
 | [.str x], .cons r .nil, e =>
   simp only [lenD] at e
   split at e
   · rename_i hl
     cases e
     rw [r.str']
     exact .inr ⟨x,rfl,hl,q _ H (Same.refl _) (.int _)⟩
   · cases e
theorem yO {p pos:Pos} {e:Expr} {g:FA} (hm:X.mg "len" = none) (ha:PAv X [e] g) (hg:Gl X "len":=by rfl) (he:starEach [e] X.env=[(false,eval e X.env)]:=by rfl) :
  PV X (.Call (.Name "len" p) [e] [] pos) (callB lenD g):=kD call_lenU cs_len hm PySem.boot_len ha hg (by decide) (by decide) he rfl
def After (X:Cx) (H₀ : Hp) (hd:Hold) (E:Ends):Out->Prop
 | .nx ds=>∀ σ H O,Ok X.K H₀ H O σ ds hd->E.nx σ H
 | .bk ds=>∀ σ H O,Ok X.K H₀ H O σ ds hd->E.bk σ H
 | .ct ds=>∀ σ H O,Ok X.K H₀ H O σ ds hd->E.ct σ H
 | .rt r=>∀ v H,Same H₀ H->RetOk X.K H₀ H v r->RetB X.K H hd v r->E.rt v H
variable (X) in
def PSv (st:Stmt) (g:FS):Prop:=∃ t,PS X st t/\∀ H₀ H O σ ds hd out E,Ok X.K H₀ H O σ ds hd->g ds=some out->After X H₀ hd E out->t E σ H
variable (X) in
def PSsv (st:List Stmt) (g:FS):Prop:=∃ t,PSs X st t/\∀ H₀ H O σ ds hd out E,Ok X.K H₀ H O σ ds hd->g ds=some out->After X H₀ hd E out->t E σ H
theorem zQ:PSsv X [] qO:=⟨_,pss_nil,fun _ H O σ ds hd out E o e h=>by cases e; exact h σ H O o⟩
theorem zC {st:Stmt} {rest:List Stmt} {f g:FS} (h1:PSv X st f) (h2:PSsv X rest g):PSsv X (st::rest) (qG f g):=by
 obtain ⟨t,ht,hf⟩:=h1
 obtain ⟨u,hu,hg⟩:=h2
 refine ⟨_,kG ht hu,fun H₀ H O σ ds hd out E o e h=>?_⟩
 unfold qG at e
 cases h1:f ds with
 | none=>rw [h1] at e; cases e
 | some o1 =>
   rw [h1] at e
   refine hf H₀ H O σ ds hd o1 _ o h1 ?_
   cases o1 with
   | nx ds'=>exact fun σ' H' O' o'=>hg H₀ H' O' σ' ds' hd out E o' e h
   | rt r=>cases e; exact h
   | bk ds'=>cases e; exact h
   | ct ds'=>cases e; exact h
theorem zH {st:Stmt} {f:FS} (h1:PSv X st f):PSsv X [st] f:=by
 obtain ⟨t,ht,hf⟩:=h1
 exact ⟨_,pss_one ht,hf⟩
theorem psv_continue {pos:Pos} : PSv X (.Continue pos) (fun ds=>some (.ct ds)):=⟨_,ps_continue,fun _ H O σ ds hd out E o e h=>by cases e; exact h σ H O o⟩
theorem qE {c:Expr} {a b:List Stmt} {pos:Pos} {fc:FT} {f g:FS} (hc:PTv X c fc) (ha:PSsv X a f) (hb:PSsv X b g):PSv X (.If c a b pos) (ifG fc f g):=by
 obtain ⟨tc,pc,hc⟩:=hc
 obtain ⟨t,ht,hf⟩:=ha
 obtain ⟨u,hu,hg⟩:=hb
 refine ⟨_,ps_if pc ht hu,fun H₀ H O σ ds hd out E o e h=>?_⟩
 unfold ifG at e
 cases h1:fc ds with
 | none=>rw [h1] at e; cases e
 | some k =>
   rw [h1] at e
   refine hc H₀ H O σ ds hd k _ o h1 fun H' s=>?_
   cases k with
   | true=>exact iteT (hf H₀ H' O σ ds hd out E (o.mono s) (by simpa using e) h)
   | false=>exact iteF (hg H₀ H' O σ ds hd out E (o.mono s) (by simpa using e) h)
theorem zV {i:Nat} {x:Str} {e:Expr} {pos pos':Pos} {f:FE} (hN:X.N.Nodup) (he:PV X e f) (hi:X.N[i]? = some x:=by rfl) (hx:Loc X.env.scope x:=by first | exact Or.inl rfl | exact Or.inr rfl) (hs:swapsWith e (some (.Name x pos')) pos.line X.env=pure false:=by rfl)
  (hf:X.fn x=true \/ X.env.scope.names.lookup x=some .local:=by first | exact .inl rfl | exact .inr rfl):PSv X (.Assign [.Name x pos'] e pos) (jM i f):=by
 obtain ⟨t,ht,hg⟩:=he
 refine ⟨_,ps_set hN hi hx ht hs hf,fun H₀ H O σ ds hd out E o e h=>?_⟩
 unfold jM at e
 cases h1:f ds with
 | none=>rw [h1] at e; cases e
 | some d =>
   rw [h1] at e
   cases e
   exact hg H₀ H O σ ds hd d _ o h1 fun v H' s r=>h _ _ _ ((o.mono s).set r)
theorem yD {i:Nat} {x:Str} {e:Expr} {pos pos':Pos} {f:FA} (hN:X.N.Nodup) (he:PVf X e f) (hi:X.N[i]? = some x:=by rfl) (hx:Loc X.env.scope x:=by first | exact Or.inl rfl | exact Or.inr rfl) (hs:swapsWith e (some (.Name x pos')) pos.line X.env=pure false:=by rfl)
  (hf:X.fn x=true \/ X.env.scope.names.lookup x=some .local:=by first | exact .inl rfl | exact .inr rfl):PSv X (.Assign [.Name x pos'] e pos) (setOG i f):=by
 obtain ⟨t,ht,hg⟩:=he
 refine ⟨_,ps_set hN hi hx ht hs hf,fun H₀ H O σ ds hd out E o e h=>?_⟩
 unfold setOG at e
 cases h1:f ds with
 | none=>rw [h1] at e; cases e
 | some l =>
   rw [h1] at e
   cases e
   exact hg H₀ H O σ ds hd l _ o h1 fun a xs H' s hn he r=>h _ _ _ (o.setO s hn he r)
theorem zP {e:Expr} {pos:Pos} {f:FE} (he:PVw X e f):PSv X (.Return (some e) pos) (retG f):=by
 obtain ⟨t,ht,hg⟩:=he
 refine ⟨_,vS ht,fun H₀ H O σ ds hd out E o e h=>?_⟩
 unfold retG at e
 cases h1:f ds with
 | none=>rw [h1] at e; cases e
 | some d =>
   rw [h1] at e
   simp only [Option.bind_some,flatR] at e
   split at e
   · rename_i hf
     cases e
     exact hg H₀ H O σ ds hd d _ o h1 fun v H' s r=>h _ _ (o.same.trans s) (Rep.flatten (fun a z=>Old.mono (o.same.trans s) z) hf r.any) True.intro
   · cases e
theorem wO {e:Expr} {pos:Pos} {f:FA} (he:PVf X e f):PSv X (.Return (some e) pos) (retOG f):=by
 obtain ⟨t,ht,hg⟩:=he
 refine ⟨_,vS ht,fun H₀ H O σ ds hd out E o e h=>?_⟩
 unfold retOG at e
 cases h1:f ds with
 | none=>rw [h1] at e; cases e
 | some l =>
   rw [h1] at e
   simp only [Option.bind_some,flatF] at e
   split at e
   · rename_i hf
     cases e
     refine hg H₀ H O σ ds hd l _ o h1 fun a xs H' s hn he r=>h _ _ (o.same.trans s) ⟨a,xs,rfl,o.same.free hn,he,Reps.flatten (fun b z=>?_) hf r⟩ True.intro
     rcases z with rfl | z
     · exact ⟨_,he,rfl⟩
     · exact Old.mono (o.same.trans s) z
   · cases e
theorem yQ (i:Nat) {x:Str} {pos pos':Pos} (hN:X.N[i]? = some x:=by rfl) (hv:Vis X.env.scope x:=by first | exact Or.inl rfl | exact Or.inr (Or.inl rfl) | exact Or.inr (Or.inr rfl)) (hd:(x == ("__debug__" : Str))=false:=by decide)
  (hcd:(x == ("__classdict__" : Str))=false:=by decide):PSv X (.Return (some (.Name x pos')) pos) (retXG i):=by
 refine ⟨_,vS (xP hN hv hd hcd),fun H₀ H O σ ds hd out E o e h=>?_⟩
 unfold retXG at e
 cases hs:ds[i]? with
 | none=>rw [hs] at e; cases e
 | some s =>
   rw [hs] at e
   cases s with
   | v d'=>cases e
   | no=>cases e
   | exc _=>cases e
   | fr _=>cases e
   | ob _ _=>cases e
   | own l =>
     simp only [flatF] at e
     split at e
     · rename_i hf
       cases e
       obtain ⟨a,xs,h1,h2,h3,h4⟩:=o.readO hs
       refine ⟨.ref a,h1,h _ _ o.same ⟨a,xs,rfl,o.fresh i l a hs h1,h3,Reps.flatten (fun b z=>?_) hf h4⟩ True.intro⟩
       rcases z with rfl | z
       · exact ⟨_,h3,rfl⟩
       · exact Old.mono o.same z
     · cases e
theorem psv_put {i:Nat} {x:Str} {e ek:Expr} {pos p1 p2:Pos} {fk fe:FE} (he:PV X e fe) (hk:PV X ek fk) (hN:X.N[i]? = some x:=by rfl) (hv:Vis X.env.scope x:=by first | exact Or.inl rfl | exact Or.inr (Or.inl rfl) | exact Or.inr (Or.inr rfl)) (hd:(x == ("__debug__" : Str))=false:=by decide)
  (hcd:(x == ("__classdict__" : Str))=false:=by decide)
  (ha:∀ v,assign (.Subscript (.Name x p1) ek p2) X.env v=(do
    let ov <- holding [v] (eval (.Name x p1) X.env)
    let iv <- holding [v,ov] (eval ek X.env)
    standAt p2
    holding [v,ov,iv] (setItem ov iv v)
    release [v,ov,iv] []):=by intro _; rfl)
  (hs:swapsWithSole [.Subscript (.Name x p1) ek p2] e pos.line X.env=pure false:=by rfl) (hw:swappedStores [.Subscript (.Name x p1) ek p2] e X.env=pure none:=by rfl)
  (h1:(assignEach [.Subscript (.Name x p1) ek p2] X.env).map (·.2)=[assign (.Subscript (.Name x p1) ek p2) X.env]:=by rfl):PSv X (.Assign [.Subscript (.Name x p1) ek p2] e pos) (putG i fk fe):=by
 obtain ⟨te,pe,he⟩:=he
 obtain ⟨tk,pk,hk⟩:=hk
 refine ⟨_,ps_asg pe (pg_sub (xP hN hv hd hcd) pk set_list ha) hs hw h1,fun H₀ H O σ ds hd out E o e h=>?_⟩
 unfold putG at e
 cases hsl:ds[i]? with
 | none=>rw [hsl] at e; cases e
 | some s =>
   rw [hsl] at e
   cases s with
   | v d'=>cases e
   | no=>cases e
   | exc _=>cases e
   | fr _=>cases e
   | ob _ _=>cases e
   | own l =>
     simp only at e
     cases h1:fe ds with
     | none=>rw [h1] at e; cases e
     | some d =>
       cases h2:fk ds with
       | none=>rw [h1,h2] at e; cases e
       | some kd =>
         rw [h1,h2] at e
         simp only [Option.bind_some] at e
         cases kd with
         | int n =>
           simp only at e
           cases h3:ixN l.length n with
           | none=>rw [h3] at e; cases e
           | some j =>
             rw [h3] at e
             cases e
             refine he H₀ H O σ ds hd d _ o h1 fun v H1 s1 r1=>?_
             obtain ⟨a,xs,q1,q2,q3,q4⟩:=(o.mono s1).readO hsl
             refine ⟨.ref a,q1,?_⟩
             refine hk H₀ H1 O σ ds hd _ _ (o.mono s1) h2 fun kv H2 s2 r2=>?_
             cases r2
             refine ⟨a,xs,n,j,rfl,rfl,s2 _ _ q3,by rw [q4.length]; exact h3,?_⟩
             exact h _ _ _ (((o.mono s1).mono s2).modify hsl q1 ((q4.mono s2).set (r1.mono s2) j))
         | _=>cases e
theorem xB {i:Nat} {x:Str} {e:Expr} {pos p1 p2 p3:Pos} {fe:FE} (he:PV X e fe) (hN:X.N[i]? = some x:=by rfl) (hv:Vis X.env.scope x:=by first | exact Or.inl rfl | exact Or.inr (Or.inl rfl) | exact Or.inr (Or.inr rfl)) (hd:(x == ("__debug__" : Str))=false:=by decide)
  (hcd:(x == ("__classdict__" : Str))=false:=by decide)
  (hfew:((backTo p3 (starEach [e] X.env)).all (fun x=>!x.1) && (backToKw p3 (keywordEach [] X.env)).all (fun x=>x.1.isSome)
    && decide ([e].length+([]:List Keyword).length+(if ([]:List Keyword).isEmpty then 0 else 1) < 30))=true:=by rfl)
  (hline:(p2.endLine == p3.line)=true:=by rfl) (hs:starEach [e] X.env=(false,eval e X.env)::starEach [] X.env:=by rfl)
  (hbase:attributeBase (.Name x p1) "append" X.env (eval (.Name x p1) X.env)=eval (.Name x p1) X.env:=by rfl) (hsw:swapsWith (.Call (.Attribute (.Name x p1) "append" p2) [e] [] p3) none pos.line X.env=pure false:=by rfl) :
  PSv X (.Expr (.Call (.Attribute (.Name x p1) "append" p2) [e] [] p3) pos) (appG i fe):=by
 obtain ⟨te,pe,he⟩:=he
 refine ⟨_,ps_expr (pe_bm PySem.F.plainAttrs_list PySem.F.slot_list_append PySem.F.type_list_append mt_append (xP hN hv hd hcd) (yL pe xO hs) hbase hfew hline hs rfl) hsw,fun H₀ H O σ ds hd out E o e h=>?_⟩
 unfold appG at e
 cases hsl:ds[i]? with
 | none=>rw [hsl] at e; cases e
 | some s =>
   rw [hsl] at e
   cases s with
   | v d'=>cases e
   | no=>cases e
   | exc _=>cases e
   | fr _=>cases e
   | ob _ _=>cases e
   | own l =>
     simp only at e
     cases h1:fe ds with
     | none=>rw [h1] at e; cases e
     | some d =>
       rw [h1] at e
       simp only [Option.bind_some] at e
       split at e
       · rename_i hl
         cases e
         obtain ⟨a,xs,q1,q2,q3,q4⟩:=o.readO hsl
         refine ⟨.ref a,q1,.inl ⟨rfl,xs,SqL.of q3⟩,?_⟩
         refine he H₀ H O σ ds hd d _ o h1 fun v H1 s1 r1=>?_
         refine ⟨a,xs,v,rfl,rfl,s1 _ _ q3,by rw [q4.length]; exact hl,?_⟩
         exact h _ _ _ ((o.mono s1).modify hsl q1 ((q4.mono s1).append (.cons r1 .nil)))
       · cases e
theorem args_ob (n:Nat) (ds:List D) (i:Nat) (r:Option Nat) (t:OT):(args n ds)[i]?≠some (.ob r t):=fun e=>by
 unfold args at e
 by_cases hi:i < ds.length
 · rw [List.getElem?_append_left (by simpa using hi), List.getElem?_map] at e
   cases h:ds[i]? with
   | none=>rw [h] at e; cases e
   | some d=>rw [h] at e; cases e
 · rw [List.getElem?_append_right (by simpa using hi), List.getElem?_replicate] at e
   split at e <;> cases e
theorem ok_start {K:Frag} {H:Hp} {N:List Str} {vs:List V} {ds:List D} (r:Reps K H jI vs ds):Ok K H H jI (L2.start N vs) (args N.length ds) []:=by
 have hl:=r.length
 have no:∀ i,IsOwn (args N.length ds) i->False:=fun i ⟨l,e⟩=>by
  unfold args at e
  by_cases hi:i < ds.length
  · rw [List.getElem?_append_left (by simpa using hi), List.getElem?_map] at e
    cases h:ds[i]? with
    | none=>rw [h] at e; cases e
    | some d=>rw [h] at e; cases e
  · rw [List.getElem?_append_right (by simpa using hi), List.getElem?_replicate] at e
    split at e <;> cases e
 refine ⟨Same.refl _,fun i l a e _=>(no i ⟨l,e⟩).elim,fun _ z=>z.elim,by simp [L2.start,args,hl],fun i s e=>?_,fun i j a _ hi _ _ _=>no i hi,(fun p hp=>nomatch hp),.no (args_ob _ _)⟩
 unfold args at e
 unfold L2.start
 by_cases hi:i < ds.length
 · rw [List.getElem?_append_left (by simpa using hi), List.getElem?_map] at e
   rw [List.getElem?_append_left (by simpa [hl] using hi),List.getElem?_map]
   cases h:ds[i]? with
   | none=>rw [h] at e; cases e
   | some d =>
     rw [h] at e
     cases e
     obtain ⟨v,h1,h2⟩:=r.get h
     rw [h1]
     exact wI h2
 · rw [List.getElem?_append_right (by simpa using hi), List.getElem?_replicate] at e
   split at e
   · cases e; exact yF
   · cases e
def Does (g:FS) (n:Nat) (ds:List D) (r:Ret):Prop:=g (args n ds)=some (.rt r) \/ (r = .val .non/\∃ ds',g (args n ds)=some (.nx ds'))
theorem qR {P:Program} {w:World} {K:Frag} {mg:Str->Option Value} {base:Heap} {x qual:Str} {st:Stmt} {f:Addr} {fd:FuncData} {N ps:List Str} {k:Nat} {F:List D->Option Ret} (Fn:Fun K x qual st f fd) (S:FnScope N ps (zB st))
  {g:FS} (hbody:∀ (cdv:Value) (A:Around) (outer:List Env) (s:Shared) (H:Hp) (E:XK),Room k (A.deeper (envOfC qual (zB st) s.heap.objs.size f cdv))->PSsv (cxOf CX0 P w K mg base N qual (zB st) f cdv A outer s H E).nox (zI st) g)
  (hg:∀ ds r,ds.length=ps.length->F ds=some r->Does g N.length ds r):FnOk P w K mg base CX0 (k+1) f fd ps (spF K ps.length F):=by
 refine Fn.ok S (fun vs H Q E h=>h.1) (fun cdv A outer s H vs Q E hr h=>?_)
 obtain ⟨hl,ds,r,rv,e,q⟩:=h
 obtain ⟨t,ht,hf⟩:=hbody cdv A outer s H E hr
 refine ⟨t,ht,?_⟩
 have o:=ok_start (N:=N) rv
 rcases hg ds r (by rw [<- rv.length]; exact hl) e with e' | ⟨rfl,ds',e'⟩
 · exact hf H H jI _ _ [] _ _ o e' (fun v H' s r _=>q v H' s r)
 · exact hf H H jI _ _ [] _ _ o e' (fun σ H' O o'=>q .non H' o'.same .non)
end
end FL
namespace L2
open PySem PySem.Spec PyProof.Rows
section
variable {X:Cx} {tg:Expr}
end
end L2
namespace FL
open PySem PySem.Spec PyProof.Rows L2
def Wlk (K:Frag) (J:It) (p:V×D) (items:List D):Prop:=∀ H O,(∀ a,O a->∃ xs,H a=some (HO.lst xs))->Rep K H O p.1 p.2 →
 (∀ i d,items[i]? = some d->J.go i H/\∀ x H',J.yld i H x H'->Same H H'/\Rep K H' O x d)/\J.stop items.length H
section
variable {X:Cx}
variable (X) in
def PIv (tg iter:Expr) (fi:FA):Prop:=∃ wi,PI X tg iter wi/\∀ H₀ H O σ ds hd items R,Ok X.K H₀ H O σ ds hd->fi ds=some items →
 (∀ J p H',Same H H'->Rep X.K H' O p.1 p.2->Wlk X.K J p items->R J H')->wi σ H R
theorem wlk_list {K:Frag} {a:Addr} {l:List D} : Wlk K (Itl K a) (.ref a,.lst l) l:=by
 intro H O _ r
 obtain ⟨b,xs,e,hs,rs⟩:=WRep.seqL (.inl r)
 cases e
 refine ⟨fun i d hd=>?_,⟨xs,hs,by rw [rs.length]; exact Nat.le_refl _⟩⟩
 obtain ⟨v,h1,h2⟩:=rs.get hd
 refine ⟨⟨xs,v,hs,h1⟩,fun x H' y=>?_⟩
 obtain ⟨rfl,y⟩:=y
 have:=y xs hs
 rw [h1] at this; cases this
 exact ⟨Same.refl _,h2⟩
theorem wlk_tup {K:Frag} {a:Addr} {l:List D} : Wlk K (Itt K a) (.ref a,.tup l) l:=by
 intro H O _ r
 obtain ⟨b,xs,e,hs,rs⟩:=WRep.seqT (.inl r)
 cases e
 refine ⟨fun i d hd=>?_,⟨xs,hs,by rw [rs.length]; exact Nat.le_refl _⟩⟩
 obtain ⟨v,h1,h2⟩:=rs.get hd
 refine ⟨⟨xs,v,hs,h1⟩,fun x H' y=>?_⟩
 obtain ⟨rfl,y⟩:=y
 have:=y xs hs
 rw [h1] at this; cases this
 exact ⟨Same.refl _,h2⟩
theorem vF {K:Frag} {lo:Int} {n:Nat} : Wlk K (Itr lo n) (.non,.non) (rangeD lo n):=by
 intro H O _ r
 have hl:(rangeD lo n).length=n:=by simp [rangeD]
 refine ⟨fun i d hd=>?_,show n<=_ by rw [hl]; exact Nat.le_refl _⟩
 have hi:i < n:=by
  have:=(List.getElem?_eq_some_iff.mp hd).1
  rwa [hl] at this
 refine ⟨hi,fun x H' y=>?_⟩
 obtain ⟨rfl,rfl⟩:=y
 have:d=D.int (lo+(i:Int)):=by
  simp only [rangeD,List.getElem?_map,List.getElem?_range hi,Option.map_some] at hd
  exact (Option.some.inj hd).symm
 subst this
 exact ⟨Same.refl _,.int _⟩
theorem piv_range1 {tg e:Expr} {p pos:Pos} {f:FE} (hm:X.mg "range" = none) (h:PV X e f) (hg:Gl X "range":=by rfl) (hs:starEach [e] X.env=[(false,eval e X.env)]:=by rfl):PIv X tg (.Call (.Name "range" p) [e] [] pos) (rng1 f):=by
 obtain ⟨t,ht,hf⟩:=h
 refine ⟨_,pi_range1 hg hm (yL ht xO hs) hs,fun H₀ H O σ ds hd items R o e q=>?_⟩
 unfold rng1 at e
 cases h1:f ds with
 | none=>rw [h1] at e; cases e
 | some d =>
   rw [h1] at e
   simp only [Option.bind_some] at e
   cases d with
   | int j =>
     simp only at e
     split at e
     · rename_i hj
       cases e
       refine hf H₀ H O σ ds hd _ _ o h1 fun v H' s r=>?_
       cases r
       exact ⟨j,rfl,hj.1,hj.2,q _ (.non,.non) H' s .non vF⟩
     · cases e
   | _=>cases e
variable (X) in
def PGv (tg:Expr) (ga:D->List Sl->Option (List Sl)):Prop:=∃ g,PG X tg g/\∀ H₀ H O σ ds hd v d ds' Q,Ok X.K H₀ H O σ ds hd->Rep X.K H O v d->ga d ds=some ds'->(∀ σ',Ok X.K H₀ H O σ' ds' hd->Q σ' H)->g v σ H Q
variable (X) in
def PGsv (tgs:List Expr) (ga:List D->List Sl->Option (List Sl)):Prop:=∃ g,PGs X tgs g/\∀ H₀ H O σ ds hd vs l ds' Q,Ok X.K H₀ H O σ ds hd->Reps X.K H O vs l->ga l ds=some ds'->(∀ σ',Ok X.K H₀ H O σ' ds' hd->Q σ' H)->g vs σ H Q
theorem zS {i:Nat} {x:Str} {pos:Pos} (hN:X.N.Nodup) (hi:X.N[i]? = some x:=by rfl) (hx:Loc X.env.scope x:=by first | exact Or.inl rfl | exact Or.inr rfl)
  (hf:X.fn x=true \/ X.env.scope.names.lookup x=some .local:=by first | exact .inl rfl | exact .inr rfl):PGv X (.Name x pos) (zT i) :=
 ⟨_,pg_name hN hi hx hf,fun H₀ H O σ ds hd v d ds' Q o r e q=>by cases e; exact q _ (o.set r)⟩
theorem jO:PGsv X [] tgNil:=⟨_,pgs_nil,fun H₀ H O σ ds hd vs l ds' Q o r e q=>by
 cases r with
 | nil=>cases e; exact ⟨rfl,q _ o⟩
 | cons _ _=>cases e⟩
theorem zW {e:Expr} {es:List Expr} {g:D->List Sl->Option (List Sl)} {h:List D->List Sl->Option (List Sl)} (h1:PGv X e g) (h2:PGsv X es h)
  (hs:(assignEach (e::es) X.env).map (·.2)=assign e X.env::(assignEach es X.env).map (·.2):=by rfl):PGsv X (e::es) (zO g h):=by
 obtain ⟨t,ht,hf⟩:=h1
 obtain ⟨u,hu,hg⟩:=h2
 refine ⟨_,pgs_cons ht hu hs,fun H₀ H O σ ds hd vs l ds' Q o r e q=>?_⟩
 cases r with
 | nil=>cases e
 | cons r1 rr =>
   rename_i v d vr dr
   simp only [zO] at e
   cases h1:g d ds with
   | none=>rw [h1] at e; cases e
   | some ds1 =>
     rw [h1] at e
     exact ⟨v,vr,rfl,hf H₀ H O σ ds hd v d ds1 _ o r1 h1 fun σ' o'=>hg H₀ H O σ' ds1 hd vr dr ds' Q o' rr e q⟩
theorem yG {es:List Expr} {k:Nat} {pos:Pos} {h:List D->List Sl->Option (List Sl)} {n:Nat} (hc:X.calm=true) (hh:PGsv X es h)
  (hn:(assignEach es X.env).length=n:=by rfl) (hst:(assignEach es X.env).findIdx? (·.1)=none:=by rfl):PGv X (.Tuple es k pos) (tupG n h):=by
 obtain ⟨t,ht,hf⟩:=hh
 refine ⟨_,pg_tup hc ht hn hst,fun H₀ H O σ ds hd v d ds' Q o r e q=>?_⟩
 cases d with
 | tup l =>
   simp only [tupG] at e
   split at e
   · rename_i hl
     obtain ⟨a,xs,rfl,hs,rs⟩:=WRep.seqT (.inl r)
     exact ⟨a,xs,rfl,hs,by rw [rs.length]; exact hl,hf H₀ H O σ ds hd xs l ds' Q o rs e q⟩
   · cases e
 | _=>cases e
theorem retB_less {K:Frag} {H:Hp} {hd:Hold} {q:HI} {v:V} {r:Ret} (h:RetB K H (q::hd) v r):RetB K H hd v r:=by
 cases r with
 | any d=>exact fun B hB=>h B (List.mem_cons_of_mem _ hB)
 | _=>exact True.intro
theorem jW {tg iter:Expr} {body:List Stmt} {pos:Pos} {fi:FA} {ga:D->List Sl->Option (List Sl)} {g:FS} (hp:PassesOwn (model X.prog X.w) X.A X.env X.xe) (hc:X.calm=true) (hi:PIv X tg iter fi) (hg:PGv X tg ga) (hb:PSsv X body g)
  (hs:∀ x,foldedSetIterable iter X.env x=pure x:=by intro _; rfl):PSv X (.For tg iter body [] pos) (forG fi ga g):=by
 obtain ⟨wi,pi,hi⟩:=hi
 obtain ⟨tg',pg,hg⟩:=hg
 obtain ⟨tb,pb,hb⟩:=hb
 refine ⟨_,ps_for hp hc pi pg pb hs,fun H₀ H O σ ds hd out E o e h=>?_⟩
 unfold forG at e
 cases h1:fi ds with
 | none=>rw [h1] at e; cases e
 | some items =>
   rw [h1] at e
   simp only [Option.bind_some] at e
   refine hi H₀ H O σ ds hd items _ o h1 fun J p H' s r wk=>?_
   refine ⟨fun i m σ' H'=>i<=items.length/\m=items.length - i/\∃ O' ds',Ok X.K H₀ H' O' σ' ds' (HI.rep p.1 p.2::hd)/\qS ga g (items.drop i) ds'=some out,⟨items.length,Nat.zero_le _,rfl,O,ds,(o.mono s).holdMore (p:=HI.rep p.1 p.2) r,by simpa using e⟩,?_⟩
   rintro i m σ1 H1 ⟨hi1,rfl,O1,ds1,o1,e1⟩
   obtain ⟨go,stop⟩:=wk H1 O1 o1.dom (o1.hold (HI.rep p.1 p.2) List.mem_cons_self)
   by_cases hlt:i < items.length
   · right
     have hd0:items[i]? = some items[i]:=List.getElem?_eq_getElem hlt
     obtain ⟨hgo,hy⟩:=go i _ hd0
     rw [List.drop_eq_getElem_cons hlt,qS] at e1
     refine ⟨hgo,fun σ' H'=>i+1<=items.length/\∃ O' ds',Ok X.K H₀ H' O' σ' ds' (HI.rep p.1 p.2::hd)/\qS ga g (items.drop (i+1)) ds'=some out,fun σ' H' ⟨q1,q2⟩=>⟨items.length - (i+1),by omega,q1,rfl,q2⟩,fun x H2 y=>?_⟩
     obtain ⟨s2,r2⟩:=hy x H2 y
     cases h2:ga items[i] ds1 with
     | none=>rw [h2] at e1; cases e1
     | some ds2 =>
       rw [h2] at e1
       simp only [Option.bind_some] at e1
       cases h3:g ds2 with
       | none=>rw [h3] at e1; cases e1
       | some o3 =>
         rw [h3] at e1
         simp only [Option.bind_some] at e1
         refine hg H₀ H2 O1 σ1 ds1 (HI.rep p.1 p.2::hd) x _ ds2 _ (o1.mono s2) r2 h2 fun σ' o'=>?_
         refine hb H₀ H2 O1 σ' ds2 (HI.rep p.1 p.2::hd) o3 _ o' h3 ?_
         cases o3 with
         | nx ds3=>exact fun σ3 H3 O3 ok3=>⟨hlt,O3,ds3,ok3,e1⟩
         | ct ds3=>exact fun σ3 H3 O3 ok3=>⟨hlt,O3,ds3,ok3,e1⟩
         | bk ds3=>cases e1; exact fun σ3 H3 O3 ok3=>h σ3 H3 O3 ok3.holdLess
         | rt rr=>cases e1; exact fun v H s r b=>h v H s r (retB_less b)
   · left
     have ei:i=items.length:=by omega
     subst ei
     rw [List.drop_length,qS] at e1
     cases e1
     exact ⟨stop,h σ1 H1 O1 o1.holdLess⟩
variable (X) in
def PFv (ifs:List Expr) (c:FT):Prop:=∃ t,PF X ifs t/\∀ H₀ H O σ ds hd b Q,Ok X.K H₀ H O σ ds hd->c ds=some b->(∀ H',Same H H'->Q b H')->t σ H Q
theorem wH:PFv X [] (fun _=>some true):=⟨_,pf_nil,fun _ H _ _ _ _ _ _ _ e q=>by cases e; exact q H (Same.refl _)⟩
theorem pfv_one {c:Expr} {fc:FT} (h:PTv X c fc):PFv X [c] fc:=by
 obtain ⟨t,ht,hf⟩:=h
 exact ⟨_,pf_one ht,hf⟩
theorem Ok.inner {K:Frag} {H₀ H:Hp} {O:Addr->Prop} {σ : L2.St} {ds:List Sl} {hd:Hold} (o:Ok K H₀ H O σ ds hd) (mp:List (Option Nat)):Ok K H₀ H O (slotsY mp σ) (jS mp ds) hd:=by
 have no:∀ {i:Nat} {l:List D},(jS mp ds)[i]? = some (.own l)->False:=fun {i l} e=>by
  unfold jS at e
  rw [List.getElem?_map] at e
  cases hm:mp[i]? with
  | none=>rw [hm] at e; cases e
  | some m =>
    rw [hm] at e
    simp only [Option.map_some,Option.some.injEq] at e
    cases m with
    | none=>cases e
    | some j =>
      simp only at e
      split at e <;> cases e
 refine ⟨o.same,fun i l a e _=>(no e).elim,o.dom,by simp [slotsY,jS],fun i s e=>?_,fun i j a hij hi hj e1 e2=>?_,o.hold,.no fun i r t e=>by
  unfold jS at e
  rw [List.getElem?_map] at e
  cases hm:mp[i]? with
  | none=>rw [hm] at e; cases e
  | some m =>
    rw [hm] at e
    simp only [Option.map_some,Option.some.injEq] at e
    cases m with
    | none=>cases e
    | some j =>
      simp only at e
      split at e <;> cases e⟩
 · unfold jS at e
   unfold slotsY
   rw [List.getElem?_map] at e ⊢
   cases hm:mp[i]? with
   | none=>rw [hm] at e; cases e
   | some m =>
     rw [hm] at e
     simp only [Option.map_some,Option.some.injEq] at e
     cases m with
     | none =>
       simp only at e
       subst e; exact yF
     | some j =>
       simp only at e
       cases hj:ds[j]? with
       | none=>rw [hj] at e; subst e; exact yF
       | some s' =>
         rw [hj] at e
         cases s' with
         | no=>subst e; exact yF
         | exc _=>subst e; exact yF
         | fr _=>subst e; exact yF
         | ob _ _=>subst e; exact yF
         | own l=>subst e; exact yF
         | v d =>
           simp only at e
           subst e
           obtain ⟨v,h1,h2⟩:=o.read hj
           simp only [Option.map_some,Option.bind_some,h1,Option.join_some]
           exact wI h2
 · obtain ⟨l, e⟩ := hi
   unfold jS at e
   rw [List.getElem?_map] at e
   cases hm:mp[i]? with
   | none=>rw [hm] at e; cases e
   | some m =>
     rw [hm] at e
     simp only [Option.map_some,Option.some.injEq] at e
     cases m with
     | none=>cases e
     | some j =>
       simp only at e
       cases hj:ds[j]? with
       | none=>rw [hj] at e; cases e
       | some s'=>rw [hj] at e; cases s' <;> cases e
section
variable {scope:Scope} {NY:List Str} {mp:List (Option Nat)} {tg iter elt:Expr} {ifs:List Expr} {pos:Pos} {fi:FA} {ga:D->List Sl->Option (List Sl)} {tt:FT} {fe:FE}
theorem comp_sem {wi:TI} {g:CI->TG} {t1:CI->TT} {t2:CI->TE}
  (hi:∀ H₀ H O σ ds hd items R,Ok X.K H₀ H O σ ds hd->fi ds=some items->(∀ J p H',Same H H'->Rep X.K H' O p.1 p.2->Wlk X.K J p items->R J H')->wi σ H R)
  (hg:∀ c H₀ H O σ ds hd v d ds' Q,Ok X.K H₀ H O σ ds hd->Rep X.K H O v d->ga d ds=some ds'->(∀ σ',Ok X.K H₀ H O σ' ds' hd->Q σ' H)->g c v σ H Q)
  (ht:∀ c H₀ H O σ ds hd b Q,Ok X.K H₀ H O σ ds hd->tt ds=some b->(∀ H',Same H H'->Q b H')->t1 c σ H Q)
  (he:∀ c H₀ H O σ ds hd d Q,Ok X.K H₀ H O σ ds hd->fe ds=some d->(∀ v H',Same H H'->Rep X.K H' O v d->Q v H')->t2 c σ H Q) :
  ∀ H₀ H O σ ds hd l Q,Ok X.K H₀ H O σ ds hd->compG fi mp ga tt fe ds=some l →
   (∀ a xs H',Same H H'->H a=none->H' a=some (.lst xs)->Reps X.K H' (ins1 a O) xs l->Q (.ref a) H')->tComp wi mp g t1 t2 σ H Q:=by
 intro H₀ H O σ ds hd l Q o e q
 unfold compG at e
 cases h1:fi ds with
 | none=>rw [h1] at e; cases e
 | some items =>
   rw [h1] at e
   simp only [Option.bind_some] at e
   split at e
   · rename_i hsz
     refine hi H₀ H O σ ds hd items _ o h1 fun J p H1 s1 r1 wk=>fun c=>?_
     have oI:Ok X.K H₀ H1 O (slotsY mp σ) (jS mp ds) (HI.rep p.1 p.2::hd):=((o.mono s1).holdMore (p:=HI.rep p.1 p.2) r1).inner mp
     refine ⟨fun i m ys H2=>i<=items.length/\m=items.length - i/\Same H1 H2/\ys.length<=i/\∃ l' rest,Reps X.K H2 O ys l'/\compL ga tt fe (jS mp ds) (items.drop i)=some rest/\l=l'++rest,
      ⟨items.length,Nat.zero_le _,rfl,Same.refl _,Nat.le_refl _,[],l,.nil,by simpa using e,rfl⟩,?_⟩
     rintro i m ys H2 ⟨hi1,rfl,s2,hy,l',rest,ry,er,el⟩
     have o2:=oI.mono s2
     obtain ⟨go,stop⟩:=wk H2 O o2.dom (o2.hold (HI.rep p.1 p.2) List.mem_cons_self)
     by_cases hlt:i < items.length
     · right
       have hd0:items[i]? = some items[i]:=List.getElem?_eq_getElem hlt
       obtain ⟨hgo,hyl⟩:=go i _ hd0
       refine ⟨hgo,by omega,fun x H3 y=>?_⟩
       obtain ⟨s3,r3⟩:=hyl x H3 y
       rw [List.drop_eq_getElem_cons hlt,compL] at er
       cases h2:ga items[i] (jS mp ds) with
       | none=>rw [h2] at er; cases er
       | some ds1 =>
         rw [h2] at er
         simp only [Option.bind_some] at er
         refine hg c H₀ H3 O _ _ (HI.rep p.1 p.2::hd) x _ ds1 _ (o2.mono s3) r3 h2 fun σ' o3=>?_
         cases h3:tt ds1 with
         | none=>rw [h3] at er; cases er
         | some b =>
           rw [h3] at er
           simp only [Option.bind_some] at er
           refine ht c H₀ H3 O σ' ds1 (HI.rep p.1 p.2::hd) b _ o3 h3 fun H4 s4=>?_
           cases b with
           | false =>
             refine iteF ⟨items.length - (i+1),by omega,hlt,rfl,(s2.trans s3).trans s4,Nat.le_succ_of_le hy,l',rest,(ry.mono s3).mono s4,by simpa using er,el⟩
           | true =>
             refine iteT ?_
             simp only [if_true] at er
             cases h4:fe ds1 with
             | none=>rw [h4] at er; cases er
             | some yd =>
               rw [h4] at er
               simp only [Option.bind_some] at er
               cases h5:compL ga tt fe (jS mp ds) (items.drop (i+1)) with
               | none=>rw [h5] at er; cases er
               | some rest' =>
                 rw [h5] at er
                 cases er
                 refine he c H₀ H4 O σ' ds1 (HI.rep p.1 p.2::hd) yd _ (o3.mono s4) h4 fun v H5 s5 r5=>?_
                 refine ⟨items.length - (i+1),by omega,hlt,rfl,((s2.trans s3).trans s4).trans s5,by simp; omega,l'++[yd],rest',(((ry.mono s3).mono s4).mono s5).append (.cons r5 .nil),h5,?_⟩
                 rw [el]; simp
     · left
       have ei:i=items.length:=by omega
       subst ei
       rw [List.drop_length,compL] at er
       cases er
       rw [List.append_nil] at el
       subst el
       refine ⟨stop,by omega,fun a ha=>?_⟩
       refine q a ys _ ((s1.trans s2).trans (qP ha _)) ((s1.trans s2).free ha) qK ?_
       exact (ry.more ha).mono (qP ha _)
   · cases e
theorem xF (S:CompScope X scope NY mp) (hc:X.calm=true) (hi:PIv X tg iter fi) (hg:∀ c,PGv (yH X scope NY c) tg ga) (ht:∀ c,PFv (yH X scope NY c) ifs tt) (he:∀ c,PV (yH X scope NY c) elt fe)
  (hs:∀ x,foldedSetIterable iter X.env x=pure x:=by intro _; rfl):PVf X (.ListComp elt [⟨tg,iter,ifs,0⟩] scope pos) (compG fi mp ga tt fe):=by
 obtain ⟨wi,pi,hi⟩:=hi
 refine ⟨_,pe_comp S hc pi (fun c=>(Classical.choose_spec (hg c)).1) (fun c=>(Classical.choose_spec (ht c)).1) (fun c=>(Classical.choose_spec (he c)).1) hs,?_⟩
 exact comp_sem hi (fun c=>(Classical.choose_spec (hg c)).2) (fun c=>(Classical.choose_spec (ht c)).2) (fun c=>(Classical.choose_spec (he c)).2)
theorem psv_comp {i:Nat} {y:Str} {py spos:Pos} (hN:X.N.Nodup)
  (S:CompScope X scope NY mp) (hc:X.calm=true) (hi:PIv X tg iter fi) (hg:∀ c,PGv (yH X scope NY c) tg ga) (ht:∀ c,PFv (yH X scope NY c) ifs tt) (he:∀ c,PV (yH X scope NY c) elt fe)
  (hy:X.N[i]? = some y:=by rfl) (hl:X.env.scope.names.lookup y=some .local:=by rfl)
  (hsw:swapsWith (.ListComp elt [⟨tg,iter,ifs,0⟩] scope pos) (some (.Name y py)) spos.line X.env=pure true:=by rfl)
  (hs:∀ x,foldedSetIterable iter X.env x=pure x:=by intro _; rfl):PSv X (.Assign [.Name y py] (.ListComp elt [⟨tg,iter,ifs,0⟩] scope pos) spos) (setOG i (compG fi mp ga tt fe)):=by
 obtain ⟨wi,pi,hi⟩:=hi
 refine ⟨_,ps_comp hN hy hl hsw S hc pi (fun c=>(Classical.choose_spec (hg c)).1) (fun c=>(Classical.choose_spec (ht c)).1) (fun c=>(Classical.choose_spec (he c)).1) hs,fun H₀ H O σ ds hd out E o e h=>?_⟩
 unfold setOG at e
 cases h1:compG fi mp ga tt fe ds with
 | none=>rw [h1] at e; cases e
 | some l =>
   rw [h1] at e
   cases e
   exact comp_sem hi (fun c=>(Classical.choose_spec (hg c)).2) (fun c=>(Classical.choose_spec (ht c)).2) (fun c=>(Classical.choose_spec (he c)).2) H₀ H O σ ds hd l _ o h1 fun a xs H' s hn he r=>h _ _ _ (o.setO s hn he r)
end
end
end FL
namespace L2
open PySem PySem.Spec PyProof.Rows
section
variable {X:Cx}
inductive TyV (K:PySem.W.Frag) (H:Hp):V->Value->Prop where
 | of {x:V} {t:Value} (h:TyOf K H x t):TyV K H x t
 | lstK {a:Addr} {o:Obj} (h:K.lookup a=some o) (c:o.cls = .type "list"):TyV K H (.ref a) (.type "list")
 | tupK {a:Addr} {o:Obj} (h:K.lookup a=some o) (c:o.cls = .type "tuple"):TyV K H (.ref a) (.type "tuple")
 | tupF {a:Addr} {o:Obj} {xs:List V} (h:H a=some (.frz o (.tup xs))):TyV K H (.ref a) (.type "tuple")
def clsV:V->Value->Prop
 | .ty n,u=>u = .type n
 | .ref a,u=>u = .ref a
 | _,_=>False
theorem call_isi:CallR X (.builtin "isinstance") (fun xs H Q=>∃ x c cv t b,xs=[x,c]/\clsV c cv/\TyV X.K H x t/\PySem.W.kitOne X.K t cv=some b/\Q (.bl b) H):=by
 intro pins s σ H xs us Q I r h
 obtain ⟨x,c,cv,t,b,rfl,hc,ty,e,q⟩:=h
 obtain ⟨u,u2,rfl,ru,ru2⟩:=vals2 r
 have e2:u2=cv:=by
  cases c with
  | ty n=>cases (show cv = .type n from hc); cases (show u2 = .type n from ru2); rfl
  | ref a=>cases (show cv = .ref a from hc); cases (show u2 = .ref a from ru2); rfl
  | _=>exact (show False from hc).elim
 subst e2
 have fin:∀ tk,EP X pins σ Q (.bool b) { s with toks:=tk }:=fun tk=>⟨.bl b,H,I.tok tk,rfl,q⟩
 cases ty with
 | of h=>exact isinst_ok I ru h e fin
 | @lstK a o h c =>
   cases (show u=Value.ref a from ru)
   exact PySem.W.kia_one PySem.W.kitx_list I.kIn ⟨o,I.kIn _ _ h,c⟩ e (fun z=>nomatch z) fin
 | @tupK a o h c =>
   cases (show u=Value.ref a from ru)
   exact PySem.W.kia_one PySem.W.kitx_tuple I.kIn ⟨o,I.kIn _ _ h,c⟩ e (fun z=>nomatch z) fin
 | @tupF a o xs ea =>
   cases (show u=Value.ref a from ru)
   obtain ⟨e0,_,_,_,p⟩:=(show ObjOk X.prog X.w H s.heap a (.frz o (.tup xs)) from I.hok a _ ea)
   obtain ⟨o',h1,h2,_⟩:=p
   exact PySem.W.kia_one PySem.W.kitx_tuple I.kIn ⟨o',h1,h2⟩ e (fun z=>nomatch z) fin
end
end L2
namespace FL
open PySem PySem.Spec PyProof.Rows L2
section
variable {X:Cx}
def kitO (t T:String):Option Bool:=if ((Value.type t) == (Value.type T))=true then some true else if PySem.W.kitMeta T=true then (fastBuiltinMro t).map (·.contains (.type T)) else none
theorem kit_all:∀ t∈kitN,∀ T∈kitT,kitO t T=some (t == T || (t == "bool" && T == "int")):=by decide +kernel
theorem kit_of {K:Frag} {t T:String} {b:Bool} (h:kitF t T=some b):PySem.W.kitOne K (.type t) (.type T)=some b:=by
 unfold kitF at h
 split at h
 · rename_i hm
   cases h
   exact kit_all t hm.1 T hm.2
 · cases h
theorem ty_of {K:Frag} {H:Hp} {O:Addr->Prop} {v:V} {d:D} {t:String} (r:WRep K H O v d) (e:tyD d=some t):TyV K H v (.type t):=by
 rcases r with r | ⟨a,xs,l,rfl,rfl,ho,h,rs⟩
 · cases r with
   | non=>cases e; exact .of .non
   | bl b=>cases e; exact .of (.bl b)
   | int i=>cases e; exact .of (.int i)
   | str x=>cases e; exact .of (.str x)
   | tup n h r =>
     cases e
     rcases h with h | ⟨o,h⟩
     · exact .of (.tup h)
     · exact .tupF h
   | tupK h r=>cases e; obtain ⟨o,its,m,hk,hc,_⟩:=h; exact .tupK hk hc
   | lst n h r =>
     cases e
     rcases h with h | ⟨o,h⟩
     · exact .of (.lst h)
     · exact .of (.frz h)
   | lstK h r=>cases e; obtain ⟨o,its,m,hk,hc,_⟩:=h; exact .lstK hk hc
   | dct n h e' r=>cases e; exact .of (.dK h)
   | ins c n h e' r=>cases e
   | clo tx h e' nd c r=>cases e
   | fnK h=>cases e
 · cases e; exact .of (.lst h)
theorem pv_isi {p pT pos:Pos} {e:Expr} {f:FE} {x:Str} {T:String} (hm:X.mg "isinstance" = none) (hT:X.mg x=none) (hv:bootBuiltins x=some (.type T)) (he:PVw X e f) (hg:Gl X "isinstance":=by rfl) (hgT:Gl X x:=by rfl)
  (h1:starEach [e,.Name x pT] X.env=(false,eval e X.env)::starEach [.Name x pT] X.env:=by rfl) (h2:starEach [.Name x pT] X.env=(false,eval (.Name x pT) X.env)::starEach [] X.env:=by rfl) (h3:(backTo pos (starEach [.Name x pT] X.env)).any (·.1)=false:=by rfl)
  (hn:x≠"__name__":=by decide) (hd:(x == ("__debug__" : Str))=false:=by decide):PV X (.Call (.Name "isinstance" p) [e,.Name x pT] [] pos) (isiG T f):=by
 obtain ⟨t,ht,hf⟩:=he
 refine ⟨_,pe_callB call_isi hg hm (by decide +kernel) (yL ht (yL (pe_bltn (v:=.ty T) hgT hT hv rfl hn hd) xO h2) h1) (by decide) (by decide) h1 h3,fun H₀ H O σ ds hd d Q o e q=>?_⟩
 unfold isiG at e
 cases hh:f ds with
 | none=>rw [hh] at e; cases e
 | some dx =>
   rw [hh] at e
   simp only [Option.bind_some,isiD] at e
   cases ht:tyD dx with
   | none=>rw [ht] at e; cases e
   | some t =>
     rw [ht] at e
     simp only [Option.bind_some] at e
     cases hk:kitF t T with
     | none=>rw [hk] at e; cases e
     | some b =>
       rw [hk] at e
       cases e
       refine hf H₀ H O σ ds hd dx _ o hh fun v H' s r=>?_
       exact ⟨v,.ty T,.type T,.type t,b,rfl,rfl,ty_of r ht,kit_of hk,q _ H' s (.bl b)⟩
theorem xS {a:Expr} {pos:Pos} {f:FE} (ha:PV X a f):PV X (.UnaryOp .USub a pos) (un1 negD f):=by
 obtain ⟨ta,pa,ha⟩:=ha
 refine ⟨_,pe_un un_neg pa,fun H₀ H O σ ds hd d Q o e q=>?_⟩
 unfold un1 at e
 cases h1:f ds with
 | none=>rw [h1] at e; cases e
 | some dx =>
   rw [h1] at e
   cases dx with
   | int i =>
     cases e
     refine ha H₀ H O σ ds hd _ _ o h1 fun x H1 s1 r1=>?_
     cases r1
     exact ⟨i,rfl,q _ H1 s1 (.int _)⟩
   | _=>cases e
variable (X) in
def PVd (e:Expr) (f:FE):Prop:=∃ t,PE X e t/\∀ H₀ H O σ ds hd d Q,Ok X.K H₀ H O σ ds hd->f ds=some d->(∀ v H',Same H H'->Rep X.K H' (Old H) v d->Q v H')->t σ H Q
theorem PV.d {e:Expr} {f:FE} (h:PV X e f):PVd X e (flV f):=by
 obtain ⟨t,ht,hf⟩:=h
 refine ⟨t,ht,fun H₀ H O σ ds hd d Q o e q=>?_⟩
 unfold flV at e
 cases h1:f ds with
 | none=>rw [h1] at e; cases e
 | some dx =>
   rw [h1] at e
   simp only [Option.bind_some] at e
   split at e
   · rename_i hfl
     cases e
     exact hf H₀ H O σ ds hd _ _ o h1 fun v H' s r=>q v H' s (Rep.flatten (fun a z=>Old.mono s z) hfl r)
   · cases e
theorem not_old {H:Hp} {p:Addr} (h:H p=none) : ¬ Old H p:=fun ⟨o,e,_⟩=>by rw [h] at e; cases e
theorem psv_retD {e:Expr} {pos:Pos} {f:FE} (he:PVd X e f):PSv X (.Return (some e) pos) (retDG f):=by
 obtain ⟨t,ht,hg⟩:=he
 refine ⟨_,vS ht,fun H₀ H O σ ds hd out E o e h=>?_⟩
 unfold retDG at e
 cases h1:f ds with
 | none=>rw [h1] at e; cases e
 | some d =>
   rw [h1] at e
   cases e
   exact hg H₀ H O σ ds hd d _ o h1 fun v H' s r=>h _ _ (o.same.trans s) (r.less fun a z=>Old.mono o.same z) True.intro
end
section
variable {X:Cx}
def compOk (sc scope:Scope) (N NY:List Str) (mp:List (Option Nat)):Bool :=
 scope.kind == .function && scope.names.all (fun y=>y.2 != .cell) && scope.names.all (fun y=>y.2 != .local || scope.names.lookup y.1 == some .local)
 && scope.names.all (fun y=>y.2 != .free || (sc.names.lookup y.1 == some .cell || sc.names.lookup y.1 == some .free)) && mp.length == NY.length
 && (List.range NY.length).all (fun i=>match NY[i]?,mp[i]? with | some x,some (some j)=>N[j]? == some x && scope.names.lookup x == some .free | _,_=>true)
theorem jX {scope:Scope} {NY:List Str} {mp:List (Option Nat)} (h:compOk X.env.scope scope X.N NY mp=true):CompScope X scope NY mp:=by
 unfold compOk at h
 simp only [Bool.and_eq_true,List.all_eq_true,beq_iff_eq] at h
 obtain ⟨⟨⟨⟨⟨h1,h2⟩,h3⟩,h4⟩,h5⟩,h6⟩:=h
 refine ⟨h1,fun y hy=>by simpa using h2 y hy,fun y hy hk=>?_,fun y hy hk=>?_,h5,fun i x j e1 e2=>?_⟩
 · have := h3 y hy
   simpa [hk] using this
 · have := h4 y hy
   simp only [hk,bne_self_eq_false,Bool.false_or,Bool.or_eq_true,beq_iff_eq] at this
   exact this
 · have hi : i ∈ List.range NY.length := List.mem_range.mpr (List.getElem?_eq_some_iff.mp e1).1
   have:=h6 i hi
   rw [e1,e2] at this
   simpa using this
end
theorem zZ {g:FS} {n:Nat} {ds:List D} {r:Ret} (e:runG g n ds=some r):Does g n ds r:=by
 unfold runG at e
 cases h:g (args n ds) with
 | none=>rw [h] at e; cases e
 | some o =>
   rw [h] at e
   cases o with
   | rt r'=>cases e; exact .inl h
   | nx ds'=>cases e; exact .inr ⟨rfl,ds',h⟩
   | bk ds'=>cases e
   | ct ds'=>cases e
end FL
namespace L2
open PySem PySem.Spec PyProof.Rows
section
variable {X:Cx}
theorem op_mulB:OpR X (binaryOp .Mult) (rI IntMulOk fun i j=>.int (i * j)):=opI fun _ _ _ _ _ _ _ hc q=>mul_int q hc
theorem op_powB:OpR X (binaryOp .Pow) (rI FL.CPowB fun i j=>.int (i ^ j.toNat)):=opI fun _ _ _ _ _ _ _ hc q=>pow_int hc.1 hc.2 q
def rCatS (K:PySem.W.Frag):R2:=fun x y H Q=>∃ l b xs zs,x = .ref l/\y = .ref b/\SqL K H l xs/\SqL K H b zs/\xs.length+zs.length<=sizeLine/\∀ p,H p=none->Q (.ref p) (upd H p (.lst (xs++zs)))
theorem op_catS:OpR X (binaryOp .Add) (rCatS X.K):=by
 intro pins s σ H x y v u Q I rx ry h
 obtain ⟨l,b,xs,zs,rfl,rfl,hH,hB,hz,q⟩:=h
 cases rx
 cases ry
 obtain ⟨its,r,pl,z⟩:=I.list hH
 obtain ⟨its2,r2,pl2,z2⟩:=I.list hB
 obtain ⟨⟨cls,dd,data,sl⟩,ho,hc,n,hd⟩:=pl.isList
 obtain ⟨⟨cls2,dd2,data2,sl2⟩,ho2,hc2,n2,hd2⟩:=pl2.isList
 simp only at hc hd hc2 hd2
 subst hc hd hc2 hd2
 have hl:=r.length
 have hl2:=r2.length
 refine concat_meets ⟨_,ho,rfl⟩ ⟨_,ho2,rfl⟩ noFill_list_add seq_list_add PySem.F.slot_list_add PySem.F.entry_list_add (PySem.F.args_list_add_2 _ _) (list_addW l b its.toArray its2.toArray n n2 dd dd2 sl sl2 (by simp only [List.size_toArray]; omega)) ⟨ho,ho2,?_⟩
 have ea:its.toArray++its2.toArray=(its++its2).toArray:=by simp
 rw [ea]
 exact ⟨.ref _,_,I.lnew (t':=s.toks) (r.append r2) (by rw [List.length_append]; omega),rfl,q _ I.fresh⟩
end
end L2
namespace FL
open PySem PySem.Spec PyProof.Rows L2
section
variable {X:Cx}
variable (X) in
def PVn (e:Expr) (f:FE):Prop:=∃ t,PE X e t/\∀ H₀ H O σ ds hd d Q,Ok X.K H₀ H O σ ds hd->f ds=some d->(∀ v H',Same H H'->Rep X.K H' jI v d->Q v H')->t σ H Q
variable (X) in
def PAn (es:List Expr) (f:FA):Prop:=∃ t,PA X es t/\∀ H₀ H O σ ds hd l Q,Ok X.K H₀ H O σ ds hd->f ds=some l->(∀ vs H',Same H H'->Reps X.K H' jI vs l->Q vs H')->t σ H Q
theorem PVw.n {e:Expr} {f:FE} (h:PVw X e f):PVn X e f:=by
 obtain ⟨t,ht,hf⟩:=h
 exact ⟨t,ht,fun H₀ H O σ ds hd d Q o e q=>hf H₀ H O σ ds hd d Q o e fun v H' s r=>q v H' s r.any⟩
theorem PV.n {e:Expr} {f:FE} (h:PV X e f):PVn X e f:=h.w.n
theorem zN:PAn X [] qC:=⟨_,xO,fun _ H _ _ _ _ _ _ _ e q=>by cases e; exact q _ H (Same.refl _) .nil⟩
theorem zD {e:Expr} {es:List Expr} {f:FE} {g:FA} (ha:PVn X e f) (hr:PAn X es g) (hs:starEach (e::es) X.env=(false,eval e X.env)::starEach es X.env:=by rfl):PAn X (e::es) (zG f g):=by
 obtain ⟨t,ht,hf⟩:=ha
 obtain ⟨u,hu,hg⟩:=hr
 refine ⟨_,yL ht hu hs,fun H₀ H O σ ds hd l Q o e q=>?_⟩
 unfold zG at e
 cases h:f ds with
 | none=>rw [h] at e; cases e
 | some x =>
   cases h2:g ds with
   | none=>rw [h,h2] at e; cases e
   | some r =>
     rw [h,h2] at e
     cases e
     refine hf H₀ H O σ ds hd x _ o h fun v H1 s1 r1=>?_
     refine hg H₀ H1 O σ ds hd r _ (o.mono s1) h2 fun vs H2 s2 r2=>?_
     exact q _ H2 (s1.trans s2) (.cons (r1.mono s2) r2)
section
variable {k:Nat} {f:Addr} {fd:FuncData} {ps:List Str} {n:Nat} {F:List D->Option Ret} {x:Str} {p pos:Pos} {e:Expr} {es:List Expr} {g:FA}
theorem pv_callN (Fn:FnOk X.prog X.w X.K X.mg X.base CX0 k f fd ps (spF X.K n F)) (hr:Room k X.A) (hm:X.mg x=some (.ref f)) (hk:PySem.W.keepIn X.K (.ref f)=true) (hb:Binds X.K fd ps []) (ha:PAn X (e::es) g)
  (hg:Gl X x:=by rfl) (hdb:(x == ("__debug__" : Str))=false:=by decide) (he:starEach (e::es) X.env=(false,eval e X.env)::starEach es X.env:=by rfl) (hpl:(backTo pos (starEach es X.env)).any (·.1)=false:=by rfl) :
  PV X (.Call (.Name x p) (e::es) [] pos) (qF n F g):=by
 obtain ⟨t,ht,hf⟩:=ha
 refine ⟨_,pe_call (CX:=CX0) (E:=E0) Fn hr hg hm hk hb .nil pass0 ht hdb he hpl,fun H₀ H O σ ds hd d Q o e q=>?_⟩
 unfold qF at e
 cases h:g ds with
 | none=>rw [h] at e; cases e
 | some l =>
   rw [h] at e
   simp only [Option.bind_some] at e
   split at e
   · rename_i hln
     cases h2:F l with
     | none=>rw [h2] at e; cases e
     | some r =>
       rw [h2] at e
       simp only [Option.bind_some] at e
       refine hf H₀ H O σ ds hd l _ o h fun vs H1 s1 r1=>?_
       have hl:=r1.length
       refine ⟨by simp only [List.append_nil]; omega,l,r,by simpa using r1,h2,fun v H' s' ro=>q v H' (s1.trans s') ?_⟩
       exact retV_ok ro e fun a ha=>(o.mono s1).old ha
   · cases e
theorem pvf_callN (Fn:FnOk X.prog X.w X.K X.mg X.base CX0 k f fd ps (spF X.K n F)) (hr:Room k X.A) (hm:X.mg x=some (.ref f)) (hk:PySem.W.keepIn X.K (.ref f)=true) (hb:Binds X.K fd ps []) (ha:PAn X (e::es) g)
  (hg:Gl X x:=by rfl) (hdb:(x == ("__debug__" : Str))=false:=by decide) (he:starEach (e::es) X.env=(false,eval e X.env)::starEach es X.env:=by rfl) (hpl:(backTo pos (starEach es X.env)).any (·.1)=false:=by rfl) :
  PVf X (.Call (.Name x p) (e::es) [] pos) (callF n F g):=by
 obtain ⟨t,ht,hf⟩:=ha
 refine ⟨_,pe_call (CX:=CX0) (E:=E0) Fn hr hg hm hk hb .nil pass0 ht hdb he hpl,fun H₀ H O σ ds hd d Q o e q=>?_⟩
 unfold callF at e
 cases h:g ds with
 | none=>rw [h] at e; cases e
 | some l =>
   rw [h] at e
   simp only [Option.bind_some] at e
   split at e
   · rename_i hln
     cases h2:F l with
     | none=>rw [h2] at e; cases e
     | some r =>
       rw [h2] at e
       simp only [Option.bind_some] at e
       refine hf H₀ H O σ ds hd l _ o h fun vs H1 s1 r1=>?_
       have hl:=r1.length
       refine ⟨by simp only [List.append_nil]; omega,l,r,by simpa using r1,h2,fun v H' s' ro=>?_⟩
       obtain ⟨a,xs,rfl,h3,h4,h5⟩:=retF_ok ro e fun a ha=>(o.mono s1).old ha
       exact q a xs H' (s1.trans s') (s1.free h3) h4 h5
   · cases e
end
def OpN (X:Cx) (r:R2) (op:D->D->Option D):Prop:=∀ H O x y dx dy d Q,Rep X.K H jI x dx->Rep X.K H jI y dy->op dx dy=some d->(∀ v H',Same H H'->Rep X.K H' O v d->Q v H')->r x y H Q
theorem pvn_tOp {r:R2} {op:D->D->Option D} (hs:OpN X r op) {fa fb:FE} {ta tb:TE} (ha:∀ H₀ H O σ ds hd d Q,Ok X.K H₀ H O σ ds hd->fa ds=some d->(∀ v H',Same H H'->Rep X.K H' jI v d->Q v H')->ta σ H Q)
  (hb:∀ H₀ H O σ ds hd d Q,Ok X.K H₀ H O σ ds hd->fb ds=some d->(∀ v H',Same H H'->Rep X.K H' jI v d->Q v H')->tb σ H Q) :
  ∀ H₀ H O σ ds hd d Q,Ok X.K H₀ H O σ ds hd->zL op fa fb ds=some d->(∀ v H',Same H H'->Rep X.K H' O v d->Q v H')->tOp r ta tb σ H Q:=by
 intro H₀ H O σ ds hd d Q o e q
 unfold zL at e
 cases h1:fa ds with
 | none=>rw [h1] at e; cases e
 | some dx =>
   cases h2:fb ds with
   | none=>rw [h1,h2] at e; cases e
   | some dy =>
     rw [h1,h2] at e
     refine ha H₀ H O σ ds hd dx _ o h1 fun x H1 s1 r1=>?_
     refine hb H₀ H1 O σ ds hd dy _ (o.mono s1) h2 fun y H2 s2 r2=>?_
     exact hs H2 O x y dx dy d Q (r1.mono s2) r2 e fun v H' s r=>q v H' ((s1.trans s2).trans s) r
theorem pv_cmpN {op:CmpOp} {r:R2} {opD:D->D->Option D} {a b:Expr} {fa fb:FE} {pos:Pos} (ho:OpR X (compareOp op) r) (hs:OpN X r opD) (ha:PVn X a fa) (hb:PVn X b fb) (hm:behindInMarks op b=false):PV X (.Compare a [op] [b] pos) (zL opD fa fb):=by
 obtain ⟨ta,pa,ha⟩:=ha
 obtain ⟨tb,pb,hb⟩:=hb
 exact ⟨_,pe_cmpR ho pa pb hm,pvn_tOp hs ha hb⟩
theorem wZ {op:CmpOp} {r:R2} {opD:D->D->Option D} {a b:Expr} {fa fb:FE} {pos:Pos} (ho:OpR X (compareOp op) r) (hs:OpN X r opD) (ha:PVn X a fa) (hb:PVn X b fb) (hm:behindInMarks op b=false):PTv X (.Compare a [op] [b] pos) (zU (zL opD fa fb)):=by
 obtain ⟨ta,pa,ha⟩:=ha
 obtain ⟨tb,pb,hb⟩:=hb
 refine ⟨_,pt_cmpR ho pa pb hm,fun H₀ H O σ ds hd k Q o e q=>?_⟩
 unfold zU at e
 cases h:zL opD fa fb ds with
 | none=>rw [h] at e; cases e
 | some d =>
   rw [h] at e
   refine pvn_tOp hs ha hb H₀ H O σ ds hd d _ o h fun v H' s r=>?_
   cases d with
   | bl c=>cases e; cases r; exact ⟨_,rfl,q H' s⟩
   | _=>cases e
mutual
theorem Rep.reads {pins:List (Addr×Obj)} {σ : L2.St} {H:Hp} {s:Shared} {O:Addr->Prop} (I:Inv X pins σ H s):∀ {v:V} {d:D} {u:Value} {n:Nat},Rep X.K H O v d->RelV v u->shal n d=true->∃ as,Reads s.heap u (toPy d) as/\(toPy d).canLay0=true/\(toPy d).depth<=n+1
 | _,_,_,_,.non,r,_=>by cases r; exact ⟨[],.none,rfl,Nat.zero_le _⟩
 | _,_,_,_,.bl b,r,_=>by cases r; exact ⟨[],.bool b,rfl,Nat.zero_le _⟩
 | _,_,_,_,.int i,r,_=>by obtain ⟨t,rfl⟩:=r; exact ⟨[],.int i t,rfl,Nat.zero_le _⟩
 | _,_,_,_,.str x,r,h=>by obtain ⟨t,rfl⟩:=r; exact ⟨[],.str x t,by simpa [toPy,PyData.canLay0,shal] using h,Nat.zero_le _⟩
 | _, _, _, n, .tup m h q, r, hs => by
   cases r
   obtain ⟨its,rv,⟨o,ho,hc,k,hd⟩,hz⟩:=I.tuple (.inl h)
   obtain ⟨as,h1,h2,h3⟩:=Reps.reads I q rv (by simpa [shal] using hs)
   exact ⟨as,.tuple ho hc hd (by simpa using h1),by simpa [toPy,PyData.canLay0] using h2,by simpa [toPy,PyData.depth] using h3⟩
 | _, _, _, n, .tupK h q, r, hs => by
   cases r
   obtain ⟨its,rv,⟨o,ho,hc,k,hd⟩,hz⟩:=I.tuple (.inr h)
   obtain ⟨as,h1,h2,h3⟩:=Reps.reads I q rv (by simpa [shal] using hs)
   exact ⟨as,.tuple ho hc hd (by simpa using h1),by simpa [toPy,PyData.canLay0] using h2,by simpa [toPy,PyData.depth] using h3⟩
 | _, _, _, n, .lst m h q, r, hs => by
   cases r
   obtain ⟨its,rv,pl,hz⟩:=I.list (.inl h)
   obtain ⟨o,ho,hc,k,hd⟩:=pl.isList
   obtain ⟨as,h1,h2,h3⟩:=Reps.reads I q rv (by simpa [shal] using hs)
   exact ⟨_,.list ho hc hd (by simpa using h1),by simpa [toPy,PyData.canLay0] using h2,by simpa [toPy,PyData.depth] using h3⟩
 | _, _, _, n, .lstK h q, r, hs => by
   cases r
   obtain ⟨its,rv,pl,hz⟩:=I.list (.inr h)
   obtain ⟨o,ho,hc,k,hd⟩:=pl.isList
   obtain ⟨as,h1,h2,h3⟩:=Reps.reads I q rv (by simpa [shal] using hs)
   exact ⟨_,.list ho hc hd (by simpa using h1),by simpa [toPy,PyData.canLay0] using h2,by simpa [toPy,PyData.depth] using h3⟩
 | _,_,_,_,.dct _ _ _ _,_,hs=>by simp [shal] at hs
 | _,_,_,_,.ins _ _ _ _ _,_,hs=>by simp [shal] at hs
 | _,_,_,_,.clo _ _ _ _ _ _,_,hs=>by simp [shal] at hs
 | _,_,_,_,.fnK _,_,hs=>by simp [shal] at hs
theorem Reps.reads {pins:List (Addr×Obj)} {σ : L2.St} {H:Hp} {s:Shared} {O:Addr->Prop} (I:Inv X pins σ H s):∀ {vs:List V} {ds:List D} {us:List Value} {n:Nat},Reps X.K H O vs ds->Vals vs us->shals n ds=true->∃ as,ReadsAll s.heap us (toPys ds) as/\PyData.canLayAll0 (toPys ds)=true/\PyData.depthAll (toPys ds)<=n
 | _,_,_,_,.nil,r,_=>by cases r; exact ⟨[],.nil,rfl,Nat.zero_le _⟩
 | _,_,_,0,.cons h t,_,hs=>by simp [shals] at hs
 | _, _, _, n + 1, .cons h t, r, hs => by
   cases r with
   | cons r1 r2 =>
     simp only [shals,Bool.and_eq_true] at hs
     obtain ⟨as,h1,h2,h3⟩:=Rep.reads I h r1 hs.1
     obtain ⟨bs,k1,k2,k3⟩:=Reps.reads I t r2 hs.2
     exact ⟨_,.cons h1 k1,by simp [toPys,PyData.canLayAll0,h2,k2],by simp only [toPys,PyData.depthAll]; omega⟩
end
def rEqD (X:Cx) (neg:Bool):R2:=fun x y H Q=>∃ dx dy,Rep X.K H jI x dx/\Rep X.K H jI y dy/\shal 40 dx=true/\shal 40 dy=true/\Q (.bl (if neg then !eqvD dx dy else eqvD dx dy)) H
theorem op_eqD (hu:X.A.units+100 < cLine):OpR X (compareOp .Eq) (rEqD X false):=by
 intro pins s σ H x y v u Q I rx ry h
 obtain ⟨dx,dy,r1,r2,s1,s2,q⟩:=h
 obtain ⟨as,a1,a2,a3⟩:=r1.reads I rx s1
 obtain ⟨bs,b1,b2,b3⟩:=r2.reads I ry s2
 exact SeqAt.compareEq_reads a1 b1 a2 b2 (by omega) ⟨.bl _,H,I,rfl,q⟩
theorem op_neD (hu:X.A.units+100 < cLine):OpR X (compareOp .NotEq) (rEqD X true):=by
 intro pins s σ H x y v u Q I rx ry h
 obtain ⟨dx,dy,r1,r2,s1,s2,q⟩:=h
 obtain ⟨as,a1,a2,a3⟩:=r1.reads I rx s1
 obtain ⟨bs,b1,b2,b3⟩:=r2.reads I ry s2
 exact SeqAt.compareNe_reads a1 b1 a2 b2 (by omega) ⟨.bl _,H,I,rfl,q⟩
theorem on_eqD:OpN X (rEqD X false) eqD:=by
 intro H O x y dx dy d Q rx ry e q
 unfold eqD at e
 split at e
 · rename_i hs
   cases e
   exact ⟨dx,dy,rx,ry,hs.1,hs.2,q _ H (Same.refl _) (.bl _)⟩
 · cases e
theorem on_neD:OpN X (rEqD X true) neD:=by
 intro H O x y dx dy d Q rx ry e q
 unfold neD at e
 split at e
 · rename_i hs
   cases e
   exact ⟨dx,dy,rx,ry,hs.1,hs.2,q _ H (Same.refl _) (.bl _)⟩
 · cases e
theorem hu100 {k:Nat} {A:Around} (hr:Room k A):A.units+100 < cLine:=by have:=hr.un; omega
theorem pv_eq {a b:Expr} {fa fb:FE} {pos:Pos} {k:Nat} (hr:Room k X.A) (ha:PVn X a fa) (hb:PVn X b fb):PV X (.Compare a [.Eq] [b] pos) (zL eqD fa fb):=pv_cmpN (op_eqD (hu100 hr)) on_eqD ha hb (nomark _)
theorem xK {a b:Expr} {fa fb:FE} {pos:Pos} {k:Nat} (hr:Room k X.A) (ha:PVn X a fa) (hb:PVn X b fb):PTv X (.Compare a [.Eq] [b] pos) (zU (zL eqD fa fb)):=wZ (op_eqD (hu100 hr)) on_eqD ha hb (nomark _)
theorem vI {a b:Expr} {fa fb:FE} {pos:Pos} {k:Nat} (hr:Room k X.A) (ha:PVn X a fa) (hb:PVn X b fb):PTv X (.Compare a [.NotEq] [b] pos) (zU (zL neD fa fb)):=wZ (op_neD (hu100 hr)) on_neD ha hb (nomark _)
theorem non_iff {K:Frag} {H:Hp} {O:Addr->Prop} {v:V} {d:D} (r:Rep K H O v d):decide (v = .non)=(match d with | .non=>true | _=>false):=by
 cases r <;> rfl
theorem on_is:OpN X (fun x y H Q=>y = .non/\Q (.bl (decide (x = .non))) H) isD:=by
 intro H O x y dx dy d Q rx ry e q
 cases dy <;> first | (cases dx <;> simp [isD] at e; done) | skip
 cases ry
 refine ⟨rfl,?_⟩
 rw [non_iff rx]
 cases dx <;> (simp only [isD,Option.some.injEq] at e; subst e; exact q _ H (Same.refl _) (.bl _))
theorem on_not:OpN X (fun x y H Q=>y = .non/\Q (.bl (!decide (x = .non))) H) notD:=by
 intro H O x y dx dy d Q rx ry e q
 cases dy <;> first | (cases dx <;> simp [notD] at e; done) | skip
 cases ry
 refine ⟨rfl,?_⟩
 rw [non_iff rx]
 cases dx <;> (simp only [notD,Option.some.injEq] at e; subst e; exact q _ H (Same.refl _) (.bl _))
theorem pv_isnot {a b:Expr} {fa fb:FE} {pos:Pos} (ha:PVn X a fa) (hb:PVn X b fb):PV X (.Compare a [.IsNot] [b] pos) (zL notD fa fb):=pv_cmpN op_notN on_not ha hb (nomark _)
theorem xM {a b:Expr} {fa fb:FE} {pos:Pos} (ha:PVn X a fa) (hb:PVn X b fb):PTv X (.Compare a [.Is] [b] pos) (zU (zL isD fa fb)):=wZ op_isN on_is ha hb (nomark _)
theorem yB {a b:Expr} {fa fb:FE} {pos:Pos} (ha:PVn X a fa) (hb:PVn X b fb):PTv X (.Compare a [.IsNot] [b] pos) (zU (zL notD fa fb)):=wZ op_notN on_not ha hb (nomark _)
theorem os_mul:OpS X (rI IntMulOk fun i j=>.int (i * j)) yT:=by
 intro H O x y dx dy d Q ho rx ry e q
 cases dx <;> cases dy <;> first | (simp [yT] at e; done) | skip
 simp only [yT] at e
 split at e
 · rename_i hc
   cases e
   rw [rx.int',ry.int']
   exact ⟨_,_,rfl,rfl,hc,q _ H (Same.refl _) (.int _)⟩
 · cases e
theorem os_pow:OpS X (rI CPowB fun i j=>.int (i ^ j.toNat)) powD:=by
 intro H O x y dx dy d Q ho rx ry e q
 cases dx <;> cases dy <;> first | (simp [powD] at e; done) | skip
 simp only [powD] at e
 split at e
 · rename_i hc
   cases e
   rw [rx.int',ry.int']
   exact ⟨_,_,rfl,rfl,hc,q _ H (Same.refl _) (.int _)⟩
 · cases e
theorem yW {a b:Expr} {fa fb:FE} {pos:Pos} (ha:PVw X a fa) (hb:PVw X b fb):PVf X (.BinOp a .Add b pos) (catA fa fb):=by
 obtain ⟨ta,pa,ha⟩:=ha
 obtain ⟨tb,pb,hb⟩:=hb
 refine ⟨_,pe_op op_catS pa pb,fun H₀ H O σ ds hd l Q o e q=>?_⟩
 unfold catA at e
 cases h1:fa ds with
 | none=>rw [h1] at e; cases e
 | some dx =>
   cases h2:fb ds with
   | none=>rw [h1,h2] at e; cases e
   | some dy =>
     rw [h1,h2] at e
     simp only [Option.bind_some] at e
     cases dx <;> cases dy <;> first | (simp at e; done) | skip
     simp only at e
     split at e
     · rename_i hz
       cases e
       refine ha H₀ H O σ ds hd _ _ o h1 fun x H1 s1 r1=>?_
       refine hb H₀ H1 O σ ds hd _ _ (o.mono s1) h2 fun y H2 s2 r2=>?_
       obtain ⟨a1,xs,rfl,hq1,rs1⟩:=(r1.mono s2).seqL
       obtain ⟨a2,ys,rfl,hq2,rs2⟩:=r2.seqL
       refine ⟨a1,a2,xs,ys,rfl,rfl,hq1,hq2,by rw [rs1.length,rs2.length]; exact hz,fun p hp=>?_⟩
       refine q p _ _ ((s1.trans s2).trans (qP hp _)) ((s1.trans s2).free hp) qK ?_
       exact ((rs1.append rs2).more hp).mono (qP hp _)
     · cases e
variable (X) in
def POv (e:Option Expr) (f:List Sl->Option (Option Int)):Prop:=∃ t,PO X e t/\∀ H₀ H O σ ds hd i Q,Ok X.K H₀ H O σ ds hd->f ds=some i->(∀ H',Same H H'->Q i H')->t σ H Q
theorem pov_no:POv X none noP:=⟨_,po_none,fun _ H _ _ _ _ _ _ _ e q=>by cases e; exact q H (Same.refl _)⟩
theorem vG {e:Expr} {f:FE} (h:PVw X e f):POv X (some e) (soP f):=by
 obtain ⟨t,ht,hf⟩:=h
 refine ⟨_,po_some ht,fun H₀ H O σ ds hd i Q o e q=>?_⟩
 unfold soP at e
 cases h1:f ds with
 | none=>rw [h1] at e; cases e
 | some d =>
   rw [h1] at e
   simp only [Option.bind_some] at e
   cases d <;> first | (cases e; done) | skip
   cases e
   refine hf H₀ H O σ ds hd _ _ o h1 fun v H' s r=>?_
   rw [r.int']
   exact ⟨_,rfl,q H' s⟩
theorem cut_reps {K:Frag} {H:Hp} {O:Addr->Prop} {xs:List V} {l:List D} {a b:Option Int} (rs:Reps K H O xs l):Reps K H O (cutV xs a b) (cutD l a b):=by
 unfold cutV cutD
 rw [rs.length]
 exact (rs.drop _).take _
theorem xT {e:Expr} {lo hi:Option Expr} {f:FE} {gl gh:List Sl->Option (Option Int)} {p2 pos:Pos} (he:PVw X e f) (hl:POv X lo gl) (hh:POv X hi gh):PVf X (.Subscript e (.Slice lo hi none p2) pos) (sliA f gl gh):=by
 obtain ⟨te,pe,he⟩:=he
 obtain ⟨tl,pl,hl⟩:=hl
 obtain ⟨th,ph,hh⟩:=hh
 refine ⟨_,pe_slice sl_list pe pl ph,fun H₀ H O σ ds hd l Q o e q=>?_⟩
 unfold sliA at e
 cases h1:f ds with
 | none=>rw [h1] at e; cases e
 | some d =>
   cases h2:gl ds with
   | none=>rw [h1,h2] at e; cases e
   | some a =>
     cases h3:gh ds with
     | none=>rw [h1,h2,h3] at e; cases e
     | some b =>
       rw [h1,h2,h3] at e
       simp only [Option.bind_some] at e
       cases d <;> first | (cases e; done) | skip
       cases e
       refine he H₀ H O σ ds hd _ _ o h1 fun v H1 s1 r1=>?_
       refine hl H₀ H1 O σ ds hd _ _ (o.mono s1) h2 fun H2 s2=>?_
       refine hh H₀ H2 O σ ds hd _ _ ((o.mono s1).mono s2) h3 fun H3 s3=>?_
       obtain ⟨a1,xs,rfl,hq,rs⟩:=((r1.mono s2).mono s3).seqL
       refine ⟨a1,xs,rfl,hq,fun p hp=>?_⟩
       have ss:=(s1.trans s2).trans s3
       refine q p _ _ (ss.trans (qP hp _)) (ss.free hp) qK ?_
       exact ((cut_reps rs).more hp).mono (qP hp _)
theorem pvf_list {e:Expr} {f:FE} {p pos:Pos} (hm:X.mg "list" = none) (he:PVw X e f) (hg:Gl X "list":=by rfl) (hs:starEach [e] X.env=[(false,eval e X.env)]:=by rfl):PVf X (.Call (.Name "list" p) [e] [] pos) (lisA f):=by
 obtain ⟨te,pe,he⟩:=he
 refine ⟨_,pe_callTy call_list_of hg hm (by decide +kernel) (yL pe xO hs) (by decide) (by decide) hs rfl,fun H₀ H O σ ds hd l Q o e q=>?_⟩
 unfold lisA at e
 cases h1:f ds with
 | none=>rw [h1] at e; cases e
 | some d =>
   rw [h1] at e
   simp only [Option.bind_some] at e
   refine he H₀ H O σ ds hd _ _ o h1 fun v H1 s1 r1=>?_
   cases d <;> first | (cases e; done) | skip
   · cases e
     obtain ⟨a1,xs,rfl,hq,rs⟩:=r1.seqT
     refine ⟨a1,xs,rfl,.inr hq,fun p hp=>?_⟩
     exact q p _ _ (s1.trans (qP hp _)) (s1.free hp) qK ((rs.more hp).mono (qP hp _))
   · cases e
     obtain ⟨a1,xs,rfl,hq,rs⟩:=r1.seqL
     refine ⟨a1,xs,rfl,.inl hq,fun p hp=>?_⟩
     exact q p _ _ (s1.trans (qP hp _)) (s1.free hp) qK ((rs.more hp).mono (qP hp _))
theorem cs_max:CallS X (fun xs H Q=>∃ i j,xs=[.int i,.int j]/\Q (.int (if j > i then j else i)) H) mxD:=by
 intro H O vs l d Q ho r e q
 match l,r,e with
 | [.int i, .int j], .cons r1 (.cons r2 .nil), e =>
   cases e
   exact ⟨i,j,by rw [r1.int',r2.int'],q _ H (Same.refl _) (.int _)⟩
theorem cs_min:CallS X (fun xs H Q=>∃ i j,xs=[.int i,.int j]/\Q (.int (if j < i then j else i)) H) mnD:=by
 intro H O vs l d Q ho r e q
 match l,r,e with
 | [.int i, .int j], .cons r1 (.cons r2 .nil), e =>
   cases e
   exact ⟨i,j,by rw [r1.int',r2.int'],q _ H (Same.refl _) (.int _)⟩
theorem pv_max2 {p pos:Pos} {a b:Expr} {g:FA} (hc:X.calm=true) (hm:X.mg "max" = none) (ha:PAv X [a,b] g) (hg:Gl X "max":=by rfl) (he:starEach [a,b] X.env=(false,eval a X.env)::starEach [b] X.env:=by rfl) (hpl:(backTo pos (starEach [b] X.env)).any (·.1)=false:=by rfl) :
  PV X (.Call (.Name "max" p) [a,b] [] pos) (callB mxD g):=kD (call_max2 hc) cs_max hm (by decide +kernel) ha hg (by decide) (by decide) he hpl
theorem pv_min2 {p pos:Pos} {a b:Expr} {g:FA} (hc:X.calm=true) (hm:X.mg "min" = none) (ha:PAv X [a,b] g) (hg:Gl X "min":=by rfl) (he:starEach [a,b] X.env=(false,eval a X.env)::starEach [b] X.env:=by rfl) (hpl:(backTo pos (starEach [b] X.env)).any (·.1)=false:=by rfl) :
  PV X (.Call (.Name "min" p) [a,b] [] pos) (callB mnD g):=kD (call_min2 hc) cs_min hm (by decide +kernel) ha hg (by decide) (by decide) he hpl
theorem isEmpty_len {α β : Type} {xs:List α} {ys:List β} (h:xs.length=ys.length):xs.isEmpty=ys.isEmpty:=by
 cases xs <;> cases ys <;> simp_all
theorem PVn.t {e:Expr} {f:FE} (h:PVn X e f) (he:∀ whole,isTrue e X.env whole=(do let v <- whole; standAt e.pos; holding [v] (truthy v)):=by intro _; rfl):PTv X e (testT f):=by
 obtain ⟨t,ht,hf⟩:=h
 refine ⟨_,pt_truth ht he,fun H₀ H O σ ds hd k Q o e q=>?_⟩
 unfold testT at e
 cases h:f ds with
 | none=>rw [h] at e; cases e
 | some d =>
   rw [h] at e
   simp only [Option.bind_some] at e
   refine hf H₀ H O σ ds hd d _ o h fun v H' s r=>⟨k,?_,q H' s⟩
   cases d with
   | non=>cases e; cases r; exact rfl
   | bl b=>cases e; cases r; exact rfl
   | int i=>cases e; cases r; exact rfl
   | str x =>
     simp only [truD] at e
     split at e
     · rename_i hz; cases e; cases r; exact ⟨hz,rfl⟩
     · cases e
   | tup l =>
     cases e
     obtain ⟨a,xs,rfl,hq,rs⟩:=WRep.seqT (.inl r)
     exact .inr (.inl ⟨xs,hq,by rw [isEmpty_len rs.length]⟩)
   | lst l =>
     cases e
     obtain ⟨a,xs,rfl,hq,rs⟩:=WRep.seqL (.inl r)
     exact .inl ⟨xs,hq,by rw [isEmpty_len rs.length]⟩
   | _=>cases e
theorem psv_never {st:Stmt} : PSv X st (fun _=>none):=⟨_,ps_never,fun _ _ _ _ _ _ _ _ _ e _=>by cases e⟩
theorem wX (n:Nat) {c:Expr} {body:List Stmt} {pos:Pos} {fc:FT} {g:FS} (hp:PassesOwn (model X.prog X.w) X.A X.env X.xe) (hc:PTv X c fc) (hb:PSsv X body g):PSv X (.While c body [] pos) (whileN fc g n):=by
 obtain ⟨tc,pc,hc⟩:=hc
 obtain ⟨tb,pb,hb⟩:=hb
 refine ⟨_,ps_while hp pc pb,fun H₀ H O σ ds hd out E o e h=>?_⟩
 refine ⟨fun m σ' H'=>∃ O' ds',Ok X.K H₀ H' O' σ' ds' hd/\whileN fc g m ds'=some out,⟨n,O,ds,o,e⟩,?_⟩
 rintro m σ1 H1 ⟨O1,ds1,o1,e1⟩
 cases m with
 | zero=>cases e1
 | succ m =>
   simp only [whileN] at e1
   cases h1:fc ds1 with
   | none=>rw [h1] at e1; cases e1
   | some k =>
     rw [h1] at e1
     simp only [Option.bind_some] at e1
     refine hc H₀ H1 O1 σ1 ds1 hd k _ o1 h1 fun H2 s2=>?_
     cases k with
     | false =>
       simp only [Bool.false_eq_true,if_false,Option.some.injEq] at e1
       subst e1
       exact iteF (h σ1 H2 O1 (o1.mono s2))
     | true =>
       simp only [if_true] at e1
       refine iteT ⟨fun σ' H'=>∃ O' ds',Ok X.K H₀ H' O' σ' ds' hd/\whileN fc g m ds'=some out,fun σ' H' q=>⟨m,Nat.lt_succ_self _,q⟩,?_⟩
       cases h2:g ds1 with
       | none=>rw [h2] at e1; cases e1
       | some o3 =>
         rw [h2] at e1
         simp only [Option.bind_some] at e1
         refine hb H₀ H2 O1 σ1 ds1 hd o3 _ (o1.mono s2) h2 ?_
         cases o3 with
         | nx ds3=>exact fun σ3 H3 O3 ok3=>⟨O3,ds3,ok3,e1⟩
         | ct ds3=>exact fun σ3 H3 O3 ok3=>⟨O3,ds3,ok3,e1⟩
         | bk ds3=>cases e1; exact fun σ3 H3 O3 ok3=>h σ3 H3 O3 ok3
         | rt rr=>cases e1; exact h
theorem psv_asg {tg e:Expr} {pos:Pos} {f:FE} {ga:D->List Sl->Option (List Sl)} (he:PV X e f) (hg:PGv X tg ga) (hs:swapsWithSole [tg] e pos.line X.env=pure false:=by rfl) (hw:swappedStores [tg] e X.env=pure none:=by rfl)
  (h1:(assignEach [tg] X.env).map (·.2)=[assign tg X.env]:=by rfl):PSv X (.Assign [tg] e pos) (asgG ga f):=by
 obtain ⟨te,pe,he⟩:=he
 obtain ⟨tg',pg,hg⟩:=hg
 refine ⟨_,ps_asg pe pg hs hw h1,fun H₀ H O σ ds hd out E o e h=>?_⟩
 unfold asgG at e
 cases h2:f ds with
 | none=>rw [h2] at e; cases e
 | some d =>
   rw [h2] at e
   simp only [Option.bind_some] at e
   cases h3:ga d ds with
   | none=>rw [h3] at e; cases e
   | some ds' =>
     rw [h3] at e
     cases e
     refine he H₀ H O σ ds hd d _ o h2 fun v H1 s1 r1=>?_
     exact hg H₀ H1 O σ ds hd v d ds' _ (o.mono s1) r1 h3 fun σ' o'=>h σ' H1 O o'
theorem psv_ext {i:Nat} {x:Str} {e:Expr} {pos p1 p2 p3:Pos} {fe:FA} (he:PVf X e fe) (hN:X.N[i]? = some x:=by rfl) (hv:Vis X.env.scope x:=by first | exact Or.inl rfl | exact Or.inr (Or.inl rfl) | exact Or.inr (Or.inr rfl)) (hd:(x == ("__debug__" : Str))=false:=by decide)
  (hcd:(x == ("__classdict__" : Str))=false:=by decide)
  (hfew:((backTo p3 (starEach [e] X.env)).all (fun x=>!x.1) && (backToKw p3 (keywordEach [] X.env)).all (fun x=>x.1.isSome)
    && decide ([e].length+([]:List Keyword).length+(if ([]:List Keyword).isEmpty then 0 else 1) < 30))=true:=by rfl)
  (hline:(p2.endLine == p3.line)=true:=by rfl) (hs:starEach [e] X.env=(false,eval e X.env)::starEach [] X.env:=by rfl)
  (hbase:attributeBase (.Name x p1) "extend" X.env (eval (.Name x p1) X.env)=eval (.Name x p1) X.env:=by rfl) (hsw:swapsWith (.Call (.Attribute (.Name x p1) "extend" p2) [e] [] p3) none pos.line X.env=pure false:=by rfl) :
  PSv X (.Expr (.Call (.Attribute (.Name x p1) "extend" p2) [e] [] p3) pos) (extG i fe):=by
 obtain ⟨te,pe,he⟩:=he
 refine ⟨_,ps_expr (pe_bm PySem.F.plainAttrs_list PySem.F.slot_list_extend PySem.F.type_list_extend mt_extend (xP hN hv hd hcd) (yL pe xO hs) hbase hfew hline hs rfl) hsw,fun H₀ H O σ ds hd out E o e h=>?_⟩
 unfold extG at e
 cases hsl:ds[i]? with
 | none=>rw [hsl] at e; cases e
 | some s =>
   rw [hsl] at e
   cases s with
   | v d'=>cases e
   | no=>cases e
   | exc _=>cases e
   | fr _=>cases e
   | ob _ _=>cases e
   | own l =>
     simp only at e
     cases h1:fe ds with
     | none=>rw [h1] at e; cases e
     | some d =>
       rw [h1] at e
       simp only [Option.bind_some] at e
       split at e
       · rename_i hl
         cases e
         obtain ⟨a,xs,q1,q2,q3,q4⟩:=o.readO hsl
         refine ⟨.ref a,q1,.inl ⟨rfl,xs,SqL.of q3⟩,?_⟩
         refine he H₀ H O σ ds hd d _ o h1 fun b ys H1 s1 hn hb r1=>?_
         refine ⟨a,b,xs,ys,rfl,rfl,s1 _ _ q3,hb,by rw [q4.length,r1.length]; exact hl,?_⟩
         exact h _ _ _ ((o.mono s1).modify hsl q1 ((q4.mono s1).append (r1.less fun a z=>.inr z)))
       · cases e
end
end FL
namespace L2
open PySem PySem.Spec PyProof.Rows
section
variable {X:Cx}
end
end L2
namespace Att
open PySem PySem.W PySem.Calls PyProof.Rows
theorem bits_script:∀ {ns:List Int} {b:Nat},WData.weightAll (ns.map WData.int)<=b->∀ c∈ns,Builtin.Int.intBits c<=b
 | [],_,_=>fun c hc=>by cases hc
 | n :: r, b, h => fun c hc => by
   simp only [List.map_cons,WData.weightAll,WData.weight] at h
   rcases List.mem_cons.mp hc with rfl | hc
   · unfold Builtin.Int.intBits
     omega
   · exact bits_script (ns:=r) (b:=b) (by omega) c hc
theorem attach_callB {l:OpenLaw} {n:Nat} {q:Program} {loose:List Str} {XP:(Str->Option Value)->Heap->Prop} {YP:World->Heap->Prop} {d:DefRec}
  (hn:l.most=some n) (hdf:d.params.defaults=[])
  (call:∀ (w:World) (s₀ s₁ : Shared) (mg mb:Str->Option Value) (fa:Addr) (o:Obj) (pm cd doc:Value) (a:Addr) (vs:List Value) (ns:List Int),
    Ground q loose [] XP w s₀ mg mb s₁.heap->YP w s₁.heap →
    s₁.heap.get? fa=some o->o.data = .func (docDef d.name d.params d.body d.scope pm cd doc)->s₁.heap.CodeRec cd d.name->mg d.name=some (.ref fa) →
    s₁.heap.get? a=some { cls:=.type "list",data:=.seq vs.toArray }->IntsAre vs ns->ns.length<=n->(∀ c∈ns,Builtin.Int.intBits c<=1048576)->s₁.gens = #[] →
    codeAny (model l.prog w) callerA (.call (.ref fa) ⟨[.ref a],[]⟩) (fun r s'=>r = .ok (.ret (.bool true))/\OldK s₁.heap s'.heap/\s'.os=s₁.os/\AllBare s'.gens) s₁) :
  WalkO q loose XP YP l.row.toRowW d [] (fun f vs=>PySem.call f vs):=by
 intro w s₀ s₁ mg mb G Y fa o pm cd doc dV kV ho hd hcd hD hmg hg args vals as hpre hlay hrd hwl hlo
 obtain rfl:dV = .none:=Dflts.none hD hdf
 obtain rfl:kV = .none:=Dflts.noKw hD
 obtain ⟨a,vs,ns,rfl,rfl,hobj,hints,hlen⟩:=script_of hn hpre hwl
 have hb:∀ c∈ns,Builtin.Int.intBits c<=1048576:=by
  have h1:=(layableW_iff.mp (layW_cons hlay).1).2.2
  simp only [WData.weight] at h1
  exact bits_script (Nat.le_trans h1 (by decide))
 refine enter_call (codeAny_mono (call w s₀ s₁ mg mb fa o pm cd doc a vs ns G Y ho (fd_plain hd) hcd hmg hobj hints hlen hb hg) fun r s' hq=>?_)
 obtain ⟨rfl,h2,h3,h4⟩:=hq
 exact ⟨.inl ⟨.bool true,.bool true,[],rfl,fun _=>rfl,.bool true,post_true l _,fun _=>⟨List.Pairwise.nil,fun _ hm=>(nomatch hm)⟩⟩,h2,h3,h4⟩
end Att
namespace FL
open PySem PySem.Spec PyProof.Rows L2
def spLawB (K:Frag) (n:Nat):Sp:=fun vs H Q _=>∃ (a:Addr) (ns:List Int),vs=[.ref a]/\SqL K H a (ns.map V.int)/\ns.length<=n/\(∀ c∈ns,Builtin.Int.intBits c<=1048576)/\∀ H',Q (.bl true) H'
theorem law_ofB {P:Program} {w:World} {K:Frag} {mg:Str->Option Value} {base:Heap} {k:Nat} {f:Addr} {fd:FuncData} {x:Str} {n:Nat} {F:List D->Option Ret} (Fn:FnOk P w K mg base CX0 k f fd [x] (spF K 1 F))
  (h:∀ ns:List Int,ns.length<=n->(∀ c∈ns,Builtin.Int.intBits c<=1048576)->F [.lst (ns.map D.int)]=some (.val (.bl true))):FnOk P w K mg base CX0 k f fd [x] (spLawB K n):=by
 refine Fn.imp fun vs H Q E hq=>?_
 obtain ⟨a,ns,rfl,hS,hl,hb,q⟩:=hq
 refine ⟨rfl,[.lst (ns.map D.int)],.val (.bl true),.cons ?_ .nil,h ns hl hb,fun v H' s r=>?_⟩
 · rcases hS with hS | hS
   · exact .lst (fun z=>z.elim) hS (Reps.ints ns)
   · exact .lstK hS (Reps.ints ns)
 · cases r; exact q H'
open PySem.W (tabIn CodeHd tabObj noTabs tab_of) in
inductive TabL (K:Frag) (q:Program):List Str->List (Str×Addr×Addr)->Prop
 | nil:TabL K q [] []
 | yes {x:Str} {xs:List Str} {c P:Addr} {tl:List (Str×Addr×Addr)} (h:PySem.W.tabIn K x=some (c,P)) (r:((recsOf q).find? (fun e=>e.name == x)).isSome=true) (ap:(tl.all fun p=>p.2.2 != P)=true) (t:TabL K q xs tl):TabL K q (x::xs) ((x,c,P)::tl)
 | no {x:Str} {xs:List Str} {tl:List (Str×Addr×Addr)} (h:PySem.W.tabIn K x=none) (t:TabL K q xs tl):TabL K q (x::xs) tl
theorem tabL_no {K:Frag} {q:Program} {x:Str} {xs:List Str} {tl:List (Str×Addr×Addr)} (h:PySem.W.nsIn K mainGlobals x=some none) (t:TabL K q xs tl):TabL K q (x::xs) tl:=.no (by unfold PySem.W.tabIn; rw [h]) t
theorem tabL_yes {K:Frag} {q:Program} {x:Str} {xs:List Str} {c P f:Addr} {fd:FuncData} {oc oc':Value} {od od':Option Addr} {sl sl':Array (Option Value)} {vs:Array Value} {tl:List (Str×Addr×Addr)} (h1:PySem.W.nsIn K mainGlobals x=some (some (.ref f))) (h2:K.lookup f=some ⟨oc,od,.func fd,sl⟩)
  (h3:fd.code = .ref c) (h4:K.lookup c=some ⟨oc',od',.fields vs,sl'⟩) (h5:(vs[11]? : Option Value)=some (.ref P)) (r:((recsOf q).find? (fun e=>e.name == x)).isSome=true) (t:TabL K q xs tl) (ap:(tl.all fun p=>p.2.2 != P)=true):TabL K q (x::xs) ((x,c,P)::tl) :=
 .yes (by unfold PySem.W.tabIn; simp only [h1,h2,h3,h4,h5]) r ap t
section
variable {K:Frag} {q:Program} {xs:List Str} {tl:List (Str×Addr×Addr)}
theorem TabL.get (h:TabL K q xs tl):∀ {x:Str} {c P:Addr},x∈xs->PySem.W.tabIn K x=some (c,P)->(x,c,P)∈tl:=by
 induction h with
 | nil=>intro x c P hx; cases hx
 | yes h r ap t ih =>
   intro x c P hx ht
   rcases List.mem_cons.mp hx with e | e
   · subst e
     rw [h] at ht
     cases ht
     exact List.mem_cons_self
   · exact List.mem_cons_of_mem _ (ih e ht)
 | no h t ih =>
   intro x c P hx ht
   rcases List.mem_cons.mp hx with e | e
   · subst e
     rw [h] at ht
     cases ht
   · exact ih e ht
theorem TabL.fact (h:TabL K q xs tl):∀ p∈tl,PySem.W.tabIn K p.1=some (p.2.1,p.2.2)/\((recsOf q).find? (fun e=>e.name == p.1)).isSome=true:=by
 induction h with
 | nil=>intro p hp; cases hp
 | yes h r ap t ih =>
   intro p hp
   rcases List.mem_cons.mp hp with e | e
   · subst e; exact ⟨h,r⟩
   · exact ih p e
 | no h t ih=>exact ih
def tabH (K:Frag) (tl:List (Str×Addr×Addr)):Hp:=fun b=>(tl.find? fun p=>p.2.2 == b).map fun p=>.tbl (innerQ K p.1)
theorem tabH_of {b:Addr} {u:HO} (e:tabH K tl b=some u):∃ p∈tl,b=p.2.2/\u = .tbl (innerQ K p.1):=by
 unfold tabH at e
 cases h:tl.find? fun p=>p.2.2 == b with
 | none=>rw [h] at e; cases e
 | some p =>
   rw [h] at e
   cases e
   exact ⟨p,List.mem_of_find?_eq_some h,(beq_iff_eq.mp (List.find?_some (p:=fun p:Str×Addr×Addr=>p.2.2 == b) h)).symm,rfl⟩
theorem TabL.at (h:TabL K q xs tl):∀ p∈tl,tabH K tl p.2.2=some (.tbl (innerQ K p.1)):=by
 induction h with
 | nil=>intro p hp; cases hp
 | yes h r ap t ih =>
   intro p hp
   rename_i x xs c P tl
   unfold tabH
   rcases List.mem_cons.mp hp with e | e
   · subst e
     simp
   · have:(P == p.2.2)=false:=by
      have:=List.all_eq_true.mp ap p e
      simp only [bne_iff_ne,ne_eq] at this
      exact beq_eq_false_iff_ne.mpr (Ne.symm this)
     rw [List.find?_cons,this]
     exact ih p e
 | no h t ih=>exact ih
end
theorem no_cls {K:Frag} {h:Heap} {b:Addr} {o:Obj} {ps:Array Value} (X:K.In h) (hK:PySem.W.noTabs K=true) (e:K.lookup b=some o) (hb:h.get? b=some (PySem.W.tabObj ps)):False:=by
 have q:=X b o e
 rw [hb] at q
 cases q
 have h2:=List.all_eq_true.mp hK (b,_) (PySem.W.mem_of_lookupK e)
 exact absurd (show false=true from h2) Bool.false_ne_true
theorem law_callT {P:Program} {w:World} {K:Frag} {q:Program} {loose:List Str} {mean:ExcName->Option Value} {mg mb:Str->Option Value} {k:Nat} {fa a:Addr} {fd:FuncData} {x:Str} {sp:Sp} {s₁ : Shared} {vs:List Value} {ns:List Int} {tl:List (Str×Addr×Addr)}
  (KX:K.In s₁.heap) (T:Top q loose mean mg mb s₁.heap) (hT:TabL K q makers tl) (hK:PySem.W.noTabs K=true) (hg:s₁.gens = #[]) (ha:s₁.heap.get? a=some { cls:=.type "list",data:=.seq vs.toArray }) (hi:IntsAre vs ns) (hl:ns.length<=sizeLine) (hr:Room k callerA)
  (F:∀ base:Heap,K.In base->base.Ns mainGlobals mg->FnOk P w K mg base CX0 k fa fd [x] sp) (hbind:∀ (s:Shared) (u:Value),BindsTo s fd ⟨[u],[]⟩ [(x,u)])
  (hsp:∀ H:Hp,SqL K H a (ns.map V.int)->sp [.ref a] H (fun v _=>v = .bl true) fun _ _ _=>False) :
  codeAny (model P w) callerA (.call (.ref fa) ⟨[.ref a],[]⟩) (fun r s'=>r = .ok (.ret (.bool true))/\OldK s₁.heap s'.heap/\s'.os=s₁.os/\AllBare s'.gens) s₁:=by
 have rv:=vals_ints hi
 have tf:∀ p∈tl,PySem.W.CodeHd s₁.heap p.2.1 p.2.2/\s₁.heap.get? p.2.2=some (PySem.W.tabObj #[]):=fun p hp=>by
  obtain ⟨h1,h2⟩:=hT.fact p hp
  obtain ⟨d,hd⟩:=Option.isSome_iff_exists.mp h2
  exact PySem.W.tab_of T KX hd h1
 have core:∀ H:Hp,SqL K H a (ns.map V.int)->L2.HOk P w H s₁.heap->(∀ b u,H b=some u->(b=a/\K.lookup a=none/\∃ o xs,u = .frz o (.lst xs)) \/ ∃ p∈tl,b=p.2.2/\u = .tbl (innerQ K p.1))->(∀ p∈tl,H p.2.2=some (.tbl (innerQ K p.1))) →
   codeAny (model P w) callerA (.call (.ref fa) ⟨[.ref a],[]⟩) (fun r s'=>r = .ok (.ret (.bool true))/\OldK s₁.heap s'.heap/\s'.os=s₁.os/\AllBare s'.gens) s₁:=by
  intro H hS hok hA hP
  have free_of:∀ {b:Addr} {o:Obj},s₁.heap.get? b=some o->(∀ its n,o.data≠.seq its n)->o.data≠.fields #[]->H b=none:=fun {b o} e n1 n2=>by
   cases qb:H b with
   | none=>rfl
   | some u =>
     rcases hA b u qb with ⟨rfl,_,_⟩ | ⟨p,hp,rfl,_⟩
     · rw [ha] at e; cases e; exact (n1 _ _ rfl).elim
     · rw [(tf p hp).2] at e; cases e; exact (n2 rfl).elim
  have base_of:∀ {b:Addr} {o:Obj},s₁.heap.get? b=some o->(∀ its n,o.data≠.seq its n)->o.data≠.fields #[]->(hidT s₁.heap H).get? b=some o:=fun e n1 n2=>hidT_get e (free_of e n1 n2)
  have nsK:∀ {b:Addr} {m:Str->Option Value},s₁.heap.Ns b m->(hidT s₁.heap H).Ns b m:=fun {b m} ⟨o,es,ep,e,d,r⟩=>⟨o,es,ep,base_of e (fun _ _ z=>by rw [d] at z; cases z) (fun z=>by rw [d] at z; cases z),d,r⟩
  have hKb:K.In (hidT s₁.heap H):=fun b o e=>hidT_get (KX b o e) (by
   cases qb:H b with
   | none=>rfl
   | some u =>
     rcases hA b u qb with ⟨rfl,z,_⟩ | ⟨p,hp,rfl,_⟩
     · rw [z] at e; cases e
     · exact (no_cls KX hK e (tf p hp).2).elim)
  have hM:Mod K mg (hidT s₁.heap H):=⟨hKb,nsK T.g,⟨mb,nsK T.b,T.builtins⟩,let ⟨mc,h1,h2⟩:=T.nolimit; ⟨mc,nsK h1,h2⟩⟩
  have hTab:TabsK K mg (hidT s₁.heap H) H:=by
   refine ⟨?_,fun y c P' hy ht=>?_⟩
   · obtain ⟨bm, ob, b1, b2, b3, b4, b5, b6⟩ := T.bmain
     exact ⟨bm,ob,b1,b2,base_of b3 (fun _ _ z=>by rw [b6] at z; cases z) (fun z=>by rw [b6] at z; cases z),b4,b5,b6⟩
   · have hm := hT.get hy ht
     refine ⟨?_,hP _ hm⟩
     obtain ⟨o,ws,file,tf',flags,tg,inF,text,tt,e1,r1,r2,r3,rest⟩:=(tf _ hm).1
     refine ⟨o,ws,file,tf',flags,tg,inF,text,tt,base_of e1 (fun _ _ z=>by rw [r2] at z; cases z) (fun z=>?_),r1,r2,r3,rest⟩
     rw [r2] at z
     cases z
     cases r3
  have e0:Env0 P w K mg (hidT s₁.heap H) callerA [] s₁ H:=⟨rfl,hM,fun b o e=>of_hidT e,⟨Nat.le_of_eq (hidT_size _ _),hTab⟩,trivial,fun b hb=>absurd (show b∈([]:List Addr) from hb) (by simp),hok,.of_eq hg⟩
  refine codeAny_mono ((F _ hKb (nsK T.g)).run callerA [] s₁ H ⟨[.ref a],[]⟩ [.ref a] [.ref a] _ _ hr e0 (hbind s₁ (.ref a)) (.cons rfl .nil) (hsp H hS)) fun r s' h=>?_
  cases r with
  | error e=>exact False.elim h
  | ok fl =>
    cases fl with
    | next=>exact False.elim h
    | brk=>exact False.elim h
    | cont=>exact False.elim h
    | ret u =>
      obtain ⟨v,H',os,bare,un,hok',r',hv⟩:=h
      have hv':v = .bl true:=hv
      subst hv'
      obtain rfl:u=Value.bool true:=r'
      refine ⟨rfl,⟨fun b o e=>?_,fun b o e=>un.there b o e (by simp)⟩,os,bare⟩
      cases qb:H b with
      | none=>exact .inl (un.keep b o e qb (by intro z; exact absurd (show b∈([]:List Addr) from z) (by simp)) (by simp))
      | some u =>
        rcases hA b u qb with ⟨_,_,ob,xs,rfl⟩ | ⟨p,hp,rfl,rfl⟩
        · obtain ⟨e1, _⟩ := hok b _ qb
          obtain ⟨e2,_⟩:=hok' b _ (un.frzs b ob _ qb)
          rw [e] at e1; cases e1
          exact .inl e2
        · have t2 := (tf p hp).2
          rw [e] at t2
          cases t2
          obtain ⟨ps,e2,_⟩:=hok' _ _ (un.tbls _ _ qb)
          exact .inr (.inl ⟨((tf p hp).1.tab (tf p hp).2).isCodeTable,rfl,#[],ps,rfl,by rw [Array.empty_append]; exact e2⟩)
 have tabOk:∀ (H:Hp) (p:Str×Addr×Addr),p∈tl->ObjOk P w H s₁.heap p.2.2 (.tbl (innerQ K p.1)):=fun H p hp=>⟨#[],(tf p hp).2,trivial,fun pos v z=>by cases z⟩
 cases hk:K.lookup a with
 | some o =>
   have e:=KX a o hk
   rw [ha] at e
   cases e
   refine core (tabH K tl) (.inr ⟨_,vs.toArray,_,hk,rfl,rfl,rfl,by rw [List.size_toArray,hi.length]; exact hl,by simpa using rv⟩) (fun b u z=>?_) (fun b u z=>.inr (tabH_of z)) fun p hp=>hT.at p hp
   obtain ⟨p,hp,rfl,rfl⟩:=tabH_of z
   exact tabOk _ p hp
 | none =>
   have na:∀ p∈tl,p.2.2≠a:=fun p hp z=>by
    have:=(tf p hp).2
    rw [z,ha] at this; cases this
   refine core (upd (tabH K tl) a (.frz { cls:=.type "list",data:=.seq vs.toArray } (.lst (ns.map V.int)))) (.inl (.inr ⟨_,qK⟩)) (fun b u z=>?_) (fun b u z=>?_) fun p hp=>by rw [qA (na p hp)]; exact hT.at p hp
   · by_cases hb : b = a
     · subst hb
       rw [qK] at z
       cases z
       exact ⟨ha,by rw [List.length_map]; exact hl,vs,_,rv,ha⟩
     · rw [qA hb] at z
       obtain ⟨p,hp,rfl,rfl⟩:=tabH_of z
       exact tabOk _ p hp
   · by_cases hb : b = a
     · subst hb
       rw [qK] at z
       cases z
       exact .inl ⟨rfl,hk,_,_,rfl⟩
     · rw [qA hb] at z
       exact .inr (tabH_of z)
theorem walkB {l:PySem.W.OpenLaw} {q:Program} {loose:List Str} {XP:(Str->Option Value)->Heap->Prop} {YP:World->Heap->Prop} {d:DefRec} {K:Params->PySem.W.Frag} {k:Nat} {tl:List (Str×Addr×Addr)} (hn:l.most=some 63) (hdf:d.params.defaults=[]) (hr:Room k callerA)
  (hY:∀ (w:World) (h:Heap),YP w h->(K w.params).In h) (hK:∀ w:World,PySem.W.noTabs (K w.params)=true) (hT:∀ w:World,TabL (K w.params) q makers tl)
  (F:∀ (w:World) (mg:Str->Option Value) (fa:Addr) (h:Heap),(K w.params).In h->h.Ns mainGlobals mg->mg d.name=some (.ref fa) →
    ∃ fd:FuncData,(∀ (s:Shared) (u:Value),BindsTo s fd ⟨[u],[]⟩ [("_law_script",u)])/\∀ base:Heap,(K w.params).In base->base.Ns mainGlobals mg->FnOk l.prog w (K w.params) mg base CX0 k fa fd ["_law_script"] (spLawB (K w.params) 63)) :
  PySem.W.WalkO q loose XP YP l.row.toRowW d [] (fun f vs=>PySem.call f vs):=by
 refine Att.attach_callB hn hdf fun w s₀ s₁ mg mb fa o pm cd doc a vs ns G Y ho hd hcd hmg hobj hints hlen hb hg=>?_
 have KX:=hY w _ Y
 obtain ⟨fd,hbd,hF⟩:=F w mg fa _ KX G.T.g hmg
 exact law_callT KX G.T (hT w) (hK w) hg hobj hints (Nat.le_trans hlen (by decide)) hr hF hbd fun H hS=>⟨a,ns,rfl,hS,hlen,hb,fun _=>rfl⟩
structure Cal (P:Program) (w:World) (K:Frag) (mg:Str->Option Value) (base:Heap) (x:Str) (k n:Nat) (F:List D->Option Ret):Prop where
 ex:∃ (f:Addr) (fd:FuncData) (ps:List Str),FnOk P w K mg base CX0 k f fd ps (spF K n F)/\Binds K fd ps []/\PySem.W.keepIn K (.ref f)=true/\mg x=some (.ref f)
section
variable {X:Cx}
section
variable {k j:Nat} {n:Nat} {F:List D->Option Ret} {x:Str} {p pos:Pos} {e:Expr} {es:List Expr} {g:FA}
theorem zM (C:Cal X.prog X.w X.K X.mg X.base x k n F) (hr:Room j X.A) (ha:PAn X (e::es) g) (hj:k<=j:=by decide)
  (hg:Gl X x:=by rfl) (hdb:(x == ("__debug__" : Str))=false:=by decide) (he:starEach (e::es) X.env=(false,eval e X.env)::starEach es X.env:=by rfl) (hpl:(backTo pos (starEach es X.env)).any (·.1)=false:=by rfl) :
  PV X (.Call (.Name x p) (e::es) [] pos) (qF n F g):=by
 obtain ⟨f,fd,ps,Fn,hb,hk,hm⟩:=C.ex
 exact pv_callN Fn (hr.mono hj) hm hk hb ha hg hdb he hpl
theorem xY (C:Cal X.prog X.w X.K X.mg X.base x k n F) (hr:Room j X.A) (ha:PAn X (e::es) g) (hj:k<=j:=by decide)
  (hg:Gl X x:=by rfl) (hdb:(x == ("__debug__" : Str))=false:=by decide) (he:starEach (e::es) X.env=(false,eval e X.env)::starEach es X.env:=by rfl) (hpl:(backTo pos (starEach es X.env)).any (·.1)=false:=by rfl) :
  PVf X (.Call (.Name x p) (e::es) [] pos) (callF n F g):=by
 obtain ⟨f,fd,ps,Fn,hb,hk,hm⟩:=C.ex
 exact pvf_callN Fn (hr.mono hj) hm hk hb ha hg hdb he hpl
end
end
section
variable {X:Cx} {a b:Expr} {fa fb:FE} {pos:Pos}
theorem pv_le (ha:PVw X a fa) (hb:PVw X b fb):PV X (.Compare a [.LtE] [b] pos) (zL leD fa fb):=pv_cmp op_le wG ha hb (nomark _)
theorem pv_gt (ha:PVw X a fa) (hb:PVw X b fb):PV X (.Compare a [.Gt] [b] pos) (zL gtD fa fb):=pv_cmp op_gt wG ha hb (nomark _)
theorem pt_lt (ha:PVw X a fa) (hb:PVw X b fb):PTv X (.Compare a [.Lt] [b] pos) (zU (zL ltD fa fb)):=kE op_lt wG ha hb (nomark _)
theorem pt_le (ha:PVw X a fa) (hb:PVw X b fb):PTv X (.Compare a [.LtE] [b] pos) (zU (zL leD fa fb)):=kE op_le wG ha hb (nomark _)
theorem kB (ha:PVw X a fa) (hb:PVw X b fb):PTv X (.Compare a [.Gt] [b] pos) (zU (zL gtD fa fb)):=kE op_gt wG ha hb (nomark _)
theorem pt_ge (ha:PVw X a fa) (hb:PVw X b fb):PTv X (.Compare a [.GtE] [b] pos) (zU (zL geD fa fb)):=kE op_ge wG ha hb (nomark _)
theorem qV (ha:PVw X a fa) (hb:PVw X b fb):PV X (.BinOp a .Add b pos) (zL xN fa fb):=vQ op_addU os_add ha hb
theorem vC (ha:PVw X a fa) (hb:PVw X b fb):PV X (.BinOp a .Sub b pos) (zL subD fa fb):=vQ op_sub os_sub ha hb
theorem jQ (ha:PVw X a fa) (hb:PVw X b fb):PV X (.BinOp a .Mult b pos) (zL yT fa fb):=vQ op_mulB os_mul ha hb
theorem kA (ha:PVw X a fa) (hb:PVw X b fb):PV X (.BinOp a .Pow b pos) (zL powD fa fb):=vQ op_powB os_pow ha hb
theorem jA (ha:PVw X a fa) (hb:PVw X b fb):PV X (.BinOp a .Mod b pos) (zL xL fa fb):=vQ op_mod os_mod ha hb
theorem qU (ha:PVw X a fa) (hb:PVw X b fb):PV X (.BinOp a .FloorDiv b pos) (zL qY fa fb):=vQ op_fdivB os_fdiv ha hb
end
end FL
namespace L2
open PySem PySem.Spec PyProof.Rows
section
variable {X:Cx} {tg:Expr}
theorem pi_seq {l:Expr} {tl:TE} (hl:PE X l tl):PI X tg l (fun σ H R=>iList X.K tl σ H R \/ iTup X.K tl σ H R):=by
 intro pins s σ H R I h
 rcases h with h | h
 · exact pi_list hl pins s σ H R I h
 · exact pi_tup hl pins s σ H R I h
end
end L2
namespace FL
open PySem PySem.Spec PyProof.Rows L2
section
variable {X:Cx}
theorem jP {tg e:Expr} {f:FE} (h:PV X e f):PIv X tg e (viaA f asLT):=by
 obtain ⟨t,ht,hf⟩:=h
 refine ⟨_,pi_seq ht,fun H₀ H O σ ds hd items R o e q=>?_⟩
 unfold viaA at e
 cases h1:f ds with
 | none=>rw [h1] at e; cases e
 | some d =>
   rw [h1] at e
   cases d with
   | lst l =>
     cases e
     refine .inl (hf H₀ H O σ ds hd _ _ o h1 fun v H' s r=>?_)
     obtain ⟨a,xs,rfl,hs,rs⟩:=WRep.seqL (.inl r)
     exact ⟨a,rfl,⟨xs,hs⟩,q _ (.ref a,.lst items) H' s r wlk_list⟩
   | tup l =>
     cases e
     refine .inr (hf H₀ H O σ ds hd _ _ o h1 fun v H' s r=>?_)
     obtain ⟨a,xs,rfl,hs,rs⟩:=WRep.seqT (.inl r)
     exact ⟨a,rfl,⟨xs,hs⟩,q _ (.ref a,.tup items) H' s r wlk_tup⟩
   | _=>cases e
end
end FL
namespace L2
open PySem PySem.Spec PyProof.Rows
def Itr3 (lo c:Int) (n:Nat):It:=⟨fun i _=>i < n,fun i H x H'=>H'=H/\x = .int (lo+(i:Int) * c),fun i _=>n<=i⟩
theorem turn_range3 {P:Program} {w:World} {K:PySem.W.Frag} {tg:Expr} (it:Addr) (lo c:Int) (n:Nat):Turn P w K tg (Itr3 lo c n) [it] it (fun i h=>IsRangeIter h it (lo+(i:Nat) * c) ((n:Int) - (i:Nat)) c) where
 mem:=by simp
 obj:=fun i h st b hb=>by
  have e:b=it:=by simpa using hb
  subst e
  exact ⟨_,st,fun v z=>by
   have z':Data.fields _=Data.cell v:=z
   cases z'⟩
 keep:=fun i h h' st k=>k it (by simp) _ st
 item:=by
  intro X hP hw hK hc i pins s σ H E I hf st hg
  subst hP hw hK
  obtain ⟨f0,f1,f2,f3,f4,f5⟩:=hf it (by simp)
  have W:=Walks.range (prog:=X.prog) (w:=X.w) (I.ok.hd hc) it lo c n
  refine W.item i s _ _ hg st fun v h' tk hv st' kk=>?_
  obtain ⟨t,rfl⟩:=hv
  have I1:Inv X pins σ H { s with heap:=h',toks:=tk }:=I.turned (fun b o hb e=>kk b o (by simpa using hb) e) f0 f1 f3 f4 f5
  exact ⟨_,rfl,go_of (s:={ s with heap:=h',toks:=tk }) (n:="range_iterator") st' rfl rfl (by decide) ⟨.int (lo+(i:Int) * c),H,I1,⟨t,rfl⟩,⟨rfl,rfl⟩,st',fun b hb=>(hf b hb).1⟩⟩
 done:=by
  intro X hP hw hK hc i pins s σ H E I hf st hg
  subst hP hw hK
  obtain ⟨f0,f1,f2,f3,f4,f5⟩:=hf it (by simp)
  exact wpAny_pyNext_range_end (I.ok.hd hc) st (by have:n<=i:=hg; omega) fun h' eb=>⟨rfl,I.turned (t':=s.toks) (fun b o hb e=>eb b o hb e) f0 f1 f3 f4 f5⟩
 self:=fun _ _ _ _ _ st h=>wpAny_pyIter_rangeiter st h
section
variable {X:Cx} {tg:Expr}
end
end L2
namespace FL
open PySem PySem.Spec PyProof.Rows L2
section
variable {X:Cx}
theorem piv_range2 {tg a b:Expr} {p pos:Pos} {fa fb:FE} (hm:X.mg "range" = none) (ha:PVw X a fa) (hb:PVw X b fb) (hg:Gl X "range":=by rfl) (hs:starEach [a,b] X.env=[(false,eval a X.env),(false,eval b X.env)]:=by rfl) (hs2:starEach [b] X.env=[(false,eval b X.env)]:=by rfl) :
  PIv X tg (.Call (.Name "range" p) [a,b] [] pos) (rng2 fa fb):=by
 obtain ⟨t,ht,hf⟩:=qH ha (qH hb jC (by rw [hs2]; rfl)) (by rw [hs,hs2])
 refine ⟨_,pi_range2 hg hm ht hs hs2,fun H₀ H O σ ds hd items R o e q=>?_⟩
 unfold rng2 at e
 cases h1:fa ds with
 | none=>rw [h1] at e; cases e
 | some dx =>
   cases h2:fb ds with
   | none=>rw [h1,h2] at e; cases e
   | some dy =>
     rw [h1,h2] at e
     simp only [Option.bind_some] at e
     cases dx <;> cases dy <;> first | (cases e; done) | skip
     simp only at e
     split at e
     · rename_i i j hc
       cases e
       refine hf H₀ H O σ ds hd [.int i,.int j] _ o (by simp [zG,h1,h2,qC]) fun vs H' s r=>?_
       cases r with
       | cons r1 rr =>
         cases rr with
         | cons r2 rr =>
           cases rr
           exact ⟨i,j,by rw [r1.int',r2.int'],⟨hc.1.1,hc.1.2,hc.2.1,hc.2.2⟩,q _ (.non,.non) H' s .non vF⟩
     · cases e
theorem wlk_range3 {K:Frag} {lo c:Int} {n:Nat} : Wlk K (Itr3 lo c n) (.non,.non) (range3D lo c n):=by
 intro H O _ r
 have hl:(range3D lo c n).length=n:=by simp [range3D]
 refine ⟨fun i d hd=>?_,show n<=_ by rw [hl]; exact Nat.le_refl _⟩
 have hi:i < n:=by
  have:=(List.getElem?_eq_some_iff.mp hd).1
  rwa [hl] at this
 refine ⟨hi,fun x H' y=>?_⟩
 obtain ⟨rfl,rfl⟩:=y
 have:d=D.int (lo+(i:Int) * c):=by
  simp only [range3D,List.getElem?_map,List.getElem?_range hi,Option.map_some] at hd
  exact (Option.some.inj hd).symm
 subst this
 exact ⟨Same.refl _,.int _⟩
theorem pv_int1 {p pos:Pos} {e:Expr} {g:FA} (hm:X.mg "int" = none) (ha:PAv X [e] g) (hg:Gl X "int":=by rfl) (he:starEach [e] X.env=[(false,eval e X.env)]:=by rfl):PV X (.Call (.Name "int" p) [e] [] pos) (callB int1D g):=by
 obtain ⟨t,ht,hf⟩:=ha
 refine ⟨_,pe_callTy call_int1 hg hm (by decide +kernel) ht (by decide) (by decide) he rfl,fun H₀ H O σ ds hd d Q o e q=>?_⟩
 unfold callB at e
 cases h:g ds with
 | none=>rw [h] at e; cases e
 | some l =>
   rw [h] at e
   simp only [Option.bind_some] at e
   refine hf H₀ H O σ ds hd l _ o h fun vs H1 s1 r1=>?_
   match l,r1,e with
   | [.int i], .cons r .nil, e =>
     cases e
     exact .inl ⟨i,by rw [r.int'],q _ H1 s1 (.int _)⟩
   | [.bl b], .cons r .nil, e =>
     cases e
     exact .inr ⟨b,by rw [r.bl'],q _ H1 s1 (.int _)⟩
theorem psv_augA {i:Nat} {x:Str} {e:Expr} {pos pos':Pos} {f:FE} (hN:X.N.Nodup) (he:PV X e f) (hi:X.N[i]? = some x:=by rfl) (hx:Loc X.env.scope x:=by first | exact Or.inl rfl | exact Or.inr rfl)
  (hf:X.fn x=true \/ X.env.scope.names.lookup x=some .local:=by first | exact .inl rfl | exact .inr rfl):PSv X (.AugAssign (.Name x pos') .Add e pos) (augA i f):=by
 obtain ⟨t,ht,hg⟩:=he
 refine ⟨_,ps_aug hN hi hx ht ip_add hf,fun H₀ H O σ ds hd out E o e h=>?_⟩
 unfold augA qW at e
 cases hs:ds[i]? with
 | none=>rw [hs] at e; cases e
 | some sl =>
   rw [hs] at e
   cases sl with
   | no=>cases e
   | exc _=>cases e
   | fr _=>cases e
   | ob _ _=>cases e
   | own l=>cases e
   | v dx =>
     simp only [Option.bind_some] at e
     cases h1:f ds with
     | none=>rw [h1] at e; cases e
     | some dy =>
       rw [h1] at e
       simp only [Option.bind_some] at e
       cases dx <;> first | (cases e; done) | skip
       cases dy <;> first | (cases e; done) | skip
       cases e
       obtain ⟨v,q1,q2⟩:=o.read hs
       cases q2
       refine ⟨_,q1,hg H₀ H O σ ds hd _ _ o h1 fun v H' s r=>?_⟩
       cases r
       exact ⟨_,_,rfl,rfl,h _ _ _ ((o.mono s).set (.int _))⟩
theorem psv_par {i j:Nat} {x y:Str} {a b:Expr} {px py pt pos:Pos} {kt k2 pt2} {f:FA} (hc:X.calm=true) (hN:X.N.Nodup) (ha:PAs X [a,b] f) (hi:X.N[i]? = some x:=by rfl) (hj:X.N[j]? = some y:=by rfl) (hij:i≠j:=by decide)
  (hx:X.env.scope.names.lookup x=some .local:=by rfl) (hy:X.env.scope.names.lookup y=some .local:=by rfl)
  (hw:swappedStores [.Tuple [.Name x px,.Name y py] kt pt] (.Tuple [a,b] k2 pt2) X.env=pure (some [x,y]):=by rfl)
  (hs:swapsWithSole [.Tuple [.Name x px,.Name y py] kt pt] (.Tuple [a,b] k2 pt2) pos.line X.env=pure false:=by rfl) :
  PSv X (.Assign [.Tuple [.Name x px,.Name y py] kt pt] (.Tuple [a,b] k2 pt2) pos) (parG i j f):=by
 obtain ⟨t,ht,hf⟩:=ha
 refine ⟨_,ps_par hc hN hi hj hij hx hy ht hw hs,fun H₀ H O σ ds hd out E o e h=>?_⟩
 unfold parG at e
 cases h1:f ds with
 | none=>rw [h1] at e; cases e
 | some l =>
   rw [h1] at e
   match l,e with
   | [da, db], e =>
     cases e
     refine hf H₀ H O σ ds hd _ _ o h1 fun vs H' s r=>?_
     cases r with
     | cons r1 rr =>
       cases rr with
       | cons r2 rr =>
         cases rr
         exact ⟨_,_,rfl,h _ _ _ (((o.mono s).set r1).set r2)⟩
end
end FL
namespace L2
open PySem PySem.Spec PyProof.Rows
section
variable {X:Cx} {pins:List (Addr×Obj)} {σ : St} {H:Hp} {s:Shared} {h':Heap}
theorem Inv.turnedS {t':Nat} {ch:List Addr} (I:Inv X pins σ H s) (k:∀ b o,b ∉ ch->s.heap.get? b=some o->h'.get? b=some o) (hf:∀ b∈ch,FpOk X pins H b):Inv X pins σ H { s with heap:=h',toks:=t' }:=by
 have nit:∀ b u,H b=some u->b ∉ ch:=fun b u e z=>by rw [(hf b z).1] at e; cases e
 refine I.step (g':=s.gens) (d':=s.drawn) (ch:=ch) (fun b hb=>?_) (fun b o _ _ hc e _=>k b o hc e) (fun b o _ _ hc e _=>⟨o.slots,k b o hc e⟩) (fun _ _ _ _ n=>n)
  (fun b o hc e=>⟨o,k b o hc e⟩) (fun _ _ e=>e) (fun _ _ _ e=>e) (fun _ _ e=>e) (fun m hm=>?_) (fun b u e=>?_) I.bare
 · obtain ⟨f0, f1, f2, f3, f4, f5⟩ := hf b hb
   exact ⟨f3,f1,f4,f5⟩
 · obtain ⟨o, es, ep, ho, r⟩ := hm
   exact ⟨o,es,ep,k _ o (fun z=>(hf _ z).2.1 rfl) ho,r⟩
 · refine (I.hok b u e).stay (fun c v hc q => k c v ?_ q) (fun _ q => q) fun _ _ q => q
   rcases hc with z | z
   · rw [z]; exact nit b u e
   · exact nit c _ z
end
section
variable {X:Cx}
end
end L2
namespace FL
open PySem PySem.Spec PyProof.Rows L2
section
variable {X:Cx}
section
variable {scope:Scope} {NY:List Str} {mp:List (Option Nat)} {tg iter elt:Expr} {ifs:List Expr} {pos:Pos} {fi:FA} {ga:D->List Sl->Option (List Sl)} {tt:FT} {fe:FE}
end
end
end FL
namespace L2
open PySem PySem.Spec PyProof.Rows
section
variable {X:Cx}
end
end L2
namespace FL
open PySem PySem.Spec PyProof.Rows L2
section
variable {X:Cx}
end
section
variable {X:Cx}
end
section
variable {X:Cx}
def bv (x:V) (b:Bool):Bool:=match x with | .bl c=>c == b | _=>false
theorem op_isB:OpR X (compareOp .Is) (fun x y H Q=>∃ b,y = .bl b/\Q (.bl (bv x b)) H):=by
 intro pins s σ H x y v u Q I rx ry h
 obtain ⟨b,rfl,q⟩:=h
 cases ry
 cases x <;> first
  | (cases rx; exact wpAny_is_plain rfl ⟨.bl _,H,I,rfl,q⟩)
  | (cases rx; rename_i c; exact wpAny_is_plain rfl ⟨.bl _,H,I,rfl,by cases c <;> cases b <;> exact q⟩)
  | (obtain ⟨t,rfl⟩:=rx; exact wpAny_is_plain rfl ⟨.bl _,H,I,rfl,q⟩)
theorem bv_rep {K:Frag} {H:Hp} {O:Addr->Prop} {v:V} {d:D} (r:Rep K H O v d) (b:Bool):bv v b=isBV d b:=by cases r <;> rfl
theorem on_isB:OpN X (fun x y H Q=>∃ b,y = .bl b/\Q (.bl (bv x b)) H) isBD:=by
 intro H O x y dx dy d Q rx ry e q
 unfold isBD at e
 cases dy <;> first | (cases e; done) | skip
 cases e
 cases ry
 refine ⟨_,rfl,?_⟩
 rw [bv_rep rx]
 exact q _ H (Same.refl _) (.bl _)
theorem pt_isB {a b:Expr} {fa fb:FE} {pos:Pos} (ha:PVn X a fa) (hb:PVn X b fb):PTv X (.Compare a [.Is] [b] pos) (zU (zL isBD fa fb)):=wZ op_isB on_isB ha hb (nomark _)
end
end FL
namespace L2
open PySem PySem.Spec PyProof.Rows
section
variable {X:Cx}
end
end L2
namespace FL
open PySem PySem.Spec PyProof.Rows L2
section
variable {X:Cx}
end
end FL
namespace L2
open PySem PySem.Spec PyProof.Rows
section
variable {X:Cx}
end
end L2
namespace FL
open PySem PySem.Spec PyProof.Rows L2
section
variable {X:Cx}
theorem PVd.v {e:Expr} {f:FE} (h:PVd X e f):PV X e f:=by
 obtain ⟨t,ht,hf⟩:=h
 exact ⟨t,ht,fun H₀ H O σ ds hd d Q o e q=>hf H₀ H O σ ds hd d Q o e fun v H' s r=>q v H' s (r.less fun a z=>o.old z)⟩
section
variable {m:Str} {k j n:Nat} {cs:List Nat} {F:Nat->List D->Option Ret} {o e:Expr} {es:List Expr} {apos pos:Pos} {fo:FE} {g:FA}
end
end
def Keepx (x:Addr) (H H':Hp):Prop:=∀ b o,b≠x->H b=some o->H' b=some o
theorem Keepx.trans {x:Addr} {H H1 H2:Hp} (a:Keepx x H H1) (b:Keepx x H1 H2):Keepx x H H2:=fun c o n e=>b c o n (a c o n e)
section
variable {K:Frag} {H H':Hp} {O:Addr->Prop} {x:Addr}
end
section
variable {X:Cx}
end
section
variable {X:Cx} {t k j n:Nat} {G:List D->Option (List D)} {x:Str} {p pos:Pos} {e:Expr} {es:List Expr} {g:FA}
end
section
variable {X:Cx}
end
section
variable {X:Cx}
theorem pv_globI {x:Str} {i:Int} {pos:Pos} (hm:∃ t,X.mg x=some (.int i t)) (hg:Gl X x:=by rfl) (hd:(x == ("__debug__" : Str))=false:=by decide):PV X (.Name x pos) (zE (.int i)) :=
 let ⟨t,h⟩:=hm
 pv_glob (v:=.int i) hg h ⟨t,rfl⟩ (fun _ _=>.int i) hd
end
section
variable {X:Cx}
end
section
variable {X:Cx} {k j n:Nat} {F:List D->Option Ret} {x:Str} {p pos:Pos} {e:Expr} {es:List Expr} {g:FA}
end
end FL
namespace PySem
open Sem (wp)
section
variable {prog:Program} {w:World} {A:Around} {R:Result->Shared->Prop} {I:Addr} {fp wr:List Addr} {n:Nat} {P:Nat->Value->Prop} {St:Nat->Heap->Prop} {kw:List (Str×Value)}
end
section
variable {prog:Program} {w:World} {A:Around} {E:Value->Shared->Prop} {s:Shared}
end
end PySem
namespace FL
open PySem PySem.Spec PyProof.Rows L2
section
variable {X:Cx}
end
open PySem.Calls PySem.Builtin PySem.Builtin.ObjectAttr PySem.Builtin.Getset_descriptor
open PySem.W (Looks looks_findIn looks_mroIn findIn mroIn specialIn takesIn KitX)
structure XIn (K:Frag) (C:Addr):Prop where
 ga:findIn K (.ref C) "__getattribute__" = some (some (.builtin "BaseException.__getattribute__"))
 gt:findIn K (.ref C) "__getattr__" = some none
 cl:findIn K (.ref C) "__class__" = some (some (.builtin "object.__class__"))
 ob:mroIn K C (.type "object")=some true
 be:mroIn K C (.type "BaseException")=some true
section
variable {prog:Program} {w:World} {A:Around} {E:Value->Shared->Prop} {h:Heap} {g:Array GenState} {d:Drawn} {t:Nat} {os:OsState} {a C:Addr} {o:Obj} {K:Frag}
theorem x_type {M:Model} (hx:h.get? a=some o) (hc:o.cls = .ref C):Looks M h (typeOf (.ref a)) (.ref C):=hc ▸ (PySem.W.Looks.ld hx).andThen .now
end
end FL
namespace FL
open PySem PySem.Spec PyProof.Rows L2
open PySem.W (hideAll hideAll_get of_hideAll hideAll_none funFrames_hide excIn tail_of_in nsMap_none_of_in isNs_of_in)
theorem obj_get {P:Program} {w:World} {H:Hp} {h:Heap} {a:Addr} {o:HO} (x:ObjOk P w H h a o):∃ u,h.get? a=some u:=by
 cases o with
 | lst xs=>obtain ⟨_,_,_,_,e⟩:=x; exact ⟨_,e⟩
 | tup xs=>obtain ⟨_,_,_,_,e,_⟩:=x; exact ⟨_,e⟩
 | dK kvs=>obtain ⟨_,_,_,_,o,_,_,e,_⟩:=x; exact ⟨_,e⟩
 | dT kvs=>obtain ⟨_,_,_,_,o,_,_,e,_⟩:=x; exact ⟨_,e⟩
 | set S n=>obtain ⟨o,_,_,_,e,_⟩:=x; exact ⟨_,e⟩
 | ins C dx fs=>obtain ⟨_,_,_,e,_⟩:=x; exact ⟨_,e⟩
 | own y=>obtain ⟨_,e⟩:=x; exact ⟨_,e⟩
 | xd fs=>obtain ⟨_,⟨_,_,_,e,_⟩,_⟩:=x; exact ⟨_,e⟩
 | rng lo hi=>obtain ⟨_,_,_,e⟩:=x; exact ⟨_,e⟩
 | frz ob u=>obtain ⟨e,_⟩:=x; exact ⟨_,e⟩
 | tbl ps=>obtain ⟨_,e,_⟩:=x; exact ⟨_,e⟩
 | met f y=>exact ⟨_,(show h.get? a=some _ from x)⟩
 | ext φ=>obtain ⟨_,⟨_,e⟩,_⟩:=x; exact ⟨_,e⟩
structure Thrown (P:Program) (w:World) (outer:List Env) (H:Hp) (s:Shared) (cls:Value) (ea:Addr) (a0:Value) (B:Heap) (H':Hp) (h:Heap):Prop where
 fly:Heap.FlyingW B outer ea cls a0 h
 keep:∀ b o,s.heap.get? b=some o->H b=none->b ∉ frs outer->B.get? b=some o
 there:∀ b o,s.heap.get? b=some o->b ∉ frs outer->∃ o',B.get? b=some o'
 slot:∀ b o,s.heap.get? b=some o->b∈frs outer->∃ sl,h.get? b=some { o with slots:=sl }
 free:∀ b o,s.heap.get? b=some o->H b=none->H' b=none
 tups:∀ b xs,H b=some (.tup xs)->H' b=some (.tup xs)
 frzs:∀ b o u,H b=some (.frz o u)->H' b=some (.frz o u)
 tbls:∀ b ps,H b=some (.tbl ps)->H' b=some (.tbl ps)
 hok:L2.HOk P w H' B
section
variable {P:Program} {w:World} {outer:List Env} {H H':Hp} {s:Shared} {cls a0:Value} {ea:Addr} {B h h':Heap}
theorem Thrown.un (t:Thrown P w outer H s cls ea a0 B H' h):Un (frs outer) [] H H' s.heap h where
 keep:=fun b o e n hb _=>t.fly.1 b o (t.keep b o e n hb)
 slot:=fun b o e n hb _=>t.slot b o e hb
 free:=fun b o e n _=>t.free b o e n
 there:=fun b o e _=>by
  by_cases hb:b∈frs outer
  · obtain ⟨sl,q⟩:=t.slot b o e hb; exact ⟨_,q⟩
  · obtain ⟨o',q⟩:=t.there b o e hb; exact ⟨o',t.fly.1 b o' q⟩
 tups:=t.tups
 frzs:=t.frzs
 tbls:=t.tbls
theorem Thrown.hokh (t:Thrown P w outer H s cls ea a0 B H' h):L2.HOk P w H' h:=t.hok.kept t.fly.1
theorem Thrown.on (t:Thrown P w outer H s cls ea a0 B H' h) (f:Heap.FlyingW B outer ea cls a0 h') (u:h.UpToSlots h'):Thrown P w outer H s cls ea a0 B H' h' where
 fly:=f
 keep:=t.keep
 there:=t.there
 slot:=fun b o e hb=>by
  obtain ⟨sl,q⟩:=t.slot b o e hb
  obtain ⟨_,ob,ho,hd⟩:=t.fly.2.2.1.mem hb
  rw [q] at ho
  cases ho
  obtain ⟨sl',q'⟩:=u b _ q hd
  exact ⟨sl',q'⟩
 free:=t.free
 tups:=t.tups
 frzs:=t.frzs
 tbls:=t.tbls
 hok:=t.hok
theorem Thrown.no (t:Thrown P w outer H s cls ea a0 B H' h):H' ea=none:=by
 cases q:H' ea with
 | none=>rfl
 | some u =>
   obtain ⟨o,e⟩:=obj_get (t.hok _ _ q)
   rw [t.fly.2.1] at e; cases e
end
theorem hok_hidden {P:Program} {w:World} {H:Hp} {h:Heap} (x:L2.HOk P w H h) (l:List Addr) (hl:∀ b∈l,H b=none):L2.HOk P w H (hideAll h l):=fun a o e =>
 (x a o e).stay (fun b u hb q=>hideAll_get _ q fun z=>by
   rcases hb with rfl | hb
   · rw [hl _ z] at e; cases e
   · rw [hl _ z] at hb; cases hb) (fun _ q=>q) fun _ _ q=>q
def CXM (P:Program) (w:World):CXT:=fun outer H s E e s'=>∃ ea cls a0 B H',e = .ref ea/\s'.os=s.os/\AllBare s'.gens/\Thrown P w outer H s cls ea a0 B H' s'.heap/\E cls none H'
def XeOk (X:Cx) (C:Addr) (σ : L2.St) (H:Hp):Prop:=∀ (pins:List (Addr×Obj)) (s:Shared) (h':Heap) (e:Addr) (as:List Value),Inv X pins σ H s->Heap.MadeExcOf s.heap h' e (.ref C) as->X.xe (.ref e) { s with heap:=h' }
theorem xe_raise {P:Program} {w:World} {K:Frag} {mg:Str->Option Value} {base:Heap} {N:List Str} {qual:Str} {scope:Scope} {f C:Addr} {cd:Value} {A:Around} {outer:List Env} {s:Shared} {H H':Hp} {E:XK} {σ : L2.St}
  (hE:E (.ref C) none H'):XeOk (cxOf (CXM P w) P w K mg base N qual scope f cd A outer s H E) C σ H':=by
 intro pins s1 h1 e as I hx
 have hfr:frs (envOfC qual scope s.heap.objs.size f cd::outer)=s.heap.objs.size::frs outer:=rfl
 have nm:∀ b o,s.heap.get? b=some o->b ∉ frs outer->b ∉ frs (envOfC qual scope s.heap.objs.size f cd::outer):=fun b o q n z=>by
  rw [hfr] at z
  rcases List.mem_cons.mp z with z | z
  · exact absurd (Heap.lt_size q) (by rw [z]; exact Nat.lt_irrefl _)
  · exact n z
 show wpAny _ _ (leaving _ _) _ _ _
 refine wpAny_leaves_madeW (base:=hideAll s1.heap (frs (envOfC qual scope s.heap.objs.size f cd::outer))) (h:=s1.heap) I.ok.frames rfl (fun b o q=>of_hideAll _ q) (funFrames_hide I.stack fun env he b hb=>List.mem_filterMap.mpr ⟨env,he,hb⟩) hx fun h' t x1 x2 x3 x4=>?_
 refine ⟨e,.ref C,.ref t,_,H',rfl,I.os,I.bare,⟨x1,fun b o q n hb=>?_,fun b o q hb=>?_,fun b o q hb=>?_,fun b o q n=>I.base.free b o q n (by intro z; cases z),I.base.tups,I.base.frzs,I.base.tbls,?_⟩,hE⟩
 · exact hideAll_get _ (I.base.keep b o q n hb (by intro z; cases z)) (nm b o q hb)
 · obtain ⟨o', q'⟩ := I.base.there b o q (by intro z; cases z)
   exact ⟨o',hideAll_get _ q' (nm b o q hb)⟩
 · obtain ⟨sl, q'⟩ := I.base.slot b o q (I.ok.frf b hb) hb (by intro z; cases z)
   obtain ⟨_,ob,ho,hd⟩:=I.ok.funs.mem hb
   have ho':s.heap.get? b=some ob:=ho
   rw [q] at ho'
   cases ho'
   obtain ⟨sl',q''⟩:=x4 b _ (hx.keeps _ _ q') hd
   exact ⟨sl',q''⟩
 · exact hok_hidden I.hok _ I.stkFree
abbrev bmVE:List Value:=[.type "ValueError",.type "Exception",.type "BaseException",.type "object"]
structure XCls (K:Frag) (C:Addr):Prop where
 exc:excIn K C bmVE "ValueError.__new__" = true
 xin:XIn K C
theorem xcls_at {K:Frag} {h:Heap} {C:Addr} {bmB:List Value} {newId:String} (X:K.In h) (q:excIn K C bmB newId=true):∃ bm N nm qn bs hdct sn sub ab col dd k0 k1 k2 k3 k5 mN,h.get? C=some (excClassObj nm qn C N bs bm hdct sn sub ab col dd k0 k1 k2 k3 k5 newId)/\h.Ns N mN/\mN "__init__" = none/\OwnTail h bmB bm:=by
 unfold excIn at q
 split at q
 · rename_i dd cd sl ho
   split at q
   · rename_i C' bm k0 k1 k2 k3 n k5 hm hs
     simp only [Bool.and_eq_true,beq_iff_eq,Bool.not_eq_true'] at q
     obtain ⟨⟨⟨⟨⟨rfl,rfl⟩,hdel⟩,ht⟩,hok⟩,hni⟩:=q
     obtain ⟨nm,bs,mro,ns,qn,hd,sn,sub,ab,col,del⟩:=cd
     dsimp only at hm hdel hok hni
     subst hm hdel
     have hsl:sl = #[k0,k1,k2,k3,some (.builtin n),k5]:=by
      obtain ⟨l⟩:=sl
      simp only at hs
      rw [hs]
     subst hsl
     exact ⟨bm,ns,nm,qn,bs,hd,sn,sub,ab,col,dd,k0,k1,k2,k3,k5,_,X _ _ ho,.of_isNs (isNs_of_in X hok),nsMap_none_of_in X hok hni,tail_of_in X ht⟩
   · cases q
 · cases q
def tRaise (X:Cx) (C:Addr):TS:=fun _ σ H=>XeOk X C σ H
theorem ps_raise {X:Cx} {C:Addr} {x txt:Str} {j:Nat} {np cp cpos pos:Pos} (hC:XCls X.K C) (hm:X.mg x=some (.ref C)) (hcalm:X.calm=true) (hg:Gl X x:=by rfl) (hdb:(x == ("__debug__" : Str))=false:=by decide)
  (he:starEach [.Constant (.str txt) j cp] X.env=[(false,eval (.Constant (.str txt) j cp) X.env)]:=by rfl):PS X (.Raise (some (.Call (.Name x np) [.Constant (.str txt) j cp] [] cpos)) none pos) (tRaise X C):=by
 intro pins s σ H D I h
 obtain ⟨bm,N,nm,qn,bs,hdct,sn,sub,ab,col,dd,k0,k1,k2,k3,k5,mN,h1,h2,h3,h4⟩:=xcls_at I.kIn hC.exc
 have hbase:bm.contains (.type "BaseException")=true:=h4.hasType (by decide +kernel)
 refine wpAny_Raise_call_subU (C:=C) (mN:=mN) (N:=N) (nm:=nm) (q:=qn) (bs:=bs) (bm:=bm) (hdct:=hdct) (sn:=sn) (sub:=sub) (ab:=ab) (col:=col) (dd:=dd) (k0:=k0) (k1:=k1) (k2:=k2) (k3:=k3) (k5:=k5) F.excBase_ValueError (by decide +kernel) F.excBase_ValueError hbase (I.ok.hd hcalm) (by rw [he]; rfl) h3 (wV I hg hm ⟨rfl,?_⟩ hdb)
 rw [he]
 show wpAny _ _ (evalArgs _ true ((false,eval (.Constant (.str txt) j cp) X.env)::[]) []) _ _ s
 refine Calls.evalArgs_plain (Calls.spliced_cons ?_)
 refine Calls.Constant_str (k:=j) (pos:=cp) (Calls.spliced_nil ?_)
 have I2:=I.tok (s.toks+1)
 refine ⟨rfl,by show 1<=sizeLine; decide,h1,h2,h4,fun h' e hx=>?_⟩
 exact h pins _ h' e _ I2 hx
section
variable (X:Cx) (C:Addr)
def PSx (st:Stmt) (x:List Sl->Bool):Prop:=∃ t,PS X st t/\∀ H₀ H O σ ds hd E,Ok X.K H₀ H O σ ds hd->x ds=true->(∀ σ' H',Same H₀ H'->XeOk X C σ' H')->t E σ H
end
section
variable {X:Cx} {C:Addr}
theorem psx_raise {x txt:Str} {j:Nat} {np cp cpos pos:Pos} (hC:XCls X.K C) (hm:X.mg x=some (.ref C)) (hcalm:X.calm=true:=by rfl) (hg:Gl X x:=by rfl) (hdb:(x == ("__debug__" : Str))=false:=by decide)
  (he:starEach [.Constant (.str txt) j cp] X.env=[(false,eval (.Constant (.str txt) j cp) X.env)]:=by rfl):PSx X C (.Raise (some (.Call (.Name x np) [.Constant (.str txt) j cp] [] cpos)) none pos) alwaysX :=
 ⟨_,ps_raise hC hm hcalm hg hdb he,fun H₀ H O σ ds hd E o _ h=>h σ H o.same⟩
end
def spX (K:Frag) (n:Nat) (R:List D->Bool) (C:Addr):Sp:=fun vs H _ E=>vs.length=n/\∃ ds,Reps K H jI vs ds/\R ds=true/\∀ H',Same H H'->E (.ref C) none H'
structure CalX (P:Program) (w:World) (K:Frag) (mg:Str->Option Value) (base:Heap) (x:Str) (k n:Nat) (R:List D->Bool) (C:Addr):Prop where
 ex:∃ (f:Addr) (fd:FuncData) (ps:List Str),FnOk P w K mg base (CXM P w) k f fd ps (spX K n R C)/\Binds K fd ps []/\PySem.W.keepIn K (.ref f)=true/\mg x=some (.ref f)
end FL
namespace FL
open PySem PySem.Spec PyProof.Rows L2
open PySem.W (Looks looks_mroIn mroIn)
abbrev suiteCx (X:Cx) (ea:Addr) (xe:Value->Shared->Prop):Cx:={ X with A:=X.A.mark (some (.ref ea)),calm:=false,xe:=xe }
section
variable {X:Cx} {pins:List (Addr×Obj)} {σ : L2.St} {H:Hp} {s:Shared} {ea:Addr} {oe:Obj} {xe:Value->Shared->Prop}
theorem inv_suite (I:Inv X pins σ H s):Inv (suiteCx X ea xe) pins σ H s:=by
 have ok:=I.ok
 exact ⟨⟨ok.mod,ok.kind,ok.glob,ok.blt,ok.above,ok.inj,ok.has,ok.cab,(fun z=>by cases z),ok.frames,ok.stk,ok.exf,ok.bs,ok.bsz,ok.noex,ok.exfs,ok.funs,ok.frf⟩,I.os,I.bare,I.base,I.loc,I.cell,I.free,I.freeC,I.pin,I.hok,I.len⟩
theorem yP (I:Inv (suiteCx X ea xe) pins σ H s) (hd:X.calm=true->X.A.handled=none):Inv X pins σ H s:=by
 have ok:=I.ok
 exact ⟨⟨ok.mod,ok.kind,ok.glob,ok.blt,ok.above,ok.inj,ok.has,ok.cab,hd,ok.frames,ok.stk,ok.exf,ok.bs,ok.bsz,ok.noex,ok.exfs,ok.funs,ok.frf⟩,I.os,I.bare,I.base,I.loc,I.cell,I.free,I.freeC,I.pin,I.hok,I.len⟩
end
def Throws (X:Cx) (C:Addr) (st:Stmt) (x:List Sl->Bool):Prop:=∀ (pins:List (Addr×Obj)) (s:Shared) (σ : L2.St) (H H₀ : Hp) (O:Addr->Prop) (ds:List Sl) (hd:Hold),Inv X pins σ H s->Ok X.K H₀ H O σ ds hd->x ds=true →
 (∀ ea a0 B H1 H' s1 s',Inv X pins σ H1 s1->Same H H1->Same H1 H'->Thrown X.prog X.w X.stack H1 s1 (.ref C) ea a0 B H' s'.heap->s'.os=s1.os->AllBare s'.gens->X.xe (.ref ea) s')->wpAny (model X.prog X.w) X.A (exec st X.env) (fun _ _=>False) X.xe s
section
variable {X:Cx} {k j n:Nat} {R:List D->Bool} {C:Addr} {x:Str} {p pos:Pos} {e:Expr} {es:List Expr} {g:FA}
theorem call_thrown (CX:CalX X.prog X.w X.K X.mg X.base x k n R C) (hr:Room j X.A) (ha:PAn X (e::es) g) (hj:k<=j) (hg:Gl X x) (hdb:(x == ("__debug__" : Str))=false)
  (he:starEach (e::es) X.env=(false,eval e X.env)::starEach es X.env) (hpl:(backTo pos (starEach es X.env)).any (·.1)=false)
  {pins:List (Addr×Obj)} {s:Shared} {σ : L2.St} {H H₀ : Hp} {O:Addr->Prop} {ds:List Sl} {hd:Hold} {Q:Value->Shared->Prop} (I:Inv X pins σ H s) (o:Ok X.K H₀ H O σ ds hd) (ex:callX n R g ds=true)
  (W:∀ ea a0 B H1 H' s1 s',Inv X pins σ H1 s1->Same H H1->Same H1 H'->Thrown X.prog X.w X.stack H1 s1 (.ref C) ea a0 B H' s'.heap->s'.os=s1.os->AllBare s'.gens->X.xe (.ref ea) s') :
  wpAny (model X.prog X.w) X.A (eval (.Call (.Name x p) (e::es) [] pos) X.env) Q X.xe s:=by
 obtain ⟨f,fd,ps,Fn,hb,hk,hm⟩:=CX.ex
 obtain ⟨t,ht,hf⟩:=ha
 unfold callX at ex
 cases hl:g ds with
 | none=>rw [hl] at ex; cases ex
 | some l =>
   rw [hl] at ex
   simp only [Bool.and_eq_true,decide_eq_true_eq] at ex
   refine wpAny_Call_Name_kw (wV I hg hm ?_ hdb)
   refine PySem.W.callWith_K (h₀:=X.base) I.ok.mod.kin hk (thn (ht pos pins s σ H (fun vs H1=>Same H H1/\Reps X.K H1 jI vs l) I (hf H₀ H O σ ds hd l _ o hl fun vs H1 s1 r=>⟨s1,r⟩)) fun us s1 ⟨vs,H1,I1,r,q1,q2⟩=>⟨I1.kIn,?_⟩) he hpl
   have sp:spX X.K n R C vs H1 (fun _ _=>False) (fun cl _ H'=>cl = .ref C/\Same H1 H'):=⟨by rw [q2.length]; exact ex.1,l,q2,ex.2,fun H' s'=>⟨rfl,s'⟩⟩
   have hl2:us.length=ps.length:=by rw [<- r.length]; exact Fn.len _ _ _ _ sp
   have bd:=hb s1 us I1.kIn (by rw [List.append_nil]; exact hl2)
   rw [List.append_nil] at bd
   refine wpAny_call (codeAny_mono (Fn.run X.A X.stack s1 H1 ⟨us,[]⟩ us vs (fun _ _=>False) (fun cl _ H'=>cl = .ref C/\Same H1 H') (hr.mono hj) I1.env0 bd r sp) fun r s' hq=>?_)
   cases r with
   | error e' =>
     obtain ⟨ea,cls,a0,B,H',rfl,os,bare,T,rfl,sm⟩:=hq
     exact W ea a0 B H1 H' s1 s' I1 q1 sm T os bare
   | ok fl =>
     cases fl with
     | ret u=>obtain ⟨v,H',_,_,_,_,_,z⟩:=hq; exact z.elim
     | next=>exact False.elim hq
     | brk=>exact False.elim hq
     | cont=>exact False.elim hq
theorem thr_set {y:Str} {py pos':Pos} (CX:CalX X.prog X.w X.K X.mg X.base x k n R C) (hr:Room j X.A) (ha:PAn X (e::es) g) (hj:k<=j:=by decide) (hg:Gl X x:=by rfl) (hdb:(x == ("__debug__" : Str))=false:=by decide)
  (he:starEach (e::es) X.env=(false,eval e X.env)::starEach es X.env:=by rfl) (hpl:(backTo pos (starEach es X.env)).any (·.1)=false:=by rfl) (hs:swapsWith (.Call (.Name x p) (e::es) [] pos) (some (.Name y py)) pos'.line X.env=pure false:=by rfl) :
  Throws X C (.Assign [.Name y py] (.Call (.Name x p) (e::es) [] pos) pos') (callX n R g):=by
 intro pins s σ H H₀ O ds hd I o ex W
 exact wpAny_Assign_Name (call_thrown CX hr ha hj hg hdb he hpl I o ex W) hs
end
end FL
namespace FL
open PySem PySem.Spec PyProof.Rows L2
open PySem.W (Looks looks_mroIn mroIn clsIn)
structure XCatch (K:Frag) (C S:Addr):Prop where
 kit:PySem.W.kitCls K (.ref C) (.ref S)=some true
 be:mroIn K S (.type "BaseException")=some true
section
variable {prog:Program} {w:World} {A:Around} {E:Value->Shared->Prop} {h:Heap} {g:Array GenState} {d:Drawn} {t:Nat} {os:OsState} {a C S:Addr} {o:Obj} {K:Frag}
theorem x_matches {M:Model} {Q:Bool->Shared->Prop} (X:K.In h) (hx:h.get? a=some o) (hc:o.cls = .ref C) (hS:XCatch K C S) (hq:Q true ⟨h,g,d,t,os⟩) :
  wpAny M A (excMatches (.ref a) (.ref S)) Q E ⟨h,g,d,t,os⟩:=by
 have L0:=x_type (M:=M) hx hc
 have L1:=looks_mroIn (M:=M) X hS.be
 obtain ⟨L3,L4,L2⟩:=PySem.W.kit_cls (M:=M) X hS.kit
 have f:=tc_notTuple
 unfold excMatches
 repeat (first | with_reducible refine L0.at ?_ | with_reducible refine L1.at ?_ | with_reducible refine L2.at ?_ | with_reducible refine L3.at ?_ | with_reducible refine L4.at ?_ | with_reducible refine wpAny_loadPart_at hx ?_ | wp_step)
 exact hq
end
section
variable {X:Cx}
theorem run_suite {ea:Addr} {xe0:Value->Shared->Prop} {sts:List Stmt} {h:FS} {pins:List (Addr×Obj)} {σ : L2.St} {H H₀ : Hp} {O:Addr->Prop} {ds:List Sl} {hd:Hold} {out:Out} {D:Ends} {s:Shared}
  (hs:∀ xe,PSsv (suiteCx X ea xe) sts h) (I:Inv (suiteCx X ea xe0) pins σ H s) (o:Ok X.K H₀ H O σ ds hd) (e:h ds=some out) (af:After X H₀ hd D out) {EXC:Value->Shared->Prop} {POST:Flow->Shared->Prop}
  (hp:∀ f s',SP (suiteCx X ea EXC) pins D f s'->POST f s'):wpAny (model X.prog X.w) (X.A.mark (some (.ref ea))) (execs sts X.env) POST EXC s:=by
 obtain ⟨t,ht,hf⟩:=hs EXC
 exact wpAny_mono (ht pins s σ H D (I.wish EXC) (hf H₀ H O σ ds hd out D o e af)) hp (fun _ _ z=>z)
theorem fly_apart {B h:Heap} {l:List Env} {e:Addr} {cls a0:Value} (f:Heap.FlyingW B l e cls a0 h):e ∉ frs l/\∃ oe,h.get? e=some oe/\oe.cls=cls/\∀ v,oe.data≠.cell v:=by
 obtain ⟨_,_,f3,oe,vs,T,oT,ts,he,hc,hd,_⟩:=f
 refine ⟨fun z=>?_,oe,he,hc.1,fun v q=>by rw [hd] at q; cases q⟩
 obtain ⟨_,o,ho,hn⟩:=f3.mem z
 rw [he] at ho
 cases ho
 exact hn vs hd
def tryE (X:Cx) (pins:List (Addr×Obj)) (D:Ends) (hs:List ExceptHandler):Value->Shared->Prop:=fun e s₁=>wpAny (model X.prog X.w) X.A (noteFrame e X.env) (fun _ s₂=>wpAny (model X.prog X.w) X.A (setFlight e none) (fun _ s₃=>wpAny (model X.prog X.w) X.A (handleBy e X.env hs) (SP X pins D) X.xe s₃) X.xe s₂) X.xe s₁
end
end FL
namespace FL
open PySem PySem.Spec PyProof.Rows L2
section
variable {X:Cx}
section
variable {en:Str} {i:Nat} {p pe pT pos:Pos} {tb:List (Nat×Bool)}
end
end
structure XR (K:Frag) (mg:Str->Option Value) (t:Nat) (C:Addr):Prop where
 nm:PySem.W.nsIn K mainGlobals (xName t)=some (some (.ref C))
 gl:mg (xName t)=some (.ref C)
 cls:XCls K C
structure XT (K:Frag) (mg:Str->Option Value) (t:Nat) (x:Str) (C S:Addr):Prop where
 nm:PySem.W.nsIn K mainGlobals (xName t)=some (some (.ref C))
 gl:mg x=some (.ref S)
 cat:XCatch K C S
section
variable {X:Cx} {m:Str} {k j:Nat} {cs:List Nat} {F:Nat->List D->Option Ret} {o:Expr} {apos pos:Pos} {fo:FE}
end
section
variable {X:Cx} {C:Addr} {x:Str} {p pos:Pos}
end
theorem kitCls_yes {K:Frag} {C C':Addr} (u:PySem.W.isClsIn K C=true) (y:PySem.W.typeIn K (.ref C)=some (.type "type")) (s:PySem.W.subIn K (.ref C') (.ref C)=some true):PySem.W.kitCls K (.ref C') (.ref C)=some true:=by
 unfold PySem.W.kitCls
 simp only
 rw [show (PySem.W.clsIn K C).isSome=true from u,y,if_pos (by simp),s]
section
variable {K:Frag} {H:Hp} {O:Addr->Prop} {a:Addr} {xs ys:List V}
end
section
variable {X:Cx}
end
section
variable (X:Cx) (E:XK) (C:Addr)
def PSy (st:Stmt) (x:List Sl->Bool):Prop:=∃ t,PS X st t/\∀ H₀ H O σ ds hd D,Ok X.K H₀ H O σ ds hd->x ds=true->(∀ σ' H',Same H₀ H'->XeOk X C σ' H')->(∀ H',Same H₀ H'->E (.ref C) none H')->t D σ H
def PSsy (st:List Stmt) (x:List Sl->Bool):Prop:=∃ t,PSs X st t/\∀ H₀ H O σ ds hd D,Ok X.K H₀ H O σ ds hd->x ds=true->(∀ σ' H',Same H₀ H'->XeOk X C σ' H')->(∀ H',Same H₀ H'->E (.ref C) none H')->t D σ H
def PSsAny (st:List Stmt):Prop:=∃ t,PSs X st t
end
section
variable {X:Cx} {E:XK} {C:Addr}
theorem PSx.y {st:Stmt} {x:List Sl->Bool} (h:PSx X C st x):PSy X E C st x:=by
 obtain ⟨t,ht,hf⟩:=h
 exact ⟨t,ht,fun H₀ H O σ ds hd D o e q _=>hf H₀ H O σ ds hd D o e q⟩
theorem PSsv.any {st:List Stmt} {g:FS} (h:PSsv X st g):PSsAny X st:=let ⟨t,ht,_⟩:=h; ⟨t,ht⟩
theorem pssy_never {st:List Stmt} (h:PSsAny X st):PSsy X E C st neverX:=by
 obtain ⟨t,ht⟩:=h
 exact ⟨t,ht,fun _ _ _ _ _ _ _ _ e _ _=>by cases e⟩
theorem pssy_head {st:Stmt} {rest:List Stmt} {x:List Sl->Bool} (h1:PSy X E C st x) (h2:PSsAny X rest):PSsy X E C (st::rest) x:=by
 obtain ⟨t,ht,hf⟩:=h1
 obtain ⟨u,hu⟩:=h2
 exact ⟨_,kG ht hu,fun H₀ H O σ ds hd D o e q p=>hf H₀ H O σ ds hd _ o e q p⟩
theorem pssy_tail {st:Stmt} {rest:List Stmt} {f:FS} {x:List Sl->Bool} (h1:PSv X st f) (h2:PSsy X E C rest x):PSsy X E C (st::rest) (seqX f x):=by
 obtain ⟨t,ht,hf⟩:=h1
 obtain ⟨u,hu,hg⟩:=h2
 refine ⟨_,kG ht hu,fun H₀ H O σ ds hd D o e q p=>?_⟩
 unfold seqX at e
 cases h1:f ds with
 | none=>rw [h1] at e; cases e
 | some o1 =>
   rw [h1] at e
   cases o1 with
   | nx ds'=>exact hf H₀ H O σ ds hd _ _ o h1 (fun σ' H' O' o'=>hg H₀ H' O' σ' ds' hd D o' e q p)
   | _=>cases e
theorem psy_if {c:Expr} {a b:List Stmt} {pos:Pos} {fc:FT} {xa xb:List Sl->Bool} (hc:PTv X c fc) (ha:PSsy X E C a xa) (hb:PSsy X E C b xb):PSy X E C (.If c a b pos) (ifX fc xa xb):=by
 obtain ⟨tc,hc,hcf⟩:=hc
 obtain ⟨ta,ha,haf⟩:=ha
 obtain ⟨tb,hb,hbf⟩:=hb
 refine ⟨_,ps_if hc ha hb,fun H₀ H O σ ds hd D o e q p=>?_⟩
 unfold ifX at e
 cases hh:fc ds with
 | none=>rw [hh] at e; cases e
 | some k =>
   rw [hh] at e
   refine hcf H₀ H O σ ds hd k _ o hh fun H' s=>?_
   cases k with
   | true=>exact haf H₀ H' O σ ds hd D (o.mono s) e q p
   | false=>exact hbf H₀ H' O σ ds hd D (o.mono s) e q p
section
variable {k j n:Nat} {R:List D->Bool} {x:Str} {p pos:Pos} {e:Expr} {es:List Expr} {g:FA}
end
end
theorem fun_okY {P:Program} {w:World} {K:Frag} {mg:Str->Option Value} {base:Heap} {x qual:Str} {st:Stmt} {f C:Addr} {fd:FuncData} {N ps:List Str} {k:Nat} {R:List D->Bool} (Fn:Fun K x qual st f fd) (S:FnScope N ps (zB st))
  {g:List Sl->Bool} (hbody:∀ (cdv:Value) (A:Around) (outer:List Env) (s:Shared) (H:Hp) (E:XK),Room k (A.deeper (envOfC qual (zB st) s.heap.objs.size f cdv))->PSsy (cxOf (CXM P w) P w K mg base N qual (zB st) f cdv A outer s H E) E C (zI st) g)
  (hg:∀ ds,ds.length=ps.length->R ds=true->g (args N.length ds)=true):FnOk P w K mg base (CXM P w) (k+1) f fd ps (spX K ps.length R C):=by
 obtain ⟨oc,od,kV,doc,pm,an,cdv,ct,osl,rfl,lk,hcd⟩:=Fn.ex
 refine fn_of lk hcd S (fun vs H Q E h=>h.1) fun A outer s H vs Q E hr h=>?_
 obtain ⟨hl,ds,rv,e,q⟩:=h
 obtain ⟨t,ht,hf⟩:=hbody cdv A outer s H E hr
 exact ⟨t,ht,hf H H jI _ _ [] _ (ok_start (N:=N) rv) (hg ds (by rw [<- rv.length]; exact hl) e) (fun σ' H' s'=>xe_raise (q H' s')) q⟩
section
variable {X:Cx} {E:XK} {C:Addr} {t k j n:Nat} {R:List D->Bool} {x:Str} {p pos:Pos} {e:Expr} {es:List Expr} {g:FA}
end
section
variable {X:Cx}
end
section
variable {X:Cx} {k j i:Nat} {F:Nat->Option Ret} {x en:Str} {p pe pos:Pos}
end
end FL
namespace L2
open PySem PySem.Spec PyProof.Rows
def Ite (K:PySem.W.Frag) (l:Addr):It :=
 ⟨fun i H => ∃ xs x, SqL K H l xs /\ xs[i]? = some x,
  fun i H v H'=>∃ T x,v = .ref T/\H T=none/\H'=upd H T (.tup [.int (i:Int),x])/\∀ xs,SqL K H l xs->xs[i]? = some x,
  fun i H=>∃ xs,SqL K H l xs/\xs.length<=i⟩
theorem turn_enum {P:Program} {w:World} {K:PySem.W.Frag} {es:List Expr} {x1} {pos:Pos} (e it l:Addr) (hei:e≠it) :
  Turn P w K (.Tuple es x1 pos) (Ite K l) [e,it] e (fun i h=>(∃ old,IsEnum h e it ((i:Nat):Int) old)/\h.IsListIter it l i) where
 mem:=by simp
 obj:=fun i h st b hb=>by
  obtain ⟨⟨old,he⟩,⟨o1,e1,c1,d1⟩⟩:=st
  simp only [List.mem_cons,List.not_mem_nil,or_false] at hb
  rcases hb with rfl | rfl
  · exact ⟨_,he,fun v z=>by have z':Data.fields _=Data.cell v:=z; cases z'⟩
  · exact ⟨o1,e1,fun v z=>by rw [d1] at z; cases z⟩
 keep:=fun i h h' st k=>by
  obtain ⟨⟨old,he⟩,h1⟩:=st
  exact ⟨⟨old,k e (by simp) _ he⟩,h1.at fun o q=>k it (by simp) o q⟩
 item:=by
  intro X hP hw hK hc i pins s σ H E I hf st hg
  subst hP hw hK
  obtain ⟨xs,x,hq1,hx⟩:=hg
  obtain ⟨⟨old,he⟩,h1⟩:=st
  obtain ⟨its1,rv1,p1,hz1⟩:=I.list hq1
  obtain ⟨u1,hu1,ru1⟩:=rv1.get hx
  refine wpAny_pyNext_enum_item he h1 p1.isList (x:=u1) (by simpa using hu1) hei fun h' a1 a2 a3 a4 hk=>?_
  refine ⟨_,rfl,wpAny_letOwnedTupleGo_enum a1 fun h2' b1 bs=>?_⟩
  have hT:∀ b∈[e,it],b≠s.heap.objs.size:=fun b hb z=>by
   obtain ⟨_,e1,_⟩:=h1
   simp only [List.mem_cons,List.not_mem_nil,or_false] at hb
   rcases hb with rfl | rfl
   · exact Nat.ne_of_lt (Heap.lt_size he) z
   · exact Nat.ne_of_lt (Heap.lt_size e1) z
  have fr:H s.heap.objs.size=none:=I.hok.fresh (Nat.le_refl _)
  have I1:Inv X pins σ (upd H s.heap.objs.size (.tup [.int (i:Int),x])) { s with heap:=s.heap.push { cls:=.type "tuple",data:=.seq #[.int i s.toks,u1] },toks:=s.toks+1 }:=by
   refine I.laid (t':=s.toks+1) (fun b u q=>Heap.get?_push_of_some _ q) (Nat.le_refl _) ?_
   exact ⟨by simp [sizeLine],[.int i s.toks,u1],.cons ⟨_,rfl⟩ (.cons ru1 .nil),⟨_,Heap.get?_push_size _ rfl,rfl,_,rfl⟩⟩
  have nz:s.heap.objs.size≠e:=fun z=>hT e (by simp) z.symm
  have I2:Inv X pins σ (upd H s.heap.objs.size (.tup [.int (i:Int),x])) { s with heap:=h2',toks:=s.toks+1 }:=by
   refine Inv.turnedS (s:={ s with heap:=s.heap.push { cls:=.type "tuple",data:=.seq #[.int i s.toks,u1] },toks:=s.toks+1 }) I1 (h':=h2') (t':=s.toks+1) (ch:=[e,it]) (fun b o hb q=>?_) (fun b hb=>?_)
   · simp only [List.mem_cons, List.not_mem_nil, or_false, not_or] at hb
     by_cases hbT:b=s.heap.objs.size
     · subst hbT
       have q':(s.heap.push { cls:=.type "tuple",data:=.seq #[.int i s.toks,u1] }).get? s.heap.objs.size=some o:=q
       rw [Heap.get?_push_size _ rfl] at q'
       cases q'
       exact bs.extBut _ _ nz a3
     · have q' : (s.heap.push { cls := .type "tuple", data := .seq #[.int i s.toks, u1] }).get? b = some o := q
       have q2:s.heap.get? b=some o:=by
        rwa [Heap.get?_push_ne _ _ _ hbT] at q'
       exact bs.extBut _ _ hb.1 (hk b o hb.1 hb.2 q2)
   · obtain ⟨f0, fr'⟩ := hf b hb
     exact ⟨by rw [qA (hT b hb)]; exact f0,fr'⟩
  refine ⟨.ref s.heap.objs.size,_,I2,rfl,⟨_,x,rfl,fr,rfl,fun zs hzs=>by rw [I.list_inj hzs hq1]; exact hx⟩,⟨⟨u1,?_⟩,a2.extBut bs.extBut (Ne.symm hei)⟩,fun b hb=>?_⟩
  · have hcast : ((i + 1 : Nat) : Int) = (i : Int) + 1 := by omega
    rw [hcast]
    exact b1
  · rw [qA (hT b hb)]
    exact (hf b hb).1
 done:=by
  intro X hP hw hK hc i pins s σ H E I hf st hg
  subst hP hw hK
  obtain ⟨xs,hq1,hx⟩:=hg
  obtain ⟨⟨old,he⟩,h1⟩:=st
  obtain ⟨its1,rv1,p1,hz1⟩:=I.list hq1
  have hl1:=rv1.length
  refine wpAny_pyNext_enum_end (I.ok.hd hc) he h1 p1.isList (by simp; omega) fun h' hk=>⟨rfl,?_⟩
  refine I.turnedS (t':=s.toks) (ch:=[e,it]) (fun b o hb q=>?_) hf
  simp only [List.mem_cons,List.not_mem_nil,or_false,not_or] at hb
  exact hk b o hb.2 q
 self:=fun _ _ _ _ _ st h=>by
  obtain ⟨⟨old,he⟩,_⟩:=st
  exact wpAny_pyIter_enum he h
section
variable {X:Cx}
def iEnu (K:PySem.W.Frag) (ta:TA):TI:=fun σ H R=>ta σ H fun vs H1=>∃ a xs,vs=[.ref a]/\SqL K H1 a xs/\R (Ite K a) H1
theorem pi_enum {es:List Expr} {x1} {tp:Pos} {a:Expr} {ta:TA} {p pos:Pos} (hg:Gl X "enumerate") (hm:X.mg "enumerate" = none) (ha:PA X [a] ta) (hs:starEach [a] X.env=[(false,eval a X.env)]:=by rfl) :
  PI X (.Tuple es x1 tp) (.Call (.Name "enumerate" p) [a] [] pos) (iEnu X.K ta):=by
 intro pins s σ H R I h
 refine Call_ (wJ I hg hm (show bootBuiltins "enumerate" = some (.type "enumerate") by decide +kernel) (PyProof.Rows.callWith_type1 (thn (ha pos pins s σ H _ I h) fun us s1 ⟨vs,H1,I1,r1,q1⟩=>?_) hs rfl))
 obtain ⟨a,xs,e,hq1,q⟩:=q1
 subst e
 obtain ⟨u,rfl,ru⟩:=vals1 r1
 cases ru
 obtain ⟨its1,rv1,p1,hz1⟩:=I1.list hq1
 refine call_enumerate_list p1.isList fun h' he hi hsz hk=>?_
 refine wpAny_pyIter_enum he ?_
 refine ⟨_,[s1.heap.objs.size+1,s1.heap.objs.size],_,_,H1,rfl,I1.kept (t':=s1.toks) hk,turn_enum (s1.heap.objs.size+1) s1.heap.objs.size a (Nat.succ_ne_self _),⟨⟨_,he⟩,hi⟩,fun c hc=>?_,q⟩
 have hle:s1.heap.objs.size<=c:=by
  simp only [List.mem_cons,List.not_mem_nil,or_false] at hc
  rcases hc with rfl | rfl <;> omega
 exact I1.fpOk hle (I1.hok.fresh hle)
theorem small_back {i j:Int} (h:FL.okRB i j):Builtin.Range.small i j (-1)=true:=by
 obtain ⟨h1,h2,h3,h4⟩:=h
 have e61:(2:Int) ^ 61=2305843009213693952:=by decide
 have e62:(2:Int) ^ 62=4611686018427387904:=by decide
 have hs:0<=Builtin.Range.rangeSize i j (-1)/\Builtin.Range.rangeSize i j (-1)<=2 ^ 62:=by
  unfold Builtin.Range.rangeSize
  rw [if_neg (by decide)]
  split
  · simp; omega
  · omega
 unfold Builtin.Range.small
 simp only [Builtin.Range.rangeFitsLong,Bool.and_eq_true,Bool.or_eq_true,decide_eq_true_eq,beq_iff_eq,show ¬ ((-1:Int) > 0) by decide,if_false]
 omega
def iRngB (ta:TA):TI:=fun σ H R=>ta σ H fun vs H1=>∃ i j:Int,vs=[.int i,.int j,.int (-1)]/\FL.okRB i j/\R (Itr3 i (-1) (i - j).toNat) H1
theorem pi_rangeB {tg a b c:Expr} {ta:TA} {p pos:Pos} (hg:Gl X "range") (hm:X.mg "range" = none) (ha:PA X [a,b,c] ta) (hs:starEach [a,b,c] X.env=(false,eval a X.env)::starEach [b,c] X.env:=by rfl) (hs2:(backTo pos (starEach [b,c] X.env)).any (·.1)=false:=by rfl) :
  PI X tg (.Call (.Name "range" p) [a,b,c] [] pos) (iRngB ta):=by
 intro pins s σ H R I h
 refine Call_ (wJ I hg hm boot_range (PyProof.Rows.callWith_type1 (thn (ha pos pins s σ H _ I h) fun us s1 ⟨vs,H1,I1,r1,q1⟩=>?_) hs hs2))
 obtain ⟨i,j,e,hk,q⟩:=q1
 subst e
 cases r1 with
 | cons r rr =>
   cases rr with
   | cons r' rr =>
     cases rr with
     | cons r'' rr =>
       cases rr
       obtain ⟨t,rfl⟩:=r
       obtain ⟨t',rfl⟩:=r'
       obtain ⟨t'',rfl⟩:=r''
       refine call_range_3 (by decide) ?_ (.inl (PyProof.noPylong_small (by decide)))
       refine wpAny_pyIter_range (IsRange.new ..) (small_back hk) ?_
       have I2:Inv X pins σ H1 { s1 with heap:=s1.heap.push { cls:=.type "range",data:=.fields #[.int i t,.int j t',.int (-1) t''] },toks:=s1.toks }:=I1.kept fun b o e=>Heap.get?_push_of_some _ e
       refine ⟨(s1.heap.push { cls:=.type "range",data:=.fields #[.int i t,.int j t',.int (-1) t''] }).objs.size,[(s1.heap.push { cls:=.type "range",data:=.fields #[.int i t,.int j t',.int (-1) t''] }).objs.size],_,_,H1,rfl,
        I2.kept (t':=s1.toks) fun b o e=>Heap.get?_push_of_some _ e,turn_range3 _ i (-1) (i - j).toNat,?_,fun b hb=>?_,q⟩
       · have e1 : i + ((0 : Nat) : Int) * (-1) = i := by simp
         have e2:(((i - j).toNat:Nat):Int) - ((0:Nat):Int)=Builtin.Range.rangeSize i j (-1):=by
          unfold Builtin.Range.rangeSize
          rw [if_neg (by decide)]
          split
          · simp; omega
          · simp; omega
         show IsRangeIter _ _ (i+((0:Nat):Int) * (-1)) ((((i - j).toNat:Nat):Int) - ((0:Nat):Int)) (-1)
         rw [e1,e2]
         exact Heap.get?_push_size _ rfl
       · have e : b = (s1.heap.push { cls := .type "range", data := .fields #[.int i t, .int j t', .int (-1) t''] }).objs.size := by simpa using hb
         subst e
         exact I2.fpOk (Nat.le_refl _) (I2.hok.fresh (Nat.le_refl _))
end
end L2
namespace FL
open PySem PySem.Spec PyProof.Rows L2
section
variable {X:Cx}
theorem wlk_enum {K:Frag} {a:Addr} {l:List D} : Wlk K (Ite K a) (.ref a,.lst l) (enumD l):=by
 intro H O ho r
 obtain ⟨b,xs,e,hs,rs⟩:=WRep.seqL (.inl r)
 cases e
 have hlen:=rs.length
 have hl:(enumD l).length=l.length:=by simp [enumD]
 refine ⟨fun i d hd=>?_,⟨xs,hs,by rw [hl,hlen]; exact Nat.le_refl _⟩⟩
 have hi:i < l.length:=by
  have:=(List.getElem?_eq_some_iff.mp hd).1
  rwa [hl] at this
 have hd':d = .tup [.int (i:Int),l[i]]:=by
  simp only [enumD,List.getElem?_mapIdx,List.getElem?_eq_getElem hi,Option.map_some] at hd
  exact (Option.some.inj hd).symm
 subst hd'
 obtain ⟨v,h1,h2⟩:=rs.get (List.getElem?_eq_getElem hi)
 refine ⟨⟨xs,v,hs,h1⟩,fun x H' y=>?_⟩
 obtain ⟨T,x',rfl,hT,rfl,f1⟩:=y
 have:=f1 xs hs
 rw [h1] at this; cases this
 have sm:Same H (upd H T (.tup [.int (i:Int),v])):=qP hT _
 exact ⟨sm,.tup (fun z=>by obtain ⟨ys,q⟩:=ho T z; rw [hT] at q; cases q) (.inl qK) (.cons (.int _) (.cons (h2.mono sm) .nil))⟩
theorem piv_enum {es:List Expr} {x1} {tp:Pos} {e:Expr} {p pos:Pos} {f:FE} (hm:X.mg "enumerate" = none) (h:PV X e f) (hg:Gl X "enumerate":=by rfl) (hs:starEach [e] X.env=[(false,eval e X.env)]:=by rfl):PIv X (.Tuple es x1 tp) (.Call (.Name "enumerate" p) [e] [] pos) (enuA f):=by
 obtain ⟨t,ht,hf⟩:=zK h qB hs
 refine ⟨_,pi_enum hg hm ht hs,fun H₀ H O σ ds hd items R o e q=>?_⟩
 unfold enuA at e
 cases h1:f ds with
 | none=>rw [h1] at e; cases e
 | some d =>
   rw [h1] at e
   simp only [Option.bind_some] at e
   cases d <;> first | (cases e; done) | skip
   rename_i l
   cases e
   refine hf H₀ H O σ ds hd [.lst l] _ o (by simp [zG,h1,qC]) fun vs H' s r=>?_
   cases r with
   | cons r1 rr =>
     cases rr
     obtain ⟨a,xs,rfl,hq,rs⟩:=WRep.seqL (.inl r1)
     exact ⟨a,xs,rfl,hq,q _ (.ref a,.lst l) H' s r1 wlk_enum⟩
theorem piv_rangeB {tg a b c:Expr} {p pos:Pos} {fa fb fc:FE} (hm:X.mg "range" = none) (ha:PVw X a fa) (hb:PVw X b fb) (hc:PVw X c fc) (hg:Gl X "range":=by rfl)
  (hs:starEach [a,b,c] X.env=(false,eval a X.env)::starEach [b,c] X.env:=by rfl) (hs2:starEach [b,c] X.env=(false,eval b X.env)::starEach [c] X.env:=by rfl) (hs3:starEach [c] X.env=(false,eval c X.env)::starEach [] X.env:=by rfl) (hp:(backTo pos (starEach [b,c] X.env)).any (·.1)=false:=by rfl) :
  PIv X tg (.Call (.Name "range" p) [a,b,c] [] pos) (rngB fa fb fc):=by
 obtain ⟨t,ht,hf⟩:=qH ha (qH hb (qH hc jC hs3) hs2) hs
 refine ⟨_,pi_rangeB hg hm ht hs hp,fun H₀ H O σ ds hd items R o e q=>?_⟩
 unfold rngB at e
 cases h1:fa ds with
 | none=>rw [h1] at e; cases e
 | some dx =>
   cases h2:fb ds with
   | none=>rw [h1,h2] at e; cases e
   | some dy =>
     cases h3:fc ds with
     | none=>rw [h1,h2,h3] at e; cases e
     | some dz =>
       rw [h1,h2,h3] at e
       simp only [Option.bind_some] at e
       cases dx <;> first | (cases e; done) | skip
       cases dy <;> first | (cases e; done) | skip
       cases dz <;> first | (cases e; done) | skip
       simp only at e
       split at e
       · rename_i i j c hk
         cases e
         obtain ⟨rfl,hk⟩:=hk
         refine hf H₀ H O σ ds hd [.int i,.int j,.int (-1)] _ o (by simp [zG,h1,h2,h3,qC]) fun vs H' s r=>?_
         cases r with
         | cons r1 rr =>
           cases rr with
           | cons r2 rr =>
             cases rr with
             | cons r3 rr =>
               cases rr
               exact ⟨i,j,by rw [r1.int',r2.int',r3.int'],hk,q _ (.non,.non) H' s .non wlk_range3⟩
       · cases e
end
section
variable {X:Cx}
variable (X) in
def PVe (e:Expr) (f:FE):Prop:=∃ t,PE X e t/\∀ H₀ H O σ ds hd d Q,Ok X.K H₀ H O σ ds hd->f ds=some d->(∀ v H',Same H H'->Rep X.K H' (Old H₀) v d->Q v H')->t σ H Q
variable (X) in
def PAe (es:List Expr) (f:FA):Prop:=∃ t,PA X es t/\∀ H₀ H O σ ds hd l Q,Ok X.K H₀ H O σ ds hd->f ds=some l->(∀ vs H',Same H H'->Reps X.K H' (Old H₀) vs l->Q vs H')->t σ H Q
theorem PVd.e {e:Expr} {f:FE} (h:PVd X e f):PVe X e f:=by
 obtain ⟨t,ht,hf⟩:=h
 exact ⟨t,ht,fun H₀ H O σ ds hd d Q o e q=>hf H₀ H O σ ds hd d Q o e fun v H' s r=>q v H' s (r.less fun a z=>Old.mono o.same z)⟩
theorem PVf.d {e:Expr} {f:FA} (h:PVf X e f):PVd X e (mkL (flA f)):=by
 obtain ⟨t,ht,hf⟩:=h
 refine ⟨t,ht,fun H₀ H O σ ds hd d Q o e q=>?_⟩
 unfold mkL flA at e
 cases h1:f ds with
 | none=>rw [h1] at e; cases e
 | some l =>
   rw [h1] at e
   simp only [Option.bind_some] at e
   split at e
   · rename_i hfl
     cases e
     refine hf H₀ H O σ ds hd l _ o h1 fun a xs H' s hn he r=>q _ H' s ?_
     exact .lst (not_old hn) (.inl he) (Reps.flatten (fun b z=>Old.mono s z) hfl r)
   · cases e
theorem pve_own (i:Nat) {x:Str} {pos:Pos} (hN:X.N[i]? = some x:=by rfl) (hv:Vis X.env.scope x:=by first | exact Or.inl rfl | exact Or.inr (Or.inl rfl) | exact Or.inr (Or.inr rfl)) (hd:(x == ("__debug__" : Str))=false:=by decide)
  (hcd:(x == ("__classdict__" : Str))=false:=by decide):PVe X (.Name x pos) (getO i):=by
 refine ⟨_,xP hN hv hd hcd,fun H₀ H O σ ds hd d Q o e q=>?_⟩
 unfold getO at e
 cases hs:ds[i]? with
 | none=>rw [hs] at e; cases e
 | some s =>
   rw [hs] at e
   cases s with
   | own l =>
     simp only at e
     split at e
     · rename_i hfl
       cases e
       obtain ⟨a,xs,h1,h2,h3,h4⟩:=o.readO hs
       have h0:H₀ a=none:=o.fresh i l a hs h1
       exact ⟨_,h1,q _ H (Same.refl _) (.lst (not_old h0) (.inl h3) (Reps.flatten (fun b z=>Old.mono o.same z) hfl h4))⟩
     · cases e
   | no=>cases e
   | v d=>cases e
   | exc t=>cases e
   | fr l=>cases e
   | ob _ _=>cases e
theorem pae_nil:PAe X [] qC:=⟨_,xO,fun _ H _ _ _ _ _ _ _ e q=>by cases e; exact q _ H (Same.refl _) .nil⟩
theorem wR {e:Expr} {es:List Expr} {f:FE} {g:FA} (ha:PVe X e f) (hr:PAe X es g) (hs:starEach (e::es) X.env=(false,eval e X.env)::starEach es X.env:=by rfl):PAe X (e::es) (zG f g):=by
 obtain ⟨t,ht,hf⟩:=ha
 obtain ⟨u,hu,hg⟩:=hr
 refine ⟨_,yL ht hu hs,fun H₀ H O σ ds hd l Q o e q=>?_⟩
 unfold zG at e
 cases h:f ds with
 | none=>rw [h] at e; cases e
 | some x =>
   cases h2:g ds with
   | none=>rw [h,h2] at e; cases e
   | some r =>
     rw [h,h2] at e
     cases e
     refine hf H₀ H O σ ds hd x _ o h fun v H1 s1 r1=>?_
     refine hg H₀ H1 O σ ds hd r _ (o.mono s1) h2 fun vs H2 s2 r2=>?_
     exact q _ H2 (s1.trans s2) (.cons (r1.mono s2) r2)
theorem pve_tup {es:List Expr} {x1} {pos:Pos} {g:FA} (h:PAe X es g):PVe X (.Tuple es x1 pos) (mkT (qN g)):=by
 obtain ⟨t,ht,hf⟩:=h
 refine ⟨_,pe_tup ht,fun H₀ H O σ ds hd d Q o e q=>?_⟩
 unfold mkT qN at e
 cases h:g ds with
 | none=>rw [h] at e; cases e
 | some l' =>
   rw [h] at e
   simp only [Option.bind_some] at e
   split at e
   · rename_i hl
     cases e
     refine hf H₀ H O σ ds hd l' _ o h fun vs H1 s1 r1=>⟨by rw [r1.length]; exact hl,fun p hp=>?_⟩
     refine q _ _ (s1.trans (qP hp _)) ?_
     exact .tup (not_old ((o.same.trans s1).free hp)) (.inl qK) (r1.mono (qP hp _))
   · cases e
theorem psv_retE {e:Expr} {pos:Pos} {f:FE} (he:PVe X e f):PSv X (.Return (some e) pos) (retDG f):=by
 obtain ⟨t,ht,hg⟩:=he
 refine ⟨_,vS ht,fun H₀ H O σ ds hd out E o e h=>?_⟩
 unfold retDG at e
 cases h1:f ds with
 | none=>rw [h1] at e; cases e
 | some d =>
   rw [h1] at e
   cases e
   exact hg H₀ H O σ ds hd d _ o h1 fun v H' s r=>h _ _ (o.same.trans s) r True.intro
end
end FL
namespace L2
open PySem PySem.Spec PyProof.Rows
section
variable {X:Cx}
end
end L2
namespace FL
open PySem PySem.Spec PyProof.Rows L2
section
variable {X:Cx}
end
end FL
namespace L2
open PySem PySem.Spec PyProof.Rows
section
variable {prog:Program} {w:World} {A:Around} {E:Value->Shared->Prop} {s:Shared}
end
section
variable {X:Cx}
end
end L2
namespace FL
open PySem PySem.Spec PyProof.Rows L2
section
variable {X:Cx}
end
open PySem.W (tabIn CodeHd tabObj kla_eval kla_makeFunction kla_makeFunctionHit kla_obj kla_fn kla_callFunE kla_codeExpr FnAt callWith_F envX)
theorem codeAmong_app {pos:Pos} {a b:Nat} {c v:Value} : ∀ (l:List Value),TriplesOk l->codeAmong pos (l++[rawInt a,rawInt b,c])=some v->codeAmong pos l=some v \/ (v=c/\pos.line=a/\pos.col=b):=by
 intro l h
 fun_induction TriplesOk l with
 | case1 =>
   intro e
   simp only [List.nil_append,codeAmong,rawInt] at e
   split at e
   · rename_i hc
     cases e
     simp only [Bool.and_eq_true,beq_iff_eq] at hc
     exact .inr ⟨rfl,by omega,by omega⟩
   · cases e
 | case2 a' t b' u x rest ih =>
   intro e
   simp only [List.cons_append,codeAmong] at e ⊢
   split at e
   · rename_i hc
     rw [if_pos hc]; exact .inl e
   · rename_i hc
     rw [if_neg hc]; exact ih h e
 | case3 l h1 h2=>exact h.elim
theorem closL_mem {env:Env} : ∀ (l:List (Str×NameKind)) (cs:List (Str×Addr)),∀ p∈yK env l cs,p∈cs \/ (env.cells.lookup p.1=some p.2/\(p.1,NameKind.free)∈l)
 | [],_,_,h=>.inl h
 | (n, k) :: r, cs, p, h => by
   unfold yK at h
   rcases closL_mem r _ p h with h1 | h1
   · split at h1
     · rename_i hk
       cases hc:env.cells.lookup n with
       | none=>rw [hc] at h1; exact .inl h1
       | some c =>
         rw [hc] at h1
         rcases List.mem_cons.mp h1 with rfl | h1
         · refine .inr ⟨hc, ?_⟩
           rw [beq_iff_eq.mp hk]
           exact List.mem_cons_self
         · exact .inl h1
     · exact .inl h1
   · exact .inr ⟨h1.1,List.mem_cons_of_mem _ h1.2⟩
theorem freeR_cons (n:Str) (k:NameKind) (r:List (Str×NameKind)):freeR ((n,k)::r)=if k == NameKind.free then freeR r++[n] else freeR r:=by
 unfold freeR
 rw [List.filter_cons]
 by_cases hk:(k == NameKind.free)=true
 · simp [hk]
 · simp [hk]
theorem closL_names {env:Env} : ∀ (l:List (Str×NameKind)) (cs:List (Str×Addr)),(∀ y∈l,y.2=NameKind.free->∃ c,env.cells.lookup y.1=some c)->(yK env l cs).map (·.1)=freeR l++cs.map (·.1)
 | [],_,_=>rfl
 | (n, k) :: r, cs, h => by
   unfold yK
   rw [closL_names r _ fun y hy=>h y (List.mem_cons_of_mem _ hy),freeR_cons]
   by_cases hk:(k == NameKind.free)=true
   · obtain ⟨c, hc⟩ := h (n, k) List.mem_cons_self (beq_iff_eq.mp hk)
     have hc:env.cells.lookup n=some c:=hc
     rw [if_pos hk,if_pos hk,hc]
     simp
   · rw [if_neg hk,if_neg hk]
theorem nodup_snd:∀ {cl:List (Str×Addr)},(cl.map (·.1)).Nodup->(∀ p∈cl,∀ q∈cl,p.2=q.2->p.1=q.1)->(cl.map (·.2)).Nodup
 | [],_,_=>List.nodup_nil
 | p :: r, h, k => by
   rw [List.map_cons,List.nodup_cons] at h ⊢
   refine ⟨fun z=>?_,nodup_snd h.2 fun a ha b hb=>k a (List.mem_cons_of_mem _ ha) b (List.mem_cons_of_mem _ hb)⟩
   obtain ⟨q,hq,e⟩:=List.mem_map.mp z
   exact h.1 (List.mem_map.mpr ⟨q,hq,k q (List.mem_cons_of_mem _ hq) p List.mem_cons_self e⟩)
abbrev exT:HO:=.ext fun _=>True
section
variable {X:Cx}
end
section
variable {X:Cx} {pins:List (Addr×Obj)} {σ : L2.St} {H H':Hp} {s s':Shared} {cs:List Addr}
end
section
variable {K:Frag} {H:Hp} {O:Addr->Prop} {cs:List Addr}
end
section
variable {X:Cx}
theorem LamAt.mono {H H':Hp} {O:Addr->Prop} {f:Addr} {t:LamT} {cl:List (Str×Addr)} (k:Same H H') (h:LamAt H O f t cl):LamAt H' O f t cl:=h.keep (.of_same k)
end
end FL
namespace FL
open PySem PySem.Spec PyProof.Rows L2
open PySem.W (tabIn CodeHd tabObj kla_callFunE kla_codeExpr FnAt callWith_F envX)
structure Mkr (K:Frag) (x:Str) (m:Nat) (st:Stmt) (f c P:Addr):Prop where
 mem:makers[m]? = some x
 tab:tabIn K x=some (c,P)
 tx:∀ n,textIn K m n=(lamsOf x (zI st))[n]?
 inq:∀ l c,innerQ K x l c=x++".<locals>."++innerN (zI st) l c
 cd:∀ oc od fd sl,K.lookup f=some ⟨oc,od,.func fd,sl⟩->fd.code = .ref c
theorem mkr_mk {K:Frag} {x qual:Str} {m:Nat} {st:Stmt} {f c P:Addr} {oc oc':Value} {od od' an:Option Addr} {sl sl':Array (Option Value)} {kV doc pm cdv ct:Value} {vs:Array Value} (hm:makers[m]? = some x) (a:PySem.W.nsIn K mainGlobals x=some (some (.ref f)))
  (l:K.lookup f=some ⟨oc,od,.func (PySem.W.fnOf x qual (zY st) (zI st) (zB st) .none kV doc pm an cdv ct),sl⟩) (h3:cdv = .ref c) (h4:K.lookup c=some ⟨oc',od',.fields vs,sl'⟩) (h5:(vs[11]? : Option Value)=some (.ref P)):Mkr K x m st f c P:=by
 subst h3
 refine ⟨hm,by unfold tabIn; simp only [a,l,h4,h5],fun n=>by unfold textIn; simp only [hm,Option.bind_some,a,l],fun _ _=>by unfold innerQ; simp only [a,l],fun oc2 od2 fd2 sl2 e=>?_⟩
 rw [l] at e
 cases e
 rfl
def lamCk (sc esc:Scope) (is:List Nat) (N:List Str):Bool:=(sc.names.all fun y=>y.2 != NameKind.free || esc.names.lookup y.1 == some NameKind.cell) && decide (freeR sc.names).Nodup && decide ((is.map fun i=>N[i]?)=(freeR sc.names).map some)
section
variable {X:Cx}
section
variable {k j' n m j:Nat} {F:List D->Option Ret} {x y:Str} {p pos:Pos} {e:Expr} {es:List Expr} {g:FA} {is:List Nat} {t:LamT} {st:Stmt} {f c P:Addr}
end
end
structure LamScope (ps:List Str) (sc:Scope):Prop where
 kind:sc.kind = .function
 co:sc.isCoroutine=false
 gen:sc.isGenerator=false
 nocell:∀ y∈sc.names,y.2≠NameKind.cell
 par:∀ x∈ps,sc.names.lookup x=some .local
 fre:∀ x∈freeR sc.names,sc.names.lookup x=some .free
 nd:(ps++freeR sc.names).Nodup
def lamSc (ps:List Str) (sc:Scope):Bool:=sc.kind == .function && !sc.isCoroutine && !sc.isGenerator && (sc.names.all fun y=>y.2 != NameKind.cell) && (ps.all fun x=>sc.names.lookup x == some .local) && ((freeR sc.names).all fun x=>sc.names.lookup x == some .free) && decide (ps++freeR sc.names).Nodup
theorem xA {ps:List Str} {sc:Scope} (h:lamSc ps sc=true):LamScope ps sc:=by
 unfold lamSc at h
 simp only [Bool.and_eq_true,Bool.not_eq_true',beq_iff_eq,decide_eq_true_eq,List.all_eq_true,bne_iff_ne,ne_eq] at h
 exact ⟨h.1.1.1.1.1.1,h.1.1.1.1.1.2,h.1.1.1.1.2,h.1.1.1.2,h.1.1.2,h.1.2,h.2⟩
def lamCx (P:Program) (w:World) (K:Frag) (mg:Str->Option Value) (base:Heap) (ps:List Str) (t:LamT) (f:Addr) (cd:Value) (cl:List (Str×Addr)) (A:Around) (outer:List Env) (s:Shared) (H:Hp):Cx where
 prog:=P
 w:=w
 K:=K
 mg:=mg
 base:=base
 A:=A.deeper (envX t.qual t.scope s.heap.objs.size f cd cl)
 N:=ps++freeR t.scope.names
 s₀:=s
 H₀:=H
 env:=envX t.qual t.scope s.heap.objs.size f cd cl
 outer:=outer
 stack:=envX t.qual t.scope s.heap.objs.size f cd cl::outer
 ex:=[]
 fn:=fun _=>false
 calm:=true
 pn:=[]
 xe:=fun _ _=>False
theorem xI {α : Type} : ∀ {l:List (Str×α)} {x:Str} {a : α},(l.map (·.1)).Nodup->(x,a)∈l->l.lookup x=some a
 | [],_,_,_,h=>by cases h
 | (y, b) :: r, x, a, nd, h => by
   rw [List.map_cons,List.nodup_cons] at nd
   rw [List.lookup_cons]
   rcases List.mem_cons.mp h with e | e
   · cases e; simp
   · have : (x == y) = false := beq_eq_false_iff_ne.mpr fun z => nd.1 (by rw [<- z]; exact List.mem_map.mpr ⟨_, e, rfl⟩)
     rw [this]
     exact xI nd.2 e
theorem snd_inj:∀ {l:List (Str×Addr)} {x y:Str} {a:Addr},(l.map (·.2)).Nodup->(x,a)∈l->(y,a)∈l->x=y
 | [],_,_,_,_,h,_=>by cases h
 | p :: r, x, y, a, nd, h1, h2 => by
   rw [List.map_cons,List.nodup_cons] at nd
   rcases List.mem_cons.mp h1 with e1 | e1 <;> rcases List.mem_cons.mp h2 with e2 | e2
   · rw [<- e1] at e2; cases e2; rfl
   · exact (nd.1 (by rw [<- e1]; exact List.mem_map.mpr ⟨_,e2,rfl⟩)).elim
   · exact (nd.1 (by rw [<- e2]; exact List.mem_map.mpr ⟨_,e1,rfl⟩)).elim
   · exact snd_inj nd.2 e1 e2
theorem ClosOk.mem {H:Hp} {O:Addr->Prop} : ∀ {cl:List (Str×Addr)} {xs:List V},ClosOk H O cl xs->∀ {p:Str×Addr},p∈cl->∃ o u w,H p.2=some (.frz o u)/\o.data = .cell (some w)
 | _,_,.nil,_,h=>by cases h
 | _, _, .cons no h d r t, p, hp => by
   rcases List.mem_cons.mp hp with e | e
   · subst e; exact ⟨_,_,_,h,d⟩
   · exact t.mem e
theorem ClosOk.get {H:Hp} {O:Addr->Prop} : ∀ {cl:List (Str×Addr)} {xs:List V},ClosOk H O cl xs->∀ {i:Nat} {v:V},xs[i]? = some v->∃ p o u w,cl[i]? = some p/\H p.2=some (.frz o u)/\o.data = .cell (some w)/\RelV v w
 | _,_,.nil,_,_,h=>by cases h
 | _,_,.cons no h d r t,0,v,hv=>by cases hv; exact ⟨_,_,_,_,rfl,h,d,r⟩
 | _,_,.cons no h d r t,i+1,v,hv=>t.get hv
theorem ClosOk.length {H:Hp} {O:Addr->Prop} : ∀ {cl:List (Str×Addr)} {xs:List V},ClosOk H O cl xs->cl.length=xs.length
 | _,_,.nil=>rfl
 | _,_,.cons no h d r t=>by simp [t.length]
theorem mem_zip_rev {ps:List Str} {us:List Value} {i:Nat} {x:Str} {u:Value} (h1:ps[i]? = some x) (h2:us[i]? = some u):(x,u)∈(ps.zip us).reverse:=by
 rw [List.mem_reverse]
 refine List.mem_of_getElem? (i:=i) ?_
 rw [List.getElem?_zip_eq_some]
 exact ⟨h1,h2⟩
theorem map_zip_fst:∀ {ps:List Str} {us:List Value},us.length=ps.length->(ps.zip us).map (·.1)=ps
 | [],_,_=>by simp
 | p::ps,[],h=>by cases h
 | p :: ps, u :: us, h => by
   simp only [List.zip_cons_cons,List.map_cons,List.cons.injEq,true_and]
   exact map_zip_fst (by simpa using h)
theorem inv_lam {P:Program} {w:World} {K:Frag} {mg:Str->Option Value} {base:Heap} {ps:List Str} {t:LamT} {f:Addr} {cd:Value} {cl:List (Str×Addr)} {A:Around} {outer:List Env} {s:Shared} {H:Hp} {us:List Value} {vs xs:List V} {h₁ : Heap} {tk:Nat} {O:Addr->Prop}
  (S:LamScope ps t.scope) (hd:A.handled=none) (e0:Env0 P w K mg base A outer s H) (hl:us.length=ps.length) (r:Vals vs us) (hcl:cl.map (·.1)=freeR t.scope.names) (hnd:(cl.map (·.2)).Nodup) (hco:ClosOk H O cl xs)
  (hns:h₁.Ns s.heap.objs.size (fun x=>(ps.zip us).reverse.lookup x)) (hk:∀ b o,s.heap.get? b=some o->h₁.get? b=some o):Inv (lamCx P w K mg base ps t f cd cl A outer s H) [] ((vs++xs).map some) H { s with heap:=h₁,toks:=tk }:=by
 have ndN:(cl.map (·.1)).Nodup:=by rw [hcl]; exact (List.nodup_append.mp S.nd).2.1
 have ndP:ps.Nodup:=(List.nodup_append.mp S.nd).1
 have hvl:vs.length=ps.length:=by rw [r.length]; exact hl
 have cellAt:∀ y c,cl.lookup y=some c->∃ o u v,H c=some (.frz o u)/\o.data = .cell (some v)/\s.heap.get? c=some o:=fun y c h=>by
  obtain ⟨o,u,v,h1,h2⟩:=hco.mem (PySem.mem_of_lookup h)
  exact ⟨o,u,v,h1,h2,(e0.hok _ _ h1).1⟩
 have noA:∀ {b:Addr} {p:Prop},b∈([]:List Addr)->p:=fun z=>by cases z
 refine ⟨⟨e0.mod,S.kind,rfl,rfl,Nat.le_refl _,fun y z c h1 h2=>snd_inj hnd (PySem.mem_of_lookup h1) (PySem.mem_of_lookup h2),fun y hy=>?_,(fun y c hf=>by cases hf),fun _=>hd,Around.frames_deeper e0.frames,.inr ⟨rfl,rfl⟩,fun b z=>noA z,e0.bs,e0.bsz,fun b _ _ z=>noA z,fun b z=>noA z,e0.funs,e0.frf⟩,
  rfl,e0.bare,Un.kept hk,⟨_,hns,fun i y v h1 h2 h3=>?_⟩,fun y c h=>?_,e0.hok.fresh (Nat.le_refl _),fun y c h=>?_,fun p hp=>(by cases (show p∈([]:List (Addr×Obj)) from hp)),e0.hok.kept hk,?_⟩
 · have hy : t.scope.names.lookup y = some .cell \/ t.scope.names.lookup y = some .free := hy
   rcases hy with hy | hy
   · exact absurd rfl (S.nocell _ (PySem.mem_of_lookup hy))
   · have:y∈cl.map (·.1):=by
      rw [hcl]
      unfold freeR
      rw [List.mem_reverse]
      exact List.mem_map.mpr ⟨(y,.free),List.mem_filter.mpr ⟨PySem.mem_of_lookup hy,rfl⟩,rfl⟩
     obtain ⟨p,hp,rfl⟩:=List.mem_map.mp this
     exact ⟨p.2,xI ndN hp⟩
 · have h1 : (ps ++ freeR t.scope.names)[i]? = some y := h1
   rw [List.getElem?_map] at h2
   by_cases hi:i < ps.length
   · rw [List.getElem?_append_left hi] at h1
     rw [List.getElem?_append_left (by rw [hvl]; exact hi)] at h2
     cases hv:vs[i]? with
     | none=>rw [hv] at h2; cases h2
     | some v' =>
       rw [hv] at h2
       cases h2
       obtain ⟨u,hu,ru⟩:=r.get hv
       refine ⟨u,ru,.inl ⟨S.par y (List.mem_of_getElem? h1),?_⟩⟩
       refine xI ?_ (mem_zip_rev h1 hu)
       rw [List.map_reverse,map_zip_fst hl]
       exact List.pairwise_reverse.mpr (ndP.imp fun h=>Ne.symm h)
   · have hi' : ps.length <= i := Nat.le_of_not_lt hi
     rw [List.getElem?_append_right hi'] at h1
     rw [List.getElem?_append_right (by rw [hvl]; exact hi'),hvl] at h2
     cases hv:xs[i - ps.length]? with
     | none=>rw [hv] at h2; cases h2
     | some v' =>
       rw [hv] at h2
       cases h2
       obtain ⟨p,o,u,wv,g1,g2,g3,g4⟩:=hco.get hv
       have hy:p.1=y:=by
        have:(cl.map (·.1))[i - ps.length]? = some p.1:=by rw [List.getElem?_map,g1]; rfl
        rw [hcl,h1] at this
        exact (Option.some.inj this).symm
       subst hy
       refine ⟨wv,g4,.inr ⟨.inr (S.fre _ (List.mem_of_getElem? h1)),p.2,xI ndN (List.mem_of_getElem? g1),o,hk _ _ (e0.hok _ _ g2).1,g3⟩⟩
 · obtain ⟨o, u, v, h1, h2, h3⟩ := cellAt y c h
   exact ⟨_,o,hk _ _ h3,h2⟩
 · obtain ⟨o, u, v, h1, h2, h3⟩ := cellAt y c h
   exact .inr ⟨rfl,o,u,h1⟩
 · show ((vs ++ xs).map some).length = (ps ++ freeR t.scope.names).length
   rw [List.length_map,List.length_append,List.length_append,hvl,<- hcl,List.length_map,hco.length]
theorem ok_vals {K:Frag} {H:Hp} {vs:List V} {ds:List D} (r:Reps K H jI vs ds):Ok K H H jI (vs.map some) (ds.map Sl.v) []:=by
 have no:∀ i,IsOwn (ds.map Sl.v) i->False:=fun i ⟨l,e⟩=>by
  rw [List.getElem?_map] at e
  cases h:ds[i]? with
  | none=>rw [h] at e; cases e
  | some d=>rw [h] at e; cases e
 refine ⟨Same.refl _,fun i l a e _=>(no i ⟨l,e⟩).elim,fun _ z=>z.elim,by simp [r.length],fun i s e=>?_,fun i j a _ hi _ _ _=>no i hi,(fun p hp=>nomatch hp),.no fun i r t e=>by
  rw [List.getElem?_map] at e
  cases h:ds[i]? with
  | none=>rw [h] at e; cases e
  | some d=>rw [h] at e; cases e⟩
 rw [List.getElem?_map] at e
 cases h:ds[i]? with
 | none=>rw [h] at e; cases e
 | some d =>
   rw [h] at e
   cases e
   obtain ⟨v,h1,h2⟩:=r.get h
   rw [List.getElem?_map,h1]
   exact wI h2
theorem text_lt {K:Frag} {m n:Nat} {t:LamT} (h:textIn K m n=some t):m≠1000:=by
 rintro rfl
 have e:makers[1000]? = none:=by decide
 unfold textIn at h
 rw [e] at h
 cases h
def FnIn (K:Frag) (j:Nat):Prop:=∃ (f:Addr) (oc:Value) (od:Option Addr) (fd:FuncData) (osl:Array (Option Value)),PySem.W.nsIn K mainGlobals (fnName j)=some (some (.ref f))/\K.lookup f=some ⟨oc,od,.func fd,osl⟩
theorem Rep.cloInv {K:Frag} {H:Hp} {O:Addr->Prop} {f:Addr} {m n:Nat} {ds:List D} (hm:m≠1000) (h:Rep K H O (.ref f) (.clo m n ds)):∃ t cl xs,textIn K m n=some t/\LamAt H O f t cl/\cl.map (·.1)=freeR t.scope.names/\(cl.map (·.2)).Nodup/\ClosOk H O cl xs/\Reps K H O xs ds:=by
 cases h with
 | clo tx la e nd hco rx=>exact ⟨_,_,_,tx,la,e,nd,hco,rx⟩
 | fnK h=>exact absurd rfl hm
def LamGood (P:Program) (w:World) (K:Frag) (mg:Str->Option Value) (base:Heap) (k m n:Nat) (F:List D->List D->Option Ret):Prop:=∀ (A:Around) (outer:List Env) (s:Shared) (H:Hp) (f:Addr) (caps:List D) (us:List Value) (vs:List V) (as:List D) (r:Ret) (Q:VK),Room k A->Env0 P w K mg base A outer s H →
 Rep K H jI (.ref f) (.clo m n caps)->Vals vs us->Reps K H jI vs as->F caps as=some r->(∀ v H',Same H H'->RetOk K H H' v r->Q v H')->codeAny (model P w) A (.call (.ref f) ⟨us,[]⟩) (CR CX0 outer P w H s Q E0) s
structure CloOk (P:Program) (w:World) (K:Frag) (mg:Str->Option Value) (base:Heap) (k:Nat) (Φ : Fun2):Prop where
 hold:∀ (H:Hp) (h:Heap) (v:V) (d:D) (as:List D) (r:Ret),Rep K H jI v d->Φ d as=some r->L2.HOk P w H h->K.In h->∃ f,v = .ref f/\FnAt f h
 run:∀ (A:Around) (outer:List Env) (s:Shared) (H:Hp) (f:Addr) (d:D) (us:List Value) (vs:List V) (as:List D) (r:Ret) (Q:VK),Room k A->Env0 P w K mg base A outer s H->Rep K H jI (.ref f) d->Vals vs us->Reps K H jI vs as->Φ d as=some r->(∀ v H',Same H H'->RetOk K H H' v r->Q v H') →
  codeAny (model P w) A (.call (.ref f) ⟨us,[]⟩) (CR CX0 outer P w H s Q E0) s
theorem wY {α β : Type} [BEq α] [LawfulBEq α]:∀ {l:List (α×β)} {x : α} {a : β},l.lookup x=some a->(x,a)∈l
 | [],_,_,h=>by cases h
 | (y, b) :: r, x, a, h => by
   rw [List.lookup_cons] at h
   cases hx:x == y with
   | true=>rw [hx] at h; cases h; rw [beq_iff_eq.mp hx]; exact List.mem_cons_self
   | false=>rw [hx] at h; exact List.mem_cons_of_mem _ (wY h)
structure CalV (P:Program) (w:World) (K:Frag) (mg:Str->Option Value) (base:Heap) (j k n:Nat) (F:List D->Option Ret):Prop where
 ex:∃ (f:Addr) (fd:FuncData) (ps:List Str) (oc:Value) (od:Option Addr) (osl:Array (Option Value)),FnOk P w K mg base CX0 k f fd ps (spF K n F)/\Binds K fd ps []/\PySem.W.nsIn K mainGlobals (fnName j)=some (some (.ref f))/\K.lookup f=some ⟨oc,od,.func fd,osl⟩
theorem CalV.fin {P:Program} {w:World} {K:Frag} {mg:Str->Option Value} {base:Heap} {j k n:Nat} {F:List D->Option Ret} (C:CalV P w K mg base j k n F):FnIn K j:=by
 obtain ⟨f,fd,ps,oc,od,osl,_,_,h1,h2⟩:=C.ex
 exact ⟨f,oc,od,fd,osl,h1,h2⟩
theorem clo_of {P:Program} {w:World} {K:Frag} {mg:Str->Option Value} {base:Heap} {k:Nat} {l:List ((Nat×Nat)×(List D->List D->Option Ret))} (h:∀ p∈l,LamGood P w K mg base k p.1.1 p.1.2 p.2) (hf:∀ p∈l,p.1.1=1000->FnIn K p.1.2):CloOk P w K mg base k (phiOf l):=by
 refine ⟨fun H hp v d as r rep e ok kin=>?_,fun A outer s H f d us vs as r Q hr e0 rep rv ra e q=>?_⟩
 · cases d with
   | clo m n caps =>
     cases rep with
     | clo tx la e nd hco rx =>
       obtain ⟨_,o,oc,u,uc,fd,c,wsv,tq,h1,h2,h3,_⟩:=la
       have ho:=(ok _ _ h1).1
       obtain ⟨a1,a2,a3,a4⟩:=o
       cases h3
       exact ⟨_,rfl,_,_,_,_,ho⟩
     | fnK hk =>
       have e:((l.lookup (1000,n)).bind fun F=>F [] as)=some r:=e
       cases hF:l.lookup (1000,n) with
       | none=>rw [hF] at e; cases e
       | some F =>
         obtain ⟨f',oc,od,fd,osl,h1,h2⟩:=hf _ (wY hF) rfl
         rw [h1] at hk
         cases hk
         exact ⟨_,rfl,_,_,_,_,kin _ _ h2⟩
   | _=>cases e
 · cases d with
   | clo m n caps =>
     have e:((l.lookup (m,n)).bind fun F=>F caps as)=some r:=e
     cases hF:l.lookup (m,n) with
     | none=>rw [hF] at e; cases e
     | some F =>
       rw [hF] at e
       exact h _ (wY hF) A outer s H f caps us vs as r Q hr e0 rep rv ra e q
   | _=>cases e
section
variable {X:Cx} {k j i:Nat} {Φ : Fun2} {x:Str} {p pos:Pos} {e:Expr} {es:List Expr} {g:FA}
theorem pv_callW (CO:CloOk X.prog X.w X.K X.mg X.base k Φ) (hr:Room j X.A) (ha:PAn X (e::es) g) (hj:k<=j:=by decide) (hN:X.N[i]? = some x:=by rfl) (hv:Vis X.env.scope x:=by first | exact Or.inl rfl | exact Or.inr (Or.inl rfl) | exact Or.inr (Or.inr rfl)) (hdb:(x == ("__debug__" : Str))=false:=by decide) (hcd:(x == ("__classdict__" : Str))=false:=by decide)
  (he:starEach (e::es) X.env=(false,eval e X.env)::starEach es X.env:=by rfl) (hpl:(backTo pos (starEach es X.env)).any (·.1)=false:=by rfl):PV X (.Call (.Name x p) (e::es) [] pos) (callW Φ i g):=by
 obtain ⟨t,ht,hf⟩:=ha
 refine ⟨fun σ H Q=>∀ pins s,Inv X pins σ H s->wpAny (model X.prog X.w) X.A (eval (.Call (.Name x p) (e::es) [] pos) X.env) (EP X pins σ Q) X.xe s,fun pins s σ H Q I h=>h pins s I,fun H₀ H O σ ds hd d Q o ee q pins s I=>?_⟩
 unfold callW at ee
 cases h1:qW i ds with
 | none=>rw [h1] at ee; cases ee
 | some fd =>
   cases h2:g ds with
   | none=>rw [h1,h2] at ee; cases ee
   | some l =>
     rw [h1,h2] at ee
     simp only [Option.bind_some] at ee
     cases h3 : Φ fd l with
     | none=>rw [h3] at ee; cases ee
     | some r =>
       rw [h3] at ee
       simp only [Option.bind_some] at ee
       have hsl:ds[i]? = some (.v fd):=by
        unfold qW at h1
        split at h1
        · rename_i d' hd'; cases h1; exact hd'
        · cases h1
       obtain ⟨v,hv1,rv⟩:=o.read hsl
       refine wpAny_Call_Name_kw (thn (xP hN hv hdb hcd pins s σ H (fun v' H'=>v'=v/\H'=H) I ⟨v,hv1,rfl,rfl⟩) fun u s1 ⟨v',H',I1,ru,e1,e2⟩=>?_)
       subst e1 e2
       have rv0:Rep X.K H' jI v' fd:=rv.less fun _ z=>z.elim
       obtain ⟨f,rfl,fa⟩:=CO.hold H' s1.heap v' fd l r rv0 h3 I1.hok I1.kIn
       obtain rfl:u=Value.ref f:=ru
       refine callWith_F fa (thn (ht pos pins s1 σ H' (fun vs H1=>Same H' H1/\Reps X.K H1 jI vs l) I1 (hf H₀ H' O σ ds hd l _ o h2 fun vs H1 a b=>⟨a,b⟩)) fun us s2 ⟨vs,H2,I2,r2,sm,rvs⟩=>?_) he hpl
       obtain ⟨f',e',fa2⟩:=CO.hold H2 s2.heap _ fd l r (rv0.mono sm) h3 I2.hok I2.kIn
       cases e'
       refine ⟨fa2,wpAny_call (codeAny_mono (CO.run X.A X.stack s2 H2 f fd us vs l r Q (hr.mono hj) I2.env0 (rv0.mono sm) r2 rvs h3 fun v H3 a b=>q v H3 (sm.trans a) (retV_ok b ee fun a ha=>(o.mono sm).old ha)) fun rr s' hq=>?_)⟩
       cases rr with
       | error e=>exact hq.elim
       | ok fl =>
         cases fl with
         | ret u=>exact I2.after hq
         | next=>exact False.elim hq
         | brk=>exact False.elim hq
         | cont=>exact False.elim hq
end
def stN (i:Nat) (l:List Stmt):Stmt:=l.getD i (.Pass ⟨0,0,0,0⟩)
end FL
namespace FL
open PySem PySem.Spec PyProof.Rows L2
section
variable {X:Cx}
end
open PySem.W (tabIn CodeHd tabObj makeFunction_K makeFunction_hit fnMade fnX nestDef_K kla_callFunE envX)
abbrev deadCx (X:Cx):Cx:={ X with fn:=fun _=>false }
section
variable {X:Cx} {pins:List (Addr×Obj)} {σ : L2.St} {H:Hp} {s:Shared}
theorem xW (I:Inv X pins σ H s):Inv (deadCx X) pins σ H s:=by
 have ok:=I.ok
 exact ⟨⟨ok.mod,ok.kind,ok.glob,ok.blt,ok.above,ok.inj,ok.has,(fun x c hf=>by cases hf),ok.hd,ok.frames,ok.stk,ok.exf,ok.bs,ok.bsz,ok.noex,ok.exfs,ok.funs,ok.frf⟩,I.os,I.bare,I.base,I.loc,I.cell,I.free,fun x c e=>(I.freeC x c e).imp id fun z=>⟨rfl,z.2⟩,I.pin,I.hok,I.len⟩
theorem sp_dead {D:Ends} {f:Flow} (h:SP X pins D f s):SP (deadCx X) pins D f s:=by
 cases f with
 | next=>obtain ⟨σ',H',I,q⟩:=h; exact ⟨σ',H',xW I,q⟩
 | brk=>obtain ⟨σ',H',I,q⟩:=h; exact ⟨σ',H',xW I,q⟩
 | cont=>obtain ⟨σ',H',I,q⟩:=h; exact ⟨σ',H',xW I,q⟩
 | ret u=>obtain ⟨v,σ',H',I,r,q⟩:=h; exact ⟨v,σ',H',xW I,r,q⟩
end
def PSd (X:Cx) (st:List Stmt) (t:TS):Prop :=
 ∀ (pins:List (Addr×Obj)) (s:Shared) (σ : L2.St) (H:Hp) (D:Ends),Inv X pins σ H s->t D σ H->wpAny (model X.prog X.w) X.A (execs st X.env) (SP (deadCx X) pins D) X.xe s
def PSdv (X:Cx) (st:List Stmt) (g:FS):Prop:=∃ t,PSd X st t/\∀ H₀ H O σ ds hd out E,Ok X.K H₀ H O σ ds hd->g ds=some out->After X H₀ hd E out->t E σ H
section
variable {X:Cx}
theorem psd_cons {st:Stmt} {rest:List Stmt} {t u:TS} (h1:PS X st t) (h2:PSd X rest u):PSd X (st::rest) (tSeq t u):=by
 intro pins s σ H D I h
 refine wpAny_execs_cons (thn (h1 pins s σ H { D with nx:=u D } I h) fun f s1 q=>?_)
 cases f with
 | next =>
   obtain ⟨σ',H',I',q⟩:=q
   exact h2 pins s1 σ' H' D I' q
 | ret v=>exact sp_dead (D:=D) (f:=.ret v) (by obtain ⟨v,σ',H',I',r,q⟩:=q; exact ⟨v,σ',H',I',r,q⟩)
 | brk=>exact sp_dead (D:=D) (f:=.brk) (by obtain ⟨σ',H',I',q⟩:=q; exact ⟨σ',H',I',q⟩)
 | cont=>exact sp_dead (D:=D) (f:=.cont) (by obtain ⟨σ',H',I',q⟩:=q; exact ⟨σ',H',I',q⟩)
theorem psdv_cons {st:Stmt} {rest:List Stmt} {f g:FS} (h1:PSv X st f) (h2:PSdv X rest g):PSdv X (st::rest) (qG f g):=by
 obtain ⟨t,ht,hf⟩:=h1
 obtain ⟨u,hu,hg⟩:=h2
 refine ⟨_,psd_cons ht hu,fun H₀ H O σ ds hd out E o e h=>?_⟩
 unfold qG at e
 cases h1:f ds with
 | none=>rw [h1] at e; cases e
 | some o1 =>
   rw [h1] at e
   refine hf H₀ H O σ ds hd o1 _ o h1 ?_
   cases o1 with
   | nx ds'=>exact fun σ' H' O' o'=>hg H₀ H' O' σ' ds' hd out E o' e h
   | rt r=>cases e; exact h
   | bk ds'=>cases e; exact h
   | ct ds'=>cases e; exact h
theorem psdv_dead {st:List Stmt} {g:FS} (h:PSsv (deadCx X) st g):PSdv X st g:=by
 obtain ⟨t,ht,hf⟩:=h
 exact ⟨t,fun pins s σ H D I h'=>ht pins s σ H D (xW I) h',hf⟩
end
theorem fun_okD {P:Program} {w:World} {K:Frag} {mg:Str->Option Value} {base:Heap} {x qual:Str} {st:Stmt} {f c B:Addr} {fd:FuncData} {N ps:List Str} {k m:Nat} {F:List D->Option Ret} (Fn:Fun K x qual st f fd) (S:FnScope N ps (zB st)) (M:Mkr K x m st f c B)
  {g:FS} (hbody:∀ (A:Around) (outer:List Env) (s:Shared) (H:Hp) (E:XK),Room k (A.deeper (envOfC qual (zB st) s.heap.objs.size f (.ref c)))->PSdv (cxOf CX0 P w K mg base N qual (zB st) f (.ref c) A outer s H E).nox (zI st) g)
  (hg:∀ ds r,ds.length=ps.length->F ds=some r->Does g N.length ds r):FnOk P w K mg base CX0 (k+1) f fd ps (spF K ps.length F):=by
 obtain ⟨oc,od,kV,doc,pm,an,cdv,ct,osl,rfl,lk,hcd⟩:=Fn.ex
 obtain rfl:cdv = .ref c:=M.cd _ _ _ _ lk
 refine ⟨fun vs H Q E h=>h.1,fun A outer s H args us vs Q E hr e0 hb r hsp=>?_⟩
 obtain ⟨hl,ds,rr,rv,e,q⟩:=hsp
 have KX:K.In s.heap:=e0.mod.kin.keeps fun b o e=>(e0.bs b o e).1
 have lim:s.heap.NoLimit:=e0.mod.nolimit.keeps fun b o e=>(e0.bs b o e).1
 have hkind:∀ y∈ps.zip us,(zB st).names.lookup y.1=some .local \/ ((zB st).names.lookup y.1=some .cell/\((cellsFrom (s.heap.objs.size+1) (zB st).names []).lookup y.1).isSome=true):=fun ⟨n,v⟩ hy=>by
  rcases S.par n (List.of_mem_zip hy).1 with q | q
  · exact .inl q
  · exact .inr ⟨q,PySem.W.cellsFrom_some _ _ _ (.inl q)⟩
 refine codeAny_call_function hr.depth (KX _ _ lk) rfl S.co S.gen rfl (PySem.W.codeRec_of KX hcd) (hb _ _ _ _ ?_)
 refine wpAny_newFunctionEnv_cells S.kind hkind fun env he s1 x=>?_
 subst he
 refine ⟨lim.keeps x.toInCall.keep,codeAny_func ?_⟩
 obtain ⟨t,ht,hf⟩:=hbody A outer s H E (hr.deeper _)
 have I:Inv (cxOf CX0 P w K mg base N qual (zB st) f (.ref c) A outer s H E).nox [] (L2.start N vs) H s1:=(inv_start S hr.hd e0 hl r x).wish _
 have o:=ok_start (N:=N) rv
 have hq:t { nx:=fun _ H'=>Q .non H',rt:=Q } (L2.start N vs) H:=by
  rcases hg ds rr (by rw [<- rv.length]; exact hl) e with e' | ⟨rfl,ds',e'⟩
  · exact hf H H jI _ _ [] _ _ o e' (fun v H' s r _=>q v H' s r)
  · exact hf H H jI _ _ [] _ _ o e' (fun σ H' O o'=>q .non H' o'.same .non)
 refine wpAny_mono (ht [] s1 (L2.start N vs) H _ I hq) (fun fl s' hs=>?_) fun e s' hs=>False.elim hs
 cases fl with
 | ret u =>
   obtain ⟨v,σ',H',J,rv',q'⟩:=hs
   exact ⟨v,H',J.os,J.bare,J.base,J.hok,rv',q'⟩
 | next =>
   obtain ⟨σ',H',J,q'⟩:=hs
   exact ⟨V.non,H',J.os,J.bare,J.base,J.hok,rfl,q'⟩
 | brk =>
   obtain ⟨_,_,_,q⟩:=hs
   exact False.elim q
 | cont =>
   obtain ⟨_,_,_,q⟩:=hs
   exact False.elim q
theorem kC {m:Nat} : ∀ (names:List (Str×NameKind)) (n:Nat) (acc:List (Str×Addr)),m<=n->(∀ p∈acc,m<=p.2)->∀ p∈cellsFrom n names acc,m<=p.2
 | [],_,_,_,h=>h
 | (x, k) :: r, n, acc, hn, h => by
   unfold cellsFrom
   split
   · exact kC r (n+1) _ (Nat.le_succ_of_le hn) fun p hp=>(List.mem_cons.mp hp).elim (fun e=>by rw [e]; exact hn) (h p)
   · exact kC r n acc hn h
def Young (X:Cx):Prop:=∀ x c,X.env.cells.lookup x=some c->X.s₀.heap.objs.size<=c
theorem xR {CX:CXT} {P:Program} {w:World} {K:Frag} {mg:Str->Option Value} {base:Heap} {N:List Str} {qual:Str} {scope:Scope} {f:Addr} {cd:Value} {A:Around} {outer:List Env} {s:Shared} {H:Hp} {E:XK} :
  Young (deadCx (cxOf CX P w K mg base N qual scope f cd A outer s H E).nox):=fun x c h =>
 Nat.le_of_succ_le (kC (m:=s.heap.objs.size+1) scope.names (s.heap.objs.size+1) [] (Nat.le_refl _) (fun p hp=>by cases hp) _ (PySem.mem_of_lookup h))
def lendN (h:Heap) (cs:List Addr) (H:Hp):Hp:=fun b=>if b∈cs then (match H b with | none=>(h.get? b).map fun o=>.frz o exT | some u=>some u) else H b
theorem xU {h:Heap} {cs:List Addr} {H:Hp} {b:Addr} (hb:b ∉ cs):lendN h cs H b=H b:=by unfold lendN; rw [if_neg hb]
theorem vJ {h:Heap} {cs:List Addr} {H:Hp} {b:Addr} {u:HO} (e:H b=some u):lendN h cs H b=some u:=by
 unfold lendN
 split
 · rw [e]
 · exact e
theorem lendN_new {h:Heap} {cs:List Addr} {H:Hp} {b:Addr} {o:Obj} (hb:b∈cs) (n:H b=none) (e:h.get? b=some o):lendN h cs H b=some (.frz o exT):=by unfold lendN; rw [if_pos hb,n,e]; rfl
section
variable {X:Cx} {pins:List (Addr×Obj)} {σ : L2.St} {H:Hp} {s:Shared} {cs:List Addr}
theorem adopt_cells (I:Inv X pins σ H s) (hcs:∀ c∈cs,∃ x,X.env.cells.lookup x=some c) (hfn:∀ x,X.fn x=false) (hy:Young X) :
  Inv X pins σ (lendN s.heap cs H) s/\Same H (lendN s.heap cs H)/\∀ c∈cs,∃ o u,lendN s.heap cs H c=some (.frz o u):=by
 have ci:∀ c∈cs,(∃ o v,s.heap.get? c=some o/\o.data = .cell v)/\X.s₀.heap.objs.size<=c/\c≠X.env.locals/\∃ o u,lendN s.heap cs H c=some (.frz o u):=fun c hc=>by
  obtain ⟨x,hx⟩:=hcs c hc
  obtain ⟨v,o,ho,hd⟩:=I.cell x c hx
  refine ⟨⟨o,v,ho,hd⟩,hy x c hx,I.cne x c hx,?_⟩
  rcases I.freeC x c hx with n | ⟨_,o',u',e⟩
  · exact ⟨_,_,lendN_new hc n ho⟩
  · exact ⟨_,_,vJ e⟩
 have sm:Same H (lendN s.heap cs H):=fun b u e=>vJ e
 refine ⟨⟨I.ok,I.os,I.bare,⟨I.base.keep,I.base.slot,fun b o e n hx=>?_,I.base.there,fun b xs e=>sm _ _ (I.base.tups b xs e),fun b o u e=>sm _ _ (I.base.frzs b o u e),fun b q e=>sm _ _ (I.base.tbls b q e)⟩,I.loc,I.cell,?_,fun x c e=>?_,fun p hp=>?_,fun b u e=>?_,I.len⟩,sm,fun c hc=>(ci c hc).2.2.2⟩
 · rw [xU fun z => ?_]
   · exact I.base.free b o e n hx
   · exact absurd (Nat.lt_of_lt_of_le (Heap.lt_size e) (ci b z).2.1) (Nat.lt_irrefl _)
 · rw [xU fun z=>(ci _ z).2.2.1 rfl]; exact I.free
 · by_cases hc : c ∈ cs
   · exact .inr ⟨hfn x,(ci c hc).2.2.2⟩
   · unfold FreeC
     rw [xU hc]
     exact I.freeC x c e
 · obtain ⟨q1, q2, q3, q4, q5⟩ := I.pin p hp
   refine ⟨q1,?_,q3,q4,q5⟩
   rw [xU fun z=>?_]
   · exact q2
   · obtain ⟨o, v, ho, hd⟩ := (ci _ z).1
     rw [q1] at ho
     cases ho
     exact q5 v hd
 · cases hb : H b with
   | some u' =>
     rw [vJ hb] at e
     cases e
     exact (I.hok b u hb).stay (fun _ _ _ q=>q) (fun c q=>sm _ _ q) fun c xs q=>sm _ _ q
   | none =>
     by_cases hc:b∈cs
     · obtain ⟨o, v, ho, _⟩ := (ci b hc).1
       rw [lendN_new hc hb ho] at e
       cases e
       exact ⟨ho,trivial,⟨_,ho⟩,fun _ _ _ _=>trivial⟩
     · rw [xU hc,hb] at e; cases e
theorem closF_of {H₀ : Hp} {O:Addr->Prop} {ds:List Sl} {hd:Hold} (I:Inv X pins σ H s) (o:Ok X.K H₀ H O σ ds hd) :
  ∀ {cl:List (Str×Addr)} {is:List Nat} {caps:List D},(∀ p∈cl,X.env.cells.lookup p.1=some p.2/\X.env.kindOf p.1=some .cell/\∃ o u,H p.2=some (.frz o u))->(is.map fun i=>X.N[i]?)=(cl.map (·.1)).map some->capsA is ds=some caps →
   ∃ xs,ClosOk H O cl xs/\Reps X.K H O xs caps
 | [],[],caps,_,_,e=>by cases e; exact ⟨[],.nil,.nil⟩
 | [],_::_,_,_,h,_=>by cases h
 | _::_,[],_,_,h,_=>by cases h
 | p :: cl, i :: is, caps, hcl, h, e => by
   simp only [List.map_cons,List.cons.injEq] at h
   unfold capsA at e
   cases h1:qW i ds with
   | none=>rw [h1] at e; cases e
   | some d =>
     cases h2:capsA is ds with
     | none=>rw [h1,h2] at e; cases e
     | some l =>
       rw [h1,h2] at e
       cases e
       obtain ⟨xs,k1,k2⟩:=closF_of I o (fun q hq=>hcl q (List.mem_cons_of_mem _ hq)) h.2 h2
       have hsl:ds[i]? = some (.v d):=by
        unfold qW at h1
        split at h1
        · rename_i d' hd'; cases h1; exact hd'
        · cases h1
       obtain ⟨v,hv,rv⟩:=o.read hsl
       obtain ⟨c1,c2,of,uf,c3⟩:=hcl p List.mem_cons_self
       obtain ⟨m,hn,hl⟩:=I.loc
       obtain ⟨u,ru,lk⟩:=hl i p.1 v h.1 hv (.inr (.inl c2))
       have hcell:of.data = .cell (some u):=by
        obtain ⟨e1,_⟩:=I.hok p.2 _ c3
        rcases lk with ⟨kl,_⟩ | ⟨_,c',ec,oc,hoc,hocd⟩
        · rw [c2] at kl; cases kl
        · rw [c1] at ec; cases ec; rw [e1] at hoc; cases hoc; exact hocd
       refine ⟨v::xs,.cons (n:=p.1) (c:=p.2) (fun z=>?_) c3 hcell ru k1,.cons rv k2⟩
       obtain ⟨zs,ez⟩:=o.dom _ z
       rw [c3] at ez; cases ez
end
section
variable {X:Cx}
theorem clo_made {pins:List (Addr×Obj)} {σ : L2.St} {H H1 H₀ : Hp} {s1:Shared} {O:Addr->Prop} {ds:List Sl} {hd:Hold} {m j:Nat} {is:List Nat} {t:LamT} {f:Addr} {caps:List D} (htx:textIn X.K m j=some t) (ck:lamCk t.scope X.env.scope is X.N=true) (hfn:∀ x,X.fn x=false) (hy:Young X)
  (I1:Inv X pins σ H1 s1) (o:Ok X.K H₀ H O σ ds hd) (sm:Same H H1) (la:LamAt H1 jI f t (yK X.env t.scope.names [])) (hc:capsA is ds=some caps):∃ H2,Inv X pins σ H2 s1/\Same H1 H2/\Rep X.K H2 O (.ref f) (.clo m j caps):=by
 unfold lamCk at ck
 simp only [Bool.and_eq_true,decide_eq_true_eq] at ck
 have hfree:∀ y∈t.scope.names,y.2=NameKind.free->X.env.kindOf y.1=some .cell:=fun y hy hk=>by
  have:=List.all_eq_true.mp ck.1.1 y hy
  rw [hk] at this
  simp only [bne_self_eq_false,Bool.false_or,beq_iff_eq] at this
  exact this
 have hcell:∀ pr∈yK X.env t.scope.names [],X.env.cells.lookup pr.1=some pr.2/\X.env.kindOf pr.1=some .cell:=fun pr hp=>by
  rcases closL_mem _ _ pr hp with z | z
  · cases z
  · exact ⟨z.1,hfree _ z.2 rfl⟩
 have hnm:(yK X.env t.scope.names []).map (·.1)=freeR t.scope.names:=by
  have:=closL_names (env:=X.env) t.scope.names [] fun y hy hk=>I1.ok.has y.1 (.inl (hfree y hy hk))
  simpa using this
 obtain ⟨I2,sm2,hfz⟩:=adopt_cells (cs:=(yK X.env t.scope.names []).map (·.2)) I1 (fun c hc=>by
  obtain ⟨pr,hp,rfl⟩:=List.mem_map.mp hc
  exact ⟨pr.1,(hcell pr hp).1⟩) hfn hy
 have o2:=(o.mono sm).mono sm2
 obtain ⟨xs,hcl,hxs⟩:=closF_of I2 o2 (fun p hp=>⟨(hcell p hp).1,(hcell p hp).2,hfz _ (List.mem_map_of_mem hp)⟩) (by rw [hnm]; exact ck.2) hc
 refine ⟨_,I2,sm2,.clo htx (LamAt.of (fun a ob u e z=>?_) (la.mono sm2)) hnm (nodup_snd (by rw [hnm]; exact ck.1.2) fun a ha b hb e=>I2.ok.inj a.1 b.1 a.2 (hcell a ha).1 (by rw [e]; exact (hcell b hb).1)) hcl hxs⟩
 obtain ⟨zs,ez⟩:=o2.dom _ z
 rw [e] at ez; cases ez
theorem lamCk_free {sc esc:Scope} {is:List Nat} {N:List Str} (ck:lamCk sc esc is N=true):∀ y∈sc.names,y.2=NameKind.free->esc.names.lookup y.1=some .cell:=fun y hy hk=>by
 unfold lamCk at ck
 simp only [Bool.and_eq_true] at ck
 have:=List.all_eq_true.mp ck.1.1 y hy
 rw [hk] at this
 simp only [bne_self_eq_false,Bool.false_or,beq_iff_eq] at this
 exact this
theorem mk_def {E:Value->Shared->Prop} {name:Str} {params:Arguments} {body:List Stmt} {scope:Scope} {pos:Pos} {x:Str} {c P:Addr} (hx:x∈makers) (ht:tabIn X.K x=some (c,P)) (hcode:X.env.code = .ref c) {qn:Str} (hq:innerQ X.K x pos.line pos.col=qn)
  (hfree:∀ y∈scope.names,y.2=NameKind.free->(X.env.kindOf y.1=some .cell \/ X.env.kindOf y.1=some .free)) {pins:List (Addr×Obj)} {σ : L2.St} {H:Hp} {s:Shared} {Q:Value->Shared->Prop} (I:Inv X pins σ H s)
  (h:∀ f H1 s1,Inv X pins σ H1 s1->Same H H1->LamAt H1 jI f ⟨qn,params,.stmts body,scope⟩ (yK X.env scope.names [])->Q (.ref f) s1) :
  wpAny (model X.prog X.w) X.A (makeFunction name qn params (.stmts body) scope X.env [] [] [] pos pos.line) Q E s:=by
 obtain ⟨⟨bm,ob,b1,b2,b3,b4,b5,b6⟩,tb⟩:=I.tabsH
 obtain ⟨C,hP⟩:=tb x c P hx ht
 obtain ⟨ps,hPo,tr,am⟩:=I.hok P _ hP
 have hcl:closureFor scope X.env=pure (yK X.env scope.names []):=yS fun y hy hk=>I.ok.has y.1 (hfree y hy hk)
 have hgs:s.heap.Ns mainGlobals X.mg:=I.mod.glob.keeps I.bk
 have hgP:mainGlobals≠P:=fun z=>by
  obtain ⟨o,es,ep,e,hd,_⟩:=hgs
  rw [z,hPo] at e; cases e; cases hd
 have hbP:bm≠P:=fun z=>by
  have e:=I.bk _ _ b3
  rw [z,hPo] at e; cases e; cases b4
 have hbG:bm≠mainGlobals:=fun z=>by
  obtain ⟨o,es,ep,e,hd,_⟩:=hgs
  have e2:=I.bk _ _ b3
  rw [z,e] at e2; cases e2; rw [hd] at b6; cases b6
 have hB:s.heap.BuiltinsAt X.mg P:=⟨bm,ob,b1,b2,hbG,hbP,I.bk _ _ b3,b4,b5,b6⟩
 cases hit:codeAmong pos ps.toList with
 | none =>
   refine makeFunction_K (mg:=X.mg) hcl I.ok.glob hgs hcode (C.keeps I.bk) hPo tr hit hgP hB fun c' ctv doc h' tk hx' hge hlt hrec htb=>?_
   obtain ⟨c₂,oc,vs,tq,e2,hoc,hd,hv⟩:=hrec
   cases e2
   generalize hob:fnMade name qn params body scope (yK X.env scope.names []) doc ((X.mg "__name__").getD .none) c' ctv=of
   have hfr:of.isFreed=false:=by rw [<- hob]; rfl
   have nc:H c'=none:=I.hok.fresh hge
   have nf:H h'.objs.size=none:=I.hok.fresh (Nat.le_of_lt (Nat.lt_of_le_of_lt hge hlt))
   have ncf:c'≠h'.objs.size:=Nat.ne_of_lt hlt
   have kp:∀ b o,b≠P->s.heap.get? b=some o->(h'.push of).get? b=some o:=fun b o hb e=>Heap.get?_push_of_some _ (hx' b o hb e)
   have h1:∀ {b:Addr} {u:HO},H b=some u->upd (upd H c' (.frz oc exT)) h'.objs.size (.frz of exT) b=some u:=fun {b u} e=>by
    rw [qA (jJ e nf),qA (jJ e nc)]; exact e
   have hf1:upd (upd H c' (.frz oc exT)) h'.objs.size (.frz of exT) h'.objs.size=some (.frz of exT):=qK
   have hc1:upd (upd H c' (.frz oc exT)) h'.objs.size (.frz of exT) c'=some (.frz oc exT):=by rw [qA ncf,qK]
   have nP:∀ {b:Addr},H b=none->b≠P:=fun {b} n z=>by rw [z,hP] at n; cases n
   have U:Un X.fs [] H (upd (upd H c' (.frz oc exT)) h'.objs.size (.frz of exT)) s.heap (h'.push of):=by
    refine ⟨fun b o e n _ _=>kp b o (nP n) e,fun b o e n _ _=>⟨o.slots,kp b o (nP n) e⟩,fun b o e n _=>?_,fun b o e _=>?_,fun b xs e=>h1 e,fun b o u e=>h1 e,fun b q e=>h1 e⟩
    · have lt := Heap.lt_size e
      rw [qA (Nat.ne_of_lt (Nat.lt_trans (Nat.lt_of_lt_of_le lt hge) hlt)),qA (Nat.ne_of_lt (Nat.lt_of_lt_of_le lt hge))]
      exact n
    · by_cases hb : b = P
      · subst hb; exact ⟨_,Heap.get?_push_of_some _ htb⟩
      · exact ⟨o,kp b o hb e⟩
   have hok:L2.HOk X.prog X.w (upd (upd H c' (.frz oc exT)) h'.objs.size (.frz of exT)) (h'.push of):=fun b u e=>by
    by_cases hbf:b=h'.objs.size
    · subst hbf
      rw [hf1] at e; cases e
      exact ⟨Heap.get?_push_size _ hfr,trivial,⟨_,Heap.get?_push_size _ hfr⟩,fun _ _ _ _=>trivial⟩
    rw [qA hbf] at e
    by_cases hbc:b=c'
    · subst hbc
      rw [qK] at e; cases e
      exact ⟨Heap.get?_push_of_some _ hoc,trivial,⟨_,Heap.get?_push_of_some _ hoc⟩,fun _ _ _ _=>trivial⟩
    rw [qA hbc] at e
    by_cases hbP:b=P
    · subst hbP
      rw [hP] at e; cases e
      refine ⟨_,Heap.get?_push_of_some _ htb,?_,fun pos' v z=>?_⟩
      · rw [Array.toList_append]
        exact TriplesOk_snoc _ _ _ _ tr
      · rw [Array.toList_append] at z
        rcases codeAmong_app _ tr z with z | ⟨rfl,e1,e2⟩
        · obtain ⟨c3, o3, u3, vs3, t3, g1, g2, g3, g4⟩ := am pos' v z
          exact ⟨c3,o3,u3,vs3,t3,g1,h1 g2,g3,g4⟩
        · exact ⟨c',oc,exT,vs,tq,rfl,hc1,hd,by rw [e1,e2,hq]; exact hv⟩
    · refine (I.hok b u e).stay (fun c3 v3 hc3 r3 => kp c3 v3 ?_ r3) (fun c3 r3 => h1 r3) fun c3 xs3 r3 => h1 r3
      rcases hc3 with rfl | hc3
      · exact hbP
      · rintro rfl; rw [hP] at hc3; cases hc3
   refine h _ _ _ (I.un (t':=tk) U hok) (fun b u e=>h1 e) ?_
   subst hob
   exact ⟨id,_,oc,_,_,_,c',vs,tq,hf1,rfl,rfl,rfl,rfl,rfl,rfl,rfl,rfl,rfl,rfl,rfl,rfl,id,hc1,hd,hv⟩
 | some cv =>
   obtain ⟨c',oc,uc,vs,tq,rfl,hc',hd,hv⟩:=am pos cv hit
   refine makeFunction_hit (mg:=X.mg) hcl I.ok.glob hgs hcode (C.keeps I.bk) hPo tr hit hB fun ctv doc h' tk hk hsz=>?_
   generalize hob:({ cls:=.type "function",data:=.func (fnX name qn params body scope (yK X.env scope.names []) .none .none doc ((X.mg "__name__").getD .none) none (.ref c') ctv) } : Obj)=of
   have hfr:of.isFreed=false:=by rw [<- hob]; rfl
   have nf:H h'.objs.size=none:=I.hok.fresh hsz
   have h1:∀ {b:Addr} {u:HO},H b=some u->upd H h'.objs.size (.frz of exT) b=some u:=fun {b u} e=>by
    rw [qA (jJ e nf)]; exact e
   refine h _ (upd H h'.objs.size (.frz of exT)) _ (I.laid (t':=tk) (fun b u e=>Heap.get?_push_of_some _ (hk b u e)) hsz ?_) (fun b u e=>h1 e) ?_
   · exact ⟨Heap.get?_push_size _ hfr,trivial,⟨_,Heap.get?_push_size _ hfr⟩,fun _ _ _ _=>trivial⟩
   · subst hob
     exact ⟨id,_,oc,_,_,_,c',vs,tq,qK,rfl,rfl,rfl,rfl,rfl,rfl,rfl,rfl,rfl,rfl,rfl,rfl,id,h1 hc',hd,by rw [hq] at hv; exact hv⟩
theorem wW {i:Nat} {name:Str} {params:Arguments} {body:List Stmt} {scope:Scope} {pos:Pos} {y:Str} {m j:Nat} {st:Stmt} {f c P:Addr} {is:List Nat} (hN:X.N.Nodup) (M:Mkr X.K y m st f c P) (hy:Young X) (htx:(lamsOf y (zI st))[j]? = some ⟨y++".<locals>."++name,params,.stmts body,scope⟩) (ck:lamCk scope X.env.scope is X.N=true)
  (hi:X.N[i]? = some name:=by rfl) (hlo:X.env.kindOf name=some .local:=by rfl) (hfn:∀ x,X.fn x=false:=by exact fun _=>rfl) (hcode:X.env.code = .ref c:=by rfl) (hqu:qualnameIn X.env name name=y++".<locals>."++name:=by rfl) (hin:innerN (zI st) pos.line pos.col=name:=by rfl)
  (hd0:params.defaults=[]:=by rfl) (hk0:params.kw_defaults=[]:=by rfl) (han:annTrees params none X.env=[]:=by rfl) :
  PSv X (.FunctionDef name params body [] none [] scope none name pos) (jM i (cloV m j is)):=by
 refine ⟨fun D σ H=>∀ pins s,Inv X pins σ H s->wpAny (model X.prog X.w) X.A (exec (.FunctionDef name params body [] none [] scope none name pos) X.env) (SP X pins D) X.xe s,fun pins s σ H D I h=>h pins s I,fun H₀ H O σ ds hd out D o e af pins s I=>?_⟩
 unfold jM cloV at e
 cases hc:capsA is ds with
 | none=>rw [hc] at e; cases e
 | some caps =>
   rw [hc] at e
   cases e
   refine nestDef_K hd0 hk0 han ?_
   rw [hqu]
   refine mk_def (x:=y) (List.mem_of_getElem? M.mem) M.tab hcode (by rw [M.inq,hin]) (fun z hz hk=>.inl (lamCk_free ck z hz hk)) I fun f' H1 s1 I1 sm la=>?_
   obtain ⟨H2,I2,sm2,rp⟩:=clo_made ((M.tx j).trans htx) ck hfn hy I1 o sm la hc
   refine xJ (i:=i) (v:=.ref f') I2 hN hi (.inl hlo) rfl (fun s3 I3=>?_) (.inr hlo)
   exact ⟨_,H2,I3,af _ _ O (((o.mono sm).mono sm2).set rp)⟩
theorem Rep.flattenC {K:Frag} {H:Hp} {O O':Addr->Prop} {v:V} {d:D} (ho:∀ a,O a->Old H a) (h:flatC d=true) (r:Rep K H O' v d):Rep K H O v d:=by
 have k:∀ a o u,H a=some (.frz o u)->¬ O a:=fun a o u e z=>by
  obtain ⟨w,e2,m⟩:=ho a z
  rw [e] at e2; cases e2; cases m
 cases r with
 | clo tx la e nd hc rx=>exact .clo tx (la.of k) e nd (hc.of k) (Reps.flatten ho h rx)
 | fnK hk=>exact .fnK hk
 | non=>exact .non
 | bl b=>exact .bl b
 | int i=>exact .int i
 | str x=>exact .str x
 | tup n h' r=>exact Rep.flatten ho h (.tup n h' r)
 | tupK h' r=>exact Rep.flatten ho h (.tupK h' r)
 | lst n h' r=>exact Rep.flatten ho h (.lst n h' r)
 | lstK h' r=>exact Rep.flatten ho h (.lstK h' r)
 | dct n h' e r=>exact Rep.flatten ho h (.dct n h' e r)
 | ins c n h' e r=>exact Rep.flatten ho h (.ins c n h' e r)
theorem psv_retC {e:Expr} {pos:Pos} {f:FE} (he:PV X e f):PSv X (.Return (some e) pos) (retCG f):=by
 obtain ⟨t,ht,hg⟩:=he
 refine ⟨_,vS ht,fun H₀ H O σ ds hd out E o e h=>?_⟩
 unfold retCG at e
 cases h1:f ds with
 | none=>rw [h1] at e; cases e
 | some d =>
   rw [h1] at e
   simp only [Option.bind_some] at e
   split at e
   · rename_i hf
     cases e
     exact hg H₀ H O σ ds hd d _ o h1 fun v H' s r=>h _ _ (o.same.trans s) (Rep.flattenC (fun a z=>Old.mono (o.same.trans s) z) hf r) True.intro
   · cases e
end
theorem xC {P:Program} {w:World} {K:Frag} {mg:Str->Option Value} {base:Heap} {k m n:Nat} {t:LamT} {ps:List Str} {body:List Stmt} {g:FS} (htx:textIn K m n=some t) (S:LamScope ps t.scope) (hbd:t.body = .stmts body)
  (hbind:∀ fd:FuncData,fd.params=t.params->fd.defaults = .none->fd.kwdefaults = .none->∀ us:List Value,us.length=ps.length->bindArgs fd ⟨us,[]⟩=pure (ps.zip us))
  (hbody:∀ (f:Addr) (cd:Value) (cl:List (Str×Addr)) (A:Around) (outer:List Env) (s:Shared) (H:Hp),Room k (A.deeper (envX t.qual t.scope s.heap.objs.size f cd cl))->PSsv (lamCx P w K mg base ps t f cd cl A outer s H) body g):LamGood P w K mg base (k+1) m n (lamS ps.length g):=by
 intro A outer s H f caps us vs as r Q hr e0 hrep rv ra hF q
 unfold lamS at hF
 split at hF
 · rename_i hal
   obtain ⟨t',cl,xs,tx,la,e,nd,hco,rx⟩:=hrep.cloInv (text_lt htx)
   rw [htx] at tx
   cases tx
   obtain ⟨_,o,oc,u,uc,fd,c,wsv,tq,h1,h2,h3,h4,h5,h6,h7,h8,h9,h10,h11,h12,h13,h14,h15,h16,h17⟩:=la
   have lim:s.heap.NoLimit:=e0.mod.nolimit.keeps fun b o e=>(e0.bs b o e).1
   have ho:=(e0.hok f _ h1).1
   have hoc:=(e0.hok c _ h15).1
   have hul:us.length=ps.length:=by rw [<- rv.length,ra.length]; exact hal
   refine codeAny_call_function hr.depth ho h3 (by rw [h7]; exact S.co) (by rw [h7]; exact S.gen) (h6.trans hbd) ⟨c,oc,wsv,tq,h12,hoc,h16,by rw [h4]; exact h17⟩ ?_
   rw [hbind fd h5 h10 h11 us hul,h7,h8,h9,h4,h12,h13]
   refine wpAny_pure (wpAny_newFunctionEnv S.nocell (fun y hy=>S.par _ (List.of_mem_zip hy).1) (fun h₁ hns hsb=>⟨lim.fresh _ hsb,codeAny_func ?_⟩) S.kind)
   have hk₁ : ∀ b o,s.heap.get? b=some o->h₁.get? b=some o:=fun b o e=>hsb.extBut b o (Nat.ne_of_lt (Heap.lt_size e)) (Heap.get?_push_of_some _ e)
   obtain ⟨tt,pt,rt⟩:=hbody f (.ref c) cl A outer s H (hr.deeper _)
   have hq:tt { nx:=fun _ H'=>Q .non H',rt:=Q } ((vs++xs).map some) H:=by
    cases hg:g ((as++caps).map Sl.v) with
    | none=>rw [hg] at hF; cases hF
    | some out =>
      rw [hg] at hF
      cases out with
      | rt r'=>cases hF; exact rt H H jI _ _ [] _ _ (ok_vals (ra.append rx)) hg fun v H' sm ro _=>q v H' sm ro
      | nx ds'=>cases hF; exact rt H H jI _ _ [] _ _ (ok_vals (ra.append rx)) hg fun σ' H' O' o'=>q .non H' o'.same .non
      | bk ds'=>cases hF
      | ct ds'=>cases hF
   refine wpAny_mono (pt [] _ _ H _ (inv_lam S hr.hd e0 hul rv e nd hco hns hk₁) hq) (fun fl s' hs=>?_) fun e s' hs=>False.elim hs
   cases fl with
   | ret u =>
     obtain ⟨v,σ',H',J,rv',q'⟩:=hs
     exact ⟨v,H',J.os,J.bare,J.base,J.hok,rv',q'⟩
   | next =>
     obtain ⟨σ',H',J,q'⟩:=hs
     exact ⟨V.non,H',J.os,J.bare,J.base,J.hok,rfl,q'⟩
   | brk =>
     obtain ⟨_,_,_,q⟩:=hs
     exact False.elim q
   | cont =>
     obtain ⟨_,_,_,q⟩:=hs
     exact False.elim q
 · cases hF
end FL
namespace FL
open PySem PySem.Spec PyProof.Rows L2
theorem turn_long {P:Program} {w:World} {K:PySem.W.Frag} {tg:Expr} (it:Addr) (lo:Int) (n:Nat):Turn P w K tg (Itr lo n) [it] it (fun i h=>IsLongIter h it (lo+(i:Nat) * 1) ((n:Int) - (i:Nat)) 1) where
 mem:=by simp
 obj:=fun i h st b hb=>by
  have e:b=it:=by simpa using hb
  subst e
  exact ⟨_,st,fun v z=>by
   have z':Data.fields _=Data.cell v:=z
   cases z'⟩
 keep:=fun i h h' st k=>k it (by simp) _ st
 item:=by
  intro X hP hw hK hc i pins s σ H E I hf st hg
  subst hP hw hK
  obtain ⟨f0,f1,f2,f3,f4,f5⟩:=hf it (by simp)
  have W:=Walks.longrange (prog:=X.prog) (w:=X.w) (I.ok.hd hc) it lo 1 n
  refine W.item i s _ _ hg st fun v h' tk hv st' kk=>?_
  obtain ⟨t,rfl⟩:=hv
  have I1:Inv X pins σ H { s with heap:=h',toks:=tk }:=I.turned (fun b o hb e=>kk b o (by simpa using hb) e) f0 f1 f3 f4 f5
  refine ⟨_,rfl,go_of (s:={ s with heap:=h',toks:=tk }) (n:="longrange_iterator") st' rfl rfl (by decide) ⟨.int (lo+i),H,I1,⟨t,?_⟩,⟨rfl,rfl⟩,st',fun b hb=>(hf b hb).1⟩⟩
  rw [Int.mul_one]
 done:=by
  intro X hP hw hK hc i pins s σ H E I hf st hg
  subst hP hw hK
  obtain ⟨f0,f1,f2,f3,f4,f5⟩:=hf it (by simp)
  exact wpAny_pyNext_long_end (I.ok.hd hc) st (by have:n<=i:=hg; omega) fun h' eb=>⟨rfl,I.turned (t':=s.toks) (fun b o hb e=>eb b o hb e) f0 f1 f3 f4 f5⟩
 self:=fun _ _ _ _ _ st h=>wpAny_pyIter_longiter st h
section
variable {X:Cx} {tg:Expr}
theorem range_itL {pins:List (Addr×Obj)} {σ : L2.St} {H:Hp} {s:Shared} {R:It->Hp->Prop} {E:Value->Shared->Prop} {lo hi:Int} {t u v:Tok} {tk:Nat} (I:Inv X pins σ H s)
  (q:R (Itr lo (hi - lo).toNat) H):wpAny (model X.prog X.w) X.A (pyIter (.ref s.heap.objs.size)) (PIE X pins σ tg R) E { s with heap:=s.heap.push { cls:=.type "range",data:=.fields #[.int lo t,.int hi u,.int 1 v] },toks:=tk }:=by
 have I1:Inv X pins σ H { s with heap:=s.heap.push { cls:=.type "range",data:=.fields #[.int lo t,.int hi u,.int 1 v] },toks:=tk }:=I.kept fun b o e=>Heap.get?_push_of_some _ e
 have e1:lo+((0:Nat):Int) * 1=lo:=by simp
 have e2:(((hi - lo).toNat:Nat):Int) - ((0:Nat):Int)=Builtin.Range.rangeSize lo hi 1:=by rw [rangeSize_one]; split <;> omega
 cases hs:Builtin.Range.small lo hi 1 with
 | true =>
   refine wpAny_pyIter_range (IsRange.new ..) hs ?_
   refine ⟨(s.heap.push { cls:=.type "range",data:=.fields #[.int lo t,.int hi u,.int 1 v] }).objs.size,[(s.heap.push { cls:=.type "range",data:=.fields #[.int lo t,.int hi u,.int 1 v] }).objs.size],_,_,H,rfl,
    I1.kept (t':=tk) fun b o e=>Heap.get?_push_of_some _ e,turn_range _ lo (hi - lo).toNat,?_,fun b hb=>?_,q⟩
   · show IsRangeIter _ _ (lo + ((0 : Nat) : Int) * 1) ((((hi - lo).toNat : Nat) : Int) - ((0 : Nat) : Int)) 1
     rw [e1,e2]
     exact Heap.get?_push_size _ rfl
   · have e : b = (s.heap.push { cls := .type "range", data := .fields #[.int lo t, .int hi u, .int 1 v] }).objs.size := by simpa using hb
     subst e
     exact I1.fpOk (Nat.le_refl _) (I1.hok.fresh (Nat.le_refl _))
 | false =>
   refine wpAny_pyIter_longrange (IsRange.new ..) hs ?_
   refine ⟨(s.heap.push { cls:=.type "range",data:=.fields #[.int lo t,.int hi u,.int 1 v] }).objs.size,[(s.heap.push { cls:=.type "range",data:=.fields #[.int lo t,.int hi u,.int 1 v] }).objs.size],_,_,H,rfl,
    I1.kept (t':=tk) fun b o e=>Heap.get?_push_of_some _ e,turn_long _ lo (hi - lo).toNat,?_,fun b hb=>?_,q⟩
   · show IsLongIter _ _ (lo + ((0 : Nat) : Int) * 1) ((((hi - lo).toNat : Nat) : Int) - ((0 : Nat) : Int)) 1
     rw [e1,e2]
     exact Heap.get?_push_size _ rfl
   · have e : b = (s.heap.push { cls := .type "range", data := .fields #[.int lo t, .int hi u, .int 1 v] }).objs.size := by simpa using hb
     subst e
     exact I1.fpOk (Nat.le_refl _) (I1.hok.fresh (Nat.le_refl _))
def iRngL (ta:TA):TI:=fun σ H R=>ta σ H fun vs H1=>∃ i j:Int,vs=[.int i,.int j]/\R (Itr i (j - i).toNat) H1
theorem pi_rangeL {a b:Expr} {ta:TA} {p pos:Pos} (hg:Gl X "range") (hm:X.mg "range" = none) (ha:PA X [a,b] ta) (hs:starEach [a,b] X.env=[(false,eval a X.env),(false,eval b X.env)]:=by rfl) (hs2:starEach [b] X.env=[(false,eval b X.env)]:=by rfl) :
  PI X tg (.Call (.Name "range" p) [a,b] [] pos) (iRngL ta):=by
 intro pins s σ H R I h
 refine Call_ (wJ I hg hm boot_range (PyProof.Rows.callWith_type1 (thn (ha pos pins s σ H _ I h) fun us s1 ⟨vs,H1,I1,r1,q1⟩=>?_) (by rw [hs,hs2]) (by rw [hs2]; rfl)))
 obtain ⟨i,j,e,q⟩:=q1
 subst e
 cases r1 with
 | cons r rr =>
   cases rr with
   | cons r' rr =>
     cases rr
     obtain ⟨t,rfl⟩:=r
     obtain ⟨t',rfl⟩:=r'
     exact call_range_2 (range_itL I1 q)
end
section
variable {X:Cx}
theorem piv_rangeL {tg a b:Expr} {p pos:Pos} {fa fb:FE} (hm:X.mg "range" = none) (ha:PVw X a fa) (hb:PVw X b fb) (hg:Gl X "range":=by rfl) (hs:starEach [a,b] X.env=[(false,eval a X.env),(false,eval b X.env)]:=by rfl) (hs2:starEach [b] X.env=[(false,eval b X.env)]:=by rfl) :
  PIv X tg (.Call (.Name "range" p) [a,b] [] pos) (rngL fa fb):=by
 obtain ⟨t,ht,hf⟩:=qH ha (qH hb jC (by rw [hs2]; rfl)) (by rw [hs,hs2])
 refine ⟨_,pi_rangeL hg hm ht hs hs2,fun H₀ H O σ ds hd items R o e q=>?_⟩
 unfold rngL at e
 cases h1:fa ds with
 | none=>rw [h1] at e; cases e
 | some dx =>
   cases h2:fb ds with
   | none=>rw [h1,h2] at e; cases e
   | some dy =>
     rw [h1,h2] at e
     simp only [Option.bind_some] at e
     cases dx <;> cases dy <;> first | (cases e; done) | skip
     rename_i i j
     cases e
     refine hf H₀ H O σ ds hd [.int i,.int j] _ o (by simp [zG,h1,h2,qC]) fun vs H' s r=>?_
     cases r with
     | cons r1 rr =>
       cases rr with
       | cons r2 rr =>
         cases rr
         exact ⟨i,j,by rw [r1.int',r2.int'],q _ (.non,.non) H' s .non vF⟩
theorem pss_any {st:List Stmt} : PSsAny X st:=⟨fun _ _ _=>False,fun _ _ _ _ _ _ h=>h.elim⟩
end
open PySem.W (tabIn CodeHd)
section
variable {X:Cx}
theorem psv_tryN {st b₀ : Stmt} {suite:List Stmt} {sx:Str} {hp hpos pos:Pos} {t:Nat} {C S:Addr} {g h:FS} {x:List Sl->Bool}
  (hm:X.mg sx=some (.ref S)) (hS:XCatch X.K C S) (hg:∀ W,PSv (X.wish W) st g) (hx:∀ W,Throws (X.wish W) C st x) (hs:∀ ea xe,PSsv (suiteCx X ea xe) (b₀::suite) h)
  (hst:X.stack=X.env::X.outer:=by rfl) (hfr:X.env.frame=some X.env.locals:=by rfl) (hgS:Gl X sx:=by rfl) (hdb:(sx == ("__debug__" : Str))=false:=by decide) :
  PSv X (.Try [st] [.ExceptHandler (some (.Name sx hp)) none (b₀::suite) hpos] [] [] pos) (tryNG g x h):=by
 refine ⟨fun D σ H=>∀ pins s,Inv X pins σ H s->wpAny (model X.prog X.w) X.A (exec (.Try [st] [.ExceptHandler (some (.Name sx hp)) none (b₀::suite) hpos] [] [] pos) X.env) (SP X pins D) X.xe s,
  fun pins s σ H D I h=>h pins s I,fun H₀ H O σ ds hd out D o e af pins s I=>?_⟩
 refine wpAny_Try_except (wpAny_execs_cons ?_)
 show wpAny _ _ _ _ (tryE X pins D [.ExceptHandler (some (.Name sx hp)) none (b₀::suite) hpos]) s
 unfold tryNG at e
 by_cases hxd:x ds=true
 · rw [if_pos hxd] at e
   refine wpAny_mono (hx (tryE X pins D [.ExceptHandler (some (.Name sx hp)) none (b₀::suite) hpos]) pins s σ H H₀ O ds hd (I.wish _) o hxd ?_) (fun _ _ z=>z.elim) (fun _ _ z=>z)
   intro ea a0 B H1 H' s1 s' I1 m1 m2 T os bare
   have I1':Inv X pins σ H1 s1:=I1.unwish
   have T:Thrown X.prog X.w X.stack H1 s1 (.ref C) ea a0 B H' s'.heap:=T
   show wpAny _ _ (noteFrame _ _) _ _ _
   have hA:X.A.frames=some (X.env::X.outer):=by rw [<- hst]; exact I.ok.frames
   refine wpAny_looks_onW hA hfr (by rw [<- hst]; exact T.fly) fun h₄ held₄ sm₄=>?_
   refine wpAny_landsW held₄ fun h₅ fly₅ sm₅=>?_
   have T5:=T.on (h':=h₅) (by rw [hst]; exact fly₅) (sm₄.trans sm₅)
   have I5:Inv X pins σ H' { s' with heap:=h₅ }:=I1'.call' (ch:=[]) os T5.un T5.hokh bare (fun b z=>by cases z)
   obtain ⟨ap5,ob,hob,hobc,hobd⟩:=fly_apart T5.fly
   refine wpAny_handleBy_cons (codeAny_handlers_test ?_) (by intro q; cases q)
   refine wV (X:=suiteCx X ea X.xe) (inv_suite I5) hgS hm ?_ hdb
   refine x_matches (K:=X.K) I5.kIn hob hobc hS ?_
   refine codeAny_handlers_suite ?_
   refine lands_againW (s:={ s' with heap:=h₅ }) fly₅ fun h₆ fly₆ sm₆=>?_
   have T6:=T5.on (h':=h₆) (by rw [hst]; exact fly₆) sm₆
   have I6:Inv X pins σ H' { s' with heap:=h₆ }:=I1'.call' (ch:=[]) os T6.un T6.hokh bare (fun b z=>by cases z)
   refine run_suite (fun xe=>hs ea xe) (inv_suite (xe:=X.xe) I6) (o.mono (m1.trans m2)) e af fun f s8 h8=>?_
   cases f with
   | next=>obtain ⟨σ',H8,I8,q⟩:=h8; exact ⟨σ',H8,yP I8 I.ok.hd,q⟩
   | brk=>obtain ⟨σ',H8,I8,q⟩:=h8; exact ⟨σ',H8,yP I8 I.ok.hd,q⟩
   | cont=>obtain ⟨σ',H8,I8,q⟩:=h8; exact ⟨σ',H8,yP I8 I.ok.hd,q⟩
   | ret u=>obtain ⟨v,σ',H8,I8,r,q⟩:=h8; exact ⟨v,σ',H8,yP I8 I.ok.hd,r,q⟩
 · rw [if_neg hxd] at e
   obtain ⟨t,ht,hf⟩:=hg (tryE X pins D [.ExceptHandler (some (.Name sx hp)) none (b₀::suite) hpos])
   refine wpAny_mono (ht pins s σ H D (I.wish _) (hf H₀ H O σ ds hd out D o e af)) (fun f s1 q=>?_) (fun _ _ z=>z)
   have q':=q.unwish
   cases f with
   | next=>exact wpAny_execs_nil (wpAny_execs_nil q')
   | brk=>exact q'
   | cont=>exact q'
   | ret u=>exact q'
end
section
variable {X:Cx} {E:XK} {C:Addr}
end
section
variable {X:Cx} {k j:Nat} {n:Nat} {F:List D->Option Ret} {x:Str} {p pos:Pos} {e:Expr} {es:List Expr} {g:FA}
theorem pvd_callC (C:Cal X.prog X.w X.K X.mg X.base x k n F) (hr:Room j X.A) (ha:PAn X (e::es) g) (hj:k<=j:=by decide)
  (hg:Gl X x:=by rfl) (hdb:(x == ("__debug__" : Str))=false:=by decide) (he:starEach (e::es) X.env=(false,eval e X.env)::starEach es X.env:=by rfl) (hpl:(backTo pos (starEach es X.env)).any (·.1)=false:=by rfl) :
  PVd X (.Call (.Name x p) (e::es) [] pos) (qF n F g):=by
 obtain ⟨f,fd,ps,Fn,hb,hk,hm⟩:=C.ex
 obtain ⟨t,ht,hf⟩:=ha
 refine ⟨_,pe_call (CX:=CX0) (E:=E0) Fn (hr.mono hj) hg hm hk hb .nil pass0 ht hdb he hpl,fun H₀ H O σ ds hd d Q o e q=>?_⟩
 unfold qF at e
 cases h:g ds with
 | none=>rw [h] at e; cases e
 | some l =>
   rw [h] at e
   simp only [Option.bind_some] at e
   split at e
   · rename_i hln
     cases h2:F l with
     | none=>rw [h2] at e; cases e
     | some r =>
       rw [h2] at e
       simp only [Option.bind_some] at e
       refine hf H₀ H O σ ds hd l _ o h fun vs H1 s1 r1=>?_
       have hl:=r1.length
       refine ⟨by simp only [List.append_nil]; omega,l,r,by simpa using r1,h2,fun v H' s' ro=>q v H' (s1.trans s') ?_⟩
       exact retV_ok ro e fun a ha=>Old.mono s1 ha
   · cases e
end
end FL
namespace FL
open PySem PySem.Spec PyProof.Rows L2
section
variable {M:Model} {A:Around} {E:Value->Shared->Prop} {s:Shared} {base:Heap} {l:List Env} {e L:Addr} {cls a0:Value}
end
section
variable {X:Cx} {E:XK} {C:Addr}
end
section
variable {X:Cx} {E:XK} {C:Addr}
end
end FL
namespace L2
open PySem PySem.Spec PyProof.Rows
section
variable {X:Cx}
end
end L2
namespace FL
open PySem PySem.Spec PyProof.Rows L2
section
variable {X:Cx} {E:XK} {C:Addr}
end
section
variable {X:Cx}
end
end FL
namespace L2
open PySem PySem.Spec PyProof.Rows
open Builtin Builtin.Str
section
variable {X:Cx}
end
end L2
namespace FL
open PySem PySem.Spec PyProof.Rows L2
section
variable {X:Cx}
section
variable {o e:Expr} {apos cpos:Pos} {f g:FE} {name:Str} {id:String}
end
end
section
variable {X:Cx} {E:XK} {C:Addr}
theorem pe_or {e:Expr} {t u:TE} (h1:PE X e t) (h2:PE X e u):PE X e (fun σ H Q=>t σ H Q \/ u σ H Q):=fun pins s σ H Q I h=>h.elim (h1 pins s σ H Q I) (h2 pins s σ H Q I)
section
variable {x:Str} {p pos:Pos} {e:Expr} {t k j:Nat} {G:List D->Option (List D)} {y:List Sl->Bool}
end
end
end FL
namespace L2
open PySem PySem.Spec PyProof.Rows
section
variable {prog:Program} {w:World} {A:Around} {E:Value->Shared->Prop} {s:Shared}
end
section
variable {X:Cx} {pos:Pos}
end
end L2
namespace FL
open PySem PySem.Spec PyProof.Rows L2
section
variable {X:Cx}
end
section
variable {K:Frag} {H H' H₀ : Hp} {O O':Addr->Prop}
abbrev orL (fs:List Addr) (O:Addr->Prop):Addr->Prop:=fun b=>b∈fs \/ O b
theorem Rep.moreL {v:V} {d:D} : ∀ {ps:List Addr},(∀ p∈ps,H p=none)->Rep K H O v d->Rep K H (orL ps O) v d
 | [],_,h=>h.less fun a z=>z.elim (fun q=>nomatch q) id
 | p::ps,hp,h=>((Rep.moreL (ps:=ps) (fun q hq=>hp q (.tail _ hq)) h).more (p:=p) (hp p (.head _))).less fun a z=>z.elim (fun q=>(List.mem_cons.mp q).elim .inl fun q=>.inr (.inl q)) fun q=>.inr (.inr q)
theorem Reps.moreL {v:List V} {d:List D} : ∀ {ps:List Addr},(∀ p∈ps,H p=none)->Reps K H O v d->Reps K H (orL ps O) v d
 | [],_,h=>h.less fun a z=>z.elim (fun q=>nomatch q) id
 | p::ps,hp,h=>((Reps.moreL (ps:=ps) (fun q hq=>hp q (.tail _ hq)) h).more (p:=p) (hp p (.head _))).less fun a z=>z.elim (fun q=>(List.mem_cons.mp q).elim .inl fun q=>.inr (.inl q)) fun q=>.inr (.inr q)
theorem RepO.moreL {v:V} {t:OT} {fs:List Addr} : ∀ {ps:List Addr},(∀ p∈ps,H p=none)->RepO K H O v t fs->RepO K H (orL ps O) v t fs
 | [],_,h=>h.less (fun a z=>z.elim (fun q=>nomatch q) id) fun b hb=>.inr (h.owns b hb).1
 | p::ps,hp,h=>((RepO.moreL (ps:=ps) (fun q hq=>hp q (.tail _ hq)) h).more (p:=p) (hp p (.head _))).less (fun a z=>z.elim (fun q=>(List.mem_cons.mp q).elim .inl fun q=>.inr (.inl q)) fun q=>.inr (.inr q)) fun b hb=>.inr (h.owns b hb).1
theorem Ok.moreL {σ : L2.St} {ds:List Sl} {hd:Hold} {fs:List Addr} (o:Ok K H₀ H O σ ds hd) (s:Same H H') (hn:∀ b∈fs,H b=none) (hl:∀ b∈fs,∃ xs,H' b=some (.lst xs)):Ok K H₀ H' (orL fs O) σ ds hd:=by
 refine ⟨o.same.trans s,o.fresh,fun b hb=>hb.elim (hl b) fun z=>let ⟨xs,e⟩:=o.dom b z; ⟨xs,s _ _ e⟩,o.len,fun i sl e=>?_,o.apart,fun p hp=>?_,o.obs.tr (fun _ _ _ r _=>(r.moreL hn).mono s) (fun _ _ _ e=>⟨e,rfl⟩) fun _ _ oj ej=>.inl ⟨oj,ej⟩⟩
 · cases sl with
   | no=>exact yF
   | ob r t=>exact wC
   | exc t =>
     obtain ⟨a',C',ob',u',q1,q2,q3,q4⟩:=o.readX e
     rw [q1]
     exact ⟨C',ob',u',q2,s _ _ q3,q4⟩
   | fr l' =>
     obtain ⟨a',xs',q1,q2,q0,q3,q4⟩:=o.readF e
     rw [q1]
     exact ⟨fun z=>z.elim (fun z=>by rw [hn _ z] at q3; cases q3) q2,q0,xs',s _ _ q3,(q4.moreL hn).mono s⟩
   | v d =>
     obtain ⟨v,h1,h2⟩:=o.read e
     rw [h1]
     exact wI ((h2.moreL hn).mono s)
   | own l' =>
     obtain ⟨b,ys,h1,h2,h3,h4⟩:=o.readO e
     rw [h1]
     exact ⟨.inr h2,ys,s _ _ h3,(h4.moreL hn).mono s⟩
 · have := o.hold p hp
   cases p with
   | rep v d=>exact (Rep.moreL hn this).mono s
   | base B=>exact fun b hb=>⟨.inr (this b hb).1,(this b hb).2⟩
theorem Ok.setOb {σ : L2.St} {ds:List Sl} {hd:Hold} {fs:List Addr} {i:Nat} {v:V} {t:OT} (o:Ok K H₀ H O σ ds hd) (s:Same H H') (r:RepO K H' (orL fs O) v t fs) (nd:fs.Nodup) (hn:∀ b∈fs,H b=none) :
  Ok K H₀ H' (orL fs O) (σ.set i (some v)) (ds.set i (.ob none t)) hd:=by
 have o1:Ok K H₀ H' (orL fs O) σ ds hd:=o.moreL s hn fun b hb=>(r.owns b hb).2
 have own':∀ {j:Nat},IsOwn (ds.set i (.ob none t)) j->IsOwn ds j/\j≠i:=fun h=>own_set (fun l=>by intro z; cases z) h
 refine ⟨o1.same,fun j l a e1 e2=>?_,o1.dom,by simpa using o1.len,fun j sl e=>?_,fun j k a hjk hj hk e1 e2=>?_,o1.hold,?_⟩
 · obtain ⟨⟨l', e'⟩, n1⟩ := own' ⟨l, e1⟩
   rw [List.getElem?_set_ne (Ne.symm n1)] at e2
   exact o1.fresh j l' a e' e2
 · by_cases hj : j = i
   · subst hj
     by_cases hl:j < ds.length
     · rw [List.getElem?_set_self hl] at e
       cases e
       exact wC
     · rw [List.getElem?_eq_none (by simpa using hl)] at e; cases e
   · rw [List.getElem?_set_ne (Ne.symm hj)] at e
     rw [List.getElem?_set_ne (Ne.symm hj)]
     exact o1.sl j sl e
 · obtain ⟨h1, n1⟩ := own' hj
   obtain ⟨h2,n2⟩:=own' hk
   rw [List.getElem?_set_ne (Ne.symm n1)] at e1
   rw [List.getElem?_set_ne (Ne.symm n2)] at e2
   exact o1.apart j k a hjk h1 h2 e1 e2
 · obtain ⟨F, hF⟩ := o.obs
   have ne:∀ {j:Nat} {r':Option Nat} {t':OT},ds[j]? = some (.ob r' t')->∀ b∈F j,b ∉ fs:=fun {j r' t'} e b hb z=>by
    obtain ⟨w,_,q,_⟩:=hF j r' t' e
    obtain ⟨_,xs,ex⟩:=q.owns b hb
    rw [hn b z] at ex; cases ex
   refine ⟨fun j=>if j=i then fs else F j,fun j r' t' e=>?_⟩
   by_cases hj:j=i
   · subst hj
     by_cases hl:j < ds.length
     · rw [List.getElem?_set_self hl] at e
       cases e
       refine ⟨v,by rw [List.getElem?_set_self (by rw [o.len]; exact hl)],by simpa using r,(fun a z=>by cases z),by simpa using nd,fun b hb=>?_⟩
       have hb:b∈fs:=by simpa using hb
       refine ⟨o.same.free (hn b hb),fun k r2 t2 hk e2 z=>?_,fun k ok ek=>?_⟩
       · simp only [hk, if_false] at z
         rw [List.getElem?_set_ne (Ne.symm hk)] at e2
         exact ne e2 b z hb
       · obtain ⟨⟨l2, e2⟩, hk⟩ := own' ok
         rw [List.getElem?_set_ne (Ne.symm hk)] at ek
         obtain ⟨b',ys,q1,_,q3,_⟩:=o.readO e2
         rw [ek] at q1; cases q1
         rw [hn b hb] at q3; cases q3
     · rw [List.getElem?_eq_none (by simpa using hl)] at e; cases e
   · rw [List.getElem?_set_ne (Ne.symm hj)] at e
     obtain ⟨w,h1,h2,h3,h4,h5⟩:=hF j r' t' e
     refine ⟨w,by rw [List.getElem?_set_ne (Ne.symm hj)]; exact h1,by simp only [hj,if_false]; exact (h2.moreL hn).mono s,h3,by simpa [hj] using h4,fun b hb=>?_⟩
     have hb:b∈F j:=by simpa [hj] using hb
     refine ⟨(h5 b hb).1,fun k r2 t2 hk e2 z=>?_,fun k ok ek=>?_⟩
     · by_cases hki : k = i
       · simp only [hki, if_true] at z
         exact ne e b hb z
       · simp only [hki, if_false] at z
         rw [List.getElem?_set_ne (Ne.symm hki)] at e2
         exact (h5 b hb).2.1 k r2 t2 hk e2 z
     · obtain ⟨ok', hk⟩ := own' ok
       rw [List.getElem?_set_ne (Ne.symm hk)] at ek
       exact (h5 b hb).2.2 k ok' ek
def PathV (H:Hp):V->List Nat->V->Prop
 | v,[],w=>w=v
 | v,k::p,w=>∃ b xs x,v = .ref b/\(Rd H b (.tup xs) \/ H b=some (.lst xs))/\xs[k]? = some x/\PathV H x p w
theorem pathV_snoc:∀ {p:List Nat} {k:Nat} {v x:V},PathV H v (p++[k]) x->∃ b xs,PathV H v p (.ref b)/\(Rd H b (.tup xs) \/ H b=some (.lst xs))/\xs[k]? = some x
 | [],k,v,x,⟨b,xs,y,h1,h2,h3,h4⟩=>⟨b,xs,h1.symm,h2,by rw [h3]; exact congrArg some h4.symm⟩
 | j :: p, k, v, x, ⟨b, xs, y, h1, h2, h3, h4⟩ => by
   obtain ⟨c,ys,g1,g2,g3⟩:=pathV_snoc h4
   exact ⟨c,ys,⟨b,xs,y,h1,h2,h3,g1⟩,g2,g3⟩
theorem RepsO.length:∀ {xs:List V} {ts:List OT} {fs:List Addr},RepsO K H O xs ts fs->xs.length=ts.length
 | _,_,_,.nil=>rfl
 | _,_,_,.cons _ r=>by simp [RepsO.length r]
theorem RepsO.pick:∀ {xs:List V} {ts:List OT} {fs:List Addr} {k:Nat} {t:OT},RepsO K H O xs ts fs->ts[k]? = some t->∃ (x:V) (pre f post:List Addr),xs[k]? = some x/\fs=pre++(f++post)/\RepO K H O x t f ∧
  ∀ {H':Hp} {g:OT->OT} {f':List Addr},RepO K H' O x (g t) f'->(∀ y s e,RepO K H O y s e->(∀ b∈e,b∈pre \/ b∈post)->RepO K H' O y s e)->RepsO K H' O xs (ts.modify k g) (pre++(f'++post))
 | _, _, _, 0, t, .cons (x := x) (fs := f) (gs := gs) h r, e => by
   simp only [List.getElem?_cons_zero,Option.some.injEq] at e
   subst e
   refine ⟨x,[],f,gs,rfl,rfl,h,fun {H' g f'} h' ho=>?_⟩
   have:∀ {xs:List V} {ts:List OT} {gs':List Addr},RepsO K H O xs ts gs'->(∀ b∈gs',b∈gs)->RepsO K H' O xs ts gs':=by
    intro xs ts gs' h
    induction xs generalizing ts gs' with
    | nil=>intro _; cases h; exact .nil
    | cons y ys ih =>
      intro hb
      cases h with
      | cons h1 h2=>exact .cons (ho _ _ _ h1 fun b z=>.inr (hb b (List.mem_append_left _ z))) (ih h2 fun b z=>hb b (List.mem_append_right _ z))
   show RepsO K H' O _ _ (f'++gs)
   exact .cons h' (this r fun _ z=>z)
 | _, _, _, k + 1, t, .cons (x := x) (t := t0) (fs := f0) (gs := gs) h r, e => by
   obtain ⟨y,pre,f,post,h1,h2,h3,h4⟩:=RepsO.pick (k:=k) (t:=t) r (by simpa using e)
   refine ⟨y,f0++pre,f,post,by simpa using h1,by rw [h2]; simp,h3,fun {H' g f'} h' ho=>?_⟩
   have q:=h4 h' fun z s e' hz hb=>ho z s e' hz fun b hb'=>(hb b hb').elim (fun z=>.inl (List.mem_append_right _ z)) .inr
   have:=RepsO.cons (ho _ _ _ h fun b hb=>.inl (List.mem_append_left _ hb)) q
   simpa [List.append_assoc] using this
theorem nodup_mid {pre f post:List Addr} (nd:(pre++(f++post)).Nodup):f.Nodup/\(∀ b∈f,b ∉ pre/\b ∉ post)/\∀ f':List Addr,f'.Nodup->(∀ b∈f',b∈f)->(pre++(f'++post)).Nodup:=by
 rw [List.nodup_append] at nd
 obtain ⟨n1,n2,n3⟩:=nd
 rw [List.nodup_append] at n2
 obtain ⟨n4,n5,n6⟩:=n2
 refine ⟨n4,fun b hb=>⟨fun z=>n3 b z b (List.mem_append_left _ hb) rfl,fun z=>n6 b hb b z rfl⟩,fun f' hf hs=>?_⟩
 rw [List.nodup_append]
 refine ⟨n1,?_,fun a ha b hb=>?_⟩
 · rw [List.nodup_append]
   exact ⟨hf,n5,fun a ha b hb=>n6 a (hs a ha) b hb⟩
 · rcases List.mem_append.mp hb with z | z
   · exact n3 a ha b (List.mem_append_left _ (hs b z))
   · exact n3 a ha b (List.mem_append_right _ z)
theorem RepO.clear:∀ (p:List Nat) {v:V} {t u:OT} {fs:List Addr},RepO K H O v t fs->fs.Nodup->subO p t=some u->isL u=true->∃ a xs,PathV H v p (.ref a)/\a∈fs/\H a=some (.lst xs) ∧
  ∃ fs',RepO K (upd H a (.lst [])) O v (clrT p t) fs'/\fs'.Nodup/\∀ b∈fs',b∈fs
 | [], v, t, u, fs, r, nd, e, hu => by
   cases e
   cases r with
   | val r=>cases hu
   | tup n h r=>cases hu
   | lst n h r=>exact ⟨_,_,rfl,.head _,h,[_],.lst n qK .nil,by simp,fun b hb=>by rw [List.mem_singleton.mp hb]; exact .head _⟩
 | k :: p, v, t, u, fs, r, nd, e, hu => by
   have sib:∀ {a:Addr} {xs:List V},O a->H a=some (.lst xs)->∀ {pre post:List Addr},a ∉ pre->a ∉ post->∀ y s e,RepO K H O y s e->(∀ b∈e,b∈pre \/ b∈post)->RepO K (upd H a (.lst [])) O y s e:=fun {a xs} ha hx {pre post} n1 n2 y s e hy hb =>
    hy.keep (fun b u hb' eb=>by rw [qA (fun (z:b=a)=>hb' (z.symm ▸ ha))]; exact eb) fun b hb' u eb=>by
     rw [qA (fun (z:b=a)=>(hb b hb').elim (fun q=>n1 (by rw [<- z]; exact q)) fun q=>n2 (by rw [<- z]; exact q))]
     exact eb
   cases r with
   | val r=>simp [subO] at e
   | tup n h r =>
     rename_i a0 xs0 ts0
     simp only [subO] at e
     cases ht:ts0[k]? with
     | none=>rw [ht] at e; cases e
     | some t1 =>
       rw [ht] at e
       obtain ⟨x,pre,f,post,h1,rfl,h3,h4⟩:=r.pick ht
       obtain ⟨nf,nfr,nre⟩:=nodup_mid nd
       obtain ⟨a,xs,g1,g2,g3,f',g4,g5,g6⟩:=RepO.clear p h3 nf e hu
       have ha:=(h3.owns a g2).1
       refine ⟨a,xs,⟨a0,xs0,x,rfl,.inl h,h1,g1⟩,List.mem_append_right _ (List.mem_append_left _ g2),g3,pre++(f'++post),?_,nre f' g5 g6,fun b hb=>?_⟩
       · have q := h4 (g := clrT p) g4 (sib ha g3 (nfr a g2).1 (nfr a g2).2)
         have kk:Keep O H (upd H a (.lst [])):=fun b u hb' eb=>by rw [qA (fun (z:b=a)=>hb' (z.symm ▸ ha))]; exact eb
         exact .tup n (kk.rd n h) q
       · rcases List.mem_append.mp hb with z | z
         · exact List.mem_append_left _ z
         · rcases List.mem_append.mp z with z | z
           · exact List.mem_append_right _ (List.mem_append_left _ (g6 b z))
           · exact List.mem_append_right _ (List.mem_append_right _ z)
   | lst n h r =>
     rename_i a0 xs0 ts0 fs0
     simp only [subO] at e
     cases ht:ts0[k]? with
     | none=>rw [ht] at e; cases e
     | some t1 =>
       rw [ht] at e
       obtain ⟨x,pre,f,post,h1,rfl,h3,h4⟩:=r.pick ht
       obtain ⟨n0,nd1⟩:=List.nodup_cons.mp nd
       obtain ⟨nf,nfr,nre⟩:=nodup_mid nd1
       obtain ⟨a,xs,g1,g2,g3,f',g4,g5,g6⟩:=RepO.clear p h3 nf e hu
       have ha:=(h3.owns a g2).1
       have sub:∀ b∈pre++(f'++post),b∈pre++(f++post):=fun b hb=>by
        rcases List.mem_append.mp hb with z | z
        · exact List.mem_append_left _ z
        · rcases List.mem_append.mp z with z | z
          · exact List.mem_append_right _ (List.mem_append_left _ (g6 b z))
          · exact List.mem_append_right _ (List.mem_append_right _ z)
       have ne:a0≠a:=fun z=>n0 (by rw [z]; exact List.mem_append_right _ (List.mem_append_left _ g2))
       refine ⟨a,xs,⟨a0,xs0,x,rfl,.inr h,h1,g1⟩,.tail _ (List.mem_append_right _ (List.mem_append_left _ g2)),g3,a0::(pre++(f'++post)),?_,List.nodup_cons.mpr ⟨fun z=>n0 (sub _ z),nre f' g5 g6⟩,fun b hb=>?_⟩
       · have q := h4 (g := clrT p) g4 (sib ha g3 (nfr a g2).1 (nfr a g2).2)
         exact .lst n (by rw [qA ne]; exact h) q
       · rcases List.mem_cons.mp hb with rfl | z
         · exact .head _
         · exact .tail _ (sub b z)
theorem Ok.clearAt {σ : L2.St} {ds:List Sl} {hd:Hold} {i:Nat} {r:Option Nat} {t u:OT} {p:List Nat} (o:Ok K H₀ H O σ ds hd) (e:ds[i]? = some (.ob r t)) (hs:subO p t=some u) (hu:isL u=true) :
  ∃ v a xs,σ[i]? = some (some v)/\PathV H v p (.ref a)/\H a=some (.lst xs)/\Ok K H₀ (upd H a (.lst [])) O σ (ds.set i (.ob r (clrT p t))) hd:=by
 obtain ⟨F,hF⟩:=o.obs
 obtain ⟨v,h1,h2,h3,h4,h5⟩:=hF i r t e
 obtain ⟨a,xs,g1,g2,g3,fs',g4,g5,g6⟩:=h2.clear p h4 hs hu
 have ha:=(h2.owns a g2).1
 have hl:i < ds.length:=(List.getElem?_eq_some_iff.mp e).1
 have k:Keep O H (upd H a (.lst [])):=fun b u hb eb=>by rw [qA (fun (z:b=a)=>hb (z.symm ▸ ha))]; exact eb
 have own':∀ {j:Nat},IsOwn (ds.set i (.ob r (clrT p t))) j->IsOwn ds j/\j≠i:=fun h=>own_set (fun l=>by intro z; cases z) h
 refine ⟨v,a,xs,h1,g1,g3,fun b u eb=>?_,fun j l b e1 e2=>?_,fun b hb=>?_,by simpa using o.len,fun j sl es=>?_,fun j m b hjm hj hm e1 e2=>o.apart j m b hjm (own' hj).1 (own' hm).1 e1 e2,fun q hq=>(o.hold q hq).keep k,?_⟩
 · rw [qA (fun z => by rw [z, (h5 a g2).1] at eb; cases eb)]
   exact o.same b u eb
 · obtain ⟨⟨l', e'⟩, _⟩ := own' ⟨l, e1⟩
   exact o.fresh j l' b e' e2
 · by_cases hba : b = a
   · subst hba; exact ⟨[],qK⟩
   · rw [qA hba]; exact o.dom b hb
 · by_cases hj : j = i
   · subst hj
     rw [List.getElem?_set_self hl] at es
     cases es
     exact wC
   · rw [List.getElem?_set_ne (Ne.symm hj)] at es
     cases sl with
     | no=>exact yF
     | ob r t=>exact wC
     | exc t =>
       obtain ⟨a',C',ob',u',q1,q2,q3,q4⟩:=o.readX es
       rw [q1]
       exact ⟨C',ob',u',q2,by rw [qA (fun z=>by rw [z,g3] at q3; cases q3)]; exact q3,q4⟩
     | fr l' =>
       obtain ⟨a',xs'',q1,q2,q0,q3,q4⟩:=o.readF es
       rw [q1]
       exact ⟨q2,q0,xs'',by rw [qA (fun z=>q2 (by rw [z]; exact ha))]; exact q3,q4.keep k⟩
     | v d =>
       obtain ⟨v,q1,q2⟩:=o.read es
       rw [q1]
       exact wI (q2.keep k)
     | own l'' =>
       obtain ⟨b,ys,q1,q2,q3,q4⟩:=o.readO es
       rw [q1]
       refine ⟨q2,ys,?_,q4.keep k⟩
       rw [qA (fun z=>(h5 a g2).2.2 j ⟨l'',es⟩ (by rw [<- z]; exact q1))]
       exact q3
 · refine ⟨fun j => if j = i then fs' else F j, fun j r' t' ej => ?_⟩
   by_cases hj:j=i
   · subst hj
     rw [List.getElem?_set_self hl] at ej
     cases ej
     refine ⟨v,h1,by simpa using g4,h3,by simpa using g5,fun b hb=>?_⟩
     have hb:b∈F j:=g6 b (by simpa using hb)
     refine ⟨(h5 b hb).1,fun m r2 t2 hm e2 z=>?_,fun m om em=>(h5 b hb).2.2 m (own' om).1 em⟩
     simp only [hm,if_false] at z
     rw [List.getElem?_set_ne (Ne.symm hm)] at e2
     exact (h5 b hb).2.1 m r2 t2 hm e2 z
   · rw [List.getElem?_set_ne (Ne.symm hj)] at ej
     obtain ⟨w,q1,q2,q3,q4,q5⟩:=hF j r' t' ej
     have na:a ∉ F j:=(h5 a g2).2.1 j r' t' hj ej
     refine ⟨w,q1,by simp only [hj,if_false]; exact q2.keep k fun b hb u eb=>by rw [qA (fun (z:b=a)=>na (by rw [<- z]; exact hb))]; exact eb,q3,by simpa [hj] using q4,fun b hb=>?_⟩
     have hb:b∈F j:=by simpa [hj] using hb
     refine ⟨(q5 b hb).1,fun m r2 t2 hm e2 z=>?_,fun m om em=>(q5 b hb).2.2 m (own' om).1 em⟩
     by_cases hmi:m=i
     · simp only [hmi, if_true] at z
       exact (q5 b hb).2.1 i r t (fun z=>hj z.symm) e (g6 b z)
     · simp only [hmi, if_false] at z
       rw [List.getElem?_set_ne (Ne.symm hmi)] at e2
       exact (q5 b hb).2.1 m r2 t2 hm e2 z
end
section
variable (X:Cx)
def PVo (e:Expr) (f:FO):Prop:=∃ t,PE X e t/\∀ H₀ H O σ ds hd T Q,Ok X.K H₀ H O σ ds hd->f ds=some T->(∀ v H' fs,Same H H'->RepO X.K H' (orL fs O) v T fs->fs.Nodup->(∀ b∈fs,H b=none)->Q v H')->t σ H Q
def PAo (es:List Expr) (f:FOs):Prop:=∃ t,PA X es t/\∀ H₀ H O σ ds hd T Q,Ok X.K H₀ H O σ ds hd->f ds=some T->(∀ vs H' fs,Same H H'->RepsO X.K H' (orL fs O) vs T fs->fs.Nodup->(∀ b∈fs,H b=none)->Q vs H')->t σ H Q
def PVp (e:Expr) (i:Nat) (p:List Nat):Prop:=∃ t,PE X e t/\∀ σ H v w Q,σ[i]? = some (some v)->PathV H v p w->Q w H->t σ H Q
end
section
variable {X:Cx}
theorem repsO_vals {K:Frag} {H:Hp} {O:Addr->Prop} : ∀ {xs:List V} {l:List D},Reps K H O xs l->RepsO K H O xs (l.map OT.val) []
 | _,_,.nil=>.nil
 | _,_,.cons h t=>.cons (fs:=[]) (gs:=[]) (.val h) (repsO_vals t)
theorem pvo_v {e:Expr} {f:FE} (h:PV X e f):PVo X e (vO f):=by
 obtain ⟨t,ht,hf⟩:=h
 refine ⟨t,ht,fun H₀ H O σ ds hd T Q o e q=>?_⟩
 unfold vO at e
 cases h1:f ds with
 | none=>rw [h1] at e; cases e
 | some d =>
   rw [h1] at e
   cases e
   exact hf H₀ H O σ ds hd d Q o h1 fun v H' s r=>q v H' [] s (.val (r.less fun a z=>z.elim (fun q=>nomatch q) id)) .nil (fun b hb=>nomatch hb)
theorem pvo_l {e:Expr} {f:FA} (h:PVf X e f):PVo X e (lO f):=by
 obtain ⟨t,ht,hf⟩:=h
 refine ⟨t,ht,fun H₀ H O σ ds hd T Q o e q=>?_⟩
 unfold lO at e
 cases h1:f ds with
 | none=>rw [h1] at e; cases e
 | some l =>
   rw [h1] at e
   cases e
   refine hf H₀ H O σ ds hd l Q o h1 fun a xs H' s hn he r=>q (.ref a) H' [a] s ?_ (by simp) fun b hb=>by rw [List.mem_singleton.mp hb]; exact hn
   exact .lst (.inl (.head _)) he (repsO_vals (r.less fun b z=>z.elim (fun q=>.inl (List.mem_singleton.mp q)) .inr))
theorem pao_nil:PAo X [] nilO:=⟨_,xO,fun _ H _ _ _ _ _ _ _ e q=>by cases e; exact q [] H [] (Same.refl _) .nil .nil (fun b hb=>nomatch hb)⟩
theorem xE {e:Expr} {es:List Expr} {f:FO} {g:FOs} (ha:PVo X e f) (hr:PAo X es g) (hs:starEach (e::es) X.env=(false,eval e X.env)::starEach es X.env:=by rfl):PAo X (e::es) (consO f g):=by
 obtain ⟨t,ht,hf⟩:=ha
 obtain ⟨t2,ht2,hg⟩:=hr
 refine ⟨_,yL ht ht2 hs,fun H₀ H O σ ds hd T Q o e q=>?_⟩
 unfold consO at e
 cases h1:f ds with
 | none=>rw [h1] at e; cases e
 | some x =>
   rw [h1] at e
   simp only [Option.bind_some] at e
   cases h2:g ds with
   | none=>rw [h2] at e; cases e
   | some r =>
     rw [h2] at e
     cases e
     refine hf H₀ H O σ ds hd x _ o h1 fun v H1 fs s1 r1 nd1 n1=>?_
     refine hg H₀ H1 (orL fs O) σ ds hd r _ (o.moreL s1 n1 fun b hb=>(r1.owns b hb).2) h2 fun vs H2 gs s2 r2 nd2 n2=>?_
     have eq:∀ a,orL (fs++gs) O a->orL gs (orL fs O) a:=fun a z=>z.elim (fun z=>(List.mem_append.mp z).elim (fun z=>.inr (.inl z)) .inl) fun z=>.inr (.inr z)
     refine q _ H2 (fs++gs) (s1.trans s2) (.cons ?_ ?_) ?_ ?_
     · exact (((r1.moreL n2).mono s2).less eq fun b hb=>.inl (List.mem_append_left _ hb))
     · exact r2.less eq fun b hb=>.inl (List.mem_append_right _ hb)
     · rw [List.nodup_append]
       refine ⟨nd1,nd2,fun a ha b hb z=>?_⟩
       obtain ⟨_,xs,ex⟩:=r1.owns a ha
       rw [z,n2 b hb] at ex; cases ex
     · intro b hb
       rcases List.mem_append.mp hb with z | z
       · exact n1 b z
       · exact s1.free (n2 b z)
theorem pvo_t {es:List Expr} {x1} {pos:Pos} {g:FOs} (h:PAo X es g):PVo X (.Tuple es x1 pos) (tO g):=by
 obtain ⟨t,ht,hf⟩:=h
 refine ⟨_,pe_tup ht,fun H₀ H O σ ds hd T Q o e q=>?_⟩
 unfold tO at e
 cases h1:g ds with
 | none=>rw [h1] at e; cases e
 | some l =>
   rw [h1] at e
   simp only [Option.bind_some] at e
   split at e
   · rename_i hl
     cases e
     refine hf H₀ H O σ ds hd l _ o h1 fun vs H1 fs s1 r1 nd n1=>⟨by rw [r1.length]; exact hl,fun p hp=>?_⟩
     have np : ¬ orL fs O p:=fun z=>by
      rcases z with z | z
      · obtain ⟨_, xs, ex⟩ := r1.owns p z
        rw [hp] at ex; cases ex
      · exact (o.mono s1).free hp z
     exact q _ _ fs (s1.trans (qP hp _)) (.tup np (.inl qK) (r1.mono (qP hp _))) nd n1
   · cases e
theorem pvo_s {es:List Expr} {pos:Pos} {g:FOs} (h:PAo X es g):PVo X (.List es pos) (sO g):=by
 obtain ⟨t,ht,hf⟩:=h
 refine ⟨_,pe_lst ht,fun H₀ H O σ ds hd T Q o e q=>?_⟩
 unfold sO at e
 cases h1:g ds with
 | none=>rw [h1] at e; cases e
 | some l =>
   rw [h1] at e
   simp only [Option.bind_some] at e
   split at e
   · rename_i hl
     cases e
     refine hf H₀ H O σ ds hd l _ o h1 fun vs H1 fs s1 r1 nd n1=>⟨by rw [r1.length]; exact hl,fun p hp=>?_⟩
     have r2:RepsO X.K (upd H1 p (.lst vs)) (orL (p::fs) O) vs l fs:=by
      have e1:∀ a,orL (p::fs) O a->orL [p] (orL fs O) a:=fun a z=>z.elim (fun z=>(List.mem_cons.mp z).elim (fun z=>.inl (by rw [z]; exact .head _)) fun z=>.inr (.inl z)) fun z=>.inr (.inr z)
      have mm:RepsO X.K H1 (ins1 p (orL fs O)) vs l fs:=r1.more hp
      exact (mm.mono (qP hp _)).less (fun a z=>(e1 a z).elim (fun z=>.inl (List.mem_singleton.mp z)) .inr) fun b hb=>.inl (.tail _ hb)
     refine q _ _ (p::fs) (s1.trans (qP hp _)) (.lst (.inl (.head _)) qK r2) (List.nodup_cons.mpr ⟨fun z=>?_,nd⟩) fun b hb=>?_
     · obtain ⟨_, xs, ex⟩ := r1.owns p z
       rw [hp] at ex; cases ex
     · rcases List.mem_cons.mp hb with z | z
       · rw [z]; exact s1.free hp
       · exact n1 b z
   · cases e
theorem psv_setB {i:Nat} {x:Str} {e:Expr} {pos pos':Pos} {f:FO} (hN:X.N.Nodup) (he:PVo X e f) (hi:X.N[i]? = some x:=by rfl) (hx:Loc X.env.scope x:=by first | exact Or.inl rfl | exact Or.inr rfl) (hs:swapsWith e (some (.Name x pos')) pos.line X.env=pure false:=by rfl)
  (hf:X.fn x=true \/ X.env.scope.names.lookup x=some .local:=by first | exact .inl rfl | exact .inr rfl):PSv X (.Assign [.Name x pos'] e pos) (setB i f):=by
 obtain ⟨t,ht,hg⟩:=he
 refine ⟨_,ps_set hN hi hx ht hs hf,fun H₀ H O σ ds hd out E o e h=>?_⟩
 unfold setB at e
 cases h1:f ds with
 | none=>rw [h1] at e; cases e
 | some T =>
   rw [h1] at e
   cases e
   exact hg H₀ H O σ ds hd T _ o h1 fun v H' fs s r nd n=>h _ _ _ (o.setOb s r nd n)
theorem vL (i:Nat) {x:Str} {pos:Pos} (hN:X.N[i]? = some x:=by rfl) (hv:Vis X.env.scope x:=by first | exact Or.inl rfl | exact Or.inr (Or.inl rfl) | exact Or.inr (Or.inr rfl)) (hd:(x == ("__debug__" : Str))=false:=by decide)
  (hcd:(x == ("__classdict__" : Str))=false:=by decide):PVn X (.Name x pos) (getN i):=by
 refine ⟨_,xP hN hv hd hcd,fun H₀ H O σ ds hd d Q o e q=>?_⟩
 unfold getN at e
 cases hs:ds[i]? with
 | none=>rw [hs] at e; cases e
 | some s =>
   rw [hs] at e
   cases s with
   | v d' =>
     cases e
     obtain ⟨v,h1,h2⟩:=o.read hs
     exact ⟨v,h1,q v H (Same.refl _) (h2.less fun _ z=>z.elim)⟩
   | no=>cases e
   | exc _=>cases e
   | fr _=>cases e
   | own l =>
     cases e
     obtain ⟨a,xs,h1,h2,h3,h4⟩:=o.readO hs
     exact ⟨.ref a,h1,q _ H (Same.refl _) (.lst (fun z=>z) (.inl h3) (h4.less fun _ z=>z.elim))⟩
   | ob r t =>
     cases e
     obtain ⟨F,hF⟩:=o.obs
     obtain ⟨v,h1,h2,_⟩:=hF i r t hs
     exact ⟨v,h1,q v H (Same.refl _) h2.any⟩
theorem pvp_var (i:Nat) {x:Str} {pos:Pos} (hN:X.N[i]? = some x:=by rfl) (hv:Vis X.env.scope x:=by first | exact Or.inl rfl | exact Or.inr (Or.inl rfl) | exact Or.inr (Or.inr rfl)) (hd:(x == ("__debug__" : Str))=false:=by decide)
  (hcd:(x == ("__classdict__" : Str))=false:=by decide):PVp X (.Name x pos) i []:=⟨_,xP hN hv hd hcd,fun σ H v w Q hs hp q=>⟨v,hs,by rw [<- show w=v from hp]; exact q⟩⟩
theorem atI_nat {α : Type} {xs:List α} {k:Nat} {x : α} (h:xs[k]? = some x):atI xs (k:Int)=some x:=by
 have hk:k < xs.length:=(List.getElem?_eq_some_iff.mp h).1
 unfold atI ixN
 rw [if_pos (by omega),if_pos (by omega)]
 simpa using h
theorem pvp_ix {a:Expr} {i k:Nat} {p:List Nat} {j pos pos'} (ha:PVp X a i p) (hs:PlainIx (.Constant (.int (k:Int)) j pos'):=by exact fun _ _=>rfl):PVp X (.Subscript a (.Constant (.int (k:Int)) j pos') pos) i (p++[k]):=by
 obtain ⟨t,ht,hf⟩:=ha
 refine ⟨_,pe_ix ix_seq ht pe_int hs,fun σ H v w Q hs hp q=>?_⟩
 obtain ⟨b,xs,g1,g2,g3⟩:=pathV_snoc hp
 refine hf σ H v (.ref b) _ hs g1 ?_
 rcases g2 with g2 | g2
 · exact .inr (.inl ⟨b,xs,_,w,rfl,rfl,.inl g2,atI_nat g3,q⟩)
 · exact .inl ⟨b,xs,_,w,rfl,rfl,.inl (.inl g2),atI_nat g3,q⟩
theorem psv_clrP {i:Nat} {p:List Nat} {e:Expr} {pos p2 p3:Pos} (he:PVp X e i p) (hline:(p2.endLine == p3.line)=true:=by rfl)
  (hbase:attributeBase e "clear" X.env (eval e X.env)=eval e X.env:=by rfl) (hsw:swapsWith (.Call (.Attribute e "clear" p2) [] [] p3) none pos.line X.env=pure false:=by rfl) :
  PSv X (.Expr (.Call (.Attribute e "clear" p2) [] [] p3) pos) (clrP i p):=by
 obtain ⟨t,ht,hf⟩:=he
 refine ⟨_,ps_expr (pe_bm0 PySem.F.plainAttrs_list PySem.F.slot_list_clear PySem.F.type_list_clear mt_clear ht hbase hline) hsw,fun H₀ H O σ ds hd out E o e h=>?_⟩
 unfold clrP at e
 cases hsl:ds[i]? with
 | none=>rw [hsl] at e; cases e
 | some s =>
   rw [hsl] at e
   cases s with
   | v d'=>cases e
   | no=>cases e
   | exc _=>cases e
   | fr _=>cases e
   | own _=>cases e
   | ob r T =>
     simp only at e
     cases hsub:subO p T with
     | none=>rw [hsub] at e; cases e
     | some u =>
       rw [hsub] at e
       simp only at e
       split at e
       · rename_i hu
         cases e
         obtain ⟨v,a,xs,h1,h2,h3,o'⟩:=o.clearAt hsl hsub hu
         refine hf σ H v (.ref a) _ h1 h2 ⟨.inl ⟨rfl,xs,SqL.of h3⟩,a,xs,rfl,rfl,h3,h _ _ _ o'⟩
       · cases e
section
variable {x:Str} {k j n:Nat} {F:List D->Option Ret} {p pos:Pos} {e:Expr} {es:List Expr} {g:FA}
end
mutual
theorem RepO.flatten {K:Frag} {H:Hp} {O O':Addr->Prop} (ho:∀ a,O a->Old H a):∀ {v:V} {t:OT} {fs:List Addr},flatO t=true->RepO K H O' v t fs->(∀ b∈fs,O b)->RepO K H O v t fs
 | _,_,_,f,.val r,_=>.val (Rep.flatten ho (by simpa [flatO] using f) r)
 | _,_,_,f,.lst n h r,hb=>.lst (hb _ (.head _)) h (RepsO.flatten ho (by simpa [flatO] using f) r fun b z=>hb b (.tail _ z))
 | _,_,_,f,.tup (a:=a) n h r,hb=>.tup (fun z=>by
    obtain ⟨u,e,m⟩:=ho a z
    rcases h with h | ⟨o,h⟩
    · rw [e] at h; cases h; cases m
    · rw [e] at h; cases h; cases m) h (RepsO.flatten ho (by simpa [flatO] using f) r hb)
theorem RepsO.flatten {K:Frag} {H:Hp} {O O':Addr->Prop} (ho:∀ a,O a->Old H a):∀ {v:List V} {t:List OT} {fs:List Addr},flatOs t=true->RepsO K H O' v t fs->(∀ b∈fs,O b)->RepsO K H O v t fs
 | _,_,_,_,.nil,_=>.nil
 | _, _, _, f, .cons h r, hb => by
   simp only [flatOs,Bool.and_eq_true] at f
   exact .cons (RepO.flatten ho f.1 h fun b z=>hb b (List.mem_append_left _ z)) (RepsO.flatten ho f.2 r fun b z=>hb b (List.mem_append_right _ z))
end
end
section
variable {X:Cx}
theorem pvn_ix {a b:Expr} {fa fb:FE} {pos:Pos} (ha:PVn X a fa) (hb:PVn X b fb) (hs:PlainIx b:=by exact fun _ _=>rfl):PVn X (.Subscript a b pos) (zL ixD fa fb):=by
 obtain ⟨ta,pa,ha⟩:=ha
 obtain ⟨tb,pb,hb⟩:=hb
 refine ⟨_,pe_ix ix_seq pa pb hs,fun H₀ H O σ ds hd d Q o e q=>?_⟩
 unfold zL at e
 cases h1:fa ds with
 | none=>rw [h1] at e; cases e
 | some x =>
   rw [h1] at e
   simp only [Option.bind_some] at e
   cases h2:fb ds with
   | none=>rw [h2] at e; cases e
   | some y =>
     rw [h2] at e
     simp only [Option.bind_some] at e
     refine ha H₀ H O σ ds hd x _ o h1 fun v H1 s1 r1=>?_
     refine hb H₀ H1 O σ ds hd y _ (o.mono s1) h2 fun u H2 s2 r2=>?_
     exact ix_sem (O:=jI) (.inl (r1.mono s2)) (.inl r2) e fun z H' s r=>q z H' ((s1.trans s2).trans s) r
end
def oi:Option Int->D
 | none=>.non
 | some i=>.int i
@[simp] theorem oi_none:oi none = .non:=rfl
@[simp] theorem oi_some (i:Int):oi (some i) = .int i:=rfl
def andK (r:Option D):D->Option D:=fun d=>match d with | .bl true=>r | .bl false=>some (.bl false) | _=>none
def orK (r:Option D):D->Option D:=fun d=>match d with | .bl true=>some (.bl true) | .bl false=>r | _=>none
@[simp] theorem andK_bl (r:Option D) (b:Bool):andK r (.bl b)=if b=true then r else some (.bl false):=by cases b <;> rfl
@[simp] theorem orK_bl (r:Option D) (b:Bool):orK r (.bl b)=if b=true then some (.bl true) else r:=by cases b <;> rfl
@[simp] theorem ite_andD (b c:Bool):(if b=true then some (D.bl c) else some (D.bl false))=some (.bl (b && c)):=by cases b <;> rfl
@[simp] theorem ite_orD (b c:Bool):(if b=true then some (D.bl true) else some (D.bl c))=some (.bl (b || c)):=by cases b <;> rfl
@[simp] theorem ite_andB (b c:Bool):(if b=true then some c else some false)=some (b && c):=by cases b <;> rfl
@[simp] theorem ite_orB (b c:Bool):(if b=true then some true else some c)=some (b || c):=by cases b <;> rfl
@[simp] theorem ite_andD' (p:Prop) [Decidable p] (c:Bool):(if p then some (D.bl c) else some (D.bl false))=some (.bl (decide p && c)):=by by_cases h:p <;> simp [h]
@[simp] theorem ite_orD' (p:Prop) [Decidable p] (c:Bool):(if p then some (D.bl true) else some (D.bl c))=some (.bl (decide p || c)):=by by_cases h:p <;> simp [h]
@[simp] theorem ite_andB' (p:Prop) [Decidable p] (c:Bool):(if p then some c else some false)=some (decide p && c):=by by_cases h:p <;> simp [h]
@[simp] theorem ite_orB' (p:Prop) [Decidable p] (c:Bool):(if p then some true else some c)=some (decide p || c):=by by_cases h:p <;> simp [h]
@[simp] theorem szl:sizeLine=16777216:=sizeLine_eq
section
variable (ds:List Sl)
@[simp] theorem getV_eq (i:Nat):qW i ds=match ds[i]? with | some (.v d)=>some d | _=>none:=rfl
@[simp] theorem getW_eq (i:Nat):zJ i ds=match ds[i]? with | some (.v d)=>some d | some (.own l)=>some (.lst l) | _=>none:=rfl
@[simp] theorem konst_eq (d:D):zE d ds=some d:=rfl
@[simp] theorem bin2_eq (op:D->D->Option D) (fa fb:FE):zL op fa fb ds=(fa ds).bind fun x=>(fb ds).bind fun y=>op x y:=rfl
@[simp] theorem un1_eq (op:D->Option D) (f:FE):un1 op f ds=(f ds).bind op:=rfl
@[simp] theorem callB_eq (F:List D->Option D) (g:FA):callB F g ds=(g ds).bind F:=rfl
@[simp] theorem callV_eq (n:Nat) (F:List D->Option Ret) (g:FA):qF n F g ds=(g ds).bind fun l=>if l.length=n then (F l).bind retV else none:=rfl
@[simp] theorem callF_eq (n:Nat) (F:List D->Option Ret) (g:FA):callF n F g ds=(g ds).bind fun l=>if l.length=n then (F l).bind retF else none:=rfl
@[simp] theorem retV_val (d:D):retV (.val d)=some d:=rfl
@[simp] theorem retV_fresh (l:List D):retV (.fresh l)=some (.lst l):=rfl
@[simp] theorem retF_val (d:D):retF (.val d)=none:=rfl
@[simp] theorem retF_fresh (l:List D):retF (.fresh l)=some l:=rfl
@[simp] theorem consA_eq (f:FE) (g:FA):zG f g ds=(f ds).bind fun x=>(g ds).map fun r=>x::r:=rfl
@[simp] theorem nilA_eq:qC ds=some []:=rfl
@[simp] theorem sized_eq (f:FA):qN f ds=(f ds).bind fun l=>if l.length<=sizeLine then some l else none:=rfl
@[simp] theorem mkL_eq (f:FA):mkL f ds=(f ds).map D.lst:=rfl
@[simp] theorem mkT_eq (f:FA):mkT f ds=(f ds).map D.tup:=rfl
@[simp] theorem testB_eq (f:FE):zU f ds=(f ds).bind isB:=rfl
@[simp] theorem testT_eq (f:FE):testT f ds=(f ds).bind truD:=rfl
@[simp] theorem isB_bl (b:Bool):isB (.bl b)=some b:=rfl
@[simp] theorem andT_eq (c d:FT):andT c d ds=(c ds).bind fun b=>if b=true then d ds else some false:=rfl
@[simp] theorem orT_eq (c d:FT):orT c d ds=(c ds).bind fun b=>if b=true then some true else d ds:=rfl
@[simp] theorem notT_eq (c:FT):notT c ds=(c ds).map not:=rfl
@[simp] theorem andV_eq (f g:FE):andV f g ds=(f ds).bind (andK (g ds)):=rfl
@[simp] theorem orV_eq (f g:FE):orV f g ds=(f ds).bind (orK (g ds)):=rfl
@[simp] theorem notV_eq (f:FE):notV f ds=(f ds).bind fun d=>match d with | .bl b=>some (.bl (!b)) | _=>none:=rfl
@[simp] theorem ifV_eq (c:FT) (f g:FE):ifV c f g ds=(c ds).bind fun b=>if b=true then f ds else g ds:=rfl
@[simp] theorem seqG_eq (f g:FS):qG f g ds=(f ds).bind fun o=>match o with | .nx ds'=>g ds' | o=>some o:=rfl
@[simp] theorem ifG_eq (c:FT) (f g:FS):ifG c f g ds=(c ds).bind fun b=>if b=true then f ds else g ds:=rfl
@[simp] theorem setG_eq (i:Nat) (f:FE):jM i f ds=(f ds).map fun d=>.nx (ds.set i (.v d)):=rfl
@[simp] theorem setOG_eq (i:Nat) (f:FA):setOG i f ds=(f ds).map fun l=>.nx (ds.set i (.own l)):=rfl
@[simp] theorem retG_eq (f:FE):retG f ds=(f ds).bind flatR:=rfl
@[simp] theorem retOG_eq (f:FA):retOG f ds=(f ds).bind flatF:=rfl
@[simp] theorem retXG_eq (i:Nat):retXG i ds=match ds[i]? with | some (.own l)=>flatF l | _=>none:=rfl
@[simp] theorem nextG_eq:qO ds=some (.nx ds):=rfl
@[simp] theorem appG_eq (i:Nat) (fe:FE):appG i fe ds=match ds[i]? with
 | some (.own l)=>(fe ds).bind fun d=>if l.length < sizeLine then some (.nx (ds.set i (.own (l++[d])))) else none
 | _=>none:=rfl
@[simp] theorem extG_eq (i:Nat) (fe:FA):extG i fe ds=match ds[i]? with
 | some (.own l)=>(fe ds).bind fun d=>if l.length+d.length<=sizeLine then some (.nx (ds.set i (.own (l++d)))) else none
 | _=>none:=rfl
@[simp] theorem putG_eq (i:Nat) (fk fe:FE):putG i fk fe ds=match ds[i]? with
 | some (.own l) => (fe ds).bind fun d => (fk ds).bind fun k => match k with
   | .int n=>(ixN l.length n).map fun j=>.nx (ds.set i (.own (l.set j d)))
   | _=>none
 | _=>none:=rfl
@[simp] theorem clrG_eq (i:Nat):clrG i ds=match ds[i]? with
 | some (.own l)=>some (.nx (ds.set i (.own [])))
 | _=>none:=rfl
@[simp] theorem asgG_eq (ga:D->List Sl->Option (List Sl)) (f:FE):asgG ga f ds=(f ds).bind fun d=>(ga d ds).map .nx:=rfl
@[simp] theorem relS_eq (i:Nat):relS i ds=match ds[i]? with | some (.own l)=>ds.set i (.v (.lst l)) | _=>ds:=rfl
@[simp] theorem viaA_eq (f:FE) (k:D->Option (List D)):viaA f k ds=(f ds).bind k:=rfl
@[simp] theorem asLT_lst (l:List D):asLT (.lst l)=some l:=rfl
@[simp] theorem asLT_tup (l:List D):asLT (.tup l)=some l:=rfl
@[simp] theorem catA_eq (fa fb:FE):catA fa fb ds=(fa ds).bind fun x=>(fb ds).bind fun y=>match x,y with
 | .lst a,.lst b=>if a.length+b.length<=sizeLine then some (a++b) else none
 | _,_=>none:=rfl
@[simp] theorem sliA_eq (f:FE) (lo hi:List Sl->Option (Option Int)):sliA f lo hi ds=(f ds).bind fun d=>(lo ds).bind fun a=>(hi ds).bind fun b=>match d with
 | .lst l=>some (cutD l a b)
 | _=>none:=rfl
@[simp] theorem lisA_eq (f:FE):lisA f ds=(f ds).bind asLT:=rfl
@[simp] theorem noP_eq:noP ds=some none:=rfl
@[simp] theorem soP_eq (f:FE):soP f ds=(f ds).bind fun d=>match d with | .int i=>some (some i) | _=>none:=rfl
@[simp] theorem forG_eq (fi:FA) (ga:D->List Sl->Option (List Sl)) (body:FS):forG fi ga body ds=(fi ds).bind fun items=>qS ga body items ds:=rfl
@[simp] theorem nameG_eq (i:Nat) (d:D):zT i d ds=some (ds.set i (.v d)):=rfl
@[simp] theorem tupG_eq (n:Nat) (h:List D->List Sl->Option (List Sl)) (l:List D):tupG n h (.tup l) ds=if l.length=n then h l ds else none:=rfl
@[simp] theorem tgCons_eq (g:D->List Sl->Option (List Sl)) (h:List D->List Sl->Option (List Sl)) (d:D) (r:List D):zO g h (d::r) ds=(g d ds).bind fun ds'=>h r ds':=rfl
@[simp] theorem tgNil_eq:tgNil [] ds=some ds:=rfl
@[simp] theorem isiG_eq (T:String) (f:FE):isiG T f ds=(f ds).bind (isiD T):=rfl
@[simp] theorem chain_eq (op op':D->D->Option D) (fa fb fc:FE):chain op op' fa fb fc ds=(fa ds).bind fun x=>(fb ds).bind fun y=>(op x y).bind fun z=>match z with
 | .bl true=>(fc ds).bind fun w=>op' y w
 | .bl false=>some (.bl false)
 | _=>none:=rfl
end
@[simp] theorem addD_int (i j:Int):xN (.int i) (.int j)=some (.int (i+j)):=rfl
@[simp] theorem subD_int (i j:Int):subD (.int i) (.int j)=some (.int (i - j)):=rfl
@[simp] theorem negD_int (i:Int):negD (.int i)=some (.int (-i)):=rfl
@[simp] theorem ltD_int (i j:Int):ltD (.int i) (.int j)=some (.bl (decide (i < j))):=rfl
@[simp] theorem leD_int (i j:Int):leD (.int i) (.int j)=some (.bl (decide (i<=j))):=rfl
@[simp] theorem gtD_int (i j:Int):gtD (.int i) (.int j)=some (.bl (decide (j < i))):=rfl
@[simp] theorem geD_int (i j:Int):geD (.int i) (.int j)=some (.bl (decide (j<=i))):=rfl
@[simp] theorem yM {j:Int} (i:Int) (h:0 < j):xL (.int i) (.int j)=some (.int (i % j)):=if_pos h
theorem divOk_small {j:Int} (h:0 < j) (h2:j < 1000000000):divOk j:=⟨h,by
 have h3:j.natAbs < 2 ^ 30:=by
  have:(2:Nat) ^ 30=1073741824:=by decide
  omega
 have h4:j.natAbs≠0:=by omega
 have:=(Nat.log2_lt h4).mpr h3
 omega⟩
@[simp] theorem yR {j:Int} (i:Int) (h:0 < j) (h2:j < 1000000000):qY (.int i) (.int j)=some (.int (i / j)):=if_pos (divOk_small h h2)
theorem yA {i j:Int} (h:IntMulOk i j):yT (.int i) (.int j)=some (.int (i * j)):=if_pos h
theorem powD_ok {i j:Int} (h:CPowB i j):powD (.int i) (.int j)=some (.int (i ^ j.toNat)):=if_pos h
theorem cpow_of {i j:Int} {n m:Nat} (h:i.natAbs < 2 ^ n) (h0:0<=j) (h1:j<=m) (h2:n * m<=134217728):CPowB i j:=by
 refine ⟨h0,?_⟩
 have hb:Builtin.Int.intBits i<=n:=intBits_le_iff.mpr h
 have h3:(Builtin.Int.intBits i:Int) * j<=(n:Int) * (m:Int):=Int.mul_le_mul (by omega) h1 h0 (by omega)
 have h4:((n * m:Nat):Int)<=134217728:=by omega
 have e:((n * m:Nat):Int)=(n:Int) * (m:Int):=Int.natCast_mul n m
 have e2:(2:Int) ^ 27=134217728:=by decide
 rw [e2]
 omega
@[simp] theorem pow10 {j:Int} (h0:0<=j) (h1:j<=1000):powD (.int 10) (.int j)=some (.int (10 ^ j.toNat)):=powD_ok (cpow_of (n:=4) (m:=1000) (by decide) h0 h1 (by decide))
@[simp] theorem mxD_int (i j:Int):mxD [.int i,.int j]=some (.int (max i j)):=by
 show some (D.int (if j > i then j else i))=_
 congr 2
 split <;> omega
@[simp] theorem mnD_int (i j:Int):mnD [.int i,.int j]=some (.int (min i j)):=by
 show some (D.int (if j < i then j else i))=_
 congr 2
 split <;> omega
@[simp] theorem lenD_lst (l:List D):lenD [.lst l]=some (.int l.length):=rfl
@[simp] theorem lenD_tup (l:List D):lenD [.tup l]=some (.int l.length):=rfl
@[simp] theorem isD_non:isD .non .non=some (.bl true):=rfl
@[simp] theorem isD_int (i:Int):isD (.int i) .non=some (.bl false):=rfl
@[simp] theorem isD_bl (i:Bool):isD (.bl i) .non=some (.bl false):=rfl
@[simp] theorem isD_tup (i:List D):isD (.tup i) .non=some (.bl false):=rfl
@[simp] theorem isD_lst (i:List D):isD (.lst i) .non=some (.bl false):=rfl
@[simp] theorem isD_oi (o:Option Int):isD (oi o) .non=some (.bl o.isNone):=by cases o <;> rfl
@[simp] theorem notD_non:notD .non .non=some (.bl false):=rfl
@[simp] theorem notD_int (i:Int):notD (.int i) .non=some (.bl true):=rfl
@[simp] theorem notD_bl (i:Bool):notD (.bl i) .non=some (.bl true):=rfl
@[simp] theorem notD_tup (i:List D):notD (.tup i) .non=some (.bl true):=rfl
@[simp] theorem notD_lst (i:List D):notD (.lst i) .non=some (.bl true):=rfl
@[simp] theorem notD_oi (o:Option Int):notD (oi o) .non=some (.bl o.isSome):=by cases o <;> rfl
@[simp] theorem truD_bl (b:Bool):truD (.bl b)=some b:=rfl
@[simp] theorem truD_non:truD .non=some false:=rfl
@[simp] theorem truD_lst (l:List D):truD (.lst l)=some (!l.isEmpty):=rfl
@[simp] theorem truD_tup (l:List D):truD (.tup l)=some (!l.isEmpty):=rfl
theorem ixN_pos {n:Nat} {i:Int} (h:0<=i) (h2:i < n):ixN n i=some i.toNat:=by
 unfold ixN
 rw [if_pos h,if_pos h2]
theorem jZ (l:List D) {i:Int} (h:0<=i) (h2:i < l.length):ixD (.lst l) (.int i)=l[i.toNat]?:=by
 show atI l i=_
 unfold atI
 rw [ixN_pos h h2]
 rfl
theorem ixT_pos (l:List D) {i:Int} (h:0<=i) (h2:i < l.length):ixD (.tup l) (.int i)=l[i.toNat]?:=by
 show atI l i=_
 unfold atI
 rw [ixN_pos h h2]
 rfl
@[simp] theorem ixT0 (a:D) (l:List D):ixD (.tup (a::l)) (.int 0)=some a:=by
 rw [ixT_pos _ (by decide) (by rw [List.length_cons]; omega)]
 rfl
@[simp] theorem ixT1 (a b:D) (l:List D):ixD (.tup (a::b::l)) (.int 1)=some b:=by
 rw [ixT_pos _ (by decide) (by rw [List.length_cons,List.length_cons]; omega)]
 rfl
@[simp] theorem ixT2 (a b c:D) (l:List D):ixD (.tup (a::b::c::l)) (.int 2)=some c:=by
 rw [ixT_pos _ (by decide) (by rw [List.length_cons,List.length_cons,List.length_cons]; omega)]
 rfl
@[simp] theorem ixL0 (a:D) (l:List D):ixD (.lst (a::l)) (.int 0)=some a:=by
 rw [jZ _ (by decide) (by rw [List.length_cons]; omega)]
 rfl
@[simp] theorem ixL1 (a b:D) (l:List D):ixD (.lst (a::b::l)) (.int 1)=some b:=by
 rw [jZ _ (by decide) (by rw [List.length_cons,List.length_cons]; omega)]
 rfl
theorem wQ (l:List D) (a:D):ixD (.lst (l++[a])) (.int (-1))=some a:=by
 show atI (l++[a]) (-1)=_
 unfold atI ixN
 rw [if_neg (by decide),if_pos (by rw [List.length_append,List.length_singleton]; omega),List.length_append,List.length_singleton]
 have e:(-1+((l.length+1:Nat):Int)).toNat=l.length:=by omega
 rw [e]
 simp
@[simp] theorem flat_non:flat .non=true:=by simp [flat]
@[simp] theorem flat_bl (b:Bool):flat (.bl b)=true:=by simp [flat]
@[simp] theorem flat_int (i:Int):flat (.int i)=true:=by simp [flat]
@[simp] theorem flat_str (i:Str):flat (.str i)=true:=by simp [flat]
@[simp] theorem flat_tup (l:List D):flat (.tup l)=flats l:=by simp [flat]
@[simp] theorem flats_nil:flats []=true:=by simp [flats]
@[simp] theorem flats_cons (d:D) (l:List D):flats (d::l)=(flat d && flats l):=by simp [flats]
@[simp] theorem flat_oi (o:Option Int):flat (oi o)=true:=by cases o <;> simp
theorem yJ {d:D} (h:flat d=true):flatR d=some (.rt (.val d)):=if_pos h
@[simp] theorem flatR_non:flatR .non=some (.rt (.val .non)):=yJ (by simp)
@[simp] theorem flatR_bl (b:Bool):flatR (.bl b)=some (.rt (.val (.bl b))):=yJ (by simp)
@[simp] theorem flatR_int (i:Int):flatR (.int i)=some (.rt (.val (.int i))):=yJ (by simp)
@[simp] theorem flatR_str (i:Str):flatR (.str i)=some (.rt (.val (.str i))):=yJ (by simp)
@[simp] theorem flatR_oi (o:Option Int):flatR (oi o)=some (.rt (.val (oi o))):=yJ (by simp)
@[simp] theorem flatR_tup (l:List D) (h:flats l=true):flatR (.tup l)=some (.rt (.val (.tup l))):=yJ (by simpa using h)
@[simp] theorem flatF_of (l:List D) (h:flats l=true):flatF l=some (.rt (.fresh l)):=if_pos h
@[simp] theorem shal_int (n:Nat) (i:Int):shal n (.int i)=true:=by simp [shal]
@[simp] theorem shal_non (n:Nat):shal n .non=true:=by simp [shal]
@[simp] theorem shal_bl (n:Nat) (b:Bool):shal n (.bl b)=true:=by simp [shal]
@[simp] theorem shal_oi (n:Nat) (o:Option Int):shal n (oi o)=true:=by cases o <;> simp
@[simp] theorem shal_tup (n:Nat) (l:List D):shal n (.tup l)=shals n l:=by simp [shal]
@[simp] theorem shal_lst (n:Nat) (l:List D):shal n (.lst l)=shals n l:=by simp [shal]
@[simp] theorem shals_nil (n:Nat):shals n []=true:=by cases n <;> simp [shals]
@[simp] theorem shals_cons (n:Nat) (d:D) (l:List D):shals (n+1) (d::l)=(shal n d && shals (n+1) l):=by simp [shals]
theorem shals_all {n:Nat} {l:List D} (h:∀ d∈l,shal n d=true):shals (n+1) l=true:=by
 induction l with
 | nil=>simp
 | cons d r ih =>
   rw [shals_cons,h d List.mem_cons_self,ih fun x hx=>h x (List.mem_cons_of_mem _ hx)]
   rfl
theorem eqD_ok {x y:D} (h:shal 40 x=true) (h2:shal 40 y=true):eqD x y=some (.bl (eqvD x y)):=if_pos ⟨h,h2⟩
theorem vT {x y:D} (h:shal 40 x=true) (h2:shal 40 y=true):neD x y=some (.bl (!eqvD x y)):=if_pos ⟨h,h2⟩
@[simp] theorem eqvD_int (i j:Int):eqvD (.int i) (.int j)=decide (i=j):=by
 show (i == j)=_
 rw [Bool.eq_iff_iff]; simp
@[simp] theorem eqvD_bl (i j:Bool):eqvD (.bl i) (.bl j)=decide (i=j):=by
 show (i == j)=_
 rw [Bool.eq_iff_iff]; simp
@[simp] theorem eqvD_non:eqvD .non .non=true:=rfl
@[simp] theorem eqvD_non_int (j:Int):eqvD .non (.int j)=false:=rfl
@[simp] theorem eqvD_int_non (j:Int):eqvD (.int j) .non=false:=rfl
@[simp] theorem eqvD_oi (o p:Option Int):eqvD (oi o) (oi p)=decide (o=p):=by cases o <;> cases p <;> simp
@[simp] theorem eqvD_tup (a b:List D):eqvD (.tup a) (.tup b)=eqvs a b:=by simp [eqvD,eqvs,toPy,PyData.eqv]
@[simp] theorem eqvD_lst (a b:List D):eqvD (.lst a) (.lst b)=eqvs a b:=by simp [eqvD,eqvs,toPy,PyData.eqv]
@[simp] theorem eqvs_nil:eqvs [] []=true:=by simp [eqvs,toPys,PyData.eqvAll]
@[simp] theorem eqvs_cons (x y:D) (a b:List D):eqvs (x::a) (y::b)=(eqvD x y && eqvs a b):=by simp [eqvs,eqvD,toPys,PyData.eqvAll]
@[simp] theorem eqvs_nil_cons (y:D) (b:List D):eqvs [] (y::b)=false:=by simp [eqvs,toPys,PyData.eqvAll]
@[simp] theorem eqvs_cons_nil (y:D) (b:List D):eqvs (y::b) []=false:=by simp [eqvs,toPys,PyData.eqvAll]
@[simp] theorem eqD_int (i j:Int):eqD (.int i) (.int j)=some (.bl (decide (i=j))):=by rw [eqD_ok (by simp) (by simp)]; simp
@[simp] theorem neD_int (i j:Int):neD (.int i) (.int j)=some (.bl (!decide (i=j))):=by rw [vT (by simp) (by simp)]; simp
@[simp] theorem eqD_bl (i j:Bool):eqD (.bl i) (.bl j)=some (.bl (decide (i=j))):=by rw [eqD_ok (by simp) (by simp)]; simp
@[simp] theorem neD_bl (i j:Bool):neD (.bl i) (.bl j)=some (.bl (!decide (i=j))):=by rw [vT (by simp) (by simp)]; simp
@[simp] theorem eqD_oi (i j:Option Int):eqD (oi i) (oi j)=some (.bl (decide (i=j))):=by rw [eqD_ok (by simp) (by simp)]; simp
@[simp] theorem neD_oi (i j:Option Int):neD (oi i) (oi j)=some (.bl (!decide (i=j))):=by rw [vT (by simp) (by simp)]; simp
theorem flats_ints (l:List Int):flats (l.map D.int)=true:=by
 induction l with
 | nil=>simp
 | cons a r ih=>simp [ih]
theorem cutD_from (l:List D) (k:Nat):cutD l (some (k:Int)) none=l.drop k:=by
 unfold cutD HT.sIx
 simp only [show ¬ ((k:Int) < 0) by omega,if_false,Int.toNat_natCast]
 rw [List.take_of_length_le (by rw [List.length_drop]; omega)]
 by_cases h:k<=l.length
 · rw [Nat.min_eq_left h]
 · rw [Nat.min_eq_right (by omega),List.drop_length,List.drop_of_length_le (by omega)]
theorem kits:kitF "int" "int" = some true/\kitF "NoneType" "int" = some false/\kitF "bool" "int" = some true/\kitF "tuple" "int" = some false/\kitF "list" "int" = some false/\kitF "str" "int" = some false ∧
  kitF "bool" "bool" = some true/\kitF "int" "bool" = some false/\kitF "NoneType" "bool" = some false/\kitF "tuple" "tuple" = some true/\kitF "list" "tuple" = some false/\kitF "NoneType" "tuple" = some false ∧
  kitF "list" "list" = some true/\kitF "tuple" "list" = some false/\kitF "NoneType" "list" = some false:=by
 refine ⟨?_,?_,?_,?_,?_,?_,?_,?_,?_,?_,?_,?_,?_,?_,?_⟩ <;> decide +kernel
@[simp] theorem isi_int_int (i:Int):isiD "int" (.int i)=some (.bl true):=by simp [isiD,tyD,kits.1]
@[simp] theorem isi_int_non:isiD "int" .non=some (.bl false):=by simp [isiD,tyD,kits.2.1]
@[simp] theorem isi_int_bl (b:Bool):isiD "int" (.bl b)=some (.bl true):=by simp [isiD,tyD,kits.2.2.1]
@[simp] theorem isi_bool_bl (b:Bool):isiD "bool" (.bl b)=some (.bl true):=by simp [isiD,tyD,kits.2.2.2.2.2.2.1]
@[simp] theorem isi_bool_int (i:Int):isiD "bool" (.int i)=some (.bl false):=by simp [isiD,tyD,kits.2.2.2.2.2.2.2.1]
@[simp] theorem isi_bool_non:isiD "bool" .non=some (.bl false):=by simp [isiD,tyD,kits.2.2.2.2.2.2.2.2.1]
@[simp] theorem isi_tup_tup (l:List D):isiD "tuple" (.tup l)=some (.bl true):=by simp [isiD,tyD,kits.2.2.2.2.2.2.2.2.2.1]
@[simp] theorem isi_lst_lst (l:List D):isiD "list" (.lst l)=some (.bl true):=by simp [isiD,tyD,kits.2.2.2.2.2.2.2.2.2.2.2.2.1]
@[simp] theorem bind_ite {α β : Type} {c:Prop} [Decidable c] (a b:Option α) (f : α->Option β):(if c then a else b).bind f=if c then a.bind f else b.bind f:=by split <;> rfl
@[simp] theorem map_ite {α β : Type} {c:Prop} [Decidable c] (a b:Option α) (f : α->β):(if c then a else b).map f=if c then a.map f else b.map f:=by split <;> rfl
theorem loop_inv {ga:D->List Sl->Option (List Sl)} {body:FS} (P:List Sl->Prop):∀ (items:List D) (ds:List Sl),P ds →
  (∀ d∈items,∀ ds,P ds->∃ ds1 ds2,ga d ds=some ds1/\(body ds1=some (.nx ds2) \/ body ds1=some (.ct ds2))/\P ds2)->∃ ds',qS ga body items ds=some (.nx ds')/\P ds'
 | [],ds,h,_=>⟨ds,rfl,h⟩
 | d :: r, ds, h, H => by
   obtain ⟨ds1,ds2,e1,e2,h2⟩:=H d List.mem_cons_self ds h
   obtain ⟨ds',e3,h3⟩:=loop_inv P r ds2 h2 fun x hx=>H x (List.mem_cons_of_mem _ hx)
   refine ⟨ds',?_,h3⟩
   rcases e2 with e2 | e2 <;> simp only [qS,e1,e2,Option.bind_some,e3]
theorem wB {fi:FA} {mp:List (Option Nat)} {ga:D->List Sl->Option (List Sl)} {tt:FT} {fe:FE} {ds:List Sl} {items l:List D} (h:fi ds=some items) (hl:items.length<=sizeLine) (hc:compL ga tt fe (jS mp ds) items=some l):compG fi mp ga tt fe ds=some l:=by
 unfold compG
 rw [h]
 show (if items.length<=sizeLine then compL ga tt fe (jS mp ds) items else none)=_
 rw [if_pos hl]
 exact hc
theorem vW:∀ bs:List Bool,blsD (bs.map D.bl)=some bs
 | []=>rfl
 | b::r=>by simp [blsD,vW r]
@[simp] theorem allD_bls (bs:List Bool):allD [.lst (bs.map D.bl)]=some (.bl (bs.all id)):=by simp [allD,vW]
@[simp] theorem anyD_bls (bs:List Bool):anyD [.lst (bs.map D.bl)]=some (.bl (bs.any id)):=by simp [anyD,vW]
theorem loop_invN {ga:D->List Sl->Option (List Sl)} {body:FS} (P:Nat->List Sl->Prop):∀ (items:List D) (n:Nat) (ds:List Sl),P n ds →
  (∀ d∈items,∀ m ds,m < n+items.length->P m ds->∃ ds1 ds2,ga d ds=some ds1/\(body ds1=some (.nx ds2) \/ body ds1=some (.ct ds2))/\P (m+1) ds2)->∃ ds',qS ga body items ds=some (.nx ds')/\P (n+items.length) ds'
 | [],n,ds,h,_=>⟨ds,rfl,h⟩
 | d :: r, n, ds, h, H => by
   obtain ⟨ds1,ds2,e1,e2,h2⟩:=H d List.mem_cons_self n ds (by simp) h
   obtain ⟨ds',e3,h3⟩:=loop_invN P r (n+1) ds2 h2 fun x hx m ds hm=>H x (List.mem_cons_of_mem _ hx) m ds (by simp only [List.length_cons]; omega)
   refine ⟨ds', ?_, by rw [List.length_cons]; have e : n + (r.length + 1) = n + 1 + r.length := by omega
                       rw [e]; exact h3⟩
   rcases e2 with e2 | e2 <;> simp only [qS,e1,e2,Option.bind_some,e3]
@[simp] theorem ixL2 (a b c:D) (l:List D):ixD (.lst (a::b::c::l)) (.int 2)=some c:=by
 rw [jZ _ (by decide) (by rw [List.length_cons,List.length_cons,List.length_cons]; omega)]
 rfl
@[simp] theorem ixL3 (a b c d:D) (l:List D):ixD (.lst (a::b::c::d::l)) (.int 3)=some d:=by
 rw [jZ _ (by decide) (by rw [List.length_cons,List.length_cons,List.length_cons,List.length_cons]; omega)]
 rfl
@[simp] theorem rng3_eq (fa fb fc:FE) (ds:List Sl):rng3 fa fb fc ds=(fa ds).bind fun x=>(fb ds).bind fun y=>(fc ds).bind fun z=>match x,y,z with
 | .int i,.int j,.int c=>if okR3 i j c then some (range3D i c (steps3 i j c)) else none
 | _,_,_=>none:=rfl
@[simp] theorem rng2_eq (fa fb:FE) (ds:List Sl):rng2 fa fb ds=(fa ds).bind fun x=>(fb ds).bind fun y=>match x,y with
 | .int i,.int j=>if okR i/\okR j then some (rangeD i (j - i).toNat) else none
 | _,_=>none:=rfl
@[simp] theorem rng1_eq (f:FE) (ds:List Sl):rng1 f ds=(f ds).bind fun d=>match d with | .int j=>if okR j then some (rangeD 0 j.toNat) else none | _=>none:=rfl
theorem xX {j:Int} (h : -1000000000<=j) (h2:j<=1000000000):okR j:=⟨Int.le_trans (by decide) h,Int.lt_of_le_of_lt h2 (by decide)⟩
@[simp] theorem absD_int (i:Int):absD [.int i]=some (.int (if i < 0 then -i else i)):=rfl
@[simp] theorem int1D_int (i:Int):int1D [.int i]=some (.int i):=rfl
@[simp] theorem int1D_bl (b:Bool):int1D [.bl b]=some (.int (if b then 1 else 0)):=rfl
@[simp] theorem augA_eq (i:Nat) (f:FE) (ds:List Sl):augA i f ds=(qW i ds).bind fun x=>(f ds).bind fun y=>match x,y with
 | .int a,.int b=>some (.nx (ds.set i (.v (.int (a+b)))))
 | _,_=>none:=rfl
@[simp] theorem parG_eq (i j:Nat) (f:FA) (ds:List Sl):parG i j f ds=(f ds).bind fun l=>match l with
 | [a,b]=>some (.nx ((ds.set i (.v a)).set j (.v b)))
 | _=>none:=rfl
@[simp] theorem revA_eq (f:FE) (ds:List Sl):revA f ds=(f ds).bind fun d=>match d with
 | .lst l=>some l.reverse
 | _=>none:=rfl
theorem mem_rangeD {d:D} {lo:Int} {n:Nat} (h:d∈rangeD lo n):∃ k:Nat,k < n/\d = .int (lo+(k:Int)):=by
 obtain ⟨k,hk,rfl⟩:=List.mem_map.mp h
 exact ⟨k,List.mem_range.mp hk,rfl⟩
theorem qX {f g:FS} {ds ds':List Sl} (h:f ds=some (.nx ds')):qG f g ds=g ds':=by simp [h]
theorem seq_rt {f g:FS} {ds:List Sl} {r:Ret} (h:f ds=some (.rt r)):qG f g ds=some (.rt r):=by simp [h]
theorem yU {g:FS} {n:Nat} {ds:List D} {r:Ret} (h:g (args n ds)=some (.rt r)):runG g n ds=some r:=by unfold runG; rw [h]
end FL
section
open PySem PyProof.Rows L2 FL
noncomputable def GP.ends_ahead.g:FS:=(retG (andV (zL notD (zJ 0) (zE .non)) (andV (zL notD (zJ 1) (zE .non)) (zL leD (zJ 0) (zJ 1)))))
noncomputable def GP.ends_ahead.f:List D->Option Ret:=runG GP.ends_ahead.g 2
noncomputable def GP.later_low.g:FS:=(qG (ifG (zU (zL isD (zJ 0) (zE .non))) (retG (zJ 1)) qO)
 (qG (ifG (zU (zL isD (zJ 1) (zE .non))) (retG (zJ 0)) qO)
 (retG (callB mxD (zG (zJ 0) (zG (zJ 1) qC))))))
noncomputable def GP.later_low.f:List D->Option Ret:=runG GP.later_low.g 2
noncomputable def GP.earlier_behind.g:FS:=(qG (ifG (zU (zL isD (zJ 0) (zE .non))) (retG (zJ 1)) qO)
 (qG (ifG (zU (zL isD (zJ 1) (zE .non))) (retG (zJ 0)) qO)
 (retG (callB mnD (zG (zJ 0) (zG (zJ 1) qC))))))
noncomputable def GP.earlier_behind.f:List D->Option Ret:=runG GP.earlier_behind.g 2
noncomputable def GP.meet.g:FS:=(qG (jM 2 (qF 2 GP.later_low.f (zG (zL ixD (zJ 0) (zE (.int 0))) (zG (zL ixD (zJ 1) (zE (.int 0))) qC))))
 (qG (jM 3 (qF 2 GP.earlier_behind.f (zG (zL ixD (zJ 0) (zE (.int 1))) (zG (zL ixD (zJ 1) (zE (.int 1))) qC))))
 (qG (ifG (testT (qF 2 GP.ends_ahead.f (zG (zJ 3) (zG (zJ 2) qC)))) (retG (zE .non)) qO)
 (retG (mkT (qN (zG (qW 2) (zG (qW 3) qC))))))))
noncomputable def GP.meet.f:List D->Option Ret:=runG GP.meet.g 4
noncomputable def GP.knit.b1:FS:=(qG (ifG (zU (zL isD (zJ 4) (zE .non))) (fun ds=>some (.ct ds)) qO)
 (ifG (andT (testT (zJ 1)) (andT (zU (zL eqD (zL ixD (zL ixD (zJ 1) (un1 negD (zE (.int 1)))) (zE (.int 1))) (zJ 2))) (zU (zL eqD (zL ixD (zL ixD (zJ 1) (un1 negD (zE (.int 1)))) (zE (.int 2))) (zJ 4))))) (putG 1 (un1 negD (zE (.int 1))) (mkT (qN (zG (zL ixD (zL ixD (zJ 1) (un1 negD (zE (.int 1)))) (zE (.int 0))) (zG (qW 3) (zG (qW 4) qC)))))) (appG 1 (mkT (qN (zG (qW 2) (zG (qW 3) (zG (qW 4) qC))))))))
noncomputable def GP.knit.g:FS:=(qG (setOG 1 (qN qC))
 (qG (forG (viaA (qW 0) asLT) (tupG 3 (zO (zT 2) (zO (zT 3) (zO (zT 4) tgNil)))) GP.knit.b1)
 (retXG 1)))
noncomputable def GP.knit.f:List D->Option Ret:=runG GP.knit.g 5
noncomputable def GP.runs_of.b1:FS:=(qG (ifG (zU (zL neD (zJ 3) (zJ 2))) (appG 1 (mkT (qN (zG (qW 2) (zG (qW 3) (zG (zE .non) qC)))))) qO)
 (qG (appG 1 (mkT (qN (zG (qW 3) (zG (qW 4) (zG (qW 5) qC))))))
 (jM 2 (qW 4))))
noncomputable def GP.runs_of.g:FS:=(qG (setOG 1 (qN qC))
 (qG (jM 2 (zE .non))
 (qG (forG (viaA (qW 0) asLT) (tupG 3 (zO (zT 3) (zO (zT 4) (zO (zT 5) tgNil)))) GP.runs_of.b1)
 (qG (ifG (orT (zU (zL notD (zJ 2) (zE .non))) (notT (testT (zJ 0)))) (appG 1 (mkT (qN (zG (qW 2) (zG (zE .non) (zG (zE .non) qC)))))) qO)
 (retXG 1)))))
noncomputable def GP.runs_of.f:List D->Option Ret:=runG GP.runs_of.g 6
noncomputable def GP.parts_in.b1:FS:=(qG (jM 6 (qF 2 GP.meet.f (zG (mkT (qN (zG (qW 3) (zG (qW 4) qC)))) (zG (zJ 1) qC))))
 (ifG (zU (zL notD (zJ 6) (zE .non))) (appG 2 (mkT (qN (zG (zL ixD (zJ 6) (zE (.int 0))) (zG (zL ixD (zJ 6) (zE (.int 1))) (zG (qW 5) qC)))))) qO))
noncomputable def GP.parts_in.g:FS:=(qG (setOG 2 (qN qC))
 (qG (forG (viaA (qW 0) asLT) (tupG 3 (zO (zT 3) (zO (zT 4) (zO (zT 5) tgNil)))) GP.parts_in.b1)
 (retXG 2)))
noncomputable def GP.parts_in.f:List D->Option Ret:=runG GP.parts_in.g 7
noncomputable def GP.paired.b1:FS:=(qG (jM 8 (zL ixD (zJ 2) (zJ 6)))
 (qG (jM 9 (zL ixD (zJ 3) (zJ 7)))
 (qG (jM 10 (qF 2 GP.earlier_behind.f (zG (zL ixD (zJ 8) (zE (.int 1))) (zG (zL ixD (zJ 9) (zE (.int 1))) qC))))
 (qG (appG 4 (mkT (qN (zG (qW 5) (zG (qW 10) (zG (zL ixD (zJ 8) (zE (.int 2))) (zG (zL ixD (zJ 9) (zE (.int 2))) qC)))))))
 (qG (ifG (zU (zL eqD (zL ixD (zJ 8) (zE (.int 1))) (zJ 10))) (augA 6 (zE (.int 1))) qO)
 (qG (ifG (zU (zL eqD (zL ixD (zJ 9) (zE (.int 1))) (zJ 10))) (augA 7 (zE (.int 1))) qO)
 (jM 5 (qW 10))))))))
noncomputable def GP.paired.g:FS:=(qG (jM 2 (qF 1 GP.runs_of.f (zG (zJ 0) qC)))
 (qG (jM 3 (qF 1 GP.runs_of.f (zG (zJ 1) qC)))
 (qG (setOG 4 (qN qC))
 (qG (jM 5 (zE .non))
 (qG (jM 6 (zE (.int 0)))
 (qG (jM 7 (zE (.int 0)))
 (qG (whileN (zU (zL ltD (zJ 6) (callB lenD (zG (zJ 2) qC)))) GP.paired.b1 100000)
 (retXG 4))))))))
noncomputable def GP.paired.f:List D->Option Ret:=runG GP.paired.g 11
noncomputable def GP.joined.g (Φ : Fun2):FS:=(qG (jM 3 (qF 2 GP.paired.f (zG (zJ 0) (zG (zJ 1) qC))))
 (retOG (callF 1 GP.knit.f (zG (mkL (compG (viaA (qW 3) asLT) [none,none,none,none,some 2] (tupG 4 (zO (zT 0) (zO (zT 1) (zO (zT 2) (zO (zT 3) tgNil))))) (fun _=>some true) (mkT (qN (zG (qW 0) (zG (qW 1) (zG (callW Φ 4 (zG (zJ 2) (zG (zJ 3) qC))) qC))))))) qC))))
noncomputable def GP.joined.f (Φ : Fun2):List D->Option Ret:=runG (GP.joined.g Φ) 4
noncomputable def GP.farther.g:FS:=(retG (ifV (zU (zL isD (zJ 0) (zE .non))) (zE .non) (zL xN (zJ 0) (zJ 1))))
noncomputable def GP.farther.f:List D->Option Ret:=runG GP.farther.g 2
noncomputable def GP.shifted.g:FS:=(retOG (compG (viaA (qW 0) asLT) [none,none,none,some 1] (tupG 3 (zO (zT 0) (zO (zT 1) (zO (zT 2) tgNil)))) (fun _=>some true) (mkT (qN (zG (qF 2 GP.farther.f (zG (zJ 0) (zG (zJ 3) qC))) (zG (qF 2 GP.farther.f (zG (zJ 1) (zG (zJ 3) qC))) (zG (qW 2) qC)))))))
noncomputable def GP.shifted.f:List D->Option Ret:=runG GP.shifted.g 2
noncomputable def GP.change_by.g:FS:=(qG (ifG (notT (testT (zJ 1))) (retG (zE .non)) qO)
 (qG (jM 3 (zL ixD (zJ 1) (zL xL (zJ 2) (callB lenD (zG (zJ 1) qC)))))
 (retG (mkT (qN (zG (zL xN (zL ixD (zJ 3) (zE (.int 0))) (zL yT (zL qY (zJ 2) (callB lenD (zG (zJ 1) qC))) (zJ 0))) (zG (zL ixD (zJ 3) (zE (.int 1))) qC)))))))
noncomputable def GP.change_by.f:List D->Option Ret:=runG GP.change_by.g 4
noncomputable def GP.comes_again.b1:FS:=(ifG (zU (zL neD (qF 3 GP.change_by.f (zG (zJ 0) (zG (zJ 1) (zG (zL xN (zJ 5) (zJ 3)) qC)))) (mkT (qN (zG (zL xN (zL ixD (zJ 6) (zE (.int 0))) (zJ 4)) (zG (zL ixD (zJ 6) (zE (.int 1))) qC)))))) (retG (zE (.bl false))) qO)
noncomputable def GP.comes_again.g:FS:=(qG (jM 3 (zL qY (callB lenD (zG (zJ 1) qC)) (zJ 2)))
 (qG (jM 4 (zL qY (zJ 0) (zJ 2)))
 (qG (forG (enuA (qW 1)) (tupG 2 (zO (zT 5) (zO (zT 6) tgNil))) GP.comes_again.b1)
 (retG (zE (.bl true))))))
noncomputable def GP.comes_again.f:List D->Option Ret:=runG GP.comes_again.g 7
noncomputable def GP.times_on.b1:FS:=(ifG (andT (zU (zL eqD (zL xL (callB lenD (zG (zJ 1) qC)) (zJ 2)) (zE (.int 0)))) (andT (zU (zL eqD (zL xL (zJ 0) (zJ 2)) (zE (.int 0)))) (testT (qF 3 GP.comes_again.f (zG (zJ 0) (zG (zJ 1) (zG (zJ 2) qC))))))) (retG (zJ 2)) qO)
noncomputable def GP.times_on.g:FS:=(qG (ifG (notT (testT (zJ 1))) (retG (zJ 0)) qO)
 (qG (forG (rngB (callB lenD (zG (zJ 1) qC)) (zE (.int 1)) (un1 negD (zE (.int 1)))) (zT 2) GP.times_on.b1)
 (retG (zE (.int 1)))))
noncomputable def GP.times_on.f:List D->Option Ret:=runG GP.times_on.g 3
noncomputable def GP.changes_on.g:FS:=(qG (jM 2 (qF 2 GP.parts_in.f (zG (qF 1 GP.runs_of.f (zG (zJ 1) qC)) (zG (mkT (qN (zG (zE (.int 0)) (zG (qW 0) qC)))) qC))))
 (qG (setOG 3 (compG (viaA (mkL (sliA (zJ 2) (soP (zE (.int 1))) noP)) asLT) [none,none,none] (tupG 3 (zO (zT 0) (zO (zT 1) (zO (zT 2) tgNil)))) (fun _=>some true) (mkT (qN (zG (qW 0) (zG (qW 2) qC))))))
 (qG (ifG (zU (zL neD (zL ixD (zL ixD (zJ 2) (zE (.int 0))) (zE (.int 2))) (zL ixD (zL ixD (zJ 2) (un1 negD (zE (.int 1)))) (zE (.int 2))))) (appG 3 (mkT (qN (zG (qW 0) (zG (zL ixD (zL ixD (zJ 2) (zE (.int 0))) (zE (.int 2))) qC))))) qO)
 (retXG 3))))
noncomputable def GP.changes_on.f:List D->Option Ret:=runG GP.changes_on.g 4
noncomputable def GP.wheel_of.g:FS:=(qG (ifG (zU (zL ltD (zJ 0) (zE (.int 1)))) (fun _=>none) qO)
 (qG (jM 2 (zL qY (zJ 0) (qF 2 GP.times_on.f (zG (zJ 0) (zG (qF 2 GP.changes_on.f (zG (zJ 0) (zG (zJ 1) qC))) qC)))))
 (retDG (mkT (qN (zG (flV (qW 2)) (zG (mkL (flA (callF 2 GP.parts_in.f (zG (zJ 1) (zG (mkT (qN (zG (zE (.int 0)) (zG (qW 2) qC)))) qC))))) qC)))))))
noncomputable def GP.wheel_of.f:List D->Option Ret:=runG GP.wheel_of.g 3
noncomputable def GP.rolled_out.b1:FS:=(extG 3 (callF 2 GP.shifted.f (zG (zL ixD (zJ 0) (zE (.int 1))) (zG (zL yT (zJ 4) (zJ 2)) qC))))
noncomputable def GP.rolled_out.g:FS:=(qG (jM 2 (zL ixD (zJ 0) (zE (.int 0))))
 (qG (ifG (zU (zL eqD (zJ 2) (zE (.int 1)))) (retOG (compG (viaA (zL ixD (zJ 0) (zE (.int 1))) asLT) [none,none,none,some 1] (tupG 3 (zO (zT 0) (zO (zT 1) (zO (zT 2) tgNil)))) (fun _=>some true) (mkT (qN (zG (zL ixD (zJ 3) (zE (.int 0))) (zG (zL ixD (zJ 3) (zE (.int 1))) (zG (qW 2) qC))))))) qO)
 (qG (setOG 3 (qN qC))
 (qG (forG (rngL (zL qY (zL ixD (zJ 1) (zE (.int 0))) (zJ 2)) (zL xN (zL qY (zL subD (zL ixD (zJ 1) (zE (.int 1))) (zE (.int 1))) (zJ 2)) (zE (.int 1)))) (zT 4) GP.rolled_out.b1)
 (retOG (callF 2 GP.parts_in.f (zG (qF 1 GP.knit.f (zG (zJ 3) qC)) (zG (zJ 1) qC))))))))
noncomputable def GP.rolled_out.f:List D->Option Ret:=runG GP.rolled_out.g 5
noncomputable def GP.size_of.g:FS:=(retG (ifV (zU (zL eqD (zL ixD (zJ 0) (zE (.int 0))) (zE (.int 1)))) (zE (.int 1)) (zL yT (zJ 1) (zL xN (callB lenD (zG (zL ixD (zJ 0) (zE (.int 1))) qC)) (zE (.int 1))))))
noncomputable def GP.size_of.f:List D->Option Ret:=runG GP.size_of.g 2
noncomputable def GP.least_multiple.b1:FS:=(qG (jM 4 (zL xL (zJ 2) (zJ 3)))
 (qG (jM 2 (qW 3))
 (jM 3 (qW 4))))
noncomputable def GP.least_multiple.g:FS:=(qG (jM 2 (qW 0))
 (qG (jM 3 (qW 1))
 (qG (whileN (zU (zL gtD (zJ 3) (zE (.int 0)))) GP.least_multiple.b1 100000)
 (retG (zL yT (zL qY (zJ 0) (zJ 2)) (zJ 1))))))
noncomputable def GP.least_multiple.f:List D->Option Ret:=runG GP.least_multiple.g 5
noncomputable def GP.wheel_joined.g (Φ : Fun2):FS:=(qG (jM 3 (qF 2 GP.least_multiple.f (zG (zL ixD (zJ 0) (zE (.int 0))) (zG (zL ixD (zJ 1) (zE (.int 0))) qC))))
 (qG (ifG (zU (zL gtD (zL xN (qF 2 GP.size_of.f (zG (zJ 0) (zG (zL qY (zJ 3) (zL ixD (zJ 0) (zE (.int 0)))) qC))) (qF 2 GP.size_of.f (zG (zJ 1) (zG (zL qY (zJ 3) (zL ixD (zJ 1) (zE (.int 0)))) qC)))) (zE (.int 300)))) (fun _=>none) qO)
 (qG (jM 4 (mkT (qN (zG (zE (.int 0)) (zG (qW 3) qC)))))
 (retDG (qF 2 GP.wheel_of.f (zG (zJ 3) (zG (qF 3 (GP.joined.f Φ) (zG (qF 2 GP.rolled_out.f (zG (zJ 0) (zG (zJ 4) qC))) (zG (qF 2 GP.rolled_out.f (zG (zJ 1) (zG (zJ 4) qC))) (zG (zJ 2) qC)))) qC)))))))
noncomputable def GP.wheel_joined.f (Φ : Fun2):List D->Option Ret:=runG (GP.wheel_joined.g Φ) 5
noncomputable def GL.end.g:FS:=(retG (orV (zL isD (zJ 0) (zE .non)) (andV (isiG "int" (zJ 0)) (notV (isiG "bool" (zJ 0))))))
noncomputable def GL.end.f:List D->Option Ret:=runG GL.end.g 1
noncomputable def GL.nth.g:FS:=(qG (jM 2 (mkL (catA (mkL (sliA (zJ 0) (soP (zJ 1)) (soP (zL xN (zJ 1) (zE (.int 1)))))) (mkL (qN (zG (zE (.int 0)) qC))))))
 (retG (zL ixD (zJ 2) (zE (.int 0)))))
noncomputable def GL.nth.f:List D->Option Ret:=runG GL.nth.g 3
noncomputable def GL.is_int.g:FS:=(qG (ifG (orT (zU (zL isBD (zJ 0) (zE (.bl true)))) (zU (zL isBD (zJ 0) (zE (.bl false))))) (retG (zE (.bl false))) qO)
 (retG (isiG "int" (zJ 0))))
noncomputable def GL.is_int.f:List D->Option Ret:=runG GL.is_int.g 1
noncomputable def GL.is_map2.b1:FS:=(qG (jM 3 (zL ixD (zJ 0) (zJ 2)))
 (qG (ifG (orT (notT (testT (isiG "tuple" (zJ 3)))) (orT (zU (zL neD (callB lenD (zG (zJ 3) qC)) (zE (.int 3)))) (notT (testT (qF 1 GL.is_int.f (zG (zL ixD (zJ 3) (zE (.int 2))) qC)))))) (retG (zE (.bl false))) qO)
 (qG (ifG (orT (andT (zU (zL isD (zL ixD (zJ 3) (zE (.int 0))) (zE .non))) (zU (zL gtD (zJ 2) (zE (.int 0))))) (andT (zU (zL isD (zL ixD (zJ 3) (zE (.int 1))) (zE .non))) (zU (zL ltD (zL xN (zJ 2) (zE (.int 1))) (callB lenD (zG (zJ 0) qC)))))) (retG (zE (.bl false))) qO)
 (qG (ifG (andT (zU (zL notD (zL ixD (zJ 3) (zE (.int 0))) (zE .non))) (notT (testT (qF 1 GL.is_int.f (zG (zL ixD (zJ 3) (zE (.int 0))) qC))))) (retG (zE (.bl false))) qO)
 (qG (ifG (andT (zU (zL notD (zL ixD (zJ 3) (zE (.int 1))) (zE .non))) (notT (testT (qF 1 GL.is_int.f (zG (zL ixD (zJ 3) (zE (.int 1))) qC))))) (retG (zE (.bl false))) qO)
 (qG (ifG (andT (zU (zL notD (zL ixD (zJ 3) (zE (.int 0))) (zE .non))) (andT (zU (zL notD (zL ixD (zJ 3) (zE (.int 1))) (zE .non))) (zU (zL geD (zL ixD (zJ 3) (zE (.int 0))) (zL ixD (zJ 3) (zE (.int 1))))))) (retG (zE (.bl false))) qO)
 (qG (ifG (andT (zU (zL notD (zJ 1) (zE .non))) (zU (zL ltD (zL ixD (zJ 3) (zE (.int 0))) (zL ixD (zJ 1) (zE (.int 1)))))) (retG (zE (.bl false))) qO)
 (qG (ifG (andT (zU (zL notD (zJ 1) (zE .non))) (andT (zU (zL eqD (zL ixD (zJ 3) (zE (.int 0))) (zL ixD (zJ 1) (zE (.int 1))))) (zU (zL eqD (zL ixD (zJ 3) (zE (.int 2))) (zL ixD (zJ 1) (zE (.int 2))))))) (retG (zE (.bl false))) qO)
 (jM 1 (qW 3))))))))))
noncomputable def GL.is_map2.g:FS:=(qG (ifG (notT (testT (isiG "list" (zJ 0)))) (retG (zE (.bl false))) qO)
 (qG (jM 1 (zE .non))
 (qG (forG (rng1 (callB lenD (zG (zJ 0) qC))) (zT 2) GL.is_map2.b1)
 (retG (zE (.bl true))))))
noncomputable def GL.is_map2.f:List D->Option Ret:=runG GL.is_map2.g 4
noncomputable def GL.value_in.b1:FS:=(ifG (andT (orT (zU (zL isD (zJ 2) (zE .non))) (zU (zL leD (zJ 2) (zJ 1)))) (orT (zU (zL isD (zJ 3) (zE .non))) (zU (zL ltD (zJ 1) (zJ 3))))) (retG (zJ 4)) qO)
noncomputable def GL.value_in.g:FS:=(qG (forG (viaA (qW 0) asLT) (tupG 3 (zO (zT 2) (zO (zT 3) (zO (zT 4) tgNil)))) GL.value_in.b1)
 (retG (zE .non)))
noncomputable def GL.value_in.f:List D->Option Ret:=runG GL.value_in.g 5
noncomputable def GL.ends.b1:FS:=(setOG 1 (catA (zJ 1) (mkL (compG (viaA (mkL (qN (zG (qW 2) (zG (qW 3) qC)))) asLT) [none] (zT 0) (zU (zL notD (zJ 0) (zE .non))) (qW 0)))))
noncomputable def GL.ends.g:FS:=(qG (setOG 1 (qN qC))
 (qG (forG (viaA (qW 0) asLT) (tupG 3 (zO (zT 2) (zO (zT 3) (zO (zT 4) tgNil)))) GL.ends.b1)
 (retXG 1)))
noncomputable def GL.ends.f:List D->Option Ret:=runG GL.ends.g 5
noncomputable def GL.value_in2.b1:FS:=(ifG (andT (orT (zU (zL isD (zJ 2) (zE .non))) (zU (zL leD (zJ 2) (zJ 1)))) (orT (zU (zL isD (zJ 3) (zE .non))) (zU (zL ltD (zJ 1) (zJ 3))))) (retG (zJ 4)) qO)
noncomputable def GL.value_in2.g:FS:=(qG (forG (viaA (qW 0) asLT) (tupG 3 (zO (zT 2) (zO (zT 3) (zO (zT 4) tgNil)))) GL.value_in2.b1)
 (retG (zE .non)))
noncomputable def GL.value_in2.f:List D->Option Ret:=runG GL.value_in2.g 5
noncomputable def GL.ends2.b1:FS:=(setOG 1 (catA (zJ 1) (mkL (compG (viaA (mkL (qN (zG (qW 2) (zG (qW 3) qC)))) asLT) [none] (zT 0) (zU (zL notD (zJ 0) (zE .non))) (qW 0)))))
noncomputable def GL.ends2.g:FS:=(qG (setOG 1 (qN qC))
 (qG (forG (viaA (qW 0) asLT) (tupG 3 (zO (zT 2) (zO (zT 3) (zO (zT 4) tgNil)))) GL.ends2.b1)
 (retXG 1)))
noncomputable def GL.ends2.f:List D->Option Ret:=runG GL.ends2.g 5
noncomputable def GL.is_wheel.g:FS:=(qG (ifG (orT (notT (testT (isiG "tuple" (zJ 0)))) (orT (zU (zL neD (callB lenD (zG (zJ 0) qC)) (zE (.int 2)))) (orT (notT (testT (qF 1 GL.is_int.f (zG (zL ixD (zJ 0) (zE (.int 0))) qC)))) (zU (zL ltD (zL ixD (zJ 0) (zE (.int 0))) (zE (.int 1))))))) (retG (zE (.bl false))) qO)
 (qG (ifG (notT (testT (qF 1 GL.is_map2.f (zG (zL ixD (zJ 0) (zE (.int 1))) qC)))) (retG (zE (.bl false))) qO)
 (qG (ifG (andT (zU (zL neD (zL ixD (zJ 0) (zE (.int 1))) (mkL (qN qC)))) (orT (zU (zL isD (zL ixD (zL ixD (zL ixD (zJ 0) (zE (.int 1))) (zE (.int 0))) (zE (.int 0))) (zE .non))) (zU (zL ltD (zL ixD (zL ixD (zL ixD (zJ 0) (zE (.int 1))) (zE (.int 0))) (zE (.int 0))) (zE (.int 0)))))) (retG (zE (.bl false))) qO)
 (retG (orV (zL eqD (zL ixD (zJ 0) (zE (.int 1))) (mkL (qN qC))) (andV (zL notD (zL ixD (zL ixD (zL ixD (zJ 0) (zE (.int 1))) (un1 negD (zE (.int 1)))) (zE (.int 1))) (zE .non)) (zL leD (zL ixD (zL ixD (zL ixD (zJ 0) (zE (.int 1))) (un1 negD (zE (.int 1)))) (zE (.int 1))) (zL ixD (zJ 0) (zE (.int 0))))))))))
noncomputable def GL.is_wheel.f:List D->Option Ret:=runG GL.is_wheel.g 1
noncomputable def GL.told.g:FS:=(retG (qF 2 GL.value_in2.f (zG (zL ixD (zJ 0) (zE (.int 1))) (zG (zL xL (zJ 1) (zL ixD (zJ 0) (zE (.int 0)))) qC))))
noncomputable def GL.told.f:List D->Option Ret:=runG GL.told.g 2
noncomputable def GL.comes_by.b1:FS:=(ifG (zU (zL neD (qF 2 GL.told.f (zG (zJ 0) (zG (zJ 3) qC))) (qF 2 GL.told.f (zG (zJ 0) (zG (zL xN (zJ 3) (zJ 1)) qC))))) (retG (zE (.bl false))) qO)
noncomputable def GL.comes_by.g:FS:=(qG (jM 2 (mkL (catA (mkL (qN (zG (zE (.int 0)) qC))) (qF 1 GL.ends2.f (zG (zL ixD (zJ 0) (zE (.int 1))) qC)))))
 (qG (forG (viaA (mkL (catA (zJ 2) (mkL (compG (viaA (qW 2) asLT) [none,some 1] (zT 0) (fun _=>some true) (zL subD (zJ 0) (zJ 1)))))) asLT) (zT 3) GL.comes_by.b1)
 (retG (zE (.bl true)))))
noncomputable def GL.comes_by.f:List D->Option Ret:=runG GL.comes_by.g 4
noncomputable def GL.is_least.b1:FS:=(ifG (andT (zU (zL eqD (zL xL (zL ixD (zJ 0) (zE (.int 0))) (zJ 1)) (zE (.int 0)))) (testT (qF 2 GL.comes_by.f (zG (zJ 0) (zG (zL qY (zL ixD (zJ 0) (zE (.int 0))) (zJ 1)) qC))))) (retG (zE (.bl false))) qO)
noncomputable def GL.is_least.g:FS:=(qG (ifG (zU (zL eqD (zL ixD (zJ 0) (zE (.int 0))) (zE (.int 1)))) (retG (zE (.bl true))) qO)
 (qG (ifG (testT (qF 2 GL.comes_by.f (zG (zJ 0) (zG (zE (.int 1)) qC)))) (retG (zE (.bl false))) qO)
 (qG (forG (rng2 (zE (.int 2)) (zL xN (zL yT (zE (.int 2)) (callB lenD (zG (zL ixD (zJ 0) (zE (.int 1))) qC))) (zE (.int 1)))) (zT 1) GL.is_least.b1)
 (retG (zE (.bl true))))))
noncomputable def GL.is_least.f:List D->Option Ret:=runG GL.is_least.g 2
end
namespace FL
open PySem PySem.Spec PyProof.Rows L2
abbrev Spn:=Option Int×Option Int
def spD (s:Spn):D:=.tup [oi s.1,oi s.2]
def oS:Option Spn->D
 | none=>.non
 | some s=>spD s
def hasS (s:Spn) (p:Int):Bool:=(match s.1 with | none=>true | some a=>decide (a<=p)) && (match s.2 with | none=>true | some b=>decide (p < b))
def okS (s:Spn):Prop:=∀ a b,s.1=some a->s.2=some b->a < b
@[simp] theorem spD_0 (s:Spn):ixD (spD s) (.int 0)=some (oi s.1):=ixT0 _ _
@[simp] theorem spD_1 (s:Spn):ixD (spD s) (.int 1)=some (oi s.2):=ixT1 _ _ _
@[simp] theorem spD_flat (s:Spn):flat (spD s)=true:=by simp [spD]
@[simp] theorem spD_flatR (s:Spn):flatR (spD s)=some (.rt (.val (spD s))):=yJ (by simp)
@[simp] theorem spD_shal (s:Spn) (n:Nat):shal (n+1) (spD s)=true:=by simp [spD]
@[simp] theorem spD_isi (s:Spn):isiD "tuple" (spD s)=some (.bl true):=by simp [spD]
@[simp] theorem spD_len (s:Spn):lenD [spD s]=some (.int 2):=by simp [spD]
@[simp] theorem spD_isD (s:Spn):isD (spD s) .non=some (.bl false):=rfl
@[simp] theorem spD_notD (s:Spn):notD (spD s) .non=some (.bl true):=rfl
@[simp] theorem spD_asLT (s:Spn):asLT (spD s)=some [oi s.1,oi s.2]:=rfl
@[simp] theorem spD_eqv (s t:Spn):eqvD (spD s) (spD t)=decide (s=t):=by
 rw [Bool.eq_iff_iff]
 simp [spD,Prod.ext_iff]
@[simp] theorem oS_isD (o:Option Spn):isD (oS o) .non=some (.bl o.isNone):=by cases o <;> rfl
@[simp] theorem oS_notD (o:Option Spn):notD (oS o) .non=some (.bl o.isSome):=by cases o <;> rfl
@[simp] theorem oS_flatR (o:Option Spn):flatR (oS o)=some (.rt (.val (oS o))):=by cases o <;> simp [oS]
def lateL:Option Int->Option Int->Option Int
 | none,b=>b
 | a,none=>a
 | some a,some b=>some (max a b)
def qJ:Option Int->Option Int->Option Int
 | none,b=>b
 | a,none=>a
 | some a,some b=>some (min a b)
def aheadE:Option Int->Option Int->Bool
 | some b,some l=>decide (b<=l)
 | _,_=>false
theorem lateL_eq (a b:Option Int):GP.later_low.f [oi a,oi b]=some (.val (oi (lateL a b))):=by
 unfold GP.later_low.f runG GP.later_low.g
 cases a <;> cases b <;> simp [args,lateL]
theorem earlB_eq (a b:Option Int):GP.earlier_behind.f [oi a,oi b]=some (.val (oi (qJ a b))):=by
 unfold GP.earlier_behind.f runG GP.earlier_behind.g
 cases a <;> cases b <;> simp [args,qJ]
theorem aheadE_eq (a b:Option Int):GP.ends_ahead.f [oi a,oi b]=some (.val (.bl (aheadE a b))):=by
 unfold GP.ends_ahead.f runG GP.ends_ahead.g
 cases a <;> cases b <;> simp [args,aheadE]
def meetS (s t:Spn):Option Spn:=if aheadE (qJ s.2 t.2) (lateL s.1 t.1)=true then none else some (lateL s.1 t.1,qJ s.2 t.2)
theorem meet_eq (s t:Spn):GP.meet.f [spD s,spD t]=some (.val (oS (meetS s t))):=by
 unfold GP.meet.f runG GP.meet.g
 cases h:aheadE (qJ s.2 t.2) (lateL s.1 t.1) <;> simp [args,lateL_eq,earlB_eq,aheadE_eq,h,meetS,oS,spD]
def HasS (s:Spn) (p:Int):Prop:=(∀ a,s.1=some a->a<=p)/\(∀ b,s.2=some b->p < b)
theorem xG (s:Spn) (p:Int):hasS s p=true↔HasS s p:=by
 obtain ⟨a,b⟩:=s
 cases a <;> cases b <;> simp [hasS,HasS]
theorem lateL_le {a c:Option Int} {p:Int} : (∀ x,lateL a c=some x->x<=p)↔(∀ x,a=some x->x<=p)/\(∀ x,c=some x->x<=p):=by
 cases a <;> cases c <;> simp [lateL]
 omega
theorem earlB_lt {a c:Option Int} {p:Int} : (∀ x,qJ a c=some x->p < x)↔(∀ x,a=some x->p < x)/\(∀ x,c=some x->p < x):=by
 cases a <;> cases c <;> simp [qJ]
 omega
theorem aheadE_no {b l:Option Int} {p:Int} (h:aheadE b l=true) (h1:∀ x,l=some x->x<=p) (h2:∀ x,b=some x->p < x):False:=by
 cases b <;> cases l <;> simp [aheadE] at h
 have:=h1 _ rfl
 have:=h2 _ rfl
 omega
def hasO (o:Option Spn) (p:Int):Bool:=match o with
 | none=>false
 | some u=>hasS u p
theorem hasO_meet (s t:Spn) (p:Int):hasO (meetS s t) p=(hasS s p && hasS t p):=by
 rw [Bool.eq_iff_iff,Bool.and_eq_true,xG,xG]
 unfold meetS
 by_cases h:aheadE (qJ s.2 t.2) (lateL s.1 t.1)=true
 · rw [if_pos h]
   refine ⟨fun z=>by simp [hasO] at z,fun z=>(aheadE_no h (lateL_le.mpr ⟨z.1.1,z.2.1⟩) (earlB_lt.mpr ⟨z.1.2,z.2.2⟩)).elim⟩
 · rw [if_neg h]
   show hasS _ p=true↔_
   rw [xG]
   show (∀ x,lateL s.1 t.1=some x->x<=p)/\(∀ x,qJ s.2 t.2=some x->p < x)↔_
   rw [lateL_le,earlB_lt]
   exact ⟨fun ⟨⟨a,b⟩,c,d⟩=>⟨⟨a,c⟩,b,d⟩,fun ⟨⟨a,c⟩,b,d⟩=>⟨⟨a,b⟩,c,d⟩⟩
theorem vV {s t u:Spn} (h:meetS s t=some u):okS u:=by
 unfold meetS at h
 split at h
 · cases h
 · rename_i hn
   cases h
   intro a b h1 h2
   simp only at h1 h2
   rw [h1,h2] at hn
   simp [aheadE] at hn
   omega
abbrev Rw:=Option Int×Option Int×Option Int
def rwD (r:Rw):D:=.tup [oi r.1,oi r.2.1,oi r.2.2]
def has3 (r:Rw) (p:Int):Bool:=hasS (r.1,r.2.1) p
def ok3 (r:Rw):Prop:=okS (r.1,r.2.1)
@[simp] theorem rwD_0 (r:Rw):ixD (rwD r) (.int 0)=some (oi r.1):=ixT0 _ _
@[simp] theorem rwD_1 (r:Rw):ixD (rwD r) (.int 1)=some (oi r.2.1):=ixT1 _ _ _
@[simp] theorem rwD_2 (r:Rw):ixD (rwD r) (.int 2)=some (oi r.2.2):=ixT2 _ _ _ _
@[simp] theorem rwD_flat (r:Rw):flat (rwD r)=true:=by simp [rwD]
@[simp] theorem rwD_flatR (r:Rw):flatR (rwD r)=some (.rt (.val (rwD r))):=yJ (by simp)
@[simp] theorem rwD_shal (r:Rw) (n:Nat):shal (n+1) (rwD r)=true:=by simp [rwD]
@[simp] theorem rwD_isi (r:Rw):isiD "tuple" (rwD r)=some (.bl true):=by simp [rwD]
@[simp] theorem rwD_len (r:Rw):lenD [rwD r]=some (.int 3):=by simp [rwD]
@[simp] theorem rwD_tupG (h:List D->List Sl->Option (List Sl)) (r:Rw) (ds:List Sl):tupG 3 h (rwD r) ds=h [oi r.1,oi r.2.1,oi r.2.2] ds:=by simp [rwD]
@[simp] theorem rwD_eqv (r t:Rw):eqvD (rwD r) (rwD t)=decide (r=t):=by
 obtain ⟨a,b,c⟩:=r
 obtain ⟨x,y,z⟩:=t
 rw [Bool.eq_iff_iff]
 simp [rwD]
theorem yN (l:List Rw):flats (l.map rwD)=true:=by
 induction l with
 | nil=>simp
 | cons a r ih=>simp [ih]
theorem wA (n:Nat) (l:List Rw):shals (n+2) (l.map rwD)=true:=shals_all fun d hd=>by obtain ⟨r,_,rfl⟩:=List.mem_map.mp hd; simp
theorem kI:∀ a b:List Rw,eqvs (a.map rwD) (b.map rwD)=decide (a=b)
 | [],[]=>by simp
 | [],y::b=>by simp
 | x::a,[]=>by simp
 | x :: a, y :: b => by
   simp only [List.map_cons,eqvs_cons,rwD_eqv,kI a b]
   rw [Bool.eq_iff_iff]
   simp
theorem eqD_rw (a b:List Rw):eqD (.lst (a.map rwD)) (.lst (b.map rwD))=some (.bl (decide (a=b))):=by rw [eqD_ok (by simpa using wA 38 a) (by simpa using wA 38 b),eqvD_lst,kI]
theorem neD_rw (a b:List Rw):neD (.lst (a.map rwD)) (.lst (b.map rwD))=some (.bl (!decide (a=b))):=by rw [vT (by simpa using wA 38 a) (by simpa using wA 38 b),eqvD_lst,kI]
theorem eqD_rw_nil (a:List Rw):eqD (.lst (a.map rwD)) (.lst [])=some (.bl a.isEmpty):=by
 have:=eqD_rw a []
 simp only [List.map_nil] at this
 rw [this]
 cases a <;> simp
theorem neD_rw_nil (a:List Rw):neD (.lst (a.map rwD)) (.lst [])=some (.bl (!a.isEmpty)):=by
 have:=neD_rw a []
 simp only [List.map_nil] at this
 rw [this]
 cases a <;> simp
theorem ixN_last {n:Nat} (h:0 < n):ixN n (-1)=some (n - 1):=by
 unfold ixN
 rw [if_neg (by decide),if_pos (by omega)]
 congr 1
 omega
def ahead (a b:Rw):Prop:=∃ x y,a.2.1=some x/\b.1=some y/\x<=y
structure Ord (rows:List Rw):Prop where
 ok:∀ r∈rows,ok3 r
 pw:rows.Pairwise ahead
def Tel (rows:List Rw) (p v:Int):Prop:=∃ r∈rows,has3 r p=true/\r.2.2=some v
def knit1 (acc:List Rw) (r:Rw):List Rw:=match r.2.2 with
 | none=>acc
 | some v => match acc with
   | []=>[r]
   | q::t=>if q.2.1=r.1/\q.2.2=some v then (q.1,r.2.1,some v)::t else r::q::t
def knitF (rows:List Rw):List Rw:=(rows.foldl knit1 []).reverse
theorem knit_turn (acc:List Rw) (r:Rw) (R a b c:Sl) (hl:acc.length < 16777216) :
  GP.knit.b1 [R,.own (acc.map rwD).reverse,.v (oi r.1),.v (oi r.2.1),.v (oi r.2.2)]=some (.nx [R,.own ((knit1 acc r).map rwD).reverse,.v (oi r.1),.v (oi r.2.1),.v (oi r.2.2)]) ∨
  GP.knit.b1 [R,.own (acc.map rwD).reverse,.v (oi r.1),.v (oi r.2.1),.v (oi r.2.2)]=some (.ct [R,.own ((knit1 acc r).map rwD).reverse,.v (oi r.1),.v (oi r.2.1),.v (oi r.2.2)]):=by
 obtain ⟨lo,bh,v⟩:=r
 unfold GP.knit.b1
 cases v with
 | none=>right; simp [knit1]
 | some v =>
   left
   cases acc with
   | nil =>
     have e:D.tup [oi lo,oi bh,.int v]=rwD (lo,bh,some v):=rfl
     simp [knit1,e]
   | cons q t =>
     have last:ixD (.lst ((t.map rwD).reverse++[rwD q])) (.int (-1))=some (rwD q):=wQ _ _
     have le:ixN (t.length+1) (-1)=some t.length:=by rw [ixN_last (by omega)]; rfl
     have hl':t.length+1 < 16777216:=by simpa using hl
     have e2:∀ x:Option Int,eqD (oi x) (D.int v)=some (.bl (decide (x=some v))):=fun x=>eqD_oi x (some v)
     by_cases h1:q.2.1=lo
     · by_cases h2 : q.2.2 = some v
       · have e : D.tup [oi q.1, oi bh, .int v] = rwD (q.1, bh, some v) := rfl
         simp [knit1,h1,h2,last,le,e2,e]
       · have e : D.tup [oi lo, oi bh, .int v] = rwD (lo, bh, some v) := rfl
         simp [knit1,h1,h2,last,le,e2,hl',e]
     · have e : D.tup [oi lo, oi bh, .int v] = rwD (lo, bh, some v) := rfl
       simp [knit1,h1,last,le,hl',e]
theorem knit1_len (acc:List Rw) (r:Rw):(knit1 acc r).length<=acc.length+1:=by
 unfold knit1
 split
 · omega
 · split
   · simp
   · split <;> simp
theorem knit_loop (R:Sl):∀ (rows acc:List Rw) (a b c:Sl),acc.length+rows.length < 16777216 →
  ∃ a' b' c',qS (tupG 3 (zO (zT 2) (zO (zT 3) (zO (zT 4) tgNil)))) GP.knit.b1 (rows.map rwD) [R,.own (acc.map rwD).reverse,a,b,c]=some (.nx [R,.own ((rows.foldl knit1 acc).map rwD).reverse,a',b',c'])
 | [],acc,a,b,c,_=>⟨a,b,c,rfl⟩
 | r :: rows, acc, a, b, c, h => by
   simp only [List.length_cons] at h
   have hl:=knit1_len acc r
   obtain ⟨a',b',c',ih⟩:=knit_loop R rows (knit1 acc r) (.v (oi r.1)) (.v (oi r.2.1)) (.v (oi r.2.2)) (by omega)
   refine ⟨a',b',c',?_⟩
   rcases knit_turn acc r R a b c (by omega) with e | e <;> simp [qS,e,ih]
theorem knit_eq (rows:List Rw) (h:rows.length < 16777216):GP.knit.f [.lst (rows.map rwD)]=some (.fresh ((knitF rows).map rwD)):=by
 obtain ⟨a,b,c,e⟩:=knit_loop (.v (.lst (rows.map rwD))) rows [] .no .no .no (by simpa using h)
 simp only [List.reverse_nil,List.map_nil] at e
 unfold GP.knit.f runG GP.knit.g
 have fl:=yN (knitF rows)
 unfold knitF at fl ⊢
 rw [List.map_reverse] at fl ⊢
 simp [args,e,fl]
theorem knitF_len (rows:List Rw):(knitF rows).length<=rows.length:=by
 unfold knitF
 rw [List.length_reverse]
 have:∀ (rows acc:List Rw),(rows.foldl knit1 acc).length<=acc.length+rows.length:=by
  intro rows
  induction rows with
  | nil=>intro acc; simp
  | cons r t ih =>
    intro acc
    have:=ih (knit1 acc r)
    have:=knit1_len acc r
    simp only [List.foldl_cons,List.length_cons]
    omega
 have:=this rows []
 simpa using this
def adjOk:List Rw->Prop
 | b::a::t=>¬ (a.2.1=b.1/\a.2.2=b.2.2)/\adjOk (a::t)
 | _=>True
structure KI (acc:List Rw):Prop where
 ok:∀ r∈acc,ok3 r
 pw:acc.Pairwise fun b a=>ahead a b
 val:∀ r∈acc,r.2.2≠none
 adj:adjOk acc
theorem KI.nil:KI []:=⟨(fun _ h=>nomatch h),List.Pairwise.nil,(fun _ h=>nomatch h),trivial⟩
theorem qM (r:Rw) (p:Int):has3 r p=true↔(∀ a,r.1=some a->a<=p)/\(∀ b,r.2.1=some b->p < b):=xG _ _
theorem knit1_step {acc:List Rw} {r:Rw} (k:KI acc) (ho:ok3 r) (ha:∀ a∈acc,ahead a r) :
  KI (knit1 acc r)/\(∀ r',ahead r r'->(∀ a∈acc,ahead a r')->∀ a∈knit1 acc r,ahead a r')/\∀ p v,Tel (knit1 acc r) p v↔Tel acc p v \/ (has3 r p=true/\r.2.2=some v):=by
 obtain ⟨lo,bh,w⟩:=r
 cases w with
 | none =>
   refine ⟨k,fun r' _ h=>h,fun p v=>⟨.inl,fun h=>h.elim id fun z=>by simp at z⟩⟩
 | some w =>
   cases acc with
   | nil =>
     refine ⟨⟨?_,?_,?_,trivial⟩,?_,?_⟩
     · intro x hx; simp [knit1] at hx; subst hx; exact ho
     · simp [knit1]
     · intro x hx; simp [knit1] at hx; subst hx; simp
     · intro r' h1 _ a h; simp [knit1] at h; subst h; exact h1
     · intro p v; simp [knit1,Tel]
   | cons q t =>
     obtain ⟨x,y,hx,hy,hxy⟩:=ha q List.mem_cons_self
     simp only at hy
     have pw:=List.pairwise_cons.mp k.pw
     by_cases hm:q.2.1=lo/\q.2.2=some w
     · have e : knit1 (q :: t) (lo, bh, some w) = (q.1, bh, some w) :: t := by simp [knit1, hm.1, hm.2]
       rw [e]
       have exy:x=y:=by
        have:=hm.1
        rw [hx,hy] at this
        exact Option.some.inj this
       have hn:∀ p,has3 (q.1,bh,some w) p=true↔has3 q p=true \/ has3 (lo,bh,some w) p=true:=by
        intro p
        rw [qM,qM,qM]
        simp only
        constructor
        · rintro ⟨h1, h2⟩
          by_cases hp:p < x
          · exact .inl ⟨h1,fun b hb=>by rw [hx] at hb; cases hb; exact hp⟩
          · exact .inr ⟨fun a h=>by rw [hy] at h; cases h; omega,h2⟩
        · rintro (⟨h1, h2⟩ | ⟨h1, h2⟩)
          · refine ⟨h1, fun b hb => ?_⟩
            have:=h2 x hx
            have:=ho y b hy hb
            omega
          · refine ⟨fun a h => ?_, h2⟩
            have:=k.ok q List.mem_cons_self a x h hx
            have:=h1 y hy
            omega
       refine ⟨⟨?_,?_,?_,?_⟩,?_,?_⟩
       · intro z hz
         rcases List.mem_cons.mp hz with rfl | hz
         · intro a b h1 h2
           have:=k.ok q List.mem_cons_self a x h1 hx
           have:=ho y b hy h2
           omega
         · exact k.ok z (List.mem_cons_of_mem _ hz)
       · refine List.pairwise_cons.mpr ⟨fun a h => ?_, pw.2⟩
         exact pw.1 a h
       · intro z hz
         rcases List.mem_cons.mp hz with rfl | hz
         · simp
         · exact k.val z (List.mem_cons_of_mem _ hz)
       · have ka := k.adj
         cases t with
         | nil=>trivial
         | cons a t =>
           refine ⟨fun h=>ka.1 ⟨h.1,?_⟩,ka.2⟩
           rw [hm.2]
           exact h.2
       · intro r' h1 h2 a h
         rcases List.mem_cons.mp h with rfl | h
         · exact h1
         · exact h2 a (List.mem_cons_of_mem _ h)
       · intro p v
         constructor
         · rintro ⟨z, hz, h1, h2⟩
           rcases List.mem_cons.mp hz with rfl | hz
           · rcases (hn p).mp h1 with h3 | h3
             · exact .inl ⟨q,List.mem_cons_self,h3,hm.2.trans h2⟩
             · exact .inr ⟨h3,h2⟩
           · exact .inl ⟨z,List.mem_cons_of_mem _ hz,h1,h2⟩
         · rintro (⟨z, hz, h1, h2⟩ | ⟨h1, h2⟩)
           · rcases List.mem_cons.mp hz with rfl | hz
             · exact ⟨_,List.mem_cons_self,(hn p).mpr (.inl h1),by rw [hm.2] at h2; exact h2⟩
             · exact ⟨z,List.mem_cons_of_mem _ hz,h1,h2⟩
           · exact ⟨_,List.mem_cons_self,(hn p).mpr (.inr h1),h2⟩
     · have e : knit1 (q :: t) (lo, bh, some w) = (lo, bh, some w) :: q :: t := by simp only [knit1]; rw [if_neg hm]
       rw [e]
       refine ⟨⟨?_,List.pairwise_cons.mpr ⟨ha,k.pw⟩,?_,hm,k.adj⟩,?_,?_⟩
       · intro z hz
         rcases List.mem_cons.mp hz with rfl | hz
         · exact ho
         · exact k.ok z hz
       · intro z hz
         rcases List.mem_cons.mp hz with rfl | hz
         · simp
         · exact k.val z hz
       · intro r' h1 h2 a h
         rcases List.mem_cons.mp h with rfl | h
         · exact h1
         · exact h2 a h
       · intro p v
         constructor
         · rintro ⟨z, hz, h1, h2⟩
           rcases List.mem_cons.mp hz with rfl | hz
           · exact .inr ⟨h1,h2⟩
           · exact .inl ⟨z,hz,h1,h2⟩
         · rintro (⟨z, hz, h1, h2⟩ | ⟨h1, h2⟩)
           · exact ⟨z,List.mem_cons_of_mem _ hz,h1,h2⟩
           · exact ⟨_,List.mem_cons_self,h1,h2⟩
theorem vH:∀ (rows acc:List Rw),KI acc->Ord rows->(∀ a∈acc,∀ r∈rows,ahead a r)->KI (rows.foldl knit1 acc)/\∀ p v,Tel (rows.foldl knit1 acc) p v↔Tel acc p v \/ Tel rows p v
 | [],acc,k,_,_=>⟨k,fun p v=>⟨.inl,fun h=>h.elim id fun ⟨r,hr,_⟩=>nomatch hr⟩⟩
 | r :: rows, acc, k, o, h => by
   have pw:=List.pairwise_cons.mp o.pw
   obtain ⟨k1,h1,t1⟩:=knit1_step k (o.ok r List.mem_cons_self) fun a ha=>h a ha r List.mem_cons_self
   obtain ⟨k2,t2⟩:=vH rows (knit1 acc r) k1 ⟨fun z hz=>o.ok z (List.mem_cons_of_mem _ hz),pw.2⟩ fun a ha r' hr'=>h1 r' (pw.1 r' hr') (fun b hb=>h b hb r' (List.mem_cons_of_mem _ hr')) a ha
   refine ⟨k2,fun p v=>?_⟩
   show Tel (rows.foldl knit1 (knit1 acc r)) p v↔_
   rw [t2,t1]
   constructor
   · rintro ((h | ⟨h, e⟩) | ⟨z, hz, h⟩)
     · exact .inl h
     · exact .inr ⟨r,List.mem_cons_self,h,e⟩
     · exact .inr ⟨z,List.mem_cons_of_mem _ hz,h⟩
   · rintro (h' | ⟨z, hz, h'⟩)
     · exact .inl (.inl h')
     · rcases List.mem_cons.mp hz with rfl | hz
       · exact .inl (.inr h')
       · exact .inr ⟨z,hz,h'⟩
structure MapF (ps:List Rw):Prop where
 ord:Ord ps
 val:∀ r∈ps,r.2.2≠none
 adj:∀ (i:Nat) (a b:Rw),ps[i]? = some a->ps[i+1]? = some b->¬ (a.2.1=b.1/\a.2.2=b.2.2)
theorem adjOk_get:∀ {l:List Rw},adjOk l->∀ (i:Nat) (b a:Rw),l[i]? = some b->l[i+1]? = some a->¬ (a.2.1=b.1/\a.2.2=b.2.2)
 | [],_,i,b,a,e,_=>by simp at e
 | [x],_,i,b,a,e,e2=>by simp at e2
 | x :: y :: t, h, 0, b, a, e, e2 => by
   simp at e e2
   subst e e2
   exact h.1
 | x::y::t,h,i+1,b,a,e,e2=>adjOk_get h.2 i b a (by simpa using e) (by simpa using e2)
theorem KI.map {acc:List Rw} (k:KI acc):MapF acc.reverse:=by
 refine ⟨⟨fun r hr=>k.ok r (List.mem_reverse.mp hr),List.pairwise_reverse.mpr k.pw⟩,fun r hr=>k.val r (List.mem_reverse.mp hr),fun i a b h1 h2=>?_⟩
 have l2:=(List.getElem?_eq_some_iff.mp h2).1
 rw [List.length_reverse] at l2
 rw [List.getElem?_reverse (by omega)] at h1 h2
 refine adjOk_get k.adj (acc.length - 1 - (i+1)) b a h2 ?_
 rw [<- h1]
 congr 1
 omega
theorem tel_reverse {l:List Rw} {p v:Int} : Tel l.reverse p v↔Tel l p v:=⟨fun ⟨r,h,q⟩=>⟨r,List.mem_reverse.mp h,q⟩,fun ⟨r,h,q⟩=>⟨r,List.mem_reverse.mpr h,q⟩⟩
theorem knitF_map {rows:List Rw} (o:Ord rows):MapF (knitF rows):=(vH rows [] KI.nil o (fun _ h=>nomatch h)).1.map
theorem knitF_tel {rows:List Rw} (o:Ord rows) (p v:Int):Tel (knitF rows) p v↔Tel rows p v:=by
 unfold knitF
 rw [tel_reverse,(vH rows [] KI.nil o (fun _ h=>nomatch h)).2]
 exact ⟨fun h=>h.elim (fun ⟨r,hr,_⟩=>nomatch hr) id,.inr⟩
def valL (rows:List Rw) (p:Int):Option Int:=rows.foldl (fun t r=>if has3 r p=true then r.2.2 else t) none
theorem xV {a b:Rw} {p:Int} (h:ahead a b) (h1:has3 a p=true) (h2:has3 b p=true):False:=by
 obtain ⟨x,y,hx,hy,hxy⟩:=h
 rw [qM] at h1 h2
 have:=h1.2 x hx
 have:=h2.1 y hy
 omega
theorem valL_none {rows:List Rw} {p:Int} (h:∀ r∈rows,has3 r p=false) (t:Option Int):rows.foldl (fun t r=>if has3 r p=true then r.2.2 else t) t=t:=by
 induction rows generalizing t with
 | nil=>rfl
 | cons r rows ih =>
   rw [List.foldl_cons,h r List.mem_cons_self]
   exact ih (fun z hz=>h z (List.mem_cons_of_mem _ hz)) _
theorem yC {rows:List Rw} (o:Ord rows) (p v:Int):valL rows p=some v↔Tel rows p v:=by
 have key:∀ (rows:List Rw),Ord rows->∀ t:Option Int,rows.foldl (fun t r=>if has3 r p=true then r.2.2 else t) t=(match rows.find? (fun r=>has3 r p) with | some r=>r.2.2 | none=>t):=by
  intro rows
  induction rows with
  | nil=>intro _ t; rfl
  | cons r rows ih =>
    intro o t
    have pw:=List.pairwise_cons.mp o.pw
    rw [List.foldl_cons]
    cases h:has3 r p with
    | true =>
      rw [List.find?_cons_of_pos (by exact h)]
      simp only [if_true]
      exact valL_none (fun z hz=>by
       cases hz':has3 z p with
       | false=>rfl
       | true=>exact (xV (pw.1 z hz) h hz').elim) _
    | false =>
      rw [List.find?_cons_of_neg (by simpa using h)]
      simp only [Bool.false_eq_true,if_false]
      exact ih ⟨fun z hz=>o.ok z (List.mem_cons_of_mem _ hz),pw.2⟩ t
 unfold valL
 rw [key rows o none]
 constructor
 · intro h
   cases hf:rows.find? (fun r=>has3 r p) with
   | none=>rw [hf] at h; cases h
   | some r =>
     rw [hf] at h
     exact ⟨r,List.mem_of_find?_eq_some hf,by simpa using List.find?_some hf,h⟩
 · rintro ⟨r, hr, h1, h2⟩
   cases hf:rows.find? (fun r=>has3 r p) with
   | none =>
     have:=List.find?_eq_none.mp hf r hr
     exact (this h1).elim
   | some r' =>
     have h3:has3 r' p=true:=by simpa using List.find?_some hf
     have hm:=List.mem_of_find?_eq_some hf
     have:r'=r:=by
      by_cases e:r'=r
      · exact e
      · exfalso
        have pw:=o.pw
        rcases List.mem_iff_getElem.mp hr with ⟨i,hi,rfl⟩
        rcases List.mem_iff_getElem.mp hm with ⟨j,hj,rfl⟩
        rcases Nat.lt_trichotomy i j with hlt | hlt | hlt
        · exact xV (List.pairwise_iff_getElem.mp pw i j hi hj hlt) h1 h3
        · subst hlt; exact e rfl
        · exact xV (List.pairwise_iff_getElem.mp pw j i hj hi hlt) h3 h1
     rw [this]
     exact h2
theorem valL_same {a b:List Rw} (oa:Ord a) (ob:Ord b) {p:Int} (h:∀ v,Tel a p v↔Tel b p v):valL a p=valL b p:=by
 cases ha:valL a p with
 | some v=>exact ((yC ob p v).mpr ((h v).mp ((yC oa p v).mp ha))).symm
 | none =>
   cases hb:valL b p with
   | none=>rfl
   | some v =>
     have:=(yC oa p v).mpr ((h v).mpr ((yC ob p v).mp hb))
     rw [ha] at this
     cases this
theorem vB {rows:List Rw} (o:Ord rows) (p:Int):valL rows p=(match rows.find? (fun r=>has3 r p) with | some r=>r.2.2 | none=>none):=by
 cases hf:rows.find? (fun r=>has3 r p) with
 | none =>
   cases hv:valL rows p with
   | none=>rfl
   | some v =>
     obtain ⟨r,hr,h1,_⟩:=(yC o p v).mp hv
     exact (List.find?_eq_none.mp hf r hr h1).elim
 | some r =>
   have hm:=List.mem_of_find?_eq_some hf
   have h3:has3 r p=true:=by simpa using List.find?_some hf
   cases hw:r.2.2 with
   | some v=>exact ((yC o p v).mpr ⟨r,hm,h3,hw⟩).trans hw.symm
   | none =>
     cases hv:valL rows p with
     | none=>exact hw.symm
     | some v =>
       obtain ⟨r',hr',h1,h2⟩:=(yC o p v).mp hv
       have:r'=r:=by
        by_cases e:r'=r
        · exact e
        · exfalso
          rcases List.mem_iff_getElem.mp hr' with ⟨i,hi,rfl⟩
          rcases List.mem_iff_getElem.mp hm with ⟨j,hj,rfl⟩
          rcases Nat.lt_trichotomy i j with hlt | hlt | hlt
          · exact xV (List.pairwise_iff_getElem.mp o.pw i j hi hj hlt) h1 h3
          · subst hlt; exact e rfl
          · exact xV (List.pairwise_iff_getElem.mp o.pw j i hj hi hlt) h3 h1
       rw [this,hw] at h2
       cases h2
def runsR (here:Option Int) (b:Bool):List Rw->List Rw
 | []=>if here≠none \/ b=true then [(here,none,none)] else []
 | r::t=>(if r.1≠here then [(here,r.1,none)] else [])++r::runsR r.2.1 false t
def qI (ps:List Rw):List Rw:=runsR none true ps
def runsB (here:Option Int):List Rw->List Rw
 | []=>[]
 | r::t=>(if r.1≠here then [(here,r.1,none)] else [])++r::runsB r.2.1 t
def lastB (here:Option Int):List Rw->Option Int
 | []=>here
 | r::t=>lastB r.2.1 t
theorem kH:∀ (ps:List Rw) (here:Option Int) (b:Bool),runsR here b ps=runsB here ps++(if lastB here ps≠none \/ (b=true/\ps=[]) then [(lastB here ps,none,none)] else [])
 | [],here,b=>by simp [runsR,runsB,lastB]
 | r :: t, here, b => by
   rw [runsR,kH t]
   simp [runsB,lastB]
theorem vN:∀ (ps:List Rw) (here:Option Int),(runsB here ps).length<=2 * ps.length
 | [],here=>by simp [runsB]
 | r :: t, here => by
   have:=vN t r.2.1
   rw [runsB]
   split <;> simp <;> omega
theorem vE (R:Sl):∀ (ps acc:List Rw) (here:Option Int) (a b c:Sl),acc.length+2 * ps.length < 16777216->∃ a' b' c',qS (tupG 3 (zO (zT 3) (zO (zT 4) (zO (zT 5) tgNil)))) GP.runs_of.b1 (ps.map rwD) [R,.own (acc.map rwD),.v (oi here),a,b,c]=some (.nx [R,.own ((acc++runsB here ps).map rwD),.v (oi (lastB here ps)),a',b',c'])
 | [],acc,here,a,b,c,_=>⟨a,b,c,by simp [runsB,lastB,qS]⟩
 | r :: ps, acc, here, a, b, c, h => by
   simp only [List.length_cons] at h
   have e0:D.tup [oi here,oi r.1,.non]=rwD (here,r.1,none):=rfl
   have e1:D.tup [oi r.1,oi r.2.1,oi r.2.2]=rwD r:=rfl
   have z1:acc.length < 16777216:=by omega
   have z2:acc.length+1 < 16777216:=by omega
   by_cases hr:r.1=here
   · subst hr
     obtain ⟨a',b',c',ih⟩:=vE R ps (acc++[r]) r.2.1 (.v (oi r.1)) (.v (oi r.2.1)) (.v (oi r.2.2)) (by simp; omega)
     refine ⟨a',b',c',?_⟩
     simp only [List.map_append,List.map_cons,List.map_nil,List.append_assoc,List.cons_append,List.nil_append] at ih
     have turn:GP.runs_of.b1 [R,.own (acc.map rwD),.v (oi r.1),.v (oi r.1),.v (oi r.2.1),.v (oi r.2.2)]=some (.nx [R,.own (acc.map rwD++[rwD r]),.v (oi r.2.1),.v (oi r.1),.v (oi r.2.1),.v (oi r.2.2)]):=by simp [GP.runs_of.b1,z1,e1]
     simp [qS,turn,ih,runsB,lastB]
   · obtain ⟨a', b', c', ih⟩ := vE R ps (acc ++ [(here, r.1, none), r]) r.2.1 (.v (oi r.1)) (.v (oi r.2.1)) (.v (oi r.2.2)) (by simp; omega)
     refine ⟨a',b',c',?_⟩
     simp only [List.map_append,List.map_cons,List.map_nil,List.append_assoc,List.cons_append,List.nil_append] at ih
     have turn:GP.runs_of.b1 [R,.own (acc.map rwD),.v (oi here),.v (oi r.1),.v (oi r.2.1),.v (oi r.2.2)]=some (.nx [R,.own (acc.map rwD++[rwD (here,r.1,none),rwD r]),.v (oi r.2.1),.v (oi r.1),.v (oi r.2.1),.v (oi r.2.2)]):=by simp [GP.runs_of.b1,z1,z2,e0,e1,hr]
     simp [qS,turn,ih,runsB,lastB,hr]
theorem runs_eq (ps:List Rw) (h:ps.length<=1000000):GP.runs_of.f [.lst (ps.map rwD)]=some (.fresh ((qI ps).map rwD)):=by
 obtain ⟨a,b,c,e⟩:=vE (.v (.lst (ps.map rwD))) ps [] none .no .no .no (by simp; omega)
 have hl:=vN ps none
 have z:(runsB none ps).length < 16777216:=by omega
 simp only [List.map_nil,List.nil_append,oi_none] at e
 have fl:=yN (qI ps)
 unfold qI at fl ⊢
 rw [kH] at fl ⊢
 unfold GP.runs_of.f runG GP.runs_of.g
 have e0:D.tup [oi (lastB none ps),.non,.non]=rwD (lastB none ps,none,none):=rfl
 cases hb:lastB none ps with
 | some x =>
   rw [hb] at e e0 fl
   simp at fl e0
   simp [args,e,z,e0,fl]
 | none =>
   rw [hb] at e e0 fl
   cases ps with
   | nil =>
     simp [runsB] at e fl
     simp [args,e,runsB,rwD]
   | cons r t =>
     simp at fl
     simp only [List.map_cons,oi_none] at e
     simp [args,e,fl]
def befo (p:Int):Option Int->Bool
 | some a=>decide (p < a)
 | none=>false
def inso (p:Int):Option Int->Bool
 | some b=>decide (p < b)
 | none=>true
def lookF (p:Int) (here:Option Int):List Rw->Rw
 | []=>(here,none,none)
 | r :: t => if befo p r.1 = true then (here, r.1, none)
   else if inso p r.2.1=true then r else lookF p r.2.1 t
theorem look_runs (p:Int):∀ (ps:List Rw) (here:Option Int) (b:Bool),Ord ps->(∀ r,ps.head? = some r->r.1=none->here=none)->(∀ h,here=some h->h<=p)->(here≠none \/ b=true)->(runsR here b ps).find? (fun r=>has3 r p)=some (lookF p here ps)
 | [], here, b, _, _, h, hb => by
   have:has3 (here,none,none) p=true:=by
    rw [qM]
    exact ⟨h,fun b e=>by cases e⟩
   simp [runsR,hb,lookF,this]
 | r :: t, here, b, o, hN, h, hb => by
   obtain ⟨lo,bh,w⟩:=r
   have pw:=List.pairwise_cons.mp o.pw
   rw [runsR,lookF]
   simp only
   by_cases h1:befo p lo=true
   · rw [if_pos h1]
     cases lo with
     | none=>simp [befo] at h1
     | some a =>
       have hp:p < a:=by simpa [befo] using h1
       have hne:(some a:Option Int)≠here:=fun e=>by
        have:=h a e.symm
        omega
       have hg:has3 (here,some a,none) p=true:=by
        rw [qM]
        exact ⟨h,fun b e=>by cases e; exact hp⟩
       rw [if_pos hne]
       simp [hg]
   · rw [if_neg h1]
     have hlo:∀ a,lo=some a->a<=p:=fun a e=>by
      subst e
      have : ¬ p < a:=by simpa [befo] using h1
      omega
     have skip:(if lo≠here then [((here,lo,none):Rw)] else []).find? (fun r=>has3 r p)=none:=by
      split
      · rename_i hne
        have:has3 (here,lo,none) p=false:=by
         rw [Bool.eq_false_iff]
         intro z
         rw [qM] at z
         cases lo with
         | none =>
           cases here with
           | none=>exact hne rfl
           | some x =>
             have:=hN _ rfl rfl
             cases this
         | some a =>
           have:=z.2 a rfl
           have:=hlo a rfl
           omega
        simp [this]
      · rfl
     rw [List.find?_append,skip]
     simp only [Option.none_or]
     by_cases h2:inso p bh=true
     · rw [if_pos h2]
       have:has3 (lo,bh,w) p=true:=by
        rw [qM]
        refine ⟨hlo,fun b e=>?_⟩
        simp only at e
        subst e
        simpa [inso] using h2
       rw [List.find?_cons_of_pos (by exact this)]
     · rw [if_neg h2]
       cases bh with
       | none=>simp [inso] at h2
       | some b =>
         have hp:b<=p:=by
          have : ¬ p < b:=by simpa [inso] using h2
          omega
         have:has3 (lo,some b,w) p=false:=by
          rw [Bool.eq_false_iff]
          intro z
          rw [qM] at z
          have:=z.2 b rfl
          omega
         rw [List.find?_cons_of_neg (by simpa using this)]
         exact look_runs p t (some b) false ⟨fun z hz=>o.ok z (List.mem_cons_of_mem _ hz),pw.2⟩ (fun r' e e'=>by
          obtain ⟨x,y,_,hy,_⟩:=pw.1 r' (List.mem_of_mem_head? e)
          rw [e'] at hy
          cases hy) (fun x e=>by cases e; exact hp) (.inl (by simp))
theorem look_all {ps:List Rw} (o:Ord ps) (p:Int):(qI ps).find? (fun r=>has3 r p)=some (lookF p none ps):=look_runs p ps none true o (fun _ _ _=>rfl) (fun h e=>by cases e) (.inr rfl)
theorem look_val (p:Int):∀ (ps:List Rw) (here:Option Int),Ord ps->(lookF p here ps).2.2=(match ps.find? (fun r=>has3 r p) with | some r=>r.2.2 | none=>none)
 | [],here,_=>rfl
 | r :: t, here, o => by
   have pw:=List.pairwise_cons.mp o.pw
   obtain ⟨lo,bh,w⟩:=r
   rw [lookF]
   simp only
   by_cases h1:befo p lo=true
   · rw [if_pos h1]
     cases lo with
     | none=>simp [befo] at h1
     | some a =>
       have hp:p < a:=by simpa [befo] using h1
       have:((some a,bh,w)::t).find? (fun r=>has3 r p)=none:=by
        rw [List.find?_eq_none]
        intro z hz hh
        rw [qM] at hh
        rcases List.mem_cons.mp hz with rfl | hz
        · have := hh.1 a rfl
          omega
        · obtain ⟨x, y, hx, hy, hxy⟩ := pw.1 z hz
          have:=hh.1 y hy
          have:=o.ok _ List.mem_cons_self a x rfl hx
          omega
       rw [this]
   · rw [if_neg h1]
     have hlo:∀ a,lo=some a->a<=p:=fun a e=>by
      subst e
      have : ¬ p < a:=by simpa [befo] using h1
      omega
     by_cases h2:inso p bh=true
     · rw [if_pos h2]
       have:has3 (lo,bh,w) p=true:=by
        rw [qM]
        refine ⟨hlo,fun b e=>?_⟩
        simp only at e
        subst e
        simpa [inso] using h2
       rw [List.find?_cons_of_pos (by exact this)]
     · rw [if_neg h2]
       have:has3 (lo,bh,w) p=false:=by
        rw [Bool.eq_false_iff]
        intro z
        rw [qM] at z
        cases bh with
        | none=>simp [inso] at h2
        | some b =>
          have:=z.2 b rfl
          have : ¬ p < b:=by simpa [inso] using h2
          omega
       rw [List.find?_cons_of_neg (by simpa using this)]
       exact look_val p t bh ⟨fun z hz=>o.ok z (List.mem_cons_of_mem _ hz),pw.2⟩
theorem yE (ps:List Rw):(qI ps).length<=2 * ps.length+1:=by
 unfold qI
 rw [kH]
 have:=vN ps none
 split <;> simp <;> omega
def part1 (s:Spn) (r:Rw):Option Rw:=(meetS (r.1,r.2.1) s).map fun u=>(u.1,u.2,r.2.2)
def qD (ps:List Rw) (s:Spn):List Rw:=ps.filterMap (part1 s)
theorem wE (R:Sl) (s:Spn):∀ (ps acc:List Rw) (a b c d:Sl),acc.length+ps.length < 16777216->∃ a' b' c' d',qS (tupG 3 (zO (zT 3) (zO (zT 4) (zO (zT 5) tgNil)))) GP.parts_in.b1 (ps.map rwD) [R,.v (spD s),.own (acc.map rwD),a,b,c,d]=some (.nx [R,.v (spD s),.own ((acc++qD ps s).map rwD),a',b',c',d'])
 | [],acc,a,b,c,d,_=>⟨a,b,c,d,by simp [qD,qS]⟩
 | r :: ps, acc, a, b, c, d, h => by
   simp only [List.length_cons] at h
   have me:GP.meet.f [.tup [oi r.1,oi r.2.1],spD s]=some (.val (oS (meetS (r.1,r.2.1) s))):=meet_eq (r.1,r.2.1) s
   cases hm:meetS (r.1,r.2.1) s with
   | none =>
     rw [hm] at me
     obtain ⟨a',b',c',d',ih⟩:=wE R s ps acc (.v (oi r.1)) (.v (oi r.2.1)) (.v (oi r.2.2)) (.v .non) (by omega)
     refine ⟨a',b',c',d',?_⟩
     have turn:GP.parts_in.b1 [R,.v (spD s),.own (acc.map rwD),.v (oi r.1),.v (oi r.2.1),.v (oi r.2.2),d]=some (.nx [R,.v (spD s),.own (acc.map rwD),.v (oi r.1),.v (oi r.2.1),.v (oi r.2.2),.v .non]):=by simp [GP.parts_in.b1,me,oS]
     have e:qD (r::ps) s=qD ps s:=by simp [qD,part1,hm]
     rw [e]
     simp [qS,turn,ih]
   | some u =>
     rw [hm] at me
     obtain ⟨a',b',c',d',ih⟩:=wE R s ps (acc++[(u.1,u.2,r.2.2)]) (.v (oi r.1)) (.v (oi r.2.1)) (.v (oi r.2.2)) (.v (spD u)) (by simp; omega)
     refine ⟨a',b',c',d',?_⟩
     have z:acc.length < 16777216:=by omega
     have e0:D.tup [oi u.1,oi u.2,oi r.2.2]=rwD (u.1,u.2,r.2.2):=rfl
     have turn:GP.parts_in.b1 [R,.v (spD s),.own (acc.map rwD),.v (oi r.1),.v (oi r.2.1),.v (oi r.2.2),d]=some (.nx [R,.v (spD s),.own (acc.map rwD++[rwD (u.1,u.2,r.2.2)]),.v (oi r.1),.v (oi r.2.1),.v (oi r.2.2),.v (spD u)]):=by simp [GP.parts_in.b1,me,oS,z,e0]
     have e:qD (r::ps) s=(u.1,u.2,r.2.2)::qD ps s:=by simp [qD,part1,hm]
     rw [e]
     simp only [List.map_append,List.map_cons,List.map_nil,List.append_assoc,List.cons_append,List.nil_append] at ih ⊢
     simp [qS,turn,ih]
theorem yX (ps:List Rw) (s:Spn):(qD ps s).length<=ps.length:=List.length_filterMap_le _ _
theorem vU (ps:List Rw) (s:Spn) (h:ps.length < 16777216):GP.parts_in.f [.lst (ps.map rwD),spD s]=some (.fresh ((qD ps s).map rwD)):=by
 obtain ⟨a,b,c,d,e⟩:=wE (.v (.lst (ps.map rwD))) s ps [] .no .no .no .no (by simpa using h)
 simp only [List.map_nil,List.nil_append] at e
 unfold GP.parts_in.f runG GP.parts_in.g
 simp [args,e,yN]
theorem qZ {s:Spn} {r r':Rw} (h:part1 s r=some r'):ok3 r'/\r'.2.2=r.2.2/\(∀ p,has3 r' p=(has3 r p && hasS s p))/\(∀ x,r.2.1=some x->∃ x',r'.2.1=some x'/\x'<=x)/\(∀ y,r.1=some y->∃ y',r'.1=some y'/\y<=y')/\(∀ x,s.2=some x->∃ x',r'.2.1=some x'/\x'<=x)/\(∀ y,s.1=some y->∃ y',r'.1=some y'/\y<=y'):=by
 unfold part1 at h
 cases hm:meetS (r.1,r.2.1) s with
 | none=>rw [hm] at h; cases h
 | some u =>
   rw [hm] at h
   cases h
   have hp:=fun p=>hasO_meet (r.1,r.2.1) s p
   rw [hm] at hp
   refine ⟨vV hm,rfl,fun p=>hp p,?_,?_,?_,?_⟩
   all_goals (unfold meetS at hm; split at hm; (· cases hm); cases hm)
   · intro x hx
     show ∃ x',qJ r.2.1 s.2=some x'/\x'<=x
     rw [hx]
     cases s.2 <;> simp [qJ]
     omega
   · intro y hy
     show ∃ y',lateL r.1 s.1=some y'/\y<=y'
     rw [hy]
     cases s.1 <;> simp [lateL]
     omega
   · intro x hx
     show ∃ x',qJ r.2.1 s.2=some x'/\x'<=x
     rw [hx]
     cases r.2.1 <;> simp [qJ]
     omega
   · intro y hy
     show ∃ y',lateL r.1 s.1=some y'/\y<=y'
     rw [hy]
     cases r.1 <;> simp [lateL]
     omega
theorem part1_none {s:Spn} {r:Rw} (h:part1 s r=none) (p:Int):(has3 r p && hasS s p)=false:=by
 unfold part1 at h
 have hp:=hasO_meet (r.1,r.2.1) s p
 cases hm:meetS (r.1,r.2.1) s with
 | none=>rw [hm] at hp; exact hp.symm
 | some u=>rw [hm] at h; cases h
theorem mem_parts {ps:List Rw} {s:Spn} {r':Rw} : r'∈qD ps s↔∃ r∈ps,part1 s r=some r':=List.mem_filterMap
theorem parts_ord {ps:List Rw} (o:Ord ps) (s:Spn):Ord (qD ps s):=by
 refine ⟨fun r' h=>?_,?_⟩
 · obtain ⟨r, _, h⟩ := mem_parts.mp h
   exact (qZ h).1
 · unfold qD
   rw [List.pairwise_filterMap]
   refine o.pw.imp fun {a b} hab a' ha b' hb=>?_
   obtain ⟨x,y,hx,hy,hxy⟩:=hab
   obtain ⟨x',e1,h1⟩:=(qZ ha).2.2.2.1 x hx
   obtain ⟨y',e2,h2⟩:=(qZ hb).2.2.2.2.1 y hy
   exact ⟨x',y',e1,e2,by omega⟩
theorem parts_tel {ps:List Rw} {s:Spn} {p v:Int} : Tel (qD ps s) p v↔hasS s p=true/\Tel ps p v:=by
 constructor
 · rintro ⟨r', h, h1, h2⟩
   obtain ⟨r,hr,h⟩:=mem_parts.mp h
   obtain ⟨_,e,hh,_⟩:=qZ h
   rw [hh p,Bool.and_eq_true] at h1
   exact ⟨h1.2,r,hr,h1.1,e ▸ h2⟩
 · rintro ⟨hs, r, hr, h1, h2⟩
   cases h:part1 s r with
   | none =>
     have:=part1_none h p
     rw [h1,hs] at this
     cases this
   | some r' =>
     obtain ⟨_,e,hh,_⟩:=qZ h
     exact ⟨r',mem_parts.mpr ⟨r,hr,h⟩,by rw [hh p,h1,hs]; rfl,e.trans h2⟩
abbrev Rv:=Spn×Option Int
def rvD (r:Rv):D:=.tup [spD r.1,oi r.2]
@[simp] theorem rvD_flat (r:Rv):flat (rvD r)=true:=by simp [rvD]
@[simp] theorem rvD_flatR (r:Rv):flatR (rvD r)=some (.rt (.val (rvD r))):=yJ (by simp)
@[simp] theorem rvD_shal (r:Rv) (n:Nat):shal (n+2) (rvD r)=true:=by simp [rvD]
@[simp] theorem rvD_tupG (h:List D->List Sl->Option (List Sl)) (r:Rv) (ds:List Sl):tupG 2 h (rvD r) ds=h [spD r.1,oi r.2] ds:=by simp [rvD]
@[simp] theorem rvD_eqv (r t:Rv):eqvD (rvD r) (rvD t)=decide (r=t):=by
 obtain ⟨a,b⟩:=r
 obtain ⟨x,y⟩:=t
 rw [Bool.eq_iff_iff]
 simp [rvD]
theorem MapF.nil:MapF []:=⟨⟨(fun _ h=>nomatch h),List.Pairwise.nil⟩,(fun _ h=>nomatch h),(fun i a b h _=>by simp at h)⟩
open Builtin.Int (intBits)
def cel (ns:List Int) (k:Nat):Int:=ns.getD k 0
theorem jH {a:Int} {m:Nat} (h:a.natAbs < 2 ^ m):intBits a<=m:=intBits_le_iff.mpr h
theorem end_eq (o:Option Int):GL.end.f [oi o]=some (.val (.bl true)):=by
 unfold GL.end.f runG GL.end.g
 cases o <;> simp [args]
@[simp] theorem end_int (i:Int):GL.end.f [.int i]=some (.val (.bl true)):=end_eq (some i)
@[simp] theorem end_non:GL.end.f [.non]=some (.val (.bl true)):=end_eq none
end FL
namespace FL
open PySem PySem.Spec PyProof.Rows L2
open Builtin.Int (intBits)
structure Drawn (rows:List Rw) (s:Int):Prop where
 ord:Ord rows
 fin:∀ r∈rows,∃ lo bh,r.1=some lo/\r.2.1=some bh/\bh<=s
theorem Drawn.snoc {rows:List Rw} {s lo bh:Int} {v:Option Int} (h:Drawn rows s) (h1:s<=lo) (h2:lo < bh):Drawn (rows++[(some lo,some bh,v)]) bh:=by
 refine ⟨⟨fun r hr=>?_,?_⟩,fun r hr=>?_⟩
 · rcases List.mem_append.mp hr with hr | hr
   · exact h.ord.ok r hr
   · have : r = (some lo, some bh, v) := by simpa using hr
     subst this
     intro a b e1 e2
     cases e1; cases e2; exact h2
 · refine List.pairwise_append.mpr ⟨h.ord.pw, List.pairwise_singleton _ _, fun a ha b hb => ?_⟩
   have:b=(some lo,some bh,v):=by simpa using hb
   subst this
   obtain ⟨x,y,e1,e2,e3⟩:=h.fin a ha
   exact ⟨y,lo,e2,rfl,by omega⟩
 · rcases List.mem_append.mp hr with hr | hr
   · obtain ⟨x, y, e1, e2, e3⟩ := h.fin r hr
     exact ⟨x,y,e1,e2,by omega⟩
   · have : r = (some lo, some bh, v) := by simpa using hr
     subst this
     exact ⟨lo,bh,rfl,rfl,Int.le_refl _⟩
end FL
namespace FL
open PySem PySem.Spec PyProof.Rows L2
open Builtin.Int (intBits)
end FL
namespace FL
open PySem PySem.Spec PyProof.Rows L2
theorem loop_all {α : Type} {ga:D->List Sl->Option (List Sl)} {body:FS} (f : α->D) (q : α->Bool) (P:List Sl->Prop) (r:Ret):∀ (xs:List α) (ds:List Sl),P ds →
  (∀ x∈xs,∀ ds,P ds->∃ ds1,ga (f x) ds=some ds1/\((q x=true/\∃ ds2,body ds1=some (.nx ds2)/\P ds2) \/ (q x=false/\body ds1=some (.rt r)))) →
  (xs.all q=true/\∃ ds',qS ga body (xs.map f) ds=some (.nx ds')/\P ds') \/ (xs.all q=false/\qS ga body (xs.map f) ds=some (.rt r))
 | [],ds,h,_=>.inl ⟨rfl,ds,rfl,h⟩
 | x :: xs, ds, h, H => by
   obtain ⟨ds1,e1,hh⟩:=H x List.mem_cons_self ds h
   rcases hh with ⟨hq,ds2,e2,h2⟩ | ⟨hq,e2⟩
   · have ih := loop_all (ga := ga) (body := body) f q P r xs ds2 h2 fun y hy => H y (List.mem_cons_of_mem _ hy)
     simp only [List.map_cons,qS,e1,e2,Option.bind_some,List.all_cons,hq,Bool.true_and]
     exact ih
   · right
     simp [qS,e1,e2,hq]
theorem yV {α : Type} {ga:D->List Sl->Option (List Sl)} {fe:FE} {s0:List Sl} (f h : α->D):∀ (xs:List α),(∀ x∈xs,∃ ds1,ga (f x) s0=some ds1/\fe ds1=some (h x))->compL ga (fun _=>some true) fe s0 (xs.map f)=some (xs.map h)
 | [],_=>rfl
 | x :: xs, H => by
   obtain ⟨ds1,e1,e2⟩:=H x List.mem_cons_self
   have ih:=yV (ga:=ga) (fe:=fe) (s0:=s0) f h xs fun y hy=>H y (List.mem_cons_of_mem _ hy)
   simp only [List.map_cons,compL,e1,e2,ih,Option.bind_some,if_true,Option.map_some]
def Til:Option Int->List Rw->Prop
 | _,[]=>False
 | here,r::rs=>r.1=here/\(∀ h x,here=some h->r.2.1=some x->h < x)/\(r.2.1=none->rs=[])/\∀ x,r.2.1=some x->Til (some x) rs
theorem til_runs:∀ (ps:List Rw) (here:Option Int) (b:Bool),Ord ps->(∀ r,ps.head? = some r->(r.1=none->here=none)/\∀ h l,here=some h->r.1=some l->h<=l)->(here≠none \/ b=true)->Til here (runsR here b ps)
 | [], here, b, _, _, hb => by
   unfold runsR
   rw [if_pos hb]
   exact ⟨rfl,(fun _ _ _ e=>nomatch e),fun _=>rfl,(fun _ e=>nomatch e)⟩
 | r :: t, here, b, o, hh, hb => by
   obtain ⟨hn,hs⟩:=hh r rfl
   have pw:=List.pairwise_cons.mp o.pw
   have o':Ord t:=⟨fun z hz=>o.ok z (List.mem_cons_of_mem _ hz),pw.2⟩
   have ok:=o.ok r List.mem_cons_self
   have core:Til r.1 (r::runsR r.2.1 false t):=by
    refine ⟨rfl,fun h x e1 e2=>ok h x e1 e2,fun e=>?_,fun x e=>?_⟩
    · cases t with
      | nil=>rw [e]; simp [runsR]
      | cons r' t' =>
        obtain ⟨x,y,h1,_⟩:=pw.1 r' List.mem_cons_self
        rw [e] at h1
        cases h1
    · rw [e]
      refine til_runs t (some x) false o' (fun r' hr'=>?_) (.inl (by simp))
      obtain ⟨x',y,h1,h2,h3⟩:=pw.1 r' (List.mem_of_mem_head? hr')
      rw [e] at h1
      cases h1
      rw [h2]
      exact ⟨(fun z=>nomatch z),fun h l e1 e2=>by cases e1; cases e2; exact h3⟩
   unfold runsR
   by_cases he:r.1=here
   · simp only [ne_eq, he, not_true_eq_false, if_false, List.nil_append]
     rw [<- he]
     exact core
   · simp only [ne_eq, he, not_false_eq_true, if_true, List.cons_append, List.nil_append]
     refine ⟨rfl,fun h x e1 e2=>?_,fun e=>?_,fun x e=>?_⟩
     · have := hs h x e1 e2
       have:x≠h:=fun z=>he (by rw [show r.1=some x from e2,e1,z])
       omega
     · have e' : r.1 = none := e
       exact (he (by rw [e',hn e'])).elim
     · have e' : r.1 = some x := e
       rw [e'] at core
       exact core
theorem jU {ps:List Rw} (o:Ord ps):Til none (qI ps):=til_runs ps none true o (fun r _=>⟨fun _=>rfl,(fun h l e1=>nomatch e1)⟩) (.inr rfl)
def befB (p:Int) (r:Rw):Bool:=match r.2.1 with | none=>true | some x=>decide (p < x)
theorem vX (p:Int):∀ (rs:List Rw) (here:Option Int),Til here rs->(∀ h,here=some h->h<=p)->rs.find? (fun r=>has3 r p)=rs.find? (befB p)
 | [],_,h,_=>h.elim
 | r :: rs, here, h, hp => by
   obtain ⟨h1,h2,h3,h4⟩:=h
   have e:has3 r p=befB p r:=by
    unfold has3 hasS befB
    rw [h1]
    cases hr:here with
    | none=>cases r.2.1 <;> simp
    | some x=>have:=hp x hr; cases r.2.1 <;> simp [this]
   rw [List.find?_cons,List.find?_cons,e]
   cases hb:befB p r with
   | true=>rfl
   | false =>
     simp only
     cases hx:r.2.1 with
     | none=>unfold befB at hb; rw [hx] at hb; cases hb
     | some x =>
       unfold befB at hb
       rw [hx] at hb
       simp at hb
       exact vX p rs (some x) (h4 x hx) fun h e=>by cases e; exact hb
def atB (p:Int) (rs:List Rw):Option Int:=match rs.find? (befB p) with | some r=>r.2.2 | none=>none
theorem atB_val {ps:List Rw} (o:Ord ps) (p:Int):atB p (qI ps)=valL ps p:=by
 unfold atB
 rw [<- vX p _ none (jU o) (fun h e=>nomatch e),look_all o p]
 simp only
 rw [look_val p ps none o,vB o]
theorem atB_hd {p:Int} {r:Rw} {rs:List Rw} (h:befB p r=true):atB p (r::rs)=r.2.2:=by
 unfold atB
 rw [List.find?_cons,h]
theorem atB_tl {p:Int} {r:Rw} {rs:List Rw} (h:befB p r=false):atB p (r::rs)=atB p rs:=by
 unfold atB
 rw [List.find?_cons,h]
abbrev R4:=Option Int×Option Int×Option Int×Option Int
def r4D (r:R4):D:=.tup [oi r.1,oi r.2.1,oi r.2.2.1,oi r.2.2.2]
def Rem:Option Int->List Rw->Prop
 | _,[]=>False
 | here,r::rs=>(∀ h x,here=some h->r.2.1=some x->h < x)/\(r.2.1=none->rs=[])/\∀ x,r.2.1=some x->Rem (some x) rs
theorem Til.rem:∀ {rs:List Rw} {here:Option Int},Til here rs->Rem here rs
 | [],_,h=>h.elim
 | r::rs,_,⟨_,h2,h3,h4⟩=>⟨h2,h3,fun x e=>(h4 x e).rem⟩
def stp (e:Option Int):List Rw->List Rw
 | []=>[]
 | a::as=>if a.2.1=e then as else a::as
theorem jK (e:Option Int) (a:Rw) (as:List Rw):stp e (a::as)=if a.2.1=e then as else a::as:=rfl
def jN:Nat->Option Int->List Rw->List Rw->List R4
 | 0,_,_,_=>[]
 | n+1,here,a::as,b::bs=>(here,qJ a.2.1 b.2.1,a.2.2,b.2.2)::jN n (qJ a.2.1 b.2.1) (stp (qJ a.2.1 b.2.1) (a::as)) (stp (qJ a.2.1 b.2.1) (b::bs))
 | _+1,_,_,_=>[]
def Both (here:Option Int) (as bs:List Rw):Prop:=(as=[]/\bs=[]) \/ (Rem here as/\Rem here bs)
theorem yZ {here:Option Int} {a:Rw} {as:List Rw} (h:Rem here (a::as)) {x:Int} (hx:∀ y,a.2.1=some y->x<=y):a.2.1=none/\stp (some x) (a::as)=a::as/\Rem (some x) (stp (some x) (a::as)) \/ a.2.1≠none/\Rem (some x) (stp (some x) (a::as)):=by
 obtain ⟨h1,h2,h3⟩:=h
 cases ha:a.2.1 with
 | none =>
   left
   have:stp (some x) (a::as)=a::as:=by rw [jK,ha,if_neg (by simp)]
   rw [this]
   exact ⟨rfl,rfl,(fun h y _ e=>by rw [ha] at e; cases e),h2,h3⟩
 | some y =>
   right
   refine ⟨by simp,?_⟩
   rw [jK,ha]
   by_cases hxy:y=x
   · subst hxy
     rw [if_pos rfl]
     exact h3 y ha
   · rw [if_neg (by simpa using hxy)]
     refine ⟨fun h z e1 e2=>?_,h2,h3⟩
     cases e1
     rw [ha] at e2
     cases e2
     have:=hx y ha
     omega
theorem vZ {here:Option Int} {a b:Rw} {as bs:List Rw} (ha:Rem here (a::as)) (hb:Rem here (b::bs)) :
  Both (qJ a.2.1 b.2.1) (stp (qJ a.2.1 b.2.1) (a::as)) (stp (qJ a.2.1 b.2.1) (b::bs)):=by
 cases h1:a.2.1 with
 | none =>
   cases h2:b.2.1 with
   | none =>
     left
     constructor
     · simp [qJ,stp,h1,ha.2.1 h1]
     · simp [qJ,stp,h2,hb.2.1 h2]
   | some y =>
     right
     have e:qJ none (some y)=some y:=rfl
     rw [e]
     constructor
     · rcases yZ ha (x := y) (by rw [h1]; exact fun _ e => nomatch e) with h | h
       · exact h.2.2
       · exact h.2
     · rcases yZ hb (x := y) (by rw [h2]; intro z e; cases e; omega) with h | h
       · exact h.2.2
       · exact h.2
 | some x =>
   right
   cases h2:b.2.1 with
   | none =>
     have e:qJ (some x) none=some x:=rfl
     rw [e]
     constructor
     · rcases yZ ha (x := x) (by rw [h1]; intro z e; cases e; omega) with h | h
       · exact h.2.2
       · exact h.2
     · rcases yZ hb (x := x) (by rw [h2]; exact fun _ e => nomatch e) with h | h
       · exact h.2.2
       · exact h.2
   | some y =>
     have e:qJ (some x) (some y)=some (min x y):=rfl
     rw [e]
     constructor
     · rcases yZ ha (x := min x y) (by rw [h1]; intro z e; cases e; omega) with h | h
       · exact h.2.2
       · exact h.2
     · rcases yZ hb (x := min x y) (by rw [h2]; intro z e; cases e; omega) with h | h
       · exact h.2.2
       · exact h.2
theorem wS {here:Option Int} {a b:Rw} {as bs:List Rw} (ha:Rem here (a::as)) (hb:Rem here (b::bs)) (h:qJ a.2.1 b.2.1=none):stp none (a::as)=[]/\stp none (b::bs)=[]:=by
 cases h1:a.2.1 with
 | some x=>rw [h1] at h; cases h2:b.2.1 <;> rw [h2] at h <;> cases h
 | none =>
   cases h2:b.2.1 with
   | some y=>rw [h1,h2] at h; cases h
   | none=>exact ⟨by rw [jK,h1,if_pos rfl]; exact ha.2.1 h1,by rw [jK,h2,if_pos rfl]; exact hb.2.1 h2⟩
theorem xZ (n:Nat) (here:Option Int) (bs:List Rw):jN n here [] bs=[]:=by cases n <;> rfl
theorem pair_low:∀ (n:Nat) (here:Option Int) (as bs:List Rw) (r:R4),Both here as bs->r∈jN n here as bs->here≠none->r.1=none->False
 | 0,_,_,_,r,_,hr,_,_=>by unfold jN at hr; cases hr
 | n+1,here,[],bs,r,_,hr,_,_=>by rw [xZ] at hr; cases hr
 | n + 1, here, a :: as, [], r, hB, hr, _, _ => by
   rcases hB with ⟨h,_⟩ | ⟨_,h⟩
   · cases h
   · exact h
 | n + 1, here, a :: as, b :: bs, r, hB, hr, hh, h1 => by
   rcases hB with ⟨h,_⟩ | ⟨ha,hb⟩
   · cases h
   · rw [jN] at hr
     rcases List.mem_cons.mp hr with rfl | hr
     · exact hh h1
     · by_cases he : qJ a.2.1 b.2.1 = none
       · rw [he, (wS ha hb he).1, xZ] at hr
         cases hr
       · exact pair_low n _ _ _ r (vZ ha hb) hr he h1
theorem stp_at {e:Option Int} {a:Rw} {as:List Rw} {p:Int} (h:∀ x,e=some x->x<=p) (hn:e=none->False):atB p (stp e (a::as))=atB p (a::as):=by
 rw [jK]
 by_cases he:a.2.1=e
 · rw [if_pos he]
   symm
   apply atB_tl
   unfold befB
   rw [he]
   cases e with
   | none=>exact (hn rfl).elim
   | some x=>have:=h x rfl; simp; omega
 · rw [if_neg he]
theorem stp_len (e:Option Int) (a:Rw) (as:List Rw):(stp e (a::as)).length<=as.length+1:=by
 rw [jK]
 split <;> simp
theorem stp_two (a b:Rw) (as bs:List Rw):(stp (qJ a.2.1 b.2.1) (a::as)).length+(stp (qJ a.2.1 b.2.1) (b::bs)).length < (as.length+1)+(bs.length+1):=by
 have:qJ a.2.1 b.2.1=a.2.1 \/ qJ a.2.1 b.2.1=b.2.1:=by
  cases a.2.1 with
  | none=>right; cases b.2.1 <;> rfl
  | some x =>
    cases b.2.1 with
    | none=>left; rfl
    | some y =>
      rcases (by omega:min x y=x \/ min x y=y) with h | h
      · left; simp [qJ,h]
      · right; simp [qJ,h]
 have l1:=stp_len (qJ a.2.1 b.2.1) a as
 have l2:=stp_len (qJ a.2.1 b.2.1) b bs
 rcases this with h | h
 · have : (stp (qJ a.2.1 b.2.1) (a :: as)).length = as.length := by rw [jK, if_pos h.symm]
   omega
 · have : (stp (qJ a.2.1 b.2.1) (b :: bs)).length = bs.length := by rw [jK, if_pos h.symm]
   omega
theorem pair_spec:∀ (n:Nat) (here:Option Int) (as bs:List Rw),as.length+bs.length<=n->Both here as bs →
  (∀ r∈jN n here as bs,okS (r.1,r.2.1)/\(∀ h x,here=some h->r.1=some x->h<=x)/\∀ p,hasS (r.1,r.2.1) p=true->(∀ h,here=some h->h<=p)->atB p as=r.2.2.1/\atB p bs=r.2.2.2) ∧
  ∀ p,as≠[]->(∀ h,here=some h->h<=p)->∃ r∈jN n here as bs,atB p as=r.2.2.1/\atB p bs=r.2.2.2
 | 0, here, as, bs, hn, _ => by
   have:as=[]:=List.eq_nil_of_length_eq_zero (by omega)
   exact ⟨fun r hr=>(by unfold jN at hr; cases hr),fun p h=>(h this).elim⟩
 | n + 1, here, as, bs, hn, hB => by
   rcases hB with ⟨rfl,rfl⟩ | ⟨ha,hb⟩
   · exact ⟨fun r hr=>(by unfold jN at hr; cases hr),fun p h=>(h rfl).elim⟩
   · cases as with
     | nil=>exact ha.elim
     | cons a as =>
       cases bs with
       | nil=>exact hb.elim
       | cons b bs =>
         have two:=stp_two a b as bs
         have bs':=vZ ha hb
         simp only [List.length_cons] at hn
         generalize he:qJ a.2.1 b.2.1=e at *
         have ih:=pair_spec n e (stp e (a::as)) (stp e (b::bs)) (by omega) bs'
         have beyond:∀ h x,here=some h->e=some x->h < x:=by
          intro h x e1 e2
          rw [<- he] at e2
          cases h1:a.2.1 with
          | none =>
            rw [h1] at e2
            cases h2:b.2.1 with
            | none=>rw [h2] at e2; cases e2
            | some y=>rw [h2] at e2; cases e2; exact hb.1 h _ e1 h2
          | some z =>
            rw [h1] at e2
            have g1:=ha.1 h z e1 h1
            cases h2:b.2.1 with
            | none=>rw [h2] at e2; cases e2; exact g1
            | some y =>
              rw [h2] at e2
              cases e2
              have g2:=hb.1 h y e1 h2
              omega
         have inA:∀ p,(∀ x,e=some x->p < x)->befB p a=true/\befB p b=true:=by
          intro p hp
          rw [<- he] at hp
          unfold befB
          cases h1:a.2.1 with
          | none =>
            cases h2:b.2.1 with
            | none=>exact ⟨rfl,rfl⟩
            | some y=>rw [h1,h2] at hp; have:=hp y rfl; exact ⟨rfl,by simpa using this⟩
          | some z =>
            cases h2:b.2.1 with
            | none=>rw [h1,h2] at hp; have:=hp z rfl; exact ⟨by simpa using this,rfl⟩
            | some y =>
              rw [h1,h2] at hp
              have:=hp _ rfl
              exact ⟨by simp; omega,by simp; omega⟩
         have pf:jN (n+1) here (a::as) (b::bs)=(here,e,a.2.2,b.2.2)::jN n e (stp e (a::as)) (stp e (b::bs)):=by rw [jN,he]
         rw [pf]
         refine ⟨fun r hr=>?_,fun p _ hp=>?_⟩
         · rcases List.mem_cons.mp hr with rfl | hr
           · refine ⟨fun x y e1 e2 => beyond x y e1 e2, fun h x e1 e2 => ?_, fun p hp _ => ?_⟩
             · have e2 : here = some x := e2
               rw [e1] at e2; cases e2; omega
             · obtain ⟨q1,q2⟩:=inA p fun x hx=>by
                unfold hasS at hp
                simp only [hx,Bool.and_eq_true,decide_eq_true_eq] at hp
                exact hp.2
               exact ⟨atB_hd q1,atB_hd q2⟩
           · obtain ⟨g1, g2, g3⟩ := ih.1 r hr
             have en:e≠none:=by
              intro hz
              rw [hz,(wS ha hb (by rw [he,hz])).1,xZ] at hr
              cases hr
             obtain ⟨x,hx⟩:∃ x,e=some x:=by cases e with | none=>exact (en rfl).elim | some x=>exact ⟨x,rfl⟩
             have lowR:∀ p,hasS (r.1,r.2.1) p=true->x<=p:=by
              intro p hp
              cases hr1:r.1 with
              | some y =>
                have:=g2 x y hx hr1
                unfold hasS at hp
                simp only [hr1,Bool.and_eq_true,decide_eq_true_eq] at hp
                omega
              | none =>
                exact (pair_low n e _ _ r bs' hr (by rw [hx]; simp) hr1).elim
             refine ⟨g1,fun h y e1 e2=>?_,fun p hp hh=>?_⟩
             · have := beyond h x e1 hx
               have:=g2 x y hx e2
               omega
             · have hxp := lowR p hp
               obtain ⟨q1,q2⟩:=g3 p hp fun h e1=>by rw [hx] at e1; cases e1; exact hxp
               rw [stp_at (fun y e1=>by rw [hx] at e1; cases e1; exact hxp) (fun z=>en z)] at q1 q2
               exact ⟨q1,q2⟩
         · by_cases hx : ∀ x, e = some x -> p < x
           · obtain ⟨q1, q2⟩ := inA p hx
             exact ⟨_,List.mem_cons_self,atB_hd q1,atB_hd q2⟩
           · obtain ⟨x, hx⟩ := Classical.not_forall.mp hx
             obtain ⟨hx,hpx⟩:=Classical.not_imp.mp hx
             have en:e=none->False:=fun z=>by rw [z] at hx; cases hx
             have hle:∀ y,e=some y->y<=p:=fun y e1=>by rw [hx] at e1; cases e1; omega
             have ne:stp e (a::as)≠[]:=by
              rcases bs' with ⟨h1,h2⟩ | ⟨h1,h2⟩
              · exfalso
                have k1:=stp_at (a:=a) (as:=as) hle en
                rw [h1] at k1
                rw [jK] at h1 h2
                split at h1
                · rename_i ha1
                  split at h2
                  · have := ha.2.2 x (by rw [ha1, hx])
                    rw [h1] at this
                    exact this
                  · cases h2
                · cases h1
              · intro z; rw [z] at h1; exact h1
             obtain ⟨r,hr,q1,q2⟩:=ih.2 p ne hle
             rw [stp_at hle en] at q1 q2
             exact ⟨r,List.mem_cons_of_mem _ hr,q1,q2⟩
@[simp] theorem r4D_tupG (h:List D->List Sl->Option (List Sl)) (r:R4) (ds:List Sl):tupG 4 h (r4D r) ds=h [oi r.1,oi r.2.1,oi r.2.2.1,oi r.2.2.2] ds:=by simp [r4D]
theorem flats_r4 (l:List R4):flats (l.map r4D)=true:=by
 induction l with
 | nil=>simp
 | cons a r ih=>simp [ih,r4D]
theorem drop_cons_get {α : Type} {A as:List α} {i:Nat} {a : α} (h:A.drop i=a::as):A[i]? = some a/\A.drop (i+1)=as/\i < A.length:=by
 have hi:i < A.length:=by
  rcases Nat.lt_or_ge i A.length with h1 | h1
  · exact h1
  · rw [List.drop_eq_nil_of_le h1] at h; cases h
 rw [List.drop_eq_getElem_cons hi] at h
 cases h
 exact ⟨List.getElem?_eq_getElem hi,rfl,hi⟩
theorem ix_rw {A:List Rw} {i:Nat} {a:Rw} (h:A[i]? = some a):ixD (.lst (A.map rwD)) (.int (i:Int))=some (rwD a):=by
 have hi:=(List.getElem?_eq_some_iff.mp h).1
 rw [jZ _ (by omega) (by simp; omega),Int.toNat_natCast,List.getElem?_map,h]
 rfl
theorem paired_loop (R0 R1:Sl) (A B:List Rw):∀ (m i j:Nat) (here:Option Int) (acc:List R4) (x8 x9 x10:Sl),(A.drop i).length+(B.drop j).length<=m->Both here (A.drop i) (B.drop j)->acc.length+m < 16777216->∀ n,m < n →
  ∃ y5 y6 y7 y8 y9 y10,whileN (zU (zL ltD (zJ 6) (callB lenD (zG (zJ 2) qC)))) GP.paired.b1 n [R0,R1,.v (.lst (A.map rwD)),.v (.lst (B.map rwD)),.own (acc.map r4D),.v (oi here),.v (.int (i:Int)),.v (.int (j:Int)),x8,x9,x10] =
   some (.nx [R0,R1,.v (.lst (A.map rwD)),.v (.lst (B.map rwD)),.own ((acc++jN m here (A.drop i) (B.drop j)).map r4D),y5,y6,y7,y8,y9,y10])
 | m,i,j,here,acc,x8,x9,x10,hm,hB,hz,0,hn=>by omega
 | m, i, j, here, acc, x8, x9, x10, hm, hB, hz, n + 1, hn => by
   cases hA:A.drop i with
   | nil =>
     have hi:A.length<=i:=List.drop_eq_nil_iff.mp hA
     have hi' : ¬ (i:Int) < (A.length:Int):=by omega
     refine ⟨.v (oi here),.v (.int (i:Int)),.v (.int (j:Int)),x8,x9,x10,?_⟩
     have tt:(zU (zL ltD (zJ 6) (callB lenD (zG (zJ 2) qC)))) [R0,R1,.v (.lst (A.map rwD)),.v (.lst (B.map rwD)),.own (acc.map r4D),.v (oi here),.v (.int (i:Int)),.v (.int (j:Int)),x8,x9,x10]=some false:=by simp [hi]
     rw [xZ,whileN,tt]
     simp
   | cons a as =>
     rw [hA] at hB hm
     rcases hB with ⟨h,_⟩ | ⟨ha,hb⟩
     · cases h
     · cases hBd : B.drop j with
       | nil=>rw [hBd] at hb; exact hb.elim
       | cons b bs =>
         rw [hBd] at hb hm
         cases m with
         | zero=>simp at hm
         | succ m =>
           obtain ⟨ga,da,hi⟩:=drop_cons_get hA
           obtain ⟨gb,db,hj⟩:=drop_cons_get hBd
           have i1:=ix_rw ga
           have i2:=ix_rw gb
           have two:=stp_two a b as bs
           have bst:=vZ ha hb
           have ee:=earlB_eq a.2.1 b.2.1
           simp only [List.length_cons] at hm
           have pf:jN (m+1) here (a::as) (b::bs)=(here,qJ a.2.1 b.2.1,a.2.2,b.2.2)::jN m (qJ a.2.1 b.2.1) (stp (qJ a.2.1 b.2.1) (a::as)) (stp (qJ a.2.1 b.2.1) (b::bs)):=by rw [jN]
           rw [pf]
           generalize qJ a.2.1 b.2.1=e at *
           have z:acc.length < 16777216:=by omega
           have e0:D.tup [oi here,oi e,oi a.2.2,oi b.2.2]=r4D (here,e,a.2.2,b.2.2):=rfl
           obtain ⟨i',hi',ei⟩:∃ i':Nat,A.drop i'=stp e (a::as)/\∀ (P Q:List Sl) (x:Sl),P.length=6->(ifG (zU (zL eqD (zL ixD (zJ 8) (zE (.int 1))) (zJ 10))) (augA 6 (zE (.int 1))) qO) (P++[.v (.int (i:Int)),x,.v (rwD a),.v (rwD b),.v (oi e)])=some (.nx (P++[.v (.int (i':Int)),x,.v (rwD a),.v (rwD b),.v (oi e)])):=by
            by_cases h:a.2.1=e
            · refine ⟨i + 1, by rw [jK, if_pos h, da], fun P Q x hP => ?_⟩
              match P,hP with
              | [p0,p1,p2,p3,p4,p5],_=>simp [h,augA]
            · refine ⟨i, by rw [jK, if_neg h, hA], fun P Q x hP => ?_⟩
              match P,hP with
              | [p0,p1,p2,p3,p4,p5],_=>simp [h]
           obtain ⟨j',hj',ej⟩:∃ j':Nat,B.drop j'=stp e (b::bs)/\∀ (P Q:List Sl),P.length=7->(ifG (zU (zL eqD (zL ixD (zJ 9) (zE (.int 1))) (zJ 10))) (augA 7 (zE (.int 1))) qO) (P++[.v (.int (j:Int)),.v (rwD a),.v (rwD b),.v (oi e)])=some (.nx (P++[.v (.int (j':Int)),.v (rwD a),.v (rwD b),.v (oi e)])):=by
            by_cases h:b.2.1=e
            · refine ⟨j + 1, by rw [jK, if_pos h, db], fun P Q hP => ?_⟩
              match P,hP with
              | [p0,p1,p2,p3,p4,p5,p6],_=>simp [h,augA]
            · refine ⟨j, by rw [jK, if_neg h, hBd], fun P Q hP => ?_⟩
              match P,hP with
              | [p0,p1,p2,p3,p4,p5,p6],_=>simp [h]
           have ei':=ei [R0,R1,.v (.lst (A.map rwD)),.v (.lst (B.map rwD)),.own ((acc++[(here,e,a.2.2,b.2.2)]).map r4D),.v (oi here)] [] (.v (.int (j:Int))) rfl
           have ej':=ej [R0,R1,.v (.lst (A.map rwD)),.v (.lst (B.map rwD)),.own ((acc++[(here,e,a.2.2,b.2.2)]).map r4D),.v (oi here),.v (.int (i':Int))] [] rfl
           simp only [List.cons_append,List.nil_append] at ei' ej'
           have turn:GP.paired.b1 [R0,R1,.v (.lst (A.map rwD)),.v (.lst (B.map rwD)),.own (acc.map r4D),.v (oi here),.v (.int (i:Int)),.v (.int (j:Int)),x8,x9,x10]=some (.nx [R0,R1,.v (.lst (A.map rwD)),.v (.lst (B.map rwD)),.own ((acc++[(here,e,a.2.2,b.2.2)]).map r4D),.v (oi e),.v (.int (i':Int)),.v (.int (j':Int)),.v (rwD a),.v (rwD b),.v (oi e)]):=by
            unfold GP.paired.b1
            rw [qX (ds':=[R0,R1,.v (.lst (A.map rwD)),.v (.lst (B.map rwD)),.own (acc.map r4D),.v (oi here),.v (.int (i:Int)),.v (.int (j:Int)),.v (rwD a),x9,x10]) (by simp [i1]),
             qX (ds':=[R0,R1,.v (.lst (A.map rwD)),.v (.lst (B.map rwD)),.own (acc.map r4D),.v (oi here),.v (.int (i:Int)),.v (.int (j:Int)),.v (rwD a),.v (rwD b),x10]) (by simp [i2]),
             qX (ds':=[R0,R1,.v (.lst (A.map rwD)),.v (.lst (B.map rwD)),.own (acc.map r4D),.v (oi here),.v (.int (i:Int)),.v (.int (j:Int)),.v (rwD a),.v (rwD b),.v (oi e)]) (by simp [ee]),
             qX (ds':=[R0,R1,.v (.lst (A.map rwD)),.v (.lst (B.map rwD)),.own ((acc++[(here,e,a.2.2,b.2.2)]).map r4D),.v (oi here),.v (.int (i:Int)),.v (.int (j:Int)),.v (rwD a),.v (rwD b),.v (oi e)]) (by simp [z,e0]),qX ei',qX ej']
            simp
           obtain ⟨y5,y6,y7,y8,y9,y10,ih⟩:=paired_loop R0 R1 A B m i' j' e (acc++[(here,e,a.2.2,b.2.2)]) (.v (rwD a)) (.v (rwD b)) (.v (oi e)) (by rw [hi',hj']; omega) (by rw [hi',hj']; exact bst) (by simp; omega) n (by omega)
           refine ⟨y5,y6,y7,y8,y9,y10,?_⟩
           rw [hi',hj',List.append_assoc] at ih
           have hlt:(i:Int) < (A.length:Int):=by omega
           have tt:(zU (zL ltD (zJ 6) (callB lenD (zG (zJ 2) qC)))) [R0,R1,.v (.lst (A.map rwD)),.v (.lst (B.map rwD)),.own (acc.map r4D),.v (oi here),.v (.int (i:Int)),.v (.int (j:Int)),x8,x9,x10]=some true:=by simp [hi]
           rw [whileN,tt]
           simp only [Option.bind_some,if_true,turn]
           exact ih
theorem paired_eq {ps qs:List Rw} (o1:Ord ps) (o2:Ord qs) (h1:ps.length<=10000) (h2:qs.length<=10000):GP.paired.f [.lst (ps.map rwD),.lst (qs.map rwD)]=some (.fresh ((jN ((qI ps).length+(qI qs).length) none (qI ps) (qI qs)).map r4D)):=by
 have l1:=yE ps
 have l2:=yE qs
 obtain ⟨y5,y6,y7,y8,y9,y10,e⟩:=paired_loop (.v (.lst (ps.map rwD))) (.v (.lst (qs.map rwD))) (qI ps) (qI qs) ((qI ps).length+(qI qs).length) 0 0 none [] .no .no .no (by simp) (.inr ⟨(jU o1).rem,(jU o2).rem⟩) (by simp; omega) 100000 (by omega)
 have r1:=runs_eq ps (by omega)
 have r2:=runs_eq qs (by omega)
 simp only [List.drop_zero,List.map_nil,List.nil_append,oi_none,show (((0:Nat):Int))=0 from rfl] at e
 have fl:=flats_r4 (jN ((qI ps).length+(qI qs).length) none (qI ps) (qI qs))
 generalize jN ((qI ps).length+(qI qs).length) none (qI ps) (qI qs)=L at *
 generalize qI ps=A at *
 generalize qI qs=B at *
 refine yU ?_
 unfold GP.paired.g
 rw [qX (ds':=[.v (.lst (ps.map rwD)),.v (.lst (qs.map rwD)),.v (.lst (A.map rwD)),.no,.no,.no,.no,.no,.no,.no,.no]) (by simp [args,r1]),
  qX (ds':=[.v (.lst (ps.map rwD)),.v (.lst (qs.map rwD)),.v (.lst (A.map rwD)),.v (.lst (B.map rwD)),.no,.no,.no,.no,.no,.no,.no]) (by simp [r2]),
  qX (ds':=[.v (.lst (ps.map rwD)),.v (.lst (qs.map rwD)),.v (.lst (A.map rwD)),.v (.lst (B.map rwD)),.own [],.no,.no,.no,.no,.no,.no]) (by simp),
  qX (ds':=[.v (.lst (ps.map rwD)),.v (.lst (qs.map rwD)),.v (.lst (A.map rwD)),.v (.lst (B.map rwD)),.own [],.v .non,.no,.no,.no,.no,.no]) (by simp),
  qX (ds':=[.v (.lst (ps.map rwD)),.v (.lst (qs.map rwD)),.v (.lst (A.map rwD)),.v (.lst (B.map rwD)),.own [],.v .non,.v (.int 0),.no,.no,.no,.no]) (by simp),
  qX (ds':=[.v (.lst (ps.map rwD)),.v (.lst (qs.map rwD)),.v (.lst (A.map rwD)),.v (.lst (B.map rwD)),.own [],.v .non,.v (.int 0),.v (.int 0),.no,.no,.no]) (by simp),qX e]
 simp [fl]
theorem map_tail {r:Rw} {t:List Rw} (m:MapF (r::t)):MapF t :=
 ⟨⟨fun z hz=>m.ord.ok z (List.mem_cons_of_mem _ hz),(List.pairwise_cons.mp m.ord.pw).2⟩,fun z hz=>m.val z (List.mem_cons_of_mem _ hz),fun i a b h1 h2=>m.adj (i+1) a b (by simpa using h1) (by simpa using h2)⟩
theorem til_lowJ:∀ {rs:List Rw} {x:Int},Til (some x) rs->∀ r∈rs,∃ y,r.1=some y/\x<=y
 | [],_,h,_,_=>h.elim
 | r0 :: rs, x, ⟨h1, h2, h3, h4⟩, r, hr => by
   rcases List.mem_cons.mp hr with rfl | hr
   · exact ⟨x,h1,Int.le_refl _⟩
   · cases e : r0.2.1 with
     | none=>rw [h3 e] at hr; cases hr
     | some z =>
       obtain ⟨y,e1,e2⟩:=til_lowJ (h4 z e) r hr
       have:=h2 x z rfl e
       exact ⟨y,e1,by omega⟩
theorem wU:∀ {rs:List Rw} {here:Option Int},Til here rs->Ord rs
 | [],_,h=>h.elim
 | r :: rs, here, ⟨h1, h2, h3, h4⟩ => by
   have ok:ok3 r:=fun a b e1 e2=>h2 a b (h1.symm.trans e1) e2
   cases e:r.2.1 with
   | none =>
     rw [h3 e]
     exact ⟨fun z hz=>by rw [List.mem_singleton.mp hz]; exact ok,List.pairwise_singleton _ _⟩
   | some x =>
     have o:=wU (h4 x e)
     refine ⟨fun z hz=>(List.mem_cons.mp hz).elim (fun e=>e ▸ ok) (o.ok z),List.pairwise_cons.mpr ⟨fun z hz=>?_,o.pw⟩⟩
     obtain ⟨y,e1,e2⟩:=til_lowJ (h4 x e) z hz
     exact ⟨x,y,e,e1,e2⟩
theorem til_ex (p:Int):∀ {rs:List Rw} {here:Option Int},Til here rs->∃ r,rs.find? (befB p)=some r
 | [],_,h=>h.elim
 | r :: rs, here, ⟨h1, h2, h3, h4⟩ => by
   rw [List.find?_cons]
   cases hb:befB p r with
   | true=>exact ⟨r,rfl⟩
   | false =>
     cases e:r.2.1 with
     | none=>unfold befB at hb; rw [e] at hb; cases hb
     | some x=>exact til_ex p (h4 x e)
abbrev Ch:=Int×Option Int
structure IsCh (g:Int->Option Int) (T:Int) (C:List Ch):Prop where
 at_:∀ c∈C,0 < c.1/\c.1<=T/\g c.1=c.2/\g (c.1 - 1)≠g c.1
 srt:C.Pairwise (fun a b=>a.1 < b.1)
 all:∀ p,0 < p->p<=T->g (p - 1)≠g p->∃ c∈C,c.1=p
def Per (g:Int->Option Int) (T:Int):Prop:=∀ p,g (p+T)=g p
theorem Per.nat {g:Int->Option Int} {T:Int} (h:Per g T) (p:Int):∀ j:Nat,g (p+(j:Int) * T)=g p
 | 0=>by simp
 | j + 1 => by
   have e:p+((j+1:Nat):Int) * T=(p+(j:Int) * T)+T:=by rw [Int.natCast_add,Int.add_mul]; simp; omega
   rw [e,h,h.nat p j]
theorem Per.int {g:Int->Option Int} {T:Int} (h:Per g T) (p j:Int):g (p+j * T)=g p:=by
 by_cases hj:0<=j
 · obtain ⟨n, rfl⟩ := Int.eq_ofNat_of_zero_le hj
   exact h.nat p n
 · obtain ⟨n, hn⟩ := Int.eq_ofNat_of_zero_le (show 0 <= -j by omega)
   have e:=h.nat (p+j * T) n
   rw [<- hn,Int.neg_mul] at e
   rw [<- e]
   congr 1
   omega
theorem Per.emod {g:Int->Option Int} {T:Int} (h:Per g T) (p:Int):g (p % T)=g p:=by
 have e:=h.int (p % T) (p / T)
 rw [<- e]
 congr 1
 have:=Int.emod_add_mul_ediv p T
 rw [Int.mul_comm] at this
 exact this
theorem const_up {g:Int->Option Int} (a:Int):∀ n:Nat,(∀ q,a < q->q<=a+n->g (q - 1)=g q)->g (a+n)=g a
 | 0,_=>by simp
 | n + 1, h => by
   have h1:=h (a+((n+1:Nat):Int)) (by omega) (by omega)
   have e:a+((n+1:Nat):Int) - 1=a+(n:Int):=by omega
   rw [e] at h1
   rw [<- h1]
   exact const_up a n fun q q1 q2=>h q q1 (by omega)
theorem const_to {g:Int->Option Int} {a b:Int} (hab:a<=b) (h:∀ q,a < q->q<=b->g (q - 1)=g q):g b=g a:=by
 have e:b=a+((b - a).toNat:Int):=by omega
 rw [e]
 exact const_up a _ fun q q1 q2=>h q q1 (by omega)
def Rise (u:Nat->Int):Prop:=∀ k,u k < u (k+1)
theorem Rise.lt {u:Nat->Int} (h:Rise u):∀ {k l:Nat},k < l->u k < u l:=by
 intro k l hl
 induction l with
 | zero=>omega
 | succ l ih =>
   by_cases e:k=l
   · subst e; exact h k
   · exact Int.lt_trans (ih (by omega)) (h l)
theorem Rise.le {u:Nat->Int} (h:Rise u) {k l:Nat} (hl:k<=l):u k<=u l:=by
 by_cases e:k=l
 · subst e; exact Int.le_refl _
 · exact Int.le_of_lt (h.lt (by omega))
theorem Rise.inj {u:Nat->Int} (h:Rise u) {k l:Nat} (e:u k=u l):k=l:=by
 rcases Nat.lt_trichotomy k l with q | q | q
 · have:=h.lt q; omega
 · exact q
 · have:=h.lt q; omega
theorem Rise.big {u:Nat->Int} (h:Rise u):∀ k:Nat,u 0+k<=u k
 | 0=>by simp
 | k+1=>by have:=h.big k; have:=h k; omega
theorem rise_one {u v:Nat->Int} (hu:Rise u) (hv:Rise v) (h1:∀ k,∃ j,v j=u k) (h2:∀ k,∃ j,u j=v k):∀ k,u k=v k:=by
 intro k
 induction k using Nat.strongRecOn with
 | ind k ih =>
   obtain ⟨j,ej⟩:=h1 k
   obtain ⟨i,ei⟩:=h2 k
   have a1:v k<=u k:=by
    rw [<- ej]
    refine hv.le ?_
    rcases Nat.lt_or_ge j k with q | q
    · have := ih j q
      have:=hu.lt q
      omega
    · exact q
   have a2:u k<=v k:=by
    rw [<- ei]
    refine hu.le ?_
    rcases Nat.lt_or_ge i k with q | q
    · have := ih i q
      have:=hv.lt q
      omega
    · exact q
   omega
theorem Rise.first {u:Nat->Int} (h:Rise u) (x:Int):∃ m,x < u m/\∀ j,j < m->u j<=x:=by
 have key:∀ n:Nat,(∃ m,m<=n/\x < u m/\∀ j,j < m->u j<=x) \/ ∀ j,j<=n->u j<=x:=by
  intro n
  induction n with
  | zero =>
    by_cases q:x < u 0
    · exact .inl ⟨0,Nat.le_refl _,q,fun j hj=>by omega⟩
    · exact .inr fun j hj => by have : j = 0 := by omega
                                subst this; omega
  | succ n ih =>
    rcases ih with ⟨m,h1,h2,h3⟩ | h1
    · exact .inl ⟨m,by omega,h2,h3⟩
    · by_cases q : x < u (n + 1)
      · exact .inl ⟨n+1,Nat.le_refl _,q,fun j hj=>h1 j (by omega)⟩
      · exact .inr fun j hj=>by
         by_cases e:j=n+1
         · subst e; omega
         · exact h1 j (by omega)
 rcases key (x - u 0+1).toNat with ⟨m,_,h2,h3⟩ | h1
 · exact ⟨m,h2,h3⟩
 · have a := h1 _ (Nat.le_refl _)
   have b:=h.big (x - u 0+1).toNat
   have c:=h1 0 (Nat.zero_le _)
   omega
theorem Rise.between {u:Nat->Int} (h:Rise u) {p:Int} (hp:u 0<=p):∃ k,u k<=p/\p < u (k+1):=by
 obtain ⟨m,h1,h2⟩:=h.first p
 have:m≠0:=fun z=>by subst z; omega
 refine ⟨m - 1,h2 _ (by omega),?_⟩
 rw [show m - 1+1=m by omega]
 exact h1
def chP (T:Int) (C:List Ch) (k:Nat):Int:=(C.getD (k % C.length) (0,none)).1+((k / C.length:Nat):Int) * T
def chV (C:List Ch) (k:Nat):Option Int:=(C.getD (k % C.length) (0,none)).2
section
variable {g:Int->Option Int} {T:Int} {C:List Ch}
theorem getD_mem' {C:List Ch} (hn:C≠[]) (k:Nat):C.getD (k % C.length) (0,none)∈C:=by
 have hl:0 < C.length:=List.length_pos_iff.mpr hn
 have h:=Nat.mod_lt k hl
 rw [List.getD_eq_getElem?_getD,List.getElem?_eq_getElem h]
 exact List.getElem_mem h
theorem xD (hn:C≠[]) (k q:Nat):chP T C (k+q * C.length)=chP T C k+(q:Int) * T:=by
 have hl:0 < C.length:=List.length_pos_iff.mpr hn
 unfold chP
 rw [Nat.add_mul_mod_self_right,Nat.add_mul_div_right _ _ hl,Int.natCast_add,Int.add_mul]
 omega
theorem chV_shift (k q:Nat):chV C (k+q * C.length)=chV C k:=by
 unfold chV
 rw [Nat.add_mul_mod_self_right]
theorem wL (hT:Per g T) (h:IsCh g T C) (h0:0 < T) (hn:C≠[]) (k:Nat):0 < chP T C k/\g (chP T C k)=chV C k/\g (chP T C k - 1)≠g (chP T C k):=by
 obtain ⟨a1,a2,a3,a4⟩:=h.at_ _ (getD_mem' hn k)
 unfold chP chV
 have hj:0<=((k / C.length:Nat):Int) * T:=Int.mul_nonneg (Int.natCast_nonneg _) (Int.le_of_lt h0)
 refine ⟨by omega,by rw [hT.int]; exact a3,?_⟩
 have e:∀ c j:Int,c+j - 1=(c - 1)+j:=fun c j=>by omega
 rw [e,hT.int,hT.int]
 exact a4
theorem chP_rise (h:IsCh g T C) (hn:C≠[]):Rise (chP T C):=by
 intro k
 have hl:0 < C.length:=List.length_pos_iff.mpr hn
 have hk:=Nat.mod_lt k hl
 have ek:=Nat.div_add_mod k C.length
 unfold chP
 by_cases hlt:k % C.length+1 < C.length
 · have e1:(k+1) % C.length=k % C.length+1:=by
    rw [Nat.add_mod,Nat.mod_eq_of_lt (show 1 < C.length by omega),Nat.mod_eq_of_lt hlt]
   have e2:(k+1) / C.length=k / C.length:=by
    rw [<- ek,Nat.add_assoc,Nat.mul_add_div hl,Nat.mul_add_div hl,Nat.div_eq_of_lt hlt,Nat.div_eq_of_lt hk]
   rw [e1,e2,List.getD_eq_getElem?_getD,List.getElem?_eq_getElem hk,List.getD_eq_getElem?_getD,List.getElem?_eq_getElem hlt]
   have:=List.pairwise_iff_getElem.mp h.srt (k % C.length) (k % C.length+1) hk hlt (by omega)
   simp only [Option.getD_some]
   omega
 · have e0 : k % C.length = C.length - 1 := by omega
   have e3:k+1=C.length * (k / C.length+1)+0:=by rw [Nat.mul_add]; omega
   have e1:(k+1) % C.length=0:=by rw [e3]; simp
   have e2:(k+1) / C.length=k / C.length+1:=by rw [e3,Nat.add_zero]; exact Nat.mul_div_cancel_left _ hl
   rw [e1,e2]
   have a:=h.at_ _ (getD_mem' hn k)
   have b:=h.at_ _ (getD_mem' hn 0)
   rw [Nat.zero_mod] at b
   rw [Int.natCast_add,Int.add_mul]
   omega
theorem vK (hT:Per g T) (h:IsCh g T C) (h0:0 < T) (hn:C≠[]) {p:Int} (hp:0 < p) (hc:g (p - 1)≠g p):∃ k,chP T C k=p:=by
 have hl:0 < C.length:=List.length_pos_iff.mpr hn
 have d1:=Int.emod_add_mul_ediv (p - 1) T
 have d2:=Int.emod_nonneg (p - 1) (Int.ne_of_gt h0)
 have d3:=Int.emod_lt_of_pos (p - 1) h0
 have d4:0<=(p - 1) / T:=Int.ediv_nonneg (by omega) (Int.le_of_lt h0)
 have e1:g ((p - 1) % T)=g (p - 1):=hT.emod _
 have e2:g ((p - 1) % T+1)=g p:=by
  rw [<- hT.int ((p - 1) % T+1) ((p - 1) / T)]
  congr 1
  rw [Int.mul_comm ((p - 1) / T) T]
  omega
 obtain ⟨c,hc1,hc2⟩:=h.all ((p - 1) % T+1) (by omega) (by omega) (by rw [show (p - 1) % T+1 - 1=(p - 1) % T by omega,e1,e2]; exact hc)
 obtain ⟨i,hi,rfl⟩:=List.mem_iff_getElem.mp hc1
 refine ⟨i+((p - 1) / T).toNat * C.length,?_⟩
 rw [xD hn]
 unfold chP
 rw [Nat.mod_eq_of_lt hi,Nat.div_eq_of_lt hi,List.getD_eq_getElem?_getD,List.getElem?_eq_getElem hi]
 simp only [Option.getD_some]
 rw [hc2,show ((((p - 1) / T).toNat:Nat):Int)=(p - 1) / T by omega,Int.mul_comm ((p - 1) / T) T]
 simp
 omega
theorem again_of (hT:Per g T) (h:IsCh g T C) (h0:0 < T) (hn:C≠[]) {far:Int} (hf:0 < far) (hp:Per g far) {s:Nat} (hs:T=(s:Int) * far) :
  ∃ m,s * m=C.length/\∀ k,chP T C (k+m)=chP T C k+far/\chV C (k+m)=chV C k:=by
 have R:=chP_rise h hn
 obtain ⟨m,m1,m2⟩:=R.first far
 have key:∀ k,chP T C (k+m)=chP T C k+far:=by
  refine rise_one (u:=fun k=>chP T C (k+m)) (v:=fun k=>chP T C k+far) (fun k=>?_) (fun k=>by show _+_ < _+_; have:=R k; omega) (fun k=>?_) (fun k=>?_)
  · show chP T C (k + m) < chP T C (k + 1 + m)
    rw [show k+1+m=k+m+1 by omega]
    exact R _
  · obtain ⟨c1, c2, c3⟩ := wL hT h h0 hn (k + m)
    have c4:chP T C m<=chP T C (k+m):=R.le (by omega)
    obtain ⟨j,hj⟩:=vK hT h h0 hn (p:=chP T C (k+m) - far) (by omega) (by
     rw [<- hp (chP T C (k+m) - far - 1),<- hp (chP T C (k+m) - far),show chP T C (k+m) - far - 1+far=chP T C (k+m) - 1 by omega,show chP T C (k+m) - far+far=chP T C (k+m) by omega]
     exact c3)
    exact ⟨j,by show chP T C j+far=chP T C (k+m); omega⟩
  · obtain ⟨c1, c2, c3⟩ := wL hT h h0 hn k
    obtain ⟨j,hj⟩:=vK hT h h0 hn (p:=chP T C k+far) (by omega) (by
     rw [show chP T C k+far - 1=chP T C k - 1+far by omega,hp,hp]
     exact c3)
    have hjm:m<=j:=by
     rcases Nat.lt_or_ge j m with q | q
     · have:=m2 j q; omega
     · exact q
    exact ⟨j - m,by show chP T C (j - m+m)=chP T C k+far; rw [show j - m+m=j by omega]; exact hj⟩
 have more:∀ (i k:Nat),chP T C (k+i * m)=chP T C k+(i:Int) * far:=by
  intro i
  induction i with
  | zero=>intro k; simp
  | succ i ih =>
    intro k
    rw [show k+(i+1) * m=(k+i * m)+m by rw [Nat.add_mul]; omega,key,ih,Int.natCast_add,Int.add_mul]
    simp
    omega
 refine ⟨m,?_,fun k=>⟨key k,?_⟩⟩
 · refine R.inj ?_
   have a:=more s 0
   have b:=xD (T:=T) hn 0 1
   rw [Nat.zero_add] at a b
   rw [a,show C.length=1 * C.length by omega,b,hs]
   simp
 · rw [<- (wL hT h h0 hn (k+m)).2.1,<- (wL hT h h0 hn k).2.1,key,hp]
theorem per_of (hT:Per g T) (h:IsCh g T C) (h0:0 < T) (hn:C≠[]) {far:Int} {m:Nat} (hk:∀ k,k < C.length->chP T C (k+m)=chP T C k+far/\chV C (k+m)=chV C k):Per g far:=by
 have R:=chP_rise h hn
 have hl:0 < C.length:=List.length_pos_iff.mpr hn
 have key:∀ k,chP T C (k+m)=chP T C k+far/\chV C (k+m)=chV C k:=by
  intro k
  have ek:=Nat.mod_add_div k C.length
  rw [Nat.mul_comm] at ek
  obtain ⟨a1,a2⟩:=hk (k % C.length) (Nat.mod_lt k hl)
  rw [<- ek,show k % C.length+k / C.length * C.length+m=(k % C.length+m)+k / C.length * C.length by omega,xD hn,xD hn,chV_shift,chV_shift,a1,a2]
  exact ⟨by omega,rfl⟩
 have at_:∀ k p,chP T C k<=p->p < chP T C (k+1)->g p=chV C k:=by
  intro k p h1 h2
  rw [<- (wL hT h h0 hn k).2.1]
  refine const_to h1 fun q q1 q2=>?_
  by_cases e:g (q - 1)=g q
  · exact e
  · obtain ⟨j, hj⟩ := vK hT h h0 hn (p := q) (by have := (wL hT h h0 hn k).1; omega) e
    have j1:k < j:=by
     rcases Nat.lt_or_ge k j with z | z
     · exact z
     · have:=R.le z; omega
    have:=R.le (show k+1<=j from j1)
    omega
 have up:∀ p,chP T C 0<=p->g (p+far)=g p:=by
  intro p hp
  obtain ⟨k,k1,k2⟩:=R.between hp
  rw [at_ k p k1 k2,<- (key k).2]
  refine at_ (k+m) (p+far) (by rw [(key k).1]; omega) ?_
  rw [show k+m+1=k+1+m by omega,(key (k+1)).1]
  omega
 intro p
 have hj:chP T C 0<=p+((chP T C 0 - p).toNat:Int) * T:=by
  have:((chP T C 0 - p).toNat:Int) * 1<=((chP T C 0 - p).toNat:Int) * T:=Int.mul_le_mul_of_nonneg_left (by omega) (Int.natCast_nonneg _)
  omega
 have e:=up _ hj
 rw [hT.int p,show p+((chP T C 0 - p).toNat:Int) * T+far=(p+far)+((chP T C 0 - p).toNat:Int) * T by omega,hT.int] at e
 exact e
def ComesT (T:Int) (C:List Ch) (t:Nat):Prop:=C.length % t=0/\T % (t:Int)=0/\∀ k,k < C.length->chP T C (k+C.length / t)=chP T C k+T / (t:Int)/\chV C (k+C.length / t)=chV C k
structure Times (T:Int) (C:List Ch) (t:Int):Prop where
 nil:C=[]->t=T
 one:C≠[]->∃ n:Nat,t=(n:Int)/\1<=n/\n<=C.length/\(n=1 \/ ComesT T C n)/\∀ n',n < n'->n'<=C.length->¬ ComesT T C n'
theorem least_of (hT:Per g T) (h:IsCh g T C) (h0:0 < T) {t:Int} (ht:Times T C t) :
  0 < t/\0 < T / t/\t * (T / t)=T/\Per g (T / t)/\∀ far,0 < far->(∃ s:Nat,T=(s:Int) * far)->Per g far->T / t<=far:=by
 by_cases hn:C=[]
 · have e := ht.nil hn
   subst e
   have e1:t / t=1:=Int.ediv_self (Int.ne_of_gt h0)
   rw [e1]
   refine ⟨h0,by decide,by omega,fun p=>?_,fun far hf _ _=>by omega⟩
   have no:∀ q,0 < q->q<=t->g (q - 1)=g q:=fun q q1 q2=>by
    by_cases e:g (q - 1)=g q
    · exact e
    · obtain ⟨c, hc, _⟩ := h.all q q1 q2 e
      rw [hn] at hc; cases hc
   have d2:=Int.emod_nonneg p (Int.ne_of_gt h0)
   have d3:=Int.emod_lt_of_pos p h0
   have d1:=Int.emod_add_mul_ediv p t
   have a:g (p % t)=g p:=hT.emod p
   have b:g (p % t+1)=g (p+1):=by
    rw [<- hT.int (p % t+1) (p / t)]
    congr 1
    rw [Int.mul_comm (p / t) t]
    omega
   rw [<- a,<- b]
   have:=no (p % t+1) (by omega) (by omega)
   rw [show p % t+1 - 1=p % t by omega] at this
   exact this.symm
 · obtain ⟨n, rfl, n1, n2, n3, n4⟩ := ht.one hn
   have hd:(n:Int) * (T / (n:Int))=T:=by
    rcases n3 with rfl | n3
    · simp
    · exact Int.mul_ediv_cancel_of_emod_eq_zero n3.2.1
   have hpos:0 < T / (n:Int):=by
    have hnn:(0:Int) < (n:Int):=by omega
    rcases Int.lt_or_le 0 (T / (n:Int)) with q | q
    · exact q
    · have := Int.mul_nonpos_of_nonneg_of_nonpos (Int.le_of_lt hnn) q
      omega
   refine ⟨by omega,hpos,hd,?_,fun far hf ⟨s,hs⟩ hp=>?_⟩
   · rcases n3 with rfl | n3
     · simpa using hT
     · exact per_of hT h h0 hn n3.2.2
   · rcases Int.lt_or_le far (T / (n : Int)) with q | q
     · obtain ⟨m, m1, m2⟩ := again_of hT h h0 hn hf hp hs
       have hl:0 < C.length:=List.length_pos_iff.mpr hn
       have hns:n < s:=by
        rcases Nat.lt_or_ge n s with z | z
        · exact z
        · have a1 : (s : Int) * far <= (n : Int) * far := Int.mul_le_mul_of_nonneg_right (by omega) (Int.le_of_lt hf)
          have a2:(n:Int) * far < (n:Int) * (T / (n:Int)):=Int.mul_lt_mul_of_pos_left q (by omega)
          omega
       have hm:0 < m:=by
        rcases Nat.eq_zero_or_pos m with z | z
        · subst z; omega
        · exact z
       have hsl:s<=C.length:=by
        rw [<- m1]
        exact Nat.le_mul_of_pos_right s hm
       have hs0:0 < s:=by omega
       have e1:C.length / s=m:=by rw [<- m1]; exact Nat.mul_div_cancel_left m hs0
       have e2:T / (s:Int)=far:=by rw [hs]; exact Int.mul_ediv_cancel_left far (by omega)
       refine (n4 s hns hsl ⟨?_,?_,fun k _=>by rw [e1,e2]; exact m2 k⟩).elim
       · rw [<- m1]; exact Nat.mul_mod_right s m
       · rw [hs]; exact Int.mul_emod_right _ _
     · exact q
end
def Tl (b:Int):Int->List Rw->Prop
 | _,[]=>False
 | a,[r]=>r.1=some a/\r.2.1=some b/\a < b
 | a,r::s::t=>∃ m,r.1=some a/\r.2.1=some m/\a < m/\r.2.2≠s.2.2/\Tl b m (s::t)
def AdjV:List Rw->Prop
 | r::s::t=>r.2.2≠s.2.2/\AdjV (s::t)
 | _=>True
theorem AdjV.tail {r:Rw} {t:List Rw} (h:AdjV (r::t)):AdjV t:=by
 cases t with
 | nil=>trivial
 | cons s t=>exact h.2
theorem runs_adj:∀ (ps:List Rw) (here:Option Int) (b:Bool),MapF ps->AdjV (runsR here b ps)
 | [],here,b,_=>by unfold runsR; split <;> trivial
 | r :: t, here, b, m => by
   have hv:=m.val r List.mem_cons_self
   have ih:=runs_adj t r.2.1 false (map_tail m)
   have core:AdjV (r::runsR r.2.1 false t):=by
    cases t with
    | nil =>
      unfold runsR
      split
      · exact ⟨hv,trivial⟩
      · trivial
    | cons s t' =>
      unfold runsR at ih ⊢
      by_cases e:s.1=r.2.1
      · simp only [ne_eq, e, not_true_eq_false, if_false, List.nil_append] at ih ⊢
        exact ⟨fun z=>m.adj 0 r s rfl rfl ⟨e.symm,z⟩,ih⟩
      · simp only [ne_eq, e, not_false_eq_true, if_true, List.cons_append, List.nil_append] at ih ⊢
        exact ⟨hv,ih⟩
   unfold runsR
   by_cases e:r.1=here
   · simp only [ne_eq, e, not_true_eq_false, if_false, List.nil_append]
     exact core
   · simp only [ne_eq, e, not_false_eq_true, if_true, List.cons_append, List.nil_append]
     exact ⟨fun z=>hv z.symm,core⟩
theorem Tl.lt {b:Int} : ∀ {rows:List Rw} {a:Int},Tl b a rows->a < b
 | [],_,h=>h.elim
 | [r],_,h=>h.2.2
 | r :: s :: t, a, h => by
   obtain ⟨m,_,_,h3,_,h5⟩:=h
   have:=Tl.lt h5
   omega
section
variable {T:Int}
abbrev S0 (T:Int):Spn:=(some 0,some T)
theorem part_in {r:Rw} {a:Int} (ha:r.1=some a) (h0:0<=a) (h1:a < T) (hx:∀ x,r.2.1=some x->a < x):part1 (S0 T) r=some (some a,some (match r.2.1 with | none=>T | some x=>min x T),r.2.2):=by
 unfold part1 meetS
 rw [ha]
 cases hr:r.2.1 with
 | none =>
   have : ¬ T<=max a 0:=by omega
   have e:max a 0=a:=by omega
   simp [qJ,lateL,aheadE,e,show ¬ T<=a by omega]
 | some x =>
   have:=hx x hr
   have e:max a 0=a:=by omega
   simp [qJ,lateL,aheadE,e,show ¬ min x T<=a by omega]
theorem part_over {r:Rw} {a:Int} (ha:r.1=some a) (h1:T<=a) (hT:0 < T):part1 (S0 T) r=none:=by
 unfold part1 meetS
 rw [ha]
 cases hr:r.2.1 with
 | none=>simp [qJ,lateL,aheadE,show T<=max a 0 by omega]
 | some x=>simp [qJ,lateL,aheadE,show min x T<=max a 0 by omega]
theorem part_low {r:Rw} {x:Int} (hx:r.2.1=some x) (h0:x<=0):part1 (S0 T) r=none:=by
 unfold part1 meetS
 rw [hx]
 cases hr:r.1 with
 | none=>simp [qJ,lateL,aheadE,show min x T<=0 by omega]
 | some a=>simp [qJ,lateL,aheadE,show min x T<=max a 0 by omega]
theorem part_first {r:Rw} (ha:∀ a,r.1=some a->a<=0) (hT:0 < T) (hx:∀ x,r.2.1=some x->0 < x):part1 (S0 T) r=some (some 0,some (match r.2.1 with | none=>T | some x=>min x T),r.2.2):=by
 unfold part1 meetS
 have e:lateL r.1 (some 0)=some 0:=by
  cases hr:r.1 with
  | none=>rfl
  | some a=>have:=ha a hr; simp [lateL]; omega
 cases hr:r.2.1 with
 | none=>simp [e,qJ,aheadE,show ¬ T<=0 by omega]
 | some x =>
   have:=hx x hr
   simp [e,qJ,aheadE,show ¬ min x T<=0 by omega]
theorem wF:∀ {rs:List Rw} {a:Int},Til (some a) rs->T<=a->0 < T->qD rs (S0 T)=[]
 | [],_,h,_,_=>h.elim
 | r :: rs, a, ⟨h1, h2, h3, h4⟩, ha, hT => by
   unfold qD
   rw [List.filterMap_cons,part_over h1 ha hT]
   cases hx:r.2.1 with
   | none=>rw [h3 hx]; rfl
   | some x=>exact wF (h4 x hx) (by have:=h2 a x rfl hx; omega) hT
theorem parts_tl2:∀ {rs:List Rw} {a:Int},Til (some a) rs->AdjV rs->0<=a->a < T->Tl T a (qD rs (S0 T))/\∃ s t r t',qD rs (S0 T)=s::t/\rs=r::t'/\s.2.2=r.2.2
 | [],_,h,_,_,_=>h.elim
 | r :: rs, a, ⟨h1, h2, h3, h4⟩, ad, h0, ha => by
   have hp:=part_in (T:=T) h1 h0 ha (fun x hx=>h2 a x rfl hx)
   have e:qD (r::rs) (S0 T)=(some a,some (match r.2.1 with | none=>T | some x=>min x T),r.2.2)::qD rs (S0 T):=by
    unfold qD
    rw [List.filterMap_cons,hp]
   rw [e]
   refine ⟨?_,_,_,r,rs,rfl,rfl,rfl⟩
   cases hx:r.2.1 with
   | none =>
     rw [h3 hx]
     exact ⟨rfl,rfl,ha⟩
   | some x =>
     have hax:=h2 a x rfl hx
     by_cases hxT:x < T
     · obtain ⟨ih, s, t, r', t', e2, e3, e4⟩ := parts_tl2 (h4 x hx) ad.tail (by omega) hxT
       rw [e2] at ih ⊢
       refine ⟨x,rfl,?_,hax,?_,ih⟩
       · show some (min x T) = some x
         rw [show min x T=x by omega]
       · rw [e4]
         rw [e3] at ad
         exact ad.1
     · rw [wF (h4 x hx) (by omega) (by omega)]
       refine ⟨rfl,?_,ha⟩
       show some (min x T)=some T
       rw [show min x T=T by omega]
theorem parts_tl1 (hT:0 < T):∀ {rs:List Rw} {here:Option Int},Til here rs->AdjV rs->(∀ h,here=some h->h<=0)->Tl T 0 (qD rs (S0 T))
 | [],_,h,_,_=>h.elim
 | r :: rs, here, ⟨h1, h2, h3, h4⟩, ad, hh => by
   cases hx:r.2.1 with
   | none =>
     have hp:=part_first (T:=T) (r:=r) (fun a e=>hh a (by rw [<- h1]; exact e)) hT (fun x e=>by rw [hx] at e; cases e)
     have e:qD (r::rs) (S0 T)=[(some 0,some T,r.2.2)]:=by
      unfold qD
      rw [List.filterMap_cons,hp,hx,h3 hx]
      rfl
     rw [e]
     exact ⟨rfl,rfl,hT⟩
   | some x =>
     by_cases h0:x<=0
     · have e:qD (r::rs) (S0 T)=qD rs (S0 T):=by
        unfold qD
        rw [List.filterMap_cons,part_low hx h0]
       rw [e]
       exact parts_tl1 hT (h4 x hx) ad.tail (fun h z=>by cases z; exact h0)
     · have hp := part_first (T := T) (r := r) (fun a e => hh a (by rw [<- h1]; exact e)) hT (fun y e => by rw [hx] at e; cases e; omega)
       have e:qD (r::rs) (S0 T)=(some 0,some (min x T),r.2.2)::qD rs (S0 T):=by
        unfold qD
        rw [List.filterMap_cons,hp,hx]
       rw [e]
       by_cases hxT:x < T
       · obtain ⟨ih, s, t, r', t', e2, e3, e4⟩ := parts_tl2 (h4 x hx) ad.tail (by omega) hxT
         rw [e2] at ih ⊢
         refine ⟨x,rfl,?_,by omega,?_,ih⟩
         · show some (min x T) = some x
           rw [show min x T=x by omega]
         · rw [e4]
           rw [e3] at ad
           exact ad.1
       · rw [wF (h4 x hx) (by omega) hT]
         refine ⟨rfl,?_,hT⟩
         show some (min x T)=some T
         rw [show min x T=T by omega]
end
theorem til_low {p:Int} : ∀ {rs:List Rw} {x:Int},Til (some x) rs->∀ {r:Rw},r∈rs->has3 r p=true->x<=p
 | [],_,h,_,_,_=>h.elim
 | q :: rs, x, ⟨h1, h2, h3, h4⟩, r, hr, hp => by
   rcases List.mem_cons.mp hr with rfl | hr
   · exact ((qM r p).mp hp).1 x h1
   · cases hq : q.2.1 with
     | none=>rw [h3 hq] at hr; cases hr
     | some y =>
       have a:=til_low (h4 y hq) hr hp
       have b:=h2 x y rfl hq
       omega
theorem til_val {p:Int} : ∀ {rs:List Rw} {here:Option Int},Til here rs->∀ {r:Rw},r∈rs->has3 r p=true->atB p rs=r.2.2
 | [],_,h,_,_,_=>h.elim
 | q :: rs, here, ⟨h1, h2, h3, h4⟩, r, hr, hp => by
   rcases List.mem_cons.mp hr with rfl | hr
   · refine atB_hd ?_
     have:=((qM r p).mp hp).2
     unfold befB
     cases hx:r.2.1 with
     | none=>rfl
     | some x=>simpa using this x hx
   · cases hq : q.2.1 with
     | none=>rw [h3 hq] at hr; cases hr
     | some y =>
       have a:=til_low (h4 y hq) hr hp
       rw [atB_tl (by unfold befB; rw [hq]; simp; exact a)]
       exact til_val (h4 y hq) hr hp
def turnR (Q:List Rw) (T:Int):List Rw:=qD (qI Q) (S0 T)
theorem turn_tl {Q:List Rw} (m:MapF Q) {T:Int} (hT:0 < T):Tl T 0 (turnR Q T):=parts_tl1 hT (jU m.ord) (runs_adj Q none true m) (fun h e=>by cases e)
theorem turn_val {Q:List Rw} (m:MapF Q) {T:Int} {r:Rw} (hr:r∈turnR Q T) {p:Int} (hp:has3 r p=true):0<=p/\p < T/\valL Q p=r.2.2:=by
 obtain ⟨r',h1,h2⟩:=mem_parts.mp hr
 obtain ⟨_,e,f,_⟩:=qZ h2
 rw [f p,Bool.and_eq_true,xG] at hp
 refine ⟨hp.2.1 0 rfl,hp.2.2 T rfl,?_⟩
 rw [<- atB_val m.ord,e]
 exact til_val (jU m.ord) h1 hp.1
def gOf (Q:List Rw) (T:Int):Int->Option Int:=fun p=>valL Q (p % T)
theorem yY (Q:List Rw) (T:Int):Per (gOf Q T) T:=fun p=>by
 unfold gOf
 rw [Int.add_emod_right]
theorem vP {Q:List Rw} {T p:Int} (h0:0<=p) (h1:p < T):gOf Q T p=valL Q p:=by
 unfold gOf
 rw [Int.emod_eq_of_lt h0 h1]
def lowC (r:Rw):Ch:=(r.1.getD 0,r.2.2)
theorem tl_ch {g:Int->Option Int} {b:Int} : ∀ {rows:List Rw} {a:Int},Tl b a rows->(∀ r∈rows,∀ p,has3 r p=true->g p=r.2.2) →
  (∀ c∈rows.tail.map lowC,a < c.1/\c.1 < b/\g c.1=c.2/\g (c.1 - 1)≠g c.1)/\(rows.tail.map lowC).Pairwise (fun x y=>x.1 < y.1)/\(∀ p,a < p->p < b->g (p - 1)≠g p->∃ c∈rows.tail.map lowC,c.1=p) ∧
  (∃ r,rows.head? = some r/\g a=r.2.2)/\(∃ r,rows.getLast? = some r/\g (b - 1)=r.2.2)/\∀ r∈rows,∃ x,r.1=some x
 | [],_,h,_=>h.elim
 | [r], a, ⟨h1, h2, h3⟩, hv => by
   have inr:∀ p,a<=p->p < b->g p=r.2.2:=fun p p1 p2=>hv r List.mem_cons_self p ((qM r p).mpr ⟨fun x e=>by rw [h1] at e; cases e; exact p1,fun x e=>by rw [h2] at e; cases e; exact p2⟩)
   refine ⟨(fun c hc=>by cases hc),List.Pairwise.nil,fun p p1 p2 hc=>?_,⟨r,rfl,inr a (Int.le_refl _) h3⟩,⟨r,rfl,inr _ (by omega) (by omega)⟩,fun q hq=>?_⟩
   · rw [inr p (by omega) p2, inr (p - 1) (by omega) (by omega)] at hc
     exact (hc rfl).elim
   · rcases List.mem_cons.mp hq with rfl | hq
     · exact ⟨a,h1⟩
     · cases hq
 | r :: s :: t, a, ⟨m, h1, h2, h3, h4, h5⟩, hv => by
   obtain ⟨i1,i2,i3,⟨s',hs',i4⟩,⟨l,hl,i5⟩,i6⟩:=tl_ch h5 fun q hq=>hv q (List.mem_cons_of_mem _ hq)
   cases hs'
   have inr:∀ p,a<=p->p < m->g p=r.2.2:=fun p p1 p2=>hv r List.mem_cons_self p ((qM r p).mpr ⟨fun x e=>by rw [h1] at e; cases e; exact p1,fun x e=>by rw [h2] at e; cases e; exact p2⟩)
   have hm:=Tl.lt h5
   obtain ⟨y,hy⟩:=i6 s List.mem_cons_self
   have hy':s.1=some m:=by
    cases t with
    | nil=>exact h5.1
    | cons u t=>obtain ⟨_,q,_⟩:=h5; exact q
   have ec:lowC s=(m,s.2.2):=by unfold lowC; rw [hy']; rfl
   have et:(r::s::t).tail.map lowC=(m,s.2.2)::(s::t).tail.map lowC:=by
    show (s::t).map lowC=_
    rw [List.map_cons,ec]
    rfl
   rw [et]
   refine ⟨fun c hc=>?_,?_,fun p p1 p2 hc=>?_,⟨r,rfl,inr a (Int.le_refl _) h3⟩,⟨l,by rw [List.getLast?_cons_cons]; exact hl,i5⟩,fun q hq=>?_⟩
   · rcases List.mem_cons.mp hc with rfl | hc
     · refine ⟨h3, hm, i4, ?_⟩
       show g (m - 1)≠g m
       rw [i4,inr (m - 1) (by omega) (by omega)]
       exact h4
     · obtain ⟨c1, c2, c3, c4⟩ := i1 c hc
       exact ⟨by omega,c2,c3,c4⟩
   · exact List.pairwise_cons.mpr ⟨fun c hc=>(i1 c hc).1,i2⟩
   · rcases Int.lt_trichotomy p m with q | q | q
     · rw [inr p (by omega) q, inr (p - 1) (by omega) (by omega)] at hc
       exact (hc rfl).elim
     · exact ⟨_,List.mem_cons_self,q.symm⟩
     · obtain ⟨c, c1, c2⟩ := i3 p q p2 hc
       exact ⟨c,List.mem_cons_of_mem _ c1,c2⟩
   · rcases List.mem_cons.mp hq with rfl | hq
     · exact ⟨a,h1⟩
     · exact i6 q hq
def chgF (Q:List Rw) (T:Int):List Ch:=match (turnR Q T).head?,(turnR Q T).getLast? with
 | some r,some l=>(turnR Q T).tail.map lowC++(if r.2.2≠l.2.2 then [(T,r.2.2)] else [])
 | _,_=>[]
theorem chg_is {Q:List Rw} (m:MapF Q) {T:Int} (hT:0 < T):IsCh (gOf Q T) T (chgF Q T):=by
 obtain ⟨i1,i2,i3,⟨r,hr,i4⟩,⟨l,hl,i5⟩,i6⟩:=tl_ch (g:=gOf Q T) (turn_tl m hT) fun r hr p hp=>by
  obtain ⟨a,b,c⟩:=turn_val m hr hp
  rw [vP a b,c]
 unfold chgF
 rw [hr,hl]
 simp only
 have e0:gOf Q T T=r.2.2:=by
  have:=yY Q T 0
  rw [Int.zero_add] at this
  rw [this,i4]
 refine ⟨fun c hc=>?_,?_,fun p p1 p2 hc=>?_⟩
 · rcases List.mem_append.mp hc with hc | hc
   · obtain ⟨c1, c2, c3, c4⟩ := i1 c hc
     exact ⟨c1,by omega,c3,c4⟩
   · split at hc
     · rename_i hne
       rcases List.mem_cons.mp hc with rfl | hc
       · refine ⟨hT, Int.le_refl _, e0, ?_⟩
         show gOf Q T (T - 1)≠gOf Q T T
         rw [e0,i5]
         exact fun z=>hne z.symm
       · cases hc
     · cases hc
 · refine List.pairwise_append.mpr ⟨i2, ?_, fun x hx y hy => ?_⟩
   · split
     · exact List.pairwise_singleton _ _
     · exact List.Pairwise.nil
   · split at hy
     · rcases List.mem_cons.mp hy with rfl | hy
       · exact (i1 x hx).2.1
       · cases hy
     · cases hy
 · by_cases e : p = T
   · subst e
     rw [e0,i5] at hc
     exact ⟨(p,r.2.2),List.mem_append.mpr (.inr (by rw [if_pos (fun z=>hc z.symm)]; exact List.mem_cons_self)),rfl⟩
   · obtain ⟨c, c1, c2⟩ := i3 p p1 (by omega) hc
     exact ⟨c,List.mem_append.mpr (.inl c1),c2⟩
theorem chg_len (Q:List Rw) (T:Int):(chgF Q T).length<=2 * Q.length+1:=by
 have h1:=yX (qI Q) (S0 T)
 have h2:=yE Q
 unfold chgF
 split
 · rename_i r l hr hl
   rw [List.length_append,List.length_map,List.length_tail]
   have:0 < (turnR Q T).length:=by
    cases h:turnR Q T with
    | nil=>rw [h] at hr; cases hr
    | cons a b=>simp
   have h3:(turnR Q T).length<=2 * Q.length+1:=Nat.le_trans h1 h2
   split
   · simp; omega
   · simp; omega
 · simp
open Builtin.Int (intBits)
@[simp] theorem eqS_put_put:eqD (.str "put") (.str "put")=some (.bl true):=by kernel_rfl
@[simp] theorem neS_put_put:neD (.str "put") (.str "put")=some (.bl false):=by kernel_rfl
@[simp] theorem eqS_put_widen:eqD (.str "put") (.str "widen")=some (.bl false):=by kernel_rfl
@[simp] theorem neS_put_widen:neD (.str "put") (.str "widen")=some (.bl true):=by kernel_rfl
@[simp] theorem eqS_put_narrow:eqD (.str "put") (.str "narrow")=some (.bl false):=by kernel_rfl
@[simp] theorem neS_put_narrow:neD (.str "put") (.str "narrow")=some (.bl true):=by kernel_rfl
@[simp] theorem eqS_put_move:eqD (.str "put") (.str "move")=some (.bl false):=by kernel_rfl
@[simp] theorem neS_put_move:neD (.str "put") (.str "move")=some (.bl true):=by kernel_rfl
@[simp] theorem eqS_put_stretch:eqD (.str "put") (.str "stretch")=some (.bl false):=by kernel_rfl
@[simp] theorem neS_put_stretch:neD (.str "put") (.str "stretch")=some (.bl true):=by kernel_rfl
@[simp] theorem eqS_put_mirror:eqD (.str "put") (.str "mirror")=some (.bl false):=by kernel_rfl
@[simp] theorem neS_put_mirror:neD (.str "put") (.str "mirror")=some (.bl true):=by kernel_rfl
@[simp] theorem eqS_widen_put:eqD (.str "widen") (.str "put")=some (.bl false):=by kernel_rfl
@[simp] theorem neS_widen_put:neD (.str "widen") (.str "put")=some (.bl true):=by kernel_rfl
@[simp] theorem eqS_widen_widen:eqD (.str "widen") (.str "widen")=some (.bl true):=by kernel_rfl
@[simp] theorem neS_widen_widen:neD (.str "widen") (.str "widen")=some (.bl false):=by kernel_rfl
@[simp] theorem eqS_widen_narrow:eqD (.str "widen") (.str "narrow")=some (.bl false):=by kernel_rfl
@[simp] theorem neS_widen_narrow:neD (.str "widen") (.str "narrow")=some (.bl true):=by kernel_rfl
@[simp] theorem eqS_widen_move:eqD (.str "widen") (.str "move")=some (.bl false):=by kernel_rfl
@[simp] theorem neS_widen_move:neD (.str "widen") (.str "move")=some (.bl true):=by kernel_rfl
@[simp] theorem eqS_widen_stretch:eqD (.str "widen") (.str "stretch")=some (.bl false):=by kernel_rfl
@[simp] theorem neS_widen_stretch:neD (.str "widen") (.str "stretch")=some (.bl true):=by kernel_rfl
@[simp] theorem eqS_widen_mirror:eqD (.str "widen") (.str "mirror")=some (.bl false):=by kernel_rfl
@[simp] theorem neS_widen_mirror:neD (.str "widen") (.str "mirror")=some (.bl true):=by kernel_rfl
@[simp] theorem eqS_narrow_put:eqD (.str "narrow") (.str "put")=some (.bl false):=by kernel_rfl
@[simp] theorem neS_narrow_put:neD (.str "narrow") (.str "put")=some (.bl true):=by kernel_rfl
@[simp] theorem eqS_narrow_widen:eqD (.str "narrow") (.str "widen")=some (.bl false):=by kernel_rfl
@[simp] theorem neS_narrow_widen:neD (.str "narrow") (.str "widen")=some (.bl true):=by kernel_rfl
@[simp] theorem eqS_narrow_narrow:eqD (.str "narrow") (.str "narrow")=some (.bl true):=by kernel_rfl
@[simp] theorem neS_narrow_narrow:neD (.str "narrow") (.str "narrow")=some (.bl false):=by kernel_rfl
@[simp] theorem eqS_narrow_move:eqD (.str "narrow") (.str "move")=some (.bl false):=by kernel_rfl
@[simp] theorem neS_narrow_move:neD (.str "narrow") (.str "move")=some (.bl true):=by kernel_rfl
@[simp] theorem eqS_narrow_stretch:eqD (.str "narrow") (.str "stretch")=some (.bl false):=by kernel_rfl
@[simp] theorem neS_narrow_stretch:neD (.str "narrow") (.str "stretch")=some (.bl true):=by kernel_rfl
@[simp] theorem eqS_narrow_mirror:eqD (.str "narrow") (.str "mirror")=some (.bl false):=by kernel_rfl
@[simp] theorem neS_narrow_mirror:neD (.str "narrow") (.str "mirror")=some (.bl true):=by kernel_rfl
@[simp] theorem eqS_move_put:eqD (.str "move") (.str "put")=some (.bl false):=by kernel_rfl
@[simp] theorem neS_move_put:neD (.str "move") (.str "put")=some (.bl true):=by kernel_rfl
@[simp] theorem eqS_move_widen:eqD (.str "move") (.str "widen")=some (.bl false):=by kernel_rfl
@[simp] theorem neS_move_widen:neD (.str "move") (.str "widen")=some (.bl true):=by kernel_rfl
@[simp] theorem eqS_move_narrow:eqD (.str "move") (.str "narrow")=some (.bl false):=by kernel_rfl
@[simp] theorem neS_move_narrow:neD (.str "move") (.str "narrow")=some (.bl true):=by kernel_rfl
@[simp] theorem eqS_move_move:eqD (.str "move") (.str "move")=some (.bl true):=by kernel_rfl
@[simp] theorem neS_move_move:neD (.str "move") (.str "move")=some (.bl false):=by kernel_rfl
@[simp] theorem eqS_move_stretch:eqD (.str "move") (.str "stretch")=some (.bl false):=by kernel_rfl
@[simp] theorem neS_move_stretch:neD (.str "move") (.str "stretch")=some (.bl true):=by kernel_rfl
@[simp] theorem eqS_move_mirror:eqD (.str "move") (.str "mirror")=some (.bl false):=by kernel_rfl
@[simp] theorem neS_move_mirror:neD (.str "move") (.str "mirror")=some (.bl true):=by kernel_rfl
@[simp] theorem eqS_stretch_put:eqD (.str "stretch") (.str "put")=some (.bl false):=by kernel_rfl
@[simp] theorem neS_stretch_put:neD (.str "stretch") (.str "put")=some (.bl true):=by kernel_rfl
@[simp] theorem eqS_stretch_widen:eqD (.str "stretch") (.str "widen")=some (.bl false):=by kernel_rfl
@[simp] theorem neS_stretch_widen:neD (.str "stretch") (.str "widen")=some (.bl true):=by kernel_rfl
@[simp] theorem eqS_stretch_narrow:eqD (.str "stretch") (.str "narrow")=some (.bl false):=by kernel_rfl
@[simp] theorem neS_stretch_narrow:neD (.str "stretch") (.str "narrow")=some (.bl true):=by kernel_rfl
@[simp] theorem eqS_stretch_move:eqD (.str "stretch") (.str "move")=some (.bl false):=by kernel_rfl
@[simp] theorem neS_stretch_move:neD (.str "stretch") (.str "move")=some (.bl true):=by kernel_rfl
@[simp] theorem eqS_stretch_stretch:eqD (.str "stretch") (.str "stretch")=some (.bl true):=by kernel_rfl
@[simp] theorem neS_stretch_stretch:neD (.str "stretch") (.str "stretch")=some (.bl false):=by kernel_rfl
@[simp] theorem eqS_stretch_mirror:eqD (.str "stretch") (.str "mirror")=some (.bl false):=by kernel_rfl
@[simp] theorem neS_stretch_mirror:neD (.str "stretch") (.str "mirror")=some (.bl true):=by kernel_rfl
@[simp] theorem eqS_mirror_put:eqD (.str "mirror") (.str "put")=some (.bl false):=by kernel_rfl
@[simp] theorem neS_mirror_put:neD (.str "mirror") (.str "put")=some (.bl true):=by kernel_rfl
@[simp] theorem eqS_mirror_widen:eqD (.str "mirror") (.str "widen")=some (.bl false):=by kernel_rfl
@[simp] theorem neS_mirror_widen:neD (.str "mirror") (.str "widen")=some (.bl true):=by kernel_rfl
@[simp] theorem eqS_mirror_narrow:eqD (.str "mirror") (.str "narrow")=some (.bl false):=by kernel_rfl
@[simp] theorem neS_mirror_narrow:neD (.str "mirror") (.str "narrow")=some (.bl true):=by kernel_rfl
@[simp] theorem eqS_mirror_move:eqD (.str "mirror") (.str "move")=some (.bl false):=by kernel_rfl
@[simp] theorem neS_mirror_move:neD (.str "mirror") (.str "move")=some (.bl true):=by kernel_rfl
@[simp] theorem eqS_mirror_stretch:eqD (.str "mirror") (.str "stretch")=some (.bl false):=by kernel_rfl
@[simp] theorem neS_mirror_stretch:neD (.str "mirror") (.str "stretch")=some (.bl true):=by kernel_rfl
@[simp] theorem eqS_mirror_mirror:eqD (.str "mirror") (.str "mirror")=some (.bl true):=by kernel_rfl
@[simp] theorem neS_mirror_mirror:neD (.str "mirror") (.str "mirror")=some (.bl false):=by kernel_rfl
@[simp] theorem fldG_eq (ix:List (Nat×Nat)) (f:FE) (ds:List Sl):fldG ix f ds=(f ds).bind (fldD ix):=rfl
@[simp] theorem fldD_ins (ix:List (Nat×Nat)) (t:Nat) (es:List D):fldD ix (.ins t es)=(ix.lookup t).bind fun i=>es[i]?:=rfl
@[simp] theorem methV_eq (n:Nat) (cs:List Nat) (F:Nat->List D->Option Ret) (fo:FE) (g:FA) (ds:List Sl):methV n cs F fo g ds=(fo ds).bind fun o=>(g ds).bind fun l=>(methR n cs F o l).bind retV:=rfl
@[simp] theorem methF_eq (n:Nat) (cs:List Nat) (F:Nat->List D->Option Ret) (fo:FE) (g:FA) (ds:List Sl):methF n cs F fo g ds=(fo ds).bind fun o=>(g ds).bind fun l=>(methR n cs F o l).bind retF:=rfl
@[simp] theorem makeG_eq (t n:Nat) (G:List D->Option (List D)) (g:FA) (ds:List Sl):makeG t n G g ds=(g ds).bind fun l=>if l.length=n/\flats l=true then (G l).map (D.ins t) else none:=rfl
@[simp] theorem retDG_eq (f:FE) (ds:List Sl):retDG f ds=(f ds).map fun d=>.rt (.val d):=rfl
end FL
namespace FL
open PySem PySem.Spec PyProof.Rows L2
open Builtin.Int (intBits)
@[simp] theorem methR_ins (n:Nat) (cs:List Nat) (F:Nat->List D->Option Ret) (t:Nat) (es l:List D):methR n cs F (.ins t es) l=if t∈cs/\l.length=n then F t (.ins t es::l) else none:=rfl
end FL
namespace FL
open PySem PySem.Spec PyProof.Rows L2
open Builtin.Int (intBits)
theorem nth_eq (ns:List Int) (k:Nat):GL.nth.f [.lst (ns.map D.int),.int (k:Int)]=some (.val (.int (cel ns k))):=by
 unfold GL.nth.f runG GL.nth.g
 have e:cutD (ns.map D.int) (some (k:Int)) (some ((k:Int)+1))=(if k < ns.length then [D.int (cel ns k)] else []):=by
  unfold cutD HT.sIx
  have h1 : ¬ (k:Int) < 0:=by omega
  have h2 : ¬ (k:Int)+1 < 0:=by omega
  simp only [h1,h2,if_false,List.length_map]
  by_cases h:k < ns.length
  · have e1 : min (k : Int).toNat ns.length = k := by omega
    have e2:min ((k:Int)+1).toNat ns.length=k+1:=by omega
    rw [e1,e2,List.drop_eq_getElem_cons (show k < (ns.map D.int).length by simpa using h),show k+1 - k=1 by omega]
    simp [cel,List.getD,h]
  · have e1 : min (k : Int).toNat ns.length = ns.length := by omega
    rw [e1]
    simp [h]
 by_cases h:k < ns.length
 · rw [if_pos h] at e
   simp [args,e]
 · rw [if_neg h] at e
   have hz:cel ns k=0:=by simp [cel,List.getD,List.getElem?_eq_none (Nat.le_of_not_lt h)]
   simp [args,e,hz]
end FL
namespace FL
open PySem PySem.Spec PyProof.Rows L2
theorem jL (i:Int):GL.is_int.f [.int i]=some (.val (.bl true)):=by
 unfold GL.is_int.f runG GL.is_int.g
 simp [args,isBD,isBV,isiD,tyD,kitF,kitN,kitT]
def shR (f:Int) (r:Rw):Rw:=(r.1.map (·+f),r.2.1.map (·+f),r.2.2)
theorem tel_map {T:Rw->Rw} {c:Int->Int} (h1:∀ r p,has3 (T r) p=has3 r (c p)) (h2:∀ r,(T r).2.2=r.2.2) (ps:List Rw) (p v:Int):Tel (ps.map T) p v↔Tel ps (c p) v:=by
 constructor
 · rintro ⟨r', hr, h3, h4⟩
   obtain ⟨r,hm,rfl⟩:=List.mem_map.mp hr
   exact ⟨r,hm,by rw [<- h1]; exact h3,by rw [<- h2]; exact h4⟩
 · rintro ⟨r, hr, h3, h4⟩
   exact ⟨T r,List.mem_map_of_mem hr,by rw [h1]; exact h3,by rw [h2]; exact h4⟩
theorem has_sh (f:Int) (r:Rw) (p:Int):has3 (shR f r) p=has3 r (p - f):=by
 obtain ⟨a,b,v⟩:=r
 rw [Bool.eq_iff_iff,qM,qM]
 cases a <;> cases b <;> simp [shR] <;> omega
theorem ord_map {T:Rw->Rw} {ps:List Rw} (o:Ord ps) (h1:∀ r∈ps,ok3 r->ok3 (T r)) (h2:∀ a b,ahead a b->ahead (T a) (T b)):Ord (ps.map T) :=
 ⟨fun r' hr=>by obtain ⟨r,hm,rfl⟩:=List.mem_map.mp hr; exact h1 r hm (o.ok r hm),List.pairwise_map.mpr (o.pw.imp fun h=>h2 _ _ h)⟩
theorem ok_sh {f:Int} {r:Rw} (h:ok3 r):ok3 (shR f r):=by
 intro a b h1 h2
 obtain ⟨x,y,v⟩:=r
 cases x <;> cases y <;> simp [shR] at h1 h2
 rename_i x y
 have:x < y:=h x y rfl rfl
 omega
theorem ahead_sh {f:Int} {a b:Rw} (h:ahead a b):ahead (shR f a) (shR f b):=by
 obtain ⟨x,y,h1,h2,h3⟩:=h
 exact ⟨x+f,y+f,by simp [shR,h1],by simp [shR,h2],by omega⟩
theorem sh_ord {ps:List Rw} (o:Ord ps) (f:Int):Ord (ps.map (shR f)):=ord_map o (fun r _ h=>ok_sh h) fun a b h=>ahead_sh h
theorem farther_eq (o:Option Int) (f:Int):GP.farther.f [oi o,.int f]=some (.val (oi (o.map (·+f)))):=by
 unfold GP.farther.f runG GP.farther.g
 cases o <;> simp [args]
theorem shifted_eq (ps:List Rw) (f:Int) (hl:ps.length<=1000000):GP.shifted.f [.lst (ps.map rwD),.int f]=some (.fresh ((ps.map (shR f)).map rwD)):=by
 unfold GP.shifted.f
 refine yU ?_
 unfold GP.shifted.g
 have cm:(compG (viaA (qW 0) asLT) [none,none,none,some 1] (tupG 3 (zO (zT 0) (zO (zT 1) (zO (zT 2) tgNil)))) (fun _=>some true) (mkT (qN (zG (qF 2 GP.farther.f (zG (zJ 0) (zG (zJ 3) qC))) (zG (qF 2 GP.farther.f (zG (zJ 1) (zG (zJ 3) qC))) (zG (qW 2) qC)))))) [.v (.lst (ps.map rwD)),.v (.int f)]=some ((ps.map (shR f)).map rwD):=by
  refine wB (items:=ps.map rwD) (by simp) (by simp; omega) ?_
  rw [yV rwD (fun r=>rwD (shR f r)),List.map_map]
  · rfl
  · intro r _
    obtain ⟨a,b,c⟩:=r
    exact ⟨_,by simp [rwD,jS]; rfl,by simp [farther_eq]; rfl⟩
 have fl:=yN (ps.map (shR f))
 show retOG _ [.v (.lst (ps.map rwD)),.v (.int f)]=_
 rw [retOG_eq,cm,Option.bind_some,flatF_of _ fl]
open Builtin.Int (intBits)
structure DrawM (rows:List Rw) (s:Int):Prop where
 map:MapF rows
 fin:∀ r∈rows,∃ lo bh,r.1=some lo/\r.2.1=some bh/\bh<=s
 last:∀ r,rows.getLast? = some r->r.2.1=some s
theorem DrawM.nil (s:Int):DrawM [] s:=⟨MapF.nil,(fun _ h=>nomatch h),fun r h=>by simp at h⟩
theorem DrawM.snoc {rows:List Rw} {s lo bh v:Int} (h:DrawM rows s) (h1:s<=lo) (h2:lo < bh) (h3:∀ r,rows.getLast? = some r->lo=s->r.2.2≠some v):DrawM (rows++[(some lo,some bh,some v)]) bh:=by
 have d:Drawn rows s:=⟨h.map.ord,h.fin⟩
 have d2:=d.snoc (v:=some v) h1 h2
 refine ⟨⟨d2.ord,fun r hr=>?_,fun i a b e1 e2=>?_⟩,d2.fin,fun r hr=>?_⟩
 · rcases List.mem_append.mp hr with hr | hr
   · exact h.map.val r hr
   · have : r = (some lo, some bh, some v) := by simpa using hr
     subst this
     simp
 · by_cases hi : i + 1 < rows.length
   · rw [List.getElem?_append_left (by omega)] at e1
     rw [List.getElem?_append_left hi] at e2
     exact h.map.adj i a b e1 e2
   · have l2 := (List.getElem?_eq_some_iff.mp e2).1
     simp only [List.length_append,List.length_cons,List.length_nil] at l2
     have hi2:i+1=rows.length:=by omega
     rw [List.getElem?_append_left (by omega)] at e1
     rw [List.getElem?_append_right (by omega),hi2] at e2
     simp at e2
     subst e2
     have hl:rows.getLast? = some a:=by
      rw [List.getLast?_eq_getElem?,<- e1]
      congr 1
      omega
     have:=h.last a hl
     rintro ⟨q1,q2⟩
     rw [this] at q1
     simp at q1
     exact h3 a hl q1.symm q2
 · simp at hr
   subst hr
   rfl
theorem last_rw {rows:List Rw} {r:Rw} (h:rows.getLast? = some r):ixD (.lst (rows.map rwD)) (.int (-1))=some (rwD r):=by
 obtain ⟨l,rfl⟩:∃ l,rows=l++[r]:=by
  have hne:rows≠[]:=by intro z; subst z; simp at h
  refine ⟨rows.dropLast,?_⟩
  rw [List.getLast?_eq_some_getLast hne] at h
  cases h
  exact (List.dropLast_concat_getLast hne).symm
 rw [List.map_append,List.map_cons,List.map_nil]
 exact wQ _ _
def endsR (r:Rw):List Int:=r.1.toList++r.2.1.toList
def endsM (rows:List Rw):List Int:=rows.flatMap endsR
theorem endsM_len (rows:List Rw):(endsM rows).length<=2 * rows.length:=by
 induction rows with
 | nil=>simp [endsM]
 | cons r t ih =>
   have:(endsR r).length<=2:=by
    obtain ⟨a,b,v⟩:=r
    cases a <;> cases b <;> simp [endsR]
   simp only [endsM,List.flatMap_cons,List.length_append,List.length_cons] at ih ⊢
   omega
theorem ends_loop (C:Sl):∀ (rows:List Rw) (acc:List Int) (x2 x3 x4:Sl),acc.length+2 * rows.length<=16777216->∃ y2 y3 y4,qS (tupG 3 (zO (zT 2) (zO (zT 3) (zO (zT 4) tgNil)))) GL.ends.b1 (rows.map rwD) [C,.own (acc.map D.int),x2,x3,x4]=some (.nx [C,.own ((acc++endsM rows).map D.int),y2,y3,y4])
 | [],acc,x2,x3,x4,_=>⟨x2,x3,x4,by simp [endsM,qS]⟩
 | r :: t, acc, x2, x3, x4, hl => by
   obtain ⟨a,b,v⟩:=r
   simp only [List.length_cons] at hl
   have turn:GL.ends.b1 [C,.own (acc.map D.int),.v (oi a),.v (oi b),.v (oi v)]=some (.nx [C,.own ((acc++endsR (a,b,v)).map D.int),.v (oi a),.v (oi b),.v (oi v)]):=by
    unfold GL.ends.b1
    generalize hG:acc.map D.int=R
    have hR:R.length=acc.length:=by rw [<- hG]; simp
    have h0:R.length+0<=16777216:=by omega
    have h1:R.length+1<=16777216:=by omega
    have h2:R.length+2<=16777216:=by omega
    have h3:R.length<=16777216:=by omega
    cases a <;> cases b <;> simp [compG,compL,jS,endsR,hG,h1,h2,h3]
   obtain ⟨y2,y3,y4,e⟩:=ends_loop C t (acc++endsR (a,b,v)) (.v (oi a)) (.v (oi b)) (.v (oi v)) (by
    have:(endsR (a,b,v)).length<=2:=by cases a <;> cases b <;> simp [endsR]
    simp only [List.length_append]; omega)
   refine ⟨y2,y3,y4,?_⟩
   have tg:tupG 3 (zO (zT 2) (zO (zT 3) (zO (zT 4) tgNil))) (rwD (a,b,v)) [C,.own (acc.map D.int),x2,x3,x4]=some [C,.own (acc.map D.int),.v (oi a),.v (oi b),.v (oi v)]:=by simp [rwD]
   simp only [List.map_cons,qS,tg,Option.bind_some,turn]
   rw [e]
   simp [endsM]
theorem endsM_eq (rows:List Rw) (hl:rows.length<=100000):GL.ends.f [.lst (rows.map rwD)]=some (.fresh ((endsM rows).map D.int)):=by
 obtain ⟨y2,y3,y4,e⟩:=ends_loop (.v (.lst (rows.map rwD))) rows [] .no .no .no (by simp; omega)
 simp only [List.map_nil,List.nil_append] at e
 have fl:=flats_ints (endsM rows)
 unfold GL.ends.f runG GL.ends.g
 generalize (endsM rows).map D.int=E at *
 generalize rows.map rwD=R at *
 simp [args,e,fl]
end FL
namespace FL
open PySem PySem.Spec PyProof.Rows L2
open Builtin.Int (intBits)
theorem loop_range {ga:D->List Sl->Option (List Sl)} {body:FS} (P:Nat->List Sl->Prop) (N:Nat) (H:∀ k,k < N->∀ ds,P k ds->∃ ds1 ds2,ga (.int (k:Int)) ds=some ds1/\body ds1=some (.nx ds2)/\P (k+1) ds2) :
  ∀ n k ds,k+n=N->P k ds->∃ ds',qS ga body ((List.range' k n).map fun (j:Nat)=>D.int (0+(j:Int))) ds=some (.nx ds')/\P N ds'
 | 0, k, ds, h, hp => ⟨ds, rfl, by have : k = N := by omega
                                   subst this; exact hp⟩
 | n + 1, k, ds, h, hp => by
   obtain ⟨ds1,ds2,e1,e2,h2⟩:=H k (by omega) ds hp
   obtain ⟨ds',e,h'⟩:=loop_range P N H n (k+1) ds2 (by omega) h2
   refine ⟨ds',?_,h'⟩
   rw [List.range'_succ,List.map_cons,qS]
   have:(0+(k:Int))=(k:Int):=by omega
   rw [this,e1,Option.bind_some,e2,Option.bind_some]
   exact e
theorem rangeD_range' (n:Nat):rangeD 0 n=(List.range' 0 n).map fun (j:Nat)=>D.int (0+(j:Int)):=by rw [rangeD,List.range_eq_range']
@[simp] theorem notD_rw (r:Rw):notD (rwD r) .non=some (.bl true):=rfl
theorem is_map2_eq (ps:List Rw) (h:MapF ps) (hl:ps.length<=1000):GL.is_map2.f [.lst (ps.map rwD)]=some (.val (.bl true)):=by
 let bef:Nat->D:=fun n=>if n=0 then .non else rwD (ps.getD (n - 1) (none,none,none))
 have key:=loop_range (ga:=zT 2) (body:=GL.is_map2.b1) (fun k ds=>∃ a b,ds=[.v (.lst (ps.map rwD)),.v (bef k),a,b]) ps.length (by
  rintro k hk _ ⟨a,b,rfl⟩
  have i1:ixD (.lst (ps.map rwD)) (.int (k:Int))=some (rwD ps[k]):=by
   rw [jZ _ (by omega) (by simp; omega)]
   simp [hk]
  obtain ⟨v,hv⟩:∃ v,ps[k].2.2=some v:=by
   cases hv:ps[k].2.2 with
   | none=>exact (h.val _ (List.getElem_mem hk) hv).elim
   | some v=>exact ⟨v,rfl⟩
  have ok:=h.ord.ok _ (List.getElem_mem hk)
  have hbh:ps[k].2.1=none->k+1=ps.length:=by
   intro hn
   by_cases e:k+1 < ps.length
   · obtain ⟨x, y, h1, _⟩ := List.pairwise_iff_getElem.mp h.ord.pw k (k + 1) hk e (by omega)
     rw [hn] at h1
     cases h1
   · omega
  have nb:bef (k+1)=rwD ps[k]:=by simp [bef,hk]
  refine ⟨_,[.v (.lst (ps.map rwD)),.v (bef (k+1)),.v (.int (k:Int)),.v (rwD ps[k])],rfl,?_,_,_,rfl⟩
  have hr:ps[k]? = some ps[k]:=List.getElem?_eq_getElem hk
  have ll:((ps.map rwD).length:Int)=(ps.length:Int):=by simp
  rw [nb]
  unfold GL.is_map2.b1
  by_cases h0:k=0
  · subst h0
    have b0:bef 0 = .non:=rfl
    rw [b0]
    generalize hR:ps[0]=r at *
    obtain ⟨lo,bh,w⟩:=r
    simp only at hv hbh
    subst hv
    have i1:ixD (.lst (ps.map rwD)) (.int 0)=some (rwD (lo,bh,some v)):=i1
    generalize ps.map rwD=L at *
    cases lo with
    | none =>
      cases bh with
      | none =>
        have : ¬ ((1:Int) < (ps.length:Int)):=by have:=hbh rfl; omega
        have h2 : ¬ ((0:Int)+1 < (ps.length:Int)):=by omega
        simp [i1,jL,ll,this,h2]
      | some y=>simp [i1,jL]
    | some x =>
      cases bh with
      | none =>
        have : ¬ ((1:Int) < (ps.length:Int)):=by have:=hbh rfl; omega
        have h2 : ¬ ((0:Int)+1 < (ps.length:Int)):=by omega
        simp [i1,jL,ll,this,h2]
      | some y =>
        have : ¬ y<=x:=by have:=ok x y rfl rfl; omega
        simp [i1,jL,this]
  · have hk1 : k - 1 < ps.length := by omega
    obtain ⟨x,y,hx,hy,hxy⟩:=List.pairwise_iff_getElem.mp h.ord.pw (k - 1) k hk1 hk (by omega)
    obtain ⟨v',hv'⟩:∃ v',ps[k - 1].2.2=some v':=by
     cases hv:ps[k - 1].2.2 with
     | none=>exact (h.val _ (List.getElem_mem hk1) hv).elim
     | some v=>exact ⟨v,rfl⟩
    have adj:=h.adj (k - 1) ps[k - 1] ps[k] (List.getElem?_eq_getElem hk1) (by
     have:k - 1+1=k:=by omega
     rw [this,hr])
    have b0:bef k=rwD ps[k - 1]:=by simp [bef,h0,hk1]
    rw [b0]
    generalize hR:ps[k]=r at *
    generalize hQ:ps[k - 1]=q at *
    obtain ⟨lo,bh,w⟩:=r
    obtain ⟨qa,qb,qv⟩:=q
    simp only at hv hbh hx hy hv' adj
    subst hv hx hy hv'
    have hkp:(0:Int) < (k:Int):=by omega
    have g1 : ¬ y < x:=by omega
    generalize ps.map rwD=L at *
    by_cases hxy':x=y
    · have g2 : ¬ v' = v := fun e2 => adj ⟨by rw [hxy'], by rw [e2]⟩
      have g3 : ¬ v=v':=fun z=>g2 z.symm
      subst hxy'
      cases bh with
      | none =>
        have : ¬ ((k:Int)+1 < (ps.length:Int)):=by have:=hbh rfl; omega
        simp [i1,jL,ll,this,g3]
      | some z =>
        have : ¬ z<=x:=by have:=ok x z rfl rfl; omega
        simp [i1,jL,this,g3]
    · have g4 : ¬ y = x := fun z => hxy' z.symm
      cases bh with
      | none =>
        have : ¬ ((k:Int)+1 < (ps.length:Int)):=by have:=hbh rfl; omega
        simp [i1,jL,ll,this,g1,g4]
      | some z =>
        have : ¬ z<=y:=by have:=ok y z rfl rfl; omega
        simp [i1,jL,this,g1,g4]) ps.length 0 [.v (.lst (ps.map rwD)),.v .non,.no,.no] (by omega) ⟨_,_,rfl⟩
 obtain ⟨ds',e,a,b,rfl⟩:=key
 rw [<- rangeD_range'] at e
 have ok:okR (ps.length:Int):=xX (by omega) (by omega)
 unfold GL.is_map2.f runG GL.is_map2.g
 have ll:(ps.map rwD).length=ps.length:=by simp
 generalize ps.map rwD=L at *
 simp [args,ok,e,ll]
end FL
namespace FL
open PySem PySem.Spec PyProof.Rows L2
open Builtin.Int (intBits)
def chD (c:Ch):D:=.tup [.int c.1,oi c.2]
theorem flats_ch (l:List Ch):flats (l.map chD)=true:=by
 induction l with
 | nil=>rfl
 | cons a l ih=>simp [chD,ih]
theorem eqv_ch (a b:Ch):eqvD (chD a) (chD b)=decide (a=b):=by
 obtain ⟨a1,a2⟩:=a
 obtain ⟨b1,b2⟩:=b
 have e:decide ((a1,a2)=(b1,b2))=(decide (a1=b1) && decide (a2=b2)):=by
  rw [Bool.eq_iff_iff]
  simp
 rw [e]
 cases a2 <;> cases b2 <;> simp [chD,eqvD,toPy,toPys,PyData.eqv,PyData.eqvAll] <;> rfl
theorem neD_ch (a b:Ch):neD (chD a) (chD b)=some (.bl (!decide (a=b))):=by
 rw [vT (by simp [chD]) (by simp [chD]),eqv_ch]
theorem changes_eq {Q:List Rw} (m:MapF Q) {T:Int} (hT:0 < T) (hl:Q.length<=10000):GP.changes_on.f [.int T,.lst (Q.map rwD)]=some (.fresh ((chgF Q T).map chD)):=by
 have h1:=runs_eq Q (by omega)
 have hr:=yE Q
 have h2:=vU (qI Q) (S0 T) (by omega)
 have hp:=yX (qI Q) (S0 T)
 obtain ⟨_,_,_,⟨r,er,_⟩,⟨l,el,_⟩,i6⟩:=tl_ch (g:=gOf Q T) (turn_tl m hT) fun r hr p hp=>by
  obtain ⟨a,b,c⟩:=turn_val m hr hp
  rw [vP a b,c]
 have eC:chgF Q T=(turnR Q T).tail.map lowC++(if r.2.2≠l.2.2 then [(T,r.2.2)] else []):=by
  unfold chgF
  rw [er,el]
 have hturn:qD (qI Q) (S0 T)=turnR Q T:=rfl
 rw [hturn] at h2 hp
 rw [eC]
 have low:∀ q∈turnR Q T,D.tup [oi q.1,oi q.2.2]=chD (lowC q):=fun q hq=>by
  obtain ⟨x,hx⟩:=i6 q hq
  unfold lowC
  rw [hx]
  rfl
 generalize turnR Q T=R at *
 cases R with
 | nil=>cases er
 | cons r' t =>
   cases er
   have cu:cutD ((r::t).map rwD) (some 1) none=t.map rwD:=cutD_from _ 1
   have cm:∀ A B:Sl,(compG (viaA (mkL (sliA (zJ 2) (soP (zE (.int 1))) noP)) asLT) [none,none,none] (tupG 3 (zO (zT 0) (zO (zT 1) (zO (zT 2) tgNil)))) (fun _=>some true) (mkT (qN (zG (qW 0) (zG (qW 2) qC))))) [A,B,.v (.lst ((r::t).map rwD)),.no]=some ((t.map lowC).map chD):=by
    intro A B
    have hlen:t.length<=16777216:=by simp at hp; omega
    refine wB (items:=t.map rwD) (by simp [cu]; simpa using cu) (by simp; exact hlen) ?_
    rw [List.map_map]
    refine yV rwD _ t fun q hq=>⟨_,by simp [jS]; rfl,?_⟩
    simp
    exact low q (List.mem_cons_of_mem _ hq)
   have il:=last_rw el
   have e0:ixD (.lst ((r::t).map rwD)) (.int 0)=some (rwD r):=by simp
   have fl:=flats_ch ((r::t).tail.map lowC++if r.2.2≠l.2.2 then [(T,r.2.2)] else [])
   have hsp:(D.tup [.int 0,.int T])=spD (S0 T):=rfl
   have et:(r::t).tail=t:=rfl
   rw [et] at fl ⊢
   have hs1:(t.map lowC).length < 16777216:=by simp at hp ⊢; omega
   generalize (r::t).map rwD=L at *
   generalize t.map lowC=M at *
   generalize qI Q=RR at *
   unfold GP.changes_on.f runG GP.changes_on.g
   by_cases hne:r.2.2=l.2.2
   · have ei : (if r.2.2 ≠ l.2.2 then [(T, r.2.2)] else []) = ([] : List Ch) := if_neg (fun z => z hne)
     rw [ei,List.append_nil] at fl ⊢
     have ff:flatF (M.map chD)=some (.rt (.fresh (M.map chD))):=if_pos fl
     generalize M.map chD=ML at *
     simp [args,h1,h2,hsp,cm,e0,il,hne,ff]
   · have ei : (if r.2.2 ≠ l.2.2 then [(T, r.2.2)] else []) = [(T, r.2.2)] := if_pos hne
     rw [ei,List.map_append,List.map_cons,List.map_nil] at fl ⊢
     have ff:flatF (M.map chD++[chD (T,r.2.2)])=some (.rt (.fresh (M.map chD++[chD (T,r.2.2)]))):=if_pos fl
     have ec:D.tup [.int T,oi r.2.2]=chD (T,r.2.2):=rfl
     have hs2:(M.map chD).length < 16777216:=by simpa using hs1
     generalize M.map chD=ML at *
     simp [args,h1,h2,hsp,cm,e0,il,hne,ec,hs2,ff]
theorem change_by_eq {T:Int} {C:List Ch} (hn:C≠[]) (hl:C.length<=100000) (k:Nat) (hk:k < 1000000):GP.change_by.f [.int T,.lst (C.map chD),.int (k:Int)]=some (.val (chD (chP T C k,chV C k))):=by
 have h0:0 < C.length:=List.length_pos_iff.mpr hn
 have hm:=Nat.mod_lt k h0
 have ix:ixD (.lst (C.map chD)) (.int ((k:Int) % (C.length:Int)))=some (chD (C.getD (k % C.length) (0,none))):=by
  rw [<- Int.natCast_emod,jZ _ (by omega) (by simp; omega),Int.toNat_natCast,List.getElem?_map,List.getElem?_eq_getElem hm,List.getD_eq_getElem?_getD,List.getElem?_eq_getElem hm]
  rfl
 have hne:C.isEmpty=false:=by cases C with | nil=>exact (hn rfl).elim | cons a b=>rfl
 have hd:qY (.int (k:Int)) (.int (C.length:Int))=some (.int ((k / C.length:Nat):Int)):=by
  rw [yR _ (by omega) (by omega),Int.natCast_ediv]
 have hmod:xL (.int (k:Int)) (.int (C.length:Int))=some (.int ((k:Int) % (C.length:Int))):=yM _ (by omega)
 have hk2:k / C.length < 1000000:=Nat.lt_of_le_of_lt (Nat.div_le_self _ _) hk
 have hmul:yT (.int ((k / C.length:Nat):Int)) (.int T)=some (.int (((k / C.length:Nat):Int) * T)):=yA (.of_left (jH (Nat.lt_trans (show (((k / C.length:Nat):Int)).natAbs < 1000000 by rw [Int.natAbs_natCast]; exact hk2) (by decide))))
 unfold GP.change_by.f runG GP.change_by.g
 have e:D.tup [.int (chP T C k),oi (chV C k)]=chD (chP T C k,chV C k):=rfl
 simp only [chP,chV] at e ⊢
 generalize C.getD (k % C.length) (0,none)=c at *
 obtain ⟨c1,c2⟩:=c
 simp only [chD] at ix
 generalize hL:(C.map chD)=L at *
 have hLl:(L.length:Int)=C.length:=by rw [<- hL]; simp
 have hLe:L.isEmpty=false:=by rw [<- hL]; cases C with | nil=>exact (hn rfl).elim | cons a b=>rfl
 generalize ((k / C.length:Nat):Int)=qq at *
 simp [args,hLe,hLl,hmod,ix,hd,hmul,chD]
def comesB (T:Int) (C:List Ch) (t:Nat):Bool:=C.zipIdx.all fun p=>decide ((chP T C (p.2+C.length / t),chV C (p.2+C.length / t))=(p.1.1+T / (t:Int),p.1.2))
theorem enumD_zip (C:List Ch):enumD (C.map chD)=C.zipIdx.map fun p=>.tup [.int (p.2:Int),chD p.1]:=by
 unfold enumD
 apply List.ext_getElem?
 intro i
 simp only [List.getElem?_mapIdx,List.getElem?_map,List.getElem?_zipIdx]
 cases C[i]? <;> simp
theorem comes_eq {T:Int} {C:List Ch} (hn:C≠[]) (hl:C.length<=100000) (t:Nat) (ht:0 < t) (ht2:t<=100000):GP.comes_again.f [.int T,.lst (C.map chD),.int (t:Int)]=some (.val (.bl (comesB T C t))):=by
 have hd:qY (.int (C.length:Int)) (.int (t:Int))=some (.int ((C.length / t:Nat):Int)):=by
  rw [yR _ (by omega) (by omega),Int.natCast_ediv]
 have hd2:qY (.int T) (.int (t:Int))=some (.int (T / (t:Int))):=yR _ (by omega) (by omega)
 have hq:C.length / t<=C.length:=Nat.div_le_self _ _
 have lp:=loop_all (ga:=tupG 2 (zO (zT 5) (zO (zT 6) tgNil))) (body:=GP.comes_again.b1) (fun p:Ch×Nat=>D.tup [.int (p.2:Int),chD p.1])
  (fun p=>decide ((chP T C (p.2+C.length / t),chV C (p.2+C.length / t))=(p.1.1+T / (t:Int),p.1.2)))
  (fun ds=>∃ x y,ds=[.v (.int T),.v (.lst (C.map chD)),.v (.int (t:Int)),.v (.int ((C.length / t:Nat):Int)),.v (.int (T / (t:Int))),x,y]) (.val (.bl false)) C.zipIdx
  [.v (.int T),.v (.lst (C.map chD)),.v (.int (t:Int)),.v (.int ((C.length / t:Nat):Int)),.v (.int (T / (t:Int))),.no,.no] ⟨_,_,rfl⟩ (by
   rintro ⟨c,i⟩ hp ds ⟨x,y,rfl⟩
   have hi:i < C.length:=by
    have:=List.mem_zipIdx hp
    omega
   have hb:=change_by_eq (T:=T) hn hl (i+C.length / t) (by omega)
   have hcast:((i+C.length / t:Nat):Int)=(i:Int)+((C.length / t:Nat):Int):=by omega
   rw [hcast] at hb
   refine ⟨[.v (.int T),.v (.lst (C.map chD)),.v (.int (t:Int)),.v (.int ((C.length / t:Nat):Int)),.v (.int (T / (t:Int))),.v (.int (i:Int)),.v (chD c)],by simp,?_⟩
   have ne:=neD_ch (chP T C (i+C.length / t),chV C (i+C.length / t)) (c.1+T / (t:Int),c.2)
   obtain ⟨c1,c2⟩:=c
   simp only [chD] at ne hb ⊢
   unfold GP.comes_again.b1
   generalize C.map chD=L at *
   generalize ((C.length / t:Nat):Int)=qq at *
   by_cases e:(chP T C (i+C.length / t),chV C (i+C.length / t))=(c1+T / (t:Int),c2)
   · left
     simp only [e,decide_true,Bool.not_true] at ne
     refine ⟨by simpa using e,[.v (.int T),.v (.lst L),.v (.int (t:Int)),.v (.int qq),.v (.int (T / (t:Int))),.v (.int (i:Int)),.v (.tup [.int c1,oi c2])],?_,_,_,rfl⟩
     simp [hb,ne]
   · right
     have e':decide ((chP T C (i+C.length / t),chV C (i+C.length / t))=(c1+T / (t:Int),c2))=false:=decide_eq_false e
     rw [e'] at ne
     refine ⟨e',?_⟩
     simp [hb,ne])
 unfold GP.comes_again.f runG GP.comes_again.g
 have en:=enumD_zip C
 have hen:enuA (qW 1) [.v (.int T),.v (.lst (C.map chD)),.v (.int (t:Int)),.v (.int ((C.length / t:Nat):Int)),.v (.int (T / (t:Int))),.no,.no]=some (C.zipIdx.map fun p:Ch×Nat=>D.tup [.int (p.2:Int),chD p.1]):=by
  simp [enuA,en]
 unfold comesB
 have hlen:((C.map chD).length:Int)=C.length:=by simp
 generalize ((C.length / t:Nat):Int)=qq at *
 rcases lp with ⟨l1,ds',l2,x,y,rfl⟩ | ⟨l1,l2⟩
 · rw [l1]
   generalize C.map chD=L at *
   simp [args,hlen,hd,hd2,hen,l2]
 · rw [l1]
   generalize C.map chD=L at *
   simp [args,hlen,hd,hd2,hen,l2]
theorem comesB_iff {T:Int} {C:List Ch} {t:Nat} : comesB T C t=true↔∀ k,k < C.length->chP T C (k+C.length / t)=chP T C k+T / (t:Int)/\chV C (k+C.length / t)=chV C k:=by
 unfold comesB
 rw [List.all_eq_true]
 have at_:∀ k (hk:k < C.length),chP T C k=C[k].1/\chV C k=C[k].2:=fun k hk=>by
  unfold chP chV
  rw [Nat.mod_eq_of_lt hk,Nat.div_eq_of_lt hk,List.getD_eq_getElem?_getD,List.getElem?_eq_getElem hk]
  simp
 constructor
 · intro h k hk
   have:=h (C[k],k) (List.mem_zipIdx_iff_getElem?.mpr (by simp [hk]))
   simp only [decide_eq_true_eq,Prod.mk.injEq] at this
   rw [(at_ k hk).1,(at_ k hk).2]
   exact this
 · rintro h ⟨c, i⟩ hp
   have hi:=List.mem_zipIdx_iff_getElem?.mp hp
   obtain ⟨hk,e⟩:=List.getElem?_eq_some_iff.mp hi
   simp only at hk e
   have:=h i hk
   rw [(at_ i hk).1,(at_ i hk).2,e] at this
   simpa using this
def goodT (T:Int) (C:List Ch) (t:Nat):Bool:=decide (C.length % t=0) && (decide (T % (t:Int)=0) && comesB T C t)
theorem goodT_iff {T:Int} {C:List Ch} {t:Nat} : goodT T C t=true↔ComesT T C t:=by
 unfold goodT ComesT
 rw [Bool.and_eq_true,Bool.and_eq_true,decide_eq_true_eq,decide_eq_true_eq,comesB_iff]
theorem times_turn {T:Int} {C:List Ch} (hn:C≠[]) (hl:C.length<=100000) (t:Nat) (ht:0 < t) (ht2:t<=100000) :
  GP.times_on.b1 [.v (.int T),.v (.lst (C.map chD)),.v (.int (t:Int))]=if goodT T C t=true then some (.rt (.val (.int (t:Int)))) else some (.nx [.v (.int T),.v (.lst (C.map chD)),.v (.int (t:Int))]):=by
 have hc:=comes_eq (T:=T) hn hl t ht ht2
 have m1:xL (.int (C.length:Int)) (.int (t:Int))=some (.int ((C.length % t:Nat):Int)):=by rw [yM _ (by omega),Int.natCast_emod]
 have m2:xL (.int T) (.int (t:Int))=some (.int (T % (t:Int))):=yM _ (by omega)
 have hlen:((C.map chD).length:Int)=C.length:=by simp
 have e1:decide (((C.length % t:Nat):Int)=0)=decide (C.length % t=0):=by
  rw [Bool.eq_iff_iff]; simp only [decide_eq_true_eq]; omega
 unfold GP.times_on.b1 goodT
 generalize C.map chD=L at *
 generalize ((C.length % t:Nat):Int)=qq at *
 cases h1:decide (C.length % t=0) <;> cases h2:decide (T % (t:Int)=0) <;> cases h3:comesB T C t <;> rw [h3] at hc <;> rw [h1] at e1 <;> simp [hlen,m1,m2,hc,h2,eqD_int,e1]
theorem times_loop {T:Int} {C:List Ch} (hn:C≠[]) (hl:C.length<=100000):∀ (j n:Nat) (x:Sl),j < n->n<=100000 →
  (∃ t:Nat,n - j < t/\t<=n/\goodT T C t=true/\(∀ t',t < t'->t'<=n->goodT T C t'=false)/\qS (zT 2) GP.times_on.b1 (range3D (n:Int) (-1) j) [.v (.int T),.v (.lst (C.map chD)),x]=some (.rt (.val (.int (t:Int))))) ∨
  ((∀ t',n - j < t'->t'<=n->goodT T C t'=false)/\∃ y,qS (zT 2) GP.times_on.b1 (range3D (n:Int) (-1) j) [.v (.int T),.v (.lst (C.map chD)),x]=some (.nx [.v (.int T),.v (.lst (C.map chD)),y]))
 | 0,n,x,_,_=>.inr ⟨fun t' h1 h2=>by omega,x,rfl⟩
 | j + 1, n, x, hj, hn2 => by
   have e:range3D (n:Int) (-1) (j+1)=D.int (n:Int)::range3D ((n - 1:Nat):Int) (-1) j:=by
    unfold range3D
    rw [List.range_succ_eq_map,List.map_cons,List.map_map]
    have e0:(n:Int)+((0:Nat):Int) * -1=(n:Int):=by omega
    rw [e0]
    congr 1
    refine List.map_congr_left fun k _=>?_
    have e1:(n:Int)+((k.succ:Nat):Int) * -1=((n - 1:Nat):Int)+(k:Int) * -1:=by omega
    show D.int ((n:Int)+((k.succ:Nat):Int) * -1)=_
    rw [e1]
   have tt:=times_turn (T:=T) hn hl n (by omega) (by omega)
   rw [e]
   cases hg:goodT T C n with
   | true =>
     left
     rw [hg] at tt
     refine ⟨n,by omega,Nat.le_refl _,hg,fun t' h1 h2=>by omega,?_⟩
     simp [qS,tt]
   | false =>
     rw [hg] at tt
     have st:∀ rest,qS (zT 2) GP.times_on.b1 (D.int (n:Int)::rest) [.v (.int T),.v (.lst (C.map chD)),x]=qS (zT 2) GP.times_on.b1 rest [.v (.int T),.v (.lst (C.map chD)),.v (.int (n:Int))]:=fun rest=>by
      simp [qS,tt]
     rw [st]
     rcases times_loop hn hl j (n - 1) (.v (.int (n:Int))) (by omega) (by omega) with ⟨t,t1,t2,t3,t4,t5⟩ | ⟨t1,y,t2⟩
     · refine .inl ⟨t, by omega, by omega, t3, fun t' h1 h2 => ?_, t5⟩
       by_cases z:t'=n
       · subst z; exact hg
       · exact t4 t' h1 (by omega)
     · refine .inr ⟨fun t' h1 h2 => ?_, y, t2⟩
       by_cases z:t'=n
       · subst z; exact hg
       · exact t1 t' (by omega) (by omega)
theorem times_ex {T:Int} {C:List Ch} (hl:C.length<=100000):∃ t,Times T C t/\GP.times_on.f [.int T,.lst (C.map chD)]=some (.val (.int t)):=by
 by_cases hn:C=[]
 · subst hn
   refine ⟨T,⟨fun _=>rfl,fun z=>(z rfl).elim⟩,?_⟩
   unfold GP.times_on.f runG GP.times_on.g
   simp [args]
 · have h0 : 0 < C.length := List.length_pos_iff.mpr hn
   have hlp:=times_loop (T:=T) hn hl (C.length - 1) C.length .no (by omega) (by omega)
   have rg:∀ x:Sl,rngB (callB lenD (zG (zJ 1) qC)) (zE (.int 1)) (un1 negD (zE (.int 1))) [.v (.int T),.v (.lst (C.map chD)),x]=some (range3D (C.length:Int) (-1) (C.length - 1)):=by
    intro x
    have ok:okRB (C.length:Int) 1:=⟨by omega,by omega,by decide,by decide⟩
    have e2:((C.length:Int) - 1).toNat=C.length - 1:=by omega
    simp [rngB,ok,e2]
   have hne:(C.map chD).isEmpty=false:=by cases C with | nil=>exact (hn rfl).elim | cons a b=>rfl
   unfold GP.times_on.f runG GP.times_on.g
   rcases hlp with ⟨t,t1,t2,t3,t4,t5⟩ | ⟨t1,y,t2⟩
   · refine ⟨(t : Int), ⟨fun z => (hn z).elim, fun _ => ⟨t, rfl, by omega, t2, .inr (goodT_iff.mp t3), fun n' h1 h2 z => ?_⟩⟩, ?_⟩
     · have := t4 n' h1 h2
       rw [goodT_iff.mpr z] at this
       cases this
     · generalize C.map chD = L at *
       simp [args,hne,rg,t5]
   · refine ⟨1, ⟨fun z => (hn z).elim, fun _ => ⟨1, rfl, by omega, h0, .inl rfl, fun n' h1 h2 z => ?_⟩⟩, ?_⟩
     · have := t1 n' (by omega) h2
       rw [goodT_iff.mpr z] at this
       cases this
     · generalize C.map chD = L at *
       simp [args,hne,rg,t2]
def whD (L:Int) (ps:List Rw):D:=.tup [.int L,.lst (ps.map rwD)]
theorem divOk_bits {j:Int} (h:0 < j) (h2:j < 10 ^ 200):divOk j:=by
 refine ⟨h,?_⟩
 have e:j.natAbs < 10 ^ 200:=by
  have h3:((10 ^ 200:Nat):Int)=(10:Int) ^ 200:=by norm_cast
  omega
 have:j.natAbs.log2 < 8000:=(Nat.log2_lt (by omega)).mpr (Nat.lt_trans e (by decide +kernel))
 omega
theorem jF {i j:Int} (h:0 < j) (h2:j < 10 ^ 200):qY (.int i) (.int j)=some (.int (i / j)):=if_pos (divOk_bits h h2)
theorem wheel_of_ex {Q:List Rw} (m:MapF Q) {T:Int} (hT:0 < T) (hb:T < 10 ^ 200) (hl:Q.length<=10000) :
  ∃ t,Times T (chgF Q T) t/\GP.wheel_of.f [.int T,.lst (Q.map rwD)]=some (.val (whD (T / t) (qD Q (S0 (T / t))))):=by
 have hc:=changes_eq m hT hl
 have hcl:=chg_len Q T
 obtain ⟨t,ht,e⟩:=times_ex (T:=T) (C:=chgF Q T) (by omega)
 obtain ⟨t0,t1,t2,_⟩:=least_of (yY Q T) (chg_is m hT) hT ht
 have htT:t<=T:=by
  have a:t * 1<=t * (T / t):=Int.mul_le_mul_of_nonneg_left (by omega) (Int.le_of_lt t0)
  omega
 have hd:qY (.int T) (.int t)=some (.int (T / t)):=jF t0 (Int.lt_of_le_of_lt htT hb)
 have hp:=vU Q (S0 (T / t)) (by omega)
 have hsp:(D.tup [.int 0,.int (T / t)])=spD (S0 (T / t)):=rfl
 have hfl:=yN (qD Q (S0 (T / t)))
 refine ⟨t,ht,?_⟩
 unfold GP.wheel_of.f runG GP.wheel_of.g
 have h1 : ¬ T < 1:=by omega
 generalize (chgF Q T).map chD=CL at *
 generalize Q.map rwD=QL at *
 generalize hPL:(qD Q (S0 (T / t))).map rwD=PL at *
 have hw:whD (T / t) (qD Q (S0 (T / t))) = .tup [.int (T / t),.lst PL]:=by rw [<- hPL]; rfl
 simp [args,h1,hc,e,hd,flV,flA,hsp,hp,hfl,hw]
end FL
namespace FL
open PySem PySem.Spec PyProof.Rows L2
theorem valin_raw (ps:List Rw) (p:Int):GL.value_in.f [.lst (ps.map rwD),.int p]=some (.val (oi (match ps.find? (fun r=>has3 r p) with | some r=>r.2.2 | none=>none))):=by
 have lp:∀ (qs:List Rw) (R a b c:Sl),(∃ r,qs.find? (fun r=>has3 r p)=some r/\qS (tupG 3 (zO (zT 2) (zO (zT 3) (zO (zT 4) tgNil)))) GL.value_in.b1 (qs.map rwD) [R,.v (.int p),a,b,c]=some (.rt (.val (oi r.2.2)))) ∨
   (qs.find? (fun r=>has3 r p)=none/\∃ a' b' c',qS (tupG 3 (zO (zT 2) (zO (zT 3) (zO (zT 4) tgNil)))) GL.value_in.b1 (qs.map rwD) [R,.v (.int p),a,b,c]=some (.nx [R,.v (.int p),a',b',c'])):=by
  intro qs
  induction qs with
  | nil=>intro R a b c; exact .inr ⟨rfl,a,b,c,rfl⟩
  | cons r t ih =>
    intro R a b c
    obtain ⟨x,y,v⟩:=r
    have tg:tupG 3 (zO (zT 2) (zO (zT 3) (zO (zT 4) tgNil))) (rwD (x,y,v)) [R,.v (.int p),a,b,c]=some [R,.v (.int p),.v (oi x),.v (oi y),.v (oi v)]:=by simp [rwD]
    cases h:has3 (x,y,v) p with
    | true =>
      left
      refine ⟨(x,y,v),by simp [h],?_⟩
      have bd:GL.value_in.b1 [R,.v (.int p),.v (oi x),.v (oi y),.v (oi v)]=some (.rt (.val (oi v))):=by
       obtain ⟨g1,g2⟩:=(qM _ _).mp h
       unfold GL.value_in.b1
       cases x with
       | none => cases y with
         | none=>simp
         | some y=>have:=g2 y rfl; simp [this]
       | some x => cases y with
         | none=>have:=g1 x rfl; simp [this]
         | some y=>have h1:=g1 x rfl; have h2:=g2 y rfl; simp [h1,h2]
      simp only [List.map_cons,qS,tg,Option.bind_some,bd]
    | false =>
      have bd:GL.value_in.b1 [R,.v (.int p),.v (oi x),.v (oi y),.v (oi v)]=some (.nx [R,.v (.int p),.v (oi x),.v (oi y),.v (oi v)]):=by
       have hn : ¬ ((∀ a,x=some a->a<=p)/\(∀ b,y=some b->p < b)):=fun z=>by
        have:=(qM (x,y,v) p).mpr z
        rw [h] at this; cases this
       unfold GL.value_in.b1
       cases x with
       | none => cases y with
         | none=>exact (hn ⟨(fun _ z=>nomatch z),(fun _ z=>nomatch z)⟩).elim
         | some y =>
           have : ¬ p < y:=fun z=>hn ⟨(fun _ z=>nomatch z),fun b e=>by cases e; exact z⟩
           simp [this]
       | some x => cases y with
         | none =>
           have : ¬ x<=p:=fun z=>hn ⟨fun b e=>by cases e; exact z,(fun _ z=>nomatch z)⟩
           simp [this]
         | some y =>
           by_cases h1:x<=p
           · have : ¬ p < y := fun z => hn ⟨fun b e => by cases e; exact h1, fun b e => by cases e; exact z⟩
             simp [h1,this]
           · simp [h1]
      have fd:((x,y,v)::t).find? (fun r=>has3 r p)=t.find? (fun r=>has3 r p):=by simp [h]
      rw [fd]
      rcases ih R (.v (oi x)) (.v (oi y)) (.v (oi v)) with ⟨r,h1,h2⟩ | ⟨h1,a',b',c',h2⟩
      · exact .inl ⟨r,h1,by simp only [List.map_cons,qS,tg,Option.bind_some,bd]; exact h2⟩
      · exact .inr ⟨h1,a',b',c',by simp only [List.map_cons,qS,tg,Option.bind_some,bd]; exact h2⟩
 unfold GL.value_in.f runG GL.value_in.g
 rcases lp ps (.v (.lst (ps.map rwD))) .no .no .no with ⟨r,h1,h2⟩ | ⟨h1,a',b',c',h2⟩
 · rw [h1]
   generalize ps.map rwD=L at *
   simp [args,h2]
 · rw [h1]
   generalize ps.map rwD=L at *
   simp [args,h2]
theorem valin_eq {ps:List Rw} (o:Ord ps) (p:Int):GL.value_in.f [.lst (ps.map rwD),.int p]=some (.val (oi (valL ps p))):=by
 rw [valin_raw,vB o]
 all_goals (cases ps.find? (fun r=>has3 r p) <;> rfl)
theorem if_yes {t:FT} {f g:FS} {ds:List Sl} (h:t ds=some true):ifG t f g ds=f ds:=by simp [h]
theorem wK {t:FT} {f g:FS} {ds:List Sl} (h:t ds=some false):ifG t f g ds=g ds:=by simp [h]
open Builtin.Int (intBits)
theorem val2_eq {ps:List Rw} (o:Ord ps) (p:Int):GL.value_in2.f [.lst (ps.map rwD),.int p]=some (.val (oi (valL ps p))):=valin_eq o p
theorem ends2_eq (rows:List Rw) (hl:rows.length<=100000):GL.ends2.f [.lst (rows.map rwD)]=some (.fresh ((endsM rows).map D.int)):=endsM_eq rows hl
def Ins (ps:List Rw) (L:Int):Prop:=∀ r∈ps,∃ lo bh,r.1=some lo/\r.2.1=some bh/\0<=lo/\bh<=L
def adjC:List Rw->Prop
 | r::s::t=>¬ (r.2.1=s.1/\r.2.2=s.2.2)/\adjC (s::t)
 | _=>True
theorem adj_of:∀ {ps:List Rw},adjC ps->∀ (i:Nat) (a b:Rw),ps[i]? = some a->ps[i+1]? = some b->¬ (a.2.1=b.1/\a.2.2=b.2.2)
 | [],_,i,a,b,e,_=>by simp at e
 | [x],_,i,a,b,_,e=>by simp at e
 | x :: y :: t, h, 0, a, b, e1, e2 => by
   simp at e1 e2
   subst e1 e2
   exact h.1
 | x::y::t,h,i+1,a,b,e1,e2=>adj_of h.2 i a b (by simpa using e1) (by simpa using e2)
theorem part_both {r s r' s':Rw} {S:Spn} (h:ahead r s) (h1:part1 S r=some r') (h2:part1 S s=some s'):r'.2.1=r.2.1/\s'.1=s.1:=by
 obtain ⟨x,y,hx,hy,hxy⟩:=h
 have a1:=qZ h1
 have a2:=qZ h2
 obtain ⟨S1,S2⟩:=S
 unfold part1 at h1 h2
 rw [Option.map_eq_some_iff] at h1 h2
 obtain ⟨u,hu,rfl⟩:=h1
 obtain ⟨w,hw,rfl⟩:=h2
 have ou:=vV hu
 have ow:=vV hw
 unfold meetS at hu hw
 split at hu
 · cases hu
 split at hw
 · cases hw
 rename_i n1 n2
 cases hu
 cases hw
 simp only at *
 rw [hx,hy] at *
 constructor
 · cases S2 with
   | none=>rfl
   | some b =>
     simp only [qJ]
     have:y < b:=by
      cases hs:s.2.1 with
      | none =>
        rw [hs] at n2
        cases S1 <;> simp [qJ,lateL,aheadE] at n2 <;> omega
      | some z =>
        rw [hs] at n2
        cases S1 <;> simp [qJ,lateL,aheadE] at n2 <;> omega
     rw [show min x b=x by omega]
 · cases S1 with
   | none=>rfl
   | some a =>
     simp only [lateL]
     have:a < x:=by
      cases hs:r.1 with
      | none =>
        rw [hs] at n1
        cases S2 <;> simp [qJ,lateL,aheadE] at n1 <;> omega
      | some z =>
        rw [hs] at n1
        cases S2 <;> simp [qJ,lateL,aheadE] at n1 <;> omega
     rw [show max y a=y by omega]
theorem ord_tail {r:Rw} {t:List Rw} (o:Ord (r::t)):Ord t:=⟨fun z hz=>o.ok z (List.mem_cons_of_mem _ hz),(List.pairwise_cons.mp o.pw).2⟩
theorem vD {Q:List Rw} (m:MapF Q) (S:Spn):MapF (qD Q S):=by
 refine ⟨parts_ord m.ord S,fun r hr=>?_,?_⟩
 · obtain ⟨q, h1, h2⟩ := mem_parts.mp hr
   rw [(qZ h2).2.1]
   exact m.val q h1
 · refine adj_of ?_
   have go:∀ ps:List Rw,Ord ps->(∀ (i:Nat) (a b:Rw),ps[i]? = some a->ps[i+1]? = some b->¬ (a.2.1=b.1/\a.2.2=b.2.2))->adjC (qD ps S):=by
    intro ps
    induction ps with
    | nil=>intro _ _; trivial
    | cons r t ih =>
      intro o ad
      have ih':=ih (ord_tail o) fun i a b e1 e2=>ad (i+1) a b (by simpa using e1) (by simpa using e2)
      unfold qD at ih' ⊢
      rw [List.filterMap_cons]
      cases h1:part1 S r with
      | none=>exact ih'
      | some r' =>
        simp only
        cases hp:t.filterMap (part1 S) with
        | nil=>trivial
        | cons s' u =>
          rw [hp] at ih'
          refine ⟨?_,ih'⟩
          have hs':s'∈t.filterMap (part1 S):=by rw [hp]; exact List.mem_cons_self
          obtain ⟨s,q1,q2⟩:=List.mem_filterMap.mp hs'
          have ah:=(List.pairwise_cons.mp o.pw).1 s q1
          obtain ⟨e1,e2⟩:=part_both ah h1 q2
          rintro ⟨z1,z2⟩
          rw [e1,e2] at z1
          rw [(qZ h1).2.1,(qZ q2).2.1] at z2
          cases t with
          | nil=>cases q1
          | cons s0 t' =>
            rcases List.mem_cons.mp q1 with rfl | q1
            · exact ad 0 r s rfl rfl ⟨z1,z2⟩
            · obtain ⟨x, y, hx, hy, hxy⟩ := (List.pairwise_cons.mp o.pw).1 s0 List.mem_cons_self
              obtain ⟨x2,y2,hx2,hy2,hxy2⟩:=(List.pairwise_cons.mp (ord_tail o).pw).1 s q1
              have:=o.ok s0 (List.mem_cons_of_mem _ List.mem_cons_self) y x2 hy hx2
              rw [hx,hy2] at z1
              cases z1
              omega
   exact go Q m.ord m.adj
theorem parts_ins {Q:List Rw} {L:Int} : Ins (qD Q (S0 L)) L:=fun r hr=>by
 obtain ⟨q,h1,h2⟩:=mem_parts.mp hr
 obtain ⟨_,_,_,_,_,g1,g2⟩:=qZ h2
 obtain ⟨x',e1,l1⟩:=g1 L rfl
 obtain ⟨y',e2,l2⟩:=g2 0 rfl
 exact ⟨y',x',e2,e1,l2,l1⟩
theorem parts_val {Q:List Rw} (o:Ord Q) {L p:Int} (h0:0<=p) (h1:p < L):valL (qD Q (S0 L)) p=valL Q p :=
 valL_same (parts_ord o _) o fun v=>by
  rw [parts_tel]
  exact ⟨fun h=>h.2,fun h=>⟨(xG _ _).mpr ⟨fun a e=>by cases e; exact h0,fun b e=>by cases e; exact h1⟩,h⟩⟩
theorem wT {L:Int} (hL:0 < L) {ps:List Rw} (o:Ord ps) (p:Int):GL.told.f [whD L ps,.int p]=some (.val (oi (valL ps (p % L)))):=by
 have h:=val2_eq o (p % L)
 have hm:=yM p hL
 unfold GL.told.f runG GL.told.g whD
 generalize ps.map rwD=PL at *
 simp [args,hm,h]
theorem xQ {L:Int} (hL:1<=L) {ps:List Rw} (m:MapF ps) (hi:Ins ps L) (hl:ps.length<=1000):GL.is_wheel.f [whD L ps]=some (.val (.bl true)):=by
 have im:=is_map2_eq ps m hl
 have ii:=jL L
 have h1 : ¬ L < 1:=by omega
 have ne:=neD_rw_nil ps
 have eq:=eqD_rw_nil ps
 unfold GL.is_wheel.f runG GL.is_wheel.g whD
 cases hp:ps with
 | nil =>
   subst hp
   simp only [List.map_nil,List.isEmpty_nil,Bool.not_true] at im ne eq ⊢
   simp [args,im,ii,h1,ne,eq]
 | cons r t =>
   rw [<- hp]
   have hne:ps.isEmpty=false:=by rw [hp]; rfl
   rw [hne] at ne eq
   obtain ⟨l,el⟩:∃ l,ps.getLast? = some l:=by
    cases h:ps.getLast? with
    | none=>rw [List.getLast?_eq_none_iff.mp h] at hp; cases hp
    | some l=>exact ⟨l,rfl⟩
   have lr:=last_rw el
   have e0:ixD (.lst (ps.map rwD)) (.int 0)=some (rwD r):=by rw [hp]; simp
   obtain ⟨lo,bh,q1,q2,q3,q4⟩:=hi r (by rw [hp]; exact List.mem_cons_self)
   obtain ⟨lo',bh',w1,w2,w3,w4⟩:=hi l (List.mem_of_getLast? el)
   obtain ⟨r1,r2,r3⟩:=r
   obtain ⟨l1,l2,l3⟩:=l
   simp only at q1 q2 w1 w2
   subst q1 q2 w1 w2
   have q3' : ¬ lo < 0:=by omega
   generalize ps.map rwD=PL at *
   simp [args,im,ii,h1,ne,eq,e0,lr,q3',w4]
theorem val_end {ps:List Rw} (o:Ord ps) {p:Int} (h:valL ps (p - 1)≠valL ps p):p∈endsM ps:=by
 by_cases hm:p∈endsM ps
 · exact hm
 · have key:∀ r∈ps,has3 r (p - 1)=has3 r p:=fun r hr=>by
    have n1:r.1≠some p:=fun e=>hm (by unfold endsM; rw [List.mem_flatMap]; exact ⟨r,hr,by unfold endsR; rw [e]; simp⟩)
    have n2:r.2.1≠some p:=fun e=>hm (by unfold endsM; rw [List.mem_flatMap]; exact ⟨r,hr,by unfold endsR; rw [e]; simp⟩)
    rw [Bool.eq_iff_iff,qM,qM]
    constructor
    · rintro ⟨a, b⟩
      refine ⟨fun x e=>by have:=a x e; omega,fun x e=>?_⟩
      have:=b x e
      have:x≠p:=fun z=>n2 (by rw [e,z])
      omega
    · rintro ⟨a, b⟩
      refine ⟨fun x e=>?_,fun x e=>by have:=b x e; omega⟩
      have:=a x e
      have:x≠p:=fun z=>n1 (by rw [e,z])
      omega
   have fold:∀ (l:List Rw) (t:Option Int),(∀ r∈l,has3 r (p - 1)=has3 r p)->l.foldl (fun t r=>if has3 r (p - 1)=true then r.2.2 else t) t=l.foldl (fun t r=>if has3 r p=true then r.2.2 else t) t:=by
    intro l
    induction l with
    | nil=>intro t _; rfl
    | cons r l ih =>
      intro t hh
      rw [List.foldl_cons,List.foldl_cons,hh r List.mem_cons_self]
      exact ih _ fun q hq=>hh q (List.mem_cons_of_mem _ hq)
   exact (h (fold ps none key)).elim
def spotsB (ps:List Rw) (far:Int):List Int:=(0::endsM ps)++(0::endsM ps).map (· - far)
theorem comes_sound {ps:List Rw} (o:Ord ps) {L far:Int} (hL:0 < L) (h:∀ p∈spotsB ps far,valL ps (p % L)=valL ps ((p+far) % L)):Per (fun p=>valL ps (p % L)) far:=by
 have per:Per (fun p=>valL ps (p % L)) L:=fun p=>by show valL ps ((p+L) % L)=valL ps (p % L); rw [Int.add_emod_right]
 have chg:∀ p,valL ps ((p - 1) % L)≠valL ps (p % L)->∃ e∈(0::endsM ps),p % L=e % L:=by
  intro p hc
  have d2:=Int.emod_nonneg p (Int.ne_of_gt hL)
  have d3:=Int.emod_lt_of_pos p hL
  by_cases h0:p % L=0
  · exact ⟨0,List.mem_cons_self,by simp [h0]⟩
  · have e1:(p - 1) % L=p % L - 1:=by
     have hp:p=p % L+L * (p / L):=(Int.emod_add_mul_ediv p L).symm
     have:p - 1=(p % L - 1)+L * (p / L):=by omega
     rw [this,Int.add_mul_emod_self_left,Int.emod_eq_of_lt (by omega) (by omega)]
    rw [e1] at hc
    refine ⟨p % L,List.mem_cons_of_mem _ (val_end o hc),?_⟩
    rw [Int.emod_eq_of_lt d2 d3]
 have eqm:∀ {p e:Int},p % L=e % L->∀ d,(p+d) % L=(e+d) % L:=fun {p e} hpe d=>by rw [Int.add_emod,hpe,<- Int.add_emod]
 have go:∀ (n:Nat) (p:Int),(p % L).toNat=n->valL ps (p % L)=valL ps ((p+far) % L):=by
  intro n
  induction n with
  | zero =>
    intro p hp
    have d2:=Int.emod_nonneg p (Int.ne_of_gt hL)
    have e:p % L=0 % L:=by rw [Int.zero_emod]; omega
    rw [e,eqm e far]
    exact h 0 (by unfold spotsB; simp)
  | succ n ih =>
    intro p hp
    have d2:=Int.emod_nonneg p (Int.ne_of_gt hL)
    have d3:=Int.emod_lt_of_pos p hL
    by_cases c1:valL ps ((p - 1) % L)=valL ps (p % L)
    · by_cases c2 : valL ps ((p + far - 1) % L) = valL ps ((p + far) % L)
      · have e1:(p - 1) % L=p % L - 1:=by
         have hp:p=p % L+L * (p / L):=(Int.emod_add_mul_ediv p L).symm
         have:p - 1=(p % L - 1)+L * (p / L):=by omega
         rw [this,Int.add_mul_emod_self_left,Int.emod_eq_of_lt (by omega) (by omega)]
        have:=ih (p - 1) (by omega)
        rw [show p - 1+far=p+far - 1 by omega] at this
        rw [<- c1,<- c2]
        exact this
      · obtain ⟨e, he1, he2⟩ := chg (p + far) c2
        have e3:p % L=(e - far) % L:=by
         have:=eqm he2 (-far)
         rw [show p+far+-far=p by omega,show e+-far=e - far by omega] at this
         exact this
        rw [e3,eqm e3 far]
        exact h (e - far) (by unfold spotsB; exact List.mem_append.mpr (.inr (List.mem_map.mpr ⟨e,he1,rfl⟩)))
    · obtain ⟨e, he1, he2⟩ := chg p c1
      rw [he2,eqm he2 far]
      exact h e (by unfold spotsB; exact List.mem_append.mpr (.inl he1))
 intro p
 exact (go _ p rfl).symm
theorem comes_by_ex {L:Int} (hL:0 < L) {ps:List Rw} (o:Ord ps) (hl:ps.length<=10000) (far:Int):∃ b,GL.comes_by.f [whD L ps,.int far]=some (.val (.bl b))/\(b=true->Per (fun p=>valL ps (p % L)) far):=by
 have en:=ends2_eq ps (by omega)
 have el:=endsM_len ps
 have lp:=loop_all (ga:=zT 3) (body:=GL.comes_by.b1) D.int (fun p=>decide (valL ps (p % L)=valL ps ((p+far) % L)))
  (fun ds=>∃ y,ds=[.v (whD L ps),.v (.int far),.v (.lst ((0::endsM ps).map D.int)),y]) (.val (.bl false)) (spotsB ps far)
  [.v (whD L ps),.v (.int far),.v (.lst ((0::endsM ps).map D.int)),.no] ⟨_,rfl⟩ (by
   rintro p hp ds ⟨y,rfl⟩
   have t1:=wT hL o p
   have t2:=wT hL o (p+far)
   refine ⟨[.v (whD L ps),.v (.int far),.v (.lst ((0::endsM ps).map D.int)),.v (.int p)],rfl,?_⟩
   unfold GL.comes_by.b1
   generalize (0::endsM ps).map D.int=EL at *
   generalize whD L ps=W at *
   by_cases e:valL ps (p % L)=valL ps ((p+far) % L)
   · exact .inl ⟨by simpa using e,_,by simp [t1,t2,e]; rfl,_,rfl⟩
   · exact .inr ⟨by simpa using e,by simp [t1,t2,e]⟩)
 have cm:compG (viaA (qW 2) asLT) [none,some 1] (zT 0) (fun _=>some true) (zL subD (zJ 0) (zJ 1)) [.v (whD L ps),.v (.int far),.v (.lst ((0::endsM ps).map D.int)),.no]=some (((0::endsM ps).map (· - far)).map D.int):=by
  refine wB (items:=(0::endsM ps).map D.int) (by simp) (by simp; omega) ?_
  rw [List.map_map]
  exact yV D.int _ _ fun p _=>⟨[.v (.int p),.v (.int far)],by simp [jS],by simp⟩
 have e0:(.lst (D.int 0::(endsM ps).map D.int):D) = .lst ((0::endsM ps).map D.int):=rfl
 have hsz:((0::endsM ps).map D.int).length<=20001:=by simp; omega
 have hsz2:(((0::endsM ps).map (· - far)).map D.int).length<=20001:=by simp; omega
 have hsz3:((endsM ps).map D.int).length<=20000:=by simp; omega
 have ew:ixD (whD L ps) (.int 1)=some (.lst (ps.map rwD)):=by unfold whD; simp
 have esp:(spotsB ps far).map D.int=(0::endsM ps).map D.int++((0::endsM ps).map (· - far)).map D.int:=by unfold spotsB; rw [List.map_append]
 rw [esp] at lp
 unfold GL.comes_by.f runG GL.comes_by.g
 generalize whD L ps=W at *
 generalize ps.map rwD=PL at *
 have hc:(.lst ([D.int 0]++(endsM ps).map D.int):D) = .lst ((0::endsM ps).map D.int):=rfl
 generalize hE1:((0::endsM ps).map (· - far)).map D.int=E1 at *
 generalize hE0:(0::endsM ps).map D.int=E0 at *
 generalize hE2:(endsM ps).map D.int=E2 at *
 have hc':D.lst (.int 0::E2) = .lst E0:=hc
 have hle:1+E2.length<=16777216:=by omega
 have hle2:E0.length+E1.length<=16777216:=by omega
 rcases lp with ⟨l1,ds',l2,y,rfl⟩ | ⟨l1,l2⟩
 · refine ⟨true, ?_, fun _ => comes_sound o hL fun p hp => ?_⟩
   · simp [args,ew,en,hle,hc',cm,hle2,l2]
   · have := List.all_eq_true.mp l1 p hp
     simpa using this
 · refine ⟨false, ?_, fun z => by cases z⟩
   simp [args,ew,en,hle,hc',cm,hle2,l2]
theorem is_least_eq {L:Int} (hL:0 < L) {ps:List Rw} (o:Ord ps) (hl:ps.length<=10000) (hmin:∀ far s,0 < far->L=s * far->Per (fun p=>valL ps (p % L)) far->L<=far):GL.is_least.f [whD L ps]=some (.val (.bl true)):=by
 have ew:ixD (whD L ps) (.int 1)=some (.lst (ps.map rwD)):=by unfold whD; simp
 have ew0:ixD (whD L ps) (.int 0)=some (.int L):=by unfold whD; simp
 by_cases h1:L=1
 · subst h1
   unfold GL.is_least.f runG GL.is_least.g
   generalize whD 1 ps=W at *
   simp [args,ew0]
 · obtain ⟨b, c1, c2⟩ := comes_by_ex hL o hl 1
   have hb:b=false:=by
    cases b with
    | false=>rfl
    | true=>have:=hmin 1 L (by decide) (by omega) (c2 rfl); omega
   subst hb
   have key:=loop_inv (ga:=zT 1) (body:=GL.is_least.b1) (fun ds=>∃ y,ds=[.v (whD L ps),y]) (rangeD 2 (2 * ps.length - 1)) [.v (whD L ps),.no] ⟨_,rfl⟩ (by
    rintro d hd ds ⟨y,rfl⟩
    obtain ⟨k,hk,rfl⟩:=mem_rangeD hd
    have hm:xL (.int L) (.int (2+(k:Int)))=some (.int (L % (2+(k:Int)))):=yM _ (by omega)
    have hd:qY (.int L) (.int (2+(k:Int)))=some (.int (L / (2+(k:Int)))):=yR _ (by omega) (by omega)
    refine ⟨[.v (whD L ps),.v (.int (2+(k:Int)))],[.v (whD L ps),.v (.int (2+(k:Int)))],rfl,.inl ?_,_,rfl⟩
    unfold GL.is_least.b1
    by_cases hz:L % (2+(k:Int))=0
    · obtain ⟨b, c3, c4⟩ := comes_by_ex hL o hl (L / (2 + (k : Int)))
      have hmul:=Int.mul_ediv_cancel_of_emod_eq_zero hz
      have hb:b=false:=by
       cases b with
       | false=>rfl
       | true =>
         have hpos:0 < L / (2+(k:Int)):=by
          rcases Int.lt_or_le 0 (L / (2+(k:Int))) with q | q
          · exact q
          · have := Int.mul_nonpos_of_nonneg_of_nonpos (show (0 : Int) <= 2 + (k : Int) by omega) q
            omega
         have:=hmin (L / (2+(k:Int))) (2+(k:Int)) hpos hmul.symm (c4 rfl)
         have a:2 * (L / (2+(k:Int)))<=(2+(k:Int)) * (L / (2+(k:Int))):=Int.mul_le_mul_of_nonneg_right (by omega) (Int.le_of_lt hpos)
         omega
      subst hb
      generalize whD L ps=W at *
      simp [ew0,hm,hz,hd,c3]
    · generalize whD L ps = W at *
      simp [ew0,hm,hz])
   obtain ⟨ds',e,y,rfl⟩:=key
   have hmul:yT (.int 2) (.int (ps.length:Int))=some (.int (2 * (ps.length:Int))):=yA (.of_left (jH (by decide)))
   have k1:okR 2:=xX (by decide) (by decide)
   have k2:okR (2 * (ps.length:Int)+1):=xX (by omega) (by omega)
   have e2:(2 * (ps.length:Int)+1 - 2).toNat=2 * ps.length - 1:=by omega
   have hll:((ps.map rwD).length:Int)=ps.length:=by simp
   unfold GL.is_least.f runG GL.is_least.g
   generalize whD L ps=W at *
   generalize ps.map rwD=PL at *
   simp [args,ew0,h1,c1,ew,hll,hmul,k1,k2,e2,e]
end FL
namespace FL
open PySem PySem.Spec PyProof.Rows L2
open Builtin.Int (intBits)
theorem pow1602:powD (.int (10 ^ 60)) (.int 2)=some (.int ((10 ^ 60) ^ 2)):=powD_ok (cpow_of (n:=200) (m:=2) (by decide) (by decide) (by decide) (by decide))
end FL
namespace FL
open PySem PySem.Spec PyProof.Rows L2
open Builtin.Int (intBits)
theorem ord_app {a b:List Rw} (oa:Ord a) (ob:Ord b) (h:∀ x∈a,∀ y∈b,ahead x y):Ord (a++b) :=
 ⟨fun r hr=>(List.mem_append.mp hr).elim (oa.ok r) (ob.ok r),List.pairwise_append.mpr ⟨oa.pw,ob.pw,h⟩⟩
theorem tel_sh {ps:List Rw} {f p v:Int} : Tel (ps.map (shR f)) p v↔Tel ps (p - f) v:=tel_map (T:=shR f) (c:=fun p=>p - f) (has_sh f) (fun _=>rfl) ps p v
theorem tel_app {a b:List Rw} {p v:Int} : Tel (a++b) p v↔Tel a p v \/ Tel b p v:=by
 constructor
 · rintro ⟨q, h1, h2⟩
   rcases List.mem_append.mp h1 with h1 | h1
   · exact .inl ⟨q,h1,h2⟩
   · exact .inr ⟨q,h1,h2⟩
 · rintro (⟨q, h1, h2⟩ | ⟨q, h1, h2⟩)
   · exact ⟨q,List.mem_append_left _ h1,h2⟩
   · exact ⟨q,List.mem_append_right _ h1,h2⟩
end FL
namespace FL
open PySem PySem.Spec PyProof.Rows L2
open Builtin.Int (intBits)
theorem Per.mod {g:Int->Option Int} {a b:Int} (ha:Per g a) (hb:Per g b):Per g (a % b):=fun p=>by
 have e:a % b=a - b * (a / b):=by have:=Int.emod_add_mul_ediv a b; omega
 have h:=hb.int (p+a % b) (a / b)
 have e2:p+a % b+a / b * b=p+a:=by rw [Int.mul_comm (a / b) b]; omega
 rw [e2] at h
 rw [<- h,ha]
structure Whl (L:Int) (ps:List Rw):Prop where
 pos:0 < L
 bnd:L < 10 ^ 200
 map:MapF ps
 ins:Ins ps L
 len:ps.length<=100
 least:∀ far s,0 < far->L=s * far->Per (gOf ps L) far->L<=far
theorem gOf_tel {ps:List Rw} {L:Int} (o:Ord ps) (hi:Ins ps L) (p v:Int):Tel ps p v↔(0<=p/\p < L)/\gOf ps L p=some v:=by
 constructor
 · rintro ⟨r, hr, h1, h2⟩
   obtain ⟨lo,bh,q1,q2,q3,q4⟩:=hi r hr
   have a:=((qM _ _).mp h1).1 lo q1
   have b:=((qM _ _).mp h1).2 bh q2
   exact ⟨⟨by omega,by omega⟩,by rw [vP (by omega) (by omega),yC o]; exact ⟨r,hr,h1,h2⟩⟩
 · rintro ⟨⟨h0, h1⟩, h2⟩
   rw [vP h0 h1,yC o] at h2
   exact h2
def First (g h:Int->Option Int) (p:Int):Prop:=0<=p/\g p≠h p/\∀ q,0<=q->q < p->g q=h q
theorem First.symm {g h:Int->Option Int} {p:Int} (a:First g h p):First h g p:=⟨a.1,fun z=>a.2.1 z.symm,fun q q0 q1=>(a.2.2 q q0 q1).symm⟩
def chO (T:Int) (C:List Ch) (k:Nat):Option Ch:=if C=[] then none else some (chP T C k,chV C k)
section
variable {g h:Int->Option Int} {L M:Int} {C D:List Ch}
theorem ch_up (pg:Per g L) (hC:IsCh g L C) (hL:0 < L) (q:Int) (hq:0 < q) (hc:g (q - 1)≠g q):∃ k,chO L C k=some (q,g q):=by
 have hn:C≠[]:=by
  intro e
  have d1:=Int.emod_add_mul_ediv (q - 1) L
  have d2:=Int.emod_nonneg (q - 1) (Int.ne_of_gt hL)
  have d3:=Int.emod_lt_of_pos (q - 1) hL
  have e2:g ((q - 1) % L+1)=g q:=by
   rw [<- pg.int ((q - 1) % L+1) ((q - 1) / L)]
   congr 1
   rw [Int.mul_comm ((q - 1) / L) L]
   omega
  obtain ⟨c,hc1,_⟩:=hC.all ((q - 1) % L+1) (by omega) (by omega) (by rw [show (q - 1) % L+1 - 1=(q - 1) % L by omega,pg.emod,e2]; exact hc)
  rw [e] at hc1; cases hc1
 obtain ⟨k,hk⟩:=vK pg hC hL hn hq hc
 refine ⟨k,?_⟩
 unfold chO
 rw [if_neg hn,hk,<- (wL pg hC hL hn k).2.1,hk]
end
end FL
namespace FL
open PySem PySem.Spec PyProof.Rows L2
open Builtin.Int (intBits)
theorem eqv_wh (L M:Int) (ps qs:List Rw):eqvD (whD L ps) (whD M qs)=decide (L=M/\ps=qs):=by
 have e:=kI ps qs
 have e2:decide (L=M/\ps=qs)=(decide (L=M) && decide (ps=qs)):=by
  rw [Bool.eq_iff_iff]
  simp
 rw [e2]
 simp [whD,e]
theorem shal_wh (L:Int) (ps:List Rw):shal 39 (whD L ps)=true:=by
 have:=wA 36 ps
 simp [whD,this]
end FL
namespace FL
open PySem PySem.Spec PyProof.Rows L2
open Builtin.Int (intBits)
theorem wheel_whl {Q:List Rw} (m:MapF Q) {T:Int} (hT:0 < T) (hb:T < 10 ^ 200) (hl:Q.length<=100) :
  ∃ (L:Int) (ps:List Rw),Whl L ps/\gOf ps L=gOf Q T/\L<=T/\ps.length<=Q.length/\GP.wheel_of.f [.int T,.lst (Q.map rwD)]=some (.val (whD L ps)):=by
 obtain ⟨t,ht,ew⟩:=wheel_of_ex m hT hb (by omega)
 obtain ⟨t0,tL,tF,tper,tmin⟩:=least_of (yY Q T) (chg_is m hT) hT ht
 have hLF:T / t<=T:=by
  have:1 * (T / t)<=t * (T / t):=Int.mul_le_mul_of_nonneg_right (by omega) (by omega)
  omega
 have lp:=yX Q (S0 (T / t))
 have val:gOf (qD Q (S0 (T / t))) (T / t)=gOf Q T:=funext fun p=>by
  have d2:=Int.emod_nonneg p (Int.ne_of_gt tL)
  have d3:=Int.emod_lt_of_pos p tL
  show valL (qD Q (S0 (T / t))) (p % (T / t))=_
  rw [parts_val m.ord d2 d3,<- vP (Q:=Q) (T:=T) d2 (by omega),tper.emod]
 refine ⟨T / t,qD Q (S0 (T / t)),⟨tL,by omega,vD m _,parts_ins,by omega,fun far s hf hs hp=>?_⟩,val,hLF,lp,ew⟩
 rw [val] at hp
 have hs0:0 < s:=by
  rcases Int.lt_or_le 0 s with z | z
  · exact z
  · have := Int.mul_nonpos_of_nonpos_of_nonneg z (Int.le_of_lt hf)
    omega
 refine tmin far hf ⟨(t * s).toNat,?_⟩ hp
 have:0<=t * s:=Int.mul_nonneg (by omega) (by omega)
 rw [Int.toNat_of_nonneg this,Int.mul_assoc,<- hs,tF]
section
variable {g h:Int->Option Int} {L M:Int} {C D:List Ch}
theorem ch_nil (pg:Per g L) (hC:IsCh g L C) (hL:0 < L) (hn:C=[]) (q:Int) (hq:0 < q):g (q - 1)=g q:=by
 by_cases e:g (q - 1)=g q
 · exact e
 · obtain ⟨k, hk⟩ := ch_up pg hC hL q hq e
   unfold chO at hk
   rw [if_pos hn] at hk
   cases hk
end
end FL
namespace FL
open PySem PySem.Spec PyProof.Rows L2
open Builtin.Int (intBits)
theorem loop_from {ga:D->List Sl->Option (List Sl)} {body:FS} (lo:Int) (P:Nat->List Sl->Prop) (N:Nat) (H:∀ k,k < N->∀ ds,P k ds->∃ ds1 ds2,ga (.int (lo+(k:Int))) ds=some ds1/\body ds1=some (.nx ds2)/\P (k+1) ds2) :
  ∀ n k ds,k+n=N->P k ds->∃ ds',qS ga body ((List.range' k n).map fun (j:Nat)=>D.int (lo+(j:Int))) ds=some (.nx ds')/\P N ds'
 | 0, k, ds, h, hp => ⟨ds, rfl, by have : k = N := by omega
                                   subst this; exact hp⟩
 | n + 1, k, ds, h, hp => by
   obtain ⟨ds1,ds2,e1,e2,h2⟩:=H k (by omega) ds hp
   obtain ⟨ds',e,h'⟩:=loop_from lo P N H n (k+1) ds2 (by omega) h2
   refine ⟨ds',?_,h'⟩
   rw [List.range'_succ,List.map_cons,qS]
   rw [e1,Option.bind_some,e2,Option.bind_some]
   exact e
theorem bits_380 {x:Int} (h1 : -(10 ^ 380)<=x) (h2:x<=10 ^ 380):intBits x<=1300:=jH (by
 have:(10:Nat) ^ 380 < 2 ^ 1300:=by decide +kernel
 have e:((10 ^ 380:Nat):Int)=10 ^ 380:=Int.natCast_pow 10 380
 generalize (10:Int) ^ 380=B at *
 generalize (10:Nat) ^ 380=B' at *
 generalize 2 ^ 1300=C at *
 omega)
theorem wP {x:Int} (h1:0 < x) (h2:x < 10 ^ 200):intBits x<=700:=jH (by
 have:(10:Nat) ^ 200 < 2 ^ 700:=by decide +kernel
 have e:((10 ^ 200:Nat):Int)=10 ^ 200:=Int.natCast_pow 10 200
 generalize (10:Int) ^ 200=B at *
 generalize (10:Nat) ^ 200=B' at *
 generalize 2 ^ 700=C at *
 omega)
end FL
namespace FL
open PySem PySem.Spec PyProof.Rows L2
open Builtin.Int (intBits)
theorem whl_unit {ps:List Rw} (w:Whl 1 ps):ps=[] \/ ∃ v:Int,ps=[(some 0,some 1,some v)]:=by
 cases ps with
 | nil=>exact .inl rfl
 | cons r t =>
   right
   obtain ⟨lo,bh,g1,g2,g3,g4⟩:=w.ins r List.mem_cons_self
   have ok:=w.map.ord.ok r List.mem_cons_self lo bh g1 g2
   have hv:=w.map.val r List.mem_cons_self
   obtain ⟨r1,r2,r3⟩:=r
   simp only at g1 g2 hv
   cases r3 with
   | none=>exact absurd rfl hv
   | some v =>
     refine ⟨v,?_⟩
     have e1:lo=0:=by omega
     have e2:bh=1:=by omega
     subst g1 g2 e1 e2
     cases t with
     | nil=>rfl
     | cons z t =>
       obtain ⟨lo',bh',q1,q2,q3,q4⟩:=w.ins z (List.mem_cons_of_mem _ List.mem_cons_self)
       obtain ⟨x,y,x1,y1,hxy⟩:=(List.pairwise_cons.mp w.map.ord.pw).1 z List.mem_cons_self
       have ok':=w.map.ord.ok z (List.mem_cons_of_mem _ List.mem_cons_self) lo' bh' q1 q2
       rw [q1] at y1
       cases y1
       cases x1
       omega
end FL
section
open PySem PyProof.Rows L2 FL
end
namespace FL
open PySem PySem.Spec PyProof.Rows L2
open Builtin.Int (intBits)
end FL
namespace FL
open PySem PySem.Spec PyProof.Rows L2
open Builtin.Int (intBits)
@[simp] theorem sltW_eq (f:FE) (lo hi:List Sl->Option (Option Int)) (ds:List Sl):sltW f lo hi ds=(f ds).bind fun d=>(lo ds).bind fun a=>(hi ds).bind fun b=>match d with
 | .tup l=>some (.tup (cutD l a b))
 | _=>none:=rfl
end FL
namespace FL
open PySem PySem.Spec PyProof.Rows L2
open Builtin.Int (intBits)
theorem opt_ext {a b:Option Int} (h:∀ w,a=some w↔b=some w):a=b:=by
 cases a with
 | none =>
   cases b with
   | none=>rfl
   | some w=>exact ((h w).mpr rfl)
 | some v=>exact ((h v).mp rfl).symm
end FL
namespace FL
open PySem PySem.Spec PyProof.Rows L2
open Builtin.Int (intBits)
def joinR (W:Option Int->Option Int->Option Int) (L:List R4):List Rw:=L.map fun r=>(r.1,r.2.1,W r.2.2.1 r.2.2.2)
theorem pair_til (W:Option Int->Option Int->Option Int):∀ (n:Nat) (here:Option Int) (as bs:List Rw),as.length+bs.length<=n->Rem here as->Rem here bs->Til here (joinR W (jN n here as bs))
 | _,_,[],_,_,h,_=>h.elim
 | _,_,_::_,[],_,_,h=>h.elim
 | 0,_,_::_,_::_,h,_,_=>by simp at h
 | n + 1, here, a :: as, b :: bs, hn, ha, hb => by
   have two:=stp_two a b as bs
   simp only [List.length_cons] at hn
   show Til here ((here,qJ a.2.1 b.2.1,W a.2.2 b.2.2)::joinR W (jN n (qJ a.2.1 b.2.1) (stp (qJ a.2.1 b.2.1) (a::as)) (stp (qJ a.2.1 b.2.1) (b::bs))))
   refine ⟨rfl,fun h x e1 e2=>?_,fun e=>?_,fun x e=>?_⟩
   · have e2 : qJ a.2.1 b.2.1 = some x := e2
     cases h1:a.2.1 with
     | none =>
       rw [h1] at e2
       cases h2:b.2.1 with
       | none=>rw [h2] at e2; cases e2
       | some y=>rw [h2] at e2; cases e2; exact hb.1 h _ e1 h2
     | some y =>
       rw [h1] at e2
       cases h2:b.2.1 with
       | none=>rw [h2] at e2; cases e2; exact ha.1 h _ e1 h1
       | some z =>
         rw [h2] at e2
         have e3:min y z=x:=Option.some.inj e2
         have:=ha.1 h _ e1 h1
         have:=hb.1 h _ e1 h2
         omega
   · have e : qJ a.2.1 b.2.1 = none := e
     rw [e,(wS ha hb e).1,xZ]
     rfl
   · have e : qJ a.2.1 b.2.1 = some x := e
     rw [e] at two ⊢
     have xa:∀ y,a.2.1=some y->x<=y:=fun y h1=>by
      rw [h1] at e
      cases h2:b.2.1 with
      | none=>rw [h2] at e; cases e; exact Int.le_refl _
      | some z=>rw [h2] at e; have e3:min y z=x:=Option.some.inj e; omega
     have xb:∀ y,b.2.1=some y->x<=y:=fun y h2=>by
      rw [h2] at e
      cases h1:a.2.1 with
      | none=>rw [h1] at e; cases e; exact Int.le_refl _
      | some z=>rw [h1] at e; have e3:min z y=x:=Option.some.inj e; omega
     refine pair_til W n (some x) _ _ (by omega) ?_ ?_
     · rcases yZ ha xa with h | h
       · exact h.2.2
       · exact h.2
     · rcases yZ hb xb with h | h
       · exact h.2.2
       · exact h.2
theorem kF:∀ (n:Nat) (here:Option Int) (as bs:List Rw),(jN n here as bs).length<=n
 | 0,_,_,_=>by simp [jN]
 | n+1,_,[],_=>by simp [jN]
 | n+1,_,_::_,[]=>by simp [jN]
 | n + 1, here, a :: as, b :: bs => by
   have:=kF n (qJ a.2.1 b.2.1) (stp (qJ a.2.1 b.2.1) (a::as)) (stp (qJ a.2.1 b.2.1) (b::bs))
   rw [jN,List.length_cons]
   omega
abbrev pairR (ps qs:List Rw):List R4:=jN ((qI ps).length+(qI qs).length) none (qI ps) (qI qs)
def wM (W:Option Int->Option Int->Option Int) (ps qs:List Rw):List Rw:=knitF (joinR W (pairR ps qs))
section
variable (W:Option Int->Option Int->Option Int) {ps qs:List Rw}
theorem join_til (o1:Ord ps) (o2:Ord qs):Til none (joinR W (pairR ps qs)):=pair_til W _ none _ _ (Nat.le_refl _) (jU o1).rem (jU o2).rem
theorem join_mapF (o1:Ord ps) (o2:Ord qs):MapF (wM W ps qs):=knitF_map (wU (join_til W o1 o2))
theorem join_at (o1:Ord ps) (o2:Ord qs) (p:Int):valL (wM W ps qs) p=W (valL ps p) (valL qs p):=by
 have t:=join_til W o1 o2
 rw [show valL (wM W ps qs) p=valL (joinR W (pairR ps qs)) p from valL_same (join_mapF W o1 o2).ord (wU t) fun v=>knitF_tel (wU t) p v,vB (wU t)]
 obtain ⟨r,hr⟩:=til_ex p t
 rw [<- vX p _ none t (fun _ e=>nomatch e)] at hr
 rw [hr]
 have h3:has3 r p=true:=by simpa using List.find?_some hr
 obtain ⟨r4,h4,rfl⟩:=List.mem_map.mp (List.mem_of_find?_eq_some hr)
 have sp:=(pair_spec _ none _ _ (Nat.le_refl _) (.inr ⟨(jU o1).rem,(jU o2).rem⟩)).1 r4 h4
 obtain ⟨e1,e2⟩:=sp.2.2 p h3 (fun _ e=>nomatch e)
 rw [atB_val o1] at e1
 rw [atB_val o2] at e2
 simp only [e1,e2]
end
theorem join_len (W:Option Int->Option Int->Option Int) (ps qs:List Rw):(wM W ps qs).length<=2 * ps.length+2 * qs.length+2:=by
 have h1:=yE ps
 have h2:=yE qs
 have h3:=kF ((qI ps).length+(qI qs).length) none (qI ps) (qI qs)
 have h4:=knitF_len (joinR W (pairR ps qs))
 have h5:(joinR W (pairR ps qs)).length=(jN ((qI ps).length+(qI qs).length) none (qI ps) (qI qs)).length:=List.length_map _
 unfold wM
 omega
theorem joined_comp {Φ : Fun2} {c:D} {W:Option Int->Option Int->Option Int} (hW:∀ u v,Φ c [oi u,oi v]=some (.val (oi (W u v)))) (s0:List Sl) (x y z t:Sl) (hs:s0=[x,y,z,t,.v c]):∀ L:List R4,
  compL (tupG 4 (zO (zT 0) (zO (zT 1) (zO (zT 2) (zO (zT 3) tgNil))))) (fun _=>some true) (mkT (qN (zG (qW 0) (zG (qW 1) (zG (callW Φ 4 (zG (zJ 2) (zG (zJ 3) qC))) qC))))) s0 (L.map r4D)=some ((joinR W L).map rwD)
 | []=>by simp [compL,joinR]
 | r :: L => by
   have ih:=joined_comp hW s0 x y z t hs L
   subst hs
   have hw:=hW r.2.2.1 r.2.2.2
   rw [List.map_cons,compL]
   have e1:tupG 4 (zO (zT 0) (zO (zT 1) (zO (zT 2) (zO (zT 3) tgNil)))) (r4D r) [x,y,z,t,.v c]=some [.v (oi r.1),.v (oi r.2.1),.v (oi r.2.2.1),.v (oi r.2.2.2),.v c]:=by
    simp [r4D]
   have e2:mkT (qN (zG (qW 0) (zG (qW 1) (zG (callW Φ 4 (zG (zJ 2) (zG (zJ 3) qC))) qC)))) [.v (oi r.1),.v (oi r.2.1),.v (oi r.2.2.1),.v (oi r.2.2.2),.v c]=some (rwD (r.1,r.2.1,W r.2.2.1 r.2.2.2)):=by
    simp [callW,hw,rwD,retV]
   rw [e1]
   simp only [Option.bind_some,if_true,e2,ih,Option.map_some]
   rfl
theorem joined_eq {Φ : Fun2} {c:D} {W:Option Int->Option Int->Option Int} (hW:∀ u v,Φ c [oi u,oi v]=some (.val (oi (W u v)))) {ps qs:List Rw} (o1:Ord ps) (o2:Ord qs) (h1:ps.length<=10000) (h2:qs.length<=10000) :
  GP.joined.f Φ [.lst (ps.map rwD),.lst (qs.map rwD),c]=some (.fresh ((wM W ps qs).map rwD)):=by
 have pe:=paired_eq o1 o2 h1 h2
 have l1:=yE ps
 have l2:=yE qs
 have l3:=kF ((qI ps).length+(qI qs).length) none (qI ps) (qI qs)
 have h5:(joinR W (pairR ps qs)).length=(jN ((qI ps).length+(qI qs).length) none (qI ps) (qI qs)).length:=List.length_map _
 have l6:(pairR ps qs).length<=(qI ps).length+(qI qs).length:=l3
 have kn:=knit_eq (joinR W (pairR ps qs)) (by omega)
 have fl:=yN (wM W ps qs)
 have comp:∀ (a b:Sl),compG (viaA (qW 3) asLT) [none,none,none,none,some 2] (tupG 4 (zO (zT 0) (zO (zT 1) (zO (zT 2) (zO (zT 3) tgNil))))) (fun _=>some true) (mkT (qN (zG (qW 0) (zG (qW 1) (zG (callW Φ 4 (zG (zJ 2) (zG (zJ 3) qC))) qC))))) [a,b,.v c,.v (.lst ((pairR ps qs).map r4D))]=some ((joinR W (pairR ps qs)).map rwD):=fun a b=>by
  refine wB (items:=(pairR ps qs).map r4D) (by simp) (by simp; omega) ?_
  exact joined_comp hW _ .no .no .no .no rfl _
 unfold wM at fl ⊢
 unfold pairR at *
 generalize knitF (joinR W (jN ((qI ps).length+(qI qs).length) none (qI ps) (qI qs)))=T at *
 generalize (joinR W (jN ((qI ps).length+(qI qs).length) none (qI ps) (qI qs))).map rwD=M at *
 generalize (jN ((qI ps).length+(qI qs).length) none (qI ps) (qI qs)).map r4D=N at *
 unfold GP.joined.f runG GP.joined.g
 simp [args,pe,comp,kn,fl]
end FL
namespace FL
open PySem PySem.Spec PyProof.Rows L2
open Builtin.Int (intBits)
def cntP (f:Int->Bool) (a:Int):Nat->Int
 | 0=>0
 | n+1=>cntP f a n+(if f (a+n)=true then 1 else 0)
def freeC (ps:List Rw) (a b:Int):Int:=cntP (fun p=>decide (valL ps p=none)) a (b - a).toNat
end FL
namespace FL
open PySem PySem.Spec PyProof.Rows L2
open Builtin.Int (intBits)
theorem rolled_big {L:Int} {ps:List Rw} (w:Whl L ps) (hl:ps.length<=100) (hL:2<=L) {s e:Int} (hse:s < e) (hk:(e - 1) / L - s / L<=400) (h1 : -(10 ^ 380) < s) (h2:e < 10 ^ 380) :
  ∃ qs:List Rw,MapF qs/\qs.length<=((e - 1) / L - s / L+1).toNat * ps.length/\(∀ p v,Tel qs p v↔(s<=p/\p < e)/\gOf ps L p=some v)/\GP.rolled_out.f [whD L ps,.tup [.int s,.int e]]=some (.fresh (qs.map rwD)):=by
 have wp:=w.pos
 have fd1:=jF (i:=s) wp w.bnd
 have fd2:=jF (i:=e - 1) wp w.bnd
 have d1:=Int.emod_add_mul_ediv s L
 have d2:=Int.emod_nonneg s (Int.ne_of_gt wp)
 have d3:=Int.emod_lt_of_pos s wp
 have d4:=Int.emod_add_mul_ediv (e - 1) L
 have d5:=Int.emod_nonneg (e - 1) (Int.ne_of_gt wp)
 have d6:=Int.emod_lt_of_pos (e - 1) wp
 have mono:s / L<=(e - 1) / L:=Int.ediv_le_ediv wp (by omega)
 have b1 : -(10 ^ 380)<=s / L:=by
  rcases Int.lt_or_le s 0 with z | z
  · have:s<=s / L:=by
     have:=Int.ediv_le_ediv (a:=s) (b:=s / 1) (c:=1) (by decide) (by simp)
     have h3:L * (s / L)<=s:=by omega
     rcases Int.lt_or_le (s / L) s with q | q
     · exfalso
       have hn:s / L<=-1:=by omega
       have h5:L * (s / L)<=1 * (s / L):=by
        have:=Int.mul_le_mul_of_nonpos_right (a:=L) (b:=1) (c:=s / L) (by omega) (by omega)
        exact this
       have h6:s < L * (s / L)+L:=by omega
       have h7:s / L+1<=s:=by omega
       have h8:L * (s / L+1)<=L * s:=Int.mul_le_mul_of_nonneg_left h7 (by omega)
       have h9:L * s<=1 * s:=Int.mul_le_mul_of_nonpos_right (by omega) (by omega)
       rw [Int.mul_add] at h8
       omega
     · exact q
    generalize (10:Int) ^ 380=B at *
    omega
  · have : 0 <= s / L := Int.ediv_nonneg z (by omega)
    have:(0:Int)<=10 ^ 380:=by decide +kernel
    generalize (10:Int) ^ 380=B at *
    omega
 have b2:(e - 1) / L<=10 ^ 380:=by
  rcases Int.lt_or_le (e - 1) 0 with z | z
  · have:(e - 1) / L<=0:=by
     have:=Int.ediv_le_ediv wp (Int.le_of_lt z)
     simpa using this
    have:(0:Int)<=10 ^ 380:=by decide +kernel
    generalize (10:Int) ^ 380=B at *
    omega
  · have : (e - 1) / L <= e - 1 := Int.ediv_le_self _ z
    generalize (10:Int) ^ 380=B at *
    omega
 generalize hk0:s / L=k0 at *
 generalize hk1:(e - 1) / L=k1 at *
 obtain ⟨N,hN⟩:∃ N:Nat,(N:Int)=k1+1 - k0:=⟨(k1+1 - k0).toNat,by omega⟩
 have key:=loop_from (ga:=zT 4) (body:=GP.rolled_out.b1) k0 (fun i ds=>∃ (acc:List Rw) (y:Sl),Ord acc/\(∀ r∈acc,∃ bh,r.2.1=some bh/\bh<=(k0+(i:Int)) * L)/\acc.length=i * ps.length/\(∀ p v,Tel acc p v↔(k0 * L<=p/\p < (k0+(i:Int)) * L)/\gOf ps L p=some v)/\ds=[.v (whD L ps),.v (.tup [.int s,.int e]),.v (.int L),.own (acc.map rwD),y]) N (by
  rintro i hi _ ⟨acc,y,q1,q2,q3,q4,rfl⟩
  have hmul:yT (.int (k0+(i:Int))) (.int L)=some (.int ((k0+(i:Int)) * L)):=yA (mulOk_of_bits (bits_380 (by omega) (by omega)) (wP wp w.bnd) (by decide))
  have eL:(k0+((i+1:Nat):Int)) * L=(k0+(i:Int)) * L+L:=by
   have:k0+((i+1:Nat):Int)=(k0+(i:Int))+1:=by omega
   rw [this,Int.add_mul]; omega
  have sh:=shifted_eq ps ((k0+(i:Int)) * L) (by omega)
  have hper:∀ p,gOf ps L (p - (k0+(i:Int)) * L)=gOf ps L p:=fun p=>by
   have:=(yY ps L).int p (-(k0+(i:Int)))
   rw [Int.neg_mul] at this
   exact this
  have hmono:k0 * L<=(k0+(i:Int)) * L:=Int.mul_le_mul_of_nonneg_right (by omega) (by omega)
  have hal:acc.length<=40100:=by
   rw [q3]
   exact Nat.le_trans (Nat.mul_le_mul (show i<=401 by omega) hl) (by decide)
  generalize hf:(k0+(i:Int)) * L=f at *
  refine ⟨[.v (whD L ps),.v (.tup [.int s,.int e]),.v (.int L),.own (acc.map rwD),.v (.int (k0+(i:Int)))],[.v (whD L ps),.v (.tup [.int s,.int e]),.v (.int L),.own ((acc++ps.map (shR f)).map rwD),.v (.int (k0+(i:Int)))],rfl,?_,acc++ps.map (shR f),.v (.int (k0+(i:Int))),?_,?_,?_,?_,rfl⟩
  · have w1 : ixD (whD L ps) (.int 1) = some (.lst (ps.map rwD)) := by unfold whD; simp
    have l1:(acc.map rwD).length+((ps.map (shR f)).map rwD).length<=16777216:=by simp; omega
    unfold GP.rolled_out.b1
    rw [List.map_append]
    generalize (ps.map (shR f)).map rwD=SL at *
    generalize acc.map rwD=AL at *
    generalize ps.map rwD=PL at *
    generalize whD L ps=WL at *
    simp [extG,w1,hmul,sh,retF,l1]
  · refine ord_app q1 (sh_ord w.map.ord f) fun x hx y hy => ?_
    obtain ⟨bh,a1,a2⟩:=q2 x hx
    obtain ⟨r,hr,rfl⟩:=List.mem_map.mp hy
    obtain ⟨lo',bh',g1,g2,g3,g4⟩:=w.ins r hr
    exact ⟨bh,lo'+f,a1,by simp [shR,g1],by omega⟩
  · intro r hr
    rw [eL]
    rcases List.mem_append.mp hr with hr | hr
    · obtain ⟨bh, a1, a2⟩ := q2 r hr
      exact ⟨bh,a1,by omega⟩
    · obtain ⟨q, hq, rfl⟩ := List.mem_map.mp hr
      obtain ⟨lo',bh',g1,g2,g3,g4⟩:=w.ins q hq
      exact ⟨bh'+f,by simp [shR,g2],by omega⟩
  · rw [List.length_append, List.length_map, q3, Nat.add_mul]
    omega
  · intro p v
    rw [tel_app,tel_sh,q4,gOf_tel w.map.ord w.ins,hper,eL]
    constructor
    · rintro (⟨⟨a, b⟩, c⟩ | ⟨⟨a, b⟩, c⟩)
      · exact ⟨⟨a,by omega⟩,c⟩
      · exact ⟨⟨by omega,by omega⟩,c⟩
    · rintro ⟨⟨a, b⟩, c⟩
      by_cases z:p < f
      · exact .inl ⟨⟨a,z⟩,c⟩
      · exact .inr ⟨⟨by omega,by omega⟩,c⟩)
 obtain ⟨ds',er,acc,y,q1,q2,q3,q4,rfl⟩:=key N 0 [.v (whD L ps),.v (.tup [.int s,.int e]),.v (.int L),.own [],.no] (by omega) ⟨[],.no,⟨(fun _ h=>nomatch h),List.Pairwise.nil⟩,(fun _ h=>nomatch h),by simp,(fun p v=>⟨fun ⟨r,h,_⟩=>(nomatch h),fun ⟨⟨a,b⟩,_⟩=>by simp at b; omega⟩),rfl⟩
 have hal:acc.length<=40100:=by
  rw [q3]
  exact Nat.le_trans (Nat.mul_le_mul (show N<=401 by omega) hl) (by decide)
 have kl:=knitF_len acc
 have e1:=knit_eq acc (by omega)
 have e2:GP.parts_in.f [.lst ((knitF acc).map rwD),.tup [.int s,.int e]]=some (.fresh ((qD (knitF acc) (some s,some e)).map rwD)):=vU (knitF acc) (some s,some e) (by omega)
 have pl:=yX (knitF acc) (some s,some e)
 have hNt:(k1 - k0+1).toNat=N:=by omega
 refine ⟨qD (knitF acc) (some s,some e),vD (knitF_map q1) _,by rw [hNt]; omega,fun p v=>?_,?_⟩
 · rw [parts_tel, knitF_tel q1, q4]
   have hs:hasS (some s,some e) p=true↔s<=p/\p < e:=by simp [hasS]
   have c1:L * k0=k0 * L:=Int.mul_comm _ _
   have c2:(k0+(N:Int)) * L=L * k1+L:=by rw [hN,show k0+(k1+1 - k0)=k1+1 by omega,Int.add_mul,Int.mul_comm]; omega
   rw [hs,c2]
   constructor
   · rintro ⟨a, _, c⟩
     exact ⟨a,c⟩
   · rintro ⟨⟨a, b⟩, c⟩
     exact ⟨⟨a,b⟩,⟨by omega,by omega⟩,c⟩
 · have fl := yN (qD (knitF acc) (some s, some e))
   have e0:(k1+1 - k0).toNat=N:=by omega
   have er':qS (zT 4) GP.rolled_out.b1 (rangeD k0 N) [.v (whD L ps),.v (.tup [.int s,.int e]),.v (.int L),.own [],.no]=some (.nx [.v (whD L ps),.v (.tup [.int s,.int e]),.v (.int L),.own (acc.map rwD),y]):=by
    rw [rangeD,List.range_eq_range']; exact er
   have w0:ixD (whD L ps) (.int 0)=some (.int L):=by unfold whD; simp
   have hL1 : ¬ L=1:=by omega
   unfold GP.rolled_out.f runG GP.rolled_out.g
   generalize (qD (knitF acc) (some s,some e)).map rwD=RL at *
   generalize (knitF acc).map rwD=KL at *
   generalize acc.map rwD=AL at *
   generalize whD L ps=WL at *
   have ff:flatF RL=some (.rt (.fresh RL)):=if_pos fl
   simp [args,w0,hL1,hk0,hk1,fd1,fd2,e0,er',e1,e2,ff,retF]
theorem wh0 (L:Int) (ps:List Rw):ixD (whD L ps) (.int 0)=some (.int L):=by unfold whD; simp
theorem wh1 (L:Int) (ps:List Rw):ixD (whD L ps) (.int 1)=some (.lst (ps.map rwD)):=by unfold whD; simp
def sizeF (L:Int) (ps:List Rw) (n:Int):Int:=if L=1 then 1 else n * ((ps.length:Int)+1)
theorem sz1 {k:Nat} (h:k<=1000):(((k:Int)+1).natAbs) < 2 ^ 64:=by omega
theorem sz2 {n m:Int} (b:m.natAbs < 2 ^ 64):yT (.int n) (.int m)=some (.int (n * m)):=yA (.of_right (jH b))
theorem sz3 {n L m:Int} {WL:D} {PL:List D} (h0:ixD WL (.int 0)=some (.int L)) (h1:ixD WL (.int 1)=some (.lst PL)) (ln:(PL.length:Int)+1=m) (mu:yT (.int n) (.int m)=some (.int (n * m))) (h : ¬ L=1):GP.size_of.f [WL,.int n]=some (.val (.int (n * m))):=by
 refine yU ?_
 unfold GP.size_of.g
 simp [args,h0,h1,h,ln,mu]
theorem sz4 {n L:Int} {WL:D} (h0:ixD WL (.int 0)=some (.int L)) (h:L=1):GP.size_of.f [WL,.int n]=some (.val (.int 1)):=by
 refine yU ?_
 unfold GP.size_of.g
 simp [args,h0,h]
theorem size_eq (L:Int) {ps:List Rw} (hl:ps.length<=1000) (n:Int):GP.size_of.f [whD L ps,.int n]=some (.val (.int (sizeF L ps n))):=by
 unfold sizeF
 by_cases h:L=1
 · rw [if_pos h]
   exact sz4 (wh0 L ps) h
 · rw [if_neg h]
   exact sz3 (wh0 L ps) (wh1 L ps) (by rw [List.length_map]) (sz2 (sz1 hl)) h
theorem euc_step (A B:Sl) (d r:Nat) (hr:0 < r) (x:Sl):GP.least_multiple.b1 [A,B,.v (.int (d:Int)),.v (.int (r:Int)),x]=some (.nx [A,B,.v (.int (r:Int)),.v (.int ((d % r:Nat):Int)),.v (.int ((d % r:Nat):Int))]):=by
 have m:xL (.int (d:Int)) (.int (r:Int))=some (.int ((d % r:Nat):Int)):=by
  rw [yM _ (by omega)]
  rfl
 unfold GP.least_multiple.b1
 simp [m]
theorem euc_c (A B:Sl) (d r:D) (n:Int) (x:Sl) (h:r = .int n):zU (zL gtD (zJ 3) (zE (.int 0))) [A,B,.v d,.v r,x]=some (decide (n > 0)):=by
 subst h
 simp
theorem euc_end (A B:Sl) (d:Nat) (x:Sl) (n:Nat):whileN (zU (zL gtD (zJ 3) (zE (.int 0)))) GP.least_multiple.b1 (n+1) [A,B,.v (.int (d:Int)),.v (.int ((0:Nat):Int)),x]=some (.nx [A,B,.v (.int (d:Int)),.v (.int ((0:Nat):Int)),x]):=by
 rw [whileN,euc_c A B (.int (d:Int)) (.int ((0:Nat):Int)) ((0:Nat):Int) x rfl]
 simp
theorem euc_turn (A B:Sl) (d r:Nat) (hr:0 < r) (x:Sl) (n:Nat):whileN (zU (zL gtD (zJ 3) (zE (.int 0)))) GP.least_multiple.b1 (n+1) [A,B,.v (.int (d:Int)),.v (.int (r:Int)),x]=whileN (zU (zL gtD (zJ 3) (zE (.int 0)))) GP.least_multiple.b1 n [A,B,.v (.int (r:Int)),.v (.int ((d % r:Nat):Int)),.v (.int ((d % r:Nat):Int))]:=by
 have h:((r:Int) > 0):=by omega
 rw [whileN,euc_c A B (.int (d:Int)) (.int (r:Int)) (r:Int) x rfl,euc_step A B d r hr x,decide_eq_true h]
 rfl
theorem wN (d r:Nat):Nat.gcd d r=Nat.gcd r (d % r):=by
 rw [Nat.gcd_comm d r,Nat.gcd_rec r d,Nat.gcd_comm]
theorem euc_loop (A B:Sl):∀ (k d r:Nat) (x:Sl),r < 2 ^ k->∀ n,2 * k+1<=n->∃ y,whileN (zU (zL gtD (zJ 3) (zE (.int 0)))) GP.least_multiple.b1 n [A,B,.v (.int (d:Int)),.v (.int (r:Int)),x]=some (.nx [A,B,.v (.int ((Nat.gcd d r:Nat):Int)),.v (.int ((0:Nat):Int)),y])
 | k, d, 0, x, _, n, hn => by
   obtain ⟨m,rfl⟩:∃ m,n=m+1:=⟨n - 1,by omega⟩
   rw [euc_end,Nat.gcd_zero_right]
   exact ⟨x,rfl⟩
 | 0,d,r+1,x,h,n,hn=>by simp at h
 | k + 1, d, r + 1, x, h, n, hn => by
   obtain ⟨m,rfl⟩:∃ m,n=m+2:=⟨n - 2,by omega⟩
   rw [euc_turn A B d (r+1) (by omega) x (m+1)]
   have hlt:d % (r+1) < r+1:=Nat.mod_lt _ (by omega)
   have eg:=wN d (r+1)
   generalize d % (r+1)=r1 at *
   cases r1 with
   | zero =>
     rw [euc_end,eg,Nat.gcd_zero_right]
     exact ⟨_,rfl⟩
   | succ r2 =>
     rw [euc_turn A B (r+1) (r2+1) (by omega) _ m,eg,wN (r+1) (r2+1)]
     have hl2:(r+1) % (r2+1) < r2+1:=Nat.mod_lt _ (by omega)
     have hs:(r+1) % (r2+1)+(r2+1)<=r+1:=by
      have e:=Nat.mod_add_div (r+1) (r2+1)
      have:1<=(r+1) / (r2+1):=Nat.div_pos (by omega) (by omega)
      have:(r2+1) * 1<=(r2+1) * ((r+1) / (r2+1)):=Nat.mul_le_mul_left _ this
      omega
     rw [Nat.pow_succ] at h
     exact euc_loop A B k (r2+1) ((r+1) % (r2+1)) _ (by omega) m (by omega)
theorem lcm_eq {a b:Nat} (ha:0 < a) (hb:0 < b) (hb2:b < 2 ^ 4000) (hg:(Nat.gcd a b) < 10 ^ 200) (ha2:a < 10 ^ 200):GP.least_multiple.f [.int (a:Int),.int (b:Int)]=some (.val (.int ((a / Nat.gcd a b * b:Nat):Int))):=by
 obtain ⟨y,e⟩:=euc_loop (.v (.int (a:Int))) (.v (.int (b:Int))) 4000 a b .no hb2 100000 (by decide)
 have gp:0 < Nat.gcd a b:=Nat.gcd_pos_of_pos_left _ ha
 have fd:qY (.int (a:Int)) (.int ((Nat.gcd a b:Nat):Int))=some (.int ((a / Nat.gcd a b:Nat):Int)):=by
  rw [jF (by omega) (by exact_mod_cast hg)]
  rfl
 have bq:intBits ((a / Nat.gcd a b:Nat):Int)<=700:=by
  rcases Nat.eq_zero_or_pos (a / Nat.gcd a b) with z | z
  · rw [z]; exact jH (by decide)
  · refine wP (by omega) ?_
    have h1:a / Nat.gcd a b<=a:=Nat.div_le_self _ _
    exact_mod_cast Nat.lt_of_le_of_lt h1 ha2
 have bb:intBits (b:Int)<=4000:=jH (by simpa using hb2)
 have mu:yT (.int ((a / Nat.gcd a b:Nat):Int)) (.int (b:Int))=some (.int ((a / Nat.gcd a b * b:Nat):Int)):=by
  rw [yA (mulOk_of_bits bq bb (by decide))]
  rfl
 refine yU ?_
 unfold GP.least_multiple.g
 generalize Nat.gcd a b=g at *
 generalize hq:((a / g:Nat):Int)=q at *
 generalize hp:((a / g * b:Nat):Int)=pr at *
 rw [qX (ds':=[.v (.int (a:Int)),.v (.int (b:Int)),.v (.int (a:Int)),.no,.no]) (by simp [args]),
  qX (ds':=[.v (.int (a:Int)),.v (.int (b:Int)),.v (.int (a:Int)),.v (.int (b:Int)),.no]) (by simp),
  qX e]
 simp [fd,mu]
end FL
namespace FL
open PySem PySem.Spec PyProof.Rows L2
open Builtin.Int (intBits)
theorem unitTwo {ps:List Rw} (w:Whl 1 ps) {a b:Int} (hab:a < b):∃ qs:List Rw,MapF qs/\qs.length<=ps.length/\qs=ps.map (fun r=>(some a,some b,r.2.2))/\(∀ p v,Tel qs p v↔(a<=p/\p < b)/\gOf ps 1 p=some v)/\GP.rolled_out.f [whD 1 ps,.tup [.int a,.int b]]=some (.fresh (qs.map rwD)):=by
 rcases whl_unit w with rfl | ⟨v,rfl⟩
 · refine ⟨[], MapF.nil, by simp, rfl, fun p v => ⟨fun ⟨r, h, _⟩ => (nomatch h), fun ⟨_, h⟩ => by simp [gOf, valL] at h⟩, ?_⟩
   unfold GP.rolled_out.f runG GP.rolled_out.g whD
   simp [args,compG,compL]
 · have hg:∀ p,gOf [(some 0,some 1,some v)] 1 p=some v:=fun p=>by
    unfold gOf valL
    have:p % 1=0:=by omega
    simp [this,has3,hasS]
   refine ⟨[(some a,some b,some v)],⟨⟨fun r hr=>?_,by simp⟩,fun r hr=>?_,fun i x y h1 h2=>by simp at h2⟩,by simp,rfl,fun p u=>?_,?_⟩
   · rw [List.mem_singleton.mp hr]
     intro x y hx hy
     have:=Option.some.inj hx
     have:=Option.some.inj hy
     omega
   · rw [List.mem_singleton.mp hr]; simp
   · rw [hg]
     constructor
     · rintro ⟨r, hr, h3, hv⟩
       rw [List.mem_singleton.mp hr] at h3 hv
       refine ⟨by simpa [has3,hasS] using h3,hv⟩
     · rintro ⟨h, hv⟩
       exact ⟨_,.head _,by simpa [has3,hasS] using h,hv⟩
   · unfold GP.rolled_out.f runG GP.rolled_out.g whD
     simp [args,compG,compL,jS,rwD]
structure Whg (L:Int) (ps:List Rw):Prop where
 pos:0 < L
 map:MapF ps
 ins:Ins ps L
 least:∀ far s,0 < far->L=s * far->Per (gOf ps L) far->L<=far
theorem vA {Q:List Rw} (m:MapF Q) {T:Int} (hT:0 < T) (hb:T < 10 ^ 200) (hl:Q.length<=10000) :
  ∃ (L t:Int) (ps:List Rw),Whg L ps/\gOf ps L=gOf Q T/\t * L=T/\0 < t/\(L=1 \/ t<=((chgF Q T).length:Int))/\ps.length<=Q.length/\GP.wheel_of.f [.int T,.lst (Q.map rwD)]=some (.val (whD L ps)):=by
 obtain ⟨t,ht,ew⟩:=wheel_of_ex m hT hb hl
 obtain ⟨t0,tL,tF,tper,tmin⟩:=least_of (yY Q T) (chg_is m hT) hT ht
 have hLF:T / t<=T:=by
  have:1 * (T / t)<=t * (T / t):=Int.mul_le_mul_of_nonneg_right (by omega) (by omega)
  omega
 have lp:=yX Q (S0 (T / t))
 have val:gOf (qD Q (S0 (T / t))) (T / t)=gOf Q T:=funext fun p=>by
  have d2:=Int.emod_nonneg p (Int.ne_of_gt tL)
  have d3:=Int.emod_lt_of_pos p tL
  show valL (qD Q (S0 (T / t))) (p % (T / t))=_
  rw [parts_val m.ord d2 d3,<- vP (Q:=Q) (T:=T) d2 (by omega),tper.emod]
 refine ⟨T / t,t,qD Q (S0 (T / t)),⟨tL,vD m _,parts_ins,fun far s hf hs hp=>?_⟩,val,tF,t0,?_,lp,ew⟩
 · rw [val] at hp
   have hs0:0 < s:=by
    rcases Int.lt_or_le 0 s with z | z
    · exact z
    · have := Int.mul_nonpos_of_nonpos_of_nonneg z (Int.le_of_lt hf)
      omega
   refine tmin far hf ⟨(t * s).toNat,?_⟩ hp
   have:0<=t * s:=Int.mul_nonneg (by omega) (by omega)
   rw [Int.toNat_of_nonneg this,Int.mul_assoc,<- hs,tF]
 · by_cases hc : chgF Q T = []
   · left
     have:=ht.nil hc
     rw [this,Int.ediv_self (by omega)]
   · right
     obtain ⟨n,e,_,h2,_⟩:=ht.one hc
     omega
theorem nodup_le:∀ {l m:List Int},l.Nodup->(∀ x∈l,x∈m)->l.length<=m.length
 | [],_,_,_=>by simp
 | a :: l, m, nd, h => by
   have ha:=h a (.head _)
   obtain ⟨n1,n2⟩:=List.nodup_cons.mp nd
   have:=nodup_le (l:=l) (m:=m.erase a) n2 fun x hx=>(List.mem_erase_of_ne (fun (e:x=a)=>n1 (by rw [<- e]; exact hx))).mpr (h x (.tail _ hx))
   rw [List.length_erase_of_mem ha] at this
   have:0 < m.length:=List.length_pos_of_mem ha
   simp only [List.length_cons]
   omega
theorem chg_list {L:Int} {ps:List Rw} (w:Whl L ps) (s:Nat):∃ A:List Int,(A.length:Int)<=2 * sizeF L ps (s:Int)/\∀ p,0 < p->p<=(s:Int) * L->gOf ps L (p - 1)≠gOf ps L p->p∈A:=by
 have hp:=w.pos
 have pg:=yY ps L
 by_cases h1:L=1
 · refine ⟨[], by unfold sizeF; rw [if_pos h1]; simp, fun p _ _ hne => (hne ?_).elim⟩
   have:=pg (p - 1)
   rw [h1] at this ⊢
   rw [show p - 1+1=p by omega] at this
   exact this.symm
 · have hC := chg_is w.map hp
   have hcl:=chg_len ps L
   by_cases hn:chgF ps L=[]
   · refine ⟨[], ?_, fun p h0 _ hne => (hne (ch_nil pg hC hp hn p h0)).elim⟩
     unfold sizeF
     rw [if_neg h1]
     have:=Int.mul_nonneg (show (0:Int)<=(s:Int) by omega) (show (0:Int)<=(ps.length:Int)+1 by omega)
     simp
     omega
   · refine ⟨(List.range (s * (chgF ps L).length)).map fun k => chP L (chgF ps L) k, ?_, fun p h0 h2 hne => ?_⟩
     · unfold sizeF
       rw [if_neg h1,List.length_map,List.length_range,Int.natCast_mul]
       have:(s:Int) * ((chgF ps L).length:Int)<=(s:Int) * (2 * ((ps.length:Int)+1)):=Int.mul_le_mul_of_nonneg_left (by omega) (by omega)
       have e:(s:Int) * (2 * ((ps.length:Int)+1))=2 * ((s:Int) * ((ps.length:Int)+1)):=by rw [<- Int.mul_assoc,Int.mul_comm (s:Int) 2,Int.mul_assoc]
       omega
     · obtain ⟨k, hk⟩ := vK pg hC hp hn h0 hne
       refine List.mem_map.mpr ⟨k,List.mem_range.mpr ?_,hk⟩
       rcases Nat.lt_or_ge k (s * (chgF ps L).length) with z | z
       · exact z
       · exfalso
         have e:=xD (T:=L) hn (k - s * (chgF ps L).length) s
         rw [show k - s * (chgF ps L).length+s * (chgF ps L).length=k by omega,hk] at e
         have:=(wL pg hC hp hn (k - s * (chgF ps L).length)).1
         omega
end FL
section
open PySem PyProof.Rows L2 FL
noncomputable def K84.lam__law_way_0:FS:=(qG (ifG (zU (zL isD (zJ 0) (zE .non))) (retG (zJ 1)) qO)
 (retG (zJ 0)))
noncomputable def K84.lam__law_way_1:FS:=(qG (ifG (orT (zU (zL isD (zJ 0) (zE .non))) (zU (zL isD (zJ 1) (zE .non)))) (retG (zE .non)) qO)
 (retG (zL xN (zJ 0) (zL yT (zJ 2) (zJ 1)))))
noncomputable def K84.lam__law_way_2:FS:=(retG (callB int1D (zG (zL eqD (zJ 0) (zJ 1)) qC)))
noncomputable def K84.lam__law_way_3:FS:=(qG (ifG (orT (zU (zL isD (zJ 0) (zE .non))) (zU (zL notD (zJ 1) (zE .non)))) (retG (zE .non)) qO)
 (retG (zJ 0)))
noncomputable def K84.lam__law_way_4:FS:=(qG (ifG (zU (zL isD (zJ 0) (zE .non))) (retG (zJ 2)) qO)
 (retG (zL xL (zJ 0) (zE (.int 2)))))
noncomputable def K84.Phi:Fun2:=phiOf [((3,0),lamS 2 K84.lam__law_way_0),((3,1),lamS 2 K84.lam__law_way_1),((3,2),lamS 2 K84.lam__law_way_2),((3,3),lamS 2 K84.lam__law_way_3),((3,4),lamS 2 K84.lam__law_way_4)]
noncomputable def K84.X_wheel_joined_10.x:List Sl->Bool:=(seqX (jM 3 (qF 2 GP.least_multiple.f (zG (zL ixD (zJ 0) (zE (.int 0))) (zG (zL ixD (zJ 1) (zE (.int 0))) qC))))
 (ifX (zU (zL gtD (zL xN (qF 2 GP.size_of.f (zG (zJ 0) (zG (zL qY (zJ 3) (zL ixD (zJ 0) (zE (.int 0)))) qC))) (qF 2 GP.size_of.f (zG (zJ 1) (zG (zL qY (zJ 3) (zL ixD (zJ 1) (zE (.int 0)))) qC)))) (zE (.int 300)))) alwaysX neverX))
noncomputable def K84.X_wheel_joined_10.f:List D->Bool:=runX K84.X_wheel_joined_10.x 5
noncomputable def K84.L_small.b1:FS:=(qG (jM 6 (zL xN (zJ 4) (zL yT (zL ixD (mkL (qN (zG (zE (.int 0)) (zG (zE (.int 1)) (zG (zE (.int 2)) qC))))) (zL xL (zJ 5) (zE (.int 3)))) (zJ 2))))
 (qG (jM 7 (zL xN (zJ 6) (zL yT (zL xN (zE (.int 1)) (zL xL (zL qY (zJ 5) (zE (.int 3))) (zE (.int 3)))) (zJ 2))))
 (qG (jM 8 (zL ixD (mkL (qN (zG (zL subD (zL xL (zL qY (zJ 5) (zE (.int 18))) (zE (.int 3))) (zE (.int 1))) (zG (zL subD (zL xL (zL qY (zJ 5) (zE (.int 18))) (zL xN (zL yT (zE (.int 2)) (zL powD (zE (.int 10)) (zE (.int 60)))) (zE (.int 1)))) (zL powD (zE (.int 10)) (zE (.int 60)))) qC)))) (zL xL (zL qY (zJ 5) (zE (.int 9))) (zE (.int 2)))))
 (qG (ifG (andT (zU (zL neD (zJ 3) (mkL (qN qC)))) (andT (zU (zL eqD (zJ 6) (zJ 4))) (zU (zL eqD (zJ 8) (zL ixD (zL ixD (zJ 3) (un1 negD (zE (.int 1)))) (zE (.int 2))))))) (jM 8 (zL xN (zJ 8) (zE (.int 1)))) qO)
 (qG (appG 3 (mkT (qN (zG (qW 6) (zG (qW 7) (zG (qW 8) qC))))))
 (jM 4 (qW 7)))))))
noncomputable def K84.L_small.g:FS:=(qG (setOG 3 (qN qC))
 (qG (jM 4 (zE (.int 0)))
 (qG (forG (viaA (qW 0) asLT) (zT 5) K84.L_small.b1)
 (retDG (mkT (qN (zG (flV (callB mxD (zG (zL xN (zJ 4) (zL yT (zL xL (zJ 1) (zE (.int 3))) (zJ 2))) (zG (zJ 2) qC)))) (zG (getO 3) qC))))))))
noncomputable def K84.L_small.f:List D->Option Ret:=runG K84.L_small.g 9
noncomputable def K84.L_way.g:FS:=(qG (jM 1 (zL xL (zL qY (zJ 0) (zE (.int 5))) (zE (.int 1000))))
 (qG (jM 2 (cloV 3 0 []))
 (qG (jM 3 (cloV 3 1 [1]))
 (qG (jM 4 (cloV 3 2 []))
 (qG (jM 5 (cloV 3 3 []))
 (qG (jM 6 (cloV 3 4 [1]))
 (retCG (zL ixD (mkL (qN (zG (qW 2) (zG (qW 3) (zG (qW 4) (zG (qW 5) (zG (qW 6) qC))))))) (zL xL (zJ 0) (zE (.int 5)))))))))))
noncomputable def K84.L_way.f:List D->Option Ret:=runG K84.L_way.g 7
noncomputable def K84.L_common.b1:FS:=(parG 2 3 (zG (qW 3) (zG (zL xL (zJ 2) (zJ 3)) qC)))
noncomputable def K84.L_common.g:FS:=(qG (jM 2 (qW 0))
 (qG (jM 3 (qW 1))
 (qG (whileN (zU (zL gtD (zJ 3) (zE (.int 0)))) K84.L_common.b1 100000)
 (retG (zL yT (zJ 0) (zL qY (zJ 1) (zJ 2)))))))
noncomputable def K84.L_common.f:List D->Option Ret:=runG K84.L_common.g 4
noncomputable def K84.L_weight.g:FS:=(qG (ifG (zU (zL eqD (zL ixD (zJ 0) (zE (.int 0))) (zE (.int 1)))) (retG (zE (.int 1))) qO)
 (retG (zL yT (zL qY (zJ 1) (zL ixD (zJ 0) (zE (.int 0)))) (zL xN (callB lenD (zG (zL ixD (zJ 0) (zE (.int 1))) qC)) (zE (.int 1))))))
noncomputable def K84.L_weight.f:List D->Option Ret:=runG K84.L_weight.g 2
noncomputable def K84.L_spots.b1:FS:=(setOG 2 (catA (zJ 2) (mkL (compG (viaA (mkL (catA (mkL (qN (zG (zE (.int 0)) qC))) (qF 1 GL.ends2.f (zG (zL ixD (zJ 0) (zE (.int 1))) qC)))) asLT) [none,some 3,some 0] (zT 0) (fun _=>some true) (zL xN (zL yT (zJ 1) (zL ixD (zJ 2) (zE (.int 0)))) (zJ 0))))))
noncomputable def K84.L_spots.g:FS:=(qG (setOG 2 (qN (zG (zE (.int 0)) qC)))
 (qG (ifG (zU (zL gtD (zL ixD (zJ 0) (zE (.int 0))) (zE (.int 1)))) (forG (rng1 (zL qY (zJ 1) (zL ixD (zJ 0) (zE (.int 0))))) (zT 3) K84.L_spots.b1) qO)
 (retXG 2)))
noncomputable def K84.L_spots.f:List D->Option Ret:=runG K84.L_spots.g 4
noncomputable def K84.law.b1:FS:=(ifG (zU (zL neD (qF 2 GL.told.f (zG (zJ 10) (zG (zJ 12) qC))) (callW K84.Phi 8 (zG (qF 2 GL.told.f (zG (zJ 4) (zG (zJ 12) qC))) (zG (qF 2 GL.told.f (zG (zJ 5) (zG (zJ 12) qC))) qC))))) (retG (zE (.bl false))) qO)
noncomputable def K84.law.g:FS:=(qG (jM 1 (zL ixD (mkL (qN (zG (zE (.int 1)) (zG (zE (.int 1)) (zG (zE (.int 1)) (zG (zL powD (zL powD (zE (.int 10)) (zE (.int 60))) (zE (.int 2))) qC)))))) (zL xL (qF 2 GL.nth.f (zG (zJ 0) (zG (zE (.int 0)) qC))) (zE (.int 4)))))
 (qG (asgG (tupG 2 (zO (zT 2) (zO (zT 3) tgNil))) (qF 3 K84.L_small.f (zG (mkL (sliA (zJ 0) (soP (zE (.int 4))) (soP (zE (.int 7))))) (zG (qF 2 GL.nth.f (zG (zJ 0) (zG (zE (.int 1)) qC))) (zG (zJ 1) qC)))))
 (qG (jM 4 (qF 2 GP.wheel_of.f (zG (zJ 2) (zG (zJ 3) qC))))
 (qG (ifG (zU (zL eqD (zL xL (zL qY (qF 2 GL.nth.f (zG (zJ 0) (zG (zE (.int 0)) qC))) (zE (.int 4))) (zE (.int 3))) (zE (.int 0)))) (jM 1 (zL xN (zE (.int 1)) (zL yT (zL subD (zJ 2) (zE (.int 1))) (zL xL (qF 2 GL.nth.f (zG (zJ 0) (zG (zE (.int 3)) qC))) (zE (.int 2)))))) qO)
 (qG (asgG (tupG 2 (zO (zT 2) (zO (zT 3) tgNil))) (qF 3 K84.L_small.f (zG (mkL (sliA (zJ 0) (soP (zE (.int 7))) (soP (zE (.int 10))))) (zG (qF 2 GL.nth.f (zG (zJ 0) (zG (zE (.int 2)) qC))) (zG (zJ 1) qC)))))
 (qG (jM 5 (qF 2 GP.wheel_of.f (zG (zJ 2) (zG (zJ 3) qC))))
 (qG (ifG (orT (notT (testT (qF 1 GL.is_wheel.f (zG (zJ 4) qC)))) (notT (testT (qF 1 GL.is_wheel.f (zG (zJ 5) qC))))) (retG (zE (.bl false))) qO)
 (qG (jM 6 (qF 2 K84.L_common.f (zG (zL ixD (zJ 4) (zE (.int 0))) (zG (zL ixD (zJ 5) (zE (.int 0))) qC))))
 (qG (jM 7 (zL xN (qF 2 K84.L_weight.f (zG (zJ 4) (zG (zJ 6) qC))) (qF 2 K84.L_weight.f (zG (zJ 5) (zG (zJ 6) qC)))))
 (qG (jM 8 (qF 1 K84.L_way.f (zG (zL qY (qF 2 GL.nth.f (zG (zJ 0) (zG (zE (.int 3)) qC))) (zE (.int 2))) qC)))
 (qG (jM 9 (zE (.bl false)))
 (qG (jM 10 (zE .non))
 (qG (setB 11 (sO (consO (tO (consO (vO (zL ixD (zJ 4) (zE (.int 0)))) (consO (lO (lisA (zL ixD (zJ 4) (zE (.int 1))))) nilO))) (consO (tO (consO (vO (zL ixD (zJ 5) (zE (.int 0)))) (consO (lO (lisA (zL ixD (zJ 5) (zE (.int 1))))) nilO))) nilO))))
 (qG (tryNG (jM 10 (qF 3 (GP.wheel_joined.f K84.Phi) (zG (zL ixD (getN 11) (zE (.int 0))) (zG (zL ixD (getN 11) (zE (.int 1))) (zG (zJ 8) qC))))) (callX 3 K84.X_wheel_joined_10.f (zG (zL ixD (getN 11) (zE (.int 0))) (zG (zL ixD (getN 11) (zE (.int 1))) (zG (zJ 8) qC))))
 (jM 9 (zE (.bl true))))
 (qG (ifG (zU (zL neD (getN 11) (mkL (qN (zG (qW 4) (zG (qW 5) qC)))))) (retG (zE (.bl false))) qO)
 (qG (clrP 11 [0,1])
 (qG (clrP 11 [1,1])
 (qG (ifG (orT (testT (zJ 9)) (zU (zL gtD (zJ 7) (zE (.int 300))))) (retG (andV (qW 9) (zL gtD (zJ 7) (zE (.int 300))))) qO)
 (qG (ifG (orT (notT (testT (qF 1 GL.is_wheel.f (zG (zJ 10) qC)))) (zU (zL neD (zL xL (zJ 6) (zL ixD (zJ 10) (zE (.int 0)))) (zE (.int 0))))) (retG (zE (.bl false))) qO)
 (qG (ifG (andT (zU (zL gtD (zL ixD (zJ 10) (zE (.int 0))) (zE (.int 1)))) (zU (zL gtD (zL qY (zJ 6) (zL ixD (zJ 10) (zE (.int 0)))) (zL yT (zE (.int 2)) (zJ 7))))) (retG (zE (.bl false))) qO)
 (qG (forG (viaA (mkL (catA (mkL (catA (qF 2 K84.L_spots.f (zG (zJ 4) (zG (zJ 6) qC))) (qF 2 K84.L_spots.f (zG (zJ 5) (zG (zJ 6) qC))))) (qF 2 K84.L_spots.f (zG (zJ 10) (zG (zJ 6) qC))))) asLT) (zT 12) K84.law.b1)
 (retG (qF 1 GL.is_least.f (zG (zJ 10) qC))))))))))))))))))))))))
noncomputable def K84.law.f:List D->Option Ret:=runG K84.law.g 13
end
namespace K84
open PySem PyProof.Rows L2 FL
def top (i:Nat):Stmt:=PySem.Challenge.pw_spanmap_k84_wheels_joined.main.body.getD i (.Pass ⟨0,0,0,0⟩)
structure Glb (K:Frag) (mg:Str->Option Value):Prop where
 b_enumerate:mg "enumerate" = none
 b_int:mg "int" = none
 b_isinstance:mg "isinstance" = none
 b_len:mg "len" = none
 b_list:mg "list" = none
 b_max:mg "max" = none
 b_min:mg "min" = none
 b_range:mg "range" = none
 b_tuple:mg "tuple" = none
 c_MOST_SIZE:∃ t,mg "MOST_SIZE" = some (.int 300 t)
section
variable {P:Program} {w:World} {K:Frag} {mg:Str->Option Value} {base:Heap}
theorem sc_later_low:FnScope ["one","other"] ["one","other"] (zB (top 7)):=⟨rfl,rfl,rfl,by decide +kernel,rfl,by decide +kernel,by decide +kernel⟩
theorem body_later_low {f:Addr} (T:Glb K mg)  (cdv:Value) (A:Around) (outer:List Env) (s:Shared) (H:Hp) (E:XK) (hr:Room 0 (A.deeper (envOfC "later_low" (zB (top 7)) s.heap.objs.size f cdv))) :
  PSsv (cxOf CX0 P w K mg base ["one","other"] "later_low" (zB (top 7)) f cdv A outer s H E).nox (zI (top 7)) GP.later_low.g:=by
 have nd:(["one","other"]:List Str).Nodup:=sc_later_low.nd
 exact (zC (qE (xM (PVw.n (zA 0)) (PV.n qL)) (zH (zP (zA 1))) zQ)
  (zC (qE (xM (PVw.n (zA 1)) (PV.n qL)) (zH (zP (zA 0))) zQ)
  (zH (zP (PV.w (pv_max2 rfl T.b_max (qH (zA 0) (qH (zA 1) jC))))))))
theorem fok_later_low {f:Addr} {fd:FuncData} (Fn:Fun K "later_low" "later_low" (top 7) f fd) (T:Glb K mg)  : FnOk P w K mg base CX0 1 f fd ["one","other"] (spF K 2 GP.later_low.f) :=
 qR (k:=0) (F:=GP.later_low.f) (g:=GP.later_low.g) Fn sc_later_low (fun cdv A outer s H E hr=>body_later_low T  cdv A outer s H E hr) (fun ds r hl e=>zZ e)
theorem sc_earlier_behind:FnScope ["one","other"] ["one","other"] (zB (top 8)):=⟨rfl,rfl,rfl,by decide +kernel,rfl,by decide +kernel,by decide +kernel⟩
theorem body_earlier_behind {f:Addr} (T:Glb K mg)  (cdv:Value) (A:Around) (outer:List Env) (s:Shared) (H:Hp) (E:XK) (hr:Room 0 (A.deeper (envOfC "earlier_behind" (zB (top 8)) s.heap.objs.size f cdv))) :
  PSsv (cxOf CX0 P w K mg base ["one","other"] "earlier_behind" (zB (top 8)) f cdv A outer s H E).nox (zI (top 8)) GP.earlier_behind.g:=by
 have nd:(["one","other"]:List Str).Nodup:=sc_earlier_behind.nd
 exact (zC (qE (xM (PVw.n (zA 0)) (PV.n qL)) (zH (zP (zA 1))) zQ)
  (zC (qE (xM (PVw.n (zA 1)) (PV.n qL)) (zH (zP (zA 0))) zQ)
  (zH (zP (PV.w (pv_min2 rfl T.b_min (qH (zA 0) (qH (zA 1) jC))))))))
theorem fok_earlier_behind {f:Addr} {fd:FuncData} (Fn:Fun K "earlier_behind" "earlier_behind" (top 8) f fd) (T:Glb K mg)  : FnOk P w K mg base CX0 1 f fd ["one","other"] (spF K 2 GP.earlier_behind.f) :=
 qR (k:=0) (F:=GP.earlier_behind.f) (g:=GP.earlier_behind.g) Fn sc_earlier_behind (fun cdv A outer s H E hr=>body_earlier_behind T  cdv A outer s H E hr) (fun ds r hl e=>zZ e)
theorem sc_ends_ahead:FnScope ["behind","low"] ["behind","low"] (zB (top 6)):=⟨rfl,rfl,rfl,by decide +kernel,rfl,by decide +kernel,by decide +kernel⟩
theorem body_ends_ahead {f:Addr} (T:Glb K mg)  (cdv:Value) (A:Around) (outer:List Env) (s:Shared) (H:Hp) (E:XK) (hr:Room 0 (A.deeper (envOfC "ends_ahead" (zB (top 6)) s.heap.objs.size f cdv))) :
  PSsv (cxOf CX0 P w K mg base ["behind","low"] "ends_ahead" (zB (top 6)) f cdv A outer s H E).nox (zI (top 6)) GP.ends_ahead.g:=by
 have nd:(["behind","low"]:List Str).Nodup:=sc_ends_ahead.nd
 exact (zH (zP (PV.w (pv_and (pv_isnot (PVw.n (zA 0)) (PV.n qL)) (pv_and (pv_isnot (PVw.n (zA 1)) (PV.n qL)) (pv_one (pv_le (zA 0) (zA 1))))))))
theorem fok_ends_ahead {f:Addr} {fd:FuncData} (Fn:Fun K "ends_ahead" "ends_ahead" (top 6) f fd) (T:Glb K mg)  : FnOk P w K mg base CX0 1 f fd ["behind","low"] (spF K 2 GP.ends_ahead.f) :=
 qR (k:=0) (F:=GP.ends_ahead.f) (g:=GP.ends_ahead.g) Fn sc_ends_ahead (fun cdv A outer s H E hr=>body_ends_ahead T  cdv A outer s H E hr) (fun ds r hl e=>zZ e)
theorem sc_meet:FnScope ["one","other","low","behind"] ["one","other"] (zB (top 5)):=⟨rfl,rfl,rfl,by decide +kernel,rfl,by decide +kernel,by decide +kernel⟩
theorem body_meet {f:Addr} (T:Glb K mg) (C_later_low:Cal P w K mg base "later_low" 1 2 GP.later_low.f) (C_earlier_behind:Cal P w K mg base "earlier_behind" 1 2 GP.earlier_behind.f) (C_ends_ahead:Cal P w K mg base "ends_ahead" 1 2 GP.ends_ahead.f) (cdv:Value) (A:Around) (outer:List Env) (s:Shared) (H:Hp) (E:XK) (hr:Room 1 (A.deeper (envOfC "meet" (zB (top 5)) s.heap.objs.size f cdv))) :
  PSsv (cxOf CX0 P w K mg base ["one","other","low","behind"] "meet" (zB (top 5)) f cdv A outer s H E).nox (zI (top 5)) GP.meet.g:=by
 have nd:(["one","other","low","behind"]:List Str).Nodup:=sc_meet.nd
 exact (zC (zV (i:=2) nd (zM C_later_low hr (zD (PV.n (zR (zA 0) (PV.w zF))) (zD (PV.n (zR (zA 1) (PV.w zF))) zN))))
  (zC (zV (i:=3) nd (zM C_earlier_behind hr (zD (PV.n (zR (zA 0) (PV.w zF))) (zD (PV.n (zR (zA 1) (PV.w zF))) zN))))
  (zC (qE (PVn.t (PV.n (zM C_ends_ahead hr (zD (PVw.n (zA 3)) (zD (PVw.n (zA 2)) zN))))) (zH (zP (PV.w qL))) zQ)
  (zH (zP (PV.w (jR (zK (zX 2) (zK (zX 3) qB)))))))))
theorem fok_meet {f:Addr} {fd:FuncData} (Fn:Fun K "meet" "meet" (top 5) f fd) (T:Glb K mg) (C_later_low:Cal P w K mg base "later_low" 1 2 GP.later_low.f) (C_earlier_behind:Cal P w K mg base "earlier_behind" 1 2 GP.earlier_behind.f) (C_ends_ahead:Cal P w K mg base "ends_ahead" 1 2 GP.ends_ahead.f):FnOk P w K mg base CX0 2 f fd ["one","other"] (spF K 2 GP.meet.f) :=
 qR (k:=1) (F:=GP.meet.f) (g:=GP.meet.g) Fn sc_meet (fun cdv A outer s H E hr=>body_meet T C_later_low C_earlier_behind C_ends_ahead cdv A outer s H E hr) (fun ds r hl e=>zZ e)
theorem sc_knit:FnScope ["rows","pieces","low","behind","value"] ["rows"] (zB (top 10)):=⟨rfl,rfl,rfl,by decide +kernel,rfl,by decide +kernel,by decide +kernel⟩
theorem body_knit {f:Addr} (T:Glb K mg)  (cdv:Value) (A:Around) (outer:List Env) (s:Shared) (H:Hp) (E:XK) (hr:Room 0 (A.deeper (envOfC "knit" (zB (top 10)) s.heap.objs.size f cdv))) :
  PSsv (cxOf CX0 P w K mg base ["rows","pieces","low","behind","value"] "knit" (zB (top 10)) f cdv A outer s H E).nox (zI (top 10)) GP.knit.g:=by
 have nd:(["rows","pieces","low","behind","value"]:List Str).Nodup:=sc_knit.nd
 exact (zC (yD (i:=1) nd (jB qB))
  (zC (jW PassesOwn.never rfl (jP (zX 0)) (yG (n:=3) rfl (zW (zS (i:=2) nd) (zW (zS (i:=3) nd) (zW (zS (i:=4) nd) jO)))) (zC (qE (xM (PVw.n (zA 4)) (PV.n qL)) (zH psv_continue) zQ)
  (zH (qE (PWv.t (jD (PVn.t (PVw.n (zA 1))) (jD (xK hr (PV.n (zR (PV.w (zR (zA 1) (PV.w (xS zF)))) (PV.w zF))) (PVw.n (zA 2))) (jG (xK hr (PV.n (zR (PV.w (zR (zA 1) (PV.w (xS zF)))) (PV.w zF))) (PVw.n (zA 4))))))) (zH (psv_put (i:=1) (jR (zK (zR (PV.w (zR (zA 1) (PV.w (xS zF)))) (PV.w zF)) (zK (zX 3) (zK (zX 4) qB)))) (xS zF))) (zH (xB (i:=1) (jR (zK (zX 2) (zK (zX 3) (zK (zX 4) qB))))))))))
  (zH (yQ 1))))
theorem fok_knit {f:Addr} {fd:FuncData} (Fn:Fun K "knit" "knit" (top 10) f fd) (T:Glb K mg)  : FnOk P w K mg base CX0 1 f fd ["rows"] (spF K 1 GP.knit.f) :=
 qR (k:=0) (F:=GP.knit.f) (g:=GP.knit.g) Fn sc_knit (fun cdv A outer s H E hr=>body_knit T  cdv A outer s H E hr) (fun ds r hl e=>zZ e)
theorem sc_parts_in:FnScope ["pieces","within","parts","low","behind","value","common"] ["pieces","within"] (zB (top 11)):=⟨rfl,rfl,rfl,by decide +kernel,rfl,by decide +kernel,by decide +kernel⟩
theorem body_parts_in {f:Addr} (T:Glb K mg) (C_meet:Cal P w K mg base "meet" 2 2 GP.meet.f) (cdv:Value) (A:Around) (outer:List Env) (s:Shared) (H:Hp) (E:XK) (hr:Room 2 (A.deeper (envOfC "parts_in" (zB (top 11)) s.heap.objs.size f cdv))) :
  PSsv (cxOf CX0 P w K mg base ["pieces","within","parts","low","behind","value","common"] "parts_in" (zB (top 11)) f cdv A outer s H E).nox (zI (top 11)) GP.parts_in.g:=by
 have nd:(["pieces","within","parts","low","behind","value","common"]:List Str).Nodup:=sc_parts_in.nd
 exact (zC (yD (i:=2) nd (jB qB))
  (zC (jW PassesOwn.never rfl (jP (zX 0)) (yG (n:=3) rfl (zW (zS (i:=3) nd) (zW (zS (i:=4) nd) (zW (zS (i:=5) nd) jO)))) (zC (zV (i:=6) nd (zM C_meet hr (zD (PV.n (jR (zK (zX 3) (zK (zX 4) qB)))) (zD (PVw.n (zA 1)) zN))))
  (zH (qE (yB (PVw.n (zA 6)) (PV.n qL)) (zH (xB (i:=2) (jR (zK (zR (zA 6) (PV.w zF)) (zK (zR (zA 6) (PV.w zF)) (zK (zX 5) qB)))))) zQ))))
  (zH (yQ 2))))
theorem fok_parts_in {f:Addr} {fd:FuncData} (Fn:Fun K "parts_in" "parts_in" (top 11) f fd) (T:Glb K mg) (C_meet:Cal P w K mg base "meet" 2 2 GP.meet.f):FnOk P w K mg base CX0 3 f fd ["pieces","within"] (spF K 2 GP.parts_in.f) :=
 qR (k:=2) (F:=GP.parts_in.f) (g:=GP.parts_in.g) Fn sc_parts_in (fun cdv A outer s H E hr=>body_parts_in T C_meet cdv A outer s H E hr) (fun ds r hl e=>zZ e)
theorem sc_runs_of:FnScope ["pieces","runs","here","low","behind","value"] ["pieces"] (zB (top 12)):=⟨rfl,rfl,rfl,by decide +kernel,rfl,by decide +kernel,by decide +kernel⟩
theorem body_runs_of {f:Addr} (T:Glb K mg)  (cdv:Value) (A:Around) (outer:List Env) (s:Shared) (H:Hp) (E:XK) (hr:Room 0 (A.deeper (envOfC "runs_of" (zB (top 12)) s.heap.objs.size f cdv))) :
  PSsv (cxOf CX0 P w K mg base ["pieces","runs","here","low","behind","value"] "runs_of" (zB (top 12)) f cdv A outer s H E).nox (zI (top 12)) GP.runs_of.g:=by
 have nd:(["pieces","runs","here","low","behind","value"]:List Str).Nodup:=sc_runs_of.nd
 exact (zC (yD (i:=1) nd (jB qB))
  (zC (zV (i:=2) nd qL)
  (zC (jW PassesOwn.never rfl (jP (zX 0)) (yG (n:=3) rfl (zW (zS (i:=3) nd) (zW (zS (i:=4) nd) (zW (zS (i:=5) nd) jO)))) (zC (qE (vI hr (PVw.n (zA 3)) (PVw.n (zA 2))) (zH (xB (i:=1) (jR (zK (zX 2) (zK (zX 3) (zK qL qB)))))) zQ)
  (zC (xB (i:=1) (jR (zK (zX 3) (zK (zX 4) (zK (zX 5) qB)))))
  (zH (zV (i:=2) nd (zX 4))))))
  (zC (qE (PWv.t (yI (yB (PVw.n (zA 2)) (PV.n qL)) (jY (jV (PVn.t (PVw.n (zA 0))))))) (zH (xB (i:=1) (jR (zK (zX 2) (zK qL (zK qL qB)))))) zQ)
  (zH (yQ 1))))))
theorem fok_runs_of {f:Addr} {fd:FuncData} (Fn:Fun K "runs_of" "runs_of" (top 12) f fd) (T:Glb K mg)  : FnOk P w K mg base CX0 1 f fd ["pieces"] (spF K 1 GP.runs_of.f) :=
 qR (k:=0) (F:=GP.runs_of.f) (g:=GP.runs_of.g) Fn sc_runs_of (fun cdv A outer s H E hr=>body_runs_of T  cdv A outer s H E hr) (fun ds r hl e=>zZ e)
theorem sc_paired:FnScope ["one","other","runs","other_runs","rows","here","at","other_at","run","other_run","behind"] ["one","other"] (zB (top 13)):=⟨rfl,rfl,rfl,by decide +kernel,rfl,by decide +kernel,by decide +kernel⟩
theorem body_paired {f:Addr} (T:Glb K mg) (C_runs_of:Cal P w K mg base "runs_of" 1 1 GP.runs_of.f) (C_earlier_behind:Cal P w K mg base "earlier_behind" 1 2 GP.earlier_behind.f) (cdv:Value) (A:Around) (outer:List Env) (s:Shared) (H:Hp) (E:XK) (hr:Room 1 (A.deeper (envOfC "paired" (zB (top 13)) s.heap.objs.size f cdv))) :
  PSsv (cxOf CX0 P w K mg base ["one","other","runs","other_runs","rows","here","at","other_at","run","other_run","behind"] "paired" (zB (top 13)) f cdv A outer s H E).nox (zI (top 13)) GP.paired.g:=by
 have nd:(["one","other","runs","other_runs","rows","here","at","other_at","run","other_run","behind"]:List Str).Nodup:=sc_paired.nd
 exact (zC (zV (i:=2) nd (zM C_runs_of hr (zD (PVw.n (zA 0)) zN)))
  (zC (zV (i:=3) nd (zM C_runs_of hr (zD (PVw.n (zA 1)) zN)))
  (zC (yD (i:=4) nd (jB qB))
  (zC (zV (i:=5) nd qL)
  (zC (zV (i:=6) nd zF)
  (zC (zV (i:=7) nd zF)
  (zC (wX 100000 PassesOwn.never (pt_lt (zA 6) (PV.w (yO T.b_len (qH (zA 2) jC)))) (zC (zV (i:=8) nd (zR (zA 2) (zA 6)))
  (zC (zV (i:=9) nd (zR (zA 3) (zA 7)))
  (zC (zV (i:=10) nd (zM C_earlier_behind hr (zD (PV.n (zR (zA 8) (PV.w zF))) (zD (PV.n (zR (zA 9) (PV.w zF))) zN))))
  (zC (xB (i:=4) (jR (zK (zX 5) (zK (zX 10) (zK (zR (zA 8) (PV.w zF)) (zK (zR (zA 9) (PV.w zF)) qB))))))
  (zC (qE (xK hr (PV.n (zR (zA 8) (PV.w zF))) (PVw.n (zA 10))) (zH (psv_augA (i:=6) nd zF)) zQ)
  (zC (qE (xK hr (PV.n (zR (zA 9) (PV.w zF))) (PVw.n (zA 10))) (zH (psv_augA (i:=7) nd zF)) zQ)
  (zH (zV (i:=5) nd (zX 10))))))))))
  (zH (yQ 4)))))))))
theorem fok_paired {f:Addr} {fd:FuncData} (Fn:Fun K "paired" "paired" (top 13) f fd) (T:Glb K mg) (C_runs_of:Cal P w K mg base "runs_of" 1 1 GP.runs_of.f) (C_earlier_behind:Cal P w K mg base "earlier_behind" 1 2 GP.earlier_behind.f):FnOk P w K mg base CX0 2 f fd ["one","other"] (spF K 2 GP.paired.f) :=
 qR (k:=1) (F:=GP.paired.f) (g:=GP.paired.g) Fn sc_paired (fun cdv A outer s H E hr=>body_paired T C_runs_of C_earlier_behind cdv A outer s H E hr) (fun ds r hl e=>zZ e)
theorem sc_farther:FnScope ["side","far"] ["side","far"] (zB (top 16)):=⟨rfl,rfl,rfl,by decide +kernel,rfl,by decide +kernel,by decide +kernel⟩
theorem body_farther {f:Addr} (T:Glb K mg)  (cdv:Value) (A:Around) (outer:List Env) (s:Shared) (H:Hp) (E:XK) (hr:Room 0 (A.deeper (envOfC "farther" (zB (top 16)) s.heap.objs.size f cdv))) :
  PSsv (cxOf CX0 P w K mg base ["side","far"] "farther" (zB (top 16)) f cdv A outer s H E).nox (zI (top 16)) GP.farther.g:=by
 have nd:(["side","far"]:List Str).Nodup:=sc_farther.nd
 exact (zH (zP (PV.w (pv_if (xM (PVw.n (zA 0)) (PV.n qL)) qL (qV (zA 0) (zA 1))))))
theorem fok_farther {f:Addr} {fd:FuncData} (Fn:Fun K "farther" "farther" (top 16) f fd) (T:Glb K mg)  : FnOk P w K mg base CX0 1 f fd ["side","far"] (spF K 2 GP.farther.f) :=
 qR (k:=0) (F:=GP.farther.f) (g:=GP.farther.g) Fn sc_farther (fun cdv A outer s H E hr=>body_farther T  cdv A outer s H E hr) (fun ds r hl e=>zZ e)
theorem sc_shifted:FnScope ["pieces","far"] ["pieces","far"] (zB (top 15)):=⟨rfl,rfl,rfl,by decide +kernel,rfl,by decide +kernel,by decide +kernel⟩
theorem body_shifted {f:Addr} (T:Glb K mg) (C_farther:Cal P w K mg base "farther" 1 2 GP.farther.f) (cdv:Value) (A:Around) (outer:List Env) (s:Shared) (H:Hp) (E:XK) (hr:Room 1 (A.deeper (envOfC "shifted" (zB (top 15)) s.heap.objs.size f cdv))) :
  PSsv (cxOf CX0 P w K mg base ["pieces","far"] "shifted" (zB (top 15)) f cdv A outer s H E).nox (zI (top 15)) GP.shifted.g:=by
 have nd:(["pieces","far"]:List Str).Nodup:=sc_shifted.nd
 have nI0:(["low","behind","value","far"]:List Str).Nodup:=by decide +kernel
 exact (zH (wO (xF (NY:=["low","behind","value","far"]) (mp:=[none,none,none,some 1]) (jX (by kernel_rfl)) rfl (jP (zX 0)) (fun c=>(yG (n:=3) rfl (zW (zS (i:=0) nI0) (zW (zS (i:=1) nI0) (zW (zS (i:=2) nI0) jO))))) (fun c=>wH) (fun c=>(jR (zK (zM C_farther hr (zD (PVw.n (zA 0)) (zD (PVw.n (zA 3)) zN))) (zK (zM C_farther hr (zD (PVw.n (zA 1)) (zD (PVw.n (zA 3)) zN))) (zK (zX 2) qB))))))))
theorem fok_shifted {f:Addr} {fd:FuncData} (Fn:Fun K "shifted" "shifted" (top 15) f fd) (T:Glb K mg) (C_farther:Cal P w K mg base "farther" 1 2 GP.farther.f):FnOk P w K mg base CX0 2 f fd ["pieces","far"] (spF K 2 GP.shifted.f) :=
 qR (k:=1) (F:=GP.shifted.f) (g:=GP.shifted.g) Fn sc_shifted (fun cdv A outer s H E hr=>body_shifted T C_farther cdv A outer s H E hr) (fun ds r hl e=>zZ e)
theorem lamg__law_way_0 {f mc mp:Addr} (T:Glb K mg) (M:Mkr K "_law_way" 3 (top 42) f mc mp)   : LamGood P w K mg base 1 3 0 (lamS 2 K84.lam__law_way_0):=by
 refine xC (k:=0) (ps:=["_law_one","_law_other"]) (t:=⟨"_law_way"++".<locals>."++"_law_first",zY (stN 1 (zI (top 42))),.stmts (zI (stN 1 (zI (top 42)))),zB (stN 1 (zI (top 42)))⟩) ((M.tx 0).trans (by kernel_rfl)) (xA (by kernel_rfl)) rfl ?_ ?_
 · intro fd h1 h2 h3 us hl
   cases fd
   cases h1
   cases h2
   cases h3
   exact match us,hl with | [_,_],_=>rfl
 · intro f' cd cl A outer s H hr
   exact (zC (qE (xM (PVw.n (zA 0)) (PV.n qL)) (zH (zP (zA 1))) zQ)
   (zH (zP (zA 0))))
theorem lamg__law_way_1 {f mc mp:Addr} (T:Glb K mg) (M:Mkr K "_law_way" 3 (top 42) f mc mp)   : LamGood P w K mg base 1 3 1 (lamS 2 K84.lam__law_way_1):=by
 refine xC (k:=0) (ps:=["_law_one","_law_other"]) (t:=⟨"_law_way"++".<locals>."++"_law_both",zY (stN 2 (zI (top 42))),.stmts (zI (stN 2 (zI (top 42)))),zB (stN 2 (zI (top 42)))⟩) ((M.tx 1).trans (by kernel_rfl)) (xA (by kernel_rfl)) rfl ?_ ?_
 · intro fd h1 h2 h3 us hl
   cases fd
   cases h1
   cases h2
   cases h3
   exact match us,hl with | [_,_],_=>rfl
 · intro f' cd cl A outer s H hr
   exact (zC (qE (PWv.t (yI (xM (PVw.n (zA 0)) (PV.n qL)) (jY (xM (PVw.n (zA 1)) (PV.n qL))))) (zH (zP (PV.w qL))) zQ)
   (zH (zP (PV.w (qV (zA 0) (PV.w (jQ (zA 2) (zA 1))))))))
theorem lamg__law_way_2 {f mc mp:Addr} (T:Glb K mg) (M:Mkr K "_law_way" 3 (top 42) f mc mp)   : LamGood P w K mg base 1 3 2 (lamS 2 K84.lam__law_way_2):=by
 refine xC (k:=0) (ps:=["_law_one","_law_other"]) (t:=⟨"_law_way"++".<locals>."++"_law_whether",zY (stN 3 (zI (top 42))),.stmts (zI (stN 3 (zI (top 42)))),zB (stN 3 (zI (top 42)))⟩) ((M.tx 2).trans (by kernel_rfl)) (xA (by kernel_rfl)) rfl ?_ ?_
 · intro fd h1 h2 h3 us hl
   cases fd
   cases h1
   cases h2
   cases h3
   exact match us,hl with | [_,_],_=>rfl
 · intro f' cd cl A outer s H hr
   exact (zH (zP (PV.w (pv_int1 T.b_int (qH (PV.w (pv_eq hr (PVw.n (zA 0)) (PVw.n (zA 1)))) jC)))))
theorem lamg__law_way_3 {f mc mp:Addr} (T:Glb K mg) (M:Mkr K "_law_way" 3 (top 42) f mc mp)   : LamGood P w K mg base 1 3 3 (lamS 2 K84.lam__law_way_3):=by
 refine xC (k:=0) (ps:=["_law_one","_law_other"]) (t:=⟨"_law_way"++".<locals>."++"_law_alone",zY (stN 4 (zI (top 42))),.stmts (zI (stN 4 (zI (top 42)))),zB (stN 4 (zI (top 42)))⟩) ((M.tx 3).trans (by kernel_rfl)) (xA (by kernel_rfl)) rfl ?_ ?_
 · intro fd h1 h2 h3 us hl
   cases fd
   cases h1
   cases h2
   cases h3
   exact match us,hl with | [_,_],_=>rfl
 · intro f' cd cl A outer s H hr
   exact (zC (qE (PWv.t (yI (xM (PVw.n (zA 0)) (PV.n qL)) (jY (yB (PVw.n (zA 1)) (PV.n qL))))) (zH (zP (PV.w qL))) zQ)
   (zH (zP (zA 0))))
theorem lamg__law_way_4 {f mc mp:Addr} (T:Glb K mg) (M:Mkr K "_law_way" 3 (top 42) f mc mp)   : LamGood P w K mg base 1 3 4 (lamS 2 K84.lam__law_way_4):=by
 refine xC (k:=0) (ps:=["_law_one","_law_other"]) (t:=⟨"_law_way"++".<locals>."++"_law_filled",zY (stN 5 (zI (top 42))),.stmts (zI (stN 5 (zI (top 42)))),zB (stN 5 (zI (top 42)))⟩) ((M.tx 4).trans (by kernel_rfl)) (xA (by kernel_rfl)) rfl ?_ ?_
 · intro fd h1 h2 h3 us hl
   cases fd
   cases h1
   cases h2
   cases h3
   exact match us,hl with | [_,_],_=>rfl
 · intro f' cd cl A outer s H hr
   exact (zC (qE (xM (PVw.n (zA 0)) (PV.n qL)) (zH (zP (zA 2))) zQ)
   (zH (zP (PV.w (jA (zA 0) (PV.w zF))))))
theorem clo_ok (T:Glb K mg)  {f__law_way mc__law_way mp__law_way:Addr} (M__law_way:Mkr K "_law_way" 3 (top 42) f__law_way mc__law_way mp__law_way)  : CloOk P w K mg base 1 K84.Phi:=by
 refine clo_of (fun p hp=>?_) fun p hp hm=>?_
 · rcases List.mem_cons.mp hp with rfl | hp
   · exact (lamg__law_way_0 T M__law_way  )
   rcases List.mem_cons.mp hp with rfl | hp
   · exact (lamg__law_way_1 T M__law_way  )
   rcases List.mem_cons.mp hp with rfl | hp
   · exact (lamg__law_way_2 T M__law_way  )
   rcases List.mem_cons.mp hp with rfl | hp
   · exact (lamg__law_way_3 T M__law_way  )
   rcases List.mem_cons.mp hp with rfl | hp
   · exact (lamg__law_way_4 T M__law_way  )
   cases hp
 · rcases List.mem_cons.mp hp with rfl | hp
   · exact absurd (show (3:Nat)=1000 from hm) (by decide)
   rcases List.mem_cons.mp hp with rfl | hp
   · exact absurd (show (3:Nat)=1000 from hm) (by decide)
   rcases List.mem_cons.mp hp with rfl | hp
   · exact absurd (show (3:Nat)=1000 from hm) (by decide)
   rcases List.mem_cons.mp hp with rfl | hp
   · exact absurd (show (3:Nat)=1000 from hm) (by decide)
   rcases List.mem_cons.mp hp with rfl | hp
   · exact absurd (show (3:Nat)=1000 from hm) (by decide)
   cases hp
theorem sc_joined:FnScope ["one","other","way","rows"] ["one","other","way"] (zB (top 18)):=⟨rfl,rfl,rfl,by decide +kernel,rfl,by decide +kernel,by decide +kernel⟩
theorem body_joined {f:Addr} (T:Glb K mg) (C_paired:Cal P w K mg base "paired" 2 2 GP.paired.f) (C_knit:Cal P w K mg base "knit" 1 1 GP.knit.f) (CO:CloOk P w K mg base 1 K84.Phi) (cdv:Value) (A:Around) (outer:List Env) (s:Shared) (H:Hp) (E:XK) (hr:Room 2 (A.deeper (envOfC "joined" (zB (top 18)) s.heap.objs.size f cdv))) :
  PSsv (cxOf CX0 P w K mg base ["one","other","way","rows"] "joined" (zB (top 18)) f cdv A outer s H E).nox (zI (top 18)) (GP.joined.g K84.Phi):=by
 have nd:(["one","other","way","rows"]:List Str).Nodup:=sc_joined.nd
 have nI0:(["low","behind","value","other_value","way"]:List Str).Nodup:=by decide +kernel
 exact (zC (zV (i:=3) nd (zM C_paired hr (zD (PVw.n (zA 0)) (zD (PVw.n (zA 1)) zN))))
  (zH (wO (xY C_knit hr (zD (PV.n (PVf.s (xF (NY:=["low","behind","value","other_value","way"]) (mp:=[none,none,none,none,some 2]) (jX (by kernel_rfl)) rfl (jP (zX 3)) (fun c=>(yG (n:=4) rfl (zW (zS (i:=0) nI0) (zW (zS (i:=1) nI0) (zW (zS (i:=2) nI0) (zW (zS (i:=3) nI0) jO)))))) (fun c=>wH) (fun c=>(jR (zK (zX 0) (zK (zX 1) (zK (pv_callW (i:=4) CO hr (zD (PVw.n (zA 2)) (zD (PVw.n (zA 3)) zN))) qB)))))))) zN)))))
theorem fok_joined {f:Addr} {fd:FuncData} (Fn:Fun K "joined" "joined" (top 18) f fd) (T:Glb K mg) (C_paired:Cal P w K mg base "paired" 2 2 GP.paired.f) (C_knit:Cal P w K mg base "knit" 1 1 GP.knit.f) (CO:CloOk P w K mg base 1 K84.Phi):FnOk P w K mg base CX0 3 f fd ["one","other","way"] (spF K 3 (GP.joined.f K84.Phi)) :=
 qR (k:=2) (F:=(GP.joined.f K84.Phi)) (g:=(GP.joined.g K84.Phi)) Fn sc_joined (fun cdv A outer s H E hr=>body_joined T C_paired C_knit CO cdv A outer s H E hr) (fun ds r hl e=>zZ e)
theorem sc_change_by:FnScope ["turn","changes","number","change"] ["turn","changes","number"] (zB (top 22)):=⟨rfl,rfl,rfl,by decide +kernel,rfl,by decide +kernel,by decide +kernel⟩
theorem body_change_by {f:Addr} (T:Glb K mg)  (cdv:Value) (A:Around) (outer:List Env) (s:Shared) (H:Hp) (E:XK) (hr:Room 0 (A.deeper (envOfC "change_by" (zB (top 22)) s.heap.objs.size f cdv))) :
  PSsv (cxOf CX0 P w K mg base ["turn","changes","number","change"] "change_by" (zB (top 22)) f cdv A outer s H E).nox (zI (top 22)) GP.change_by.g:=by
 have nd:(["turn","changes","number","change"]:List Str).Nodup:=sc_change_by.nd
 exact (zC (qE (jV (PVn.t (PVw.n (zA 1)))) (zH (zP (PV.w qL))) zQ)
  (zC (zV (i:=3) nd (zR (zA 1) (PV.w (jA (zA 2) (PV.w (yO T.b_len (qH (zA 1) jC)))))))
  (zH (zP (PV.w (jR (zK (qV (PV.w (zR (zA 3) (PV.w zF))) (PV.w (jQ (PV.w (qU (zA 2) (PV.w (yO T.b_len (qH (zA 1) jC))))) (zA 0)))) (zK (zR (zA 3) (PV.w zF)) qB))))))))
theorem fok_change_by {f:Addr} {fd:FuncData} (Fn:Fun K "change_by" "change_by" (top 22) f fd) (T:Glb K mg)  : FnOk P w K mg base CX0 1 f fd ["turn","changes","number"] (spF K 3 GP.change_by.f) :=
 qR (k:=0) (F:=GP.change_by.f) (g:=GP.change_by.g) Fn sc_change_by (fun cdv A outer s H E hr=>body_change_by T  cdv A outer s H E hr) (fun ds r hl e=>zZ e)
theorem sc_comes_again:FnScope ["turn","changes","times","many","far","number","change"] ["turn","changes","times"] (zB (top 24)):=⟨rfl,rfl,rfl,by decide +kernel,rfl,by decide +kernel,by decide +kernel⟩
theorem body_comes_again {f:Addr} (T:Glb K mg) (C_change_by:Cal P w K mg base "change_by" 1 3 GP.change_by.f) (cdv:Value) (A:Around) (outer:List Env) (s:Shared) (H:Hp) (E:XK) (hr:Room 1 (A.deeper (envOfC "comes_again" (zB (top 24)) s.heap.objs.size f cdv))) :
  PSsv (cxOf CX0 P w K mg base ["turn","changes","times","many","far","number","change"] "comes_again" (zB (top 24)) f cdv A outer s H E).nox (zI (top 24)) GP.comes_again.g:=by
 have nd:(["turn","changes","times","many","far","number","change"]:List Str).Nodup:=sc_comes_again.nd
 exact (zC (zV (i:=3) nd (qU (PV.w (yO T.b_len (qH (zA 1) jC))) (zA 2)))
  (zC (zV (i:=4) nd (qU (zA 0) (zA 2)))
  (zC (jW PassesOwn.never rfl (piv_enum T.b_enumerate (zX 1)) (yG (n:=2) rfl (zW (zS (i:=5) nd) (zW (zS (i:=6) nd) jO))) (zH (qE (vI hr (PV.n (zM C_change_by hr (zD (PVw.n (zA 0)) (zD (PVw.n (zA 1)) (zD (PV.n (qV (zA 5) (zA 3))) zN))))) (PV.n (jR (zK (qV (PV.w (zR (zA 6) (PV.w zF))) (zA 4)) (zK (zR (zA 6) (PV.w zF)) qB))))) (zH (zP (PV.w jT))) zQ)))
  (zH (zP (PV.w jT))))))
theorem fok_comes_again {f:Addr} {fd:FuncData} (Fn:Fun K "comes_again" "comes_again" (top 24) f fd) (T:Glb K mg) (C_change_by:Cal P w K mg base "change_by" 1 3 GP.change_by.f):FnOk P w K mg base CX0 2 f fd ["turn","changes","times"] (spF K 3 GP.comes_again.f) :=
 qR (k:=1) (F:=GP.comes_again.f) (g:=GP.comes_again.g) Fn sc_comes_again (fun cdv A outer s H E hr=>body_comes_again T C_change_by cdv A outer s H E hr) (fun ds r hl e=>zZ e)
theorem sc_times_on:FnScope ["turn","changes","times"] ["turn","changes"] (zB (top 23)):=⟨rfl,rfl,rfl,by decide +kernel,rfl,by decide +kernel,by decide +kernel⟩
theorem body_times_on {f:Addr} (T:Glb K mg) (C_comes_again:Cal P w K mg base "comes_again" 2 3 GP.comes_again.f) (cdv:Value) (A:Around) (outer:List Env) (s:Shared) (H:Hp) (E:XK) (hr:Room 2 (A.deeper (envOfC "times_on" (zB (top 23)) s.heap.objs.size f cdv))) :
  PSsv (cxOf CX0 P w K mg base ["turn","changes","times"] "times_on" (zB (top 23)) f cdv A outer s H E).nox (zI (top 23)) GP.times_on.g:=by
 have nd:(["turn","changes","times"]:List Str).Nodup:=sc_times_on.nd
 exact (zC (qE (jV (PVn.t (PVw.n (zA 1)))) (zH (zP (zA 0))) zQ)
  (zC (jW PassesOwn.never rfl (piv_rangeB T.b_range (PV.w (yO T.b_len (qH (zA 1) jC))) (PV.w zF) (PV.w (xS zF))) (zS (i:=2) nd) (zH (qE (PWv.t (jD (xK hr (PV.n (jA (PV.w (yO T.b_len (qH (zA 1) jC))) (zA 2))) (PV.n zF)) (jD (xK hr (PV.n (jA (zA 0) (zA 2))) (PV.n zF)) (jG (PVn.t (PV.n (zM C_comes_again hr (zD (PVw.n (zA 0)) (zD (PVw.n (zA 1)) (zD (PVw.n (zA 2)) zN)))))))))) (zH (zP (zA 2))) zQ)))
  (zH (zP (PV.w zF)))))
theorem fok_times_on {f:Addr} {fd:FuncData} (Fn:Fun K "times_on" "times_on" (top 23) f fd) (T:Glb K mg) (C_comes_again:Cal P w K mg base "comes_again" 2 3 GP.comes_again.f):FnOk P w K mg base CX0 3 f fd ["turn","changes"] (spF K 2 GP.times_on.f) :=
 qR (k:=2) (F:=GP.times_on.f) (g:=GP.times_on.g) Fn sc_times_on (fun cdv A outer s H E hr=>body_times_on T C_comes_again cdv A outer s H E hr) (fun ds r hl e=>zZ e)
theorem sc_changes_on:FnScope ["turn","pieces","runs","changes"] ["turn","pieces"] (zB (top 21)):=⟨rfl,rfl,rfl,by decide +kernel,rfl,by decide +kernel,by decide +kernel⟩
theorem body_changes_on {f:Addr} (T:Glb K mg) (C_parts_in:Cal P w K mg base "parts_in" 3 2 GP.parts_in.f) (C_runs_of:Cal P w K mg base "runs_of" 1 1 GP.runs_of.f) (cdv:Value) (A:Around) (outer:List Env) (s:Shared) (H:Hp) (E:XK) (hr:Room 3 (A.deeper (envOfC "changes_on" (zB (top 21)) s.heap.objs.size f cdv))) :
  PSsv (cxOf CX0 P w K mg base ["turn","pieces","runs","changes"] "changes_on" (zB (top 21)) f cdv A outer s H E).nox (zI (top 21)) GP.changes_on.g:=by
 have nd:(["turn","pieces","runs","changes"]:List Str).Nodup:=sc_changes_on.nd
 have nI0:(["low","behind","value"]:List Str).Nodup:=by decide +kernel
 exact (zC (zV (i:=2) nd (zM C_parts_in hr (zD (PV.n (zM C_runs_of hr (zD (PVw.n (zA 1)) zN))) (zD (PV.n (jR (zK zF (zK (zX 0) qB)))) zN))))
  (zC (psv_comp (i:=3) nd (NY:=["low","behind","value"]) (mp:=[none,none,none]) (jX (by kernel_rfl)) rfl (jP (PVf.s (xT (zA 2) (vG (PV.w zF)) pov_no))) (fun c=>(yG (n:=3) rfl (zW (zS (i:=0) nI0) (zW (zS (i:=1) nI0) (zW (zS (i:=2) nI0) jO))))) (fun c=>wH) (fun c=>(jR (zK (zX 0) (zK (zX 2) qB)))))
  (zC (qE (vI hr (PV.n (zR (PV.w (zR (zA 2) (PV.w zF))) (PV.w zF))) (PV.n (zR (PV.w (zR (zA 2) (PV.w (xS zF)))) (PV.w zF)))) (zH (xB (i:=3) (jR (zK (zX 0) (zK (zR (PV.w (zR (zA 2) (PV.w zF))) (PV.w zF)) qB))))) zQ)
  (zH (yQ 3)))))
theorem fok_changes_on {f:Addr} {fd:FuncData} (Fn:Fun K "changes_on" "changes_on" (top 21) f fd) (T:Glb K mg) (C_parts_in:Cal P w K mg base "parts_in" 3 2 GP.parts_in.f) (C_runs_of:Cal P w K mg base "runs_of" 1 1 GP.runs_of.f):FnOk P w K mg base CX0 4 f fd ["turn","pieces"] (spF K 2 GP.changes_on.f) :=
 qR (k:=3) (F:=GP.changes_on.f) (g:=GP.changes_on.g) Fn sc_changes_on (fun cdv A outer s H E hr=>body_changes_on T C_parts_in C_runs_of cdv A outer s H E hr) (fun ds r hl e=>zZ e)
theorem sc_wheel_of:FnScope ["turn","pieces","least"] ["turn","pieces"] (zB (top 20)):=⟨rfl,rfl,rfl,by decide +kernel,rfl,by decide +kernel,by decide +kernel⟩
theorem body_wheel_of {f:Addr} (T:Glb K mg) (C_times_on:Cal P w K mg base "times_on" 3 2 GP.times_on.f) (C_parts_in:Cal P w K mg base "parts_in" 3 2 GP.parts_in.f) (C_changes_on:Cal P w K mg base "changes_on" 4 2 GP.changes_on.f) (cdv:Value) (A:Around) (outer:List Env) (s:Shared) (H:Hp) (E:XK) (hr:Room 4 (A.deeper (envOfC "wheel_of" (zB (top 20)) s.heap.objs.size f cdv))) :
  PSsv (cxOf CX0 P w K mg base ["turn","pieces","least"] "wheel_of" (zB (top 20)) f cdv A outer s H E).nox (zI (top 20)) GP.wheel_of.g:=by
 have nd:(["turn","pieces","least"]:List Str).Nodup:=sc_wheel_of.nd
 exact (zC (qE (pt_lt (zA 0) (PV.w zF)) (zH psv_never) zQ)
  (zC (zV (i:=2) nd (qU (zA 0) (PV.w (zM C_times_on hr (zD (PVw.n (zA 0)) (zD (PV.n (zM C_changes_on hr (zD (PVw.n (zA 0)) (zD (PVw.n (zA 1)) zN)))) zN))))))
  (zH (psv_retE (pve_tup (wR (PVd.e (PV.d (zX 2))) (wR (PVd.e (PVf.d (xY C_parts_in hr (zD (PVw.n (zA 1)) (zD (PV.n (jR (zK zF (zK (zX 2) qB)))) zN))))) pae_nil)))))))
theorem fok_wheel_of {f:Addr} {fd:FuncData} (Fn:Fun K "wheel_of" "wheel_of" (top 20) f fd) (T:Glb K mg) (C_times_on:Cal P w K mg base "times_on" 3 2 GP.times_on.f) (C_parts_in:Cal P w K mg base "parts_in" 3 2 GP.parts_in.f) (C_changes_on:Cal P w K mg base "changes_on" 4 2 GP.changes_on.f):FnOk P w K mg base CX0 5 f fd ["turn","pieces"] (spF K 2 GP.wheel_of.f) :=
 qR (k:=4) (F:=GP.wheel_of.f) (g:=GP.wheel_of.g) Fn sc_wheel_of (fun cdv A outer s H E hr=>body_wheel_of T C_times_on C_parts_in C_changes_on cdv A outer s H E hr) (fun ds r hl e=>zZ e)
theorem sc_least_multiple:FnScope ["one","other","divisor","rest","more"] ["one","other"] (zB (top 30)):=⟨rfl,rfl,rfl,by decide +kernel,rfl,by decide +kernel,by decide +kernel⟩
theorem body_least_multiple {f:Addr} (T:Glb K mg)  (cdv:Value) (A:Around) (outer:List Env) (s:Shared) (H:Hp) (E:XK) (hr:Room 0 (A.deeper (envOfC "least_multiple" (zB (top 30)) s.heap.objs.size f cdv))) :
  PSsv (cxOf CX0 P w K mg base ["one","other","divisor","rest","more"] "least_multiple" (zB (top 30)) f cdv A outer s H E).nox (zI (top 30)) GP.least_multiple.g:=by
 have nd:(["one","other","divisor","rest","more"]:List Str).Nodup:=sc_least_multiple.nd
 exact (zC (zV (i:=2) nd (zX 0))
  (zC (zV (i:=3) nd (zX 1))
  (zC (wX 100000 PassesOwn.never (kB (zA 3) (PV.w zF)) (zC (zV (i:=4) nd (jA (zA 2) (zA 3)))
  (zC (zV (i:=2) nd (zX 3))
  (zH (zV (i:=3) nd (zX 4))))))
  (zH (zP (PV.w (jQ (PV.w (qU (zA 0) (zA 2))) (zA 1))))))))
theorem fok_least_multiple {f:Addr} {fd:FuncData} (Fn:Fun K "least_multiple" "least_multiple" (top 30) f fd) (T:Glb K mg)  : FnOk P w K mg base CX0 1 f fd ["one","other"] (spF K 2 GP.least_multiple.f) :=
 qR (k:=0) (F:=GP.least_multiple.f) (g:=GP.least_multiple.g) Fn sc_least_multiple (fun cdv A outer s H E hr=>body_least_multiple T  cdv A outer s H E hr) (fun ds r hl e=>zZ e)
theorem sc_size_of:FnScope ["wheel","turns"] ["wheel","turns"] (zB (top 28)):=⟨rfl,rfl,rfl,by decide +kernel,rfl,by decide +kernel,by decide +kernel⟩
theorem body_size_of {f:Addr} (T:Glb K mg)  (cdv:Value) (A:Around) (outer:List Env) (s:Shared) (H:Hp) (E:XK) (hr:Room 0 (A.deeper (envOfC "size_of" (zB (top 28)) s.heap.objs.size f cdv))) :
  PSsv (cxOf CX0 P w K mg base ["wheel","turns"] "size_of" (zB (top 28)) f cdv A outer s H E).nox (zI (top 28)) GP.size_of.g:=by
 have nd:(["wheel","turns"]:List Str).Nodup:=sc_size_of.nd
 exact (zH (zP (PV.w (pv_if (xK hr (PV.n (zR (zA 0) (PV.w zF))) (PV.n zF)) zF (jQ (zA 1) (PV.w (qV (PV.w (yO T.b_len (qH (PV.w (zR (zA 0) (PV.w zF))) jC))) (PV.w zF))))))))
theorem fok_size_of {f:Addr} {fd:FuncData} (Fn:Fun K "size_of" "size_of" (top 28) f fd) (T:Glb K mg)  : FnOk P w K mg base CX0 1 f fd ["wheel","turns"] (spF K 2 GP.size_of.f) :=
 qR (k:=0) (F:=GP.size_of.f) (g:=GP.size_of.g) Fn sc_size_of (fun cdv A outer s H E hr=>body_size_of T  cdv A outer s H E hr) (fun ds r hl e=>zZ e)
theorem sc_rolled_out:FnScope ["wheel","over","turn","rows","number"] ["wheel","over"] (zB (top 29)):=⟨rfl,rfl,rfl,by decide +kernel,rfl,by decide +kernel,by decide +kernel⟩
theorem body_rolled_out {f:Addr} (T:Glb K mg) (C_parts_in:Cal P w K mg base "parts_in" 3 2 GP.parts_in.f) (C_knit:Cal P w K mg base "knit" 1 1 GP.knit.f) (C_shifted:Cal P w K mg base "shifted" 2 2 GP.shifted.f) (cdv:Value) (A:Around) (outer:List Env) (s:Shared) (H:Hp) (E:XK) (hr:Room 3 (A.deeper (envOfC "rolled_out" (zB (top 29)) s.heap.objs.size f cdv))) :
  PSsv (cxOf CX0 P w K mg base ["wheel","over","turn","rows","number"] "rolled_out" (zB (top 29)) f cdv A outer s H E).nox (zI (top 29)) GP.rolled_out.g:=by
 have nd:(["wheel","over","turn","rows","number"]:List Str).Nodup:=sc_rolled_out.nd
 have nI0:(["low","behind","value","over"]:List Str).Nodup:=by decide +kernel
 exact (zC (zV (i:=2) nd (zR (zA 0) (PV.w zF)))
  (zC (qE (xK hr (PVw.n (zA 2)) (PV.n zF)) (zH (wO (xF (NY:=["low","behind","value","over"]) (mp:=[none,none,none,some 1]) (jX (by kernel_rfl)) rfl (jP (zR (zA 0) (PV.w zF))) (fun c=>(yG (n:=3) rfl (zW (zS (i:=0) nI0) (zW (zS (i:=1) nI0) (zW (zS (i:=2) nI0) jO))))) (fun c=>wH) (fun c=>(jR (zK (zR (zA 3) (PV.w zF)) (zK (zR (zA 3) (PV.w zF)) (zK (zX 2) qB)))))))) zQ)
  (zC (yD (i:=3) nd (jB qB))
  (zC (jW PassesOwn.never rfl (piv_rangeL T.b_range (PV.w (qU (PV.w (zR (zA 1) (PV.w zF))) (zA 2))) (PV.w (qV (PV.w (qU (PV.w (vC (PV.w (zR (zA 1) (PV.w zF))) (PV.w zF))) (zA 2))) (PV.w zF)))) (zS (i:=4) nd) (zH (psv_ext (i:=3) (xY C_shifted hr (zD (PV.n (zR (zA 0) (PV.w zF))) (zD (PV.n (jQ (zA 4) (zA 2))) zN))))))
  (zH (wO (xY C_parts_in hr (zD (PV.n (zM C_knit hr (zD (PVw.n (zA 3)) zN))) (zD (PVw.n (zA 1)) zN)))))))))
theorem fok_rolled_out {f:Addr} {fd:FuncData} (Fn:Fun K "rolled_out" "rolled_out" (top 29) f fd) (T:Glb K mg) (C_parts_in:Cal P w K mg base "parts_in" 3 2 GP.parts_in.f) (C_knit:Cal P w K mg base "knit" 1 1 GP.knit.f) (C_shifted:Cal P w K mg base "shifted" 2 2 GP.shifted.f):FnOk P w K mg base CX0 4 f fd ["wheel","over"] (spF K 2 GP.rolled_out.f) :=
 qR (k:=3) (F:=GP.rolled_out.f) (g:=GP.rolled_out.g) Fn sc_rolled_out (fun cdv A outer s H E hr=>body_rolled_out T C_parts_in C_knit C_shifted cdv A outer s H E hr) (fun ds r hl e=>zZ e)
theorem sc_wheel_joined:FnScope ["one","other","way","most","over"] ["one","other","way"] (zB (top 27)):=⟨rfl,rfl,rfl,by decide +kernel,rfl,by decide +kernel,by decide +kernel⟩
theorem body_wheel_joined {f:Addr} (T:Glb K mg) (C_least_multiple:Cal P w K mg base "least_multiple" 1 2 GP.least_multiple.f) (C_wheel_of:Cal P w K mg base "wheel_of" 5 2 GP.wheel_of.f) (C_joined:Cal P w K mg base "joined" 3 3 (GP.joined.f K84.Phi)) (C_size_of:Cal P w K mg base "size_of" 1 2 GP.size_of.f) (C_rolled_out:Cal P w K mg base "rolled_out" 4 2 GP.rolled_out.f) (cdv:Value) (A:Around) (outer:List Env) (s:Shared) (H:Hp) (E:XK) (hr:Room 5 (A.deeper (envOfC "wheel_joined" (zB (top 27)) s.heap.objs.size f cdv))) :
  PSsv (cxOf CX0 P w K mg base ["one","other","way","most","over"] "wheel_joined" (zB (top 27)) f cdv A outer s H E).nox (zI (top 27)) (GP.wheel_joined.g K84.Phi):=by
 have nd:(["one","other","way","most","over"]:List Str).Nodup:=sc_wheel_joined.nd
 exact (zC (zV (i:=3) nd (zM C_least_multiple hr (zD (PV.n (zR (zA 0) (PV.w zF))) (zD (PV.n (zR (zA 1) (PV.w zF))) zN))))
  (zC (qE (kB (PV.w (qV (PV.w (zM C_size_of hr (zD (PVw.n (zA 0)) (zD (PV.n (qU (zA 3) (PV.w (zR (zA 0) (PV.w zF))))) zN)))) (PV.w (zM C_size_of hr (zD (PVw.n (zA 1)) (zD (PV.n (qU (zA 3) (PV.w (zR (zA 1) (PV.w zF))))) zN)))))) (PV.w (pv_globI T.c_MOST_SIZE))) (zH psv_never) zQ)
  (zC (zV (i:=4) nd (jR (zK zF (zK (zX 3) qB))))
  (zH (psv_retD (pvd_callC C_wheel_of hr (zD (PVw.n (zA 3)) (zD (PV.n (zM C_joined hr (zD (PV.n (zM C_rolled_out hr (zD (PVw.n (zA 0)) (zD (PVw.n (zA 4)) zN)))) (zD (PV.n (zM C_rolled_out hr (zD (PVw.n (zA 1)) (zD (PVw.n (zA 4)) zN)))) (zD (PVw.n (zA 2)) zN))))) zN))))))))
theorem fok_wheel_joined {f:Addr} {fd:FuncData} (Fn:Fun K "wheel_joined" "wheel_joined" (top 27) f fd) (T:Glb K mg) (C_least_multiple:Cal P w K mg base "least_multiple" 1 2 GP.least_multiple.f) (C_wheel_of:Cal P w K mg base "wheel_of" 5 2 GP.wheel_of.f) (C_joined:Cal P w K mg base "joined" 3 3 (GP.joined.f K84.Phi)) (C_size_of:Cal P w K mg base "size_of" 1 2 GP.size_of.f) (C_rolled_out:Cal P w K mg base "rolled_out" 4 2 GP.rolled_out.f):FnOk P w K mg base CX0 6 f fd ["one","other","way"] (spF K 3 (GP.wheel_joined.f K84.Phi)) :=
 qR (k:=5) (F:=(GP.wheel_joined.f K84.Phi)) (g:=(GP.wheel_joined.g K84.Phi)) Fn sc_wheel_joined (fun cdv A outer s H E hr=>body_wheel_joined T C_least_multiple C_wheel_of C_joined C_size_of C_rolled_out cdv A outer s H E hr) (fun ds r hl e=>zZ e)
theorem body_wheel_joined_10 {f XC:Addr} (T:Glb K mg) (C_least_multiple:Cal P w K mg base "least_multiple" 1 2 GP.least_multiple.f) (C_wheel_of:Cal P w K mg base "wheel_of" 5 2 GP.wheel_of.f) (C_joined:Cal P w K mg base "joined" 3 3 (GP.joined.f K84.Phi)) (C_size_of:Cal P w K mg base "size_of" 1 2 GP.size_of.f) (C_rolled_out:Cal P w K mg base "rolled_out" 4 2 GP.rolled_out.f) (R:XR K mg 10 XC) (cdv:Value) (A:Around) (outer:List Env) (s:Shared) (H:Hp) (E:XK) (hr:Room 5 (A.deeper (envOfC "wheel_joined" (zB (top 27)) s.heap.objs.size f cdv))) :
  PSsy (cxOf (CXM P w) P w K mg base ["one","other","way","most","over"] "wheel_joined" (zB (top 27)) f cdv A outer s H E) E XC (zI (top 27)) K84.X_wheel_joined_10.x:=by
 have nd:(["one","other","way","most","over"]:List Str).Nodup:=sc_wheel_joined.nd
 exact (pssy_tail (zV (i:=3) nd (zM C_least_multiple hr (zD (PV.n (zR (zA 0) (PV.w zF))) (zD (PV.n (zR (zA 1) (PV.w zF))) zN))))
  (pssy_head (psy_if (kB (PV.w (qV (PV.w (zM C_size_of hr (zD (PVw.n (zA 0)) (zD (PV.n (qU (zA 3) (PV.w (zR (zA 0) (PV.w zF))))) zN)))) (PV.w (zM C_size_of hr (zD (PVw.n (zA 1)) (zD (PV.n (qU (zA 3) (PV.w (zR (zA 1) (PV.w zF))))) zN)))))) (PV.w (pv_globI T.c_MOST_SIZE))) (pssy_head (PSx.y (psx_raise R.cls R.gl))
  pss_any) (pssy_never pss_any))
  pss_any))
theorem fokx_wheel_joined_10 {f XC:Addr} {fd:FuncData} (Fn:Fun K "wheel_joined" "wheel_joined" (top 27) f fd) (T:Glb K mg) (C_least_multiple:Cal P w K mg base "least_multiple" 1 2 GP.least_multiple.f) (C_wheel_of:Cal P w K mg base "wheel_of" 5 2 GP.wheel_of.f) (C_joined:Cal P w K mg base "joined" 3 3 (GP.joined.f K84.Phi)) (C_size_of:Cal P w K mg base "size_of" 1 2 GP.size_of.f) (C_rolled_out:Cal P w K mg base "rolled_out" 4 2 GP.rolled_out.f) (R:XR K mg 10 XC):FnOk P w K mg base (CXM P w) 6 f fd ["one","other","way"] (spX K 3 K84.X_wheel_joined_10.f XC) :=
 fun_okY (k:=5) (g:=K84.X_wheel_joined_10.x) Fn sc_wheel_joined (fun cdv A outer s H E hr=>body_wheel_joined_10 T C_least_multiple C_wheel_of C_joined C_size_of C_rolled_out R cdv A outer s H E hr) (fun ds hl e=>e)
theorem sc__law_nth:FnScope ["_law_script","_law_k","_law_cells"] ["_law_script","_law_k"] (zB (top 32)):=⟨rfl,rfl,rfl,by decide +kernel,rfl,by decide +kernel,by decide +kernel⟩
theorem body__law_nth {f:Addr} (T:Glb K mg)  (cdv:Value) (A:Around) (outer:List Env) (s:Shared) (H:Hp) (E:XK) (hr:Room 0 (A.deeper (envOfC "_law_nth" (zB (top 32)) s.heap.objs.size f cdv))) :
  PSsv (cxOf CX0 P w K mg base ["_law_script","_law_k","_law_cells"] "_law_nth" (zB (top 32)) f cdv A outer s H E).nox (zI (top 32)) GL.nth.g:=by
 have nd:(["_law_script","_law_k","_law_cells"]:List Str).Nodup:=sc__law_nth.nd
 exact (zC (zV (i:=2) nd (PVf.s (yW (PV.w (PVf.s (xT (zA 0) (vG (zA 1)) (vG (PV.w (qV (zA 1) (PV.w zF))))))) (PV.w (PVf.s (jB (zK zF qB)))))))
  (zH (zP (PV.w (zR (zA 2) (PV.w zF))))))
theorem fok__law_nth {f:Addr} {fd:FuncData} (Fn:Fun K "_law_nth" "_law_nth" (top 32) f fd) (T:Glb K mg)  : FnOk P w K mg base CX0 1 f fd ["_law_script","_law_k"] (spF K 2 GL.nth.f) :=
 qR (k:=0) (F:=GL.nth.f) (g:=GL.nth.g) Fn sc__law_nth (fun cdv A outer s H E hr=>body__law_nth T  cdv A outer s H E hr) (fun ds r hl e=>zZ e)
theorem sc__law_is_int:FnScope ["_law_thing"] ["_law_thing"] (zB (top 33)):=⟨rfl,rfl,rfl,by decide +kernel,rfl,by decide +kernel,by decide +kernel⟩
theorem body__law_is_int {f:Addr} (T:Glb K mg)  (cdv:Value) (A:Around) (outer:List Env) (s:Shared) (H:Hp) (E:XK) (hr:Room 0 (A.deeper (envOfC "_law_is_int" (zB (top 33)) s.heap.objs.size f cdv))) :
  PSsv (cxOf CX0 P w K mg base ["_law_thing"] "_law_is_int" (zB (top 33)) f cdv A outer s H E).nox (zI (top 33)) GL.is_int.g:=by
 have nd:(["_law_thing"]:List Str).Nodup:=sc__law_is_int.nd
 exact (zC (qE (PWv.t (yI (pt_isB (PVw.n (zA 0)) (PV.n jT)) (jY (pt_isB (PVw.n (zA 0)) (PV.n jT))))) (zH (zP (PV.w jT))) zQ)
  (zH (zP (PV.w (pv_isi T.b_isinstance T.b_int (by decide +kernel) (zA 0))))))
theorem fok__law_is_int {f:Addr} {fd:FuncData} (Fn:Fun K "_law_is_int" "_law_is_int" (top 33) f fd) (T:Glb K mg)  : FnOk P w K mg base CX0 1 f fd ["_law_thing"] (spF K 1 GL.is_int.f) :=
 qR (k:=0) (F:=GL.is_int.f) (g:=GL.is_int.g) Fn sc__law_is_int (fun cdv A outer s H E hr=>body__law_is_int T  cdv A outer s H E hr) (fun ds r hl e=>zZ e)
theorem sc__law_is_map:FnScope ["_law_found","_law_before","_law_k","_law_piece"] ["_law_found"] (zB (top 34)):=⟨rfl,rfl,rfl,by decide +kernel,rfl,by decide +kernel,by decide +kernel⟩
theorem body__law_is_map {f:Addr} (T:Glb K mg) (C__law_is_int:Cal P w K mg base "_law_is_int" 1 1 GL.is_int.f) (cdv:Value) (A:Around) (outer:List Env) (s:Shared) (H:Hp) (E:XK) (hr:Room 1 (A.deeper (envOfC "_law_is_map" (zB (top 34)) s.heap.objs.size f cdv))) :
  PSsv (cxOf CX0 P w K mg base ["_law_found","_law_before","_law_k","_law_piece"] "_law_is_map" (zB (top 34)) f cdv A outer s H E).nox (zI (top 34)) GL.is_map2.g:=by
 have nd:(["_law_found","_law_before","_law_k","_law_piece"]:List Str).Nodup:=sc__law_is_map.nd
 exact (zC (qE (jV (PVn.t (PV.n (pv_isi T.b_isinstance T.b_list (by decide +kernel) (zA 0))))) (zH (zP (PV.w jT))) zQ)
  (zC (zV (i:=1) nd qL)
  (zC (jW PassesOwn.never rfl (piv_range1 T.b_range (yO T.b_len (qH (zA 0) jC))) (zS (i:=2) nd) (zC (zV (i:=3) nd (zR (zA 0) (zA 2)))
  (zC (qE (PWv.t (yI (jV (PVn.t (PV.n (pv_isi T.b_isinstance T.b_tuple (by decide +kernel) (zA 3))))) (yI (vI hr (PV.n (yO T.b_len (qH (zA 3) jC))) (PV.n zF)) (jY (jV (PVn.t (PV.n (zM C__law_is_int hr (zD (PV.n (zR (zA 3) (PV.w zF))) zN))))))))) (zH (zP (PV.w jT))) zQ)
  (zC (qE (PWv.t (yI (PWv.t (jD (xM (PV.n (zR (zA 3) (PV.w zF))) (PV.n qL)) (jG (kB (zA 2) (PV.w zF))))) (jY (PWv.t (jD (xM (PV.n (zR (zA 3) (PV.w zF))) (PV.n qL)) (jG (pt_lt (PV.w (qV (zA 2) (PV.w zF))) (PV.w (yO T.b_len (qH (zA 0) jC)))))))))) (zH (zP (PV.w jT))) zQ)
  (zC (qE (PWv.t (jD (yB (PV.n (zR (zA 3) (PV.w zF))) (PV.n qL)) (jG (jV (PVn.t (PV.n (zM C__law_is_int hr (zD (PV.n (zR (zA 3) (PV.w zF))) zN)))))))) (zH (zP (PV.w jT))) zQ)
  (zC (qE (PWv.t (jD (yB (PV.n (zR (zA 3) (PV.w zF))) (PV.n qL)) (jG (jV (PVn.t (PV.n (zM C__law_is_int hr (zD (PV.n (zR (zA 3) (PV.w zF))) zN)))))))) (zH (zP (PV.w jT))) zQ)
  (zC (qE (PWv.t (jD (yB (PV.n (zR (zA 3) (PV.w zF))) (PV.n qL)) (jD (yB (PV.n (zR (zA 3) (PV.w zF))) (PV.n qL)) (jG (pt_ge (PV.w (zR (zA 3) (PV.w zF))) (PV.w (zR (zA 3) (PV.w zF)))))))) (zH (zP (PV.w jT))) zQ)
  (zC (qE (PWv.t (jD (yB (PVw.n (zA 1)) (PV.n qL)) (jG (pt_lt (PV.w (zR (zA 3) (PV.w zF))) (PV.w (zR (zA 1) (PV.w zF))))))) (zH (zP (PV.w jT))) zQ)
  (zC (qE (PWv.t (jD (yB (PVw.n (zA 1)) (PV.n qL)) (jD (xK hr (PV.n (zR (zA 3) (PV.w zF))) (PV.n (zR (zA 1) (PV.w zF)))) (jG (xK hr (PV.n (zR (zA 3) (PV.w zF))) (PV.n (zR (zA 1) (PV.w zF)))))))) (zH (zP (PV.w jT))) zQ)
  (zH (zV (i:=1) nd (zX 3))))))))))))
  (zH (zP (PV.w jT))))))
theorem fok__law_is_map {f:Addr} {fd:FuncData} (Fn:Fun K "_law_is_map" "_law_is_map" (top 34) f fd) (T:Glb K mg) (C__law_is_int:Cal P w K mg base "_law_is_int" 1 1 GL.is_int.f):FnOk P w K mg base CX0 2 f fd ["_law_found"] (spF K 1 GL.is_map2.f) :=
 qR (k:=1) (F:=GL.is_map2.f) (g:=GL.is_map2.g) Fn sc__law_is_map (fun cdv A outer s H E hr=>body__law_is_map T C__law_is_int cdv A outer s H E hr) (fun ds r hl e=>zZ e)
theorem sc__law_value_in:FnScope ["_law_pieces","_law_place","_law_low","_law_behind","_law_value"] ["_law_pieces","_law_place"] (zB (top 35)):=⟨rfl,rfl,rfl,by decide +kernel,rfl,by decide +kernel,by decide +kernel⟩
theorem body__law_value_in {f:Addr} (T:Glb K mg)  (cdv:Value) (A:Around) (outer:List Env) (s:Shared) (H:Hp) (E:XK) (hr:Room 0 (A.deeper (envOfC "_law_value_in" (zB (top 35)) s.heap.objs.size f cdv))) :
  PSsv (cxOf CX0 P w K mg base ["_law_pieces","_law_place","_law_low","_law_behind","_law_value"] "_law_value_in" (zB (top 35)) f cdv A outer s H E).nox (zI (top 35)) GL.value_in2.g:=by
 have nd:(["_law_pieces","_law_place","_law_low","_law_behind","_law_value"]:List Str).Nodup:=sc__law_value_in.nd
 exact (zC (jW PassesOwn.never rfl (jP (zX 0)) (yG (n:=3) rfl (zW (zS (i:=2) nd) (zW (zS (i:=3) nd) (zW (zS (i:=4) nd) jO)))) (zH (qE (PWv.t (jD (PWv.t (yI (xM (PVw.n (zA 2)) (PV.n qL)) (jY (pt_le (zA 2) (zA 1))))) (jG (PWv.t (yI (xM (PVw.n (zA 3)) (PV.n qL)) (jY (pt_lt (zA 1) (zA 3)))))))) (zH (zP (zA 4))) zQ)))
  (zH (zP (PV.w qL))))
theorem fok__law_value_in {f:Addr} {fd:FuncData} (Fn:Fun K "_law_value_in" "_law_value_in" (top 35) f fd) (T:Glb K mg)  : FnOk P w K mg base CX0 1 f fd ["_law_pieces","_law_place"] (spF K 2 GL.value_in2.f) :=
 qR (k:=0) (F:=GL.value_in2.f) (g:=GL.value_in2.g) Fn sc__law_value_in (fun cdv A outer s H E hr=>body__law_value_in T  cdv A outer s H E hr) (fun ds r hl e=>zZ e)
theorem sc__law_ends:FnScope ["_law_pieces","_law_found","_law_low","_law_behind","_law_value"] ["_law_pieces"] (zB (top 36)):=⟨rfl,rfl,rfl,by decide +kernel,rfl,by decide +kernel,by decide +kernel⟩
theorem body__law_ends {f:Addr} (T:Glb K mg)  (cdv:Value) (A:Around) (outer:List Env) (s:Shared) (H:Hp) (E:XK) (hr:Room 0 (A.deeper (envOfC "_law_ends" (zB (top 36)) s.heap.objs.size f cdv))) :
  PSsv (cxOf CX0 P w K mg base ["_law_pieces","_law_found","_law_low","_law_behind","_law_value"] "_law_ends" (zB (top 36)) f cdv A outer s H E).nox (zI (top 36)) GL.ends2.g:=by
 have nd:(["_law_pieces","_law_found","_law_low","_law_behind","_law_value"]:List Str).Nodup:=sc__law_ends.nd
 have nI0:(["_law_end"]:List Str).Nodup:=by decide +kernel
 exact (zC (yD (i:=1) nd (jB qB))
  (zC (jW PassesOwn.never rfl (jP (zX 0)) (yG (n:=3) rfl (zW (zS (i:=2) nd) (zW (zS (i:=3) nd) (zW (zS (i:=4) nd) jO)))) (zH (yD (i:=1) nd (yW (zA 1) (PV.w (PVf.s (xF (NY:=["_law_end"]) (mp:=[none]) (jX (by kernel_rfl)) rfl (jP (PVf.s (jB (zK (zX 2) (zK (zX 3) qB))))) (fun c=>(zS (i:=0) nI0)) (fun c=>(pfv_one (yB (PVw.n (zA 0)) (PV.n qL)))) (fun c=>(zX 0)))))))))
  (zH (yQ 1))))
theorem fok__law_ends {f:Addr} {fd:FuncData} (Fn:Fun K "_law_ends" "_law_ends" (top 36) f fd) (T:Glb K mg)  : FnOk P w K mg base CX0 1 f fd ["_law_pieces"] (spF K 1 GL.ends2.f) :=
 qR (k:=0) (F:=GL.ends2.f) (g:=GL.ends2.g) Fn sc__law_ends (fun cdv A outer s H E hr=>body__law_ends T  cdv A outer s H E hr) (fun ds r hl e=>zZ e)
theorem sc__law_small:FnScope ["_law_cells","_law_cell","_law_unit","_law_pieces","_law_at","_law_one","_law_low","_law_behind","_law_value"] ["_law_cells","_law_cell","_law_unit"] (zB (top 37)):=⟨rfl,rfl,rfl,by decide +kernel,rfl,by decide +kernel,by decide +kernel⟩
theorem body__law_small {f:Addr} (T:Glb K mg)  (cdv:Value) (A:Around) (outer:List Env) (s:Shared) (H:Hp) (E:XK) (hr:Room 0 (A.deeper (envOfC "_law_small" (zB (top 37)) s.heap.objs.size f cdv))) :
  PSsv (cxOf CX0 P w K mg base ["_law_cells","_law_cell","_law_unit","_law_pieces","_law_at","_law_one","_law_low","_law_behind","_law_value"] "_law_small" (zB (top 37)) f cdv A outer s H E).nox (zI (top 37)) K84.L_small.g:=by
 have nd:(["_law_cells","_law_cell","_law_unit","_law_pieces","_law_at","_law_one","_law_low","_law_behind","_law_value"]:List Str).Nodup:=sc__law_small.nd
 exact (zC (yD (i:=3) nd (jB qB))
  (zC (zV (i:=4) nd zF)
  (zC (jW PassesOwn.never rfl (jP (zX 0)) (zS (i:=5) nd) (zC (zV (i:=6) nd (qV (zA 4) (PV.w (jQ (PV.w (zR (PV.w (PVf.s (jB (zK zF (zK zF (zK zF qB)))))) (PV.w (jA (zA 5) (PV.w zF))))) (zA 2)))))
  (zC (zV (i:=7) nd (qV (zA 6) (PV.w (jQ (PV.w (qV (PV.w zF) (PV.w (jA (PV.w (qU (zA 5) (PV.w zF))) (PV.w zF))))) (zA 2)))))
  (zC (zV (i:=8) nd (zR (PV.w (PVf.s (jB (zK (vC (PV.w (jA (PV.w (qU (zA 5) (PV.w zF))) (PV.w zF))) (PV.w zF)) (zK (vC (PV.w (jA (PV.w (qU (zA 5) (PV.w zF))) (PV.w (qV (PV.w (jQ (PV.w zF) (PV.w (kA (PV.w zF) (PV.w zF))))) (PV.w zF))))) (PV.w (kA (PV.w zF) (PV.w zF)))) qB))))) (PV.w (jA (PV.w (qU (zA 5) (PV.w zF))) (PV.w zF)))))
  (zC (qE (PWv.t (jD (vI hr (PVw.n (zA 3)) (PV.n (PVf.s (jB qB)))) (jD (xK hr (PVw.n (zA 6)) (PVw.n (zA 4))) (jG (xK hr (PVw.n (zA 8)) (PV.n (zR (PV.w (zR (zA 3) (PV.w (xS zF)))) (PV.w zF)))))))) (zH (zV (i:=8) nd (qV (zA 8) (PV.w zF)))) zQ)
  (zC (xB (i:=3) (jR (zK (zX 6) (zK (zX 7) (zK (zX 8) qB)))))
  (zH (zV (i:=4) nd (zX 7)))))))))
  (zH (psv_retE (pve_tup (wR (PVd.e (PV.d (pv_max2 rfl T.b_max (qH (PV.w (qV (zA 4) (PV.w (jQ (PV.w (jA (zA 1) (PV.w zF))) (zA 2))))) (qH (zA 2) jC))))) (wR (pve_own 3) pae_nil))))))))
theorem fok__law_small {f:Addr} {fd:FuncData} (Fn:Fun K "_law_small" "_law_small" (top 37) f fd) (T:Glb K mg)  : FnOk P w K mg base CX0 1 f fd ["_law_cells","_law_cell","_law_unit"] (spF K 3 K84.L_small.f) :=
 qR (k:=0) (F:=K84.L_small.f) (g:=K84.L_small.g) Fn sc__law_small (fun cdv A outer s H E hr=>body__law_small T  cdv A outer s H E hr) (fun ds r hl e=>zZ e)
theorem sc__law_is_wheel:FnScope ["_law_found"] ["_law_found"] (zB (top 38)):=⟨rfl,rfl,rfl,by decide +kernel,rfl,by decide +kernel,by decide +kernel⟩
theorem body__law_is_wheel {f:Addr} (T:Glb K mg) (C__law_is_map:Cal P w K mg base "_law_is_map" 2 1 GL.is_map2.f) (C__law_is_int:Cal P w K mg base "_law_is_int" 1 1 GL.is_int.f) (cdv:Value) (A:Around) (outer:List Env) (s:Shared) (H:Hp) (E:XK) (hr:Room 2 (A.deeper (envOfC "_law_is_wheel" (zB (top 38)) s.heap.objs.size f cdv))) :
  PSsv (cxOf CX0 P w K mg base ["_law_found"] "_law_is_wheel" (zB (top 38)) f cdv A outer s H E).nox (zI (top 38)) GL.is_wheel.g:=by
 have nd:(["_law_found"]:List Str).Nodup:=sc__law_is_wheel.nd
 exact (zC (qE (PWv.t (yI (jV (PVn.t (PV.n (pv_isi T.b_isinstance T.b_tuple (by decide +kernel) (zA 0))))) (yI (vI hr (PV.n (yO T.b_len (qH (zA 0) jC))) (PV.n zF)) (yI (jV (PVn.t (PV.n (zM C__law_is_int hr (zD (PV.n (zR (zA 0) (PV.w zF))) zN))))) (jY (pt_lt (PV.w (zR (zA 0) (PV.w zF))) (PV.w zF))))))) (zH (zP (PV.w jT))) zQ)
  (zC (qE (jV (PVn.t (PV.n (zM C__law_is_map hr (zD (PV.n (zR (zA 0) (PV.w zF))) zN))))) (zH (zP (PV.w jT))) zQ)
  (zC (qE (PWv.t (jD (vI hr (PV.n (zR (zA 0) (PV.w zF))) (PV.n (PVf.s (jB qB)))) (jG (PWv.t (yI (xM (PV.n (zR (PV.w (zR (PV.w (zR (zA 0) (PV.w zF))) (PV.w zF))) (PV.w zF))) (PV.n qL)) (jY (pt_lt (PV.w (zR (PV.w (zR (PV.w (zR (zA 0) (PV.w zF))) (PV.w zF))) (PV.w zF))) (PV.w zF)))))))) (zH (zP (PV.w jT))) zQ)
  (zH (zP (PV.w (pv_or (pv_eq hr (PV.n (zR (zA 0) (PV.w zF))) (PV.n (PVf.s (jB qB)))) (pv_one (pv_and (pv_isnot (PV.n (zR (PV.w (zR (PV.w (zR (zA 0) (PV.w zF))) (PV.w (xS zF)))) (PV.w zF))) (PV.n qL)) (pv_one (pv_le (PV.w (zR (PV.w (zR (PV.w (zR (zA 0) (PV.w zF))) (PV.w (xS zF)))) (PV.w zF))) (PV.w (zR (zA 0) (PV.w zF))))))))))))))
theorem fok__law_is_wheel {f:Addr} {fd:FuncData} (Fn:Fun K "_law_is_wheel" "_law_is_wheel" (top 38) f fd) (T:Glb K mg) (C__law_is_map:Cal P w K mg base "_law_is_map" 2 1 GL.is_map2.f) (C__law_is_int:Cal P w K mg base "_law_is_int" 1 1 GL.is_int.f):FnOk P w K mg base CX0 3 f fd ["_law_found"] (spF K 1 GL.is_wheel.f) :=
 qR (k:=2) (F:=GL.is_wheel.f) (g:=GL.is_wheel.g) Fn sc__law_is_wheel (fun cdv A outer s H E hr=>body__law_is_wheel T C__law_is_map C__law_is_int cdv A outer s H E hr) (fun ds r hl e=>zZ e)
theorem sc__law_told:FnScope ["_law_wheel","_law_place"] ["_law_wheel","_law_place"] (zB (top 39)):=⟨rfl,rfl,rfl,by decide +kernel,rfl,by decide +kernel,by decide +kernel⟩
theorem body__law_told {f:Addr} (T:Glb K mg) (C__law_value_in:Cal P w K mg base "_law_value_in" 1 2 GL.value_in2.f) (cdv:Value) (A:Around) (outer:List Env) (s:Shared) (H:Hp) (E:XK) (hr:Room 1 (A.deeper (envOfC "_law_told" (zB (top 39)) s.heap.objs.size f cdv))) :
  PSsv (cxOf CX0 P w K mg base ["_law_wheel","_law_place"] "_law_told" (zB (top 39)) f cdv A outer s H E).nox (zI (top 39)) GL.told.g:=by
 have nd:(["_law_wheel","_law_place"]:List Str).Nodup:=sc__law_told.nd
 exact (zH (zP (PV.w (zM C__law_value_in hr (zD (PV.n (zR (zA 0) (PV.w zF))) (zD (PV.n (jA (zA 1) (PV.w (zR (zA 0) (PV.w zF))))) zN))))))
theorem fok__law_told {f:Addr} {fd:FuncData} (Fn:Fun K "_law_told" "_law_told" (top 39) f fd) (T:Glb K mg) (C__law_value_in:Cal P w K mg base "_law_value_in" 1 2 GL.value_in2.f):FnOk P w K mg base CX0 2 f fd ["_law_wheel","_law_place"] (spF K 2 GL.told.f) :=
 qR (k:=1) (F:=GL.told.f) (g:=GL.told.g) Fn sc__law_told (fun cdv A outer s H E hr=>body__law_told T C__law_value_in cdv A outer s H E hr) (fun ds r hl e=>zZ e)
theorem sc__law_comes_by:FnScope ["_law_wheel","_law_far","_law_ends_here","_law_place"] ["_law_wheel","_law_far"] (zB (top 40)):=⟨rfl,rfl,rfl,by decide +kernel,rfl,by decide +kernel,by decide +kernel⟩
theorem body__law_comes_by {f:Addr} (T:Glb K mg) (C__law_ends:Cal P w K mg base "_law_ends" 1 1 GL.ends2.f) (C__law_told:Cal P w K mg base "_law_told" 2 2 GL.told.f) (cdv:Value) (A:Around) (outer:List Env) (s:Shared) (H:Hp) (E:XK) (hr:Room 2 (A.deeper (envOfC "_law_comes_by" (zB (top 40)) s.heap.objs.size f cdv))) :
  PSsv (cxOf CX0 P w K mg base ["_law_wheel","_law_far","_law_ends_here","_law_place"] "_law_comes_by" (zB (top 40)) f cdv A outer s H E).nox (zI (top 40)) GL.comes_by.g:=by
 have nd:(["_law_wheel","_law_far","_law_ends_here","_law_place"]:List Str).Nodup:=sc__law_comes_by.nd
 have nI0:(["_law_end","_law_far"]:List Str).Nodup:=by decide +kernel
 exact (zC (zV (i:=2) nd (PVf.s (yW (PV.w (PVf.s (jB (zK zF qB)))) (PV.w (zM C__law_ends hr (zD (PV.n (zR (zA 0) (PV.w zF))) zN))))))
  (zC (jW PassesOwn.never rfl (jP (PVf.s (yW (zA 2) (PV.w (PVf.s (xF (NY:=["_law_end","_law_far"]) (mp:=[none,some 1]) (jX (by kernel_rfl)) rfl (jP (zX 2)) (fun c=>(zS (i:=0) nI0)) (fun c=>wH) (fun c=>(vC (zA 0) (zA 1))))))))) (zS (i:=3) nd) (zH (qE (vI hr (PV.n (zM C__law_told hr (zD (PVw.n (zA 0)) (zD (PVw.n (zA 3)) zN)))) (PV.n (zM C__law_told hr (zD (PVw.n (zA 0)) (zD (PV.n (qV (zA 3) (zA 1))) zN))))) (zH (zP (PV.w jT))) zQ)))
  (zH (zP (PV.w jT)))))
theorem fok__law_comes_by {f:Addr} {fd:FuncData} (Fn:Fun K "_law_comes_by" "_law_comes_by" (top 40) f fd) (T:Glb K mg) (C__law_ends:Cal P w K mg base "_law_ends" 1 1 GL.ends2.f) (C__law_told:Cal P w K mg base "_law_told" 2 2 GL.told.f):FnOk P w K mg base CX0 3 f fd ["_law_wheel","_law_far"] (spF K 2 GL.comes_by.f) :=
 qR (k:=2) (F:=GL.comes_by.f) (g:=GL.comes_by.g) Fn sc__law_comes_by (fun cdv A outer s H E hr=>body__law_comes_by T C__law_ends C__law_told cdv A outer s H E hr) (fun ds r hl e=>zZ e)
theorem sc__law_is_least:FnScope ["_law_wheel","_law_times"] ["_law_wheel"] (zB (top 41)):=⟨rfl,rfl,rfl,by decide +kernel,rfl,by decide +kernel,by decide +kernel⟩
theorem body__law_is_least {f:Addr} (T:Glb K mg) (C__law_comes_by:Cal P w K mg base "_law_comes_by" 3 2 GL.comes_by.f) (cdv:Value) (A:Around) (outer:List Env) (s:Shared) (H:Hp) (E:XK) (hr:Room 3 (A.deeper (envOfC "_law_is_least" (zB (top 41)) s.heap.objs.size f cdv))) :
  PSsv (cxOf CX0 P w K mg base ["_law_wheel","_law_times"] "_law_is_least" (zB (top 41)) f cdv A outer s H E).nox (zI (top 41)) GL.is_least.g:=by
 have nd:(["_law_wheel","_law_times"]:List Str).Nodup:=sc__law_is_least.nd
 exact (zC (qE (xK hr (PV.n (zR (zA 0) (PV.w zF))) (PV.n zF)) (zH (zP (PV.w jT))) zQ)
  (zC (qE (PVn.t (PV.n (zM C__law_comes_by hr (zD (PVw.n (zA 0)) (zD (PV.n zF) zN))))) (zH (zP (PV.w jT))) zQ)
  (zC (jW PassesOwn.never rfl (piv_range2 T.b_range (PV.w zF) (PV.w (qV (PV.w (jQ (PV.w zF) (PV.w (yO T.b_len (qH (PV.w (zR (zA 0) (PV.w zF))) jC))))) (PV.w zF)))) (zS (i:=1) nd) (zH (qE (PWv.t (jD (xK hr (PV.n (jA (PV.w (zR (zA 0) (PV.w zF))) (zA 1))) (PV.n zF)) (jG (PVn.t (PV.n (zM C__law_comes_by hr (zD (PVw.n (zA 0)) (zD (PV.n (qU (PV.w (zR (zA 0) (PV.w zF))) (zA 1))) zN)))))))) (zH (zP (PV.w jT))) zQ)))
  (zH (zP (PV.w jT))))))
theorem fok__law_is_least {f:Addr} {fd:FuncData} (Fn:Fun K "_law_is_least" "_law_is_least" (top 41) f fd) (T:Glb K mg) (C__law_comes_by:Cal P w K mg base "_law_comes_by" 3 2 GL.comes_by.f):FnOk P w K mg base CX0 4 f fd ["_law_wheel"] (spF K 1 GL.is_least.f) :=
 qR (k:=3) (F:=GL.is_least.f) (g:=GL.is_least.g) Fn sc__law_is_least (fun cdv A outer s H E hr=>body__law_is_least T C__law_comes_by cdv A outer s H E hr) (fun ds r hl e=>zZ e)
theorem sc__law_way:FnScope ["_law_cell","_law_add","_law_first","_law_both","_law_whether","_law_alone","_law_filled"] ["_law_cell"] (zB (top 42)):=⟨rfl,rfl,rfl,by decide +kernel,rfl,by decide +kernel,by decide +kernel⟩
theorem body__law_way {f:Addr} (T:Glb K mg) {mc mp:Addr} (M:Mkr K "_law_way" 3 (top 42) f mc mp) (A:Around) (outer:List Env) (s:Shared) (H:Hp) (E:XK) (hr:Room 0 (A.deeper (envOfC "_law_way" (zB (top 42)) s.heap.objs.size f (.ref mc)))) :
  PSdv (cxOf CX0 P w K mg base ["_law_cell","_law_add","_law_first","_law_both","_law_whether","_law_alone","_law_filled"] "_law_way" (zB (top 42)) f (.ref mc) A outer s H E).nox (zI (top 42)) K84.L_way.g:=by
 have nd:(["_law_cell","_law_add","_law_first","_law_both","_law_whether","_law_alone","_law_filled"]:List Str).Nodup:=sc__law_way.nd
 exact (psdv_cons (zV (i:=1) nd (jA (PV.w (qU (zA 0) (PV.w zF))) (PV.w zF)))
  (psdv_dead (zC (wW (i:=2) (j:=0) (is:=[]) nd M xR (by kernel_rfl) (by kernel_rfl))
  (zC (wW (i:=3) (j:=1) (is:=[1]) nd M xR (by kernel_rfl) (by kernel_rfl))
  (zC (wW (i:=4) (j:=2) (is:=[]) nd M xR (by kernel_rfl) (by kernel_rfl))
  (zC (wW (i:=5) (j:=3) (is:=[]) nd M xR (by kernel_rfl) (by kernel_rfl))
  (zC (wW (i:=6) (j:=4) (is:=[1]) nd M xR (by kernel_rfl) (by kernel_rfl))
  (zH (psv_retC (zR (PV.w (PVf.s (jB (zK (zX 2) (zK (zX 3) (zK (zX 4) (zK (zX 5) (zK (zX 6) qB)))))))) (PV.w (jA (zA 0) (PV.w zF)))))))))))))
theorem fok__law_way {f:Addr} {fd:FuncData} (Fn:Fun K "_law_way" "_law_way" (top 42) f fd) (T:Glb K mg) {mc mp:Addr} (M:Mkr K "_law_way" 3 (top 42) f mc mp):FnOk P w K mg base CX0 1 f fd ["_law_cell"] (spF K 1 K84.L_way.f) :=
 fun_okD (k:=0) (F:=K84.L_way.f) (g:=K84.L_way.g) Fn sc__law_way M (fun A outer s H E hr=>body__law_way T M A outer s H E hr) (fun ds r hl e=>zZ e)
theorem sc__law_common:FnScope ["_law_one","_law_other","_law_first_here","_law_second"] ["_law_one","_law_other"] (zB (top 43)):=⟨rfl,rfl,rfl,by decide +kernel,rfl,by decide +kernel,by decide +kernel⟩
theorem body__law_common {f:Addr} (T:Glb K mg)  (cdv:Value) (A:Around) (outer:List Env) (s:Shared) (H:Hp) (E:XK) (hr:Room 0 (A.deeper (envOfC "_law_common" (zB (top 43)) s.heap.objs.size f cdv))) :
  PSsv (cxOf CX0 P w K mg base ["_law_one","_law_other","_law_first_here","_law_second"] "_law_common" (zB (top 43)) f cdv A outer s H E).nox (zI (top 43)) K84.L_common.g:=by
 have nd:(["_law_one","_law_other","_law_first_here","_law_second"]:List Str).Nodup:=sc__law_common.nd
 exact (zC (zV (i:=2) nd (zX 0))
  (zC (zV (i:=3) nd (zX 1))
  (zC (wX 100000 PassesOwn.never (kB (zA 3) (PV.w zF)) (zH (psv_par (i:=2) (j:=3) rfl nd (zK (zX 3) (zK (jA (zA 2) (zA 3)) qB)))))
  (zH (zP (PV.w (jQ (zA 0) (PV.w (qU (zA 1) (zA 2))))))))))
theorem fok__law_common {f:Addr} {fd:FuncData} (Fn:Fun K "_law_common" "_law_common" (top 43) f fd) (T:Glb K mg)  : FnOk P w K mg base CX0 1 f fd ["_law_one","_law_other"] (spF K 2 K84.L_common.f) :=
 qR (k:=0) (F:=K84.L_common.f) (g:=K84.L_common.g) Fn sc__law_common (fun cdv A outer s H E hr=>body__law_common T  cdv A outer s H E hr) (fun ds r hl e=>zZ e)
theorem sc__law_weight:FnScope ["_law_wheel","_law_most"] ["_law_wheel","_law_most"] (zB (top 44)):=⟨rfl,rfl,rfl,by decide +kernel,rfl,by decide +kernel,by decide +kernel⟩
theorem body__law_weight {f:Addr} (T:Glb K mg)  (cdv:Value) (A:Around) (outer:List Env) (s:Shared) (H:Hp) (E:XK) (hr:Room 0 (A.deeper (envOfC "_law_weight" (zB (top 44)) s.heap.objs.size f cdv))) :
  PSsv (cxOf CX0 P w K mg base ["_law_wheel","_law_most"] "_law_weight" (zB (top 44)) f cdv A outer s H E).nox (zI (top 44)) K84.L_weight.g:=by
 have nd:(["_law_wheel","_law_most"]:List Str).Nodup:=sc__law_weight.nd
 exact (zC (qE (xK hr (PV.n (zR (zA 0) (PV.w zF))) (PV.n zF)) (zH (zP (PV.w zF))) zQ)
  (zH (zP (PV.w (jQ (PV.w (qU (zA 1) (PV.w (zR (zA 0) (PV.w zF))))) (PV.w (qV (PV.w (yO T.b_len (qH (PV.w (zR (zA 0) (PV.w zF))) jC))) (PV.w zF))))))))
theorem fok__law_weight {f:Addr} {fd:FuncData} (Fn:Fun K "_law_weight" "_law_weight" (top 44) f fd) (T:Glb K mg)  : FnOk P w K mg base CX0 1 f fd ["_law_wheel","_law_most"] (spF K 2 K84.L_weight.f) :=
 qR (k:=0) (F:=K84.L_weight.f) (g:=K84.L_weight.g) Fn sc__law_weight (fun cdv A outer s H E hr=>body__law_weight T  cdv A outer s H E hr) (fun ds r hl e=>zZ e)
theorem sc__law_spots:FnScope ["_law_wheel","_law_most","_law_found","_law_k"] ["_law_wheel","_law_most"] (zB (top 45)):=⟨rfl,rfl,rfl,by decide +kernel,rfl,by decide +kernel,by decide +kernel⟩
theorem body__law_spots {f:Addr} (T:Glb K mg) (C__law_ends:Cal P w K mg base "_law_ends" 1 1 GL.ends2.f) (cdv:Value) (A:Around) (outer:List Env) (s:Shared) (H:Hp) (E:XK) (hr:Room 1 (A.deeper (envOfC "_law_spots" (zB (top 45)) s.heap.objs.size f cdv))) :
  PSsv (cxOf CX0 P w K mg base ["_law_wheel","_law_most","_law_found","_law_k"] "_law_spots" (zB (top 45)) f cdv A outer s H E).nox (zI (top 45)) K84.L_spots.g:=by
 have nd:(["_law_wheel","_law_most","_law_found","_law_k"]:List Str).Nodup:=sc__law_spots.nd
 have nI0:(["_law_end","_law_k","_law_wheel"]:List Str).Nodup:=by decide +kernel
 exact (zC (yD (i:=2) nd (jB (zK zF qB)))
  (zC (qE (kB (PV.w (zR (zA 0) (PV.w zF))) (PV.w zF)) (zH (jW PassesOwn.never rfl (piv_range1 T.b_range (qU (zA 1) (PV.w (zR (zA 0) (PV.w zF))))) (zS (i:=3) nd) (zH (yD (i:=2) nd (yW (zA 2) (PV.w (PVf.s (xF (NY:=["_law_end","_law_k","_law_wheel"]) (mp:=[none,some 3,some 0]) (jX (by kernel_rfl)) rfl (jP (PVf.s (yW (PV.w (PVf.s (jB (zK zF qB)))) (PV.w (zM C__law_ends hr (zD (PV.n (zR (zA 0) (PV.w zF))) zN)))))) (fun c=>(zS (i:=0) nI0)) (fun c=>wH) (fun c=>(qV (PV.w (jQ (zA 1) (PV.w (zR (zA 2) (PV.w zF))))) (zA 0))))))))))) zQ)
  (zH (yQ 2))))
theorem fok__law_spots {f:Addr} {fd:FuncData} (Fn:Fun K "_law_spots" "_law_spots" (top 45) f fd) (T:Glb K mg) (C__law_ends:Cal P w K mg base "_law_ends" 1 1 GL.ends2.f):FnOk P w K mg base CX0 2 f fd ["_law_wheel","_law_most"] (spF K 2 K84.L_spots.f) :=
 qR (k:=1) (F:=K84.L_spots.f) (g:=K84.L_spots.g) Fn sc__law_spots (fun cdv A outer s H E hr=>body__law_spots T C__law_ends cdv A outer s H E hr) (fun ds r hl e=>zZ e)
theorem sc_law:FnScope ["_law_script","_law_unit","_law_turn","_law_pieces","_law_one","_law_other","_law_most","_law_heavy","_law_way_here","_law_refused","_law_found","_law_handed","_law_place"] ["_law_script"] (zB (top 46)):=⟨rfl,rfl,rfl,by decide +kernel,rfl,by decide +kernel,by decide +kernel⟩
theorem body_law {f:Addr} (T:Glb K mg) (C__law_small:Cal P w K mg base "_law_small" 1 3 K84.L_small.f) (C_wheel_of:Cal P w K mg base "wheel_of" 5 2 GP.wheel_of.f) (C__law_common:Cal P w K mg base "_law_common" 1 2 K84.L_common.f) (C__law_way:Cal P w K mg base "_law_way" 1 1 K84.L_way.f) (C__law_is_least:Cal P w K mg base "_law_is_least" 4 1 GL.is_least.f) (C__law_nth:Cal P w K mg base "_law_nth" 1 2 GL.nth.f) (C__law_weight:Cal P w K mg base "_law_weight" 1 2 K84.L_weight.f) (C_wheel_joined:Cal P w K mg base "wheel_joined" 6 3 (GP.wheel_joined.f K84.Phi)) (C__law_spots:Cal P w K mg base "_law_spots" 2 2 K84.L_spots.f) (C__law_is_wheel:Cal P w K mg base "_law_is_wheel" 3 1 GL.is_wheel.f) (C__law_told:Cal P w K mg base "_law_told" 2 2 GL.told.f) (CO:CloOk P w K mg base 1 K84.Phi) {XS10:Addr} {XC10:Addr} (XT_10:XT K mg 10 "TooMuch" XC10 XS10) (CX_wheel_joined_10:CalX P w K mg base "wheel_joined" 6 3 K84.X_wheel_joined_10.f XC10) (cdv:Value) (A:Around) (outer:List Env) (s:Shared) (H:Hp) (E:XK) (hr:Room 6 (A.deeper (envOfC "law" (zB (top 46)) s.heap.objs.size f cdv))) :
  PSsv (cxOf CX0 P w K mg base ["_law_script","_law_unit","_law_turn","_law_pieces","_law_one","_law_other","_law_most","_law_heavy","_law_way_here","_law_refused","_law_found","_law_handed","_law_place"] "law" (zB (top 46)) f cdv A outer s H E).nox (zI (top 46)) K84.law.g:=by
 have nd:(["_law_script","_law_unit","_law_turn","_law_pieces","_law_one","_law_other","_law_most","_law_heavy","_law_way_here","_law_refused","_law_found","_law_handed","_law_place"]:List Str).Nodup:=sc_law.nd
 exact (zC (zV (i:=1) nd (zR (PV.w (PVf.s (jB (zK zF (zK zF (zK zF (zK (kA (PV.w (kA (PV.w zF) (PV.w zF))) (PV.w zF)) qB))))))) (PV.w (jA (PV.w (zM C__law_nth hr (zD (PVw.n (zA 0)) (zD (PV.n zF) zN)))) (PV.w zF)))))
  (zC (psv_asg (zM C__law_small hr (zD (PV.n (PVf.s (xT (zA 0) (vG (PV.w zF)) (vG (PV.w zF))))) (zD (PV.n (zM C__law_nth hr (zD (PVw.n (zA 0)) (zD (PV.n zF) zN)))) (zD (PVw.n (zA 1)) zN)))) (yG (n:=2) rfl (zW (zS (i:=2) nd) (zW (zS (i:=3) nd) jO))))
  (zC (zV (i:=4) nd (zM C_wheel_of hr (zD (PVw.n (zA 2)) (zD (PVw.n (zA 3)) zN))))
  (zC (qE (xK hr (PV.n (jA (PV.w (qU (PV.w (zM C__law_nth hr (zD (PVw.n (zA 0)) (zD (PV.n zF) zN)))) (PV.w zF))) (PV.w zF))) (PV.n zF)) (zH (zV (i:=1) nd (qV (PV.w zF) (PV.w (jQ (PV.w (vC (zA 2) (PV.w zF))) (PV.w (jA (PV.w (zM C__law_nth hr (zD (PVw.n (zA 0)) (zD (PV.n zF) zN)))) (PV.w zF)))))))) zQ)
  (zC (psv_asg (zM C__law_small hr (zD (PV.n (PVf.s (xT (zA 0) (vG (PV.w zF)) (vG (PV.w zF))))) (zD (PV.n (zM C__law_nth hr (zD (PVw.n (zA 0)) (zD (PV.n zF) zN)))) (zD (PVw.n (zA 1)) zN)))) (yG (n:=2) rfl (zW (zS (i:=2) nd) (zW (zS (i:=3) nd) jO))))
  (zC (zV (i:=5) nd (zM C_wheel_of hr (zD (PVw.n (zA 2)) (zD (PVw.n (zA 3)) zN))))
  (zC (qE (PWv.t (yI (jV (PVn.t (PV.n (zM C__law_is_wheel hr (zD (PVw.n (zA 4)) zN))))) (jY (jV (PVn.t (PV.n (zM C__law_is_wheel hr (zD (PVw.n (zA 5)) zN)))))))) (zH (zP (PV.w jT))) zQ)
  (zC (zV (i:=6) nd (zM C__law_common hr (zD (PV.n (zR (zA 4) (PV.w zF))) (zD (PV.n (zR (zA 5) (PV.w zF))) zN))))
  (zC (zV (i:=7) nd (qV (PV.w (zM C__law_weight hr (zD (PVw.n (zA 4)) (zD (PVw.n (zA 6)) zN)))) (PV.w (zM C__law_weight hr (zD (PVw.n (zA 5)) (zD (PVw.n (zA 6)) zN))))))
  (zC (zV (i:=8) nd (zM C__law_way hr (zD (PV.n (qU (PV.w (zM C__law_nth hr (zD (PVw.n (zA 0)) (zD (PV.n zF) zN)))) (PV.w zF))) zN)))
  (zC (zV (i:=9) nd jT)
  (zC (zV (i:=10) nd qL)
  (zC (psv_setB (i:=11) nd (pvo_s (xE (pvo_t (xE (pvo_v (zR (zA 4) (PV.w zF))) (xE (pvo_l (pvf_list T.b_list (PV.w (zR (zA 4) (PV.w zF))))) pao_nil))) (xE (pvo_t (xE (pvo_v (zR (zA 5) (PV.w zF))) (xE (pvo_l (pvf_list T.b_list (PV.w (zR (zA 5) (PV.w zF))))) pao_nil))) pao_nil))))
  (zC (psv_tryN (t:=10) XT_10.gl XT_10.cat (fun W=>(zV (i:=10) nd (zM C_wheel_joined hr (zD (pvn_ix (vL 11) (PV.n zF)) (zD (pvn_ix (vL 11) (PV.n zF)) (zD (PVw.n (zA 8)) zN))))))
  (fun W=>thr_set CX_wheel_joined_10 hr (zD (pvn_ix (vL 11) (PV.n zF)) (zD (pvn_ix (vL 11) (PV.n zF)) (zD (PVw.n (zA 8)) zN))))
  (fun ea xe=>(zH (zV (i:=9) nd jT))))
  (zC (qE (vI hr (vL 11) (PV.n (PVf.s (jB (zK (zX 4) (zK (zX 5) qB)))))) (zH (zP (PV.w jT))) zQ)
  (zC (psv_clrP (i:=11) (p:=[0,1]) (pvp_ix (k:=1) (pvp_ix (k:=0) (pvp_var 11))))
  (zC (psv_clrP (i:=11) (p:=[1,1]) (pvp_ix (k:=1) (pvp_ix (k:=1) (pvp_var 11))))
  (zC (qE (PWv.t (yI (PVn.t (PVw.n (zA 9))) (jY (kB (zA 7) (PV.w zF))))) (zH (zP (PV.w (pv_and (zX 9) (pv_one (pv_gt (zA 7) (PV.w zF))))))) zQ)
  (zC (qE (PWv.t (yI (jV (PVn.t (PV.n (zM C__law_is_wheel hr (zD (PVw.n (zA 10)) zN))))) (jY (vI hr (PV.n (jA (zA 6) (PV.w (zR (zA 10) (PV.w zF))))) (PV.n zF))))) (zH (zP (PV.w jT))) zQ)
  (zC (qE (PWv.t (jD (kB (PV.w (zR (zA 10) (PV.w zF))) (PV.w zF)) (jG (kB (PV.w (qU (zA 6) (PV.w (zR (zA 10) (PV.w zF))))) (PV.w (jQ (PV.w zF) (zA 7))))))) (zH (zP (PV.w jT))) zQ)
  (zC (jW PassesOwn.never rfl (jP (PVf.s (yW (PV.w (PVf.s (yW (PV.w (zM C__law_spots hr (zD (PVw.n (zA 4)) (zD (PVw.n (zA 6)) zN)))) (PV.w (zM C__law_spots hr (zD (PVw.n (zA 5)) (zD (PVw.n (zA 6)) zN))))))) (PV.w (zM C__law_spots hr (zD (PVw.n (zA 10)) (zD (PVw.n (zA 6)) zN))))))) (zS (i:=12) nd) (zH (qE (vI hr (PV.n (zM C__law_told hr (zD (PVw.n (zA 10)) (zD (PVw.n (zA 12)) zN)))) (PV.n (pv_callW (i:=8) CO hr (zD (PV.n (zM C__law_told hr (zD (PVw.n (zA 4)) (zD (PVw.n (zA 12)) zN)))) (zD (PV.n (zM C__law_told hr (zD (PVw.n (zA 5)) (zD (PVw.n (zA 12)) zN)))) zN))))) (zH (zP (PV.w jT))) zQ)))
  (zH (zP (PV.w (zM C__law_is_least hr (zD (PVw.n (zA 10)) zN))))))))))))))))))))))))))
theorem fok_law {f:Addr} {fd:FuncData} (Fn:Fun K "law" "law" (top 46) f fd) (T:Glb K mg) (C__law_small:Cal P w K mg base "_law_small" 1 3 K84.L_small.f) (C_wheel_of:Cal P w K mg base "wheel_of" 5 2 GP.wheel_of.f) (C__law_common:Cal P w K mg base "_law_common" 1 2 K84.L_common.f) (C__law_way:Cal P w K mg base "_law_way" 1 1 K84.L_way.f) (C__law_is_least:Cal P w K mg base "_law_is_least" 4 1 GL.is_least.f) (C__law_nth:Cal P w K mg base "_law_nth" 1 2 GL.nth.f) (C__law_weight:Cal P w K mg base "_law_weight" 1 2 K84.L_weight.f) (C_wheel_joined:Cal P w K mg base "wheel_joined" 6 3 (GP.wheel_joined.f K84.Phi)) (C__law_spots:Cal P w K mg base "_law_spots" 2 2 K84.L_spots.f) (C__law_is_wheel:Cal P w K mg base "_law_is_wheel" 3 1 GL.is_wheel.f) (C__law_told:Cal P w K mg base "_law_told" 2 2 GL.told.f) (CO:CloOk P w K mg base 1 K84.Phi) {XS10:Addr} {XC10:Addr} (XT_10:XT K mg 10 "TooMuch" XC10 XS10) (CX_wheel_joined_10:CalX P w K mg base "wheel_joined" 6 3 K84.X_wheel_joined_10.f XC10):FnOk P w K mg base CX0 7 f fd ["_law_script"] (spF K 1 K84.law.f) :=
 qR (k:=6) (F:=K84.law.f) (g:=K84.law.g) Fn sc_law (fun cdv A outer s H E hr=>body_law T C__law_small C_wheel_of C__law_common C__law_way C__law_is_least C__law_nth C__law_weight C_wheel_joined C__law_spots C__law_is_wheel C__law_told CO XT_10 CX_wheel_joined_10 cdv A outer s H E hr) (fun ds r hl e=>zZ e)
end
end K84
namespace K84
open PySem PyProof.Rows L2 FL
open Builtin.Int (intBits)
def Good (g:FS) (ds:List Sl) (P:Ret->Prop):Prop:=∃ r,g ds=some (.rt r)/\P r
theorem good_ex {f g:FS} {ds:List Sl} {P:Ret->Prop} (Q:List Sl->Prop) (h1:∃ ds',f ds=some (.nx ds')/\Q ds') (h2:∀ ds',Q ds'->Good g ds' P):Good (qG f g) ds P:=by
 obtain ⟨ds',e,q⟩:=h1
 obtain ⟨r,e2,p⟩:=h2 ds' q
 exact ⟨r,by rw [qX e,e2],p⟩
theorem qT {f g:FS} {ds ds':List Sl} {P:Ret->Prop} (h1:f ds=some (.nx ds')) (h2:Good g ds' P):Good (qG f g) ds P:=good_ex (· = ds') ⟨_,h1,rfl⟩ fun _ e=>by rw [e]; exact h2
theorem good_rt {f g:FS} {ds:List Sl} {P:Ret->Prop} (h:Good f ds P):Good (qG f g) ds P:=by
 obtain ⟨r,e,p⟩:=h
 exact ⟨r,seq_rt e,p⟩
structure Drw (rows:List Rw) (s:Int):Prop where
 map:MapF rows
 fin:∀ r∈rows,∃ lo bh v,r=(some lo,some bh,some v)/\0<=lo/\bh<=s
 last:∀ r,rows.getLast? = some r->r.2.1=some s
 pos:0<=s
theorem Drw.snoc {rows:List Rw} {s lo bh v:Int} (d:Drw rows s) (h1:s<=lo) (h2:lo < bh) (h3:∀ r,rows.getLast? = some r->s=lo->r.2.2≠some v):Drw (rows++[(some lo,some bh,some v)]) bh:=by
 have s0:=d.pos
 refine ⟨⟨ord_app d.map.ord ⟨fun r hr=>?_,by simp⟩ fun x hx y hy=>?_,fun r hr=>?_,fun i x y hx hy=>?_⟩,fun r hr=>?_,fun r hr=>?_,by omega⟩
 · rw [List.mem_singleton.mp hr]
   intro x y hx hy
   have:=Option.some.inj hx
   have:=Option.some.inj hy
   omega
 · rw [List.mem_singleton.mp hy]
   obtain ⟨l,b,u,rfl,_,hb⟩:=d.fin x hx
   exact ⟨b,lo,rfl,rfl,by omega⟩
 · rcases List.mem_append.mp hr with hr | hr
   · exact d.map.val r hr
   · rw [List.mem_singleton.mp hr]; simp
 · by_cases hi : i + 1 < rows.length
   · rw [List.getElem?_append_left (by omega)] at hx
     rw [List.getElem?_append_left hi] at hy
     exact d.map.adj i x y hx hy
   · by_cases hi2 : i + 1 = rows.length
     · rw [List.getElem?_append_left (by omega)] at hx
       rw [List.getElem?_append_right (by omega)] at hy
       have e:i+1 - rows.length=0:=by omega
       rw [e] at hy
       have hy:(some lo,some bh,some v)=y:=by simpa using hy
       have hlast:rows.getLast? = some x:=by rw [List.getLast?_eq_getElem?,show rows.length - 1=i by omega]; exact hx
       rintro ⟨g1,g2⟩
       rw [<- hy] at g1 g2
       have:=d.last x hlast
       rw [this] at g1
       have:=Option.some.inj g1
       exact h3 x hlast this g2
     · rw [List.getElem?_eq_none (by simp; omega)] at hy
       cases hy
 · rcases List.mem_append.mp hr with hr | hr
   · obtain ⟨l, b, u, e, a1, a2⟩ := d.fin r hr
     exact ⟨l,b,u,e,a1,by omega⟩
   · rw [List.mem_singleton.mp hr]
     exact ⟨lo,bh,v,rfl,by omega,by omega⟩
 · rw [List.getLast?_append] at hr
   simp at hr
   rw [<- hr]
theorem small_turn (C N:Sl) {u:Int} (hu:0 < u) (rows:List Rw) (j:Int) (hj:0<=j) (d:Drw rows (j * u)) (c:Int) (hz:rows.length < 1000) (x6 x7 x8:Sl):∃ (lo bh v k:Int),1<=k/\k<=5/\Drw (rows++[(some lo,some bh,some v)]) ((j+k) * u) ∧
  K84.L_small.b1 [C,N,.v (.int u),.own (rows.map rwD),.v (.int (j * u)),.v (.int c),x6,x7,x8]=some (.nx [C,N,.v (.int u),.own ((rows++[(some lo,some bh,some v)]).map rwD),.v (.int ((j+k) * u)),.v (.int c),.v (.int lo),.v (.int ((j+k) * u)),.v (.int v)]):=by
 have p60:powD (.int 10) (.int 60)=some (.int (10 ^ 60)):=pow10 (by decide) (by decide)
 have m2:yT (.int 2) (.int (10 ^ 60))=some (.int (2 * 10 ^ 60)):=yA (.of_left (jH (by decide)))
 have q60:(0:Int) < 2 * 10 ^ 60+1:=by decide
 have mk:∀ {k:Int},0<=k->k<=10->yT (.int k) (.int u)=some (.int (k * u)):=fun {k} h1 h2=>yA (.of_left (jH (Nat.lt_of_le_of_lt (show k.natAbs<=10 by omega) (by decide))))
 obtain ⟨a,a0,a2,ea⟩:∃ a:Int,0<=a/\a<=2/\ixD (.lst [.int 0,.int 1,.int 2]) (.int (c % 3))=some (.int a):=by
  rcases (by omega:c % 3=0 \/ c % 3=1 \/ c % 3=2) with h | h | h
  · exact ⟨0,by decide,by decide,by rw [h]; simp⟩
  · exact ⟨1,by decide,by decide,by rw [h]; simp⟩
  · exact ⟨2,by decide,by decide,by rw [h]; simp⟩
 have ma:=mk a0 (by omega)
 have mb:=mk (k:=1+c / 3 % 3) (by omega) (by omega)
 obtain ⟨v0,ev⟩:∃ v0:Int,ixD (.lst [.int (c / 18 % 3 - 1),.int (c / 18 % (2 * 10 ^ 60+1) - 10 ^ 60)]) (.int (c / 9 % 2))=some (.int v0):=by
  rcases (by omega:c / 9 % 2=0 \/ c / 9 % 2=1) with h | h
  · exact ⟨_,by rw [h]; simp; rfl⟩
  · exact ⟨_,by rw [h]; simp; rfl⟩
 generalize hk:1+c / 3 % 3=b at *
 have e1:j * u+a * u+b * u=(j+(a+b)) * u:=by rw [Int.add_mul,Int.add_mul]; omega
 have hb1:1<=b/\b<=3:=by omega
 have hau:0<=a * u:=Int.mul_nonneg a0 (by omega)
 have hbu:0 < b * u:=Int.mul_pos (by omega) hu
 have ne0:=neD_rw_nil rows
 have hal:(rows.map rwD).length < 16777216:=by simp; omega
 have fin:∀ v:Int,(∀ r,rows.getLast? = some r->j * u=j * u+a * u->r.2.2≠some v)->Drw (rows++[(some (j * u+a * u),some ((j+(a+b)) * u),some v)]) ((j+(a+b)) * u):=fun v hv=>d.snoc (by omega) (by rw [<- e1]; omega) hv
 have app:∀ v:Int,(rows++[((some (j * u+a * u),some ((j+(a+b)) * u),some v):Rw)]).map rwD=rows.map rwD++[.tup [.int (j * u+a * u),.int ((j+(a+b)) * u),.int v]]:=fun v=>by simp [rwD]
 have st1:∀ (x7 x8:Sl),jM 6 (zL xN (zJ 4) (zL yT (zL ixD (mkL (qN (zG (zE (.int 0)) (zG (zE (.int 1)) (zG (zE (.int 2)) qC))))) (zL xL (zJ 5) (zE (.int 3)))) (zJ 2))) [C,N,.v (.int u),.own (rows.map rwD),.v (.int (j * u)),.v (.int c),x6,x7,x8]=some (.nx [C,N,.v (.int u),.own (rows.map rwD),.v (.int (j * u)),.v (.int c),.v (.int (j * u+a * u)),x7,x8]):=by
  intro x7 x8
  generalize rows.map rwD=R at *
  simp [ea,ma]
 have st2:∀ (x8:Sl),jM 7 (zL xN (zJ 6) (zL yT (zL xN (zE (.int 1)) (zL xL (zL qY (zJ 5) (zE (.int 3))) (zE (.int 3)))) (zJ 2))) [C,N,.v (.int u),.own (rows.map rwD),.v (.int (j * u)),.v (.int c),.v (.int (j * u+a * u)),x7,x8]=some (.nx [C,N,.v (.int u),.own (rows.map rwD),.v (.int (j * u)),.v (.int c),.v (.int (j * u+a * u)),.v (.int ((j+(a+b)) * u)),x8]):=by
  intro x8
  generalize rows.map rwD=R at *
  simp [hk,mb,e1]
 unfold K84.L_small.b1
 rw [qX (st1 x7 x8),qX (st2 x8)]
 rw [qX (ds':=[C,N,.v (.int u),.own (rows.map rwD),.v (.int (j * u)),.v (.int c),.v (.int (j * u+a * u)),.v (.int ((j+(a+b)) * u)),.v (.int v0)]) (by
  generalize rows.map rwD=R at *
  generalize j * u+a * u=lo at *
  generalize (j+(a+b)) * u=bh at *
  generalize j * u=s at *
  simp [-Int.reducePow,-Nat.reducePow,p60,m2,q60,ev])]
 by_cases hc:rows≠[]/\j * u+a * u=j * u/\∃ r,rows.getLast? = some r/\r.2.2=some v0
 · obtain ⟨hn, hs, r, hr, hrv⟩ := hc
   obtain ⟨t,rfl⟩:∃ t,rows=t++[r]:=List.getLast?_eq_some_iff.mp hr
   have last:ixD (.lst ((t++[r]).map rwD)) (.int (-1))=some (rwD r):=by rw [List.map_append]; exact wQ _ _
   have i2:ixD (rwD r) (.int 2)=some (.int v0):=by simp [rwD,hrv]
   have emp:(t++[r]).isEmpty=false:=by simp
   rw [emp] at ne0
   refine ⟨j * u+a * u,(j+(a+b)) * u,v0+1,a+b,by omega,by omega,fin (v0+1) (fun r' hr' _ z=>?_),?_⟩
   · rw [hr] at hr'
     have:=Option.some.inj hr'
     rw [<- this,hrv] at z
     have:=Option.some.inj z
     omega
   · rw [app]
     generalize (t++[r]).map rwD=R at *
     generalize rwD r=RD at *
     generalize hlo:j * u+a * u=lo at *
     generalize (j+(a+b)) * u=bh at *
     generalize j * u=s at *
     rw [qX (ds':=[C,N,.v (.int u),.own R,.v (.int s),.v (.int c),.v (.int lo),.v (.int bh),.v (.int (v0+1))]) (by simp [ne0,hs,last,i2])]
     simp [hal]
 · refine ⟨j * u + a * u, (j + (a + b)) * u, v0, a + b, by omega, by omega, fin v0 (fun r hr hs z => hc ⟨(fun e => by rw [e] at hr; cases hr), hs.symm, r, hr, z⟩), ?_⟩
   rw [app]
   rw [qX (ds':=[C,N,.v (.int u),.own (rows.map rwD),.v (.int (j * u)),.v (.int c),.v (.int (j * u+a * u)),.v (.int ((j+(a+b)) * u)),.v (.int v0)]) (by
    by_cases hn:rows=[]
    · subst hn
      simp only [List.isEmpty_nil,Bool.not_true] at ne0
      rw [wK (by generalize ([]:List Rw).map rwD=R at *; simp [ne0])]
      rfl
    · have emp:rows.isEmpty=false:=by cases rows with
       | nil=>exact (hn rfl).elim
       | cons _ _=>rfl
      rw [emp] at ne0
      by_cases hs:j * u+a * u=j * u
      · obtain ⟨t, r, rfl⟩ : ∃ t r, rows = t ++ [r] := ⟨rows.dropLast, rows.getLast hn, (List.dropLast_concat_getLast hn).symm⟩
        have last:ixD (.lst ((t++[r]).map rwD)) (.int (-1))=some (rwD r):=by rw [List.map_append]; exact wQ _ _
        obtain ⟨l,bb,w,er,_⟩:=d.fin r (List.mem_append_right _ (.head _))
        have i2:ixD (rwD r) (.int 2)=some (.int w):=by rw [er]; simp [rwD]
        have hw:v0≠w:=fun z=>hc ⟨hn,hs,r,by simp,by rw [er,z]⟩
        rw [wK (by
         generalize (t++[r]).map rwD=R at *
         generalize rwD r=RD at *
         generalize (j+(a+b)) * u=bh at *
         generalize hlo:j * u+a * u=lo at *
         generalize j * u=s at *
         simp [ne0,hs,last,i2,hw])]
        rfl
      · rw [wK (by
         generalize rows.map rwD=R at *
         generalize (j+(a+b)) * u=bh at *
         generalize hlo:j * u+a * u=lo at *
         generalize j * u=s at *
         simp [ne0,hs])]
        rfl)]
   generalize rows.map rwD=R at *
   generalize (j+(a+b)) * u=bh at *
   generalize j * u+a * u=lo at *
   generalize j * u=s at *
   simp [hal]
theorem small_loop (C N:Sl) {u:Int} (hu:0 < u):∀ (cs:List Int) (rows:List Rw) (j:Int) (x5 x6 x7 x8:Sl),0<=j->Drw rows (j * u)->rows.length+cs.length < 1000->∃ (rows':List Rw) (j':Int) (y5 y6 y7 y8:Sl),j<=j'/\j'<=j+5 * cs.length/\Drw rows' (j' * u)/\rows'.length=rows.length+cs.length ∧
  qS (zT 5) K84.L_small.b1 (cs.map D.int) [C,N,.v (.int u),.own (rows.map rwD),.v (.int (j * u)),x5,x6,x7,x8]=some (.nx [C,N,.v (.int u),.own (rows'.map rwD),.v (.int (j' * u)),y5,y6,y7,y8])
 | [],rows,j,x5,x6,x7,x8,hj,d,_=>⟨rows,j,x5,x6,x7,x8,by omega,by simp,d,by simp,by simp [qS]⟩
 | c :: cs, rows, j, x5, x6, x7, x8, hj, d, hz => by
   simp only [List.length_cons] at hz
   obtain ⟨lo,bh,v,k,k1,k5,d1,e1⟩:=small_turn C N hu rows j hj d c (by omega) x6 x7 x8
   obtain ⟨rows',j',y5,y6,y7,y8,a1,a2,a3,a4,e2⟩:=small_loop C N hu cs (rows++[(some lo,some bh,some v)]) (j+k) (.v (.int c)) (.v (.int lo)) (.v (.int ((j+k) * u))) (.v (.int v)) (by omega) d1 (by simp only [List.length_append,List.length_singleton]; omega)
   refine ⟨rows',j',y5,y6,y7,y8,by omega,by simp only [List.length_cons]; omega,a3,by simp only [List.length_append,List.length_singleton] at a4; simp only [List.length_cons]; omega,?_⟩
   simp only [List.map_cons,qS,zT,Option.bind_some,List.set_cons_succ,List.set_cons_zero,e1]
   exact e2
theorem small_ex (cs:List Int) (hl:cs.length<=3) (c:Int) {u:Int} (hu:0 < u):∃ (k:Int) (ps:List Rw),1<=k/\k<=17/\MapF ps/\Ins ps (k * u)/\ps.length<=3/\K84.L_small.f [.lst (cs.map D.int),.int c,.int u]=some (.val (.tup [.int (k * u),.lst (ps.map rwD)])):=by
 obtain ⟨rows,j,y5,y6,y7,y8,a1,a2,d,a4,e⟩:=small_loop (.v (.lst (cs.map D.int))) (.v (.int c)) hu cs [] 0 .no .no .no .no (by omega) ⟨MapF.nil,(fun _ h=>nomatch h),(fun r h=>by simp at h),by omega⟩ (by simp; omega)
 simp only [List.map_nil,Int.zero_mul] at e
 have mu:yT (.int (c % 3)) (.int u)=some (.int (c % 3 * u)):=yA (.of_left (jH (Nat.lt_of_le_of_lt (show (c % 3).natAbs<=3 by omega) (by decide))))
 have em:max (j * u+c % 3 * u) u=max (j+c % 3) 1 * u:=by
  rw [<- Int.add_mul]
  rcases Int.lt_or_le (j+c % 3) 1 with z | z
  · have : j + c % 3 = 0 := by omega
    rw [this,Int.zero_mul,show max (0:Int) 1=1 from rfl,Int.one_mul]
    omega
  · rw [show max (j + c % 3) 1 = j + c % 3 by omega]
    have:1 * u<=(j+c % 3) * u:=Int.mul_le_mul_of_nonneg_right z (by omega)
    omega
 have hle:j * u<=max (j+c % 3) 1 * u:=Int.mul_le_mul_of_nonneg_right (by omega) (by omega)
 have fl:=yN rows
 refine ⟨max (j+c % 3) 1,rows,by omega,by omega,d.map,fun r hr=>?_,by simp at a4; omega,?_⟩
 · obtain ⟨lo, bh, v, rfl, h1, h2⟩ := d.fin r hr
   exact ⟨lo,bh,rfl,rfl,h1,by omega⟩
 · refine yU ?_
   have ar:args 9 [.lst (cs.map D.int),.int c,.int u]=[.v (.lst (cs.map D.int)),.v (.int c),.v (.int u),.no,.no,.no,.no,.no,.no]:=by simp [args]
   rw [ar,<- em]
   unfold K84.L_small.g
   generalize cs.map D.int=CL at *
   generalize rows.map rwD=RL at *
   generalize hju:j * u=s at *
   rw [qX (ds':=[.v (.lst CL),.v (.int c),.v (.int u),.own [],.no,.no,.no,.no,.no]) (by simp)]
   rw [qX (ds':=[.v (.lst CL),.v (.int c),.v (.int u),.own [],.v (.int 0),.no,.no,.no,.no]) (by simp)]
   rw [qX (ds':=[.v (.lst CL),.v (.int c),.v (.int u),.own RL,.v (.int s),y5,y6,y7,y8]) (by rw [forG_eq]; simpa using e)]
   simp [mu,flV,getO,fl,retDG]
theorem com_c (A B:Sl) (d:D) (n:Int):zU (zL gtD (zJ 3) (zE (.int 0))) [A,B,.v d,.v (.int n)]=some (decide (n > 0)):=by simp
theorem com_step (A B:Sl) (d r:Nat) (hr:0 < r):K84.L_common.b1 [A,B,.v (.int (d:Int)),.v (.int (r:Int))]=some (.nx [A,B,.v (.int (r:Int)),.v (.int ((d % r:Nat):Int))]):=by
 have h:=yM (d:Int) (show (0:Int) < (r:Int) by omega)
 rw [<- Int.natCast_emod] at h
 unfold K84.L_common.b1 parG
 simp [h]
theorem com_end (A B:Sl) (d:Nat) (n:Nat):whileN (zU (zL gtD (zJ 3) (zE (.int 0)))) K84.L_common.b1 (n+1) [A,B,.v (.int (d:Int)),.v (.int ((0:Nat):Int))]=some (.nx [A,B,.v (.int (d:Int)),.v (.int ((0:Nat):Int))]):=by
 rw [whileN,com_c A B (.int (d:Int)) ((0:Nat):Int)]
 simp
theorem com_turn (A B:Sl) (d r:Nat) (hr:0 < r) (n:Nat):whileN (zU (zL gtD (zJ 3) (zE (.int 0)))) K84.L_common.b1 (n+1) [A,B,.v (.int (d:Int)),.v (.int (r:Int))]=whileN (zU (zL gtD (zJ 3) (zE (.int 0)))) K84.L_common.b1 n [A,B,.v (.int (r:Int)),.v (.int ((d % r:Nat):Int))]:=by
 have h:((r:Int) > 0):=by omega
 rw [whileN,com_c A B (.int (d:Int)) (r:Int),com_step A B d r hr,decide_eq_true h]
 rfl
theorem com_loop (A B:Sl):∀ (k d r:Nat),r < 2 ^ k->∀ n,2 * k+1<=n->whileN (zU (zL gtD (zJ 3) (zE (.int 0)))) K84.L_common.b1 n [A,B,.v (.int (d:Int)),.v (.int (r:Int))]=some (.nx [A,B,.v (.int ((Nat.gcd d r:Nat):Int)),.v (.int ((0:Nat):Int))])
 | k, d, 0, _, n, hn => by
   obtain ⟨m,rfl⟩:∃ m,n=m+1:=⟨n - 1,by omega⟩
   rw [com_end,Nat.gcd_zero_right]
 | 0,d,r+1,h,n,hn=>by simp at h
 | k + 1, d, r + 1, h, n, hn => by
   obtain ⟨m,rfl⟩:∃ m,n=m+2:=⟨n - 2,by omega⟩
   rw [com_turn A B d (r+1) (by omega) (m+1)]
   have hlt:d % (r+1) < r+1:=Nat.mod_lt _ (by omega)
   have eg:=wN d (r+1)
   generalize d % (r+1)=r1 at *
   cases r1 with
   | zero=>rw [com_end,eg,Nat.gcd_zero_right]
   | succ r2 =>
     rw [com_turn A B (r+1) (r2+1) (by omega) m,eg,wN (r+1) (r2+1)]
     have hl2:(r+1) % (r2+1) < r2+1:=Nat.mod_lt _ (by omega)
     have hs:(r+1) % (r2+1)+(r2+1)<=r+1:=by
      have e:=Nat.mod_add_div (r+1) (r2+1)
      have:1<=(r+1) / (r2+1):=Nat.div_pos (by omega) (by omega)
      have:(r2+1) * 1<=(r2+1) * ((r+1) / (r2+1)):=Nat.mul_le_mul_left _ this
      omega
     rw [Nat.pow_succ] at h
     exact com_loop A B k (r2+1) ((r+1) % (r2+1)) (by omega) m (by omega)
theorem com_eq {L1 L2:Int} (h1:0 < L1) (h2:0 < L2) (b1:L1 < 10 ^ 200) (b2:L2 < 10 ^ 200):∃ M:Int,0 < M/\(∃ s:Nat,M=(s:Int) * L1)/\(∃ s:Nat,M=(s:Int) * L2)/\(∀ C:Nat,0 < C->(∃ s:Nat,(C:Int)=(s:Int) * L1)->(∃ s:Nat,(C:Int)=(s:Int) * L2)->M<=(C:Int)) ∧
  GP.least_multiple.f [.int L1,.int L2]=some (.val (.int M))/\K84.L_common.f [.int L1,.int L2]=some (.val (.int M)):=by
 obtain ⟨a,rfl⟩:=Int.eq_ofNat_of_zero_le (Int.le_of_lt h1)
 obtain ⟨b,rfl⟩:=Int.eq_ofNat_of_zero_le (Int.le_of_lt h2)
 have ha:0 < a:=by omega
 have hb:0 < b:=by omega
 have e200:((10 ^ 200:Nat):Int)=(10:Int) ^ 200:=Int.natCast_pow 10 200
 have ba:a < 10 ^ 200:=by
  have:(a:Int) < ((10 ^ 200:Nat):Int):=by rw [e200]; exact b1
  exact Int.ofNat_lt.mp this
 have bb:b < 10 ^ 200:=by
  have:(b:Int) < ((10 ^ 200:Nat):Int):=by rw [e200]; exact b2
  exact Int.ofNat_lt.mp this
 have p2:(10:Nat) ^ 200 < 2 ^ 4000:=by decide +kernel
 have hg:0 < Nat.gcd a b:=Nat.gcd_pos_of_pos_left _ ha
 have ga:=Nat.gcd_dvd_left a b
 have gb:=Nat.gcd_dvd_right a b
 have hga:Nat.gcd a b<=a:=Nat.le_of_dvd ha ga
 have e1:a / Nat.gcd a b * b=Nat.lcm a b:=by rw [Nat.lcm,Nat.div_mul_right_comm ga]
 have e2:a * (b / Nat.gcd a b)=Nat.lcm a b:=by rw [Nat.lcm,Nat.mul_div_assoc a gb]
 have lm:=lcm_eq ha hb (Nat.lt_trans bb p2) (Nat.lt_of_le_of_lt hga ba) ba
 rw [e1] at lm
 have lp:=Nat.lcm_pos ha hb
 have pos:(0:Int) < ((Nat.lcm a b:Nat):Int):=by omega
 refine ⟨((Nat.lcm a b:Nat):Int),pos,?_,?_,?_,lm,?_⟩
 · obtain ⟨s, hs⟩ := Nat.dvd_lcm_left a b
   exact ⟨s,by rw [hs,Int.natCast_mul,Int.mul_comm]⟩
 · obtain ⟨s, hs⟩ := Nat.dvd_lcm_right a b
   exact ⟨s,by rw [hs,Int.natCast_mul,Int.mul_comm]⟩
 · rintro C hC ⟨s, hs⟩ ⟨t, ht⟩
   have d1:a ∣ C:=⟨s,by
    have:(C:Int)=((a * s:Nat):Int):=by rw [hs,Int.natCast_mul,Int.mul_comm]
    exact Int.ofNat.inj this⟩
   have d2:b ∣ C:=⟨t,by
    have:(C:Int)=((b * t:Nat):Int):=by rw [ht,Int.natCast_mul,Int.mul_comm]
    exact Int.ofNat.inj this⟩
   have:=Nat.le_of_dvd hC (Nat.lcm_dvd d1 d2)
   omega
 · have lo := com_loop (.v (.int (a : Int))) (.v (.int (b : Int))) 4000 a b (Nat.lt_trans bb p2) 100000 (by decide)
   have fd:qY (.int (b:Int)) (.int ((Nat.gcd a b:Nat):Int))=some (.int ((b / Nat.gcd a b:Nat):Int)):=by
    rw [jF (by omega) (by
     have:((Nat.gcd a b:Nat):Int)<=(a:Int):=by omega
     exact Int.lt_of_le_of_lt this b1),Int.natCast_ediv]
   have hd:b / Nat.gcd a b<=b:=Nat.div_le_self _ _
   have hd0:0 < b / Nat.gcd a b:=Nat.div_pos (Nat.le_of_dvd hb gb) hg
   have mu:yT (.int (a:Int)) (.int ((b / Nat.gcd a b:Nat):Int))=some (.int ((Nat.lcm a b:Nat):Int)):=by
    rw [yA (mulOk_of_bits (wP h1 b1) (wP (by omega) (by
     have:((b / Nat.gcd a b:Nat):Int)<=(b:Int):=by omega
     exact Int.lt_of_le_of_lt this b2)) (by decide)),<- Int.natCast_mul,e2]
   refine yU ?_
   unfold K84.L_common.g
   have ar:args 4 [.int (a:Int),.int (b:Int)]=[.v (.int (a:Int)),.v (.int (b:Int)),.no,.no]:=by simp [args]
   rw [ar]
   rw [qX (ds':=[.v (.int (a:Int)),.v (.int (b:Int)),.v (.int (a:Int)),.no]) (by simp)]
   rw [qX (ds':=[.v (.int (a:Int)),.v (.int (b:Int)),.v (.int (a:Int)),.v (.int (b:Int))]) (by simp)]
   rw [qX lo]
   generalize ((Nat.gcd a b:Nat):Int)=g at *
   generalize ((b / Nat.gcd a b:Nat):Int)=q at *
   generalize ((Nat.lcm a b:Nat):Int)=m at *
   simp [fd,mu]
theorem way_ex (c:Int):∃ (f:D) (W:Option Int->Option Int->Option Int),(∀ u v,K84.Phi f [oi u,oi v]=some (.val (oi (W u v))))/\noclo f=false/\K84.L_way.f [.int c]=some (.val f):=by
 have h:c % 5=0 \/ c % 5=1 \/ c % 5=2 \/ c % 5=3 \/ c % 5=4:=by omega
 have x0:∀ a b c d e:D,ixD (.lst [a,b,c,d,e]) (.int 0)=some a:=fun a b c d e=>by rw [jZ _ (by decide) (by simp)]; rfl
 have x1:∀ a b c d e:D,ixD (.lst [a,b,c,d,e]) (.int 1)=some b:=fun a b c d e=>by rw [jZ _ (by decide) (by simp)]; rfl
 have x2:∀ a b c d e:D,ixD (.lst [a,b,c,d,e]) (.int 2)=some c:=fun a b c d e=>by rw [jZ _ (by decide) (by simp)]; rfl
 have x3:∀ a b c d e:D,ixD (.lst [a,b,c,d,e]) (.int 3)=some d:=fun a b c d e=>by rw [jZ _ (by decide) (by simp)]; rfl
 have x4:∀ a b c d e:D,ixD (.lst [a,b,c,d,e]) (.int 4)=some e:=fun a b c d e=>by rw [jZ _ (by decide) (by simp)]; rfl
 have a0:0<=c / 5 % 1000/\c / 5 % 1000 < 1000:=by omega
 have mu:∀ y:Int,yT (.int (c / 5 % 1000)) (.int y)=some (.int (c / 5 % 1000 * y)):=fun y=>yA (.of_left (jH (Nat.lt_of_le_of_lt (show (c / 5 % 1000).natAbs<=1000 by omega) (by decide))))
 generalize hA:c / 5 % 1000=A at *
 unfold K84.L_way.f runG K84.L_way.g
 rcases h with h | h | h | h | h
 · refine ⟨.clo 3 0 [], fun u v => match u with | none => v | some x => some x, fun u v => ?_, by simp [noclo], by simp [args, cloV, capsA, retCG, flatC, flats, flat, h, x0, hA]⟩
   have e:K84.Phi (.clo 3 0 []) [oi u,oi v]=lamS 2 K84.lam__law_way_0 [] [oi u,oi v]:=rfl
   rw [e]
   unfold lamS K84.lam__law_way_0
   cases u <;> cases v <;> simp [flat]
 · refine ⟨.clo 3 1 [.int A], fun u v => match u, v with | some x, some y => some (x + A * y) | _, _ => none, fun u v => ?_, by simp [noclo], by simp [args, cloV, capsA, retCG, flatC, flats, flat, h, x1, hA]⟩
   have e:K84.Phi (.clo 3 1 [.int A]) [oi u,oi v]=lamS 2 K84.lam__law_way_1 [.int A] [oi u,oi v]:=rfl
   rw [e]
   unfold lamS K84.lam__law_way_1
   cases u <;> cases v <;> simp [flat,mu]
 · refine ⟨.clo 3 2 [], fun u v => some (if u = v then 1 else 0), fun u v => ?_, by simp [noclo], by simp [args, cloV, capsA, retCG, flatC, flats, flat, h, x2, hA]⟩
   have e:K84.Phi (.clo 3 2 []) [oi u,oi v]=lamS 2 K84.lam__law_way_2 [] [oi u,oi v]:=rfl
   rw [e]
   unfold lamS K84.lam__law_way_2
   have q:=eqD_oi u v
   generalize oi u=U at *
   generalize oi v=V at *
   simp [flat,q,int1D]
 · refine ⟨.clo 3 3 [], fun u v => match u, v with | some x, none => some x | _, _ => none, fun u v => ?_, by simp [noclo], by simp [args, cloV, capsA, retCG, flatC, flats, flat, h, x3, hA]⟩
   have e:K84.Phi (.clo 3 3 []) [oi u,oi v]=lamS 2 K84.lam__law_way_3 [] [oi u,oi v]:=rfl
   rw [e]
   unfold lamS K84.lam__law_way_3
   cases u <;> cases v <;> simp [flat]
 · refine ⟨.clo 3 4 [.int A], fun u v => match u with | none => some A | some x => some (x % 2), fun u v => ?_, by simp [noclo], by simp [args, cloV, capsA, retCG, flatC, flats, flat, h, x4, hA]⟩
   have e:K84.Phi (.clo 3 4 [.int A]) [oi u,oi v]=lamS 2 K84.lam__law_way_4 [.int A] [oi u,oi v]:=rfl
   rw [e]
   unfold lamS K84.lam__law_way_4
   cases u <;> cases v <;> simp [flat]
theorem vR {M L:Int} (hL:0 < L) {s:Nat} (h:M=(s:Int) * L):M / L=(s:Int):=by rw [h,Int.mul_ediv_cancel _ (by omega)]
theorem turns_of {M L:Int} (hL:0 < L) {s:Nat} (h:M=(s:Int) * L):(M - 1) / L - 0 / L=(s:Int) - 1:=by
 have e1:M - 1=(L - 1)+((s:Int) - 1) * L:=by rw [h,Int.sub_mul]; omega
 rw [e1,Int.add_mul_ediv_right _ _ (by omega),Int.zero_ediv,Int.ediv_eq_zero_of_lt (by omega) (by omega)]
 omega
theorem roll_all {L:Int} {ps:List Rw} (w:Whl L ps) {M:Int} (hM:0 < M) (hb:M < 10 ^ 200) {s:Nat} (hs:M=(s:Int) * L) (hz:sizeF L ps (s:Int)<=300) :
  ∃ as:List Rw,MapF as/\(as.length:Int)<=sizeF L ps (s:Int)/\(∀ p,0<=p->p < M->valL as p=gOf ps L p)/\GP.rolled_out.f [whD L ps,.tup [.int 0,.int M]]=some (.fresh (as.map rwD)):=by
 have hp:=w.pos
 have B:(10:Int) ^ 200 < 10 ^ 380:=by decide +kernel
 have B0:(0:Int) < 10 ^ 380:=by decide +kernel
 have fin:∀ as:List Rw,MapF as->(∀ p v,Tel as p v↔(0<=p/\p < M)/\gOf ps L p=some v)->∀ p,0<=p->p < M->valL as p=gOf ps L p:=fun as m t p h0 h1=>by
  apply opt_ext
  intro v
  rw [yC m.ord,t]
  exact ⟨fun h=>h.2,fun h=>⟨⟨h0,h1⟩,h⟩⟩
 by_cases hL:L=1
 · subst hL
   obtain ⟨as,m,l,_,t,e⟩:=unitTwo w (a:=0) (b:=M) hM
   refine ⟨as,m,?_,fin as m t,e⟩
   have:ps.length<=1:=by rcases whl_unit w with rfl | ⟨v,rfl⟩ <;> simp
   unfold sizeF
   rw [if_pos rfl]
   omega
 · have tn := turns_of hp hs
   have zz:sizeF L ps (s:Int)=(s:Int) * ((ps.length:Int)+1):=by unfold sizeF; rw [if_neg hL]
   have h1:(s:Int) * 1<=(s:Int) * ((ps.length:Int)+1):=Int.mul_le_mul_of_nonneg_left (by omega) (by omega)
   obtain ⟨as,m,l,t,e⟩:=rolled_big w w.len (by omega) (s:=0) (e:=M) hM (by rw [tn]; omega) (by generalize (10:Int) ^ 380=A at *; omega) (by generalize (10:Int) ^ 380=A at *; generalize (10:Int) ^ 200=C at *; omega)
   rw [tn] at l
   have hn:((s:Int) - 1+1).toNat=s:=by omega
   rw [hn] at l
   refine ⟨as,m,?_,fin as m t,e⟩
   rw [zz]
   have l':(as.length:Int)<=((s * ps.length:Nat):Int):=by omega
   rw [Int.natCast_mul] at l'
   have:(s:Int) * (ps.length:Int)<=(s:Int) * ((ps.length:Int)+1):=Int.mul_le_mul_of_nonneg_left (by omega) (by omega)
   omega
section
variable {L1 L2 M:Int} {ps qs:List Rw} (w1:Whl L1 ps) (w2:Whl L2 qs) (hM:0 < M) (hb:M < 10 ^ 200) {s1 s2:Nat} (e1:M=(s1:Int) * L1) (e2:M=(s2:Int) * L2) (lm:GP.least_multiple.f [.int L1,.int L2]=some (.val (.int M))) (f:D)
include w1 w2 e1 e2 lm
theorem joinX:K84.X_wheel_joined_10.f [whD L1 ps,whD L2 qs,f]=decide (sizeF L1 ps (s1:Int)+sizeF L2 qs (s2:Int) > 300):=by
 have x0:=wh0 L1 ps
 have y0:=wh0 L2 qs
 have f1:qY (.int M) (.int L1)=some (.int (s1:Int)):=by rw [jF w1.pos w1.bnd,vR w1.pos e1]
 have f2:qY (.int M) (.int L2)=some (.int (s2:Int)):=by rw [jF w2.pos w2.bnd,vR w2.pos e2]
 have z1:=size_eq L1 (ps:=ps) (by have:=w1.len; omega) (s1:Int)
 have z2:=size_eq L2 (ps:=qs) (by have:=w2.len; omega) (s2:Int)
 generalize sizeF L1 ps (s1:Int)=u at *
 generalize sizeF L2 qs (s2:Int)=v at *
 generalize whD L1 ps=W1 at *
 generalize whD L2 qs=W2 at *
 unfold K84.X_wheel_joined_10.f runX K84.X_wheel_joined_10.x seqX
 by_cases h:u+v > 300
 · simp [args,x0,y0,lm,f1,f2,z1,z2,ifX,h,alwaysX,retV]
 · simp [args,x0,y0,lm,f1,f2,z1,z2,ifX,h,neverX,retV]
include hM hb in
theorem join_ex {W:Option Int->Option Int->Option Int} (hW:∀ u v,K84.Phi f [oi u,oi v]=some (.val (oi (W u v)))) (hz:sizeF L1 ps (s1:Int)+sizeF L2 qs (s2:Int)<=300) (n1:0<=sizeF L1 ps (s1:Int)) (n2:0<=sizeF L2 qs (s2:Int)) :
  ∃ (L t:Int) (rs:List Rw),Whg L rs/\t * L=M/\0 < t/\(L=1 \/ t<=2 * (sizeF L1 ps (s1:Int)+sizeF L2 qs (s2:Int)))/\(∀ p,gOf rs L p=W (gOf ps L1 p) (gOf qs L2 p))/\rs.length<=1000/\GP.wheel_joined.f K84.Phi [whD L1 ps,whD L2 qs,f]=some (.val (whD L rs)):=by
 have x0:=wh0 L1 ps
 have y0:=wh0 L2 qs
 have f1:qY (.int M) (.int L1)=some (.int (s1:Int)):=by rw [jF w1.pos w1.bnd,vR w1.pos e1]
 have f2:qY (.int M) (.int L2)=some (.int (s2:Int)):=by rw [jF w2.pos w2.bnd,vR w2.pos e2]
 have z1:=size_eq L1 (ps:=ps) (by have:=w1.len; omega) (s1:Int)
 have z2:=size_eq L2 (ps:=qs) (by have:=w2.len; omega) (s2:Int)
 obtain ⟨as,ma,la,va,ea⟩:=roll_all w1 hM hb e1 (by omega)
 obtain ⟨bs,mb,lb,vb,eb⟩:=roll_all w2 hM hb e2 (by omega)
 have je:=joined_eq hW ma.ord mb.ord (by omega) (by omega)
 have mj:=join_mapF W ma.ord mb.ord
 have lj:=join_len W as bs
 obtain ⟨L,t,rs,wg,gv,tL,t0,tc,lr,we⟩:=vA mj (T:=M) hM hb (by omega)
 have gQ:∀ p,gOf (wM W as bs) M p=W (gOf ps L1 p) (gOf qs L2 p):=fun p=>by
  have m0:=Int.emod_nonneg p (Int.ne_of_gt hM)
  have m1:=Int.emod_lt_of_pos p hM
  have d:=Int.emod_add_mul_ediv p M
  have a1:gOf ps L1 (p % M)=gOf ps L1 p:=by
   have:=(yY ps L1).int (p % M) (p / M * (s1:Int))
   rw [Int.mul_assoc,<- e1] at this
   rw [<- this]
   congr 1
   have:=Int.mul_comm (p / M) M
   omega
  have a2:gOf qs L2 (p % M)=gOf qs L2 p:=by
   have:=(yY qs L2).int (p % M) (p / M * (s2:Int))
   rw [Int.mul_assoc,<- e2] at this
   rw [<- this]
   congr 1
   have:=Int.mul_comm (p / M) M
   omega
  show valL (wM W as bs) (p % M)=_
  rw [join_at W ma.ord mb.ord,va _ m0 m1,vb _ m0 m1,a1,a2]
 have hz' : ¬ sizeF L1 ps (s1:Int)+sizeF L2 qs (s2:Int) > 300:=by omega
 obtain ⟨A1,c1,h1⟩:=chg_list w1 s1
 obtain ⟨A2,c2,h2⟩:=chg_list w2 s2
 have hC:=chg_is mj hM
 have cnt:((chgF (wM W as bs) M).map (·.1)).length<=(A1++A2).length:=by
  refine nodup_le ?_ fun x hx=>?_
  · have := hC.srt
    rw [List.Nodup,List.pairwise_map]
    exact this.imp fun h=>Int.ne_of_lt h
  · obtain ⟨c, hc, rfl⟩ := List.mem_map.mp hx
    obtain ⟨q1,q2,_,q4⟩:=hC.at_ c hc
    rw [gQ,gQ] at q4
    by_cases e:gOf ps L1 (c.1 - 1)=gOf ps L1 c.1
    · by_cases e' : gOf qs L2 (c.1 - 1) = gOf qs L2 c.1
      · rw [e,e'] at q4; exact (q4 rfl).elim
      · exact List.mem_append_right _ (h2 _ q1 (by rw [<- e2]; exact q2) e')
    · exact List.mem_append_left _ (h1 _ q1 (by rw [<- e1]; exact q2) e)
 rw [List.length_map,List.length_append] at cnt
 refine ⟨L,t,rs,wg,tL,t0,tc.imp id (fun z=>by omega),fun p=>by rw [gv,gQ],by omega,yU ?_⟩
 unfold GP.wheel_joined.g
 generalize whD L rs=R at *
 generalize sizeF L1 ps (s1:Int)=u at *
 generalize sizeF L2 qs (s2:Int)=v at *
 generalize whD L1 ps=X at *
 generalize whD L2 qs=Y at *
 generalize (wM W as bs).map rwD=J at *
 generalize as.map rwD=A at *
 generalize bs.map rwD=Bl at *
 simp [args,x0,y0,lm,f1,f2,z1,z2,hz',ea,eb,je,we,retV,retDG]
end
theorem weight84 {L:Int} {ps:List Rw} (w:Whl L ps) {M:Int} {s:Nat} (e:M=(s:Int) * L):K84.L_weight.f [whD L ps,.int M]=some (.val (.int (sizeF L ps (s:Int)))):=by
 have wl:=w.len
 have w0:=wh0 L ps
 have w1:=wh1 L ps
 have f1:qY (.int M) (.int L)=some (.int (s:Int)):=by rw [jF w.pos w.bnd,vR w.pos e]
 have mu:yT (.int (s:Int)) (.int ((ps.length:Int)+1))=some (.int ((s:Int) * ((ps.length:Int)+1))):=sz2 (sz1 (by omega))
 have hlen:lenD [.lst (ps.map rwD)]=some (.int (ps.length:Int)):=by simp
 refine yU ?_
 unfold K84.L_weight.g sizeF
 generalize (ps.length:Int)=m at *
 generalize ps.map rwD=PL at *
 generalize whD L ps=WL at *
 by_cases h:L=1
 · simp only [h, if_true] at *
   simp [args,w0]
 · simp [args,w0,w1,h,hlen,f1,mu]
theorem spot_turn {L:Int} {ps:List Rw} (hl:ps.length<=1000) (Ms:Sl) (xs:List Int) (k:Nat) (hk:k<=1000) (hz:xs.length<=10000000):∃ ys:List Int,ys.length<=xs.length+2001/\K84.L_spots.b1 [.v (whD L ps),Ms,.own (xs.map D.int),.v (.int (0+(k:Int)))]=some (.nx [.v (whD L ps),Ms,.own (ys.map D.int),.v (.int (0+(k:Int)))]):=by
 have w0:=wh0 L ps
 have w1:=wh1 L ps
 have en:=ends2_eq ps (by omega)
 have el:=endsM_len ps
 have mu:yT (.int (0+(k:Int))) (.int L)=some (.int ((0+(k:Int)) * L)):=yA (.of_left (jH (Nat.lt_of_le_of_lt (show (0+(k:Int)).natAbs<=1000 by omega) (by decide))))
 have cm:compG (viaA (mkL (catA (mkL (qN (zG (zE (.int 0)) qC))) (qF 1 GL.ends2.f (zG (zL ixD (zJ 0) (zE (.int 1))) qC)))) asLT) [none,some 3,some 0] (zT 0) (fun _=>some true) (zL xN (zL yT (zJ 1) (zL ixD (zJ 2) (zE (.int 0)))) (zJ 0)) [.v (whD L ps),Ms,.own (xs.map D.int),.v (.int (0+(k:Int)))]=some (((0::endsM ps).map ((0+(k:Int)) * L+·)).map D.int):=by
  refine wB (items:=(0::endsM ps).map D.int) ?_ (by rw [List.length_map,List.length_cons,show sizeLine=16777216 from rfl]; omega) ?_
  · have z1 : ((endsM ps).map D.int).length + 1 <= 16777216 := by rw [List.length_map]; omega
    have e:(0::endsM ps).map D.int=[D.int 0]++(endsM ps).map D.int:=rfl
    rw [e]
    generalize (endsM ps).map D.int=EL at *
    generalize ps.map rwD=PL at *
    generalize whD L ps=WL at *
    simp [w1,en,retV,z1,Nat.add_comm]
  · rw [List.map_map]
    refine yV D.int _ _ fun e _=>⟨[.v (.int e),.v (.int (0+(k:Int))),.v (whD L ps)],by simp [jS],?_⟩
    generalize whD L ps=WL at *
    simp only [bin2_eq,getW_eq,List.getElem?_cons_zero,List.getElem?_cons_succ,Option.bind_some,konst_eq,w0,mu,addD_int]
    rfl
 refine ⟨xs++(0::endsM ps).map ((0+(k:Int)) * L+·),by simp; omega,?_⟩
 unfold K84.L_spots.b1
 have z2:(xs.map D.int).length+(((0::endsM ps).map ((0+(k:Int)) * L+·)).map D.int).length<=16777216:=by simp only [List.length_map,List.length_cons]; omega
 rw [List.map_append]
 generalize ((0::endsM ps).map ((0+(k:Int)) * L+·)).map D.int=FE2 at *
 generalize 0+(k:Int)=kk at *
 generalize xs.map D.int=XL at *
 generalize whD L ps=WL at *
 simp [cm,z2]
theorem vY {L:Int} (hL:0 < L) (hLb:L < 10 ^ 200) {ps:List Rw} (hl:ps.length<=1000) {M:Int} {s:Nat} (e:M=(s:Int) * L) (hs:L=1 \/ s<=700):∃ xs:List Int,xs.length<=2000000/\K84.L_spots.f [whD L ps,.int M]=some (.fresh (xs.map D.int)):=by
 have w0:=wh0 L ps
 have f1:qY (.int M) (.int L)=some (.int (s:Int)):=by rw [jF hL hLb,vR hL e]
 have ar:args 4 [whD L ps,.int M]=[.v (whD L ps),.v (.int M),.no,.no]:=by simp [args]
 by_cases h:L=1
 · refine ⟨[0], by simp, yU ?_⟩
   rw [ar]
   unfold K84.L_spots.g
   generalize whD L ps=WL at *
   simp [w0,h]
 · have hs := hs.resolve_left h
   obtain ⟨ds',el,xs,y,hx,rfl⟩:=loop_invN (ga:=zT 3) (body:=K84.L_spots.b1) (fun n ds=>∃ (xs:List Int) (y:Sl),xs.length<=1+2001 * n/\ds=[.v (whD L ps),.v (.int M),.own (xs.map D.int),y]) (rangeD 0 s) 0 [.v (whD L ps),.v (.int M),.own ([0].map D.int),.no] ⟨[0],.no,by simp,rfl⟩ (by
    rintro d hd m _ hm ⟨xs,y,hx,rfl⟩
    obtain ⟨k,hk,rfl⟩:=mem_rangeD hd
    have rl:(rangeD 0 s).length=s:=by simp [rangeD]
    obtain ⟨ys,hy,e⟩:=spot_turn (L:=L) hl (.v (.int M)) xs k (by omega) (by omega)
    exact ⟨_,_,rfl,.inl e,ys,_,by omega,rfl⟩)
   have rl:(rangeD 0 s).length=s:=by simp [rangeD]
   rw [rl] at hx
   refine ⟨xs,by omega,yU ?_⟩
   have okr:okR (s:Int):=xX (by omega) (by omega)
   have fl:=flats_ints xs
   rw [ar]
   unfold K84.L_spots.g
   rw [qX (ds':=[.v (whD L ps),.v (.int M),.own ([0].map D.int),.no]) (by simp)]
   rw [qX (ds':=[.v (whD L ps),.v (.int M),.own (xs.map D.int),y]) (by
    generalize xs.map D.int=XL at *
    generalize [(0:Int)].map D.int=X0 at *
    generalize whD L ps=WL at *
    rw [if_yes (by simp [w0]; omega),forG_eq]
    have it:rng1 (zL qY (zJ 1) (zL ixD (zJ 0) (zE (.int 0)))) [.v WL,.v (.int M),.own X0,.no]=some (rangeD 0 s):=by simp [rng1,w0,f1,okr]
    rw [it]
    exact el)]
   generalize xs.map D.int=XL at *
   simp [fl]
def whT (L:Int) (ps:List Rw):OT:=.tup [.val (.int L),.lst ((ps.map rwD).map OT.val)]
theorem otD_wh (L:Int) (ps:List Rw):otD (whT L ps)=whD L ps:=by
 unfold whT whD
 simp only [otD,otDs,otDs_vals]
theorem cells (ns:List Int) (hb:∀ c∈ns,intBits c<=1048576) (a b:Int) (h0:0<=a) (hab:a<=b) (h3:b<=a+3):∃ cs:List Int,cs.length<=3/\FL.cutD (ns.map D.int) (some a) (some b)=cs.map D.int:=by
 refine ⟨(ns.drop (HT.sIx ns.length 0 (some a))).take (HT.sIx ns.length ns.length (some b) - HT.sIx ns.length 0 (some a)),?_,?_⟩
 · rw [List.length_take]
   have:HT.sIx ns.length ns.length (some b) - HT.sIx ns.length 0 (some a)<=3:=by
    unfold HT.sIx
    simp only
    rw [if_neg (by omega),if_neg (by omega)]
    omega
   omega
 · unfold FL.cutD
   rw [List.length_map,List.map_take,List.map_drop]
theorem size_nn (L:Int) (ps:List Rw) (s:Nat):0<=sizeF L ps (s:Int):=by
 unfold sizeF
 split
 · omega
 · exact Int.mul_nonneg (by omega) (by omega)
theorem run_law (ns:List Int) (hl:ns.length<=63) (hb:∀ c∈ns,intBits c<=1048576):K84.law.f [.lst (ns.map D.int)]=some (.val (.bl true)):=by
 have c0:GL.nth.f [.lst (ns.map D.int),.int 0]=some (.val (.int (cel ns 0))):=nth_eq ns 0
 have c1:GL.nth.f [.lst (ns.map D.int),.int 1]=some (.val (.int (cel ns 1))):=nth_eq ns 1
 have c2:GL.nth.f [.lst (ns.map D.int),.int 2]=some (.val (.int (cel ns 2))):=nth_eq ns 2
 have c3:GL.nth.f [.lst (ns.map D.int),.int 3]=some (.val (.int (cel ns 3))):=nth_eq ns 3
 obtain ⟨cs1,l1,ec1⟩:=cells ns hb 4 7 (by decide) (by decide) (by decide)
 obtain ⟨cs2,l2,ec2⟩:=cells ns hb 7 10 (by decide) (by decide) (by decide)
 have p60:powD (.int 10) (.int 60)=some (.int (10 ^ 60)):=pow10 (by decide) (by decide)
 have p120:=pow1602
 have k1:(0:Int) < (10 ^ 60) ^ 2:=by decide +kernel
 have k2:(289:Int) * (10 ^ 60) ^ 2 < 10 ^ 130:=by decide +kernel
 have k3:(10:Int) ^ 130 < 10 ^ 200:=by decide +kernel
 suffices G:Good K84.law.g (args 13 [.lst (ns.map D.int)]) (fun r=>r = .val (.bl true)) by
  obtain ⟨r,e,rfl⟩:=G
  exact yU e
 have ar:args 13 [.lst (ns.map D.int)]=[.v (.lst (ns.map D.int)),.no,.no,.no,.no,.no,.no,.no,.no,.no,.no,.no,.no]:=by simp [args]
 rw [ar]
 unfold K84.law.g
 generalize cel ns 0=e0 at *
 generalize cel ns 1=e1 at *
 generalize cel ns 2=e2 at *
 generalize cel ns 3=e3 at *
 generalize ns.map D.int=NS at *
 obtain ⟨u,u1,u2,eu⟩:∃ u:Int,0 < u/\u<=(10 ^ 60) ^ 2/\ixD (.lst [.int 1,.int 1,.int 1,.int ((10 ^ 60) ^ 2)]) (.int (e0 % 4))=some (.int u):=by
  generalize ((10:Int) ^ 60) ^ 2=U at *
  rcases (by omega:e0 % 4=0 \/ e0 % 4=1 \/ e0 % 4=2 \/ e0 % 4=3) with h | h | h | h
  · exact ⟨1,by decide,by omega,by rw [h]; simp⟩
  · exact ⟨1,by decide,by omega,by rw [h]; simp⟩
  · exact ⟨1,by decide,by omega,by rw [h]; simp⟩
  · exact ⟨U,by omega,by omega,by rw [h]; rw [jZ _ (by decide) (by simp)]; rfl⟩
 refine qT (ds':=[.v (.lst NS),.v (.int u),.no,.no,.no,.no,.no,.no,.no,.no,.no,.no,.no]) (by
  have p120:powD (.int (10 ^ 60)) (.int 2)=some (.int ((10 ^ 60) ^ 2)):=p120
  generalize hU:((10:Int) ^ 60) ^ 2=U at *
  generalize (10:Int) ^ 60=V at *
  simp [c0,p60,p120,eu,retV]) ?_
 obtain ⟨ka,ps0,ka1,ka2,ma,ia,la,ea⟩:=small_ex cs1 l1 e1 u1
 have hT1:0 < ka * u:=Int.mul_pos (by omega) u1
 have bT1:ka * u<=17 * u:=Int.mul_le_mul_of_nonneg_right ka2 (by omega)
 obtain ⟨La,pa,wa,_,hLa,hpa,ewa⟩:=wheel_whl ma (T:=ka * u) hT1 (by generalize (10:Int) ^ 200=A at *; generalize (10:Int) ^ 130=B at *; generalize ((10:Int) ^ 60) ^ 2=U at *; omega) (by omega)
 obtain ⟨La',ta,pa',wga,_,tLa,ta0,_,_,ewa'⟩:=vA ma (T:=ka * u) hT1 (by generalize (10:Int) ^ 200=A at *; generalize (10:Int) ^ 130=B at *; generalize ((10:Int) ^ 60) ^ 2=U at *; omega) (by omega)
 have same1:La'=La:=by
  rw [ewa] at ewa'
  have:=Option.some.inj ewa'
  injection this with this
  unfold whD at this
  injection this with this
  have:=List.cons.inj this
  injection this.1 with h
  exact h.symm
 rw [same1] at tLa
 refine qT (ds':=[.v (.lst NS),.v (.int u),.v (.int (ka * u)),.v (.lst (ps0.map rwD)),.no,.no,.no,.no,.no,.no,.no,.no,.no]) (by
  generalize ps0.map rwD=P0 at *
  generalize ka * u=T1 at *
  simp [ec1,c1,ea,retV]) ?_
 refine qT (ds':=[.v (.lst NS),.v (.int u),.v (.int (ka * u)),.v (.lst (ps0.map rwD)),.v (whD La pa),.no,.no,.no,.no,.no,.no,.no,.no]) (by
  generalize ps0.map rwD=P0 at *
  generalize ka * u=T1 at *
  simp [ewa,retV]) ?_
 refine good_ex (fun ds=>∃ v:Int,0 < v/\(v=u \/ v=1 \/ v=ka * u)/\ds=[.v (.lst NS),.v (.int v),.v (.int (ka * u)),.v (.lst (ps0.map rwD)),.v (whD La pa),.no,.no,.no,.no,.no,.no,.no,.no]) ?_ ?_
 · by_cases h : e0 / 4 % 3 = 0
   · have mu : yT (.int (ka * u - 1)) (.int (e3 % 2)) = some (.int ((ka * u - 1) * (e3 % 2))) := yA (.of_right (jH (Nat.lt_of_le_of_lt (show (e3 % 2).natAbs <= 1 by omega) (by decide))))
     refine ⟨_,?_,1+(ka * u - 1) * (e3 % 2),?_,?_,rfl⟩
     · rw [if_yes (by simp [c0, retV, h])]
       generalize ps0.map rwD=P0 at *
       generalize ka * u=T1 at *
       generalize whD La pa=W1 at *
       simp [c3,retV,mu]
     · rcases (by omega : e3 % 2 = 0 \/ e3 % 2 = 1) with z | z
       · rw [z]; omega
       · rw [z]; omega
     · rcases (by omega : e3 % 2 = 0 \/ e3 % 2 = 1) with z | z
       · rw [z]; omega
       · rw [z]; omega
   · refine ⟨_, ?_, u, u1, .inl rfl, rfl⟩
     rw [wK (by simp [c0,retV,h])]
     rfl
 rintro _ ⟨v,v0,hv,rfl⟩
 obtain ⟨kb,qs0,kb1,kb2,mb,ib,lb,eb⟩:=small_ex cs2 l2 e2 v0
 have hT2:0 < kb * v:=Int.mul_pos (by omega) v0
 have bC:ka * kb * u<=289 * u:=Int.mul_le_mul_of_nonneg_right (by
  have:ka * kb<=17 * 17:=Int.mul_le_mul ka2 kb2 (by omega) (by omega)
  omega) (by omega)
 have hC0:0 < ka * kb * u:=Int.mul_pos (Int.mul_pos (by omega) (by omega)) u1
 obtain ⟨cm1,hcm1⟩:∃ s:Nat,ka * kb * u=(s:Int) * (ka * u):=⟨kb.toNat,by
  rw [Int.toNat_of_nonneg (by omega),<- Int.mul_assoc,Int.mul_comm kb ka]⟩
 obtain ⟨cm2,hcm2⟩:∃ s:Nat,ka * kb * u=(s:Int) * (kb * v):=by
  rcases hv with rfl | rfl | rfl
  · exact ⟨ka.toNat,by rw [Int.toNat_of_nonneg (by omega),<- Int.mul_assoc]⟩
  · exact ⟨(ka * u).toNat,by rw [Int.toNat_of_nonneg (by omega),Int.mul_one,Int.mul_assoc,Int.mul_assoc,Int.mul_comm kb u]⟩
  · exact ⟨1,by rw [show ((1:Nat):Int)=1 from rfl,Int.one_mul,<- Int.mul_assoc,Int.mul_comm kb ka]⟩
 have bT2:kb * v<=ka * kb * u:=by
  rw [hcm2]
  have:1<=cm2:=by
   rcases Nat.eq_zero_or_pos cm2 with z | z
   · rw [z] at hcm2; simp at hcm2; omega
   · exact z
  have:1 * (kb * v)<=(cm2:Int) * (kb * v):=Int.mul_le_mul_of_nonneg_right (by omega) (by omega)
  omega
 obtain ⟨Lb,pb,wb,_,hLb,hpb,ewb⟩:=wheel_whl mb (T:=kb * v) hT2 (by generalize (10:Int) ^ 200=A at *; generalize (10:Int) ^ 130=B at *; generalize ((10:Int) ^ 60) ^ 2=U at *; omega) (by omega)
 obtain ⟨Lb',tb,pb',wgb,_,tLb,tb0,_,_,ewb'⟩:=vA mb (T:=kb * v) hT2 (by generalize (10:Int) ^ 200=A at *; generalize (10:Int) ^ 130=B at *; generalize ((10:Int) ^ 60) ^ 2=U at *; omega) (by omega)
 have same2:Lb'=Lb:=by
  rw [ewb] at ewb'
  have:=Option.some.inj ewb'
  injection this with this
  unfold whD at this
  injection this with this
  have:=List.cons.inj this
  injection this.1 with h
  exact h.symm
 rw [same2] at tLb
 have iwa:=xQ (show 1<=La by have:=wa.pos; omega) wa.map wa.ins (by omega)
 have iwb:=xQ (show 1<=Lb by have:=wb.pos; omega) wb.map wb.ins (by omega)
 obtain ⟨M,hM,⟨s1,hs1⟩,⟨s2,hs2⟩,hmin,lm,cmn⟩:=com_eq wa.pos wb.pos wa.bnd wb.bnd
 have hMC:M<=ka * kb * u:=by
  have h1:=hmin (ka * kb * u).toNat (by omega) ⟨cm1 * ta.toNat,by
   rw [Int.toNat_of_nonneg (by omega),hcm1,Int.natCast_mul,Int.toNat_of_nonneg (by omega),Int.mul_assoc,tLa]⟩ ⟨cm2 * tb.toNat,by
   rw [Int.toNat_of_nonneg (by omega),hcm2,Int.natCast_mul,Int.toNat_of_nonneg (by omega),Int.mul_assoc,tLb]⟩
  rw [Int.toNat_of_nonneg (by omega)] at h1
  exact h1
 have hMb:M < 10 ^ 200:=by generalize (10:Int) ^ 200=A at *; generalize (10:Int) ^ 130=B at *; generalize ((10:Int) ^ 60) ^ 2=U at *; omega
 have wt1:=weight84 wa hs1
 have wt2:=weight84 wb hs2
 obtain ⟨fw,W,hW,nf,ewy⟩:=way_ex (e3 / 2)
 have jx:=joinX wa wb hs1 hs2 lm fw
 have nn1:=size_nn La pa s1
 have nn2:=size_nn Lb pb s2
 refine qT (ds':=[.v (.lst NS),.v (.int v),.v (.int (kb * v)),.v (.lst (qs0.map rwD)),.v (whD La pa),.no,.no,.no,.no,.no,.no,.no,.no]) (by
  generalize ps0.map rwD=P0 at *
  generalize qs0.map rwD=Q0 at *
  generalize ka * u=T1 at *
  generalize kb * v=T2 at *
  generalize whD La pa=W1 at *
  simp [ec2,c2,eb,retV]) ?_
 refine qT (ds':=[.v (.lst NS),.v (.int v),.v (.int (kb * v)),.v (.lst (qs0.map rwD)),.v (whD La pa),.v (whD Lb pb),.no,.no,.no,.no,.no,.no,.no]) (by
  generalize qs0.map rwD=Q0 at *
  generalize kb * v=T2 at *
  generalize whD La pa=W1 at *
  simp [ewb,retV]) ?_
 generalize qs0.map rwD=Q0 at *
 have xa0:=wh0 La pa
 have xa1:=wh1 La pa
 have xb0:=wh0 Lb pb
 have xb1:=wh1 Lb pb
 refine qT (ds':=[.v (.lst NS),.v (.int v),.v (.int (kb * v)),.v (.lst Q0),.v (whD La pa),.v (whD Lb pb),.no,.no,.no,.no,.no,.no,.no]) (by
  generalize whD La pa=W1 at *
  generalize whD Lb pb=W2 at *
  simp [iwa,iwb,retV]) ?_
 refine qT (ds':=[.v (.lst NS),.v (.int v),.v (.int (kb * v)),.v (.lst Q0),.v (whD La pa),.v (whD Lb pb),.v (.int M),.no,.no,.no,.no,.no,.no]) (by
  generalize whD La pa=W1 at *
  generalize whD Lb pb=W2 at *
  simp [xa0,xb0,cmn,retV]) ?_
 refine qT (ds':=[.v (.lst NS),.v (.int v),.v (.int (kb * v)),.v (.lst Q0),.v (whD La pa),.v (whD Lb pb),.v (.int M),.v (.int (sizeF La pa (s1:Int)+sizeF Lb pb (s2:Int))),.no,.no,.no,.no,.no]) (by
  generalize sizeF La pa (s1:Int)=z1 at *
  generalize sizeF Lb pb (s2:Int)=z2 at *
  generalize whD La pa=W1 at *
  generalize whD Lb pb=W2 at *
  simp [wt1,wt2,retV]) ?_
 refine qT (ds':=[.v (.lst NS),.v (.int v),.v (.int (kb * v)),.v (.lst Q0),.v (whD La pa),.v (whD Lb pb),.v (.int M),.v (.int (sizeF La pa (s1:Int)+sizeF Lb pb (s2:Int))),.v fw,.no,.no,.no,.no]) (by
  generalize sizeF La pa (s1:Int)+sizeF Lb pb (s2:Int)=z at *
  generalize whD La pa=W1 at *
  generalize whD Lb pb=W2 at *
  simp [c3,ewy,retV]) ?_
 refine qT (ds':=[.v (.lst NS),.v (.int v),.v (.int (kb * v)),.v (.lst Q0),.v (whD La pa),.v (whD Lb pb),.v (.int M),.v (.int (sizeF La pa (s1:Int)+sizeF Lb pb (s2:Int))),.v fw,.v (.bl false),.no,.no,.no]) (by simp) ?_
 refine qT (ds':=[.v (.lst NS),.v (.int v),.v (.int (kb * v)),.v (.lst Q0),.v (whD La pa),.v (whD Lb pb),.v (.int M),.v (.int (sizeF La pa (s1:Int)+sizeF Lb pb (s2:Int))),.v fw,.v (.bl false),.v .non,.no,.no]) (by simp) ?_
 refine qT (ds':=[.v (.lst NS),.v (.int v),.v (.int (kb * v)),.v (.lst Q0),.v (whD La pa),.v (whD Lb pb),.v (.int M),.v (.int (sizeF La pa (s1:Int)+sizeF Lb pb (s2:Int))),.v fw,.v (.bl false),.v .non,.ob none (.lst [whT La pa,whT Lb pb]),.no]) (by
  unfold whT
  generalize sizeF La pa (s1:Int)+sizeF Lb pb (s2:Int)=z at *
  generalize pa.map rwD=PA at *
  generalize pb.map rwD=PB at *
  generalize whD La pa=W1 at *
  generalize whD Lb pb=W2 at *
  simp [sO,xa0,xa1,xb0,xb1]) ?_
 have od:otD (.lst [whT La pa,whT Lb pb]) = .lst [whD La pa,whD Lb pb]:=by simp only [otD,otDs,otD_wh]
 have neH:neD (.lst [whD La pa,whD Lb pb]) (.lst [whD La pa,whD Lb pb])=some (.bl false):=by
  have h1:=eqv_wh La La pa pa
  have h2:=eqv_wh Lb Lb pb pb
  rw [decide_eq_true ⟨rfl,rfl⟩] at h1 h2
  have s1:=shal_wh La pa
  have s2:=shal_wh Lb pb
  generalize whD La pa=W1 at *
  generalize whD Lb pb=W2 at *
  rw [vT (by simp [s1,s2]) (by simp [s1,s2])]
  simp [h1,h2]
 have sb1:subO [0,1] (.lst [whT La pa,whT Lb pb])=some (.lst ((pa.map rwD).map OT.val)):=rfl
 have sb2:subO [1,1] (clrT [0,1] (.lst [whT La pa,whT Lb pb]))=some (.lst ((pb.map rwD).map OT.val)):=rfl
 generalize hH:sizeF La pa (s1:Int)+sizeF Lb pb (s2:Int)=hv2 at *
 have cX:callX 3 K84.X_wheel_joined_10.f (zG (zL ixD (getN 11) (zE (.int 0))) (zG (zL ixD (getN 11) (zE (.int 1))) (zG (zJ 8) qC))) [.v (.lst NS),.v (.int v),.v (.int (kb * v)),.v (.lst Q0),.v (whD La pa),.v (whD Lb pb),.v (.int M),.v (.int hv2),.v fw,.v (.bl false),.v .non,.ob none (.lst [whT La pa,whT Lb pb]),.no]=decide (hv2 > 300):=by
  generalize OT.lst [whT La pa,whT Lb pb]=T at *
  generalize whD La pa=W1 at *
  generalize whD Lb pb=W2 at *
  simp [callX,od,jx]
 by_cases hz:hv2 > 300
 · refine qT (ds':=[.v (.lst NS),.v (.int v),.v (.int (kb * v)),.v (.lst Q0),.v (whD La pa),.v (whD Lb pb),.v (.int M),.v (.int hv2),.v fw,.v (.bl true),.v .non,.ob none (.lst [whT La pa,whT Lb pb]),.no]) (by
    unfold tryNG
    rw [if_pos (by rw [cX]; simpa using hz)]
    simp) ?_
   refine qT (ds':=[.v (.lst NS),.v (.int v),.v (.int (kb * v)),.v (.lst Q0),.v (whD La pa),.v (whD Lb pb),.v (.int M),.v (.int hv2),.v fw,.v (.bl true),.v .non,.ob none (.lst [whT La pa,whT Lb pb]),.no]) (by
    generalize OT.lst [whT La pa,whT Lb pb]=T at *
    generalize whD La pa=W1 at *
    generalize whD Lb pb=W2 at *
    simp [od,neH]) ?_
   refine qT (ds':=[.v (.lst NS),.v (.int v),.v (.int (kb * v)),.v (.lst Q0),.v (whD La pa),.v (whD Lb pb),.v (.int M),.v (.int hv2),.v fw,.v (.bl true),.v .non,.ob none (clrT [0,1] (.lst [whT La pa,whT Lb pb])),.no]) (by
    generalize OT.lst [whT La pa,whT Lb pb]=T at *
    simp [clrP,sb1,isL]) ?_
   refine qT (ds':=[.v (.lst NS),.v (.int v),.v (.int (kb * v)),.v (.lst Q0),.v (whD La pa),.v (whD Lb pb),.v (.int M),.v (.int hv2),.v fw,.v (.bl true),.v .non,.ob none (clrT [1,1] (clrT [0,1] (.lst [whT La pa,whT Lb pb]))),.no]) (by
    generalize clrT [0,1] (.lst [whT La pa,whT Lb pb])=T at *
    simp [clrP,sb2,isL]) ?_
   refine good_rt ⟨_,?_,rfl⟩
   rw [if_yes (by simp)]
   simp [hz]
 · obtain ⟨L, t, rs, wg, tL, t0, tc, gj, lr, ej⟩ := join_ex wa wb hM hMb hs1 hs2 lm fw hW (by omega) nn1 nn2
   rw [hH] at tc
   have hLp:=wg.pos
   have hLM:L<=M:=by
    have:1 * L<=t * L:=Int.mul_le_mul_of_nonneg_right (by omega) (by omega)
    omega
   have hLb2:L < 10 ^ 200:=Int.lt_of_le_of_lt hLM hMb
   have eM:M=((t.toNat:Nat):Int) * L:=by rw [Int.toNat_of_nonneg (by omega),tL]
   have iwr:=xQ (show 1<=L by omega) wg.map wg.ins lr
   have xr0:=wh0 L rs
   have md:xL (.int M) (.int L)=some (.int 0):=by
    rw [yM M hLp,<- tL,Int.mul_emod_left]
   have fd:qY (.int M) (.int L)=some (.int t):=by rw [jF hLp hLb2,<- tL,Int.mul_ediv_cancel _ (by omega)]
   have mu2:yT (.int 2) (.int hv2)=some (.int (2 * hv2)):=yA (.of_left (jH (by decide)))
   obtain ⟨xs1,hx1,sp1⟩:=vY wa.pos wa.bnd (ps:=pa) (by omega) hs1 (by
    by_cases h:La=1
    · exact .inl h
    · right
      have:sizeF La pa (s1:Int)=(s1:Int) * ((pa.length:Int)+1):=by unfold sizeF; rw [if_neg h]
      have h3:(s1:Int) * 1<=(s1:Int) * ((pa.length:Int)+1):=Int.mul_le_mul_of_nonneg_left (by omega) (by omega)
      omega)
   obtain ⟨xs2,hx2,sp2⟩:=vY wb.pos wb.bnd (ps:=pb) (by omega) hs2 (by
    by_cases h:Lb=1
    · exact .inl h
    · right
      have:sizeF Lb pb (s2:Int)=(s2:Int) * ((pb.length:Int)+1):=by unfold sizeF; rw [if_neg h]
      have h3:(s2:Int) * 1<=(s2:Int) * ((pb.length:Int)+1):=Int.mul_le_mul_of_nonneg_left (by omega) (by omega)
      omega)
   obtain ⟨xs3,hx3,sp3⟩:=vY hLp hLb2 (ps:=rs) lr eM (tc.imp id fun z=>by omega)
   have le:=is_least_eq hLp wg.map.ord (by omega) wg.least
   have tla:=wT wa.pos wa.map.ord
   have tlb:=wT wb.pos wb.map.ord
   have tlr:=wT hLp wg.map.ord
   refine qT (ds':=[.v (.lst NS),.v (.int v),.v (.int (kb * v)),.v (.lst Q0),.v (whD La pa),.v (whD Lb pb),.v (.int M),.v (.int hv2),.v fw,.v (.bl false),.v (whD L rs),.ob none (.lst [whT La pa,whT Lb pb]),.no]) (by
    unfold tryNG
    rw [if_neg (by rw [cX]; simpa using hz)]
    generalize OT.lst [whT La pa,whT Lb pb]=T at *
    generalize whD L rs=W3 at *
    generalize whD La pa=W1 at *
    generalize whD Lb pb=W2 at *
    simp [od,ej,retV]) ?_
   refine qT (ds':=[.v (.lst NS),.v (.int v),.v (.int (kb * v)),.v (.lst Q0),.v (whD La pa),.v (whD Lb pb),.v (.int M),.v (.int hv2),.v fw,.v (.bl false),.v (whD L rs),.ob none (.lst [whT La pa,whT Lb pb]),.no]) (by
    generalize OT.lst [whT La pa,whT Lb pb]=T at *
    generalize whD L rs=W3 at *
    generalize whD La pa=W1 at *
    generalize whD Lb pb=W2 at *
    simp [od,neH]) ?_
   refine qT (ds':=[.v (.lst NS),.v (.int v),.v (.int (kb * v)),.v (.lst Q0),.v (whD La pa),.v (whD Lb pb),.v (.int M),.v (.int hv2),.v fw,.v (.bl false),.v (whD L rs),.ob none (clrT [0,1] (.lst [whT La pa,whT Lb pb])),.no]) (by
    generalize OT.lst [whT La pa,whT Lb pb]=T at *
    simp [clrP,sb1,isL]) ?_
   refine qT (ds':=[.v (.lst NS),.v (.int v),.v (.int (kb * v)),.v (.lst Q0),.v (whD La pa),.v (whD Lb pb),.v (.int M),.v (.int hv2),.v fw,.v (.bl false),.v (whD L rs),.ob none (clrT [1,1] (clrT [0,1] (.lst [whT La pa,whT Lb pb]))),.no]) (by
    generalize clrT [0,1] (.lst [whT La pa,whT Lb pb])=T at *
    simp [clrP,sb2,isL]) ?_
   generalize clrT [1,1] (clrT [0,1] (.lst [whT La pa,whT Lb pb]))=T at *
   refine qT (ds':=[.v (.lst NS),.v (.int v),.v (.int (kb * v)),.v (.lst Q0),.v (whD La pa),.v (whD Lb pb),.v (.int M),.v (.int hv2),.v fw,.v (.bl false),.v (whD L rs),.ob none T,.no]) (by
    rw [wK (by simp; omega)]
    rfl) ?_
   refine qT (ds':=[.v (.lst NS),.v (.int v),.v (.int (kb * v)),.v (.lst Q0),.v (whD La pa),.v (whD Lb pb),.v (.int M),.v (.int hv2),.v fw,.v (.bl false),.v (whD L rs),.ob none T,.no]) (by
    generalize whD L rs=W3 at *
    simp [iwr,retV,xr0,md]) ?_
   refine qT (ds':=[.v (.lst NS),.v (.int v),.v (.int (kb * v)),.v (.lst Q0),.v (whD La pa),.v (whD Lb pb),.v (.int M),.v (.int hv2),.v fw,.v (.bl false),.v (whD L rs),.ob none T,.no]) (by
    generalize whD L rs=W3 at *
    rcases tc with h | h
    · rw [wK (by simp [xr0, h])]
      rfl
    · by_cases h1 : 1 < L
      · rw [wK (by simp [xr0, h1, fd, mu2]; omega)]
        rfl
      · rw [wK (by simp [xr0, h1])]
        rfl) ?_
   obtain ⟨y12,lp⟩:∃ y,qS (zT 12) K84.law.b1 ((xs1++xs2++xs3).map D.int) [.v (.lst NS),.v (.int v),.v (.int (kb * v)),.v (.lst Q0),.v (whD La pa),.v (whD Lb pb),.v (.int M),.v (.int hv2),.v fw,.v (.bl false),.v (whD L rs),.ob none T,.no]=some (.nx [.v (.lst NS),.v (.int v),.v (.int (kb * v)),.v (.lst Q0),.v (whD La pa),.v (whD Lb pb),.v (.int M),.v (.int hv2),.v fw,.v (.bl false),.v (whD L rs),.ob none T,y]):=by
    obtain ⟨ds',e,y,rfl⟩:=loop_inv (ga:=zT 12) (body:=K84.law.b1) (fun ds=>∃ y,ds=[.v (.lst NS),.v (.int v),.v (.int (kb * v)),.v (.lst Q0),.v (whD La pa),.v (whD Lb pb),.v (.int M),.v (.int hv2),.v fw,.v (.bl false),.v (whD L rs),.ob none T,y]) ((xs1++xs2++xs3).map D.int) _ ⟨.no,rfl⟩ (by
     rintro d hd _ ⟨y,rfl⟩
     obtain ⟨p,_,rfl⟩:=List.mem_map.mp hd
     refine ⟨_,[.v (.lst NS),.v (.int v),.v (.int (kb * v)),.v (.lst Q0),.v (whD La pa),.v (whD Lb pb),.v (.int M),.v (.int hv2),.v fw,.v (.bl false),.v (whD L rs),.ob none T,.v (.int p)],rfl,.inl ?_,_,rfl⟩
     have a:=tla p
     have b:=tlb p
     have c:=tlr p
     have hj:valL rs (p % L)=W (valL pa (p % La)) (valL pb (p % Lb)):=gj p
     rw [hj] at c
     have w:=hW (valL pa (p % La)) (valL pb (p % Lb))
     have ne:=FL.neD_oi (W (valL pa (p % La)) (valL pb (p % Lb))) (W (valL pa (p % La)) (valL pb (p % Lb)))
     simp only [decide_true,Bool.not_true] at ne
     unfold K84.law.b1
     generalize oi (W (valL pa (p % La)) (valL pb (p % Lb)))=O3 at *
     generalize oi (valL pa (p % La))=O1 at *
     generalize oi (valL pb (p % Lb))=O2 at *
     generalize whD L rs=W3 at *
     generalize whD La pa=W1 at *
     generalize whD Lb pb=W2 at *
     simp [callW,a,b,c,w,ne,retV])
    exact ⟨y,e⟩
   refine qT (ds':=[.v (.lst NS),.v (.int v),.v (.int (kb * v)),.v (.lst Q0),.v (whD La pa),.v (whD Lb pb),.v (.int M),.v (.int hv2),.v fw,.v (.bl false),.v (whD L rs),.ob none T,y12]) (by
    rw [forG_eq]
    have z1:(xs1.map D.int).length+(xs2.map D.int).length<=16777216:=by simp; omega
    have z2:(xs1.map D.int).length+(xs2.map D.int).length+(xs3.map D.int).length<=16777216:=by simp; omega
    rw [List.map_append,List.map_append] at lp
    generalize xs1.map D.int=X1 at *
    generalize xs2.map D.int=X2 at *
    generalize xs3.map D.int=X3 at *
    generalize whD L rs=W3 at *
    generalize whD La pa=W1 at *
    generalize whD Lb pb=W2 at *
    have it:viaA (mkL (catA (mkL (catA (qF 2 K84.L_spots.f (zG (zJ 4) (zG (zJ 6) qC))) (qF 2 K84.L_spots.f (zG (zJ 5) (zG (zJ 6) qC))))) (qF 2 K84.L_spots.f (zG (zJ 10) (zG (zJ 6) qC))))) asLT [.v (.lst NS),.v (.int v),.v (.int (kb * v)),.v (.lst Q0),.v W1,.v W2,.v (.int M),.v (.int hv2),.v fw,.v (.bl false),.v W3,.ob none T,.no]=some (X1++X2++X3):=by
     simp [sp1,sp2,sp3,retV,z1,z2,Nat.add_assoc]
     omega
    rw [it]
    exact lp) ?_
   refine ⟨_,?_,rfl⟩
   generalize whD L rs=W3 at *
   simp [le,retV]
end K84
namespace K84
open PySem PyProof.Rows L2 FL
set_option maxHeartbeats 0 in
theorem all_mk {l:PySem.W.OpenLaw} {w:World} {K:PySem.W.Frag} {h:Heap} {mg:Str->Option Value} {fa:Addr} (X:K.In h) (G:h.Ns mainGlobals mg) (hfa:mg "law" = some (.ref fa))
  {f0:Addr} {od0 an0:Option Addr} {sl0:Array (Option Value)} {oc0 kV0 dc0 pm0 cd0 ct0:Value}
  {f1:Addr} {od1 an1:Option Addr} {sl1:Array (Option Value)} {oc1 kV1 dc1 pm1 cd1 ct1:Value}
  {f2:Addr} {od2 an2:Option Addr} {sl2:Array (Option Value)} {oc2 kV2 dc2 pm2 cd2 ct2:Value}
  {f3:Addr} {od3 an3:Option Addr} {sl3:Array (Option Value)} {oc3 kV3 dc3 pm3 cd3 ct3:Value}
  {f4:Addr} {od4 an4:Option Addr} {sl4:Array (Option Value)} {oc4 kV4 dc4 pm4 cd4 ct4:Value}
  {f5:Addr} {od5 an5:Option Addr} {sl5:Array (Option Value)} {oc5 kV5 dc5 pm5 cd5 ct5:Value}
  {f6:Addr} {od6 an6:Option Addr} {sl6:Array (Option Value)} {oc6 kV6 dc6 pm6 cd6 ct6:Value}
  {f7:Addr} {od7 an7:Option Addr} {sl7:Array (Option Value)} {oc7 kV7 dc7 pm7 cd7 ct7:Value}
  {f8:Addr} {od8 an8:Option Addr} {sl8:Array (Option Value)} {oc8 kV8 dc8 pm8 cd8 ct8:Value}
  {f9:Addr} {od9 an9:Option Addr} {sl9:Array (Option Value)} {oc9 kV9 dc9 pm9 cd9 ct9:Value}
  {f10:Addr} {od10 an10:Option Addr} {sl10:Array (Option Value)} {oc10 kV10 dc10 pm10 cd10 ct10:Value}
  {f11:Addr} {od11 an11:Option Addr} {sl11:Array (Option Value)} {oc11 kV11 dc11 pm11 cd11 ct11:Value}
  {f12:Addr} {od12 an12:Option Addr} {sl12:Array (Option Value)} {oc12 kV12 dc12 pm12 cd12 ct12:Value}
  {f13:Addr} {od13 an13:Option Addr} {sl13:Array (Option Value)} {oc13 kV13 dc13 pm13 cd13 ct13:Value}
  {f14:Addr} {od14 an14:Option Addr} {sl14:Array (Option Value)} {oc14 kV14 dc14 pm14 cd14 ct14:Value}
  {f15:Addr} {od15 an15:Option Addr} {sl15:Array (Option Value)} {oc15 kV15 dc15 pm15 cd15 ct15:Value}
  {f16:Addr} {od16 an16:Option Addr} {sl16:Array (Option Value)} {oc16 kV16 dc16 pm16 cd16 ct16:Value}
  {f17:Addr} {od17 an17:Option Addr} {sl17:Array (Option Value)} {oc17 kV17 dc17 pm17 cd17 ct17:Value}
  {f18:Addr} {od18 an18:Option Addr} {sl18:Array (Option Value)} {oc18 kV18 dc18 pm18 cd18 ct18:Value}
  {f19:Addr} {od19 an19:Option Addr} {sl19:Array (Option Value)} {oc19 kV19 dc19 pm19 cd19 ct19:Value}
  {f20:Addr} {od20 an20:Option Addr} {sl20:Array (Option Value)} {oc20 kV20 dc20 pm20 cd20 ct20:Value}
  {f21:Addr} {od21 an21:Option Addr} {sl21:Array (Option Value)} {oc21 kV21 dc21 pm21 cd21 ct21:Value}
  {f22:Addr} {od22 an22:Option Addr} {sl22:Array (Option Value)} {oc22 kV22 dc22 pm22 cd22 ct22:Value}
  {f23:Addr} {od23 an23:Option Addr} {sl23:Array (Option Value)} {oc23 kV23 dc23 pm23 cd23 ct23:Value}
  {f24:Addr} {od24 an24:Option Addr} {sl24:Array (Option Value)} {oc24 kV24 dc24 pm24 cd24 ct24:Value}
  {f25:Addr} {od25 an25:Option Addr} {sl25:Array (Option Value)} {oc25 kV25 dc25 pm25 cd25 ct25:Value}
  {f26:Addr} {od26 an26:Option Addr} {sl26:Array (Option Value)} {oc26 kV26 dc26 pm26 cd26 ct26:Value}
  {f27:Addr} {od27 an27:Option Addr} {sl27:Array (Option Value)} {oc27 kV27 dc27 pm27 cd27 ct27:Value}
  {f28:Addr} {od28 an28:Option Addr} {sl28:Array (Option Value)} {oc28 kV28 dc28 pm28 cd28 ct28:Value}
  {f29:Addr} {od29 an29:Option Addr} {sl29:Array (Option Value)} {oc29 kV29 dc29 pm29 cd29 ct29:Value}
  {f30:Addr} {od30 an30:Option Addr} {sl30:Array (Option Value)} {oc30 kV30 dc30 pm30 cd30 ct30:Value}
  {mc30 mq30:Addr} {mo30:Value} {md30:Option Addr} {mv30:Array Value} {ms30:Array (Option Value)}
  {f31:Addr} {od31 an31:Option Addr} {sl31:Array (Option Value)} {oc31 kV31 dc31 pm31 cd31 ct31:Value}
  {f32:Addr} {od32 an32:Option Addr} {sl32:Array (Option Value)} {oc32 kV32 dc32 pm32 cd32 ct32:Value}
  {f33:Addr} {od33 an33:Option Addr} {sl33:Array (Option Value)} {oc33 kV33 dc33 pm33 cd33 ct33:Value}
  {f34:Addr} {od34 an34:Option Addr} {sl34:Array (Option Value)} {oc34 kV34 dc34 pm34 cd34 ct34:Value}
  {E10:Addr}
  {t0:Tok}
  (a0:PySem.W.nsIn K mainGlobals "later_low" = some (some (.ref f0))) (l0:K.lookup f0=some ⟨oc0,od0,.func (PySem.W.fnOf "later_low" "later_low" (zY (top 7)) (zI (top 7)) (zB (top 7)) .none kV0 dc0 pm0 an0 cd0 ct0),sl0⟩) (c0:PySem.W.codeIn K cd0 "later_low" = true) (k0:PySem.W.keepIn K (.ref f0)=true)
  (a1:PySem.W.nsIn K mainGlobals "earlier_behind" = some (some (.ref f1))) (l1:K.lookup f1=some ⟨oc1,od1,.func (PySem.W.fnOf "earlier_behind" "earlier_behind" (zY (top 8)) (zI (top 8)) (zB (top 8)) .none kV1 dc1 pm1 an1 cd1 ct1),sl1⟩) (c1:PySem.W.codeIn K cd1 "earlier_behind" = true) (k1:PySem.W.keepIn K (.ref f1)=true)
  (a2:PySem.W.nsIn K mainGlobals "ends_ahead" = some (some (.ref f2))) (l2:K.lookup f2=some ⟨oc2,od2,.func (PySem.W.fnOf "ends_ahead" "ends_ahead" (zY (top 6)) (zI (top 6)) (zB (top 6)) .none kV2 dc2 pm2 an2 cd2 ct2),sl2⟩) (c2:PySem.W.codeIn K cd2 "ends_ahead" = true) (k2:PySem.W.keepIn K (.ref f2)=true)
  (a3:PySem.W.nsIn K mainGlobals "meet" = some (some (.ref f3))) (l3:K.lookup f3=some ⟨oc3,od3,.func (PySem.W.fnOf "meet" "meet" (zY (top 5)) (zI (top 5)) (zB (top 5)) .none kV3 dc3 pm3 an3 cd3 ct3),sl3⟩) (c3:PySem.W.codeIn K cd3 "meet" = true) (k3:PySem.W.keepIn K (.ref f3)=true)
  (a4:PySem.W.nsIn K mainGlobals "knit" = some (some (.ref f4))) (l4:K.lookup f4=some ⟨oc4,od4,.func (PySem.W.fnOf "knit" "knit" (zY (top 10)) (zI (top 10)) (zB (top 10)) .none kV4 dc4 pm4 an4 cd4 ct4),sl4⟩) (c4:PySem.W.codeIn K cd4 "knit" = true) (k4:PySem.W.keepIn K (.ref f4)=true)
  (a5:PySem.W.nsIn K mainGlobals "parts_in" = some (some (.ref f5))) (l5:K.lookup f5=some ⟨oc5,od5,.func (PySem.W.fnOf "parts_in" "parts_in" (zY (top 11)) (zI (top 11)) (zB (top 11)) .none kV5 dc5 pm5 an5 cd5 ct5),sl5⟩) (c5:PySem.W.codeIn K cd5 "parts_in" = true) (k5:PySem.W.keepIn K (.ref f5)=true)
  (a6:PySem.W.nsIn K mainGlobals "runs_of" = some (some (.ref f6))) (l6:K.lookup f6=some ⟨oc6,od6,.func (PySem.W.fnOf "runs_of" "runs_of" (zY (top 12)) (zI (top 12)) (zB (top 12)) .none kV6 dc6 pm6 an6 cd6 ct6),sl6⟩) (c6:PySem.W.codeIn K cd6 "runs_of" = true) (k6:PySem.W.keepIn K (.ref f6)=true)
  (a7:PySem.W.nsIn K mainGlobals "paired" = some (some (.ref f7))) (l7:K.lookup f7=some ⟨oc7,od7,.func (PySem.W.fnOf "paired" "paired" (zY (top 13)) (zI (top 13)) (zB (top 13)) .none kV7 dc7 pm7 an7 cd7 ct7),sl7⟩) (c7:PySem.W.codeIn K cd7 "paired" = true) (k7:PySem.W.keepIn K (.ref f7)=true)
  (a8:PySem.W.nsIn K mainGlobals "farther" = some (some (.ref f8))) (l8:K.lookup f8=some ⟨oc8,od8,.func (PySem.W.fnOf "farther" "farther" (zY (top 16)) (zI (top 16)) (zB (top 16)) .none kV8 dc8 pm8 an8 cd8 ct8),sl8⟩) (c8:PySem.W.codeIn K cd8 "farther" = true) (k8:PySem.W.keepIn K (.ref f8)=true)
  (a9:PySem.W.nsIn K mainGlobals "shifted" = some (some (.ref f9))) (l9:K.lookup f9=some ⟨oc9,od9,.func (PySem.W.fnOf "shifted" "shifted" (zY (top 15)) (zI (top 15)) (zB (top 15)) .none kV9 dc9 pm9 an9 cd9 ct9),sl9⟩) (c9:PySem.W.codeIn K cd9 "shifted" = true) (k9:PySem.W.keepIn K (.ref f9)=true)
  (a10:PySem.W.nsIn K mainGlobals "joined" = some (some (.ref f10))) (l10:K.lookup f10=some ⟨oc10,od10,.func (PySem.W.fnOf "joined" "joined" (zY (top 18)) (zI (top 18)) (zB (top 18)) .none kV10 dc10 pm10 an10 cd10 ct10),sl10⟩) (c10:PySem.W.codeIn K cd10 "joined" = true) (k10:PySem.W.keepIn K (.ref f10)=true)
  (a11:PySem.W.nsIn K mainGlobals "change_by" = some (some (.ref f11))) (l11:K.lookup f11=some ⟨oc11,od11,.func (PySem.W.fnOf "change_by" "change_by" (zY (top 22)) (zI (top 22)) (zB (top 22)) .none kV11 dc11 pm11 an11 cd11 ct11),sl11⟩) (c11:PySem.W.codeIn K cd11 "change_by" = true) (k11:PySem.W.keepIn K (.ref f11)=true)
  (a12:PySem.W.nsIn K mainGlobals "comes_again" = some (some (.ref f12))) (l12:K.lookup f12=some ⟨oc12,od12,.func (PySem.W.fnOf "comes_again" "comes_again" (zY (top 24)) (zI (top 24)) (zB (top 24)) .none kV12 dc12 pm12 an12 cd12 ct12),sl12⟩) (c12:PySem.W.codeIn K cd12 "comes_again" = true) (k12:PySem.W.keepIn K (.ref f12)=true)
  (a13:PySem.W.nsIn K mainGlobals "times_on" = some (some (.ref f13))) (l13:K.lookup f13=some ⟨oc13,od13,.func (PySem.W.fnOf "times_on" "times_on" (zY (top 23)) (zI (top 23)) (zB (top 23)) .none kV13 dc13 pm13 an13 cd13 ct13),sl13⟩) (c13:PySem.W.codeIn K cd13 "times_on" = true) (k13:PySem.W.keepIn K (.ref f13)=true)
  (a14:PySem.W.nsIn K mainGlobals "changes_on" = some (some (.ref f14))) (l14:K.lookup f14=some ⟨oc14,od14,.func (PySem.W.fnOf "changes_on" "changes_on" (zY (top 21)) (zI (top 21)) (zB (top 21)) .none kV14 dc14 pm14 an14 cd14 ct14),sl14⟩) (c14:PySem.W.codeIn K cd14 "changes_on" = true) (k14:PySem.W.keepIn K (.ref f14)=true)
  (a15:PySem.W.nsIn K mainGlobals "wheel_of" = some (some (.ref f15))) (l15:K.lookup f15=some ⟨oc15,od15,.func (PySem.W.fnOf "wheel_of" "wheel_of" (zY (top 20)) (zI (top 20)) (zB (top 20)) .none kV15 dc15 pm15 an15 cd15 ct15),sl15⟩) (c15:PySem.W.codeIn K cd15 "wheel_of" = true) (k15:PySem.W.keepIn K (.ref f15)=true)
  (a16:PySem.W.nsIn K mainGlobals "least_multiple" = some (some (.ref f16))) (l16:K.lookup f16=some ⟨oc16,od16,.func (PySem.W.fnOf "least_multiple" "least_multiple" (zY (top 30)) (zI (top 30)) (zB (top 30)) .none kV16 dc16 pm16 an16 cd16 ct16),sl16⟩) (c16:PySem.W.codeIn K cd16 "least_multiple" = true) (k16:PySem.W.keepIn K (.ref f16)=true)
  (a17:PySem.W.nsIn K mainGlobals "size_of" = some (some (.ref f17))) (l17:K.lookup f17=some ⟨oc17,od17,.func (PySem.W.fnOf "size_of" "size_of" (zY (top 28)) (zI (top 28)) (zB (top 28)) .none kV17 dc17 pm17 an17 cd17 ct17),sl17⟩) (c17:PySem.W.codeIn K cd17 "size_of" = true) (k17:PySem.W.keepIn K (.ref f17)=true)
  (a18:PySem.W.nsIn K mainGlobals "rolled_out" = some (some (.ref f18))) (l18:K.lookup f18=some ⟨oc18,od18,.func (PySem.W.fnOf "rolled_out" "rolled_out" (zY (top 29)) (zI (top 29)) (zB (top 29)) .none kV18 dc18 pm18 an18 cd18 ct18),sl18⟩) (c18:PySem.W.codeIn K cd18 "rolled_out" = true) (k18:PySem.W.keepIn K (.ref f18)=true)
  (a19:PySem.W.nsIn K mainGlobals "wheel_joined" = some (some (.ref f19))) (l19:K.lookup f19=some ⟨oc19,od19,.func (PySem.W.fnOf "wheel_joined" "wheel_joined" (zY (top 27)) (zI (top 27)) (zB (top 27)) .none kV19 dc19 pm19 an19 cd19 ct19),sl19⟩) (c19:PySem.W.codeIn K cd19 "wheel_joined" = true) (k19:PySem.W.keepIn K (.ref f19)=true)
  (a20:PySem.W.nsIn K mainGlobals "_law_nth" = some (some (.ref f20))) (l20:K.lookup f20=some ⟨oc20,od20,.func (PySem.W.fnOf "_law_nth" "_law_nth" (zY (top 32)) (zI (top 32)) (zB (top 32)) .none kV20 dc20 pm20 an20 cd20 ct20),sl20⟩) (c20:PySem.W.codeIn K cd20 "_law_nth" = true) (k20:PySem.W.keepIn K (.ref f20)=true)
  (a21:PySem.W.nsIn K mainGlobals "_law_is_int" = some (some (.ref f21))) (l21:K.lookup f21=some ⟨oc21,od21,.func (PySem.W.fnOf "_law_is_int" "_law_is_int" (zY (top 33)) (zI (top 33)) (zB (top 33)) .none kV21 dc21 pm21 an21 cd21 ct21),sl21⟩) (c21:PySem.W.codeIn K cd21 "_law_is_int" = true) (k21:PySem.W.keepIn K (.ref f21)=true)
  (a22:PySem.W.nsIn K mainGlobals "_law_is_map" = some (some (.ref f22))) (l22:K.lookup f22=some ⟨oc22,od22,.func (PySem.W.fnOf "_law_is_map" "_law_is_map" (zY (top 34)) (zI (top 34)) (zB (top 34)) .none kV22 dc22 pm22 an22 cd22 ct22),sl22⟩) (c22:PySem.W.codeIn K cd22 "_law_is_map" = true) (k22:PySem.W.keepIn K (.ref f22)=true)
  (a23:PySem.W.nsIn K mainGlobals "_law_value_in" = some (some (.ref f23))) (l23:K.lookup f23=some ⟨oc23,od23,.func (PySem.W.fnOf "_law_value_in" "_law_value_in" (zY (top 35)) (zI (top 35)) (zB (top 35)) .none kV23 dc23 pm23 an23 cd23 ct23),sl23⟩) (c23:PySem.W.codeIn K cd23 "_law_value_in" = true) (k23:PySem.W.keepIn K (.ref f23)=true)
  (a24:PySem.W.nsIn K mainGlobals "_law_ends" = some (some (.ref f24))) (l24:K.lookup f24=some ⟨oc24,od24,.func (PySem.W.fnOf "_law_ends" "_law_ends" (zY (top 36)) (zI (top 36)) (zB (top 36)) .none kV24 dc24 pm24 an24 cd24 ct24),sl24⟩) (c24:PySem.W.codeIn K cd24 "_law_ends" = true) (k24:PySem.W.keepIn K (.ref f24)=true)
  (a25:PySem.W.nsIn K mainGlobals "_law_small" = some (some (.ref f25))) (l25:K.lookup f25=some ⟨oc25,od25,.func (PySem.W.fnOf "_law_small" "_law_small" (zY (top 37)) (zI (top 37)) (zB (top 37)) .none kV25 dc25 pm25 an25 cd25 ct25),sl25⟩) (c25:PySem.W.codeIn K cd25 "_law_small" = true) (k25:PySem.W.keepIn K (.ref f25)=true)
  (a26:PySem.W.nsIn K mainGlobals "_law_is_wheel" = some (some (.ref f26))) (l26:K.lookup f26=some ⟨oc26,od26,.func (PySem.W.fnOf "_law_is_wheel" "_law_is_wheel" (zY (top 38)) (zI (top 38)) (zB (top 38)) .none kV26 dc26 pm26 an26 cd26 ct26),sl26⟩) (c26:PySem.W.codeIn K cd26 "_law_is_wheel" = true) (k26:PySem.W.keepIn K (.ref f26)=true)
  (a27:PySem.W.nsIn K mainGlobals "_law_told" = some (some (.ref f27))) (l27:K.lookup f27=some ⟨oc27,od27,.func (PySem.W.fnOf "_law_told" "_law_told" (zY (top 39)) (zI (top 39)) (zB (top 39)) .none kV27 dc27 pm27 an27 cd27 ct27),sl27⟩) (c27:PySem.W.codeIn K cd27 "_law_told" = true) (k27:PySem.W.keepIn K (.ref f27)=true)
  (a28:PySem.W.nsIn K mainGlobals "_law_comes_by" = some (some (.ref f28))) (l28:K.lookup f28=some ⟨oc28,od28,.func (PySem.W.fnOf "_law_comes_by" "_law_comes_by" (zY (top 40)) (zI (top 40)) (zB (top 40)) .none kV28 dc28 pm28 an28 cd28 ct28),sl28⟩) (c28:PySem.W.codeIn K cd28 "_law_comes_by" = true) (k28:PySem.W.keepIn K (.ref f28)=true)
  (a29:PySem.W.nsIn K mainGlobals "_law_is_least" = some (some (.ref f29))) (l29:K.lookup f29=some ⟨oc29,od29,.func (PySem.W.fnOf "_law_is_least" "_law_is_least" (zY (top 41)) (zI (top 41)) (zB (top 41)) .none kV29 dc29 pm29 an29 cd29 ct29),sl29⟩) (c29:PySem.W.codeIn K cd29 "_law_is_least" = true) (k29:PySem.W.keepIn K (.ref f29)=true)
  (a30:PySem.W.nsIn K mainGlobals "_law_way" = some (some (.ref f30))) (l30:K.lookup f30=some ⟨oc30,od30,.func (PySem.W.fnOf "_law_way" "_law_way" (zY (top 42)) (zI (top 42)) (zB (top 42)) .none kV30 dc30 pm30 an30 cd30 ct30),sl30⟩) (c30:PySem.W.codeIn K cd30 "_law_way" = true) (k30:PySem.W.keepIn K (.ref f30)=true)
  (mt30:cd30 = .ref mc30) (ml30:K.lookup mc30=some ⟨mo30,md30,.fields mv30,ms30⟩) (mp30:(mv30[11]? : Option Value)=some (.ref mq30))
  (a31:PySem.W.nsIn K mainGlobals "_law_common" = some (some (.ref f31))) (l31:K.lookup f31=some ⟨oc31,od31,.func (PySem.W.fnOf "_law_common" "_law_common" (zY (top 43)) (zI (top 43)) (zB (top 43)) .none kV31 dc31 pm31 an31 cd31 ct31),sl31⟩) (c31:PySem.W.codeIn K cd31 "_law_common" = true) (k31:PySem.W.keepIn K (.ref f31)=true)
  (a32:PySem.W.nsIn K mainGlobals "_law_weight" = some (some (.ref f32))) (l32:K.lookup f32=some ⟨oc32,od32,.func (PySem.W.fnOf "_law_weight" "_law_weight" (zY (top 44)) (zI (top 44)) (zB (top 44)) .none kV32 dc32 pm32 an32 cd32 ct32),sl32⟩) (c32:PySem.W.codeIn K cd32 "_law_weight" = true) (k32:PySem.W.keepIn K (.ref f32)=true)
  (a33:PySem.W.nsIn K mainGlobals "_law_spots" = some (some (.ref f33))) (l33:K.lookup f33=some ⟨oc33,od33,.func (PySem.W.fnOf "_law_spots" "_law_spots" (zY (top 45)) (zI (top 45)) (zB (top 45)) .none kV33 dc33 pm33 an33 cd33 ct33),sl33⟩) (c33:PySem.W.codeIn K cd33 "_law_spots" = true) (k33:PySem.W.keepIn K (.ref f33)=true)
  (a34:PySem.W.nsIn K mainGlobals "law" = some (some (.ref f34))) (l34:K.lookup f34=some ⟨oc34,od34,.func (PySem.W.fnOf "law" "law" (zY (top 46)) (zI (top 46)) (zB (top 46)) .none kV34 dc34 pm34 an34 cd34 ct34),sl34⟩) (c34:PySem.W.codeIn K cd34 "law" = true) (k34:PySem.W.keepIn K (.ref f34)=true)
  (xn10:PySem.W.nsIn K mainGlobals "TooMuch" = some (some (.ref E10)))
  (xe10:PySem.W.excIn K E10 [.type "ValueError",.type "Exception",.type "BaseException",.type "object"] "ValueError.__new__" = true) (xg10:PySem.W.findIn K (.ref E10) "__getattribute__" = some (some (.builtin "BaseException.__getattribute__"))) (xh10:PySem.W.findIn K (.ref E10) "__getattr__" = some none) (xc10:PySem.W.findIn K (.ref E10) "__class__" = some (some (.builtin "object.__class__"))) (xo10:PySem.W.mroIn K E10 (.type "object")=some true)
  (xb10:PySem.W.mroIn K E10 (.type "BaseException")=some true)
  (xu10:PySem.W.isClsIn K E10=true) (xy10:PySem.W.typeIn K (.ref E10)=some (.type "type"))
  (xs10_10:PySem.W.subIn K (.ref E10) (.ref E10)=some true)
  (z0:PySem.W.nsIn K mainGlobals "enumerate" = some none)
  (z1:PySem.W.nsIn K mainGlobals "int" = some none)
  (z2:PySem.W.nsIn K mainGlobals "isinstance" = some none)
  (z3:PySem.W.nsIn K mainGlobals "len" = some none)
  (z4:PySem.W.nsIn K mainGlobals "list" = some none)
  (z5:PySem.W.nsIn K mainGlobals "max" = some none)
  (z6:PySem.W.nsIn K mainGlobals "min" = some none)
  (z7:PySem.W.nsIn K mainGlobals "range" = some none)
  (z8:PySem.W.nsIn K mainGlobals "tuple" = some none)
  (v0:PySem.W.nsIn K mainGlobals "MOST_SIZE" = some (some (.int 300 t0))) :
  ∃ fd:FuncData,(∀ (s:Shared) (v:Value),BindsTo s fd ⟨[v],[]⟩ [("_law_script",v)])/\∀ base:Heap,K.In base->base.Ns mainGlobals mg->FnOk l.prog w K mg base CX0 7 fa fd ["_law_script"] (spLawB K 63):=by
 have e:=hfa.symm.trans (PySem.W.mg_of X G a34)
 cases e
 have T:Glb K mg:=⟨PySem.W.mg_none_of X G z0,PySem.W.mg_none_of X G z1,PySem.W.mg_none_of X G z2,PySem.W.mg_none_of X G z3,PySem.W.mg_none_of X G z4,PySem.W.mg_none_of X G z5,PySem.W.mg_none_of X G z6,PySem.W.mg_none_of X G z7,PySem.W.mg_none_of X G z8,⟨_,PySem.W.mg_of X G v0⟩⟩
 have XR_10:XR K mg 10 E10:=⟨by exact xn10,by exact PySem.W.mg_of X G xn10,⟨xe10,⟨xg10,xh10,xc10,xo10,xb10⟩⟩⟩
 have XT_10:XT K mg 10 "TooMuch" E10 E10:=⟨by exact xn10,PySem.W.mg_of X G xn10,⟨kitCls_yes xu10 xy10 xs10_10,xb10⟩⟩
 have F0:=qQ (st:=(top 7)) l0 c0 k0
 have b0:=F0.binds (ps:=["one","other"]) fun _ _ _ _ _ _ us hl=>match us,hl with | [_,_],_=>rfl
 have F1:=qQ (st:=(top 8)) l1 c1 k1
 have b1:=F1.binds (ps:=["one","other"]) fun _ _ _ _ _ _ us hl=>match us,hl with | [_,_],_=>rfl
 have F2:=qQ (st:=(top 6)) l2 c2 k2
 have b2:=F2.binds (ps:=["behind","low"]) fun _ _ _ _ _ _ us hl=>match us,hl with | [_,_],_=>rfl
 have F3:=qQ (st:=(top 5)) l3 c3 k3
 have b3:=F3.binds (ps:=["one","other"]) fun _ _ _ _ _ _ us hl=>match us,hl with | [_,_],_=>rfl
 have F4:=qQ (st:=(top 10)) l4 c4 k4
 have b4:=F4.binds (ps:=["rows"]) fun _ _ _ _ _ _ us hl=>match us,hl with | [_],_=>rfl
 have F5:=qQ (st:=(top 11)) l5 c5 k5
 have b5:=F5.binds (ps:=["pieces","within"]) fun _ _ _ _ _ _ us hl=>match us,hl with | [_,_],_=>rfl
 have F6:=qQ (st:=(top 12)) l6 c6 k6
 have b6:=F6.binds (ps:=["pieces"]) fun _ _ _ _ _ _ us hl=>match us,hl with | [_],_=>rfl
 have F7:=qQ (st:=(top 13)) l7 c7 k7
 have b7:=F7.binds (ps:=["one","other"]) fun _ _ _ _ _ _ us hl=>match us,hl with | [_,_],_=>rfl
 have F8:=qQ (st:=(top 16)) l8 c8 k8
 have b8:=F8.binds (ps:=["side","far"]) fun _ _ _ _ _ _ us hl=>match us,hl with | [_,_],_=>rfl
 have F9:=qQ (st:=(top 15)) l9 c9 k9
 have b9:=F9.binds (ps:=["pieces","far"]) fun _ _ _ _ _ _ us hl=>match us,hl with | [_,_],_=>rfl
 have F10:=qQ (st:=(top 18)) l10 c10 k10
 have b10:=F10.binds (ps:=["one","other","way"]) fun _ _ _ _ _ _ us hl=>match us,hl with | [_,_,_],_=>rfl
 have F11:=qQ (st:=(top 22)) l11 c11 k11
 have b11:=F11.binds (ps:=["turn","changes","number"]) fun _ _ _ _ _ _ us hl=>match us,hl with | [_,_,_],_=>rfl
 have F12:=qQ (st:=(top 24)) l12 c12 k12
 have b12:=F12.binds (ps:=["turn","changes","times"]) fun _ _ _ _ _ _ us hl=>match us,hl with | [_,_,_],_=>rfl
 have F13:=qQ (st:=(top 23)) l13 c13 k13
 have b13:=F13.binds (ps:=["turn","changes"]) fun _ _ _ _ _ _ us hl=>match us,hl with | [_,_],_=>rfl
 have F14:=qQ (st:=(top 21)) l14 c14 k14
 have b14:=F14.binds (ps:=["turn","pieces"]) fun _ _ _ _ _ _ us hl=>match us,hl with | [_,_],_=>rfl
 have F15:=qQ (st:=(top 20)) l15 c15 k15
 have b15:=F15.binds (ps:=["turn","pieces"]) fun _ _ _ _ _ _ us hl=>match us,hl with | [_,_],_=>rfl
 have F16:=qQ (st:=(top 30)) l16 c16 k16
 have b16:=F16.binds (ps:=["one","other"]) fun _ _ _ _ _ _ us hl=>match us,hl with | [_,_],_=>rfl
 have F17:=qQ (st:=(top 28)) l17 c17 k17
 have b17:=F17.binds (ps:=["wheel","turns"]) fun _ _ _ _ _ _ us hl=>match us,hl with | [_,_],_=>rfl
 have F18:=qQ (st:=(top 29)) l18 c18 k18
 have b18:=F18.binds (ps:=["wheel","over"]) fun _ _ _ _ _ _ us hl=>match us,hl with | [_,_],_=>rfl
 have F19:=qQ (st:=(top 27)) l19 c19 k19
 have b19:=F19.binds (ps:=["one","other","way"]) fun _ _ _ _ _ _ us hl=>match us,hl with | [_,_,_],_=>rfl
 have F20:=qQ (st:=(top 32)) l20 c20 k20
 have b20:=F20.binds (ps:=["_law_script","_law_k"]) fun _ _ _ _ _ _ us hl=>match us,hl with | [_,_],_=>rfl
 have F21:=qQ (st:=(top 33)) l21 c21 k21
 have b21:=F21.binds (ps:=["_law_thing"]) fun _ _ _ _ _ _ us hl=>match us,hl with | [_],_=>rfl
 have F22:=qQ (st:=(top 34)) l22 c22 k22
 have b22:=F22.binds (ps:=["_law_found"]) fun _ _ _ _ _ _ us hl=>match us,hl with | [_],_=>rfl
 have F23:=qQ (st:=(top 35)) l23 c23 k23
 have b23:=F23.binds (ps:=["_law_pieces","_law_place"]) fun _ _ _ _ _ _ us hl=>match us,hl with | [_,_],_=>rfl
 have F24:=qQ (st:=(top 36)) l24 c24 k24
 have b24:=F24.binds (ps:=["_law_pieces"]) fun _ _ _ _ _ _ us hl=>match us,hl with | [_],_=>rfl
 have F25:=qQ (st:=(top 37)) l25 c25 k25
 have b25:=F25.binds (ps:=["_law_cells","_law_cell","_law_unit"]) fun _ _ _ _ _ _ us hl=>match us,hl with | [_,_,_],_=>rfl
 have F26:=qQ (st:=(top 38)) l26 c26 k26
 have b26:=F26.binds (ps:=["_law_found"]) fun _ _ _ _ _ _ us hl=>match us,hl with | [_],_=>rfl
 have F27:=qQ (st:=(top 39)) l27 c27 k27
 have b27:=F27.binds (ps:=["_law_wheel","_law_place"]) fun _ _ _ _ _ _ us hl=>match us,hl with | [_,_],_=>rfl
 have F28:=qQ (st:=(top 40)) l28 c28 k28
 have b28:=F28.binds (ps:=["_law_wheel","_law_far"]) fun _ _ _ _ _ _ us hl=>match us,hl with | [_,_],_=>rfl
 have F29:=qQ (st:=(top 41)) l29 c29 k29
 have b29:=F29.binds (ps:=["_law_wheel"]) fun _ _ _ _ _ _ us hl=>match us,hl with | [_],_=>rfl
 have F30:=qQ (st:=(top 42)) l30 c30 k30
 have M__law_way:Mkr K "_law_way" 3 (top 42) _ mc30 mq30:=mkr_mk rfl a30 l30 mt30 ml30 mp30
 have b30:=F30.binds (ps:=["_law_cell"]) fun _ _ _ _ _ _ us hl=>match us,hl with | [_],_=>rfl
 have F31:=qQ (st:=(top 43)) l31 c31 k31
 have b31:=F31.binds (ps:=["_law_one","_law_other"]) fun _ _ _ _ _ _ us hl=>match us,hl with | [_,_],_=>rfl
 have F32:=qQ (st:=(top 44)) l32 c32 k32
 have b32:=F32.binds (ps:=["_law_wheel","_law_most"]) fun _ _ _ _ _ _ us hl=>match us,hl with | [_,_],_=>rfl
 have F33:=qQ (st:=(top 45)) l33 c33 k33
 have b33:=F33.binds (ps:=["_law_wheel","_law_most"]) fun _ _ _ _ _ _ us hl=>match us,hl with | [_,_],_=>rfl
 have F34:=qQ (st:=(top 46)) l34 c34 k34
 refine ⟨PySem.W.fnOf "law" "law" (zY (top 46)) (zI (top 46)) (zB (top 46)) .none kV34 dc34 pm34 an34 cd34 ct34,fun s v=>.of_eq rfl,fun base _ _=>?_⟩
 have G0:=fok_later_low (P:=l.prog) (w:=w) (base:=base) F0 T
 have C_later_low:Cal l.prog w K mg base "later_low" 1 2 GP.later_low.f:=⟨f0,_,_,G0,b0,k0,PySem.W.mg_of X G a0⟩
 have G1:=fok_earlier_behind (P:=l.prog) (w:=w) (base:=base) F1 T
 have C_earlier_behind:Cal l.prog w K mg base "earlier_behind" 1 2 GP.earlier_behind.f:=⟨f1,_,_,G1,b1,k1,PySem.W.mg_of X G a1⟩
 have G2:=fok_ends_ahead (P:=l.prog) (w:=w) (base:=base) F2 T
 have C_ends_ahead:Cal l.prog w K mg base "ends_ahead" 1 2 GP.ends_ahead.f:=⟨f2,_,_,G2,b2,k2,PySem.W.mg_of X G a2⟩
 have G3:=fok_meet (P:=l.prog) (w:=w) (base:=base) F3 T C_later_low C_earlier_behind C_ends_ahead
 have C_meet:Cal l.prog w K mg base "meet" 2 2 GP.meet.f:=⟨f3,_,_,G3,b3,k3,PySem.W.mg_of X G a3⟩
 have G4:=fok_knit (P:=l.prog) (w:=w) (base:=base) F4 T
 have C_knit:Cal l.prog w K mg base "knit" 1 1 GP.knit.f:=⟨f4,_,_,G4,b4,k4,PySem.W.mg_of X G a4⟩
 have G5:=fok_parts_in (P:=l.prog) (w:=w) (base:=base) F5 T C_meet
 have C_parts_in:Cal l.prog w K mg base "parts_in" 3 2 GP.parts_in.f:=⟨f5,_,_,G5,b5,k5,PySem.W.mg_of X G a5⟩
 have G6:=fok_runs_of (P:=l.prog) (w:=w) (base:=base) F6 T
 have C_runs_of:Cal l.prog w K mg base "runs_of" 1 1 GP.runs_of.f:=⟨f6,_,_,G6,b6,k6,PySem.W.mg_of X G a6⟩
 have G7:=fok_paired (P:=l.prog) (w:=w) (base:=base) F7 T C_runs_of C_earlier_behind
 have C_paired:Cal l.prog w K mg base "paired" 2 2 GP.paired.f:=⟨f7,_,_,G7,b7,k7,PySem.W.mg_of X G a7⟩
 have G8:=fok_farther (P:=l.prog) (w:=w) (base:=base) F8 T
 have C_farther:Cal l.prog w K mg base "farther" 1 2 GP.farther.f:=⟨f8,_,_,G8,b8,k8,PySem.W.mg_of X G a8⟩
 have G9:=fok_shifted (P:=l.prog) (w:=w) (base:=base) F9 T C_farther
 have C_shifted:Cal l.prog w K mg base "shifted" 2 2 GP.shifted.f:=⟨f9,_,_,G9,b9,k9,PySem.W.mg_of X G a9⟩
 have CO:=clo_ok (P:=l.prog) (w:=w) (base:=base) T M__law_way
 have G10:=fok_joined (P:=l.prog) (w:=w) (base:=base) F10 T C_paired C_knit CO
 have C_joined:Cal l.prog w K mg base "joined" 3 3 (GP.joined.f K84.Phi):=⟨f10,_,_,G10,b10,k10,PySem.W.mg_of X G a10⟩
 have G11:=fok_change_by (P:=l.prog) (w:=w) (base:=base) F11 T
 have C_change_by:Cal l.prog w K mg base "change_by" 1 3 GP.change_by.f:=⟨f11,_,_,G11,b11,k11,PySem.W.mg_of X G a11⟩
 have G12:=fok_comes_again (P:=l.prog) (w:=w) (base:=base) F12 T C_change_by
 have C_comes_again:Cal l.prog w K mg base "comes_again" 2 3 GP.comes_again.f:=⟨f12,_,_,G12,b12,k12,PySem.W.mg_of X G a12⟩
 have G13:=fok_times_on (P:=l.prog) (w:=w) (base:=base) F13 T C_comes_again
 have C_times_on:Cal l.prog w K mg base "times_on" 3 2 GP.times_on.f:=⟨f13,_,_,G13,b13,k13,PySem.W.mg_of X G a13⟩
 have G14:=fok_changes_on (P:=l.prog) (w:=w) (base:=base) F14 T C_parts_in C_runs_of
 have C_changes_on:Cal l.prog w K mg base "changes_on" 4 2 GP.changes_on.f:=⟨f14,_,_,G14,b14,k14,PySem.W.mg_of X G a14⟩
 have G15:=fok_wheel_of (P:=l.prog) (w:=w) (base:=base) F15 T C_times_on C_parts_in C_changes_on
 have C_wheel_of:Cal l.prog w K mg base "wheel_of" 5 2 GP.wheel_of.f:=⟨f15,_,_,G15,b15,k15,PySem.W.mg_of X G a15⟩
 have G16:=fok_least_multiple (P:=l.prog) (w:=w) (base:=base) F16 T
 have C_least_multiple:Cal l.prog w K mg base "least_multiple" 1 2 GP.least_multiple.f:=⟨f16,_,_,G16,b16,k16,PySem.W.mg_of X G a16⟩
 have G17:=fok_size_of (P:=l.prog) (w:=w) (base:=base) F17 T
 have C_size_of:Cal l.prog w K mg base "size_of" 1 2 GP.size_of.f:=⟨f17,_,_,G17,b17,k17,PySem.W.mg_of X G a17⟩
 have G18:=fok_rolled_out (P:=l.prog) (w:=w) (base:=base) F18 T C_parts_in C_knit C_shifted
 have C_rolled_out:Cal l.prog w K mg base "rolled_out" 4 2 GP.rolled_out.f:=⟨f18,_,_,G18,b18,k18,PySem.W.mg_of X G a18⟩
 have GX19_10:=fokx_wheel_joined_10 (P:=l.prog) (w:=w) (base:=base) F19 T C_least_multiple C_wheel_of C_joined C_size_of C_rolled_out XR_10
 have CX_wheel_joined_10:CalX l.prog w K mg base "wheel_joined" 6 3 K84.X_wheel_joined_10.f E10:=⟨f19,_,_,GX19_10,b19,k19,PySem.W.mg_of X G a19⟩
 have G19:=fok_wheel_joined (P:=l.prog) (w:=w) (base:=base) F19 T C_least_multiple C_wheel_of C_joined C_size_of C_rolled_out
 have C_wheel_joined:Cal l.prog w K mg base "wheel_joined" 6 3 (GP.wheel_joined.f K84.Phi):=⟨f19,_,_,G19,b19,k19,PySem.W.mg_of X G a19⟩
 have G20:=fok__law_nth (P:=l.prog) (w:=w) (base:=base) F20 T
 have C__law_nth:Cal l.prog w K mg base "_law_nth" 1 2 GL.nth.f:=⟨f20,_,_,G20,b20,k20,PySem.W.mg_of X G a20⟩
 have G21:=fok__law_is_int (P:=l.prog) (w:=w) (base:=base) F21 T
 have C__law_is_int:Cal l.prog w K mg base "_law_is_int" 1 1 GL.is_int.f:=⟨f21,_,_,G21,b21,k21,PySem.W.mg_of X G a21⟩
 have G22:=fok__law_is_map (P:=l.prog) (w:=w) (base:=base) F22 T C__law_is_int
 have C__law_is_map:Cal l.prog w K mg base "_law_is_map" 2 1 GL.is_map2.f:=⟨f22,_,_,G22,b22,k22,PySem.W.mg_of X G a22⟩
 have G23:=fok__law_value_in (P:=l.prog) (w:=w) (base:=base) F23 T
 have C__law_value_in:Cal l.prog w K mg base "_law_value_in" 1 2 GL.value_in2.f:=⟨f23,_,_,G23,b23,k23,PySem.W.mg_of X G a23⟩
 have G24:=fok__law_ends (P:=l.prog) (w:=w) (base:=base) F24 T
 have C__law_ends:Cal l.prog w K mg base "_law_ends" 1 1 GL.ends2.f:=⟨f24,_,_,G24,b24,k24,PySem.W.mg_of X G a24⟩
 have G25:=fok__law_small (P:=l.prog) (w:=w) (base:=base) F25 T
 have C__law_small:Cal l.prog w K mg base "_law_small" 1 3 K84.L_small.f:=⟨f25,_,_,G25,b25,k25,PySem.W.mg_of X G a25⟩
 have G26:=fok__law_is_wheel (P:=l.prog) (w:=w) (base:=base) F26 T C__law_is_map C__law_is_int
 have C__law_is_wheel:Cal l.prog w K mg base "_law_is_wheel" 3 1 GL.is_wheel.f:=⟨f26,_,_,G26,b26,k26,PySem.W.mg_of X G a26⟩
 have G27:=fok__law_told (P:=l.prog) (w:=w) (base:=base) F27 T C__law_value_in
 have C__law_told:Cal l.prog w K mg base "_law_told" 2 2 GL.told.f:=⟨f27,_,_,G27,b27,k27,PySem.W.mg_of X G a27⟩
 have G28:=fok__law_comes_by (P:=l.prog) (w:=w) (base:=base) F28 T C__law_ends C__law_told
 have C__law_comes_by:Cal l.prog w K mg base "_law_comes_by" 3 2 GL.comes_by.f:=⟨f28,_,_,G28,b28,k28,PySem.W.mg_of X G a28⟩
 have G29:=fok__law_is_least (P:=l.prog) (w:=w) (base:=base) F29 T C__law_comes_by
 have C__law_is_least:Cal l.prog w K mg base "_law_is_least" 4 1 GL.is_least.f:=⟨f29,_,_,G29,b29,k29,PySem.W.mg_of X G a29⟩
 have G30:=fok__law_way (P:=l.prog) (w:=w) (base:=base) F30 T M__law_way
 have C__law_way:Cal l.prog w K mg base "_law_way" 1 1 K84.L_way.f:=⟨f30,_,_,G30,b30,k30,PySem.W.mg_of X G a30⟩
 have G31:=fok__law_common (P:=l.prog) (w:=w) (base:=base) F31 T
 have C__law_common:Cal l.prog w K mg base "_law_common" 1 2 K84.L_common.f:=⟨f31,_,_,G31,b31,k31,PySem.W.mg_of X G a31⟩
 have G32:=fok__law_weight (P:=l.prog) (w:=w) (base:=base) F32 T
 have C__law_weight:Cal l.prog w K mg base "_law_weight" 1 2 K84.L_weight.f:=⟨f32,_,_,G32,b32,k32,PySem.W.mg_of X G a32⟩
 have G33:=fok__law_spots (P:=l.prog) (w:=w) (base:=base) F33 T C__law_ends
 have C__law_spots:Cal l.prog w K mg base "_law_spots" 2 2 K84.L_spots.f:=⟨f33,_,_,G33,b33,k33,PySem.W.mg_of X G a33⟩
 exact law_ofB (F:=K84.law.f) (fok_law F34 T C__law_small C_wheel_of C__law_common C__law_way C__law_is_least C__law_nth C__law_weight C_wheel_joined C__law_spots C__law_is_wheel C__law_told CO XT_10 CX_wheel_joined_10) run_law
end K84
def PySem.W.Fast.tw3557904656207520906:Unit:=()
def PySem.W.Fast.tw8534108949643111985:Unit:=()
def PySem.W.Fast.tw17889699293057621243:Unit:=()
def PySem.W.Fast.tw8812586410438502920:Unit:=()
def PySem.W.Fast.tw1412354371347728804:Unit:=()
def PySem.W.Fast.tw9926948794971148368:Unit:=()
def PySem.W.Fast.tw15400387865910976255:Unit:=()
def PySem.W.Fast.tw11219262470257260432:Unit:=()
def PySem.W.Fast.tw13505086449375113662:Unit:=()
def PySem.W.Fast.tw15990918011428924572:Unit:=()
open PySem PySem.W PyProof.Rows
set_option maxRecDepth 100000 in
set_option maxHeartbeats 0 in
theorem PySem.Challenge.cw_spanmap_k84_wheels_joined_holds : PySem.Challenge.rw_spanmap_k84_wheels_joined.Holds := by
 w_on; o_law; k_head; (case hw=>w_witness2)
 k_fill
 refine' FL.walkB (l:=PySem.Challenge.rw_spanmap_k84_wheels_joined) (k:=7) rfl rfl ⟨rfl,by decide,by decide⟩ (fun w h Y=>PySem.W.km_in_of Y) (fun w=>by kernel_rfl) ?T ?F
 case T =>
  intro w
  dsimp only [L2.makers]
  repeat (first
   | exact FL.TabL.nil
   | (apply FL.tabL_no; k_is)
   | (apply FL.tabL_yes; k_is; k_is; exact rfl; k_is; exact rfl; kernel_rfl))
  all_goals decide
 case F =>
  intro w mg fa h KX G hmg
  refine' K84.all_mk KX G hmg ?a0 ?l0 ?c0 ?k0 ?a1 ?l1 ?c1 ?k1 ?a2 ?l2 ?c2 ?k2 ?a3 ?l3 ?c3 ?k3 ?a4 ?l4 ?c4 ?k4 ?a5 ?l5 ?c5 ?k5 ?a6 ?l6 ?c6 ?k6 ?a7 ?l7 ?c7 ?k7 ?a8 ?l8 ?c8 ?k8 ?a9 ?l9 ?c9 ?k9 ?a10 ?l10 ?c10 ?k10 ?a11 ?l11 ?c11 ?k11 ?a12 ?l12 ?c12 ?k12 ?a13 ?l13 ?c13 ?k13 ?a14 ?l14 ?c14 ?k14 ?a15 ?l15 ?c15 ?k15 ?a16 ?l16 ?c16 ?k16 ?a17 ?l17 ?c17 ?k17 ?a18 ?l18 ?c18 ?k18 ?a19 ?l19 ?c19 ?k19 ?a20 ?l20 ?c20 ?k20 ?a21 ?l21 ?c21 ?k21 ?a22 ?l22 ?c22 ?k22 ?a23 ?l23 ?c23 ?k23 ?a24 ?l24 ?c24 ?k24 ?a25 ?l25 ?c25 ?k25 ?a26 ?l26 ?c26 ?k26 ?a27 ?l27 ?c27 ?k27 ?a28 ?l28 ?c28 ?k28 ?a29 ?l29 ?c29 ?k29 ?a30 ?l30 ?c30 ?k30 ?mt30 ?ml30 ?mp30 ?a31 ?l31 ?c31 ?k31 ?a32 ?l32 ?c32 ?k32 ?a33 ?l33 ?c33 ?k33 ?a34 ?l34 ?c34 ?k34 ?xn10 ?xe10 ?xg10 ?xh10 ?xc10 ?xo10 ?xb10 ?xu10 ?xy10 ?xs10_10 ?z0 ?z1 ?z2 ?z3 ?z4 ?z5 ?z6 ?z7 ?z8 ?v0
  (case a0=>k_is)
  (case l0=>k_is)
  (case c0=>k_is)
  (case k0=>k_is)
  (case a1=>k_is)
  (case l1=>k_is)
  (case c1=>k_is)
  (case k1=>k_is)
  (case a2=>k_is)
  (case l2=>k_is)
  (case c2=>k_is)
  (case k2=>k_is)
  (case a3=>k_is)
  (case l3=>k_is)
  (case c3=>k_is)
  (case k3=>k_is)
  (case a4=>k_is)
  (case l4=>k_is)
  (case c4=>k_is)
  (case k4=>k_is)
  (case a5=>k_is)
  (case l5=>k_is)
  (case c5=>k_is)
  (case k5=>k_is)
  (case a6=>k_is)
  (case l6=>k_is)
  (case c6=>k_is)
  (case k6=>k_is)
  (case a7=>k_is)
  (case l7=>k_is)
  (case c7=>k_is)
  (case k7=>k_is)
  (case a8=>k_is)
  (case l8=>k_is)
  (case c8=>k_is)
  (case k8=>k_is)
  (case a9=>k_is)
  (case l9=>k_is)
  (case c9=>k_is)
  (case k9=>k_is)
  (case a10=>k_is)
  (case l10=>k_is)
  (case c10=>k_is)
  (case k10=>k_is)
  (case a11=>k_is)
  (case l11=>k_is)
  (case c11=>k_is)
  (case k11=>k_is)
  (case a12=>k_is)
  (case l12=>k_is)
  (case c12=>k_is)
  (case k12=>k_is)
  (case a13=>k_is)
  (case l13=>k_is)
  (case c13=>k_is)
  (case k13=>k_is)
  (case a14=>k_is)
  (case l14=>k_is)
  (case c14=>k_is)
  (case k14=>k_is)
  (case a15=>k_is)
  (case l15=>k_is)
  (case c15=>k_is)
  (case k15=>k_is)
  (case a16=>k_is)
  (case l16=>k_is)
  (case c16=>k_is)
  (case k16=>k_is)
  (case a17=>k_is)
  (case l17=>k_is)
  (case c17=>k_is)
  (case k17=>k_is)
  (case a18=>k_is)
  (case l18=>k_is)
  (case c18=>k_is)
  (case k18=>k_is)
  (case a19=>k_is)
  (case l19=>k_is)
  (case c19=>k_is)
  (case k19=>k_is)
  (case a20=>k_is)
  (case l20=>k_is)
  (case c20=>k_is)
  (case k20=>k_is)
  (case a21=>k_is)
  (case l21=>k_is)
  (case c21=>k_is)
  (case k21=>k_is)
  (case a22=>k_is)
  (case l22=>k_is)
  (case c22=>k_is)
  (case k22=>k_is)
  (case a23=>k_is)
  (case l23=>k_is)
  (case c23=>k_is)
  (case k23=>k_is)
  (case a24=>k_is)
  (case l24=>k_is)
  (case c24=>k_is)
  (case k24=>k_is)
  (case a25=>k_is)
  (case l25=>k_is)
  (case c25=>k_is)
  (case k25=>k_is)
  (case a26=>k_is)
  (case l26=>k_is)
  (case c26=>k_is)
  (case k26=>k_is)
  (case a27=>k_is)
  (case l27=>k_is)
  (case c27=>k_is)
  (case k27=>k_is)
  (case a28=>k_is)
  (case l28=>k_is)
  (case c28=>k_is)
  (case k28=>k_is)
  (case a29=>k_is)
  (case l29=>k_is)
  (case c29=>k_is)
  (case k29=>k_is)
  (case a30=>k_is)
  (case l30=>k_is)
  (case c30=>k_is)
  (case k30=>k_is)
  (case mt30=>exact rfl)
  (case ml30=>k_is)
  (case mp30=>exact rfl)
  (case a31=>k_is)
  (case l31=>k_is)
  (case c31=>k_is)
  (case k31=>k_is)
  (case a32=>k_is)
  (case l32=>k_is)
  (case c32=>k_is)
  (case k32=>k_is)
  (case a33=>k_is)
  (case l33=>k_is)
  (case c33=>k_is)
  (case k33=>k_is)
  (case a34=>k_is)
  (case l34=>k_is)
  (case c34=>k_is)
  (case k34=>k_is)
  (case xn10=>k_is)
  (case xe10=>k_exc)
  (case xg10=>k_is)
  (case xh10=>k_is)
  (case xc10=>k_is)
  (case xo10=>k_is)
  (case xb10=>k_is)
  (case xu10=>k_is)
  (case xy10=>k_is)
  (case xs10_10=>k_is)
  (case z0=>k_is)
  (case z1=>k_is)
  (case z2=>k_is)
  (case z3=>k_is)
  (case z4=>k_is)
  (case z5=>k_is)
  (case z6=>k_is)
  (case z7=>k_is)
  (case z8=>k_is)
  (case v0=>k_is)
#print axioms PySem.Challenge.cw_spanmap_k84_wheels_joined_holds
