import PyProof.Rows.All
import Wide.All
import OpenK.AllK
import Wide.FinOn
import Lean
import PyProof.EqAt
import PyProof.DictItems
import PyProof.DictWalks
import PyProof.Rows.SortStr
import PyProof.Rows.SortShellK
import PyProof.Rows.SortWalk
import KE.KRevIter
import KE.KDictList
import PyProof.CollectIter
import PyProof.DictValues
import KE.KDictSum
import PyProof.EqKinds
import PyProof.TupleCall
import PyProof.ListRange
import PyProof.P3In
import PyProof.NeData
import PyProof.NsDelKeeps
import PyProof.SliceList
import KE.KLam
import KE.KIntText
import PySem.Challenge.RW_spanmap_k76_refused_bundles
set_option compiler.extract_closed false
set_option bootstrap.genMatcherCode false
set_option Elab.async false
set_option linter.all false
set_option maxRecDepth 100000
namespace HT
noncomputable def sIx (n d:Nat):Option Int->Nat
 | none=>d
 | some v=>if v < 0 then (v+(n:Int)).toNat else min v.toNat n
end HT
namespace L2
open PySem
abbrev Key:=Sum (Option Int) Str
noncomputable def ixN (n:Nat) (i:Int):Option Nat:=if 0<=i then (if i < n then some i.toNat else none) else if -(n:Int)<=i then some (i+n).toNat else none
noncomputable def atI {α : Type} (xs:List α) (i:Int):Option α:=(ixN xs.length i).bind fun j=>xs[j]?
end L2
namespace FL
open PySem PySem.Spec PyProof.Rows L2
theorem bnd {α β : Type} {o:Option α} {f : α->Option β} {b : β} (h:o.bind f=some b):∃ a,o=some a/\f a=some b:=Option.bind_eq_some_iff.mp h
theorem mpd {α β : Type} {o:Option α} {f : α->β} {b : β} (h:o.map f=some b):∃ a,o=some a/\f a=b:=Option.map_eq_some_iff.mp h
noncomputable def clsName:Nat->Str
 | 0=>"Put" | 1=>"Widen" | 2=>"Narrow" | 3=>"Move" | 4=>"Stretch" | 5=>"Mirror" | 6=>"Deed" | 7=>"Shut" | 8=>"Open" | 9=>"Endless" | 10=>"End" | 11=>"Line" | 12=>"Bundle" | 13=>"Desk"
 | 20=>"Line" | 21=>"Line" | 22=>"Line" | 23=>"Line" | 24=>"Bundle" | 25=>"Desk" | _=>""
noncomputable def clsFlds:Nat->List Str
 | 0=>["span","fill"] | 1=>["fill","at","many"] | 2=>["fill","at","many"] | 3=>["fill","far"] | 4=>["fill","top","bottom"] | 5=>["fill"] | 6=>["fill"] | 7=>["place"] | 8=>["place"] | 11=>["pieces","places","earlier","later"] | 12=>["lying"] | 13=>["lines"]
 | 21=>["pieces"] | 22=>["pieces","places"] | 23=>["pieces","places","earlier"] | _=>[]
noncomputable def fnName:Nat->Str
 | 0=>"either" | 1=>"if_both" | 2=>"if_alone" | 3=>"summed" | 4=>"_law_first" | 5=>"_law_both" | 6=>"_law_left" | 7=>"_law_sum" | 8=>"_law_none" | _=>""
inductive D where
 | non | bl (b:Bool) | int (i:Int) | str (x:Str) | tup (ds:List D) | lst (ds:List D)
 | dct (ks:List Key) (ds:List D) | ins (t:Nat) (ds:List D) | clo (m n:Nat) (ds:List D)
 | dcf (ks:List Key) (ds:List D)
mutual
noncomputable def flat:D->Bool
 | .non | .bl _ | .int _ | .str _=>true
 | .tup ds=>flats ds
 | _=>false
noncomputable def flats:List D->Bool
 | []=>true
 | d::r=>flat d && flats r
end
noncomputable def xName:Nat->Str
 | 0=>"SpanError" | 1=>"Empty" | 2=>"NoEnd" | 3=>"Clash" | 4=>"NoCount" | 5=>"NoShare" | 6=>"NoName" | 7=>"NoMark" | 8=>"NoDeed" | 9=>"NoRule" | 10=>"TooMuch" | 11=>"NoText" | _=>"NoRow"
inductive OT where
 | val (d:D) | lst (l:List OT) | tup (l:List OT) | dct (ks:List Key) (l:List OT) | ins (t:Nat) (l:List OT)
mutual
noncomputable def otD:OT->D
 | .val d=>d
 | .lst l=>.lst (otDs l)
 | .tup l=>.tup (otDs l)
 | .dct ks l=>.dct ks (otDs l)
 | .ins t l=>.ins t (otDs l)
noncomputable def otDs:List OT->List D
 | []=>[]
 | t::r=>otD t::otDs r
end
inductive Sl where
 | no | v (d:D) | own (l:List D) | exc (t:Nat) | fr (l:List D) | ob (r:Option Nat) (t:OT)
abbrev FE:=List Sl->Option D
abbrev FT:=List Sl->Option Bool
abbrev FA:=List Sl->Option (List D)
noncomputable def mkL (f:FA):FE:=fun ds=>(f ds).map D.lst
noncomputable def qF (i:Nat):FE:=fun ds=>match ds[i]? with | some (.v d)=>some d | _=>none
noncomputable def zI (i:Nat):FE:=fun ds=>match ds[i]? with | some (.v d)=>some d | some (.own l)=>some (.lst l) | _=>none
noncomputable def zA (d:D):FE:=fun _=>some d
noncomputable def zJ (op:D->D->Option D) (fa fb:FE):FE:=fun ds=>(fa ds).bind fun x=>(fb ds).bind fun y=>op x y
noncomputable def isB:D->Option Bool
 | .bl b=>some b
 | _=>none
noncomputable def zP (f:FE):FT:=fun ds=>(f ds).bind isB
noncomputable def yG:D->D->Option D
 | .int i,.int j=>some (.int (i+j))
 | .str x,.str y=>if x.length+y.length<=sizeLine then some (.str (x++y)) else none
 | _,_=>none
noncomputable def subD:D->D->Option D
 | .int i,.int j=>some (.int (i - j))
 | _,_=>none
def divOk (j:Int):Prop:=0 < j/\j.natAbs.log2 < 9000
noncomputable instance divOkD (j:Int):Decidable (divOk j):=Classical.propDecidable _
noncomputable def qL:D->D->Option D
 | .int i,.int j=>if divOk j then some (.int (i / j)) else none
 | _,_=>none
noncomputable def jO:D->D->Option D
 | .int i,.int j=>if 0 < j then some (.int (i % j)) else none
 | _,_=>none
noncomputable def cmpI (p:Int->Int->Bool):D->D->Option D
 | .int i,.int j=>some (.bl (p i j))
 | _,_=>none
noncomputable def andT (c d:FT):FT:=fun ds=>(c ds).bind fun b=>if b=true then d ds else some false
noncomputable def orT (c d:FT):FT:=fun ds=>(c ds).bind fun b=>if b=true then some true else d ds
noncomputable def notT (c:FT):FT:=fun ds=>(c ds).map not
noncomputable def andV (f g:FE):FE:=fun ds=>(f ds).bind fun d=>match d with | .bl true=>g ds | .bl false=>some (.bl false) | _=>none
noncomputable def orV (f g:FE):FE:=fun ds=>(f ds).bind fun d=>match d with | .bl true=>some (.bl true) | .bl false=>g ds | _=>none
noncomputable def notV (f:FE):FE:=fun ds=>(f ds).bind fun d=>match d with | .bl b=>some (.bl (!b)) | _=>none
noncomputable def ifV (c:FT) (f g:FE):FE:=fun ds=>(c ds).bind fun b=>if b=true then f ds else g ds
noncomputable def chain (op op':D->D->Option D) (fa fb fc:FE):FE:=fun ds=>(fa ds).bind fun x=>(fb ds).bind fun y=>(op x y).bind fun z=>match z with
 | .bl true=>(fc ds).bind fun w=>op' y w
 | .bl false=>some (.bl false)
 | _=>none
noncomputable def zB (f:FE) (g:FA):FA:=fun ds=>(f ds).bind fun x=>(g ds).map fun r=>x::r
noncomputable def zR:FA:=fun _=>some []
noncomputable def zZ (f:FA):FA:=fun ds=>(f ds).bind fun l=>if l.length<=sizeLine then some l else none
noncomputable def mkT (f:FA):FE:=fun ds=>(f ds).map D.tup
noncomputable def ixD:D->D->Option D
 | .lst l,.int i=>atI l i
 | .tup l,.int i=>atI l i
 | .str x,.int i=>if x.length<=sizeLine then (atI x.cps.toList i).map fun c=>.str ⟨#[c]⟩ else none
 | _,_=>none
inductive Ret where
 | val (d:D) | fresh (l:List D) | any (d:D) | obj (t:OT)
noncomputable def retV:Ret->Option D
 | .val d=>some d
 | .fresh l=>some (.lst l)
 | .any _=>none
 | .obj t=>some (otD t)
noncomputable def retF:Ret->Option (List D)
 | .fresh l=>some l
 | _=>none
noncomputable def retA:Ret->Option D
 | .any d=>some d
 | _=>none
noncomputable def callA (n:Nat) (F:List D->Option Ret) (g:List Sl->Option (List D)):List Sl->Option D:=fun ds=>(g ds).bind fun l=>if l.length=n then (F l).bind retA else none
noncomputable def qQ (n:Nat) (F:List D->Option Ret) (g:FA):FE:=fun ds=>(g ds).bind fun l=>if l.length=n then (F l).bind retV else none
noncomputable def vI (n:Nat) (F:List D->Option Ret) (g:FA):FA:=fun ds=>(g ds).bind fun l=>if l.length=n then (F l).bind retF else none
noncomputable def callB (F:List D->Option D) (g:FA):FE:=fun ds=>(g ds).bind F
noncomputable def lenD:List D->Option D
 | [.lst l]=>some (.int l.length)
 | [.tup l]=>some (.int l.length)
 | [.str x]=>if x.length<=sizeLine then some (.int x.length) else none
 | _=>none
inductive Out where
 | nx (ds:List Sl) | rt (r:Ret) | bk (ds:List Sl) | ct (ds:List Sl)
abbrev FS:=List Sl->Option Out
noncomputable def qB:FS:=fun ds=>some (.nx ds)
noncomputable def qJ (f g:FS):FS:=fun ds=>(f ds).bind fun o=>match o with | .nx ds'=>g ds' | o=>some o
noncomputable def ifG (c:FT) (f g:FS):FS:=fun ds=>(c ds).bind fun b=>if b=true then f ds else g ds
noncomputable def xG (i:Nat) (f:FE):FS:=fun ds=>(f ds).map fun d=>.nx (ds.set i (.v d))
noncomputable def setOG (i:Nat) (f:FA):FS:=fun ds=>(f ds).map fun l=>.nx (ds.set i (.own l))
noncomputable def flatR (d:D):Option Out:=if flat d=true then some (.rt (.val d)) else none
noncomputable def retG (f:FE):FS:=fun ds=>(f ds).bind flatR
noncomputable def flatF (l:List D):Option Out:=if flats l=true then some (.rt (.fresh l)) else none
noncomputable def retOG (f:FA):FS:=fun ds=>(f ds).bind flatF
noncomputable def retXG (i:Nat):FS:=fun ds=>match ds[i]? with | some (.own l)=>flatF l | _=>none
noncomputable def putG (i:Nat) (fk fe:FE):FS:=fun ds=>match ds[i]? with
 | some (.own l) => (fe ds).bind fun d => (fk ds).bind fun k => match k with
   | .int n=>(ixN l.length n).map fun j=>.nx (ds.set i (.own (l.set j d)))
   | _=>none
 | _=>none
noncomputable def appG (i:Nat) (fe:FE):FS:=fun ds=>match ds[i]? with
 | some (.own l)=>(fe ds).bind fun d=>if l.length < sizeLine then some (.nx (ds.set i (.own (l++[d])))) else none
 | _=>none
noncomputable def args (n:Nat) (ds:List D):List Sl:=ds.map Sl.v++List.replicate (n - ds.length) Sl.no
noncomputable def sgns (x:Str):List D:=x.cps.toList.map fun c=>D.str ⟨#[c]⟩
noncomputable def asS:D->Option (List D)
 | .str x=>some (sgns x)
 | _=>none
noncomputable def viaA (f:FE) (k:D->Option (List D)):FA:=fun ds=>(f ds).bind k
noncomputable def rangeD (lo:Int) (n:Nat):List D:=(List.range n).map fun (k:Nat)=>D.int (lo+(k:Int))
def okR (j:Int):Prop:=-(2 ^ 62)<=j/\j < 2 ^ 62
noncomputable instance okRD (j:Int):Decidable (okR j):=Classical.propDecidable _
noncomputable def rng1 (f:FE):FA:=fun ds=>(f ds).bind fun d=>match d with | .int j=>if okR j then some (rangeD 0 j.toNat) else none | _=>none
noncomputable def qA (i:Nat):D->List Sl->Option (List Sl):=fun d ds=>some (ds.set i (.v d))
noncomputable def tgNil:List D->List Sl->Option (List Sl)
 | [],ds=>some ds
 | _,_=>none
noncomputable def jC (g:D->List Sl->Option (List Sl)) (h:List D->List Sl->Option (List Sl)):List D->List Sl->Option (List Sl)
 | d::r,ds=>(g d ds).bind fun ds'=>h r ds'
 | _,_=>none
noncomputable def tupG (n:Nat) (h:List D->List Sl->Option (List Sl)):D->List Sl->Option (List Sl)
 | .tup l,ds=>if l.length=n then h l ds else none
 | _,_=>none
noncomputable def jM (ga:D->List Sl->Option (List Sl)) (body:FS):List D->List Sl->Option Out
 | [],ds=>some (.nx ds)
 | d :: r, ds => (ga d ds).bind fun ds1 => (body ds1).bind fun o => match o with
   | .nx ds2=>jM ga body r ds2
   | .ct ds2=>jM ga body r ds2
   | .bk ds2=>some (.nx ds2)
   | .rt r=>some (.rt r)
noncomputable def forG (fi:FA) (ga:D->List Sl->Option (List Sl)) (body:FS):FS:=fun ds=>(fi ds).bind fun items=>jM ga body items ds
noncomputable def compL (ga:D->List Sl->Option (List Sl)) (tt:FT) (fe:FE) (s0:List Sl):List D->Option (List D)
 | []=>some []
 | d::r=>(ga d s0).bind fun ds1=>(tt ds1).bind fun b=>if b=true then (fe ds1).bind fun y=>(compL ga tt fe s0 r).map fun ys=>y::ys else compL ga tt fe s0 r
noncomputable def qY (mp:List (Option Nat)) (ds:List Sl):List Sl:=mp.map fun o=>match o with
 | some j=>(match ds[j]? with | some (.v d)=>.v d | _=>.no)
 | none=>.no
noncomputable def compG (fi:FA) (mp:List (Option Nat)) (ga:D->List Sl->Option (List Sl)) (tt:FT) (fe:FE):FA:=fun ds=>(fi ds).bind fun items=>if items.length<=sizeLine then compL ga tt fe (qY mp ds) items else none
noncomputable def tyD:D->Option String
 | .non=>some "NoneType"
 | .bl _=>some "bool"
 | .int _=>some "int"
 | .str _=>some "str"
 | .tup _=>some "tuple"
 | .lst _=>some "list"
 | .dct _ _=>some "dict"
 | .ins _ _=>none
 | .clo _ _ _=>none
 | .dcf _ _=>none
noncomputable def kitN:List String:=["NoneType","bool","int","str","tuple","list","dict"]
noncomputable def kitT:List String:=["bool","int","str","tuple","list","dict"]
noncomputable def kitF (t T:String):Option Bool:=if t∈kitN/\T∈kitT then some (t == T || (t == "bool" && T == "int")) else none
noncomputable def isiD (T:String) (d:D):Option D:=(tyD d).bind fun t=>(kitF t T).map D.bl
noncomputable def isiG (T:String) (f:FE):FE:=fun ds=>(f ds).bind (isiD T)
noncomputable def blsD:List D->Option (List Bool)
 | []=>some []
 | .bl b::r=>(blsD r).map fun bs=>b::bs
 | _=>none
noncomputable def allD:List D->Option D
 | [.lst l]=>(blsD l).map fun bs=>.bl (bs.all id)
 | _=>none
noncomputable def strsD:List D->Option (List Str)
 | []=>some []
 | .str b::r=>(strsD r).map fun bs=>b::bs
 | _=>none
noncomputable def joinD:D->D->Option D
 | .str z,.lst l=>(strsD l).bind fun ts=>if z.length<=16/\(ts.map (·.length)).sum+ts.length<=1048576 then some (.str (Txt.join z ts)) else none
 | _,_=>none
noncomputable def negD:D->Option D
 | .int i=>some (.int (-i))
 | _=>none
noncomputable def un1 (op:D->Option D) (f:FE):FE:=fun ds=>(f ds).bind op
noncomputable def inS:D->D->Option D
 | .str i,.str j=>some (.bl (!(Builtin.Str.occurrences j i 0 j.length 1).isEmpty))
 | _,_=>none
noncomputable def retDG (f:FE):FS:=fun ds=>(f ds).map fun d=>.rt (.val d)
noncomputable def retAG (f:FE):FS:=fun ds=>(f ds).map fun d=>.rt (.any d)
noncomputable def runG (g:FS) (n:Nat):List D->Option Ret:=fun ds=>match g (args n ds) with
 | some (.rt r)=>some r
 | some (.nx _)=>some (.val .non)
 | _=>none
def CPowB (i j:Int):Prop:=0<=j/\(Builtin.Int.intBits i:Int) * j<=2 ^ 27
mutual
noncomputable def toPy:D->PyData
 | .non=>.none
 | .bl b=>.bool b
 | .int i=>.int i
 | .str x=>.str x
 | .tup ds=>.tuple (toPys ds)
 | .lst ds=>.list (toPys ds)
 | .dct _ _=>.none
 | .ins _ _=>.none
 | .clo _ _ _=>.none
 | .dcf _ _=>.none
noncomputable def toPys:List D->List PyData
 | []=>[]
 | d::r=>toPy d::toPys r
end
mutual
noncomputable def shal:Nat->D->Bool
 | _,.non=>true
 | _,.bl _=>true
 | _,.int _=>true
 | _,.str x=>PyData.strOk x
 | n,.tup ds=>shals n ds
 | n,.lst ds=>shals n ds
 | _,.dct _ _=>false
 | _,.ins _ _=>false
 | _,.clo _ _ _=>false
 | _,.dcf _ _=>false
noncomputable def shals:Nat->List D->Bool
 | _,[]=>true
 | 0,_::_=>false
 | n+1,d::r=>shal n d && shals (n+1) r
end
noncomputable def eqvD (x y:D):Bool:=PyData.eqv (toPy x) (toPy y)
noncomputable def eqvs (x y:List D):Bool:=PyData.eqvAll (toPys x) (toPys y)
noncomputable def eqD (x y:D):Option D:=if shal 40 x=true/\shal 40 y=true then some (.bl (eqvD x y)) else none
noncomputable def neD (x y:D):Option D:=if shal 40 x=true/\shal 40 y=true then some (.bl (!eqvD x y)) else none
noncomputable def isD:D->D->Option D
 | .non,.non=>some (.bl true)
 | _,.non=>some (.bl false)
 | _,_=>none
noncomputable def notD:D->D->Option D
 | .non,.non=>some (.bl false)
 | _,.non=>some (.bl true)
 | _,_=>none
noncomputable def sclD:D->Bool
 | .non | .bl _ | .int _ | .str _=>true
 | _=>false
noncomputable def asLT:D->Option (List D)
 | .lst l=>some l
 | .tup l=>some l
 | _=>none
noncomputable def inD (neg:Bool) (x y:D):Option D:=(asLT y).bind fun l=>if sclD x=true/\l.all sclD=true then some (.bl (if neg then !l.any (fun z=>eqvD z x) else l.any fun z=>eqvD z x)) else none
noncomputable instance mulOkD (i j:Int):Decidable (IntMulOk i j):=Classical.propDecidable _
noncomputable instance powOkD (i j:Int):Decidable (CPowB i j):=Classical.propDecidable _
noncomputable def mulD:D->D->Option D
 | .int i,.int j=>if IntMulOk i j then some (.int (i * j)) else none
 | _,_=>none
noncomputable def catA (fa fb:FE):FA:=fun ds=>(fa ds).bind fun x=>(fb ds).bind fun y=>match x,y with
 | .lst a,.lst b=>if a.length+b.length<=sizeLine then some (a++b) else none
 | _,_=>none
noncomputable def noP:List Sl->Option (Option Int):=fun _=>some none
noncomputable def soP (f:FE):List Sl->Option (Option Int):=fun ds=>(f ds).bind fun d=>match d with | .int i=>some (some i) | _=>none
noncomputable def cutD (l:List D) (lo hi:Option Int):List D:=(l.drop (HT.sIx l.length 0 lo)).take (HT.sIx l.length l.length hi - HT.sIx l.length 0 lo)
noncomputable def sliA (f:FE) (lo hi:List Sl->Option (Option Int)):FA:=fun ds=>(f ds).bind fun d=>(lo ds).bind fun a=>(hi ds).bind fun b=>match d with
 | .lst l=>some (cutD l a b)
 | _=>none
noncomputable def lisA (f:FE):FA:=fun ds=>(f ds).bind asLT
noncomputable def mxD:List D->Option D
 | [.int i,.int j]=>some (.int (if j > i then j else i))
 | _=>none
noncomputable def mnD:List D->Option D
 | [.int i,.int j]=>some (.int (if j < i then j else i))
 | _=>none
noncomputable def absD:List D->Option D
 | [.int i]=>some (.int (if i < 0 then -i else i))
 | _=>none
noncomputable def truD:D->Option Bool
 | .non=>some false
 | .bl b=>some b
 | .int i=>some (i != 0)
 | .str x=>if x.length<=sizeLine then some ((x.length:Int) != 0) else none
 | .tup l=>some (!l.isEmpty)
 | .lst l=>some (!l.isEmpty)
 | _=>none
noncomputable def testT (f:FE):FT:=fun ds=>(f ds).bind truD
noncomputable def relS (i:Nat) (ds:List Sl):List Sl:=match ds[i]? with | some (.own l)=>ds.set i (.v (.lst l)) | _=>ds
noncomputable def asgG (ga:D->List Sl->Option (List Sl)) (f:FE):FS:=fun ds=>(f ds).bind fun d=>(ga d ds).map .nx
noncomputable def extG (i:Nat) (fe:FA):FS:=fun ds=>match ds[i]? with
 | some (.own l)=>(fe ds).bind fun d=>if l.length+d.length<=sizeLine then some (.nx (ds.set i (.own (l++d)))) else none
 | _=>none
noncomputable def clrG (i:Nat):FS:=fun ds=>match ds[i]? with
 | some (.own l)=>some (.nx (ds.set i (.own [])))
 | _=>none
noncomputable def ltD:D->D->Option D:=cmpI fun i j=>decide (i < j)
noncomputable def leD:D->D->Option D:=cmpI fun i j=>decide (i<=j)
noncomputable def gtD:D->D->Option D:=cmpI fun i j=>decide (j < i)
noncomputable def geD:D->D->Option D:=cmpI fun i j=>decide (j<=i)
noncomputable def rng2 (fa fb:FE):FA:=fun ds=>(fa ds).bind fun x=>(fb ds).bind fun y=>match x,y with
 | .int i,.int j=>if okR i/\okR j then some (rangeD i (j - i).toNat) else none
 | _,_=>none
noncomputable def range3D (lo c:Int) (n:Nat):List D:=(List.range n).map fun (k:Nat)=>D.int (lo+(k:Int) * c)
noncomputable def steps3 (i j c:Int):Nat:=if i < j then ((j - i - 1) / c+1).toNat else 0
def okR3 (i j c:Int):Prop:=-(2 ^ 61)<=i/\i < 2 ^ 61/\-(2 ^ 61)<=j/\j < 2 ^ 61/\0 < c/\c < 1000000
noncomputable instance okR3D (i j c:Int):Decidable (okR3 i j c):=Classical.propDecidable _
noncomputable def rng3 (fa fb fc:FE):FA:=fun ds=>(fa ds).bind fun x=>(fb ds).bind fun y=>(fc ds).bind fun z=>match x,y,z with
 | .int i,.int j,.int c=>if okR3 i j c then some (range3D i c (steps3 i j c)) else none
 | _,_,_=>none
noncomputable def revA (f:FE):FA:=fun ds=>(f ds).bind fun d=>match d with
 | .lst l=>some l.reverse
 | _=>none
noncomputable def augA (i:Nat) (f:FE):FS:=fun ds=>(qF i ds).bind fun x=>(f ds).bind fun y=>match x,y with
 | .int a,.int b=>some (.nx (ds.set i (.v (.int (a+b)))))
 | _,_=>none
noncomputable def parG (i j:Nat) (f:FA):FS:=fun ds=>(f ds).bind fun l=>match l with
 | [a,b]=>some (.nx ((ds.set i (.v a)).set j (.v b)))
 | _=>none
noncomputable def int1D:List D->Option D
 | [.int i]=>some (.int i)
 | [.bl b]=>some (.int (if b then 1 else 0))
 | _=>none
abbrev Fun2:=D->List D->Option Ret
end FL
namespace FL
open PySem PyProof.Rows L2
noncomputable def repF (f:FA) (g:FE):FA:=fun ds=>(f ds).bind fun l=>(g ds).bind fun y=>match y with
 | .int k=>if 0<=k/\k<=1000/\l.length * k.toNat<=sizeLine then some (List.replicate k.toNat l).flatten else none
 | _=>none
noncomputable def fldD (ix:List (Nat×Nat)):D->Option D
 | .ins t ds=>(ix.lookup t).bind fun i=>ds[i]?
 | _=>none
noncomputable def fldG (ix:List (Nat×Nat)) (f:FE):FE:=fun ds=>(f ds).bind (fldD ix)
noncomputable def methR (n:Nat) (cs:List Nat) (F:Nat->List D->Option Ret) (o:D) (l:List D):Option Ret:=match o with
 | .ins t es=>if t∈cs/\l.length=n then F t (.ins t es::l) else none
 | _=>none
noncomputable def methV (n:Nat) (cs:List Nat) (F:Nat->List D->Option Ret) (fo:FE) (g:FA):FE:=fun ds=>(fo ds).bind fun o=>(g ds).bind fun l=>(methR n cs F o l).bind retV
noncomputable def methF (n:Nat) (cs:List Nat) (F:Nat->List D->Option Ret) (fo:FE) (g:FA):FA:=fun ds=>(fo ds).bind fun o=>(g ds).bind fun l=>(methR n cs F o l).bind retF
noncomputable def makeG (t n:Nat) (G:List D->Option (List D)) (g:FA):FE:=fun ds=>(g ds).bind fun l=>if l.length=n/\flats l=true then (G l).map (D.ins t) else none
noncomputable def argsN (n:Nat) (ds:List D):List Sl:=Sl.no::(ds.map Sl.v++List.replicate (n - (ds.length+1)) Sl.no)
end FL
namespace FL
open PySem
noncomputable def ifX (c:FT) (a b:List Sl->Bool):List Sl->Bool:=fun ds=>match c ds with
 | some true=>a ds
 | some false=>b ds
 | none=>false
noncomputable def neverX:List Sl->Bool:=fun _=>false
noncomputable def alwaysX:List Sl->Bool:=fun _=>true
noncomputable def seqX (f:FS) (x:List Sl->Bool):List Sl->Bool:=fun ds=>match f ds with
 | some (.nx ds')=>x ds'
 | _=>false
noncomputable def callX (n:Nat) (R:List D->Bool) (g:FA):List Sl->Bool:=fun ds=>match g ds with
 | some l=>decide (l.length=n) && R l
 | none=>false
noncomputable def runX (x:List Sl->Bool) (n:Nat):List D->Bool:=fun ds=>x (args n ds)
noncomputable def dropG (f:FE):FS:=fun ds=>(f ds).map fun _=>.nx ds
noncomputable def goneO (i:Nat):Out->Out
 | .nx ds=>.nx (ds.set i .no)
 | .bk ds=>.bk (ds.set i .no)
 | .ct ds=>.ct (ds.set i .no)
 | .rt r=>.rt r
noncomputable def tryG (i t:Nat) (g:FS) (x:List Sl->Bool) (h:FS):FS:=fun ds=>if x ds=true then (h (ds.set i (.exc t))).map (goneO i) else g ds
noncomputable def isxG (i:Nat) (tb:List (Nat×Bool)):FE:=fun ds=>match ds[i]? with
 | some (.exc t)=>(tb.lookup t).map D.bl
 | _=>none
noncomputable def orX (a b:List Sl->Bool):List Sl->Bool:=fun ds=>a ds || b ds
noncomputable def runXN (x:List Sl->Bool) (n:Nat):List D->Bool:=fun ds=>x (argsN n ds)
def okRB (i j:Int):Prop:=-(2 ^ 61)<=i/\i < 2 ^ 61/\-(2 ^ 61)<=j/\j < 2 ^ 61
noncomputable instance okRBD (i j:Int):Decidable (okRB i j):=Classical.propDecidable _
end FL
namespace FL
noncomputable def sltW (f:FE) (lo hi:List Sl->Option (Option Int)):FE:=fun ds=>(f ds).bind fun d=>(lo ds).bind fun a=>(hi ds).bind fun b=>match d with
 | .tup l=>some (.tup (cutD l a b))
 | _=>none
end FL
namespace FL
open PySem PyProof.Rows L2
noncomputable def insG (i:Nat) (fk fe:FE):FS:=fun ds=>match ds[i]? with
 | some (.own l) => (fk ds).bind fun k => (fe ds).bind fun d => match k with
   | .int n=>if 0<=n/\n<=l.length/\l.length < sizeLine then some (.nx (ds.set i (.own (l.take n.toNat++d::l.drop n.toNat)))) else none
   | _=>none
 | _=>none
noncomputable def rngL (fa fb:FE):FA:=fun ds=>(fa ds).bind fun x=>(fb ds).bind fun y=>match x,y with
 | .int i,.int j=>some (rangeD i (j - i).toNat)
 | _,_=>none
@[simp] theorem rngL_eq (fa fb:FE) (ds:List Sl):rngL fa fb ds=(fa ds).bind fun x=>(fb ds).bind fun y=>match x,y with
 | .int i,.int j=>some (rangeD i (j - i).toNat)
 | _,_=>none:=rfl
noncomputable instance mulOkSD (x:Str) (n:Int):Decidable (MulOk x n):=Classical.propDecidable _
noncomputable def slsS (f:FE) (lo hi:List Sl->Option (Option Int)):FE:=fun ds=>(f ds).bind fun d=>(lo ds).bind fun a=>(hi ds).bind fun b=>match d with
 | .str x=>if x.length<=sizeLine then some (.str (Txt.slice x a b)) else none
 | _=>none
abbrev FO:=List Sl->Option OT
abbrev FOs:=List Sl->Option (List OT)
noncomputable def getN (i:Nat):FE:=fun ds=>match ds[i]? with
 | some (.v d)=>some d
 | some (.own l)=>some (.lst l)
 | some (.ob _ t)=>some (otD t)
 | _=>none
noncomputable def vO (f:FE):FO:=fun ds=>(f ds).map OT.val
noncomputable def lO (f:FA):FO:=fun ds=>(f ds).map fun l=>.lst (l.map OT.val)
noncomputable def nilO:FOs:=fun _=>some []
noncomputable def consO (f:FO) (g:FOs):FOs:=fun ds=>(f ds).bind fun x=>(g ds).map fun r=>x::r
noncomputable def tO (f:FOs):FO:=fun ds=>(f ds).bind fun l=>if l.length<=sizeLine then some (.tup l) else none
noncomputable def sO (f:FOs):FO:=fun ds=>(f ds).bind fun l=>if l.length<=sizeLine then some (.lst l) else none
noncomputable def setB (i:Nat) (f:FO):FS:=fun ds=>(f ds).map fun t=>.nx (ds.set i (.ob none t))
mutual
noncomputable def flatO:OT->Bool
 | .val d=>flat d
 | .lst l=>flatOs l
 | .tup l=>flatOs l
 | .dct _ l=>flatOs l
 | .ins _ l=>flatOs l
noncomputable def flatOs:List OT->Bool
 | []=>true
 | t::r=>flatO t && flatOs r
end
noncomputable def subO:List Nat->OT->Option OT
 | [],t=>some t
 | k::p,.tup l=>(l[k]?).bind (subO p)
 | k::p,.lst l=>(l[k]?).bind (subO p)
 | k::p,.dct _ l=>(l[k]?).bind (subO p)
 | k::p,.ins _ l=>(l[k]?).bind (subO p)
 | _::_,.val _=>none
noncomputable def putO (u:OT):List Nat->OT->OT
 | [],_=>u
 | k::p,.tup l=>.tup (l.modify k (putO u p))
 | k::p,.lst l=>.lst (l.modify k (putO u p))
 | k::p,.dct ks l=>.dct ks (l.modify k (putO u p))
 | k::p,.ins t l=>.ins t (l.modify k (putO u p))
 | _::_,.val d=>.val d
abbrev FP:=List Sl->Option (Nat×List Nat×OT)
noncomputable def varP (i:Nat):FP:=fun ds=>match ds[i]? with
 | some (.ob _ t)=>some (i,[],t)
 | _=>none
noncomputable def atP (ix:List (Nat×Nat)) (f:FP):FP:=fun ds=>(f ds).bind fun q=>match q.2.2 with
 | .ins t l=>(ix.lookup t).bind fun k=>(l[k]?).map fun u=>(q.1,q.2.1++[k],u)
 | _=>none
noncomputable def putP (q:Nat×List Nat×OT) (u:OT) (ds:List Sl):List Sl:=match ds[q.1]? with
 | some (.ob r t)=>ds.set q.1 (.ob r (putO u q.2.1 t))
 | _=>ds
@[simp] theorem getN_eq (i:Nat) (ds:List Sl):getN i ds=match ds[i]? with
 | some (.v d)=>some d
 | some (.own l)=>some (.lst l)
 | some (.ob _ t)=>some (otD t)
 | _=>none:=rfl
@[simp] theorem vO_eq (f:FE) (ds:List Sl):vO f ds=(f ds).map OT.val:=rfl
@[simp] theorem lO_eq (f:FA) (ds:List Sl):lO f ds=(f ds).map fun l=>.lst (l.map OT.val):=rfl
@[simp] theorem nilO_eq (ds:List Sl):nilO ds=some []:=rfl
@[simp] theorem consO_eq (f:FO) (g:FOs) (ds:List Sl):consO f g ds=(f ds).bind fun x=>(g ds).map fun r=>x::r:=rfl
@[simp] theorem tO_eq (f:FOs) (ds:List Sl):tO f ds=(f ds).bind fun l=>if l.length<=sizeLine then some (.tup l) else none:=rfl
@[simp] theorem setB_eq (i:Nat) (f:FO) (ds:List Sl):setB i f ds=(f ds).map fun t=>.nx (ds.set i (.ob none t)):=rfl
theorem vD:∀ l:List D,otDs (l.map OT.val)=l
 | []=>by simp [otDs]
 | d::r=>by simp [otDs,otD,vD r]
theorem xB:∀ l:List D,flatOs (l.map OT.val)=flats l
 | []=>by simp [flatOs,flats]
 | d::r=>by simp [flatOs,flatO,flats,xB r]
noncomputable def keyD:D->Option Key
 | .int i=>some (.inl (some i))
 | .non=>some (.inl none)
 | .str x=>some (.inr x)
 | _=>none
noncomputable def putTs (k:Key) (T:OT):List Key->List OT->List OT
 | k'::ks,t::ts=>(if k'=k then T else t)::putTs k T ks ts
 | _,ts=>ts
noncomputable def hasK (k:Key) (ks:List Key):Bool:=ks.any fun k'=>decide (k'=k)
noncomputable def putKT (k:Key) (T:OT) (ks:List Key) (ts:List OT):OT:=if hasK k ks=true then .dct ks (putTs k T ks ts) else .dct (ks++[k]) (ts++[T])
noncomputable def getKD (k:Key):List Key->List D->Option D
 | k'::ks,d::ds=>if k'=k then some d else getKD k ks ds
 | _,_=>none
noncomputable def kdD:D->Option (List Key×List D)
 | .dct ks l=>some (ks,l)
 | .dcf ks l=>some (ks,l)
 | _=>none
noncomputable def dO0:FO:=fun _=>some (.dct [] [])
noncomputable def dputG (f:FP) (fk fv:FE):FS:=fun ds=>(fv ds).bind fun d=>(f ds).bind fun q=>(fk ds).bind fun y=>(keyD y).bind fun k=>match q.2.2 with
 | .dct ks ts=>if ks.length < sizeLine then some (.nx (putP q (putKT k (.val d) ks ts) ds)) else none
 | _=>none
noncomputable def dgetG (fd fk:FE):FE:=fun ds=>(fd ds).bind fun x=>(fk ds).bind fun y=>(keyD y).bind fun k=>(kdD x).bind fun p=>getKD k p.1 p.2
noncomputable def dinG (fk fd:FE):FT:=fun ds=>(fk ds).bind fun y=>(keyD y).bind fun k=>(fd ds).bind fun x=>(kdD x).map fun p=>hasK k p.1
noncomputable def dnotG (fk fd:FE):FT:=fun ds=>(dinG fk fd ds).map fun b=>!b
noncomputable def keyDD:Key->D
 | .inl (some i)=>.int i
 | .inl none=>.non
 | .inr x=>.str x
noncomputable def argsL (n:Nat) (T:OT) (l:List D):List Sl:=.ob (some 0) T::args (n - 1) l
noncomputable def ob0:Option Sl->Option OT
 | some (.ob (some 0) T)=>some T
 | _=>none
noncomputable def lentF (g:FS) (n:Nat) (T:OT) (l:List D):Option OT:=match g (argsL n T l) with
 | some (.nx ds)=>ob0 ds[0]?
 | _=>none
noncomputable def lentG (n:Nat) (cs:List Nat) (F:Nat->OT->List D->Option OT) (f:FP) (g:FA):FS:=fun ds=>(f ds).bind fun q=>(g ds).bind fun l=>match q.2.2 with
 | .ins t ts=>if t∈cs/\l.length=n then (F t (.ins t ts) l).map fun T'=>.nx (putP q T' ds) else none
 | _=>none
noncomputable def setNw (t t':Nat) (f:FP) (g:FO):FS:=fun ds=>(g ds).bind fun T=>(f ds).bind fun q=>match q.2.2 with
 | .ins c l=>if c=t/\l.length < 900 then some (.nx (putP q (.ins t' (l++[T])) ds)) else none
 | _=>none
noncomputable def makeO (t n m:Nat) (F:OT->List D->Option OT) (g:FA):FO:=fun ds=>(g ds).bind fun l=>if l.length+m=n then F (.ins t []) (l++List.replicate m .non) else none
abbrev FX:=List Sl->Option (D×List Sl)
def leT (a b:Str):Prop:=¬ b.cps.toList < a.cps.toList
theorem leT_trans {a b c:Str} (h1:leT a b) (h2:leT b c):leT a c:=fun h=>by
 rcases strKind.negTrans c.cps.toList b.cps.toList a.cps.toList (decide_eq_true h) with q | q
 · exact h2 (of_decide_eq_true q)
 · exact h1 (of_decide_eq_true q)
theorem leT_of_lt {a b:Str} (h:a.cps.toList < b.cps.toList):leT a b:=fun q=>List.lt_irrefl _ (List.lt_trans h q)
theorem leT_antisymm {a b:Str} (h1:leT a b) (h2:leT b a):a=b:=by
 have:a.cps.toList=b.cps.toList:=List.le_antisymm (List.not_lt.mp h1) (List.not_lt.mp h2)
 cases a; cases b
 simp only [Str.mk.injEq]
 exact Array.toList_inj.mp this
noncomputable def insT (k:Str):List Str->List Str
 | []=>[k]
 | a::l=>if a.cps.toList < k.cps.toList then a::insT k l else k::a::l
noncomputable def srtT (ns:List Str):List Str:=ns.foldr insT []
theorem vA (k:Str):∀ l:List Str,(insT k l).Perm (k::l)
 | []=>List.Perm.refl _
 | a :: l => by
   unfold insT
   split
   · exact (List.Perm.cons a (vA k l)).trans (List.Perm.swap _ _ _)
   · exact List.Perm.refl _
theorem srtT_perm:∀ ns:List Str,(srtT ns).Perm ns
 | []=>List.Perm.refl _
 | k::ns=>(vA k _).trans (List.Perm.cons k (srtT_perm ns))
theorem insT_le (k:Str):∀ l:List Str,l.Pairwise leT->(insT k l).Pairwise leT
 | [],_=>List.pairwise_singleton _ _
 | a :: l, h => by
   obtain ⟨h1,h2⟩:=List.pairwise_cons.mp h
   unfold insT
   split
   · rename_i hk
     refine List.pairwise_cons.mpr ⟨fun b hb=>?_,insT_le k l h2⟩
     rcases List.mem_cons.mp ((vA k l).mem_iff.mp hb) with e | hb
     · rw [e]; exact leT_of_lt hk
     · exact h1 b hb
   · rename_i hk
     refine List.pairwise_cons.mpr ⟨fun b hb=>?_,h⟩
     rcases List.mem_cons.mp hb with e | hb
     · rw [e]; exact hk
     · exact leT_trans hk (h1 b hb)
theorem srtT_le:∀ ns:List Str,(srtT ns).Pairwise leT
 | []=>List.Pairwise.nil
 | k::ns=>insT_le k _ (srtT_le ns)
theorem leT_unique:∀ (l m:List Str),l.Perm m->l.Pairwise leT->m.Pairwise leT->l=m
 | [],m,hp,_,_=>(List.Perm.nil_eq hp)
 | a::l,[],hp,_,_=>by have:=hp.length_eq; simp at this
 | a :: l, b :: m, hp, h1, h2 => by
   obtain ⟨p1,p2⟩:=List.pairwise_cons.mp h1
   obtain ⟨q1,q2⟩:=List.pairwise_cons.mp h2
   have e:a=b:=by
    have ha:a∈b::m:=hp.mem_iff.mp (.head _)
    have hb:b∈a::l:=hp.mem_iff.mpr (.head _)
    rcases List.mem_cons.mp ha with e | ha
    · exact e
    · rcases List.mem_cons.mp hb with e | hb
      · exact e.symm
      · exact leT_antisymm (p1 b hb) (q1 a ha)
   subst e
   rw [leT_unique l m hp.cons_inv p2 q2]
theorem rising_le:∀ (l:List Str) (p:Str),risingS p l=true->(p::l).Pairwise leT
 | [],p,_=>List.pairwise_singleton _ _
 | x :: r, p, h => by
   simp only [risingS,Bool.and_eq_true,Bool.not_eq_true',ltCps_eq,decide_eq_false_iff_not] at h
   have ih:=rising_le r x h.2
   obtain ⟨i1,i2⟩:=List.pairwise_cons.mp ih
   refine List.pairwise_cons.mpr ⟨fun b hb=>?_,ih⟩
   rcases List.mem_cons.mp hb with e | hb
   · rw [e]; exact h.1
   · exact leT_trans h.1 (i1 b hb)
theorem sortedS_le:∀ {l:List Str},sortedS l=true->l.Pairwise leT
 | [],_=>List.Pairwise.nil
 | p::l,h=>rising_le l p h
noncomputable def relO (i:Nat) (ds:List Sl):List Sl:=match ds[i]? with | some (.ob _ T)=>ds.set i (.v (otD T)) | _=>ds
noncomputable def seeO (f:FO):FE:=fun ds=>(f ds).map otD
noncomputable def isT (t:Nat):D->Bool
 | .ins c _=>decide (c=t)
 | _=>false
noncomputable def methX (t n:Nat) (R:List D->Bool) (fo:FE) (g:FA):List Sl->Bool:=fun ds=>match fo ds with
 | some d => match g ds with
   | some l=>isT t d && (decide (l.length=n) && R (d::l))
   | none=>false
 | none=>false
noncomputable def relGO (i:Nat) (f:FO):FO:=fun ds=>(f (relO i ds)).bind fun T=>if flatO T=true then some T else none
noncomputable def ofO (f:FO):FE:=fun ds=>(f ds).map otD
end FL
namespace FL
open PySem
end FL
namespace FL
open PySem L2
noncomputable def keysA (f:FE):FA:=fun ds=>(f ds).bind fun x=>match x with
 | .dcf ks _=>some (ks.map keyDD)
 | _=>none
noncomputable def cntT:List Str->Nat
 | []=>0
 | x::r=>if x∈r then cntT r else cntT r+1
noncomputable def lsetE (f:FE):FE:=fun ds=>(f ds).bind fun x=>match x with
 | .lst l=>(strsD l).bind fun ts=>if ts.length < 1000 then some (.int (cntT ts.reverse:Nat)) else none
 | _=>none
noncomputable def srtTA (f:FE):FA:=fun ds=>(f ds).bind fun x=>match x with
 | .lst l=>(strsD l).bind fun ts=>if ts.length < 64 then some ((srtT ts).map D.str) else none
 | _=>none
theorem cntT_le:∀ l:List Str,cntT l<=l.length
 | []=>Nat.le_refl _
 | x :: r => by
   have:=cntT_le r
   unfold cntT
   split <;> simp <;> omega
theorem cntT_nodup:∀ l:List Str,l.Nodup->cntT l=l.length
 | [],_=>rfl
 | x :: r, h => by
   rw [List.nodup_cons] at h
   unfold cntT
   rw [if_neg h.1,cntT_nodup r h.2]; rfl
noncomputable def dputN (f:FP) (fk:FE) (g:FO):FS:=fun ds=>(g ds).bind fun T=>(f ds).bind fun q=>(fk ds).bind fun y=>(keyD y).bind fun k=>match q.2.2 with
 | .dct ks ts=>if ks.length < sizeLine/\hasK k ks=false then some (.nx (putP q (.dct (ks++[k]) (ts++[T])) ds)) else none
 | _=>none
noncomputable def insV (s:Option Sl):Option D:=match s with
 | some (.ob _ (.ins t [.dct ks ts]))=>some (.ins t [.dcf ks (otDs ts)])
 | _=>none
noncomputable def relTV (i:Nat) (c:FT):FT:=fun ds=>(insV ds[i]?).bind fun d=>c (ds.set i (.v d))
noncomputable def relGV (i:Nat) (f:FO):FO:=fun ds=>(insV ds[i]?).bind fun d=>(f (ds.set i (.v d))).bind fun T=>if flatO T=true then some T else none
end FL
namespace L2
open PySem PySem.Spec PyProof.Rows
noncomputable def isN0:Value->Bool
 | .none=>true
 | _=>false
noncomputable def keyIs:Key->Value->Bool:=fun k v=>match k with
 | .inl (some n)=>Value.isInt n v
 | .inl none=>isN0 v
 | .inr x=>Value.isStrOf x v
noncomputable def keyH (w:World):Key->Int:=fun k=>match k with
 | .inl (some n)=>hashInt n
 | .inl none=>4238894112
 | .inr x=>hashStr w x
theorem qZ {k:Key} {v:Value} (h:keyIs k v=true):(∃ i t,k=Sum.inl (some i)/\v=Value.int i t) \/ (∃ x t,k=Sum.inr x/\v=Value.str x t) \/ (k=Sum.inl none/\v=Value.none):=by
 rcases k with (_ | i) | x
 · refine .inr (.inr ⟨rfl, ?_⟩)
   cases v <;> first | rfl | cases h
 · obtain ⟨t, e⟩ := Value.isInt_shape (k := i) (v := v) h
   exact .inl ⟨i,t,rfl,e⟩
 · obtain ⟨t, e⟩ := Value.isStrOf_shape (x := x) (v := v) h
   exact .inr (.inl ⟨x,t,rfl,e⟩)
theorem hash_none {prog:Program} {w:World} {A:Around} {E:Value->Shared->Prop} {s:Shared} {Q:Int->Shared->Prop} (h:Q 4238894112 { s with toks:=s.toks+1 }):wpAny (model prog w) A (PySem.pyHash .none) Q E s:=by
 have ht:s.TypeIs .none "NoneType":=rfl
 unfold PySem.pyHash
 have hv:[Value.none].any Value.onHeap=false:=rfl
 refine wpAny_bind ?_
 rw [cRoomFor,if_neg (by rw [hv]; exact Bool.false_ne_true)]
 refine wpAny_pure ?_
 refine wpAny_bind (wpAny_specialOf ht PySem.F.slot_NoneType_hash.lookup ?_)
 show wpAny _ _ (if (some (Value.builtin "NoneType.__hash__") == some Value.none)=true then _ else _) Q E s
 rw [if_neg (by decide)]
 refine wpAny_bind (wpAny_specialOf ht PySem.F.slot_NoneType_hash.lookup ?_)
 show wpAny _ _ (callSpecialIfBoundUnlessNone? .none "__hash__" _ >>= _) Q E s
 refine wpAny_bind (wpAny_callSpecialIfBoundUnlessNone?_slot ht PySem.F.slot_NoneType_hash
  (wpAny_call_entry PySem.F.slot_NoneType_hash ht PySem.F.entry_NoneType_hash
    (show wpAny _ _ (do ret (<- mkInt 4238894112)) _ _ s from wpAny_ret_mkInt ?_) (PySem.F.args_NoneType_hash_1 _)))
 exact wpAny_pure h
noncomputable def mixKind (prog:Program) (w:World):PySem.KeyKind prog w Key where
 is:=keyIs
 hash:=keyH w
 inj:=fun v a b ha hb=>by
  rcases qZ ha with ⟨i,t,rfl,rfl⟩ | ⟨x,t,rfl,rfl⟩ | ⟨rfl,rfl⟩ <;> rcases qZ hb with ⟨j,u,rfl,e⟩ | ⟨y,u,rfl,e⟩ | ⟨rfl,e⟩ <;> cases e <;> rfl
 byValue:=fun k v h=>by rcases qZ h with ⟨i,t,rfl,rfl⟩ | ⟨x,t,rfl,rfl⟩ | ⟨rfl,rfl⟩ <;> rfl
 pyHash:=fun hv h=>by
  rcases qZ hv with ⟨i,t,rfl,rfl⟩ | ⟨x,t,rfl,rfl⟩ | ⟨rfl,rfl⟩
  · exact wpAny_pyHash_int h
  · exact wpAny_pyHash_str h
  · exact hash_none h
 eqBool:=fun hu hv h=>by
  rcases qZ hu with ⟨i,t,rfl,rfl⟩ | ⟨x,t,rfl,rfl⟩ | ⟨rfl,rfl⟩ <;> rcases qZ hv with ⟨j,u,rfl,rfl⟩ | ⟨y,u,rfl,rfl⟩ | ⟨rfl,rfl⟩
  · exact wpAny_eqBool_int (by simp only [Sum.inl.injEq,Option.some.injEq] at h; exact h)
  · exact SeqAt.EqAt.int_str i t y u _ _ _ _ (by simpa using h)
  · exact SeqAt.EqAt.int_none i t _ _ _ _ (by simpa using h)
  · exact SeqAt.EqAt.str_int x t j u _ _ _ _ (by simpa using h)
  · exact wpAny_eqBool_str (by simpa using h)
  · exact SeqAt.EqAt.str_none x t _ _ _ _ (by simpa using h)
  · exact SeqAt.EqAt.none_int j u _ _ _ _ (by simpa using h)
  · exact SeqAt.EqAt.none_str y u _ _ _ _ (by simpa using h)
  · exact SeqAt.EqAt.same .none _ _ _ _ (by simpa using h)
 «strs»:=fun k x t v h=>by
  rcases qZ h with ⟨i,u,rfl,e⟩ | ⟨y,u,rfl,e⟩ | ⟨rfl,e⟩ <;> cases e
  cases v <;> rfl
inductive V where
 | non | bl (b:Bool) | int (i:Int) | str (x:Str) | byt (b:Array UInt8) | flt (b:UInt64) | ref (a:Addr) | ty (n:String)
 deriving DecidableEq
noncomputable def RelV:V->Value->Prop
 | .non,u=>u=Value.none
 | .bl b,u=>u=Value.bool b
 | .int i,u=>∃ t,u=Value.int i t
 | .str x,u=>∃ t,u=Value.str x t
 | .byt b,u=>∃ t,u=Value.bytes b t
 | .flt b,u=>∃ t,u=Value.float b t
 | .ref a,u=>u=Value.ref a
 | .ty n,u=>u=Value.type n
abbrev Vals:List V->List Value->Prop:=Paired RelV
theorem Vals.length {xs:List V} {us:List Value} (r:Vals xs us):xs.length=us.length:=Paired.length r
theorem Vals.get:∀ {xs:List V} {us:List Value} {i:Nat} {x:V},Vals xs us->xs[i]? = some x->∃ u,us[i]? = some u/\RelV x u
 | _,_,_,_,.nil,e=>by simp at e
 | _,_,0,_,.cons r _,e=>by simp at e; subst e; exact ⟨_,rfl,r⟩
 | _, _, i + 1, x, .cons _ t, e => by
   obtain ⟨u,h1,h2⟩:=Vals.get (i:=i) (x:=x) t (by simpa using e)
   exact ⟨u,by simpa using h1,h2⟩
theorem Vals.set {x:V} {u:Value} (r:RelV x u):∀ {xs:List V} {us:List Value} (i:Nat),Vals xs us->Vals (xs.set i x) (us.set i u)
 | _,_,_,.nil=>.nil
 | _,_,0,.cons _ t=>.cons r t
 | _,_,i+1,.cons q t=>.cons q (Vals.set r i t)
theorem Vals.append:∀ {xs ys:List V} {us ws:List Value},Vals xs us->Vals ys ws->Vals (xs++ys) (us++ws)
 | _,_,_,_,.nil,s=>s
 | _,_,_,_,.cons r t,s=>.cons r (Vals.append t s)
theorem Vals.take:∀ {xs:List V} {us:List Value} (n:Nat),Vals xs us->Vals (xs.take n) (us.take n)
 | _,_,0,_=>.nil
 | _,_,_+1,.nil=>.nil
 | _,_,n+1,.cons r t=>.cons r (Vals.take n t)
theorem Vals.drop:∀ {xs:List V} {us:List Value} (n:Nat),Vals xs us->Vals (xs.drop n) (us.drop n)
 | _,_,0,r=>r
 | _,_,_+1,.nil=>.nil
 | _,_,n+1,.cons _ t=>Vals.drop n t
noncomputable def RelO:Option V->Option Value->Prop
 | some v,some u=>RelV v u
 | none,none=>True
 | _,_=>False
def KV {κ : Type} : List (κ×V)->List (κ×Value)->Prop:=Paired fun (p : κ×V) (q : κ×Value)=>p.1=q.1/\RelV p.2 q.2
noncomputable def kV:Key->V:=fun k=>match k with
 | .inl (some n)=>.int n
 | .inl none=>.non
 | .inr x=>.str x
inductive HO where
 | lst (xs:List V)
 | tup (xs:List V)
 | dK (kvs:List (Key×V)) | dT (kvs:List (List Key×V))
 | set (S:Int->Bool) (n:Nat)
 | ins (C dx:Addr) (fs:List (Str×V))
 | own (x:Addr)
 | xd (fs:List (Str×V))
 | met (f x:Addr)
 | rng (lo hi:Int)
 | frz (o:Obj) (u:HO)
 | tbl (q:Nat->Nat->Str)
 | ext (φ : Heap->Prop)
abbrev Hp:=Addr->Option HO
noncomputable def upd (H:Hp) (a:Addr) (o:HO):Hp:=fun b=>if b=a then some o else H b
theorem upd_same {H:Hp} {a:Addr} {o:HO} : upd H a o a=some o:=by unfold upd; rw [if_pos rfl]
theorem upd_ne {H:Hp} {a b:Addr} {o:HO} (h:b≠a):upd H a o b=H b:=by unfold upd; rw [if_neg h]
theorem ne_of {H:Hp} {a b:Addr} {o u:HO} (h:H a=some o) (h':H b=some u) (d:o≠u):a≠b:=by
 intro e; subst e; rw [h] at h'; exact d (Option.some.inj h')
theorem qV {H:Hp} {a b:Addr} {o:HO} (h:H a=some o) (h':H b=none):a≠b:=by
 intro e; subst e; rw [h] at h'; cases h'
def TblOk (H:Hp) (q:Nat->Nat->Str) (ps:Array Value):Prop:=TriplesOk ps.toList/\∀ pos v,codeAmong pos ps.toList=some v->∃ c o u vs t,v = .ref c/\H c=some (.frz o u)/\o.data = .fields vs/\vs[1]? = some (.str (q pos.line pos.col) t)
noncomputable def Fixed:HO->Prop
 | .tup _=>True
 | .frz o _=>∃ vs,o.data = .fields vs
 | _=>False
noncomputable def Fx:={ u:HO // Fixed u }
section
variable (P:Program) (w:World)
noncomputable def ObjOk (H:Hp) (h:Heap) (a:Addr):HO->Prop
 | .lst xs=>xs.length<=sizeLine/\∃ (its:List Value) (n:Nat),Vals xs its/\h.get? a=some { cls:=.type "list",data:=.seq its.toArray n }
 | .tup xs=>xs.length<=sizeLine/\∃ its:List Value,Vals xs its/\IsTup h a its.toArray
 | .dK kvs=>kvs.length<=sizeLine/\(a == sysModules)=false/\∃ vs,KV kvs vs/\h.DictOf (mixKind P w) a vs
 | .dT kvs=>kvs.length<=sizeLine/\(a == sysModules)=false/\∃ xs:List (List Key×Addr×Value),
    Paired (fun (p:List Key×V) (q:List Key×Addr×Value)=>p.1=q.1/\H q.2.1=some (.tup (p.1.map kV))/\RelV p.2 q.2.2) kvs xs ∧
    ∃ o es ep,h.get? a=some o/\o.ExactDict/\o.data = .dict es ep/\es.toList=xs.map (entryOfKey (tupleKind (mixKind P w)))/\(xs.map (·.1)).Nodup
 | .set S n=>h.SetOf (intKind P w) a S n
 | .ins C dx fs=>H dx=some (.own a)/\fs.length<=1000/\dx≠a/\h.get? a=some (PySem.W.instObj C dx) ∧
    ∃ mA,h.Ns1 dx mA/\(∀ f,RelO (fs.lookup f) (mA f))/\PySem.Within mA (fs.map (·.1))
 | .own _=>∃ o,h.get? a=some o
 | .xd fs=>∃ mA,h.Ns1 a mA/\∀ f,RelO (fs.lookup f) (mA f)
 | .rng lo hi=>∃ t u v,h.get? a=some { cls:=.type "range",data:=.fields #[.int lo t,.int hi u,.int 1 v] }
 | .frz o u=>h.get? a=some o/\ObjOk H h a u
 | .tbl q=>∃ ps,h.get? a=some (PySem.W.tabObj ps)/\TblOk H q ps
 | .met f x=>h.get? a=some (PySem.W.methodObj (.ref f) (.ref x))
 | .ext φ=>φ h/\(∃ o,h.get? a=some o)/\∀ h1 h2:Heap,φ h1->(∀ o,h1.get? a=some o->h2.get? a=some o)->φ h2
def HOk (H:Hp) (h:Heap):Prop:=∀ a o,H a=some o->ObjOk P w H h a o
end
section
variable {P:Program} {w:World} {H H':Hp} {h h':Heap} {a:Addr} {o:HO}
theorem ObjOk.lt (x:ObjOk P w H h a o):a < h.objs.size:=by
 cases o with
 | lst xs=>obtain ⟨_,_,_,_,e⟩:=x; exact Heap.lt_size e
 | tup xs=>obtain ⟨_,_,_,p⟩:=x; exact p.lt
 | dK kvs=>obtain ⟨_,_,_,_,o,_,_,e,_⟩:=x; exact Heap.lt_size e
 | dT kvs=>obtain ⟨_,_,_,_,o,_,_,e,_⟩:=x; exact Heap.lt_size e
 | set S n=>obtain ⟨o,_,_,_,e,_⟩:=x; exact Heap.lt_size e
 | ins C dx fs=>obtain ⟨_,_,_,e,_⟩:=x; exact Heap.lt_size e
 | own y=>obtain ⟨_,e⟩:=x; exact Heap.lt_size e
 | xd fs=>obtain ⟨_,⟨_,_,_,e,_⟩,_⟩:=x; exact Heap.lt_size e
 | rng lo hi=>obtain ⟨_,_,_,e⟩:=x; exact Heap.lt_size e
 | frz ob u=>obtain ⟨e,_⟩:=x; exact Heap.lt_size e
 | tbl q=>obtain ⟨_,e,_⟩:=x; exact Heap.lt_size e
 | met f y=>exact Heap.lt_size (show h.get? a=some _ from x)
 | ext φ=>obtain ⟨_,⟨_,e⟩,_⟩:=x; exact Heap.lt_size e
theorem Paired.mapP {α β : Type} {F G : α->β->Prop} : ∀ {l₁ : List α} {l₂ : List β},Paired F l₁ l₂->(∀ a b,F a b->G a b)->Paired G l₁ l₂
 | _,_,.nil,_=>.nil
 | _,_,.cons r t,f=>.cons (f _ _ r) (Paired.mapP t f)
theorem ObjOk.stay (x:ObjOk P w H h a o) (k:∀ b u,(b=a \/ H b=some (.own a))->h.get? b=some u->h'.get? b=some u)
  (ho:∀ b,H b=some (.own a)->H' b=some (.own a)) (ht:∀ b (xs:Fx),H b=some xs.1->H' b=some xs.1):ObjOk P w H' h' a o:=by
 induction o with
 | lst xs=>obtain ⟨z,its,n,r,e⟩:=x; exact ⟨z,its,n,r,k _ _ (.inl rfl) e⟩
 | tup xs=>obtain ⟨z,its,r,ob,e,c⟩:=x; exact ⟨z,its,r,ob,k _ _ (.inl rfl) e,c⟩
 | dK kvs=>obtain ⟨z,y,vs,r,ob,es,ep,e,c⟩:=x; exact ⟨z,y,vs,r,ob,es,ep,k _ _ (.inl rfl) e,c⟩
 | dT kvs =>
   obtain ⟨z,y,xs,r,ob,es,ep,e,c⟩:=x
   exact ⟨z,y,xs,Paired.mapP r fun p q z=>⟨z.1,ht _ ⟨.tup _,trivial⟩ z.2.1,z.2.2⟩,ob,es,ep,k _ _ (.inl rfl) e,c⟩
 | set S n=>obtain ⟨ob,es,ep,t,e,c⟩:=x; exact ⟨ob,es,ep,t,k _ _ (.inl rfl) e,c⟩
 | ins C dx fs =>
   obtain ⟨d,z,ne,e,mA,⟨od,es,ep,e2,c⟩,r⟩:=x
   exact ⟨ho _ d,z,ne,k _ _ (.inl rfl) e,mA,⟨od,es,ep,k _ _ (.inr d) e2,c⟩,r⟩
 | own y=>obtain ⟨ob,e⟩:=x; exact ⟨ob,k _ _ (.inl rfl) e⟩
 | xd fs=>obtain ⟨mA,⟨od,es,ep,e,c⟩,r⟩:=x; exact ⟨mA,⟨od,es,ep,k _ _ (.inl rfl) e,c⟩,r⟩
 | rng lo hi=>obtain ⟨t,u,v,e⟩:=x; exact ⟨t,u,v,k _ _ (.inl rfl) e⟩
 | frz ob u ih=>obtain ⟨e,q⟩:=x; exact ⟨k _ _ (.inl rfl) e,ih q⟩
 | tbl q =>
   obtain ⟨ps,e,t1,t2⟩:=x
   refine ⟨ps,k a _ (.inl rfl) e,t1,fun pos v z=>?_⟩
   obtain ⟨c,o,u,vs,t,h1,h2,h3,h4⟩:=t2 pos v z
   exact ⟨c,o,u,vs,t,h1,ht c ⟨.frz o u,vs,h3⟩ h2,h3,h4⟩
 | met f y =>
   have e:h.get? a=some (PySem.W.methodObj (.ref f) (.ref y)):=x
   show h'.get? a=some (PySem.W.methodObj (.ref f) (.ref y))
   exact k a _ (.inl rfl) e
 | ext φ=>obtain ⟨p,⟨o,e⟩,st⟩:=x; exact ⟨st _ _ p fun o q=>k _ _ (.inl rfl) q,⟨o,k _ _ (.inl rfl) e⟩,st⟩
theorem HOk.lt (x:HOk P w H h) (e:H a=some o):a < h.objs.size:=(x a o e).lt
theorem HOk.fresh (x:HOk P w H h) (e:h.objs.size<=a):H a=none:=by
 cases q:H a with
 | none=>rfl
 | some u=>exact absurd (Nat.lt_of_lt_of_le (x.lt q) e) (Nat.lt_irrefl _)
theorem HOk.kept (x:HOk P w H h) (k:∀ b u,h.get? b=some u->h'.get? b=some u):HOk P w H h':=fun a o e =>
 (x a o e).stay (fun b u _ q=>k b u q) (fun _ q=>q) fun _ _ q=>q
theorem HOk.laid (x:HOk P w H h) (k:∀ b u,h.get? b=some u->h'.get? b=some u) (hp:h.objs.size<=a) (new:ObjOk P w (upd H a o) h' a o):HOk P w (upd H a o) h':=fun b u e=>by
 have hn:=x.fresh hp
 by_cases hb:b=a
 · subst hb; rw [upd_same] at e; cases e; exact new
 · rw [upd_ne hb] at e
   exact (x b u e).stay (fun c v _ q=>k c v q) (fun c q=>by rw [upd_ne (qV q hn)]; exact q) fun c xs q=>by rw [upd_ne (qV q hn)]; exact q
end
def Rd (H:Hp) (a:Addr) (u:HO):Prop:=H a=some u \/ ∃ o,H a=some (.frz o u)
theorem Rd.of {H:Hp} {a:Addr} {u:HO} (h:H a=some u):Rd H a u:=.inl h
theorem Rd.ok {P:Program} {w:World} {H:Hp} {h:Heap} {a:Addr} {u:HO} (r:Rd H a u) (x:HOk P w H h):ObjOk P w H h a u:=by
 rcases r with r | ⟨o,r⟩
 · exact x a u r
 · obtain ⟨_, q⟩ := x a _ r
   exact q
noncomputable def Mut:Option HO->Prop
 | some (.lst _)=>True
 | some (.dK _)=>True
 | some (.dT _)=>True
 | some (.set _ _)=>True
 | some (.ins _ _ _)=>True
 | some (.ext _)=>True
 | _=>False
section
variable {P:Program} {w:World} {H:Hp} {h h':Heap} {x e:Addr} {o':HO}
theorem HOk.write (ok:HOk P w H h) (mu:Mut (H x)) (he:e=x \/ H e=some (.own x)) (k:∀ b u,b≠e->h.get? b=some u->h'.get? b=some u) (heo:∃ u,h'.get? e=some u)
  (new:ObjOk P w (upd H x o') h' x o'):HOk P w (upd H x o') h':=fun b u q=>by
 have nown:∀ c y,H c=some (.own y)->c≠x:=fun c y r z=>by subst z; rw [r] at mu; exact mu
 have ntup:∀ c (xs:Fx),H c=some xs.1->c≠x:=fun c xs r z=>by
  subst z; rw [r] at mu; obtain ⟨u,hu⟩:=xs
  cases u <;> first | exact False.elim mu | exact False.elim hu
 by_cases hb:b=x
 · subst hb; rw [upd_same] at q; cases q; exact new
 · rw [upd_ne hb] at q
   by_cases hbe:b=e
   · have q':H b=some (.own x):=by
      rcases he with z | z
      · exact absurd (hbe.trans z) hb
      · rw [hbe]; exact z
     rw [q] at q'; cases q'
     obtain ⟨v,hv⟩:=heo
     exact ⟨v,by rw [hbe]; exact hv⟩
   · refine (ok b u q).stay (fun c v hc r => k c v ?_ r) (fun c r => by rw [upd_ne (nown c b r)]; exact r) fun c xs r => by rw [upd_ne (ntup c xs r)]; exact r
     rcases hc with rfl | hc
     · exact hbe
     · rintro rfl
       rcases he with z | z
       · exact nown c b hc z
       · rw [hc] at z; cases z; exact hb rfl
end
structure Un (fs ex:List Addr) (H H':Hp) (h h':Heap):Prop where
 keep:∀ b o,h.get? b=some o->H b=none->b ∉ fs->b ∉ ex->h'.get? b=some o
 slot:∀ b o,h.get? b=some o->H b=none->b∈fs->b ∉ ex->∃ sl,h'.get? b=some { o with slots:=sl }
 free:∀ b o,h.get? b=some o->H b=none->b ∉ ex->H' b=none
 there:∀ b o,h.get? b=some o->b ∉ ex->∃ o',h'.get? b=some o'
 tups:∀ b xs,H b=some (.tup xs)->H' b=some (.tup xs)
 frzs:∀ b o u,H b=some (.frz o u)->H' b=some (.frz o u)
 tbls:∀ b ps,H b=some (.tbl ps)->H' b=some (.tbl ps)
section
variable {fs fs' ex ex':List Addr} {H H1 H2:Hp} {h h1 h2 h':Heap} {a x e:Addr} {o:HO}
theorem Un.any (u:Un fs ex H H1 h h1) {b:Addr} {ob:Obj} (q:h.get? b=some ob) (n:H b=none) (hx:b ∉ ex):∃ sl,h1.get? b=some { ob with slots:=sl }:=by
 by_cases hb:b∈fs
 · exact u.slot b ob q n hb hx
 · exact ⟨ob.slots,u.keep b ob q n hb hx⟩
theorem Un.trans (a:Un fs ex H H1 h h1) (b:Un fs ex H1 H2 h1 h2):Un fs ex H H2 h h2 where
 keep:=fun c ob q n hc hx=>b.keep c ob (a.keep c ob q n hc hx) (a.free c ob q n hx) hc hx
 slot:=fun c ob q n hc hx=>by
  obtain ⟨sl,e1⟩:=a.slot c ob q n hc hx
  obtain ⟨sl',e2⟩:=b.slot c _ e1 (a.free c ob q n hx) hc hx
  exact ⟨sl',e2⟩
 free:=fun c ob q n hx=>by
  obtain ⟨o',e1⟩:=a.there c ob q hx
  exact b.free c o' e1 (a.free c ob q n hx) hx
 there:=fun c ob q hx=>by
  obtain ⟨o',e1⟩:=a.there c ob q hx
  exact b.there c o' e1 hx
 tups:=fun c xs q=>b.tups c xs (a.tups c xs q)
 frzs:=fun c ob xs q=>b.frzs c ob xs (a.frzs c ob xs q)
 tbls:=fun c ps q=>b.tbls c ps (a.tbls c ps q)
theorem Un.kept (k:∀ b u,h.get? b=some u->h'.get? b=some u):Un fs ex H H h h' :=
 ⟨fun b ob q _ _ _=>k b ob q,fun b ob q _ _ _=>⟨ob.slots,k b ob q⟩,fun _ _ _ n _=>n,fun b ob q _=>⟨ob,k b ob q⟩,fun _ _ q=>q,fun _ _ _ q=>q,fun _ _ q=>q⟩
theorem Un.refl:Un fs ex H H h h:=Un.kept fun _ _ q=>q
theorem Un.laid (k:∀ b u,h.get? b=some u->h'.get? b=some u) (hp:h.objs.size<=a) (hn:H a=none):Un fs ex H (upd H a o) h h' where
 keep:=fun b u q _ _ _=>k b u q
 slot:=fun b u q _ _ _=>⟨u.slots,k b u q⟩
 free:=fun b u q n _=>by rw [upd_ne (Nat.ne_of_lt (Nat.lt_of_lt_of_le (Heap.lt_size q) hp))]; exact n
 there:=fun b u q _=>⟨u,k b u q⟩
 tups:=fun b xs q=>by rw [upd_ne (qV q hn)]; exact q
 frzs:=fun b u xs q=>by rw [upd_ne (qV q hn)]; exact q
 tbls:=fun b ps q=>by rw [upd_ne (qV q hn)]; exact q
theorem Un.write (mu:Mut (H x)) (he:e=x \/ H e=some (.own x)) (k:∀ b u,b≠e->h.get? b=some u->h'.get? b=some u) (heo:∃ u,h'.get? e=some u):Un fs ex H (upd H x o) h h':=by
 have hx:∀ b,H b=none->b≠x:=fun b n z=>by subst z; rw [n] at mu; exact mu
 have hb:∀ b,H b=none->b≠e:=fun b n z=>by
  subst z
  rcases he with r | r
  · exact hx b n r
  · rw [n] at r; cases r
 have hm:∀ b u,H b=some u->¬ Mut (some u)->b≠x:=fun b u q nm z=>by subst z; rw [q] at mu; exact nm mu
 refine ⟨fun b u q n _ _=>k b u (hb b n) q,fun b u q n _ _=>⟨u.slots,k b u (hb b n) q⟩,fun b u q n _=>by rw [upd_ne (hx b n)]; exact n,fun b u q _=>?_,
  fun b xs q=>by rw [upd_ne (hm b _ q fun z=>z)]; exact q,fun b u xs q=>by rw [upd_ne (hm b _ q fun z=>z)]; exact q,fun b ps q=>by rw [upd_ne (hm b _ q fun z=>z)]; exact q⟩
 by_cases hbe:b=e
 · subst hbe; exact heo
 · exact ⟨u,k b u hbe q⟩
end
noncomputable def trk (h:Heap) (H:Hp):List Addr:=(List.range h.objs.size).filter fun a=>(H a).isSome
noncomputable def hidT (h:Heap) (H:Hp):Heap:=PySem.W.hideAll h (trk h H)
theorem hidT_size (h:Heap) (H:Hp):(hidT h H).objs.size=h.objs.size:=PySem.W.hideAll_size _ _
theorem hidT_get {h:Heap} {H:Hp} {b:Addr} {o:Obj} (e:h.get? b=some o) (n:H b=none):(hidT h H).get? b=some o :=
 PySem.W.hideAll_get _ e fun hm=>by
  have q:(H b).isSome=true:=(List.mem_filter.mp hm).2
  rw [n] at q; simp at q
theorem of_hidT {h:Heap} {H:Hp} {b:Addr} {o:Obj} (e:(hidT h H).get? b=some o):h.get? b=some o/\H b=none:=by
 have e':h.get? b=some o:=PySem.W.of_hideAll (trk h H) e
 refine ⟨e',?_⟩
 cases q:H b with
 | none=>rfl
 | some x =>
   have hm:b∈trk h H:=List.mem_filter.mpr ⟨List.mem_range.mpr (Heap.lt_size e'),by simp [q]⟩
   have z:(hidT h H).get? b=none:=PySem.W.hideAll_none (trk h H) hm
   rw [z] at e; cases e
noncomputable def allNews (g h:Heap) (L:Addr):List (Addr×Obj):=(List.range h.objs.size).filterMap fun a=>if a=L \/ (g.get? a).isSome=true then none else (h.get? a).map fun o=>(a,o)
noncomputable def rest (g h:Heap) (L d:Addr):List (Addr×Obj):=(allNews g h L).filter fun p=>decide (p.1≠d)
structure Mod (K:PySem.W.Frag) (mg:Str->Option Value) (base:Heap):Prop where
 kin:K.In base
 glob:base.Ns mainGlobals mg
 blt:∃ mb,base.Ns builtinsNs mb/\∀ x:Str,x≠"__name__"->mb x=bootBuiltins x
 nolimit:base.NoLimit
structure Cx where
 prog:Program
 w:World
 K:PySem.W.Frag
 mg:Str->Option Value
 base:Heap
 A:Around
 N:List Str
 s₀ : Shared
 H₀ : Hp
 env:Env
 outer:List Env
 stack:List Env
 ex:List Addr
 fn:Str->Bool
 calm:Bool
 pn:List (Addr×Obj)
 xe:Value->Shared->Prop
noncomputable def frs (l:List Env):List Addr:=l.filterMap (·.frame)
noncomputable abbrev Cx.fs (X:Cx):List Addr:=frs X.outer
def Vis (sc:Scope) (x:Str):Prop:=sc.names.lookup x=some .local \/ sc.names.lookup x=some .cell \/ sc.names.lookup x=some .free
def Loc (sc:Scope) (x:Str):Prop:=sc.names.lookup x=some .local \/ sc.names.lookup x=some .cell
def Look (env:Env) (h:Heap) (m:Str->Option Value) (x:Str) (u:Value):Prop :=
 (env.kindOf x=some .local/\m x=some u) \/ ((env.kindOf x=some .cell \/ env.kindOf x=some .free)/\∃ c,env.cells.lookup x=some c/\h.IsCell c (some u))
noncomputable def makers:List Str:=["law","_law_with_itself","_law_ways","_law_way","holding","_law_any_test","_law_test","_law_turned","_law_right","wheel_run","answer_run"]
noncomputable def innerN:List Stmt->Nat->Nat->Str
 | [],_,_=>"<lambda>"
 | .FunctionDef n _ _ _ _ _ _ _ _ pos::r,l,c=>if pos.line=l/\pos.col=c then n else innerN r l c
 | _::r,l,c=>innerN r l c
noncomputable def innerQ (K:PySem.W.Frag) (x:Str) (l c:Nat):Str:=match PySem.W.nsIn K mainGlobals x with
 | some (some (.ref f)) => (match K.lookup f with
   | some ⟨_, _, .func fd, _⟩ => (match fd.body with
     | .stmts b=>x++".<locals>."++innerN b l c
     | _=>x)
   | _=>x)
 | _=>x
structure TabsK (K:PySem.W.Frag) (mg:Str->Option Value) (base:Heap) (H:Hp):Prop where
 bm:∃ bm ob,mg "__builtins__" = some (.ref bm)/\bm≠builtinsNs/\base.get? bm=some ob/\ob.cls = .type "module"/\ob.dict=some builtinsNs/\ob.data = .plain
 tab:∀ x c P,x∈makers->PySem.W.tabIn K x=some (c,P)->PySem.W.CodeHd base c P/\H P=some (.tbl (innerQ K x))
def Bsz (K:PySem.W.Frag) (mg:Str->Option Value) (base h:Heap) (H:Hp):Prop:=base.objs.size<=h.objs.size/\TabsK K mg base H
def FreeC (X:Cx) (H:Hp) (x:Str) (c:Addr):Prop:=H c=none \/ (X.fn x=false/\∃ o u,H c=some (.frz o u))
theorem FreeC.now {X:Cx} {H:Hp} {x:Str} {c:Addr} (h:FreeC X H x c) (hf:X.fn x=true):H c=none:=h.elim id fun z=>by rw [hf] at z; cases z.1
structure Cx.Ok (X:Cx):Prop where
 mod:Mod X.K X.mg X.base
 kind:X.env.scope.kind = .function
 glob:X.env.globals=mainGlobals
 blt:X.env.builtins=builtinsNs
 above:X.s₀.heap.objs.size<=X.env.locals
 inj:∀ x y c,X.env.cells.lookup x=some c->X.env.cells.lookup y=some c->x=y
 has:∀ x,(X.env.kindOf x=some .cell \/ X.env.kindOf x=some .free)->∃ c,X.env.cells.lookup x=some c
 cab:∀ x c,X.fn x=true->X.env.cells.lookup x=some c->X.s₀.heap.objs.size<=c
 hd:X.calm=true->X.A.handled=none
 frames:X.A.frames=some X.stack
 stk:X.stack=X.outer \/ (X.stack=X.env::X.outer/\X.env.frame=some X.env.locals)
 exf:∀ b∈X.ex,b≠X.env.locals/\∀ x c,X.env.cells.lookup x=some c->c≠b
 bs:∀ b o,X.base.get? b=some o->X.s₀.heap.get? b=some o/\X.H₀ b=none
 bsz:Bsz X.K X.mg X.base X.s₀.heap X.H₀
 noex:∀ b o,X.base.get? b=some o->b ∉ X.ex
 exfs:∀ b∈X.ex,b ∉ X.fs
 funs:X.s₀.heap.FunFrames X.base X.outer
 frf:∀ b∈X.fs,X.H₀ b=none
structure Inv (X:Cx) (pins:List (Addr×Obj)) (σ : List (Option V)) (H:Hp) (s:Shared):Prop where
 ok:X.Ok
 os:s.os=X.s₀.os
 bare:AllBare s.gens
 base:Un X.fs X.ex X.H₀ H X.s₀.heap s.heap
 loc:∃ m,s.heap.Ns X.env.locals m/\∀ (i:Nat) (x:Str) (v:V),X.N[i]? = some x->σ[i]? = some (some v)->Vis X.env.scope x->∃ u,RelV v u/\Look X.env s.heap m x u
 cell:∀ x c,X.env.cells.lookup x=some c->∃ v,s.heap.IsCell c v
 free:H X.env.locals=none
 freeC:∀ x c,X.env.cells.lookup x=some c->FreeC X H x c
 pin:∀ p∈X.pn++pins,s.heap.get? p.1=some p.2/\H p.1=none/\p.1≠X.env.locals/\p.1 ∉ X.fs/\∀ v,p.2.data≠.cell v
 hok:HOk X.prog X.w H s.heap
 len : σ.length=X.N.length
section
variable {X:Cx} {pins:List (Addr×Obj)} {σ : List (Option V)} {H H':Hp} {s:Shared} {h':Heap}
theorem Cx.Ok.nofr (ok:X.Ok) {b:Addr} {o:Obj} (e:X.base.get? b=some o):b ∉ X.fs:=fun hb=>by
 have:=(ok.funs.mem hb).1
 rw [e] at this; cases this
theorem Inv.bs (I:Inv X pins σ H s):∀ b o,X.base.get? b=some o->s.heap.get? b=some o/\H b=none:=fun b o e =>
 ⟨I.base.keep b o (I.ok.bs b o e).1 (I.ok.bs b o e).2 (I.ok.nofr e) (I.ok.noex b o e),I.base.free b o (I.ok.bs b o e).1 (I.ok.bs b o e).2 (I.ok.noex b o e)⟩
theorem Inv.bk (I:Inv X pins σ H s):∀ b o,X.base.get? b=some o->s.heap.get? b=some o:=fun b o e=>(I.bs b o e).1
theorem Inv.mod (I:Inv X pins σ H s):Mod X.K X.mg X.base:=I.ok.mod
theorem Inv.kIn (I:Inv X pins σ H s):X.K.In s.heap:=I.ok.mod.kin.keeps I.bk
theorem Inv.lt (I:Inv X pins σ H s):X.env.locals < s.heap.objs.size:=let ⟨_,hn,_⟩:=I.loc; hn.lt
theorem Inv.sz (I:Inv X pins σ H s):X.s₀.heap.objs.size<=s.heap.objs.size:=Nat.le_trans I.ok.above (Nat.le_of_lt I.lt)
theorem Inv.nofs (I:Inv X pins σ H s) {a:Addr} (h:s.heap.objs.size<=a):a ∉ X.fs:=fun hb=>by
 obtain ⟨_,o,ho,_⟩:=I.ok.funs.mem hb
 exact absurd (Nat.lt_of_lt_of_le (Heap.lt_size ho) (Nat.le_trans I.sz h)) (Nat.lt_irrefl _)
theorem Inv.cne (I:Inv X pins σ H s):∀ x c,X.env.cells.lookup x=some c->c≠X.env.locals:=fun x c e z=>by
 obtain ⟨v,o,ho,hd⟩:=I.cell x c e
 obtain ⟨m,⟨o',es,ep,ho',hd',_⟩,_⟩:=I.loc
 rw [z,ho'] at ho; cases ho; rw [hd'] at hd; cases hd
theorem Inv.funs (I:Inv X pins σ H s):s.heap.FunFrames X.base X.outer:=by
 have all:∀ (l:List Env),(∀ b∈frs l,b∈X.fs)->X.s₀.heap.FunFrames X.base l->s.heap.FunFrames X.base l:=by
  intro l
  induction l with
  | nil=>intro _ _; trivial
  | cons env r ih =>
    intro hs hl
    obtain ⟨hk,⟨L,o,hf,hn,ho,hd⟩,hr⟩:=hl
    have hL:L∈X.fs:=hs L (by unfold frs; rw [List.filterMap_cons,hf]; exact List.mem_cons_self)
    obtain ⟨sl,e⟩:=I.base.slot L o ho (I.ok.frf L hL) hL fun z=>I.ok.exfs L z hL
    exact ⟨hk,⟨L,_,hf,hn,e,hd⟩,ih (fun b hb=>hs b (by unfold frs; rw [List.filterMap_cons,hf]; exact List.mem_cons_of_mem _ hb)) hr⟩
 exact all X.outer (fun _ hb=>hb) I.ok.funs
theorem Inv.stack (I:Inv X pins σ H s):s.heap.FunFrames X.base X.stack:=by
 rcases I.ok.stk with e | ⟨e,hf⟩
 · rw [e]; exact I.funs
 · rw [e]
   obtain ⟨m,hn,_⟩:=I.loc
   refine .cons (by rw [I.ok.kind]; decide) hf hn ?_ I.funs
   exact Heap.get?_none_of_le (Nat.le_trans I.ok.bsz.1 I.ok.above)
theorem Inv.stkSub (I:Inv X pins σ H s):∀ b∈frs X.stack,b∈X.env.locals::X.fs:=fun b hb=>by
 rcases I.ok.stk with e | ⟨e,hf⟩
 · rw [e] at hb; exact List.mem_cons_of_mem _ hb
 · rw [e] at hb
   unfold frs at hb
   rw [List.filterMap_cons,hf] at hb
   exact hb
theorem Inv.stkFree (I:Inv X pins σ H s):∀ b∈frs X.stack,H b=none:=fun b hb=>by
 rcases List.mem_cons.mp (I.stkSub b hb) with e | hb
 · rw [e]; exact I.free
 · obtain ⟨_, o, ho, _⟩ := I.ok.funs.mem hb
   exact I.base.free b o ho (I.ok.frf b hb) fun z=>I.ok.exfs b z hb
theorem Inv.step {g':Array GenState} {t':Nat} {d':Drawn} {ch:List Addr} (I:Inv X pins σ H s)
  (hch:∀ b∈ch,(b∈X.ex \/ X.s₀.heap.objs.size<=b)/\b≠X.env.locals/\(∀ x c,X.env.cells.lookup x=some c->c≠b)/\∀ p∈X.pn++pins,p.1≠b)
  (keep:∀ b o,b≠X.env.locals->b ∉ X.fs->b ∉ ch->s.heap.get? b=some o->H b=none->h'.get? b=some o)
  (slot:∀ b o,b≠X.env.locals->b∈X.fs->b ∉ ch->s.heap.get? b=some o->H b=none->∃ sl,h'.get? b=some { o with slots:=sl }) (free:∀ b o,b ∉ ch->s.heap.get? b=some o->H b=none->H' b=none)
  (there:∀ b o,b ∉ ch->s.heap.get? b=some o->∃ o',h'.get? b=some o')
  (tups:∀ b xs,H b=some (.tup xs)->H' b=some (.tup xs)) (frzs:∀ b o u,H b=some (.frz o u)->H' b=some (.frz o u)) (tbls:∀ b ps,H b=some (.tbl ps)->H' b=some (.tbl ps))
  (ns:∀ m,s.heap.Ns X.env.locals m->h'.Ns X.env.locals m) (hok:HOk X.prog X.w H' h') (hg:AllBare g') :
  Inv X pins σ H' { s with heap:=h',gens:=g',drawn:=d',toks:=t' }:=by
 have neL:∀ b o,X.s₀.heap.get? b=some o->b≠X.env.locals:=fun b o e=>Nat.ne_of_lt (Nat.lt_of_lt_of_le (Heap.lt_size e) I.ok.above)
 have neC:∀ b o,X.s₀.heap.get? b=some o->b ∉ X.ex->b ∉ ch:=fun b o e hx hb=>by
  rcases (hch b hb).1 with z | z
  · exact hx z
  · exact absurd (Nat.lt_of_lt_of_le (Heap.lt_size e) z) (Nat.lt_irrefl _)
 have cellK:∀ x c,X.env.cells.lookup x=some c->∀ v,s.heap.IsCell c v->h'.IsCell c v:=fun x c e v ⟨o,ho,hd⟩=>by
  have nch:c ∉ ch:=fun z=>(hch c z).2.2.1 x c e rfl
  rcases I.freeC x c e with fr | ⟨_,of,uf,fr⟩
  · by_cases hc : c ∈ X.fs
    · obtain ⟨sl, q⟩ := slot c o (I.cne x c e) hc nch ho fr
      exact ⟨_,q,hd⟩
    · exact ⟨o,keep c o (I.cne x c e) hc nch ho fr,hd⟩
  · obtain ⟨e1, _⟩ := I.hok c _ fr
    obtain ⟨e2,_⟩:=hok c _ (frzs c of uf fr)
    rw [ho] at e1; cases e1
    exact ⟨o,e2,hd⟩
 refine ⟨I.ok,I.os,hg,⟨fun b o e n hb hx=>?_,fun b o e n hb hx=>?_,fun b o e n hx=>?_,fun b o e hx=>?_,fun b xs e=>tups b xs (I.base.tups b xs e),fun b o xs e=>frzs b o xs (I.base.frzs b o xs e),fun b ps e=>?_⟩,?_,fun x c e=>?_,?_,fun x c e=>?_,fun p hp=>?_,hok,I.len⟩
 · exact keep b o (neL b o e) hb (neC b o e hx) (I.base.keep b o e n hb hx) (I.base.free b o e n hx)
 · obtain ⟨sl, e1⟩ := I.base.slot b o e n hb hx
   obtain ⟨sl',e2⟩:=slot b _ (neL b o e) hb (neC b o e hx) e1 (I.base.free b o e n hx)
   exact ⟨sl',e2⟩
 · obtain ⟨o', e1⟩ := I.base.there b o e hx
   exact free b o' (neC b o e hx) e1 (I.base.free b o e n hx)
 · obtain ⟨o', e1⟩ := I.base.there b o e hx
   exact there b o' (neC b o e hx) e1
 · exact tbls b ps (I.base.tbls b ps e)
 · obtain ⟨m, hn, hl⟩ := I.loc
   refine ⟨m,ns m hn,fun i x v e1 e2 e3=>?_⟩
   obtain ⟨u,r,l⟩:=hl i x v e1 e2 e3
   refine ⟨u,r,?_⟩
   rcases l with l | ⟨k,c,e,z⟩
   · exact .inl l
   · exact .inr ⟨k,c,e,cellK x c e _ z⟩
 · obtain ⟨v, z⟩ := I.cell x c e
   exact ⟨v,cellK x c e v z⟩
 · obtain ⟨m, ⟨o, _, _, ho, _⟩, _⟩ := I.loc
   exact free _ o (fun z=>(hch _ z).2.1 rfl) ho I.free
 · obtain ⟨v, o, ho, hd⟩ := I.cell x c e
   exact (I.freeC x c e).elim (fun fr=>.inl (free c o (fun z=>(hch c z).2.2.1 x c e rfl) ho fr)) fun ⟨h1,of,uf,fr⟩=>.inr ⟨h1,of,uf,frzs c of uf fr⟩
 · obtain ⟨e, n, ne, nf, d⟩ := I.pin p hp
   have nch:p.1 ∉ ch:=fun z=>(hch p.1 z).2.2.2 p hp rfl
   exact ⟨keep p.1 p.2 ne nf nch e n,free p.1 p.2 nch e n,ne,nf,d⟩
theorem Inv.un {t':Nat} (I:Inv X pins σ H s) (u:Un X.fs [] H H' s.heap h') (hok:HOk X.prog X.w H' h'):Inv X pins σ H' { s with heap:=h',toks:=t' }:=by
 obtain ⟨m,⟨o,es,ep,ho,r⟩,_⟩:=id I.loc
 obtain ⟨sl,hL⟩:=u.any ho I.free (by simp)
 exact I.step (g':=s.gens) (d':=s.drawn) (ch:=[]) (fun _ z=>nomatch z) (fun b o _ hb _ e n=>u.keep b o e n hb (by simp)) (fun b o _ hb _ e n=>u.slot b o e n hb (by simp)) (fun b o _ e n=>u.free b o e n (by simp)) (fun b o _ e=>u.there b o e (by simp)) u.tups u.frzs u.tbls (fun m' hm=>by
  obtain ⟨o',es',ep',ho',r'⟩:=hm
  rw [ho] at ho'; cases ho'
  exact ⟨_,es',ep',hL,r'⟩) hok I.bare
theorem Inv.call {g':Array GenState} {t':Nat} {d':Drawn} {ch:List Addr} (I:Inv X pins σ H s) (u:Un (frs X.stack) ch H H' s.heap h') (hok:HOk X.prog X.w H' h') (hg:AllBare g')
  (hch:∀ b∈ch,(b∈X.ex \/ X.s₀.heap.objs.size<=b)/\b≠X.env.locals/\(∀ x c,X.env.cells.lookup x=some c->c≠b)/\∀ p∈X.pn++pins,p.1≠b) :
  Inv X pins σ H' { s with heap:=h',gens:=g',drawn:=d',toks:=t' }:=by
 obtain ⟨m,⟨o,es,ep,ho,r⟩,_⟩:=id I.loc
 obtain ⟨sl,hL⟩:=u.any ho I.free fun z=>(hch _ z).2.1 rfl
 exact I.step (ch:=ch) hch (fun b o hL hb hc e n=>u.keep b o e n (fun z=>(List.mem_cons.mp (I.stkSub b z)).elim hL hb) hc) (fun b o _ _ hc e n=>u.any e n hc) (fun b o hc e n=>u.free b o e n hc) (fun b o hc e=>u.there b o e hc) u.tups u.frzs u.tbls (fun m' hm=>by
  obtain ⟨o',es',ep',ho',r'⟩:=hm
  rw [ho] at ho'; cases ho'
  exact ⟨_,es',ep',hL,r'⟩) hok hg
theorem Inv.turned {t':Nat} {it:Addr} (I:Inv X pins σ H s) (k:∀ b o,b≠it->s.heap.get? b=some o->h'.get? b=some o) (hn:H it=none) (hL:it≠X.env.locals)
  (h1:it∈X.ex \/ X.s₀.heap.objs.size<=it) (h2:∀ x c,X.env.cells.lookup x=some c->c≠it) (h3:∀ p∈X.pn++pins,p.1≠it):Inv X pins σ H { s with heap:=h',toks:=t' }:=by
 have nit:∀ b u,H b=some u->b≠it:=fun b u e z=>by rw [z,hn] at e; cases e
 refine I.step (g':=s.gens) (d':=s.drawn) (ch:=[it]) (fun b hb=>?_) (fun b o _ _ hc e _=>k b o (fun z=>hc (by simp [z])) e) (fun b o _ _ hc e _=>⟨o.slots,k b o (fun z=>hc (by simp [z])) e⟩) (fun _ _ _ _ n=>n)
  (fun b o hc e=>⟨o,k b o (fun z=>hc (by simp [z])) e⟩) (fun _ _ e=>e) (fun _ _ _ e=>e) (fun _ _ e=>e) (fun m hm=>?_) (fun b u e=>?_) I.bare
 · have e : b = it := by simpa using hb
   subst e
   exact ⟨h1,hL,h2,h3⟩
 · obtain ⟨o, es, ep, ho, r⟩ := hm
   exact ⟨o,es,ep,k _ o (Ne.symm hL) ho,r⟩
 · refine (I.hok b u e).stay (fun c v hc q => k c v ?_ q) (fun _ q => q) fun _ _ q => q
   rcases hc with z | z
   · rw [z]; exact nit b u e
   · exact nit c _ z
theorem Inv.tok (I:Inv X pins σ H s) (t:Nat):Inv X pins σ H { s with toks:=t }:=I.un (h':=s.heap) (t':=t) Un.refl I.hok
theorem Inv.kept {t':Nat} (I:Inv X pins σ H s) (k:∀ b u,s.heap.get? b=some u->h'.get? b=some u):Inv X pins σ H { s with heap:=h',toks:=t' }:=I.un (Un.kept k) (I.hok.kept k)
theorem Inv.laid {a:Addr} {o:HO} {t':Nat} (I:Inv X pins σ H s) (k:∀ b u,s.heap.get? b=some u->h'.get? b=some u) (hp:s.heap.objs.size<=a) (new:ObjOk X.prog X.w (upd H a o) h' a o) :
  Inv X pins σ (upd H a o) { s with heap:=h',toks:=t' }:=I.un (Un.laid k hp (I.hok.fresh hp)) (I.hok.laid k hp new)
theorem Inv.write {x e:Addr} {o:HO} {t':Nat} (I:Inv X pins σ H s) (mu:Mut (H x)) (he:e=x \/ H e=some (.own x)) (k:∀ b u,b≠e->s.heap.get? b=some u->h'.get? b=some u) (heo:∃ u,h'.get? e=some u)
  (new:ObjOk X.prog X.w (upd H x o) h' x o):Inv X pins σ (upd H x o) { s with heap:=h',toks:=t' }:=I.un (Un.write mu he k heo) (I.hok.write mu he k heo new)
theorem Inv.pins_of {pins':List (Addr×Obj)} (I:Inv X pins σ H s) (h:∀ p∈pins',s.heap.get? p.1=some p.2/\H p.1=none/\p.1≠X.env.locals/\p.1 ∉ X.fs/\∀ v,p.2.data≠.cell v):Inv X pins' σ H s :=
 ⟨I.ok,I.os,I.bare,I.base,I.loc,I.cell,I.free,I.freeC,fun p hp=>(List.mem_append.mp hp).elim (fun z=>I.pin p (List.mem_append_left _ z)) (h p),I.hok,I.len⟩
theorem kI {N:List Str} (hN:N.Nodup) {i j:Nat} {x:Str} (a:N[i]? = some x) (b:N[j]? = some x):i=j:=by
 obtain ⟨h1,e1⟩:=List.getElem?_eq_some_iff.mp a
 obtain ⟨h2,e2⟩:=List.getElem?_eq_some_iff.mp b
 exact (List.getElem_inj hN).mp (e1.trans e2.symm)
theorem store_ok2 {M:Model} {A:Around} {E:Value->Shared->Prop} {i:Nat} {x:Str} {v:V} {u:Value} {Q:Unit->Shared->Prop} (I:Inv X pins σ H s) (hN:X.N.Nodup) (hi:X.N[i]? = some x) (hx:Loc X.env.scope x) (r:RelV v u)
  (h:∀ s',Inv X pins (σ.set i (some v)) H s'->(∃ a,Heap.SameBut a s.heap s'.heap/\(a=X.env.locals \/ X.env.cells.lookup x=some a))->Q () s') (hf:X.fn x=true \/ X.env.scope.names.lookup x=some .local:=by first | exact .inl rfl | exact .inr rfl | assumption):wpAny M A (storeName X.env x u) Q E s:=by
 obtain ⟨m,hn,hl⟩:=id I.loc
 have hcls:(X.env.scope.kind == .class || (X.env.scope.kind == .module && X.env.locals != X.env.globals))=false:=by rw [I.ok.kind]; rfl
 have hiσ : i < σ.length:=by rw [I.len]; exact (List.getElem?_eq_some_iff.mp hi).1
 have cne:=I.cne
 have tracked:∀ {a:Addr} {h':Heap},(∃ o,s.heap.get? a=some o/\H a=none)->Heap.SameBut a s.heap h'->HOk X.prog X.w H h':=fun {a h'} ha hs b ob e=>by
  obtain ⟨_,_,hfree⟩:=ha
  refine (I.hok b ob e).stay (fun c w' hc q=>(hs.2 c ?_).trans q) (fun _ q=>q) fun _ _ q=>q
  rintro rfl
  rcases hc with rfl | hc
  · rw [hfree] at e; cases e
  · rw [hfree] at hc; cases hc
 rcases hx with hk | hk
 · refine wpAny_storeName_local hk hn (fun h' hn' hs => ?_) hcls
   obtain ⟨oL,_,_,hoL,_⟩:=id hn
   refine h _ ⟨I.ok,I.os,I.bare,⟨fun b o e n hb hx=>?_,fun b o e n hb hx=>?_,I.base.free,fun b o e hx=>?_,I.base.tups,I.base.frzs,I.base.tbls⟩,⟨_,hn',fun j y v' e1 e2 e3=>?_⟩,fun y c e=>?_,I.free,I.freeC,fun p hp=>?_,tracked ⟨oL,hoL,I.free⟩ hs,by simpa using I.len⟩ ⟨_,hs,.inl rfl⟩
   · exact (hs.2 b (Nat.ne_of_lt (Nat.lt_of_lt_of_le (Heap.lt_size e) I.ok.above))).trans (I.base.keep b o e n hb hx)
   · obtain ⟨sl, e1⟩ := I.base.slot b o e n hb hx
     exact ⟨sl,(hs.2 b (Nat.ne_of_lt (Nat.lt_of_lt_of_le (Heap.lt_size e) I.ok.above))).trans e1⟩
   · obtain ⟨o', e1⟩ := I.base.there b o e hx
     exact ⟨o',(hs.2 b (Nat.ne_of_lt (Nat.lt_of_lt_of_le (Heap.lt_size e) I.ok.above))).trans e1⟩
   · by_cases hj : j = i
     · subst hj
       rw [hi] at e1; cases e1
       rw [List.getElem?_set_self hiσ] at e2
       cases e2
       exact ⟨u,r,.inl ⟨hk,by simp⟩⟩
     · rw [List.getElem?_set_ne (Ne.symm hj)] at e2
       obtain ⟨u',r',q⟩:=hl j y v' e1 e2 e3
       refine ⟨u',r',?_⟩
       rcases q with ⟨k,e⟩ | ⟨k,c,e,z⟩
       · refine .inl ⟨k, ?_⟩
         have:y≠x:=fun e=>hj (kI hN e1 (e ▸ hi))
         simp [this,e]
       · exact .inr ⟨k,c,e,z.sameBut hs (cne y c e)⟩
   · obtain ⟨w', z⟩ := I.cell y c e
     exact ⟨w',z.sameBut hs (cne y c e)⟩
   · obtain ⟨e, n, ne, nf, d⟩ := I.pin p hp
     exact ⟨(hs.2 p.1 ne).trans e,n,ne,nf,d⟩
 · have hfn:X.fn x=true:=by
    rcases hf with z | z
    · exact z
    · rw [z] at hk; cases hk
   obtain ⟨c,hc⟩:=I.ok.has x (.inl hk)
   obtain ⟨w',z⟩:=I.cell x c hc
   refine wpAny_storeName_cell I.ok.kind hk hc z (fun h' hc' hs=>?_)
   obtain ⟨oc,hoc,hocd⟩:=id z
   refine h { s with heap:=h' } ⟨I.ok,I.os,I.bare,⟨fun b o e n hb hx=>?_,fun b o e n hb hx=>?_,I.base.free,fun b o e hx=>?_,I.base.tups,I.base.frzs,I.base.tbls⟩,⟨m,hn.sameBut hs (Ne.symm (cne x c hc)),fun j y v' e1 e2 e3=>?_⟩,fun y c' e=>?_,I.free,I.freeC,fun p hp=>?_,tracked ⟨oc,hoc,(I.freeC x c hc).now hfn⟩ hs,by simpa using I.len⟩ ⟨c,hs,.inr hc⟩
   · exact (hs.2 b (Nat.ne_of_lt (Nat.lt_of_lt_of_le (Heap.lt_size e) (I.ok.cab x c hfn hc)))).trans (I.base.keep b o e n hb hx)
   · obtain ⟨sl, e1⟩ := I.base.slot b o e n hb hx
     exact ⟨sl,(hs.2 b (Nat.ne_of_lt (Nat.lt_of_lt_of_le (Heap.lt_size e) (I.ok.cab x c hfn hc)))).trans e1⟩
   · obtain ⟨o', e1⟩ := I.base.there b o e hx
     exact ⟨o',(hs.2 b (Nat.ne_of_lt (Nat.lt_of_lt_of_le (Heap.lt_size e) (I.ok.cab x c hfn hc)))).trans e1⟩
   · by_cases hj : j = i
     · subst hj
       rw [hi] at e1; cases e1
       rw [List.getElem?_set_self hiσ] at e2
       cases e2
       exact ⟨u,r,.inr ⟨.inl hk,c,hc,hc'⟩⟩
     · rw [List.getElem?_set_ne (Ne.symm hj)] at e2
       obtain ⟨u',r',q⟩:=hl j y v' e1 e2 e3
       refine ⟨u',r',?_⟩
       rcases q with q | ⟨k,c',e,z'⟩
       · exact .inl q
       · refine .inr ⟨k, c', e, z'.sameBut hs ?_⟩
         rintro rfl
         exact hj (kI hN e1 (I.ok.inj _ _ _ e hc ▸ hi))
   · by_cases hcc : c' = c
     · subst hcc; exact ⟨_,hc'⟩
     · obtain ⟨w2, z2⟩ := I.cell y c' e
       exact ⟨w2,z2.sameBut hs hcc⟩
   · obtain ⟨e, n, ne, nf, d⟩ := I.pin p hp
     refine ⟨(hs.2 p.1 ?_).trans e,n,ne,nf,d⟩
     intro q
     rw [q,hoc] at e
     have q':oc=p.2:=Option.some.inj e
     exact d w' (by rw [<- q']; exact hocd)
theorem kL {M:Model} {A:Around} {E:Value->Shared->Prop} {i:Nat} {x:Str} {v:V} {u:Value} {Q:Unit->Shared->Prop} (I:Inv X pins σ H s) (hN:X.N.Nodup) (hi:X.N[i]? = some x) (hx:Loc X.env.scope x) (r:RelV v u)
  (h:∀ s',Inv X pins (σ.set i (some v)) H s'->Q () s') (hf:X.fn x=true \/ X.env.scope.names.lookup x=some .local:=by first | exact .inl rfl | exact .inr rfl | assumption):wpAny M A (storeName X.env x u) Q E s :=
 store_ok2 I hN hi hx r (fun s' I' _=>h s' I') hf
theorem Inv.call' {s':Shared} {ch:List Addr} (I:Inv X pins σ H s) (ho:s'.os=s.os) (u:Un (frs X.stack) ch H H' s.heap s'.heap) (hok:HOk X.prog X.w H' s'.heap) (hg:AllBare s'.gens)
  (hch:∀ b∈ch,(b∈X.ex \/ X.s₀.heap.objs.size<=b)/\b≠X.env.locals/\(∀ x c,X.env.cells.lookup x=some c->c≠b)/\∀ p∈X.pn++pins,p.1≠b):Inv X pins σ H' s':=by
 obtain ⟨h',g',d',t',o'⟩:=s'
 have e:o'=s.os:=ho
 subst e
 exact I.call (g':=g') (t':=t') (d':=d') u hok hg hch
end
abbrev XK:=Value->Option Addr->Hp->Prop
abbrev St:=List (Option V)
abbrev VK:=V->Hp->Prop
abbrev TE:=St->Hp->VK->Prop
abbrev TT:=St->Hp->(Bool->Hp->Prop)->Prop
abbrev TA:=St->Hp->(List V->Hp->Prop)->Prop
structure Ends where
 nx:St->Hp->Prop
 rt:VK
 bk:St->Hp->Prop:=fun _ _=>False
 ct:St->Hp->Prop:=fun _ _=>False
abbrev TS:=Ends->St->Hp->Prop
def EP (X:Cx) (pins:List (Addr×Obj)) (σ : St) (Q:VK) (u:Value) (s':Shared):Prop:=∃ v H',Inv X pins σ H' s'/\RelV v u/\Q v H'
def TP (X:Cx) (pins:List (Addr×Obj)) (σ : St) (Q:Bool->Hp->Prop) (b:Bool) (s':Shared):Prop:=∃ H',Inv X pins σ H' s'/\Q b H'
def AP (X:Cx) (pins:List (Addr×Obj)) (σ : St) (Q:List V->Hp->Prop) (us:List Value) (s':Shared):Prop:=∃ vs H',Inv X pins σ H' s'/\Vals vs us/\Q vs H'
def SP (X:Cx) (pins:List (Addr×Obj)) (D:Ends) (f:Flow) (s':Shared):Prop :=
 match f with
 | .next=>∃ σ' H',Inv X pins σ' H' s'/\D.nx σ' H'
 | .brk=>∃ σ' H',Inv X pins σ' H' s'/\D.bk σ' H'
 | .cont=>∃ σ' H',Inv X pins σ' H' s'/\D.ct σ' H'
 | .ret u=>∃ v σ' H',Inv X pins σ' H' s'/\RelV v u/\D.rt v H'
def PE (X:Cx) (e:Expr) (t:TE):Prop :=
 ∀ (pins:List (Addr×Obj)) (s:Shared) (σ : St) (H:Hp) (Q:VK),Inv X pins σ H s->t σ H Q->wpAny (model X.prog X.w) X.A (eval e X.env) (EP X pins σ Q) X.xe s
def PT (X:Cx) (e:Expr) (t:TT):Prop :=
 ∀ (pins:List (Addr×Obj)) (s:Shared) (σ : St) (H:Hp) (Q:Bool->Hp->Prop),Inv X pins σ H s->t σ H Q->wpAny (model X.prog X.w) X.A (isTrue e X.env (eval e X.env)) (TP X pins σ Q) X.xe s
def PW (X:Cx) (e:Expr) (t:TT):Prop :=
 ∀ (whole:Sem Value) (pins:List (Addr×Obj)) (s:Shared) (σ : St) (H:Hp) (Q:Bool->Hp->Prop),Inv X pins σ H s->t σ H Q->wpAny (model X.prog X.w) X.A (isTrue e X.env whole) (TP X pins σ Q) X.xe s
theorem PW.pt {X:Cx} {e:Expr} {t:TT} (h:PW X e t):PT X e t:=h _
def PA (X:Cx) (es:List Expr) (t:TA):Prop :=
 ∀ (pos:Pos) (pins:List (Addr×Obj)) (s:Shared) (σ : St) (H:Hp) (Q:List V->Hp->Prop),Inv X pins σ H s->t σ H Q->wpAny (model X.prog X.w) X.A (spliced (backTo pos (starEach es X.env))) (AP X pins σ Q) X.xe s
def PS (X:Cx) (st:Stmt) (t:TS):Prop :=
 ∀ (pins:List (Addr×Obj)) (s:Shared) (σ : St) (H:Hp) (D:Ends),Inv X pins σ H s->t D σ H->wpAny (model X.prog X.w) X.A (exec st X.env) (SP X pins D) X.xe s
def PSs (X:Cx) (st:List Stmt) (t:TS):Prop :=
 ∀ (pins:List (Addr×Obj)) (s:Shared) (σ : St) (H:Hp) (D:Ends),Inv X pins σ H s->t D σ H->wpAny (model X.prog X.w) X.A (execs st X.env) (SP X pins D) X.xe s
theorem thn {α : Type} {t:Sem α} {Q Q' : α->Shared->Prop} {M:Model} {A:Around} {E:Value->Shared->Prop} {s:Shared} (h:wpAny M A t Q E s) (hQ:∀ a s,Q a s->Q' a s):wpAny M A t Q' E s:=wpAny_mono h hQ fun _ _ x=>x
section
variable {X:Cx}
def tVar (i:Nat):TE:=fun σ H Q=>∃ v,σ[i]? = some (some v)/\Q v H
def tC (v:V):TE:=fun _ H Q=>Q v H
theorem yH {i:Nat} {x:Str} {pos:Pos} (hN:X.N[i]? = some x) (hv:Vis X.env.scope x) (hd:(x == ("__debug__" : Str))=false:=by decide) (hcd:(x == ("__classdict__" : Str))=false:=by decide):PE X (.Name x pos) (tVar i):=by
 intro pins s σ H Q I h
 obtain ⟨v,e,h⟩:=h
 obtain ⟨m,hn,hl⟩:=I.loc
 obtain ⟨u,r,l⟩:=hl i x v hN e hv
 have fin:EP X pins σ Q u s:=⟨v,H,I,r,h⟩
 rcases l with ⟨hk,hm⟩ | ⟨hk,c,hc,hcell⟩
 · exact wpAny_Name (wpAny_loadName_local I.ok.kind hk hn hm fin) hd
 · rcases hk with hk | hk
   · exact wpAny_Name (wpAny_loadName_cell I.ok.kind hk hc hcell fin) hd
   · exact wpAny_Name (wpAny_loadName_free I.ok.kind hk hc hcell fin hcd) hd
theorem pe_int {i j pos} : PE X (.Constant (.int i) j pos) (tC (.int i)):=fun _ _ _ H _ I h=>wpAny_Constant_int ⟨.int i,H,I.tok _,⟨_,rfl⟩,h⟩
theorem pe_bl {b j pos} : PE X (.Constant (.bool b) j pos) (tC (.bl b)):=fun _ _ _ H _ I h=>Constant_bool ⟨.bl b,H,I,rfl,h⟩
theorem pe_non {j pos} : PE X (.Constant .none j pos) (tC .non):=fun _ _ _ H _ I h=>Constant_none ⟨.non,H,I,rfl,h⟩
theorem pe_str {x j pos} : PE X (.Constant (.str x) j pos) (tC (.str x)):=fun _ _ _ H _ I h=>Calls.Constant_str ⟨.str x,H,I.tok _,⟨_,rfl⟩,h⟩
def Gl (X:Cx) (x:Str):Prop:=X.env.kindOf x=some .globalImplicit
theorem xU {E:Value->Shared->Prop} {pins:List (Addr×Obj)} {s:Shared} {σ : St} {H:Hp} {x:Str} {u:Value} {pos:Pos} {Q:Value->Shared->Prop} (I:Inv X pins σ H s) (hg:Gl X x) (hm:X.mg x=some u) (h:Q u s)
  (hd:(x == ("__debug__" : Str))=false:=by decide):wpAny (model X.prog X.w) X.A (eval (.Name x pos) X.env) Q E s :=
 Calls.Name_function_global I.ok.kind hg (Calls.loadGlobal_global (by rw [I.ok.glob]; exact I.mod.glob.keeps I.bk) hm h) hd
theorem vW {E:Value->Shared->Prop} {pins:List (Addr×Obj)} {s:Shared} {σ : St} {H:Hp} {x:Str} {u:Value} {pos:Pos} {Q:Value->Shared->Prop} (I:Inv X pins σ H s) (hg:Gl X x) (hm:X.mg x=none) (hv:bootBuiltins x=some u) (h:Q u s)
  (hn:x≠"__name__":=by decide) (hd:(x == ("__debug__" : Str))=false:=by decide):wpAny (model X.prog X.w) X.A (eval (.Name x pos) X.env) Q E s:=by
 obtain ⟨mb,h1,h2⟩:=I.mod.blt
 exact Calls.Name_function_global I.ok.kind hg (Calls.loadGlobal_builtin (by rw [I.ok.glob]; exact I.mod.glob.keeps I.bk) hm (by rw [I.ok.blt]; exact h1.keeps I.bk) ((h2 x hn).trans hv) h) hd
theorem pe_glob {x:Str} {v:V} {u:Value} {pos:Pos} (hg:Gl X x) (hm:X.mg x=some u) (r:RelV v u) (hd:(x == ("__debug__" : Str))=false:=by decide):PE X (.Name x pos) (tC v) :=
 fun _ _ _ H _ I h=>xU I hg hm ⟨v,H,I,r,h⟩ hd
theorem pe_bltn {x:Str} {v:V} {u:Value} {pos:Pos} (hg:Gl X x) (hm:X.mg x=none) (hv:bootBuiltins x=some u) (r:RelV v u) (hn:x≠"__name__":=by decide) (hd:(x == ("__debug__" : Str))=false:=by decide):PE X (.Name x pos) (tC v) :=
 fun _ _ _ H _ I h=>vW I hg hm hv ⟨v,H,I,r,h⟩ hn hd
variable {a b:Expr} {ta tb:TE} {pos:Pos}
def PC (X:Cx) (op:CmpOp) (a b:Expr) (t:TE):Prop :=
 ∀ (pins:List (Addr×Obj)) (s:Shared) (σ : St) (H:Hp) (Q:VK),Inv X pins σ H s->t σ H Q →
  wpAny (model X.prog X.w) X.A (eval a X.env) (fun v s₁=>wpAny (model X.prog X.w) X.A (eval b X.env) (fun u s₂=>wpAny (model X.prog X.w) X.A (compareOp op v u) (EP X pins σ Q) X.xe s₂) X.xe s₁) X.xe s
theorem nobehind (b:Expr) {op:CmpOp} (h:op≠.In) (h2:op≠.NotIn):behindInMarks op b=false:=by
 have e1:(op == CmpOp.In)=false:=by cases op <;> first | rfl | exact absurd rfl h
 have e2:(op == CmpOp.NotIn)=false:=by cases op <;> first | rfl | exact absurd rfl h2
 cases b <;> simp [behindInMarks,e1,e2]
def tB (t:TE):TT:=fun σ H Q=>t σ H fun x H1=>∃ c,x = .bl c/\Q c H1
theorem pt_cmp {op:CmpOp} {t:TE} (h:PC X op a b t) (h1:behindInMarks op b=false:=by first | exact nobehind _ (by decide) (by decide) | rfl):PT X (.Compare a [op] [b] pos) (tB t):=by
 intro pins s σ H Q I hw
 refine wpAny_isTrue_Compare1 (thn (h pins s σ H _ I hw) fun v s1 h1=>thn h1 fun u s2 h2=>thn h2 fun c s3 zq=>?_) h1
 obtain ⟨x,H1,I1,r1,q1⟩:=zq
 obtain ⟨d,rfl,q⟩:=q1
 cases r1
 exact wpAny_truthy_bool ⟨H1,I1,q⟩
theorem pt_val {e:Expr} {t:TE} (h:PE X e t) (he:∀ whole,isTrue e X.env whole=(do let v <- whole; standAt e.pos; holding [v] (truthy v)):=by intro _; rfl):PT X e (tB t):=by
 intro pins s σ H Q I hw
 refine isTrue_plain (thn (h pins s σ H _ I hw) fun v s1 zq=>?_) (he _)
 obtain ⟨x,H1,I1,r1,q1⟩:=zq
 obtain ⟨d,rfl,q⟩:=q1
 cases r1
 exact wpAny_truthy_bool ⟨H1,I1,q⟩
variable {tA tB':TT} {rest:List Expr}
def tAnd (t u:TT):TT:=fun σ H Q=>t σ H fun c H1=>if c=true then u σ H1 Q else Q false H1
def tOr (t u:TT):TT:=fun σ H Q=>t σ H fun c H1=>if c=true then Q true H1 else u σ H1 Q
def tNot (t:TT):TT:=fun σ H Q=>t σ H fun c H1=>Q (!c) H1
theorem pw_and1 (ha:PT X a tA):PW X (.BoolOp .And [a] pos) tA:=by
 intro wh pins s σ H Q I h
 refine isTrue_and (thn (ha pins s σ H Q I h) fun c s1 e=>?_)
 cases c with
 | true=>exact isTrue_and_nil e
 | false=>exact e
theorem pw_or1 (ha:PT X a tA):PW X (.BoolOp .Or [a] pos) tA:=by
 intro wh pins s σ H Q I h
 refine isTrue_or (thn (ha pins s σ H Q I h) fun c s1 e=>?_)
 cases c with
 | false=>exact isTrue_or_nil e
 | true=>exact e
theorem pw_and (ha:PT X a tA) (hb:PW X (.BoolOp .And (b::rest) pos) tB'):PW X (.BoolOp .And (a::b::rest) pos) (tAnd tA tB'):=by
 intro wh pins s σ H Q I h
 refine isTrue_and (thn (ha pins s σ H _ I h) fun c s1 zq=>?_)
 obtain ⟨H1,I1,q1⟩:=zq
 cases c with
 | true=>exact hb wh pins s1 σ H1 Q I1 q1
 | false=>exact ⟨H1,I1,q1⟩
theorem pw_or (ha:PT X a tA) (hb:PW X (.BoolOp .Or (b::rest) pos) tB'):PW X (.BoolOp .Or (a::b::rest) pos) (tOr tA tB'):=by
 intro wh pins s σ H Q I h
 refine isTrue_or (thn (ha pins s σ H _ I h) fun c s1 zq=>?_)
 obtain ⟨H1,I1,q1⟩:=zq
 cases c with
 | true=>exact ⟨H1,I1,q1⟩
 | false=>exact hb wh pins s1 σ H1 Q I1 q1
theorem pt_not (ha:PT X a tA):PT X (.UnaryOp .Not a pos) (tNot tA):=by
 intro pins s σ H Q I h
 exact isTrue_not (ha pins s σ H (fun c H1=>Q (!c) H1) I h)
def tAndV (ta tb:TE):TE:=fun σ H Q=>ta σ H fun x H1=>∃ c,x = .bl c/\if c=true then tb σ H1 Q else Q (.bl false) H1
def tOrV (ta tb:TE):TE:=fun σ H Q=>ta σ H fun x H1=>∃ c,x = .bl c/\if c=true then Q (.bl true) H1 else tb σ H1 Q
def tNotV (ta:TE):TE:=fun σ H Q=>ta σ H fun x H1=>∃ c,x = .bl c/\Q (.bl (!c)) H1
theorem pe_one {op} {t:TE} (h:PE X a t):PE X (.BoolOp op [a] pos) t:=fun pins s σ H Q I hw=>BoolOp_one (h pins s σ H Q I hw)
theorem pe_and (ha:PE X a ta) (hb:PE X (.BoolOp .And (b::rest) pos) tb):PE X (.BoolOp .And (a::b::rest) pos) (tAndV ta tb):=by
 intro pins s σ H Q I h
 refine BoolOp_and (thn (ha pins s σ H _ I h) fun v s1 zq=>?_)
 obtain ⟨x,H1,I1,r1,q1⟩:=zq
 obtain ⟨c,rfl,q1⟩:=q1
 cases r1
 refine wpAny_truthy_bool ?_
 cases c with
 | true=>exact hb pins s1 σ H1 Q I1 q1
 | false=>exact ⟨.bl false,H1,I1,rfl,q1⟩
theorem pe_or (ha:PE X a ta) (hb:PE X (.BoolOp .Or (b::rest) pos) tb):PE X (.BoolOp .Or (a::b::rest) pos) (tOrV ta tb):=by
 intro pins s σ H Q I h
 refine BoolOp_or (thn (ha pins s σ H _ I h) fun v s1 zq=>?_)
 obtain ⟨x,H1,I1,r1,q1⟩:=zq
 obtain ⟨c,rfl,q1⟩:=q1
 cases r1
 refine wpAny_truthy_bool ?_
 cases c with
 | false=>exact hb pins s1 σ H1 Q I1 q1
 | true=>exact ⟨.bl true,H1,I1,rfl,q1⟩
theorem pe_not (ha:PE X a ta):PE X (.UnaryOp .Not a pos) (tNotV ta):=by
 intro pins s σ H Q I h
 refine UnaryOp_ (thn (ha pins s σ H _ I h) fun v s1 zq=>?_)
 obtain ⟨x,H1,I1,r1,q1⟩:=zq
 obtain ⟨c,rfl,q1⟩:=q1
 cases r1
 exact not_of (wpAny_truthy_bool ⟨.bl (!c),H1,I1,rfl,q1⟩)
end
def SqL (K:PySem.W.Frag) (H:Hp) (a:Addr) (xs:List V):Prop :=
 Rd H a (.lst xs) ∨
  ∃ (o:Obj) (its:Array Value) (n:Nat),K.lookup a=some o/\o.cls = .type "list"/\o.dict=none/\o.data = .seq its n/\its.size<=sizeLine/\Vals xs its.toList
def SqT (K:PySem.W.Frag) (H:Hp) (a:Addr) (xs:List V):Prop :=
 Rd H a (.tup xs) ∨
  ∃ (o:Obj) (its:Array Value) (n:Nat),K.lookup a=some o/\o.cls = .type "tuple"/\o.data = .seq its n/\its.size<=sizeLine/\Vals xs its.toList
noncomputable def absV:Value->Option V
 | .none=>some .non
 | .bool b=>some (.bl b)
 | .int i _=>some (.int i)
 | .str x _=>some (.str x)
 | .bytes b _=>some (.byt b)
 | .float b _=>some (.flt b)
 | .ref a=>some (.ref a)
 | .type n=>some (.ty n)
 | _=>none
theorem RelV.abs {x:V} {u:Value} (r:RelV x u):absV u=some x:=by
 cases x with
 | non=>cases r; rfl
 | bl _=>cases r; rfl
 | int _=>obtain ⟨t,rfl⟩:=r; rfl
 | str _=>obtain ⟨t,rfl⟩:=r; rfl
 | byt _=>obtain ⟨t,rfl⟩:=r; rfl
 | flt _=>obtain ⟨t,rfl⟩:=r; rfl
 | ref _=>cases r; rfl
 | ty _=>cases r; rfl
theorem RelV.inj {x y:V} {u:Value} (r:RelV x u) (q:RelV y u):x=y:=Option.some.inj (r.abs.symm.trans q.abs)
theorem Vals.inj:∀ {xs ys:List V} {us:List Value},Vals xs us->Vals ys us->xs=ys
 | _,_,_,.nil,.nil=>rfl
 | _,_,_,.cons r t,.cons r' t'=>by rw [r.inj r',Vals.inj t t']
section
variable {X:Cx} {pins:List (Addr×Obj)} {σ : St} {H:Hp} {s:Shared} {a:Addr} {xs ys:List V}
theorem SqL.of {K:PySem.W.Frag} (h:H a=some (.lst xs)):SqL K H a xs:=.inl (.inl h)
theorem SqT.of {K:PySem.W.Frag} (h:H a=some (.tup xs)):SqT K H a xs:=.inl (.inl h)
theorem Inv.list (I:Inv X pins σ H s) (h:SqL X.K H a xs):∃ its:List Value,Vals xs its/\PlainL s.heap a its.toArray/\xs.length<=sizeLine:=by
 rcases h with h | ⟨o,its,n,hk,hc,hd,hs,hz,r⟩
 · obtain ⟨z, its, n, r, e⟩ := h.ok I.hok
   exact ⟨its,r,⟨_,n,e,rfl,rfl,rfl⟩,z⟩
 · refine ⟨its.toList, r, ⟨o, n, I.kIn a o hk, hc, hd, by simpa using hs⟩, ?_⟩
   have e:=r.length
   simp only [Array.length_toList] at e
   omega
theorem Inv.tuple (I:Inv X pins σ H s) (h:SqT X.K H a xs):∃ its:List Value,Vals xs its/\IsTup s.heap a its.toArray/\xs.length<=sizeLine:=by
 rcases h with h | ⟨o,its,n,hk,hc,hs,hz,r⟩
 · obtain ⟨z, its, r, p⟩ := h.ok I.hok
   exact ⟨its,r,p,z⟩
 · refine ⟨its.toList, r, ⟨o, I.kIn a o hk, hc, n, by simpa using hs⟩, ?_⟩
   have e:=r.length
   simp only [Array.length_toList] at e
   omega
theorem Inv.list_inj (I:Inv X pins σ H s) (h:SqL X.K H a xs) (h':SqL X.K H a ys):xs=ys:=by
 obtain ⟨its,r,⟨o,n,e,_,_,d⟩,_⟩:=I.list h
 obtain ⟨its',r',⟨o',n',e',_,_,d'⟩,_⟩:=I.list h'
 rw [e] at e'; cases e'
 rw [d] at d'
 injection d' with d1 _
 have:its=its':=by simpa using congrArg Array.toList d1
 subst this
 exact r.inj r'
theorem Inv.tuple_inj (I:Inv X pins σ H s) (h:SqT X.K H a xs) (h':SqT X.K H a ys):xs=ys:=by
 obtain ⟨its,r,⟨o,e,_,n,d⟩,_⟩:=I.tuple h
 obtain ⟨its',r',⟨o',e',_,n',d'⟩,_⟩:=I.tuple h'
 rw [e] at e'; cases e'
 rw [d] at d'
 injection d' with d1 _
 have:its=its':=by simpa using congrArg Array.toList d1
 subst this
 exact r.inj r'
end
noncomputable abbrev Cx.wish (X:Cx) (E:Value->Shared->Prop):Cx:={ X with xe:=E }
noncomputable abbrev Cx.nox (X:Cx):Cx:=X.wish fun _ _=>False
theorem Cx.Ok.wish {X:Cx} (ok:X.Ok) (E:Value->Shared->Prop):(X.wish E).Ok :=
 ⟨ok.mod,ok.kind,ok.glob,ok.blt,ok.above,ok.inj,ok.has,ok.cab,ok.hd,ok.frames,ok.stk,ok.exf,ok.bs,ok.bsz,ok.noex,ok.exfs,ok.funs,ok.frf⟩
theorem Cx.Ok.unwish {X:Cx} {E:Value->Shared->Prop} (ok:(X.wish E).Ok):X.Ok :=
 ⟨ok.mod,ok.kind,ok.glob,ok.blt,ok.above,ok.inj,ok.has,ok.cab,ok.hd,ok.frames,ok.stk,ok.exf,ok.bs,ok.bsz,ok.noex,ok.exfs,ok.funs,ok.frf⟩
section
variable {X:Cx} {pins:List (Addr×Obj)} {σ : St} {H:Hp} {s:Shared} {E:Value->Shared->Prop}
theorem Inv.wish (I:Inv X pins σ H s) (E:Value->Shared->Prop):Inv (X.wish E) pins σ H s:=⟨I.ok.wish E,I.os,I.bare,I.base,I.loc,I.cell,I.free,I.freeC,I.pin,I.hok,I.len⟩
theorem Inv.unwish (I:Inv (X.wish E) pins σ H s):Inv X pins σ H s:=⟨I.ok.unwish,I.os,I.bare,I.base,I.loc,I.cell,I.free,I.freeC,I.pin,I.hok,I.len⟩
theorem SP.unwish {D:Ends} {f:Flow} {s':Shared} (h:SP (X.wish E) pins D f s'):SP X pins D f s':=by
 cases f with
 | next=>obtain ⟨σ',H',I,q⟩:=h; exact ⟨σ',H',I.unwish,q⟩
 | brk=>obtain ⟨σ',H',I,q⟩:=h; exact ⟨σ',H',I.unwish,q⟩
 | cont=>obtain ⟨σ',H',I,q⟩:=h; exact ⟨σ',H',I.unwish,q⟩
 | ret u=>obtain ⟨v,σ',H',I,r,q⟩:=h; exact ⟨v,σ',H',I.unwish,r,q⟩
theorem PSs.nox {st:List Stmt} {t:TS} (h:PSs X.nox st t):PSs X st t:=fun pins s σ H D I hw =>
 wpAny_mono (h pins s σ H D (I.wish _) hw) (fun _ _ q=>q.unwish) fun _ _ z=>False.elim z
end
section
variable {X:Cx} {st:Stmt} {rest:List Stmt} {t u:TS} {e:Expr} {te:TE} {pos:Pos}
def tNext:TS:=fun D σ H=>D.nx σ H
def tSeq (t u:TS):TS:=fun D σ H=>t { D with nx:=u D } σ H
theorem pss_nil:PSs X [] tNext:=fun _ _ σ H _ I h=>wpAny_execs_nil ⟨σ,H,I,h⟩
theorem kA (h1:PS X st t) (h2:PSs X rest u):PSs X (st::rest) (tSeq t u):=by
 intro pins s σ H D I h
 refine wpAny_execs_cons (thn (h1 pins s σ H { D with nx:=u D } I h) fun f s1 q=>?_)
 cases f with
 | next =>
   obtain ⟨σ',H',I',q⟩:=q
   exact h2 pins s1 σ' H' D I' q
 | ret v=>exact q
 | brk=>exact q
 | cont=>exact q
theorem pss_one (h1:PS X st t):PSs X [st] t:=by
 intro pins s σ H D I h
 refine wpAny_execs_cons (thn (h1 pins s σ H D I h) fun f s1 q=>?_)
 cases f with
 | next=>exact wpAny_execs_nil q
 | ret v=>exact q
 | brk=>exact q
 | cont=>exact q
def tCont:TS:=fun D σ H=>D.ct σ H
theorem ps_continue:PS X (.Continue pos) tCont:=fun _ _ σ H _ I h=>wpAny_Continue ⟨σ,H,I,h⟩
theorem Inv.quiet {pins:List (Addr×Obj)} {σ : St} {H:Hp} {s:Shared} (I:Inv X pins σ H s):interactive X.env=false:=by simp [interactive,I.ok.kind]
def tDrop (te:TE):TS:=fun D σ H=>te σ H fun _ H1=>D.nx σ H1
theorem xW (he:PE X e te) (hs:swapsWith e none pos.line X.env=pure false:=by rfl):PS X (.Expr e pos) (tDrop te):=by
 intro pins s σ H D I h
 exact wpAny_Expr_any (thn (he pins s σ H _ I h) fun v s1 ⟨x,H1,I1,r1,q1⟩=>⟨σ,H1,I1,q1⟩) I.quiet hs
def tRet (te:TE):TS:=fun D σ H=>te σ H D.rt
theorem ps_ret (he:PE X e te):PS X (.Return (some e) pos) (tRet te):=by
 intro pins s σ H D I h
 exact wpAny_Return_some (thn (he pins s σ H _ I h) fun v s1 ⟨x,H1,I1,r1,q1⟩=>⟨x,σ,H1,I1,r1,q1⟩)
def tIfS (c:TT) (t u:TS):TS:=fun D σ H=>c σ H fun b H1=>if b=true then t D σ H1 else u D σ H1
theorem ps_if {c:Expr} {a b:List Stmt} {tc:TT} (hc:PT X c tc) (ha:PSs X a t) (hb:PSs X b u):PS X (.If c a b pos) (tIfS tc t u):=by
 intro pins s σ H D I h
 refine wpAny_If (thn (hc pins s σ H _ I h) fun d s1 zq=>?_)
 obtain ⟨H1,I1,q1⟩:=zq
 cases d with
 | true=>exact ha pins s1 σ H1 D I1 q1
 | false=>exact hb pins s1 σ H1 D I1 q1
def tNever:TS:=fun _ _ _=>False
theorem ps_never:PS X st tNever:=fun _ _ _ _ _ _ h=>h.elim
end
abbrev TG:=V->St->Hp->(St->Hp->Prop)->Prop
abbrev TGs:=List V->St->Hp->(St->Hp->Prop)->Prop
def PG (X:Cx) (target:Expr) (t:TG):Prop :=
 ∀ (pins:List (Addr×Obj)) (s:Shared) (σ : St) (H:Hp) (v:V) (u:Value) (Q:St->Hp->Prop),Inv X pins σ H s->RelV v u->t v σ H Q →
  wpAny (model X.prog X.w) X.A (assign target X.env u) (fun _ s'=>∃ σ' H',Inv X pins σ' H' s'/\Q σ' H') X.xe s
def PGs (X:Cx) (ts:List Expr) (t:TGs):Prop :=
 ∀ (pins:List (Addr×Obj)) (s:Shared) (σ : St) (H:Hp) (vs:List V) (us:List Value) (Q:St->Hp->Prop),Inv X pins σ H s->Vals vs us->t vs σ H Q →
  wpAny (model X.prog X.w) X.A (assignInOrder ((assignEach ts X.env).map (·.2)) us) (fun _ s'=>∃ σ' H',Inv X pins σ' H' s'/\Q σ' H') X.xe s
abbrev TSet:=V->V->V->Hp->(Hp->Prop)->Prop
def PSet (X:Cx) (t:TSet):Prop :=
 ∀ (pins:List (Addr×Obj)) (s:Shared) (σ : St) (H:Hp) (o i v:V) (ov iv u:Value) (Q:Hp->Prop),Inv X pins σ H s->RelV o ov->RelV i iv->RelV v u->t o i v H Q →
  wpAny (model X.prog X.w) X.A (setItem ov iv u) (fun _ s'=>∃ H',Inv X pins σ H' s'/\Q H') X.xe s
section
variable {X:Cx} {pos:Pos}
def gName (i:Nat):TG:=fun v σ H Q=>Q (σ.set i (some v)) H
theorem pg_name {i:Nat} {x:Str} (hN:X.N.Nodup) (hi:X.N[i]? = some x) (hx:Loc X.env.scope x) (hf:X.fn x=true \/ X.env.scope.names.lookup x=some .local:=by first | exact .inl rfl | exact .inr rfl | assumption):PG X (.Name x pos) (gName i):=by
 intro pins s σ H v u Q I r h
 exact wpAny_assign_Name (kL I hN hi hx r (fun s' I'=>⟨_,H,I',h⟩) hf)
def gNil:TGs:=fun vs σ H Q=>vs=[]/\Q σ H
def gCons (t:TG) (u:TGs):TGs:=fun vs σ H Q=>∃ v r,vs=v::r/\t v σ H fun σ' H'=>u r σ' H' Q
theorem pgs_nil:PGs X [] gNil:=by
 intro pins s σ H vs us Q I r h
 obtain ⟨e,h⟩:=h
 subst e
 cases r
 exact assignInOrder_nil ⟨σ,H,I,h⟩
theorem pgs_cons {e:Expr} {es:List Expr} {t:TG} {u:TGs} (h1:PG X e t) (h2:PGs X es u)
  (hs:(assignEach (e::es) X.env).map (·.2)=assign e X.env::(assignEach es X.env).map (·.2):=by rfl):PGs X (e::es) (gCons t u):=by
 intro pins s σ H vs us Q I r h
 obtain ⟨v,vr,e1,h⟩:=h
 subst e1
 cases r with
 | cons r rr =>
   rw [hs]
   refine assignInOrder_cons (thn (h1 pins s σ H _ _ _ I r h) fun _ s1 zq=>?_)
   obtain ⟨σ1,H1,I1,q1⟩:=zq
   exact h2 pins s1 σ1 H1 _ _ Q I1 rr q1
def gTup (K:PySem.W.Frag) (n:Nat) (t:TGs):TG:=fun v σ H Q=>∃ a xs,v = .ref a/\SqT K H a xs/\xs.length=n/\t xs σ H Q
theorem pg_tup {es:List Expr} {k:Nat} {t:TGs} {n:Nat} (hc:X.calm=true) (h:PGs X es t)
  (hn:(assignEach es X.env).length=n:=by rfl) (hst:(assignEach es X.env).findIdx? (·.1)=none:=by rfl):PG X (.Tuple es k pos) (gTup X.K n t):=by
 intro pins s σ H v u Q I r hw
 obtain ⟨a,xs,e1,hq,hl,hw⟩:=hw
 subst e1
 cases r
 obtain ⟨its,rv,ht,hz⟩:=I.tuple hq
 refine assign_Tuple_tuple (I.ok.hd hc) ht (by simp [hn,<- hl,rv.length]) hst fun h' hx=>?_
 have I1:Inv X pins σ H { s with heap:=h' }:=I.kept (t':=s.toks) fun b o e=>hx b o (Nat.ne_of_lt (Heap.lt_size e)) e
 exact h pins _ σ H xs _ Q I1 (by simpa using rv) hw
def gSub (to ti:TE) (t:TSet):TG:=fun v σ H Q=>to σ H fun o H1=>ti σ H1 fun i H2=>t o i v H2 fun H3=>Q σ H3
theorem pg_sub {o i:Expr} {to ti:TE} {t:TSet} (ho:PE X o to) (hi:PE X i ti) (hs:PSet X t)
  (ha:∀ v,assign (.Subscript o i pos) X.env v=(do
    let ov <- holding [v] (eval o X.env)
    let iv <- holding [v,ov] (eval i X.env)
    standAt pos
    holding [v,ov,iv] (setItem ov iv v)
    release [v,ov,iv] []):=by intro _; rfl):PG X (.Subscript o i pos) (gSub to ti t):=by
 intro pins s σ H v u Q I r h
 rw [ha]
 refine wpAny_bind (wpAny_holding (thn (ho pins s σ H _ I h) fun ov s1 zq=>?_))
 obtain ⟨x,H1,I1,r1,q1⟩:=zq
 refine wpAny_bind (wpAny_holding (thn (hi pins s1 σ H1 _ I1 q1) fun iv s2 zq=>?_))
 obtain ⟨y,H2,I2,r2,q2⟩:=zq
 refine wpAny_bind (wpAny_standAt (wpAny_bind (wpAny_holding (thn (hs pins s2 σ H2 x y v ov iv u _ I2 r1 r2 r q2) fun _ s3 zq=>?_))))
 obtain ⟨H3,I3,q3⟩:=zq
 exact wpAny_release ⟨σ,H3,I3,q3⟩
def tAsg (te:TE) (g:TG):TS:=fun D σ H=>te σ H fun x H1=>g x σ H1 D.nx
theorem ps_asg {tg e:Expr} {te:TE} {g:TG} (he:PE X e te) (hg:PG X tg g) (hs:swapsWithSole [tg] e pos.line X.env=pure false:=by rfl) (hw:swappedStores [tg] e X.env=pure none:=by rfl)
  (h1:(assignEach [tg] X.env).map (·.2)=[assign tg X.env]:=by rfl):PS X (.Assign [tg] e pos) (tAsg te g):=by
 intro pins s σ H D I h
 refine wpAny_Assign_stores (thn (he pins s σ H _ I h) fun v s1 zq=>?_) hs hw
 obtain ⟨x,H1,I1,r1,q1⟩:=zq
 rw [h1]
 exact thn (hg pins s1 σ H1 x v _ I1 r1 q1) fun _ s2 q=>q
theorem ps_set {i:Nat} {x:Str} {e:Expr} {te:TE} {pos':Pos} (hN:X.N.Nodup) (hi:X.N[i]? = some x) (hx:Loc X.env.scope x) (he:PE X e te) (hs:swapsWith e (some (.Name x pos')) pos.line X.env=pure false:=by rfl) (hf:X.fn x=true \/ X.env.scope.names.lookup x=some .local:=by first | exact .inl rfl | exact .inr rfl | assumption) :
  PS X (.Assign [.Name x pos'] e pos) (tAsg te (gName i)):=by
 intro pins s σ H D I h
 refine wpAny_Assign_Name (thn (he pins s σ H _ I h) fun v s1 zq=>?_) hs
 obtain ⟨y,H1,I1,r1,q1⟩:=zq
 exact kL I1 hN hi hx r1 (fun s2 I2=>⟨_,H1,I2,q1⟩) hf
end
section
variable {X:Cx} {pos:Pos}
end
structure It where
 go:Nat->Hp->Prop
 yld:Nat->Hp->V->Hp->Prop
 stop:Nat->Hp->Prop
def FpOk (X:Cx) (pins:List (Addr×Obj)) (H:Hp) (b:Addr):Prop :=
 H b=none/\b≠X.env.locals/\b ∉ X.fs/\(b∈X.ex \/ X.s₀.heap.objs.size<=b)/\(∀ x c,X.env.cells.lookup x=some c->c≠b)/\∀ p∈X.pn++pins,p.1≠b
theorem Inv.fpOk {X:Cx} {pins:List (Addr×Obj)} {σ : St} {H H':Hp} {s:Shared} {b:Addr} (I:Inv X pins σ H s) (hb:s.heap.objs.size<=b) (hn:H' b=none):FpOk X pins H' b:=by
 refine ⟨hn,Nat.ne_of_gt (Nat.lt_of_lt_of_le I.lt hb),I.nofs hb,.inr (Nat.le_trans I.sz hb),fun x c e z=>?_,fun p hp z=>?_⟩
 · obtain ⟨v, q⟩ := I.cell x c e
   exact absurd (Nat.lt_of_lt_of_le q.lt (by rw [z]; exact hb)) (Nat.lt_irrefl _)
 · exact absurd (Nat.lt_of_lt_of_le (Heap.lt_size (I.pin p hp).1) (by rw [z]; exact hb)) (Nat.lt_irrefl _)
structure Turn (P:Program) (w:World) (K:PySem.W.Frag) (tg:Expr) (J:It) (fp:List Addr) (it:Addr) (tn:Nat->Heap->Prop) (cm:Cx->Prop:=fun X=>X.calm=true):Prop where
 mem:it∈fp
 obj:∀ i h,tn i h->∀ b∈fp,∃ o,h.get? b=some o/\∀ v,o.data≠.cell v
 keep:∀ i h h',tn i h->(∀ b∈fp,∀ o,h.get? b=some o->h'.get? b=some o)->tn i h'
 item:∀ (X:Cx),X.prog=P->X.w=w->X.K=K->cm X->∀ (i:Nat) (pins:List (Addr×Obj)) (s:Shared) (σ : St) (H:Hp) (E:Value->Shared->Prop),Inv X pins σ H s->(∀ b∈fp,FpOk X pins H b)->tn i s.heap->J.go i H →
  wpAny (model P w) X.A (pyNext (.ref it)) (fun r s1=>∃ u,r=some u ∧
   wpAny (model P w) X.A (letOwnedTupleGo tg (.ref it) u) (fun _ s2=>∃ x H',Inv X pins σ H' s2/\RelV x u/\J.yld i H x H'/\tn (i+1) s2.heap/\∀ b∈fp,H' b=none) E s1) E s
 done:∀ (X:Cx),X.prog=P->X.w=w->X.K=K->cm X->∀ (i:Nat) (pins:List (Addr×Obj)) (s:Shared) (σ : St) (H:Hp) (E:Value->Shared->Prop),Inv X pins σ H s->(∀ b∈fp,FpOk X pins H b)->tn i s.heap->J.stop i H →
  wpAny (model P w) X.A (pyNext (.ref it)) (fun r s1=>r=none/\Inv X pins σ H s1) E s
 self:∀ (A:Around) (i:Nat) (s:Shared) (Q:Value->Shared->Prop) (E:Value->Shared->Prop),tn i s.heap->Q (.ref it) s->wpAny (model P w) A (pyIter (.ref it)) Q E s
abbrev TI:=St->Hp->(It->Hp->Prop)->Prop
def PIE (X:Cx) (pins:List (Addr×Obj)) (σ : St) (tg:Expr) (R:It->Hp->Prop) (cm:Cx->Prop:=fun X=>X.calm=true) (itv:Value) (s2:Shared):Prop :=
 ∃ (it:Addr) (fp:List Addr) (tn:Nat->Heap->Prop) (J:It) (H':Hp),itv = .ref it/\Inv X pins σ H' s2/\Turn X.prog X.w X.K tg J fp it tn cm/\tn 0 s2.heap/\(∀ b∈fp,FpOk X pins H' b)/\R J H'
def PI (X:Cx) (tg iter:Expr) (wi:TI) (cm:Cx->Prop:=fun X=>X.calm=true):Prop :=
 ∀ (pins:List (Addr×Obj)) (s:Shared) (σ : St) (H:Hp) (R:It->Hp->Prop),Inv X pins σ H s->wi σ H R →
  wpAny (model X.prog X.w) X.A (eval iter X.env) (fun v s1=>wpAny (model X.prog X.w) X.A (pyIter v) (PIE X pins σ tg R cm) X.xe s1) X.xe s
theorem go_of {M:Model} {A:Around} {E:Value->Shared->Prop} {s:Shared} {tg:Expr} {it:Addr} {u:Value} {o:Obj} {n:String} {vs:Array Value} {Q:Unit->Shared->Prop} (ho:s.heap.get? it=some o) (hc:o.cls = .type n) (hd:o.data = .fields vs)
  (hn:["enumerate","zip","dict_itemiterator","dict_reverseitemiterator","odict_iterator","itertools.zip_longest","itertools.pairwise"].contains n=false) (hQ:Q () s):wpAny M A (letOwnedTupleGo tg (.ref it) u) Q E s:=by
 unfold letOwnedTupleGo
 cases tg <;> first
  | exact wpAny_pure hQ
  | (cases u <;> first
      | exact wpAny_pure hQ
      | (refine wpAny_bind (wpAny_load ho ?_)
         rw [hc,hd]
         show wpAny M A (if (["enumerate","zip","dict_itemiterator","dict_reverseitemiterator","odict_iterator","itertools.zip_longest","itertools.pairwise"].contains n && vs[0]? == some (rawInt _))=true then _ else _) Q E s
         rw [if_neg (by intro h; rw [hn,Bool.false_and] at h; cases h)]
         exact wpAny_pure hQ))
noncomputable def Itl (K:PySem.W.Frag) (a:Addr):It :=
 ⟨fun i H=>∃ xs x,SqL K H a xs/\xs[i]? = some x,fun i H x H'=>H'=H/\∀ xs,SqL K H a xs->xs[i]? = some x,fun i H=>∃ xs,SqL K H a xs/\xs.length<=i⟩
noncomputable def Itt (K:PySem.W.Frag) (a:Addr):It :=
 ⟨fun i H=>∃ xs x,SqT K H a xs/\xs[i]? = some x,fun i H x H'=>H'=H/\∀ xs,SqT K H a xs->xs[i]? = some x,fun i H=>∃ xs,SqT K H a xs/\xs.length<=i⟩
noncomputable def Itr (lo:Int) (n:Nat):It:=⟨fun i _=>i < n,fun i H x H'=>H'=H/\x = .int (lo+i),fun i _=>n<=i⟩
theorem turn_list {P:Program} {w:World} {K:PySem.W.Frag} {tg:Expr} (a it:Addr):Turn P w K tg (Itl K a) [it] it (fun i h=>h.IsListIter it a i) where
 mem:=by simp
 obj:=fun i h st b hb=>by
  have e:b=it:=by simpa using hb
  subst e
  obtain ⟨o,e,c,d⟩:=st
  exact ⟨o,e,fun v z=>by rw [d] at z; cases z⟩
 keep:=fun i h h' st k=>st.at fun o e=>k it (by simp) o e
 item:=by
  intro X hP hw hK hc i pins s σ H E I hf st hg
  subst hP hw hK
  obtain ⟨xs,x,hq,hx⟩:=hg
  obtain ⟨its,rv,p,hz⟩:=I.list hq
  obtain ⟨u,hu,ru⟩:=rv.get hx
  obtain ⟨f0,f1,f2,f3,f4,f5⟩:=hf it (by simp)
  refine wpAny_pyNext_list_item st p.isList (x:=u) (by simpa using hu) fun h' st' sb=>?_
  have I1:Inv X pins σ H { s with heap:=h' }:=I.turned (t':=s.toks) (fun b o hb e=>(sb.2 b hb).trans e) f0 f1 f3 f4 f5
  obtain ⟨o,e,c,d⟩:=id st'
  exact ⟨u,rfl,go_of (s:={ s with heap:=h' }) e c d (by decide) ⟨x,H,I1,ru,⟨rfl,fun ys hy=>by rw [I.list_inj hy hq]; exact hx⟩,st',fun b hb=>(hf b hb).1⟩⟩
 done:=by
  intro X hP hw hK hc i pins s σ H E I hf st hg
  subst hP hw hK
  obtain ⟨xs,hq,hx⟩:=hg
  obtain ⟨its,rv,p,hz⟩:=I.list hq
  obtain ⟨f0,f1,f2,f3,f4,f5⟩:=hf it (by simp)
  have hl:=rv.length
  exact wpAny_pyNext_list_end (I.ok.hd hc) st p.isList (by simp; omega) fun h' eb=>⟨rfl,I.turned (t':=s.toks) (fun b o hb e=>eb b o hb e) f0 f1 f3 f4 f5⟩
 self:=fun _ _ _ _ _ st h=>wpAny_pyIter_listiter st h
theorem turn_tuple {P:Program} {w:World} {K:PySem.W.Frag} {tg:Expr} (a it:Addr):Turn P w K tg (Itt K a) [it] it (fun i h=>h.IsTupleIter it a i) where
 mem:=by simp
 obj:=fun i h st b hb=>by
  have e:b=it:=by simpa using hb
  subst e
  obtain ⟨o,e,c,d⟩:=st
  exact ⟨o,e,fun v z=>by rw [d] at z; cases z⟩
 keep:=fun i h h' st k=>st.at fun o e=>k it (by simp) o e
 item:=by
  intro X hP hw hK hc i pins s σ H E I hf st hg
  subst hP hw hK
  obtain ⟨xs,x,hq,hx⟩:=hg
  obtain ⟨its,rv,p,hz⟩:=I.tuple hq
  obtain ⟨u,hu,ru⟩:=rv.get hx
  obtain ⟨f0,f1,f2,f3,f4,f5⟩:=hf it (by simp)
  refine wpAny_pyNext_tuple_item st (show s.heap.IsTuple a its.toArray from p) (x:=u) (by simpa using hu) fun h' st' sb=>?_
  have I1:Inv X pins σ H { s with heap:=h' }:=I.turned (t':=s.toks) (fun b o hb e=>(sb.2 b hb).trans e) f0 f1 f3 f4 f5
  obtain ⟨o,e,c,d⟩:=id st'
  exact ⟨u,rfl,go_of (s:={ s with heap:=h' }) e c d (by decide) ⟨x,H,I1,ru,⟨rfl,fun ys hy=>by rw [I.tuple_inj hy hq]; exact hx⟩,st',fun b hb=>(hf b hb).1⟩⟩
 done:=by
  intro X hP hw hK hc i pins s σ H E I hf st hg
  subst hP hw hK
  obtain ⟨xs,hq,hx⟩:=hg
  obtain ⟨its,rv,p,hz⟩:=I.tuple hq
  obtain ⟨f0,f1,f2,f3,f4,f5⟩:=hf it (by simp)
  have hl:=rv.length
  exact wpAny_pyNext_tuple_end (I.ok.hd hc) st (show s.heap.IsTuple a its.toArray from p) (by simp; omega) fun h' eb=>⟨rfl,I.turned (t':=s.toks) (fun b o hb e=>eb b o hb e) f0 f1 f3 f4 f5⟩
 self:=fun _ _ _ _ _ st h=>wpAny_pyIter_tupleiter st h
theorem turn_range {P:Program} {w:World} {K:PySem.W.Frag} {tg:Expr} (it:Addr) (lo:Int) (n:Nat):Turn P w K tg (Itr lo n) [it] it (fun i h=>IsRangeIter h it (lo+(i:Nat) * 1) ((n:Int) - (i:Nat)) 1) where
 mem:=by simp
 obj:=fun i h st b hb=>by
  have e:b=it:=by simpa using hb
  subst e
  exact ⟨_,st,fun v z=>by
   have z':Data.fields _=Data.cell v:=z
   cases z'⟩
 keep:=fun i h h' st k=>k it (by simp) _ st
 item:=by
  intro X hP hw hK hc i pins s σ H E I hf st hg
  subst hP hw hK
  obtain ⟨f0,f1,f2,f3,f4,f5⟩:=hf it (by simp)
  have W:=Walks.range (prog:=X.prog) (w:=X.w) (I.ok.hd hc) it lo 1 n
  refine W.item i s _ _ hg st fun v h' tk hv st' kk=>?_
  obtain ⟨t,rfl⟩:=hv
  have I1:Inv X pins σ H { s with heap:=h',toks:=tk }:=I.turned (fun b o hb e=>kk b o (by simpa using hb) e) f0 f1 f3 f4 f5
  refine ⟨_,rfl,go_of (s:={ s with heap:=h',toks:=tk }) (n:="range_iterator") st' rfl rfl (by decide) ⟨.int (lo+i),H,I1,⟨t,?_⟩,⟨rfl,rfl⟩,st',fun b hb=>(hf b hb).1⟩⟩
  rw [Int.mul_one]
 done:=by
  intro X hP hw hK hc i pins s σ H E I hf st hg
  subst hP hw hK
  obtain ⟨f0,f1,f2,f3,f4,f5⟩:=hf it (by simp)
  exact wpAny_pyNext_range_end (I.ok.hd hc) st (by have:n<=i:=hg; omega) fun h' eb=>⟨rfl,I.turned (t':=s.toks) (fun b o hb e=>eb b o hb e) f0 f1 f3 f4 f5⟩
 self:=fun _ _ _ _ _ st h=>wpAny_pyIter_rangeiter st h
section
variable {X:Cx} {tg:Expr}
def iList (K:PySem.W.Frag) (tl:TE):TI:=fun σ H R=>tl σ H fun x H1=>∃ a,x = .ref a/\(∃ xs,SqL K H1 a xs)/\R (Itl K a) H1
def iTup (K:PySem.W.Frag) (tl:TE):TI:=fun σ H R=>tl σ H fun x H1=>∃ a,x = .ref a/\(∃ xs,SqT K H1 a xs)/\R (Itt K a) H1
theorem pi_list {l:Expr} {tl:TE} (hl:PE X l tl):PI X tg l (iList X.K tl):=by
 intro pins s σ H R I h
 refine thn (hl pins s σ H _ I h) fun v s1 zq=>?_
 obtain ⟨x,H1,I1,r1,q1⟩:=zq
 obtain ⟨a,e,⟨xs,hq⟩,q⟩:=q1
 subst e
 cases r1
 obtain ⟨its,rv,p,hz⟩:=I1.list hq
 refine wpAny_pyIter_list p.isList ?_
 refine ⟨s1.heap.objs.size,[s1.heap.objs.size],_,_,H1,rfl,I1.kept (t':=s1.toks) fun b o e=>Heap.get?_push_of_some _ e,turn_list a _,⟨_,Heap.get?_push_size _ rfl,rfl,rfl⟩,fun b hb=>?_,q⟩
 have e:b=s1.heap.objs.size:=by simpa using hb
 subst e
 exact I1.fpOk (Nat.le_refl _) (I1.hok.fresh (Nat.le_refl _))
theorem pi_tup {l:Expr} {tl:TE} (hl:PE X l tl):PI X tg l (iTup X.K tl):=by
 intro pins s σ H R I h
 refine thn (hl pins s σ H _ I h) fun v s1 zq=>?_
 obtain ⟨x,H1,I1,r1,q1⟩:=zq
 obtain ⟨a,e,⟨xs,hq⟩,q⟩:=q1
 subst e
 cases r1
 obtain ⟨its,rv,p,hz⟩:=I1.tuple hq
 refine wpAny_pyIter_tuple (show s1.heap.IsTuple a its.toArray from p) ?_
 refine ⟨s1.heap.objs.size,[s1.heap.objs.size],_,_,H1,rfl,I1.kept (t':=s1.toks) fun b o e=>Heap.get?_push_of_some _ e,turn_tuple a _,⟨_,Heap.get?_push_size _ rfl,rfl,rfl⟩,fun b hb=>?_,q⟩
 have e:b=s1.heap.objs.size:=by simpa using hb
 subst e
 exact I1.fpOk (Nat.le_refl _) (I1.hok.fresh (Nat.le_refl _))
theorem range_it {pins:List (Addr×Obj)} {σ : St} {H:Hp} {s:Shared} {R:It->Hp->Prop} {E:Value->Shared->Prop} {lo hi:Int} {t u v:Tok} {tk:Nat} (I:Inv X pins σ H s) (h1 : -(2 ^ 62)<=lo) (h2:lo < 2 ^ 62) (h3 : -(2 ^ 62)<=hi) (h4:hi < 2 ^ 62)
  (q:R (Itr lo (hi - lo).toNat) H):wpAny (model X.prog X.w) X.A (pyIter (.ref s.heap.objs.size)) (PIE X pins σ tg R) E { s with heap:=s.heap.push { cls:=.type "range",data:=.fields #[.int lo t,.int hi u,.int 1 v] },toks:=tk }:=by
 refine wpAny_pyIter_range (IsRange.new ..) (small_one h1 h2 h3 h4) ?_
 have I1:Inv X pins σ H { s with heap:=s.heap.push { cls:=.type "range",data:=.fields #[.int lo t,.int hi u,.int 1 v] },toks:=tk }:=I.kept fun b o e=>Heap.get?_push_of_some _ e
 refine ⟨(s.heap.push { cls:=.type "range",data:=.fields #[.int lo t,.int hi u,.int 1 v] }).objs.size,[(s.heap.push { cls:=.type "range",data:=.fields #[.int lo t,.int hi u,.int 1 v] }).objs.size],_,_,H,rfl,
  I1.kept (t':=tk) fun b o e=>Heap.get?_push_of_some _ e,turn_range _ lo (hi - lo).toNat,?_,fun b hb=>?_,q⟩
 · have e1 : lo + ((0 : Nat) : Int) * 1 = lo := by simp
   have e2:(((hi - lo).toNat:Nat):Int) - ((0:Nat):Int)=Builtin.Range.rangeSize lo hi 1:=by rw [rangeSize_one]; split <;> omega
   show IsRangeIter _ _ (lo+((0:Nat):Int) * 1) ((((hi - lo).toNat:Nat):Int) - ((0:Nat):Int)) 1
   rw [e1,e2]
   exact Heap.get?_push_size _ rfl
 · have e : b = (s.heap.push { cls := .type "range", data := .fields #[.int lo t, .int hi u, .int 1 v] }).objs.size := by simpa using hb
   subst e
   exact I1.fpOk (Nat.le_refl _) (I1.hok.fresh (Nat.le_refl _))
def iRng1 (ta:TA):TI:=fun σ H R=>ta σ H fun vs H1=>∃ j:Int,vs=[.int j]/\-(2 ^ 62)<=j/\j < 2 ^ 62/\R (Itr 0 j.toNat) H1
theorem pi_range1 {a:Expr} {ta:TA} {p pos:Pos} (hg:Gl X "range") (hm:X.mg "range" = none) (ha:PA X [a] ta) (hs:starEach [a] X.env=[(false,eval a X.env)]:=by rfl):PI X tg (.Call (.Name "range" p) [a] [] pos) (iRng1 ta):=by
 intro pins s σ H R I h
 refine Call_ (vW I hg hm boot_range (PyProof.Rows.callWith_type1 (thn (ha pos pins s σ H _ I h) fun us s1 zq=>?_) hs rfl))
 obtain ⟨vs,H1,I1,r1,q1⟩:=zq
 obtain ⟨j,e,q1,q2,q⟩:=q1
 subst e
 cases r1 with
 | cons r rr =>
   cases rr
   obtain ⟨t,rfl⟩:=r
   exact call_range_1 (range_it I1 (by omega) (by omega) q1 q2 (by simpa using q))
def tFor (wi:TI) (g:TG) (tb:TS):TS:=fun D σ H=>wi σ H fun J H1=>∃ W:Nat->Nat->St->Hp->Prop,(∃ m,W 0 m σ H1)/\∀ i m σ H,W i m σ H →
 (J.stop i H/\D.nx σ H) \/ (J.go i H/\∃ N:St->Hp->Prop,(∀ σ' H',N σ' H'->∃ m',m' < m/\W (i+1) m' σ' H')/\∀ x H',J.yld i H x H'->g x σ H' fun σ2 H2=>tb { D with nx:=N,ct:=N,bk:=D.nx } σ2 H2)
noncomputable def pinsAt (fp:List Addr) (h:Heap):List (Addr×Obj):=fp.filterMap fun b=>(h.get? b).map fun o=>(b,o)
theorem yT {fp:List Addr} {h:Heap} {b:Addr} {o:Obj} (hb:b∈fp) (e:h.get? b=some o):(b,o)∈pinsAt fp h:=List.mem_filterMap.mpr ⟨b,hb,by rw [e]; rfl⟩
theorem of_pinsAt {fp:List Addr} {h:Heap} {p:Addr×Obj} (hp:p∈pinsAt fp h):p.1∈fp/\h.get? p.1=some p.2:=by
 obtain ⟨b,hb,e⟩:=List.mem_filterMap.mp hp
 cases q:h.get? b with
 | none=>rw [q] at e; cases e
 | some o =>
   rw [q] at e
   have e':(b,o)=p:=Option.some.inj e
   subst e'
   exact ⟨hb,q⟩
theorem Inv.pinned {pins:List (Addr×Obj)} {σ : St} {H:Hp} {s:Shared} {fp:List Addr} (I:Inv X pins σ H s) (hf:∀ b∈fp,FpOk X pins H b) (ho:∀ b∈fp,∃ o,s.heap.get? b=some o/\∀ v,o.data≠.cell v):Inv X (pins++pinsAt fp s.heap) σ H s :=
 I.pins_of fun p hp=>(List.mem_append.mp hp).elim (fun z=>I.pin p (List.mem_append_right _ z)) fun z=>by
  obtain ⟨hb,e⟩:=of_pinsAt z
  obtain ⟨f0,f1,f2,_⟩:=hf p.1 hb
  obtain ⟨o,e',d⟩:=ho p.1 hb
  rw [e] at e'; cases e'
  exact ⟨e,f0,f1,f2,d⟩
theorem Inv.unpinned {pins pl:List (Addr×Obj)} {σ : St} {H:Hp} {s:Shared} (I:Inv X (pins++pl) σ H s):Inv X pins σ H s:=I.pins_of fun p hp=>I.pin p (List.mem_append_right _ (List.mem_append_left _ hp))
theorem ps_for {iter:Expr} {body:List Stmt} {wi:TI} {g:TG} {tb:TS} {pos:Pos} (hp:PassesOwn (model X.prog X.w) X.A X.env X.xe) (hc:X.calm=true) (hi:PI X tg iter wi) (hg:PG X tg g) (hb:PSs X body tb)
  (hs:∀ x,foldedSetIterable iter X.env x=pure x:=by intro _; rfl):PS X (.For tg iter body [] pos) (tFor wi g tb):=by
 intro pins s σ H D I h
 refine wpAny_For (thn (hi pins s σ H _ I h) fun v s1 h1=>thn h1 fun itv s2 h2=>?_) hs
 obtain ⟨it,fp,tn,J,H2,e,I2,T,st2,f2,W,⟨m0,w0⟩,turn⟩:=h2
 subst e
 have stat:∀ {H':Hp},(∀ b∈fp,H' b=none)->∀ b∈fp,FpOk X pins H' b:=fun hn b hb=>⟨hn b hb,(f2 b hb).2⟩
 refine codeAny_forLoop_any (fun n s'=>∃ i σ' H',Inv X pins σ' H' s'/\tn i s'.heap/\(∀ b∈fp,H' b=none)/\W i n σ' H') ?_ m0 ⟨0,σ,H2,I2,st2,fun b hb=>(f2 b hb).1,w0⟩
 rintro n s3 ⟨i,σ3,H3,I3,st3,fr3,w3⟩
 rcases turn i n σ3 H3 w3 with ⟨stop,qn⟩ | ⟨go,N,hN,step⟩
 · refine wpAny_passesOwn hp (thn (T.done X rfl rfl rfl hc i pins s3 σ3 H3 X.xe I3 (stat fr3) st3 stop) fun r s4 zq => ?_)
   obtain ⟨hr,I4⟩:=zq
   subst hr
   exact wpAny_execs_nil ⟨σ3,H3,I4,qn⟩
 · refine wpAny_passesOwn hp (thn (T.item X rfl rfl rfl hc i pins s3 σ3 H3 X.xe I3 (stat fr3) st3 go) fun r s4 zq => ?_)
   obtain ⟨u,hr,h4⟩:=zq
   subst hr
   refine wpAny_passesOwn hp (thn h4 fun _ s5 zq=>?_)
   obtain ⟨x,H5,I5,r5,y5,st5,fr5⟩:=zq
   have I5':=I5.pinned (stat fr5) (T.obj _ _ st5)
   refine wpAny_passesOwn hp (thn (hg _ s5 σ3 H5 x u _ I5' r5 (step x H5 y5)) fun _ s6 zq=>?_)
   obtain ⟨σ6,H6,I6,q6⟩:=zq
   refine wpAny_passesOwn hp (thn (hb _ s6 σ6 H6 _ I6 q6) fun f s7 q7=>?_)
   have again:∀ {σ7:St} {H7:Hp},Inv X (pins++pinsAt fp s5.heap) σ7 H7 s7->N σ7 H7->∃ m,m < n/\∃ i σ' H',Inv X pins σ' H' s7/\tn i s7.heap/\(∀ b∈fp,H' b=none)/\W i m σ' H':=fun {σ7 H7} I7 n7=>by
    obtain ⟨m',hm,w7⟩:=hN σ7 H7 n7
    refine ⟨m',hm,i+1,σ7,H7,I7.unpinned,T.keep _ _ _ st5 fun b hb o e=>(I7.pin (b,o) (List.mem_append_right _ (List.mem_append_right _ (yT hb e)))).1,fun b hb=>?_,w7⟩
    obtain ⟨o,e,d⟩:=T.obj _ _ st5 b hb
    exact (I7.pin (b,o) (List.mem_append_right _ (List.mem_append_right _ (yT hb e)))).2.1
   cases f with
   | next=>obtain ⟨σ7,H7,I7,n7⟩:=q7; exact again I7 n7
   | cont=>obtain ⟨σ7,H7,I7,n7⟩:=q7; exact again I7 n7
   | brk=>obtain ⟨σ7,H7,I7,q7⟩:=q7; exact ⟨σ7,H7,I7.unpinned,q7⟩
   | ret v=>obtain ⟨x7,σ7,H7,I7,r7,q7⟩:=q7; exact ⟨x7,σ7,H7,I7.unpinned,r7,q7⟩
end
abbrev R2:=V->V->Hp->VK->Prop
def OpR (X:Cx) (f:Value->Value->Sem Value) (r:R2):Prop :=
 ∀ (pins:List (Addr×Obj)) (s:Shared) (σ : St) (H:Hp) (x y:V) (v u:Value) (Q:VK),Inv X pins σ H s->RelV x v->RelV y u->r x y H Q →
  wpAny (model X.prog X.w) X.A (f v u) (EP X pins σ Q) X.xe s
def UnR (X:Cx) (f:Value->Sem Value) (r:V->Hp->VK->Prop):Prop :=
 ∀ (pins:List (Addr×Obj)) (s:Shared) (σ : St) (H:Hp) (x:V) (v:Value) (Q:VK),Inv X pins σ H s->RelV x v->r x H Q →
  wpAny (model X.prog X.w) X.A (f v) (EP X pins σ Q) X.xe s
def CallR (X:Cx) (f:Value) (r:List V->Hp->VK->Prop):Prop :=
 ∀ (pins:List (Addr×Obj)) (s:Shared) (σ : St) (H:Hp) (xs:List V) (us:List Value) (Q:VK),Inv X pins σ H s->Vals xs us->r xs H Q →
  wpAny (model X.prog X.w) X.A (call f us) (EP X pins σ Q) X.xe s
def TruR (X:Cx) (r:V->Hp->(Bool->Hp->Prop)->Prop):Prop :=
 ∀ (pins:List (Addr×Obj)) (s:Shared) (σ : St) (H:Hp) (x:V) (v:Value) (Q:Bool->Hp->Prop),Inv X pins σ H s->RelV x v->r x H Q →
  wpAny (model X.prog X.w) X.A (truthy v) (TP X pins σ Q) X.xe s
def tOp (r:R2) (ta tb:TE):TE:=fun σ H Q=>ta σ H fun x H1=>tb σ H1 fun y H2=>r x y H2 Q
def tUn (r:V->Hp->VK->Prop) (ta:TE):TE:=fun σ H Q=>ta σ H fun x H1=>r x H1 Q
noncomputable def rI (C:Int->Int->Prop) (g:Int->Int->V):R2:=fun x y H Q=>∃ i j,x = .int i/\y = .int j/\C i j/\Q (g i j) H
noncomputable def rI0 (g:Int->Int->V):R2:=fun x y H Q=>∃ i j,x = .int i/\y = .int j/\Q (g i j) H
def rU (g:Int->V):V->Hp->VK->Prop:=fun x H Q=>∃ i,x = .int i/\Q (g i) H
section
variable {X:Cx} {a b c:Expr} {ta tb tc:TE} {pos:Pos}
theorem binT (ha:PE X a ta) (hb:PE X b tb) {pins:List (Addr×Obj)} {s:Shared} {σ : St} {H:Hp} {R:V->V->Hp->Prop} (I:Inv X pins σ H s)
  (h:ta σ H fun x H1=>tb σ H1 fun y H2=>R x y H2) {Q:Value->Shared->Prop} {f:Value->Value->Sem Value}
  (hf:∀ v u s2 x y H2,Inv X pins σ H2 s2->RelV x v->RelV y u->R x y H2->wpAny (model X.prog X.w) X.A (f v u) Q X.xe s2) :
  wpAny (model X.prog X.w) X.A (eval a X.env) (fun v s₁=>wpAny (model X.prog X.w) X.A (eval b X.env) (fun u s₂=>wpAny (model X.prog X.w) X.A (f v u) Q X.xe s₂) X.xe s₁) X.xe s:=by
 refine thn (ha pins s σ H _ I h) fun v s1 zq=>?_
 obtain ⟨x,H1,I1,r1,q1⟩:=zq
 refine thn (hb pins s1 σ H1 _ I1 q1) fun u s2 zq=>?_
 obtain ⟨y,H2,I2,r2,q2⟩:=zq
 exact hf v u s2 x y H2 I2 r1 r2 q2
theorem pe_op {op:Operator} {r:R2} (ho:OpR X (binaryOp op) r) (ha:PE X a ta) (hb:PE X b tb):PE X (.BinOp a op b pos) (tOp r ta tb):=by
 intro pins s σ H Q I h
 exact wpAny_BinOp (binT ha hb I h fun v u s2 x y H2 I2 rx ry q=>ho pins s2 σ H2 x y v u Q I2 rx ry q)
theorem pe_un {op:UnaryOp} {r:V->Hp->VK->Prop} (ho:UnR X (unaryOp op) r) (ha:PE X a ta):PE X (.UnaryOp op a pos) (tUn r ta):=by
 intro pins s σ H Q I h
 exact UnaryOp_ (thn (ha pins s σ H _ I h) fun v s1 ⟨x,H1,I1,r1,q1⟩=>ho pins s1 σ H1 x v Q I1 r1 q1)
theorem opI {f:Value->Value->Sem Value} {C:Int->Int->Prop} {g:Int->Int->Int}
  (rule:∀ (i j:Int) (t u:Tok) (s:Shared) (Q:Value->Shared->Prop) (E:Value->Shared->Prop),C i j->Q (.int (g i j) s.toks) { s with toks:=s.toks+1 }->wpAny (model X.prog X.w) X.A (f (.int i t) (.int j u)) Q E s) :
  OpR X f (rI C fun i j=>.int (g i j)):=by
 intro pins s σ H x y v u Q I rx ry h
 obtain ⟨i,j,rfl,rfl,hc,q⟩:=h
 obtain ⟨t,rfl⟩:=rx
 obtain ⟨t',rfl⟩:=ry
 exact rule i j t t' s _ _ hc ⟨.int (g i j),H,I.tok _,⟨_,rfl⟩,q⟩
theorem opI0 {f:Value->Value->Sem Value} {g:Int->Int->Int}
  (rule:∀ (i j:Int) (t u:Tok) (s:Shared) (Q:Value->Shared->Prop) (E:Value->Shared->Prop),Q (.int (g i j) s.toks) { s with toks:=s.toks+1 }->wpAny (model X.prog X.w) X.A (f (.int i t) (.int j u)) Q E s) :
  OpR X f (rI0 fun i j=>.int (g i j)):=by
 intro pins s σ H x y v u Q I rx ry h
 obtain ⟨i,j,rfl,rfl,q⟩:=h
 obtain ⟨t,rfl⟩:=rx
 obtain ⟨t',rfl⟩:=ry
 exact rule i j t t' s _ _ ⟨.int (g i j),H,I.tok _,⟨_,rfl⟩,q⟩
theorem opB0 {f:Value->Value->Sem Value} {g:Int->Int->Bool}
  (rule:∀ (i j:Int) (t u:Tok) (s:Shared) (Q:Value->Shared->Prop) (E:Value->Shared->Prop),Q (.bool (g i j)) s->wpAny (model X.prog X.w) X.A (f (.int i t) (.int j u)) Q E s) :
  OpR X f (rI0 fun i j=>.bl (g i j)):=by
 intro pins s σ H x y v u Q I rx ry h
 obtain ⟨i,j,rfl,rfl,q⟩:=h
 obtain ⟨t,rfl⟩:=rx
 obtain ⟨t',rfl⟩:=ry
 exact rule i j t t' s _ _ ⟨.bl (g i j),H,I,rfl,q⟩
theorem op_add:OpR X (binaryOp .Add) (rI0 fun i j=>.int (i+j)):=opI0 fun _ _ _ _ _ _ _ q=>add_int q
theorem op_mod:OpR X (binaryOp .Mod) (rI (fun _ j=>0 < j) fun i j=>.int (i % j)):=opI fun i j _ _ _ _ _ hc q=>by
 have h1:(0:Int) < j:=hc
 exact mod_int' (by omega) (by rw [Int.fmod_eq_emod_of_nonneg i (by omega)]; exact q)
theorem unI {f:Value->Sem Value} {g:Int->Int}
  (rule:∀ (i:Int) (t:Tok) (s:Shared) (Q:Value->Shared->Prop) (E:Value->Shared->Prop),Q (.int (g i) s.toks) { s with toks:=s.toks+1 }->wpAny (model X.prog X.w) X.A (f (.int i t)) Q E s) :
  UnR X f (rU fun i=>.int (g i)):=by
 intro pins s σ H x v Q I rx h
 obtain ⟨i,rfl,q⟩:=h
 obtain ⟨t,rfl⟩:=rx
 exact rule i t s _ _ ⟨.int (g i),H,I.tok _,⟨_,rfl⟩,q⟩
theorem un_neg:UnR X (unaryOp .USub) (rU fun i=>.int (-i)):=unI fun _ _ _ _ _ q=>neg_int q
end
section
variable {X:Cx} {a b c:Expr} {ta tb tc:TE} {pos:Pos}
theorem fin_bl {pins:List (Addr×Obj)} {σ : St} {H:Hp} {s:Shared} {Q:VK} {k k':Bool} (I:Inv X pins σ H s) (q:Q (.bl k) H) (e:k=k'):EP X pins σ Q (.bool k') s:=by
 subst e
 exact ⟨.bl k,H,I,rfl,q⟩
theorem op_lt:OpR X (compareOp .Lt) (rI0 fun i j=>.bl (decide (i < j))):=opB0 fun _ _ _ _ _ _ _ q=>lt_int q
theorem op_le:OpR X (compareOp .LtE) (rI0 fun i j=>.bl (decide (i<=j))):=opB0 fun _ _ _ _ _ _ _ q=>le_int q
theorem op_gt:OpR X (compareOp .Gt) (rI0 fun i j=>.bl (decide (j < i))):=opB0 fun _ _ _ _ _ _ _ q=>gt_int q
theorem op_in_str:OpR X (compareOp .In) (fun x y H Q=>∃ i j,x = .str i/\y = .str j/\Q (.bl (!(Builtin.Str.occurrences j i 0 j.length 1).isEmpty)) H):=by
 intro pins s σ H x y v u Q I rx ry h
 obtain ⟨i,j,rfl,rfl,q⟩:=h
 obtain ⟨t,rfl⟩:=rx
 obtain ⟨t',rfl⟩:=ry
 exact in_str (fin_bl I q rfl)
theorem op_isN:OpR X (compareOp .Is) (fun x y H Q=>y = .non/\Q (.bl (decide (x = .non))) H):=by
 intro pins s σ H x y v u Q I rx ry h
 obtain ⟨rfl,q⟩:=h
 cases ry
 refine is_none_gen (fin_bl I q ?_)
 cases x <;> first
  | (cases rx; rfl)
  | (obtain ⟨t,rfl⟩:=rx; rfl)
theorem op_notN:OpR X (compareOp .IsNot) (fun x y H Q=>y = .non/\Q (.bl (!decide (x = .non))) H):=by
 intro pins s σ H x y v u Q I rx ry h
 obtain ⟨rfl,q⟩:=h
 cases ry
 refine isnot_none_gen (fin_bl I q ?_)
 cases x <;> first
  | (cases rx; rfl)
  | (obtain ⟨t,rfl⟩:=rx; rfl)
theorem OpR.or {f:Value->Value->Sem Value} {r r':R2} (h:OpR X f r) (h':OpR X f r'):OpR X f (fun x y H Q=>r x y H Q \/ r' x y H Q):=by
 intro pins s σ H x y v u Q I rx ry q
 rcases q with q | q
 · exact h pins s σ H x y v u Q I rx ry q
 · exact h' pins s σ H x y v u Q I rx ry q
theorem nomark (b:Expr) {op:CmpOp} (h:op≠.In:=by decide) (h2:op≠.NotIn:=by decide):behindInMarks op b=false:=by
 have e1:(op == CmpOp.In)=false:=by cases op <;> first | rfl | exact absurd rfl h
 have e2:(op == CmpOp.NotIn)=false:=by cases op <;> first | rfl | exact absurd rfl h2
 cases b <;> simp [behindInMarks,e1,e2]
theorem pe_cmpR {op:CmpOp} {r:R2} (ho:OpR X (compareOp op) r) (ha:PE X a ta) (hb:PE X b tb) (hm:behindInMarks op b=false):PE X (.Compare a [op] [b] pos) (tOp r ta tb):=by
 intro pins s σ H Q I h
 exact wpAny_Compare1 (binT ha hb I h fun v u s2 x y H2 I2 rx ry q=>ho pins s2 σ H2 x y v u Q I2 rx ry q) hm
def tTest (t:TE):TT:=fun σ H Q=>t σ H fun x H'=>∃ k,x = .bl k/\Q k H'
theorem pt_cmpR {op:CmpOp} {r:R2} (ho:OpR X (compareOp op) r) (ha:PE X a ta) (hb:PE X b tb) (hm:behindInMarks op b=false):PT X (.Compare a [op] [b] pos) (tTest (tOp r ta tb)):=by
 intro pins s σ H Q I h
 refine wpAny_isTrue_Compare1 (thn (ha pins s σ H _ I h) fun v s1 ⟨x,H1,I1,r1,q1⟩=>thn (hb pins s1 σ H1 _ I1 q1) fun u s2 ⟨y,H2,I2,r2,q2⟩ =>
  thn (ho pins s2 σ H2 x y v u _ I2 r1 r2 q2) fun c s3 ⟨z,H3,I3,r3,k,e,q3⟩=>?_) hm
 subst e
 cases r3
 exact wpAny_truthy_bool ⟨H3,I3,q3⟩
def TruV (K:PySem.W.Frag) (x:V) (H:Hp) (k:Bool):Prop :=
 match x with
 | .non=>k=false
 | .bl b=>k=b
 | .int i=>k=(i != 0)
 | .str y=>y.length<=sizeLine/\k=((y.length:Int) != 0)
 | .byt y=>y.size<=sizeLine/\k=((y.size:Int) != 0)
 | .ref p=>(∃ xs,SqL K H p xs/\k = !xs.isEmpty) \/ (∃ xs,SqT K H p xs/\k = !xs.isEmpty) \/ ∃ kvs,H p=some (.dK kvs)/\k = !kvs.isEmpty
 | _=>False
theorem isEmpty_kv {κ : Type} {kvs:List (κ×V)} {vs:List (κ×Value)} (r:KV kvs vs):(!vs.isEmpty) = !kvs.isEmpty:=by
 cases r <;> rfl
theorem isEmpty_of {xs:List V} {its:List Value} (r:Vals xs its):(!its.toArray.isEmpty) = !xs.isEmpty:=by
 cases r <;> simp
theorem line63:(sizeLine:Nat) < 2 ^ 63:=by rw [sizeLine_eq]; decide
theorem tru_ok:TruR X (fun x H Q=>∃ k,TruV X.K x H k/\Q k H):=by
 intro pins s σ H x v Q I rx h
 obtain ⟨k,e,q⟩:=h
 have hl:=line63
 have hs:sizeLine=16777216:=sizeLine_eq
 cases x with
 | non =>
   cases rx
   have e':k=false:=e
   subst e'
   exact truthy_none ⟨H,I,q⟩
 | bl b =>
   cases rx
   have e':k=b:=e
   subst e'
   exact wpAny_truthy_bool ⟨H,I,q⟩
 | int i =>
   obtain ⟨t,rfl⟩:=rx
   have e':k=(i != 0):=e
   subst e'
   exact PySem.P.truthy_int ⟨H,I,q⟩
 | str y =>
   obtain ⟨t,rfl⟩:=rx
   obtain ⟨hy,e'⟩:y.length<=sizeLine/\k=((y.length:Int) != 0):=e
   subst e'
   exact PySem.P.truthy_str (by omega) ⟨H,I.tok _,q⟩
 | byt y =>
   obtain ⟨t,rfl⟩:=rx
   obtain ⟨hy,e'⟩:y.size<=sizeLine/\k=((y.size:Int) != 0):=e
   subst e'
   exact PySem.W.truthy_bytes (by omega) ⟨H,I.tok _,q⟩
 | ref p =>
   cases rx
   have e':(∃ xs,SqL X.K H p xs/\k = !xs.isEmpty) \/ (∃ xs,SqT X.K H p xs/\k = !xs.isEmpty) \/ ∃ kvs,H p=some (.dK kvs)/\k = !kvs.isEmpty:=e
   rcases e' with ⟨xs,hx,e'⟩ | ⟨xs,hx,e'⟩ | ⟨kvs,hx,e'⟩
   · subst e'
     obtain ⟨its,r,pl,hz⟩:=I.list hx
     have hlen:=r.length
     exact wpAny_truthy_list pl.isList (by simp only [List.size_toArray]; omega) ⟨H,I.tok _,by rw [isEmpty_of r]; exact q⟩
   · subst e'
     obtain ⟨its,r,pl,hz⟩:=I.tuple hx
     have hlen:=r.length
     exact truthy_tuple pl (by simp only [List.size_toArray]; omega) ⟨H,I.tok _,by rw [isEmpty_of r]; exact q⟩
   · subst e'
     obtain ⟨hz,hS,vs,r,m⟩:kvs.length<=sizeLine/\(p == sysModules)=false/\∃ vs,KV kvs vs/\s.heap.DictOf (mixKind X.prog X.w) p vs:=I.hok p _ hx
     have hlen:kvs.length=vs.length:=Paired.length r
     exact wpAny_truthy_dict hS m (by omega) ⟨H,I.tok _,by rw [isEmpty_kv r]; exact q⟩
 | _=>exact (show False from e).elim
theorem pt_truth (ha:PE X a ta) (he:∀ whole,isTrue a X.env whole=(do let v <- whole; standAt a.pos; holding [v] (truthy v))) :
  PT X a (fun σ H Q=>ta σ H fun x H'=>∃ k,TruV X.K x H' k/\Q k H'):=by
 intro pins s σ H Q I h
 exact isTrue_plain (thn (ha pins s σ H _ I h) fun v s1 ⟨x,H1,I1,r1,q1⟩=>tru_ok pins s1 σ H1 x v Q I1 r1 q1) (he _)
theorem op_add_str:OpR X (binaryOp .Add) (fun x y H Q=>∃ i j,x = .str i/\y = .str j/\i.length+j.length<=sizeLine/\Q (.str (i++j)) H):=by
 intro pins s σ H x y v u Q I rx ry h
 obtain ⟨i,j,rfl,rfl,hz,q⟩:=h
 obtain ⟨t,rfl⟩:=rx
 obtain ⟨t',rfl⟩:=ry
 exact add_str (fun t' tk=>⟨.str (i++j),H,I.tok _,⟨_,rfl⟩,q⟩) hz
theorem vals1 {x:V} {us:List Value} (r:Vals [x] us):∃ u,us=[u]/\RelV x u:=by
 cases r with
 | cons r1 r2=>cases r2; exact ⟨_,rfl,r1⟩
theorem vals2 {x y:V} {us:List Value} (r:Vals [x,y] us):∃ u w',us=[u,w']/\RelV x u/\RelV y w':=by
 cases r with
 | cons r1 r2 =>
   cases r2 with
   | cons r3 r4=>cases r4; exact ⟨_,_,rfl,r1,r3⟩
theorem call_max2 (hc:X.calm=true):CallR X (.builtin "max") (fun xs H Q=>∃ i j,xs=[.int i,.int j]/\Q (.int (if j > i then j else i)) H):=by
 intro pins s σ H xs us Q I r h
 obtain ⟨i,j,rfl,q⟩:=h
 obtain ⟨u,w',rfl,⟨t,rfl⟩,⟨t',rfl⟩⟩:=vals2 r
 refine max_two_ints (I.ok.hd hc) fun h' tk k=>⟨_,H,I.kept k,?_,q⟩
 by_cases hj:j > i
 · rw [if_pos hj,if_pos hj]; exact ⟨_,rfl⟩
 · rw [if_neg hj,if_neg hj]; exact ⟨_,rfl⟩
theorem call_min2 (hc:X.calm=true):CallR X (.builtin "min") (fun xs H Q=>∃ i j,xs=[.int i,.int j]/\Q (.int (if j < i then j else i)) H):=by
 intro pins s σ H xs us Q I r h
 obtain ⟨i,j,rfl,q⟩:=h
 obtain ⟨u,w',rfl,⟨t,rfl⟩,⟨t',rfl⟩⟩:=vals2 r
 refine min_two_ints (I.ok.hd hc) fun h' tk k=>⟨_,H,I.kept k,?_,q⟩
 by_cases hj:j < i
 · rw [if_pos hj,if_pos hj]; exact ⟨_,rfl⟩
 · rw [if_neg hj,if_neg hj]; exact ⟨_,rfl⟩
theorem call_int1:CallR X (.type "int") (fun xs H Q=>(∃ i,xs=[.int i]/\Q (.int i) H) \/ ∃ k,xs=[.bl k]/\Q (.int (if k then 1 else 0)) H):=by
 intro pins s σ H xs us Q I r h
 rcases h with ⟨i,rfl,q⟩ | ⟨k,rfl,q⟩
 · obtain ⟨u, rfl, t, rfl⟩ := vals1 r
   exact call_int_int ⟨.int i,H,I,⟨_,rfl⟩,q⟩
 · obtain ⟨u, rfl, r1⟩ := vals1 r
   cases r1
   exact call_int_bool ⟨.int (if k then 1 else 0),H,I.tok _,⟨_,rfl⟩,q⟩
end
structure ObjM (h:Heap) (x dx C:Addr) (mA:Str->Option Value):Prop where
 obj:h.get? x=some (PySem.W.instObj C dx)
 ns:h.Ns1 dx mA
 ne:dx≠x
theorem lookIn_ns {h:Heap} {dx:Addr} {mA:Str->Option Value} (n:h.Ns1 dx mA):∃ od,h.get? dx=some od/\∀ name,PySem.W.lookIn name od=some (mA name):=by
 obtain ⟨o,es,ep,ho,hd,hk,_,hm⟩:=n
 refine ⟨o,ho,fun name=>?_⟩
 have e:=hm name
 unfold nsFind findBy at e
 rw [<- Array.find?_toList] at e
 unfold PySem.W.lookIn
 rw [hd]
 dsimp only
 split
 · rename_i y q
   rw [q] at e
   exact congrArg some e
 · rename_i q
   rw [q] at e
   have a:es.toList.any (·.refKey)=false:=by
    rw [List.any_eq_false]
    intro y hy
    obtain ⟨z,t,hkey⟩:=hk y (Array.mem_toList_iff.mp hy)
    simp [DictEntry.refKey,hkey]
   have a' : ¬ es.toList.any (·.refKey)=true:=by rw [a]; exact Bool.false_ne_true
   rw [if_neg a']
   exact congrArg some e
theorem ObjM.look {h:Heap} {x dx C:Addr} {mA:Str->Option Value} (I:ObjM h x dx C mA):∃ od,PySem.W.InstAt h x (PySem.W.instObj C dx) C (some od)/\∀ name,PySem.W.lookIn name od=some (mA name) :=
 let ⟨od,ho,hl⟩:=lookIn_ns I.ns
 ⟨od,⟨I.obj,rfl,rfl,ho⟩,hl⟩
section
variable {prog:Program} {w:World} {A:Around} {E:Value->Shared->Prop} {s:Shared} {K:PySem.W.Frag} {x dx C f:Addr} {mA:Str->Option Value} {name:Str} {v:Value}
theorem get_map {expr:Bool} {Q:Value->Shared->Prop} (X:K.In s.heap) (I:ObjM s.heap x dx C mA) (hg:PySem.W.plainGet K C name=true) (hh:PySem.W.hasDictIn K C=true)
  (ha:PySem.W.findIn K (.ref C) name=some none) (hv:mA name=some v) (hv':PySem.W.handedIn v=true) (h:Q v { s with toks:=s.toks+1 }) :
  wpAny (model prog w) A (getAttr (.ref x) name expr) Q E s:=by
 obtain ⟨od,J,hl⟩:=I.look
 exact PySem.W.get_value X J (PySem.W.plainGet_of hg).1 (PySem.W.findObj_own hh ha rfl (by rw [hl,hv])) hv' h
theorem get_meth {pl:Sem Bool} {Q:Value×List Value->Shared->Prop} (X:K.In s.heap) (I:ObjM s.heap x dx C mA) (hg:PySem.W.plainGet K C name=true)
  (hf:PySem.W.findIn K (.ref C) name=some (some (.ref f))) (ht:PySem.W.isFn K (.ref f)=true) (hv:mA name=none) (h:Q (.ref f,[.ref x]) s) :
  wpAny (model prog w) A (getMethod (.ref x) name pl) Q E s:=by
 obtain ⟨od,J,hl⟩:=I.look
 exact PySem.W.method_fn X J (PySem.W.plainGet_of hg).1 (PySem.W.plainGet_of hg).2 hf (beq_iff_eq.mp ht) (by show (PySem.W.lookIn name od).map (·.isSome)=some false; rw [hl,hv]; rfl) h
theorem set_map {ns:List Str} {Q:Unit->Shared->Prop} (X:K.In s.heap) (I:ObjM s.heap x dx C mA)
  (hs:PySem.W.findIn K (.ref C) "__setattr__" = some (some (.builtin "object.__setattr__"))) (hp:PySem.W.plainOver K C=true) (ht:PySem.W.takerIn K C name=some none) (hh:PySem.W.hasDictIn K C=true)
  (hw:PySem.Within mA ns) (hsz:ns.length<=sizeLine)
  (h:∀ h',ObjM h' x dx C (fun y=>if y=name then some v else mA y)->Heap.SameBut dx s.heap h'->Q () { s with heap:=h',toks:=s.toks+2 }) :
  wpAny (model prog w) A (setAttr (.ref x) name v) Q E s:=by
 obtain ⟨od,J,hl⟩:=I.look
 refine PySem.W.set_plain X J hs (PySem.W.osa_open (s:={ s with toks:=s.toks+1 }) (r:=none) X J hp ht fun b=>?_)
 obtain ⟨cd,hc,hd'⟩:=PySem.W.any_some hh
 have hx:s.heap.get? x=some ⟨.ref C,some dx,.plain,#[]⟩:=I.obj
 refine wpAny_bind (wpAny_pure (wpAny_bind (wpAny_bind (wpAny_loadPart hx (wpAny_bind (PySem.W.Looks.here (s:={ s with toks:=s.toks+1 }) (PySem.W.looks_clsIn X hc) ?_))))))
 rw [hd']
 refine wpAny_pure (a:=some dx) (wpAny_bind (wpAny_pure (wpAny_bind ?_)))
 refine wpAny_nsSet1 (s:={ s with toks:=s.toks+1 }) I.ns fun h' hn2 hs2=>?_
 obtain ⟨oD,esD,epD,hoD,hdD,hcD⟩:=hn2.count (PySem.Within.cons name v hw)
 refine wpAny_bind (wpAny_lookBehind hoD (by rw [hdD]; exact pastItsLine_dict (Nat.le_trans hcD (by rw [List.length_cons]; omega))) ?_)
 exact wpAny_pure (h _ ⟨(hs2.2 _ (Ne.symm I.ne)).trans I.obj,hn2,I.ne⟩ hs2)
theorem make_map {R:Result->Shared->Prop} {vs:List Value} {kw:List (Str×Value)} (X:K.In s.heap) (hm:PySem.W.makesIn K C=true)
  (hi:PySem.W.findIn K (.ref C) "__init__" = some (some (.ref f))) (hf:PySem.W.typeIn K (.ref f)=some (.type "function"))
  (h:codeAny (model prog w) (A.under (.builtin "type.__call__" ⟨.ref C::vs,kw⟩)) (.call (.ref f) ⟨.ref (s.heap.objs.size+1)::vs,kw⟩) (PySem.W.InitBack (s.heap.objs.size+1) R)
    { s with heap:=(s.heap.push PySem.W.emptyDict).push (PySem.W.instObj C s.heap.objs.size) }) :
  codeAny (model prog w) A (.call (.ref C) ⟨vs,kw⟩) R s:=by
 obtain ⟨hh,g,d,t,os⟩:=s
 exact PySem.W.make_core (PySem.W.makes_of X hm) (PySem.W.looks_findIn X hi) (fun self=>PySem.W.bind_fn X self hf) (.inl rfl) h
end
noncomputable def putF (f:Str) (v:V):List (Str×V)->List (Str×V)
 | []=>[(f,v)]
 | (g,x)::r=>if g=f then (g,v)::r else (g,x)::putF f v r
theorem lookup_putF (f g:Str) (v:V):∀ fs:List (Str×V),(putF f v fs).lookup g=if g=f then some v else fs.lookup g
 | [] => by
   show List.lookup g [(f,v)]=_
   by_cases h:g=f
   · have hb : (g == f) = true := beq_iff_eq.mpr h
     simp only [List.lookup,hb,if_pos h]
   · have hb : (g == f) = false := beq_eq_false_iff_ne.mpr h
     simp only [List.lookup,hb,if_neg h]
 | (k, x) :: r => by
   have ih:=lookup_putF f g v r
   rw [show putF f v ((k,x)::r)=(if k=f then (k,v)::r else (k,x)::putF f v r) from rfl]
   by_cases hk:k=f
   · rw [if_pos hk]
     by_cases h:g=k
     · have hb : (g == k) = true := beq_iff_eq.mpr h
       simp only [List.lookup,hb,if_pos (h.trans hk)]
     · have hb : (g == k) = false := beq_eq_false_iff_ne.mpr h
       simp only [List.lookup,hb,if_neg (fun e:g=f=>h (e.trans hk.symm))]
   · rw [if_neg hk]
     by_cases h:g=k
     · have hb : (g == k) = true := beq_iff_eq.mpr h
       simp only [List.lookup,hb,if_neg (fun e:g=f=>hk (h.symm.trans e))]
     · have hb : (g == k) = false := beq_eq_false_iff_ne.mpr h
       simp only [List.lookup,hb]
       exact ih
theorem vK (f:Str) (v:V):∀ fs:List (Str×V),f∈(putF f v fs).map (·.1)/\∀ g,g∈fs.map (·.1)->g∈(putF f v fs).map (·.1)
 | []=>⟨by simp [putF],fun g h=>by simp at h⟩
 | (k, x) :: r => by
   obtain ⟨i1,i2⟩:=vK f v r
   rw [show putF f v ((k,x)::r)=(if k=f then (k,v)::r else (k,x)::putF f v r) from rfl]
   by_cases hk:k=f
   · rw [if_pos hk]
     subst hk
     exact ⟨by simp,fun g h=>by simpa using h⟩
   · rw [if_neg hk]
     refine ⟨?_,fun g h=>?_⟩
     · rw [List.map_cons]
       exact List.mem_cons_of_mem _ i1
     · rw [List.map_cons] at h ⊢
       rcases List.mem_cons.mp h with e | e
       · exact List.mem_cons.mpr (.inl e)
       · exact List.mem_cons_of_mem _ (i2 g e)
theorem length_putF (f:Str) (v:V):∀ fs:List (Str×V),(putF f v fs).length<=fs.length+1
 | []=>by simp [putF]
 | (k, x) :: r => by
   have ih:=length_putF f v r
   rw [show putF f v ((k,x)::r)=(if k=f then (k,v)::r else (k,x)::putF f v r) from rfl]
   by_cases hk:k=f
   · rw [if_pos hk,List.length_cons,List.length_cons]; omega
   · rw [if_neg hk,List.length_cons,List.length_cons]; omega
theorem RelO.some_of {v:V} {o:Option Value} (r:RelO (some v) o):∃ u,o=some u/\RelV v u:=by
 cases o with
 | none=>exact (show False from r).elim
 | some u=>exact ⟨u,rfl,r⟩
theorem RelO.none_of {o:Option Value} (r:RelO none o):o=none:=by
 cases o with
 | none=>rfl
 | some u=>exact (show False from r).elim
theorem handed_of {v:V} {u:Value} (r:RelV v u):PySem.W.handedIn u=true:=by
 cases v with
 | non=>cases (show u=Value.none from r); rfl
 | bl b=>cases (show u=Value.bool b from r); rfl
 | int i=>obtain ⟨t,e⟩:=(show ∃ t,u=Value.int i t from r); cases e; rfl
 | str x=>obtain ⟨t,e⟩:=(show ∃ t,u=Value.str x t from r); cases e; rfl
 | byt b=>obtain ⟨t,e⟩:=(show ∃ t,u=Value.bytes b t from r); cases e; rfl
 | flt b=>obtain ⟨t,e⟩:=(show ∃ t,u=Value.float b t from r); cases e; rfl
 | ref a=>cases (show u=Value.ref a from r); rfl
 | ty n=>cases (show u=Value.type n from r); rfl
section
variable {P:Program} {w:World} {H H':Hp} {h h':Heap} {a C dx:Addr} {fs fs':List (Str×V)}
theorem ins_get (hok:HOk P w H h) (e:H a=some (.ins C dx fs)):∃ mA,ObjM h a dx C mA/\(∀ f,RelO (fs.lookup f) (mA f))/\PySem.Within mA (fs.map (·.1))/\fs.length<=1000/\H dx=some (.own a):=by
 obtain ⟨d,z,ne,ob,mA,n,r,q⟩:=(show ObjOk P w H h a (.ins C dx fs) from hok a _ e)
 exact ⟨mA,⟨ob,n,ne⟩,r,q,z,d⟩
end
structure Cls (K:PySem.W.Frag) (C:Addr):Prop where
 pg:PySem.W.plainGet K C Str.empty=true
 hd:PySem.W.hasDictIn K C=true
 po:PySem.W.plainOver K C=true
 sa:PySem.W.findIn K (.ref C) "__setattr__" = some (some (.builtin "object.__setattr__"))
theorem Cls.get {K:PySem.W.Frag} {C:Addr} (c:Cls K C) (f:Str):PySem.W.plainGet K C f=true:=c.pg
def NoAttr (K:PySem.W.Frag) (C:Addr) (f:Str):Prop:=PySem.W.findIn K (.ref C) f=some none
theorem NoAttr.taker {K:PySem.W.Frag} {C:Addr} {f:Str} (n:NoAttr K C f):PySem.W.takerIn K C f=some none:=by
 unfold PySem.W.takerIn
 rw [show PySem.W.findIn K (.ref C) f=some none from n]
 rfl
structure Meth (K:PySem.W.Frag) (C:Addr) (m:Str) (f:Addr):Prop where
 at_:PySem.W.findIn K (.ref C) m=some (some (.ref f))
 fn:PySem.W.isFn K (.ref f)=true
 kp:PySem.W.keepIn K (.ref f)=true
section
variable {X:Cx} {pins:List (Addr×Obj)} {σ : St} {H:Hp} {s:Shared} {a C dx:Addr} {fs:List (Str×V)} {f:Str} {v:V} {A:Around} {E:Value->Shared->Prop}
theorem getattr_ok {b:Bool} {Q:Value->Shared->Prop} (I:Inv X pins σ H s) (e:H a=some (.ins C dx fs)) (c:Cls X.K C) (n:NoAttr X.K C f) (l:fs.lookup f=some v)
  (h:∀ u s',Inv X pins σ H s'->RelV v u->Q u s'):wpAny (model X.prog X.w) A (getAttr (.ref a) f b) Q E s:=by
 obtain ⟨mA,O,r,_,_,_⟩:=ins_get I.hok e
 obtain ⟨u,hu,ru⟩:=RelO.some_of (v:=v) (o:=mA f) (by rw [<- l]; exact r f)
 exact get_map I.kIn O (c.get f) c.hd n hu (handed_of ru) (h u _ (I.tok _) ru)
theorem getmeth_ok {m:Str} {g:Addr} {pl:Sem Bool} {Q:Value×List Value->Shared->Prop} (I:Inv X pins σ H s) (e:H a=some (.ins C dx fs)) (c:Cls X.K C) (k:Meth X.K C m g) (l:fs.lookup m=none)
  (h:Q (.ref g,[.ref a]) s):wpAny (model X.prog X.w) A (getMethod (.ref a) m pl) Q E s:=by
 obtain ⟨mA,O,r,_,_,_⟩:=ins_get I.hok e
 have hn:mA m=none:=RelO.none_of (by rw [<- l]; exact r m)
 exact get_meth I.kIn O (c.get m) k.at_ k.fn hn h
theorem setattr_ok {y:V} {u:Value} {Q:Unit->Shared->Prop} (I:Inv X pins σ H s) (e:H a=some (.ins C dx fs)) (c:Cls X.K C) (n:NoAttr X.K C f) (hl:fs.length < 1000) (ry:RelV y u)
  (h:∀ s',Inv X pins σ (upd H a (.ins C dx (putF f y fs))) s'->Q () s'):wpAny (model X.prog X.w) A (setAttr (.ref a) f u) Q E s:=by
 obtain ⟨mA,O,r,wi,_,ho⟩:=ins_get I.hok e
 have hz:(fs.map (·.1)).length<=sizeLine:=by rw [List.length_map,sizeLine_eq]; omega
 refine set_map I.kIn O c.sa c.po n.taker c.hd wi hz fun h' O' sb=>h _ ?_
 have hd:∃ o,h'.get? dx=some o:=let ⟨o,_,_,e',_⟩:=O'.ns; ⟨o,e'⟩
 refine I.write (x:=a) (e:=dx) (by rw [e]; exact True.intro) (.inr ho) (fun b q hb z=>(sb.2 b hb).trans z) hd ?_
 refine ⟨by rw [upd_ne O.ne]; exact ho,?_,O.ne,O'.obj,_,O'.ns,fun g=>?_,fun g hg=>?_⟩
 · have:=length_putF f y fs; omega
 · show RelO ((putF f y fs).lookup g) (if g = f then some u else mA g)
   rw [lookup_putF]
   by_cases q:g=f
   · rw [if_pos q,if_pos q]; exact ry
   · rw [if_neg q,if_neg q]; exact r g
 · by_cases q : g = f
   · rw [q]; exact (vK f y fs).1
   · refine (vK f y fs).2 g (wi g fun z => hg ?_)
     show (if g=f then some u else mA g)=none
     rw [if_neg q]; exact z
theorem Inv.made (I:Inv X pins σ H s):Inv X pins σ (upd (upd H s.heap.objs.size (.own (s.heap.objs.size+1))) (s.heap.objs.size+1) (.ins C s.heap.objs.size []))
  { s with heap:=(s.heap.push PySem.W.emptyDict).push (PySem.W.instObj C s.heap.objs.size) }:=by
 have e1:(s.heap.push PySem.W.emptyDict).get? s.heap.objs.size=some PySem.W.emptyDict:=Heap.get?_push_size s.heap rfl
 have e2:((s.heap.push PySem.W.emptyDict).push (PySem.W.instObj C s.heap.objs.size)).get? (s.heap.objs.size+1)=some (PySem.W.instObj C s.heap.objs.size):=by
  have:=Heap.get?_push_size (s.heap.push PySem.W.emptyDict) (o:=PySem.W.instObj C s.heap.objs.size) rfl
  rwa [Heap.size_push] at this
 have e3:(s.heap.push PySem.W.emptyDict).Ns s.heap.objs.size (fun _=>none):=⟨PySem.W.emptyDict,#[],_,e1,rfl,(fun e he=>absurd he (by simp)),fun _=>rfl⟩
 have I1:=I.laid (a:=s.heap.objs.size) (o:=.own (s.heap.objs.size+1)) (h':=s.heap.push PySem.W.emptyDict) (t':=s.toks) (fun b u q=>Heap.get?_push_of_some _ q) (Nat.le_refl _) ⟨_,e1⟩
 refine I1.laid (a:=s.heap.objs.size+1) (o:=.ins C s.heap.objs.size []) (t':=s.toks) (fun b u q=>Heap.get?_push_of_some _ q) (Nat.le_of_eq (Heap.size_push _ _)) ?_
 have ne:s.heap.objs.size≠s.heap.objs.size+1:=Nat.ne_of_lt (Nat.lt_succ_self _)
 refine ⟨by rw [upd_ne ne,upd_same],Nat.zero_le _,ne,e2,fun _=>none,(Heap.Ns1.of_empty e3).at fun o q=>Heap.get?_push_of_some _ q,fun _=>True.intro,fun y hy=>absurd rfl hy⟩
theorem attr_of {prog:Program} {w:World} {env:Env} {e:Expr} {f:Str} {pos:Pos} {s:Shared} {Q:Value->Shared->Prop} (hb:attributeBase e f env (eval e env)=eval e env)
  (h:wpAny (model prog w) A (eval e env) (fun o s₁=>wpAny (model prog w) A (getAttr o f true) Q E s₁) E s):wpAny (model prog w) A (eval (.Attribute e f pos) env) Q E s :=
 Attribute_any_ h (by rw [arm_eval_Attribute,hb])
end
def tFld (K:PySem.W.Frag) (ta:TE) (f:Str):TE:=fun σ H Q=>ta σ H fun x H1=>∃ a C dx fs v,x = .ref a/\H1 a=some (.ins C dx fs)/\Cls K C/\NoAttr K C f/\fs.lookup f=some v/\Q v H1
def sFld (K:PySem.W.Frag) (ta tv:TE) (f:Str):TS:=fun D σ H=>tv σ H fun y H1=>ta σ H1 fun x H2=>∃ a C dx fs,x = .ref a/\H2 a=some (.ins C dx fs)/\Cls K C/\NoAttr K C f/\fs.length < 1000 ∧
 D.nx σ (upd H2 a (.ins C dx (putF f y fs)))
section
variable {X:Cx} {o e value:Expr} {f:Str} {pos pos' tpos:Pos} {ta tv:TE}
theorem pe_fld (he:PE X e ta) (hb:attributeBase e f X.env (eval e X.env)=eval e X.env):PE X (.Attribute e f pos) (tFld X.K ta f):=by
 intro pins s σ H Q I h
 refine attr_of hb (thn (he pins s σ H _ I h) fun u s1 zq=>?_)
 obtain ⟨x,H1,I1,rx,a,C,dx,fs,v,ex,ea,c,n,l,q⟩:=zq
 subst ex
 obtain rfl:u=Value.ref a:=rx
 exact getattr_ok I1 ea c n l fun u' s2 I2 ru=>⟨v,H1,I2,ru,q⟩
theorem ps_fld (ha:PE X o ta) (hv:PE X value tv) (hs:swapsWith value (some (.Attribute o f pos')) pos.line X.env=pure false):PS X (.Assign [.Attribute o f pos'] value pos) (sFld X.K ta tv f):=by
 intro pins s σ H D I h
 refine plainObj_wpAny_Assign_Attribute (thn (hv pins s σ H _ I h) fun u s1 ⟨y,H1,I1,ry,q⟩=>thn (ha pins s1 σ H1 _ I1 q) fun ov s2 zq=>?_) hs
 obtain ⟨x,H2,I2,rx,a,C,dx,fs,ex,ea,c,n,l,q2⟩:=zq
 subst ex
 obtain rfl:ov=Value.ref a:=rx
 exact setattr_ok I2 ea c n l ry fun s3 I3=>⟨σ,_,I3,q2⟩
end
section
variable {X:Cx} {pins:List (Addr×Obj)} {σ : St} {H:Hp} {s:Shared} {A:Around} {E:Value->Shared->Prop} {Q:Value->Shared->Prop} {c:Value} {b:Bool}
inductive TyOf (K:PySem.W.Frag) (H:Hp):V->Value->Prop where
 | non:TyOf K H .non (.type "NoneType")
 | bl (x:Bool):TyOf K H (.bl x) (.type "bool")
 | int (i:Int):TyOf K H (.int i) (.type "int")
 | str (x:Str):TyOf K H (.str x) (.type "str")
 | flt (x:UInt64):TyOf K H (.flt x) (.type "float")
 | lst {a:Addr} {xs:List V} (e:H a=some (.lst xs)):TyOf K H (.ref a) (.type "list")
 | frz {a:Addr} {o:Obj} {xs:List V} (e:H a=some (.frz o (.lst xs))):TyOf K H (.ref a) (.type "list")
 | tup {a:Addr} {xs:List V} (e:H a=some (.tup xs)):TyOf K H (.ref a) (.type "tuple")
 | dK {a:Addr} {kvs:List (Key×V)} (e:H a=some (.dK kvs)):TyOf K H (.ref a) (.type "dict")
 | dT {a:Addr} {kvs:List (List Key×V)} (e:H a=some (.dT kvs)):TyOf K H (.ref a) (.type "dict")
 | ins {a C dx:Addr} {fs:List (Str×V)} (e:H a=some (.ins C dx fs)) (cl:Cls K C) (ha:PySem.W.findIn K (.ref C) "__class__" = some (some (.builtin "object.__class__")))
    (hn:PySem.W.specialIn K (.builtin "object.__class__") "__get__" = some (some (.builtin "getset_descriptor.__get__"))) (htk:PySem.W.takesIn K (.builtin "object.__class__")=some true)
    (hm:PySem.W.mroIn K C (.type "object")=some true):TyOf K H (.ref a) (.ref C)
theorem isinst_ok {x:V} {u t:Value} (I:Inv X pins σ H s) (rx:RelV x u) (ty:TyOf X.K H x t) (e:PySem.W.kitOne X.K t c=some b) (h:∀ tk,Q (.bool b) { s with toks:=tk }) :
  wpAny (model X.prog X.w) A (call (.builtin "isinstance") [u,c]) Q E s:=by
 cases ty with
 | non=>cases (show u=Value.none from rx); exact PySem.W.kia_one PySem.W.kitx_none I.kIn True.intro e (fun z=>nomatch z) h
 | bl y=>cases (show u=Value.bool y from rx); exact PySem.W.kia_one PySem.W.kitx_bool I.kIn True.intro e (fun z=>nomatch z) h
 | int i=>obtain ⟨t,q⟩:=(show ∃ t,u=Value.int i t from rx); cases q; exact PySem.W.kia_one PySem.W.kitx_int I.kIn True.intro e (fun z=>nomatch z) h
 | str y=>obtain ⟨t,q⟩:=(show ∃ t,u=Value.str y t from rx); cases q; exact PySem.W.kia_one PySem.W.kitx_str I.kIn True.intro e (fun z=>nomatch z) h
 | flt y=>obtain ⟨t,q⟩:=(show ∃ t,u=Value.float y t from rx); cases q; exact PySem.W.kia_one PySem.W.kitx_float I.kIn True.intro e (fun z=>nomatch z) h
 | @lst a xs ea =>
   cases (show u=Value.ref a from rx)
   obtain ⟨_,_,n,_,h1⟩:=(show ObjOk X.prog X.w H s.heap a (.lst xs) from I.hok a _ ea)
   exact PySem.W.kia_one PySem.W.kitx_list I.kIn ⟨_,h1,rfl⟩ e (fun z=>nomatch z) h
 | @frz a ob xs ea =>
   cases (show u=Value.ref a from rx)
   obtain ⟨_,_,_,n,_,h1⟩:=(show ObjOk X.prog X.w H s.heap a (.frz ob (.lst xs)) from I.hok a _ ea)
   exact PySem.W.kia_one PySem.W.kitx_list I.kIn ⟨_,h1,rfl⟩ e (fun z=>nomatch z) h
 | @tup a xs ea =>
   cases (show u=Value.ref a from rx)
   obtain ⟨_,_,_,p⟩:=(show ObjOk X.prog X.w H s.heap a (.tup xs) from I.hok a _ ea)
   obtain ⟨o,h1,h2,_⟩:=p
   exact PySem.W.kia_one PySem.W.kitx_tuple I.kIn ⟨o,h1,h2⟩ e (fun z=>nomatch z) h
 | @dK a kvs ea =>
   cases (show u=Value.ref a from rx)
   obtain ⟨_,_,vs,_,p⟩:=(show ObjOk X.prog X.w H s.heap a (.dK kvs) from I.hok a _ ea)
   obtain ⟨o,es,ep,h1,h2,_⟩:=p
   exact PySem.W.kia_one PySem.W.kitx_dict I.kIn ⟨o,h1,h2.1⟩ e (fun z=>nomatch z) h
 | @dT a kvs ea =>
   cases (show u=Value.ref a from rx)
   obtain ⟨_,_,xs,_,o,es,ep,h1,h2,_⟩:=(show ObjOk X.prog X.w H s.heap a (.dT kvs) from I.hok a _ ea)
   exact PySem.W.kia_one PySem.W.kitx_dict I.kIn ⟨o,h1,h2.1⟩ e (fun z=>nomatch z) h
 | @ins a C dx fs ea cl ha hn htk hm =>
   cases (show u=Value.ref a from rx)
   obtain ⟨mA,O,_⟩:=ins_get I.hok ea
   obtain ⟨od,J,_⟩:=O.look
   exact PySem.W.kia_one (PySem.W.kitx_own (cl.get _) cl.hd ha hn htk hm) I.kIn J e (fun z=>nomatch z) h
end
structure Room (k:Nat) (A:Around):Prop where
 hd:A.handled=none
 dp:A.depth+3 * k+5 < recursionLimit
 un:A.units+16 * k+200 < cLine
theorem Room.mono {j k:Nat} {A:Around} (r:Room k A) (h:j<=k):Room j A:=⟨r.hd,by have:=r.dp; omega,by have:=r.un; omega⟩
theorem Room.deeper {k:Nat} {A:Around} (r:Room (k+1) A) (env:Env):Room k (A.deeper env) :=
 ⟨r.hd,by have:=r.dp; show A.depth+1+3 * k+5 < _; omega,by have:=r.un; show A.units+3+16 * k+200 < _; omega⟩
theorem make_depth {A:Around} {C:Addr} {us:List Value} {kw:List (Str×Value)} : (A.under (.builtin "type.__call__" ⟨.ref C::us,kw⟩)).depth=A.depth+1:=by
 first | rfl | simp [Around.under,Code.weight,Code.isCreation,Code.isGuard,Code.isCaller,Code.frames,Code.isFrame,guardIds]
theorem make_units {A:Around} {C:Addr} {us:List Value} {kw:List (Str×Value)} : (A.under (.builtin "type.__call__" ⟨.ref C::us,kw⟩)).units=A.units+1:=by
 first | rfl | simp [Around.under,Code.cUnits,Code.frames,Code.isFrame]
theorem Room.make {k:Nat} {A:Around} (r:Room (k+1) A) (C:Addr) (us:List Value) (kw:List (Str×Value)):Room k (A.under (.builtin "type.__call__" ⟨.ref C::us,kw⟩)) :=
 ⟨r.hd,by have:=r.dp; rw [make_depth]; omega,by have:=r.un; rw [make_units]; omega⟩
theorem Room.depth {k:Nat} {A:Around} (r:Room k A):A.depth < recursionLimit:=by have:=r.dp; omega
theorem Room.units {k:Nat} {A:Around} (r:Room k A):A.units+64 < cLine:=by have:=r.un; omega
def tNil:TA:=fun _ H Q=>Q [] H
def tCons (ta:TE) (tr:TA):TA:=fun σ H Q=>ta σ H fun x H1=>tr σ H1 fun xs H2=>Q (x::xs) H2
section
variable {X:Cx} {e:Expr} {es:List Expr} {te:TE} {t:TA} {pos:Pos}
theorem jK:PA X [] tNil:=fun _ _ _ _ H Q I h=>Calls.spliced_nil ⟨[],H,I,.nil,h⟩
theorem qK (ha:PE X e te) (hr:PA X es t) (hs:starEach (e::es) X.env=(false,eval e X.env)::starEach es X.env:=by rfl):PA X (e::es) (tCons te t):=by
 intro pos pins s σ H Q I h
 rw [hs]
 show wpAny _ _ (spliced ((false,eval e X.env)::backTo pos (starEach es X.env))) _ _ s
 refine Calls.spliced_cons (thn (ha pins s σ H _ I h) fun u s1 zq=>?_)
 obtain ⟨x,H1,I1,r1,q1⟩:=zq
 exact thn (hr pos pins s1 σ H1 _ I1 q1) fun us s2 ⟨xs,H2,I2,r2,q2⟩=>⟨x::xs,H2,I2,.cons r1 r2,q2⟩
def tTup (t:TA):TE:=fun σ H Q=>t σ H fun xs H1=>xs.length<=sizeLine/\∀ p,H1 p=none->Q (.ref p) (upd H1 p (.tup xs))
def tLst (t:TA):TE:=fun σ H Q=>t σ H fun xs H1=>xs.length<=sizeLine/\∀ p,H1 p=none->Q (.ref p) (upd H1 p (.lst xs))
theorem pe_tup {x1} (h:PA X es t):PE X (.Tuple es x1 pos) (tTup t):=by
 intro pins s σ H Q I hq
 refine wpAny_Tuple_spliced (thn (h pos pins s σ H _ I hq) fun us s1 ⟨xs,H1,I1,r,z,q⟩=>⟨by rw [<- r.length]; exact z,?_⟩)
 have hf:H1 s1.heap.objs.size=none:=I1.hok.fresh (Nat.le_refl _)
 refine ⟨.ref s1.heap.objs.size,upd H1 s1.heap.objs.size (.tup xs),I1.laid (t':=s1.toks) (fun b u e=>Heap.get?_push_of_some _ e) (Nat.le_refl _) ?_,rfl,q _ hf⟩
 exact ⟨z,us,r,⟨_,Heap.get?_push_size _ rfl,rfl,_,rfl⟩⟩
theorem pe_lst (h:PA X es t):PE X (.List es pos) (tLst t):=by
 intro pins s σ H Q I hq
 refine wpAny_List_spliced (thn (h pos pins s σ H _ I hq) fun us s1 ⟨xs,H1,I1,r,z,q⟩=>⟨by rw [<- r.length]; exact z,?_⟩)
 have hf:H1 s1.heap.objs.size=none:=I1.hok.fresh (Nat.le_refl _)
 refine ⟨.ref s1.heap.objs.size,upd H1 s1.heap.objs.size (.lst xs),I1.laid (t':=s1.toks) (fun b u e=>Heap.get?_push_of_some _ e) (Nat.le_refl _) ?_,rfl,q _ hf⟩
 exact ⟨z,us,0,r,Heap.get?_push_size _ rfl⟩
end
abbrev Sp:=List V->Hp->VK->XK->Prop
abbrev CXT:=List Env->Hp->Shared->XK->Value->Shared->Prop
structure Env0 (P:Program) (w:World) (K:PySem.W.Frag) (mg:Str->Option Value) (base:Heap) (A:Around) (outer:List Env) (s:Shared) (H:Hp):Prop where
 frames:A.frames=some outer
 mod:Mod K mg base
 bs:∀ b o,base.get? b=some o->s.heap.get? b=some o/\H b=none
 bsz:Bsz K mg base s.heap H
 funs:s.heap.FunFrames base outer
 frf:∀ b∈frs outer,H b=none
 hok:HOk P w H s.heap
 bare:AllBare s.gens
def CE (outer:List Env) (P:Program) (w:World) (H:Hp) (s:Shared) (Q:VK) (u:Value) (s':Shared):Prop :=
 ∃ v H',s'.os=s.os/\AllBare s'.gens/\Un (frs outer) [] H H' s.heap s'.heap/\HOk P w H' s'.heap/\RelV v u/\Q v H'
def CR (CX:CXT) (outer:List Env) (P:Program) (w:World) (H:Hp) (s:Shared) (Q:VK) (E:XK) (r:Result) (s':Shared):Prop :=
 match r with
 | .ok (.ret u)=>CE outer P w H s Q u s'
 | .ok _=>False
 | .error e=>CX outer H s E e s'
structure FnOk (P:Program) (w:World) (K:PySem.W.Frag) (mg:Str->Option Value) (base:Heap) (CX:CXT) (k:Nat) (f:Addr) (fd:FuncData) (ps:List Str) (sp:Sp):Prop where
 len:∀ vs H Q E,sp vs H Q E->vs.length=ps.length
 run:∀ (A:Around) (outer:List Env) (s:Shared) (H:Hp) (args:Args) (us:List Value) (vs:List V) (Q:VK) (E:XK),Room k A->Env0 P w K mg base A outer s H->BindsTo s fd args (ps.zip us)->Vals vs us->sp vs H Q E →
  codeAny (model P w) A (.call (.ref f) args) (CR CX outer P w H s Q E) s
theorem FnOk.mono {P:Program} {w:World} {K:PySem.W.Frag} {mg:Str->Option Value} {base:Heap} {CX:CXT} {j k:Nat} {f:Addr} {fd:FuncData} {ps:List Str} {sp:Sp} (F:FnOk P w K mg base CX j f fd ps sp) (h:j<=k) :
  FnOk P w K mg base CX k f fd ps sp:=⟨F.len,fun A outer s H args us vs Q E hr=>F.run A outer s H args us vs Q E (hr.mono h)⟩
theorem FnOk.imp {P:Program} {w:World} {K:PySem.W.Frag} {mg:Str->Option Value} {base:Heap} {CX:CXT} {k:Nat} {f:Addr} {fd:FuncData} {ps:List Str} {sp sp':Sp} (F:FnOk P w K mg base CX k f fd ps sp)
  (h:∀ vs H Q E,sp' vs H Q E->sp vs H Q E):FnOk P w K mg base CX k f fd ps sp' :=
 ⟨fun vs H Q E q=>F.len vs H Q E (h _ _ _ _ q),fun A outer s H args us vs Q E hr he hb hv hs=>F.run A outer s H args us vs Q E hr he hb hv (h _ _ _ _ hs)⟩
theorem Env0.make {P:Program} {w:World} {K:PySem.W.Frag} {mg:Str->Option Value} {base:Heap} {A:Around} {outer:List Env} {s:Shared} {H:Hp} (e:Env0 P w K mg base A outer s H) (C:Addr) (us:List Value) (kw:List (Str×Value)) :
  Env0 P w K mg base (A.under (.builtin "type.__call__" ⟨.ref C::us,kw⟩)) outer s H:=⟨by first | exact e.frames | (simpa [Around.under,Code.envs,Code.isFrame,pushEnvs] using e.frames),e.mod,e.bs,e.bsz,e.funs,e.frf,e.hok,e.bare⟩
section
variable {X:Cx} {pins:List (Addr×Obj)} {σ : St} {H:Hp} {s s':Shared}
theorem Inv.tabsH (I:Inv X pins σ H s):TabsK X.K X.mg X.base H:=⟨I.ok.bsz.2.bm,fun x c P hx ht=>⟨(I.ok.bsz.2.tab x c P hx ht).1,I.base.tbls _ _ (I.ok.bsz.2.tab x c P hx ht).2⟩⟩
theorem Inv.env0 (I:Inv X pins σ H s):Env0 X.prog X.w X.K X.mg X.base X.A X.stack s H :=
 ⟨I.ok.frames,I.ok.mod,I.bs,⟨Nat.le_trans I.ok.bsz.1 I.sz,I.tabsH⟩,I.stack,I.stkFree,I.hok,I.bare⟩
theorem Inv.after {Q:VK} {u:Value} (I:Inv X pins σ H s) (h:CE X.stack X.prog X.w H s Q u s'):EP X pins σ Q u s':=by
 obtain ⟨v,H',os,bare,un,hok,r,q⟩:=h
 obtain ⟨hh,g,d,t,os'⟩:=s'
 obtain rfl:os'=s.os:=os
 exact ⟨v,H',I.call (h':=hh) (g':=g) (d':=d) (t':=t) (ch:=[]) un hok bare (fun b z=>absurd z (by simp)),r,q⟩
end
def tCall (sp:Sp) (dvs:List V) (E:XK) (t:TA):TE:=fun σ H Q=>t σ H fun vs H1=>sp (vs++dvs) H1 Q E
def tMeth (C:Addr) (m:Str) (sp:Sp) (dvs:List V) (E:XK) (ta:TE) (t:TA):TE:=fun σ H Q=>ta σ H fun x H1=>∃ a dx fs,x = .ref a/\H1 a=some (.ins C dx fs)/\fs.lookup m=none ∧
 t σ H1 fun vs H2=>sp (x::(vs++dvs)) H2 Q E
def tMake (C:Addr) (sp:Sp) (dvs:List V) (E:XK) (t:TA):TE:=fun σ H Q=>t σ H fun vs H1=>∀ x dx,H1 x=none->H1 dx=none->dx≠x →
 sp (.ref x::(vs++dvs)) (upd (upd H1 dx (.own x)) x (.ins C dx [])) (fun v H2=>v = .non/\Q (.ref x) H2) E
def Binds (K:PySem.W.Frag) (fd:FuncData) (ps:List Str) (ds:List Value):Prop :=
 ∀ (s:Shared) (us:List Value),K.In s.heap->(us++ds).length=ps.length->BindsTo s fd ⟨us,[]⟩ (ps.zip (us++ds))
theorem Binds.all {K:PySem.W.Frag} {fd:FuncData} {ps:List Str} (h:∀ us:List Value,us.length=ps.length->bindArgs fd ⟨us,[]⟩=pure (ps.zip us)):Binds K fd ps []:=fun s us _ hl=>by
 rw [List.append_nil] at hl ⊢
 exact .of_eq (h us hl)
def Passes (CX:CXT) (X:Cx) (E:XK):Prop:=∀ (pins:List (Addr×Obj)) (σ : St) (H:Hp) (s:Shared) (e:Value) (s':Shared),Inv X pins σ H s->CX X.stack H s E e s'->X.xe e s'
section
variable {X:Cx} {CX:CXT} {k:Nat} {f C:Addr} {fd:FuncData} {ps:List Str} {sp:Sp} {dvs:List V} {ds:List Value} {E:XK} {x m:Str} {p pos apos:Pos} {e o:Expr} {es:List Expr} {ta:TE} {t:TA}
theorem run_fn {pins:List (Addr×Obj)} {σ : St} {H:Hp} {s:Shared} {Q:VK} {us:List Value} {vs:List V} (F:FnOk X.prog X.w X.K X.mg X.base CX k f fd ps sp) (hr:Room k X.A) (hb:Binds X.K fd ps ds) (hd:Vals dvs ds) (hx:Passes CX X E)
  (I:Inv X pins σ H s) (r:Vals vs us) (h:sp (vs++dvs) H Q E):wpAny (model X.prog X.w) X.A (call (.ref f) us) (EP X pins σ Q) X.xe s:=by
 have r2:Vals (vs++dvs) (us++ds):=r.append hd
 have hl:(us++ds).length=ps.length:=by rw [<- r2.length]; exact F.len _ _ _ _ h
 refine wpAny_call (codeAny_mono (F.run X.A X.stack s H ⟨us,[]⟩ (us++ds) (vs++dvs) Q E hr I.env0 (hb s us I.kIn hl) r2 h) fun r s' hq=>?_)
 cases r with
 | error e=>exact hx pins σ H s e s' I hq
 | ok fl =>
   cases fl with
   | ret u=>exact I.after hq
   | next=>exact False.elim hq
   | brk=>exact False.elim hq
   | cont=>exact False.elim hq
theorem wV (F:FnOk X.prog X.w X.K X.mg X.base CX k f fd ps sp) (hr:Room k X.A) (hg:Gl X x) (hm:X.mg x=some (.ref f)) (hk:PySem.W.keepIn X.K (.ref f)=true) (hb:Binds X.K fd ps ds) (hd:Vals dvs ds) (hx:Passes CX X E)
  (ha:PA X (e::es) t) (hdb:(x == ("__debug__" : Str))=false:=by decide) (he:starEach (e::es) X.env=(false,eval e X.env)::starEach es X.env:=by rfl) (hpl:(backTo pos (starEach es X.env)).any (·.1)=false:=by rfl) :
  PE X (.Call (.Name x p) (e::es) [] pos) (tCall sp dvs E t):=by
 intro pins s σ H Q I h
 refine wpAny_Call_Name_kw (xU I hg hm ?_ hdb)
 refine PySem.W.callWith_K (h₀:=X.base) I.ok.mod.kin hk (thn (ha pos pins s σ H _ I h) fun us s1 ⟨vs,H1,I1,r,q⟩=>⟨I1.kIn,?_⟩) he hpl
 exact run_fn F hr hb hd hx I1 r q
theorem pe_meth {pl:Sem Bool} (he:PE X o ta) (c:Cls X.K C) (hm:Meth X.K C m f) (F:FnOk X.prog X.w X.K X.mg X.base CX k f fd ps sp) (hr:Room k X.A) (hb:Binds X.K fd ps ds) (hd:Vals dvs ds) (hx:Passes CX X E) (ha:PA X (e::es) t)
  (hst:starEach (e::es) X.env=(false,eval e X.env)::starEach es X.env:=by rfl) (hpl:(backTo pos (starEach es X.env)).any (·.1)=false:=by rfl)
  (ht:eval (.Call (.Attribute o m apos) (e::es) [] pos) X.env=(do
    let ov <- eval o X.env
    standAt apos.atName
    let (f,first) <- holding [ov] (getMethod ov m pl)
    callWith pos f first (backTo pos (starEach (e::es) X.env)) (backToKw pos (keywordEach [] X.env))):=by rfl) :
  PE X (.Call (.Attribute o m apos) (e::es) [] pos) (tMeth C m sp dvs E ta t):=by
 intro pins s σ H Q I h
 refine PySem.W.methodCall_KW (pl:=pl) (thn (he pins s σ H _ I h) fun u s1 zq=>?_) ht
 obtain ⟨x,H1,I1,rx,a,dx,fs,ex,ea,l,q⟩:=zq
 subst ex
 obtain rfl:u=Value.ref a:=rx
 refine getmeth_ok I1 ea c hm l ?_
 refine PySem.W.callWith_K (first:=[.ref a]) (h₀:=X.base) I.ok.mod.kin hm.kp (thn (ha pos pins s1 σ H1 _ I1 q) fun us s2 ⟨vs,H2,I2,r,q2⟩=>⟨I2.kIn,?_⟩) hst hpl
 exact run_fn (us:=.ref a::us) (vs:=.ref a::vs) F hr hb hd hx I2 (.cons rfl r) q2
structure Mk (K:PySem.W.Frag) (C f:Addr):Prop where
 makes:PySem.W.makesIn K C=true
 init:PySem.W.findIn K (.ref C) "__init__" = some (some (.ref f))
 fn:PySem.W.isFn K (.ref f)=true
 kp:PySem.W.keepIn K (.ref C)=true
theorem run_make {pins:List (Addr×Obj)} {σ : St} {H:Hp} {s:Shared} {Q:VK} {us:List Value} {vs:List V} (M:Mk X.K C f) (F:FnOk X.prog X.w X.K X.mg X.base CX k f fd ps sp) (hr:Room (k+1) X.A) (hb:Binds X.K fd ps ds) (hd:Vals dvs ds)
  (hx:Passes CX X E) (I:Inv X pins σ H s) (r:Vals vs us)
  (h:∀ x dx,H x=none->H dx=none->dx≠x->sp (.ref x::(vs++dvs)) (upd (upd H dx (.own x)) x (.ins C dx [])) (fun v H2=>v = .non/\Q (.ref x) H2) E) :
  wpAny (model X.prog X.w) X.A (call (.ref C) us) (EP X pins σ Q) X.xe s:=by
 have hq:=h (s.heap.objs.size+1) s.heap.objs.size (I.hok.fresh (Nat.le_succ _)) (I.hok.fresh (Nat.le_refl _)) (Nat.ne_of_lt (Nat.lt_succ_self _))
 have I2:=Inv.made (C:=C) I
 have r2:Vals (V.ref (s.heap.objs.size+1)::(vs++dvs)) (Value.ref (s.heap.objs.size+1)::(us++ds)):=.cons rfl (r.append hd)
 have hl:(Value.ref (s.heap.objs.size+1)::us++ds).length=ps.length:=by
  have e:=r2.length
  rw [F.len _ _ _ _ hq] at e
  exact e.symm
 refine wpAny_call (make_map (f:=f) I.kIn M.makes M.init (beq_iff_eq.mp M.fn) (codeAny_mono (F.run _ X.stack _ _ ⟨Value.ref (s.heap.objs.size+1)::us,[]⟩ (Value.ref (s.heap.objs.size+1)::(us++ds)) _ _ E (hr.make C us [])
  (I2.env0.make C us []) (hb _ (Value.ref (s.heap.objs.size+1)::us) I2.kIn hl) r2 hq) fun r s' hq'=>?_))
 cases r with
 | error e=>exact hx pins σ _ _ e s' I2 hq'
 | ok fl =>
   cases fl with
   | ret u =>
     obtain ⟨v,H',I3,rv,ev,q3⟩:=I2.after hq'
     subst ev
     exact ⟨rv,⟨V.ref (s.heap.objs.size+1),H',I3,rfl,q3⟩⟩
   | next=>exact False.elim hq'
   | brk=>exact False.elim hq'
   | cont=>exact False.elim hq'
theorem pe_make (M:Mk X.K C f) (F:FnOk X.prog X.w X.K X.mg X.base CX k f fd ps sp) (hr:Room (k+1) X.A) (hg:Gl X x) (hm:X.mg x=some (.ref C)) (hb:Binds X.K fd ps ds) (hd:Vals dvs ds) (hx:Passes CX X E)
  (ha:PA X (e::es) t) (hdb:(x == ("__debug__" : Str))=false:=by decide) (he:starEach (e::es) X.env=(false,eval e X.env)::starEach es X.env:=by rfl) (hpl:(backTo pos (starEach es X.env)).any (·.1)=false:=by rfl) :
  PE X (.Call (.Name x p) (e::es) [] pos) (tMake C sp dvs E t):=by
 intro pins s σ H Q I h
 refine wpAny_Call_Name_kw (xU I hg hm ?_ hdb)
 refine PySem.W.callWith_K (h₀:=X.base) I.ok.mod.kin M.kp (thn (ha pos pins s σ H _ I h) fun us s1 ⟨vs,H1,I1,r,q⟩=>⟨I1.kIn,?_⟩) he hpl
 exact run_make M F hr hb hd hx I1 r q
end
section
variable {X:Cx} {CX:CXT} {k:Nat} {f C:Addr} {fd:FuncData} {ps ks:List Str} {sp:Sp} {E:XK} {x m:Str} {p pos apos kpos:Pos} {e o:Expr} {es:List Expr} {kws:List Keyword} {te ta:TE} {t tk:TA} {nm:Option Str}
variable {g:List Value->List Value->List Value} {gV:List V->List V->List V}
end
structure FnScope (N P:List Str) (sc:Scope):Prop where
 kind:sc.kind = .function:=by rfl
 co:sc.isCoroutine=false:=by rfl
 gen:sc.isGenerator=false:=by rfl
 nd:N.Nodup:=by decide +kernel
 pre:N.take P.length=P:=by rfl
 par:∀ x∈P,sc.names.lookup x=some .local \/ sc.names.lookup x=some .cell:=by decide +kernel
 nofree:∀ y∈sc.names,y.2≠.free:=by decide +kernel
theorem bindL_out {kindOf:Str->Option NameKind} {x:Str} : ∀ {binds:List (Str×Value)} {m:Str->Option Value},(∀ v,(x,v) ∉ binds)->bindL kindOf binds m x=m x
 | [],_,_=>rfl
 | (n, v) :: r, m, h => by
   unfold bindL
   rw [bindL_out fun w hw=>h w (List.mem_cons_of_mem _ hw)]
   split
   · have : x ≠ n := by rintro rfl; exact h v List.mem_cons_self
     simp [this]
   · rfl
theorem bindC_out {kindOf:Str->Option NameKind} {x:Str} : ∀ {binds:List (Str×Value)} {m:Str->Option Value},(∀ v,(x,v) ∉ binds)->bindC kindOf binds m x=m x
 | [],_,_=>rfl
 | (n, v) :: r, m, h => by
   unfold bindC
   rw [bindC_out fun w hw=>h w (List.mem_cons_of_mem _ hw)]
   split
   · rfl
   · have : x ≠ n := by rintro rfl; exact h v List.mem_cons_self
     simp [this]
theorem bindL_get {kindOf:Str->Option NameKind} {x:Str} {v:Value} : ∀ {P:List Str} {vs:List Value} {i:Nat} {m:Str->Option Value},P.Nodup->P[i]? = some x->vs[i]? = some v->kindOf x=some .local →
  bindL kindOf (P.zip vs) m x=some v
 | [],_,_,_,_,h,_,_=>by simp at h
 | _::_,[],_,_,_,_,h,_=>by simp at h
 | p :: P, w :: vs, 0, m, nd, h1, h2, hk => by
   simp at h1 h2; subst h1; subst h2
   show bindL kindOf ((p,w)::P.zip vs) m p=_
   unfold bindL
   rw [bindL_out fun v hv=>(List.nodup_cons.mp nd).1 (List.of_mem_zip hv).1,if_pos hk]
   simp
 | p :: P, w :: vs, i + 1, m, nd, h1, h2, hk => by
   show bindL kindOf ((p,w)::P.zip vs) m x=_
   unfold bindL
   exact bindL_get (i:=i) (List.nodup_cons.mp nd).2 (by simpa using h1) (by simpa using h2) hk
theorem bindC_get {kindOf:Str->Option NameKind} {x:Str} {v:Value} : ∀ {P:List Str} {vs:List Value} {i:Nat} {m:Str->Option Value},P.Nodup->P[i]? = some x->vs[i]? = some v->kindOf x≠some .local →
  bindC kindOf (P.zip vs) m x=some v
 | [],_,_,_,_,h,_,_=>by simp at h
 | _::_,[],_,_,_,_,h,_=>by simp at h
 | p :: P, w :: vs, 0, m, nd, h1, h2, hk => by
   simp at h1 h2; subst h1; subst h2
   show bindC kindOf ((p,w)::P.zip vs) m p=_
   unfold bindC
   rw [bindC_out fun v hv=>(List.nodup_cons.mp nd).1 (List.of_mem_zip hv).1,if_neg hk]
   simp
 | p :: P, w :: vs, i + 1, m, nd, h1, h2, hk => by
   show bindC kindOf ((p,w)::P.zip vs) m x=_
   unfold bindC
   exact bindC_get (i:=i) (List.nodup_cons.mp nd).2 (by simpa using h1) (by simpa using h2) hk
noncomputable def start (N:List Str) (vs:List V):St:=vs.map some++List.replicate (N.length - vs.length) none
noncomputable def cxOf (CX:CXT) (P:Program) (w:World) (K:PySem.W.Frag) (mg:Str->Option Value) (base:Heap) (N:List Str) (qual:Str) (scope:Scope) (f:Addr) (cd:Value) (A:Around) (outer:List Env) (s:Shared) (H:Hp) (E:XK):Cx where
 prog:=P
 w:=w
 K:=K
 mg:=mg
 base:=base
 A:=A.deeper (envOfC qual scope s.heap.objs.size f cd)
 N:=N
 s₀:=s
 H₀:=H
 env:=envOfC qual scope s.heap.objs.size f cd
 outer:=outer
 stack:=envOfC qual scope s.heap.objs.size f cd::outer
 ex:=[]
 calm:=true
 fn:=fun _=>true
 pn:=[]
 xe:=fun e s'=>wpAny (model P w) (A.deeper (envOfC qual scope s.heap.objs.size f cd)) (leaving (envOfC qual scope s.heap.objs.size f cd) e) (fun _ s''=>CX outer H s E e s'') (fun e' s''=>CX outer H s E e' s'') s'
theorem cell_has {sc:Scope} {n:Nat} {x:Str} (h:sc.names.lookup x=some .cell):∃ c,(cellsFrom n sc.names []).lookup x=some c:=by
 have q:=PySem.W.cellsFrom_some sc.names n [] (.inl h)
 exact Option.isSome_iff_exists.mp q
theorem inv_start {CX:CXT} {P:Program} {w:World} {K:PySem.W.Frag} {mg:Str->Option Value} {base:Heap} {N ps:List Str} {qual:Str} {scope:Scope} {f:Addr} {cd:Value} {A:Around} {outer:List Env} {s s1:Shared} {H:Hp} {E:XK} {us:List Value} {vs:List V}
  (S:FnScope N ps scope) (hd:A.handled=none) (e0:Env0 P w K mg base A outer s H) (hl:vs.length=ps.length) (r:Vals vs us)
  (x:InCallC s s.heap.objs.size (bindL (envOfC qual scope s.heap.objs.size f cd).kindOf (ps.zip us) fun _=>none) (cellsFrom (s.heap.objs.size+1) scope.names []) (bindC (envOfC qual scope s.heap.objs.size f cd).kindOf (ps.zip us) fun _=>none) s1) :
  Inv (cxOf CX P w K mg base N qual scope f cd A outer s H E) [] (start N vs) H s1:=by
 have hpl:ps.length<=N.length:=by have:=congrArg List.length S.pre; rw [List.length_take] at this; omega
 obtain ⟨h1,tk,rfl,hk⟩:=x.done
 have noA:∀ b:Addr,b ∉ (cxOf CX P w K mg base N qual scope f cd A outer s H E).ex:=fun b z=>absurd (show b∈([]:List Addr) from z) (by simp)
 refine ⟨⟨e0.mod,S.kind,rfl,rfl,Nat.le_refl _,fun y z c h1 h2=>?_,fun y hy=>?_,fun y c _ h=>?_,fun _=>hd,Around.frames_deeper e0.frames,.inr ⟨rfl,rfl⟩,fun b z=>absurd z (noA b),e0.bs,e0.bsz,fun b _ _=>noA b,fun b z=>absurd z (noA b),e0.funs,e0.frf⟩,
  rfl,e0.bare,Un.kept hk,⟨_,x.toInCall.ns,fun i y v h1 h2 h3=>?_⟩,fun y c h=>⟨_,x.cell y c h⟩,e0.hok.fresh (Nat.le_refl _),fun y c h=>?_,fun p hp=>absurd (show p∈([]:List (Addr×Obj)) from hp) (by simp),e0.hok.kept hk,?_⟩
 · exact name_of_addr x.apart (PySem.mem_of_lookup h1) (PySem.mem_of_lookup h2)
 · have hy : scope.names.lookup y = some .cell \/ scope.names.lookup y = some .free := hy
   rcases hy with hy | hy
   · exact cell_has hy
   · exact absurd rfl (S.nofree _ (PySem.mem_of_lookup hy))
 · exact Nat.le_of_lt (x.above y c (PySem.mem_of_lookup h))
 · have hi:i < vs.length:=by
    unfold start at h2
    by_cases hi:i < vs.length
    · exact hi
    · rw [List.getElem?_append_right (by simpa using hi)] at h2
      rw [List.getElem?_replicate] at h2
      split at h2 <;> cases h2
   have ha:vs[i]? = some v:=by
    unfold start at h2
    rw [List.getElem?_append_left (by simpa using hi),List.getElem?_map] at h2
    cases e:vs[i]? with
    | none=>rw [e] at h2; cases h2
    | some a=>rw [e] at h2; cases h2; rfl
   obtain ⟨u,hu,rv⟩:=r.get ha
   have hp:ps[i]? = some y:=by
    rw [<- S.pre,List.getElem?_take_of_lt (by omega)]; exact h1
   have ndP:ps.Nodup:=by rw [<- S.pre]; exact S.nd.sublist (List.take_sublist _ _)
   refine ⟨u,rv,?_⟩
   rcases S.par y (List.mem_of_getElem? hp) with k | k
   · exact .inl ⟨k,bindL_get ndP hp hu k⟩
   · obtain ⟨c, e⟩ := cell_has (n := s.heap.objs.size + 1) k
     refine .inr ⟨.inl k,c,e,?_⟩
     have q:=x.cell y c e
     rw [bindC_get ndP hp hu (by show scope.names.lookup y≠_; rw [k]; decide)] at q
     exact q
 · exact .inl (e0.hok.fresh (Nat.le_of_lt (x.above y c (PySem.mem_of_lookup h))))
 · unfold start
   show _=N.length
   rw [List.length_append,List.length_map,List.length_replicate]
   omega
theorem fn_of {CX:CXT} {P:Program} {w:World} {K:PySem.W.Frag} {mg:Str->Option Value} {base:Heap} {k:Nat} {f:Addr} {name qual:Str} {params:Arguments} {body:List Stmt} {scope:Scope} {dV kV doc pm cdv ct oc:Value} {an od:Option Addr}
  {osl:Array (Option Value)} {N ps:List Str} {sp:Sp} (lk:K.lookup f=some ⟨oc,od,.func (PySem.W.fnOf name qual params body scope dV kV doc pm an cdv ct),osl⟩) (hcd:PySem.W.codeIn K cdv qual=true) (S:FnScope N ps scope)
  (len:∀ vs H Q E,sp vs H Q E->vs.length=ps.length)
  (hbody:∀ (A:Around) (outer:List Env) (s:Shared) (H:Hp) (vs:List V) (Q:VK) (E:XK),Room k (A.deeper (envOfC qual scope s.heap.objs.size f cdv))->sp vs H Q E →
    ∃ t,PSs (cxOf CX P w K mg base N qual scope f cdv A outer s H E) body t/\t { nx:=fun _ H'=>Q .non H',rt:=Q } (start N vs) H) :
  FnOk P w K mg base CX (k+1) f (PySem.W.fnOf name qual params body scope dV kV doc pm an cdv ct) ps sp:=by
 refine ⟨len,fun A outer s H args us vs Q E hr e0 hb r hsp=>?_⟩
 have hl:=len _ _ _ _ hsp
 have KX:K.In s.heap:=e0.mod.kin.keeps fun b o e=>(e0.bs b o e).1
 have lim:s.heap.NoLimit:=e0.mod.nolimit.keeps fun b o e=>(e0.bs b o e).1
 have hkind:∀ y∈ps.zip us,scope.names.lookup y.1=some .local \/ (scope.names.lookup y.1=some .cell/\((cellsFrom (s.heap.objs.size+1) scope.names []).lookup y.1).isSome=true):=fun ⟨n,v⟩ hy=>by
  rcases S.par n (List.of_mem_zip hy).1 with q | q
  · exact .inl q
  · exact .inr ⟨q,PySem.W.cellsFrom_some _ _ _ (.inl q)⟩
 refine codeAny_call_function hr.depth (KX _ _ lk) rfl S.co S.gen rfl (PySem.W.codeRec_of KX hcd) (hb _ _ _ _ ?_)
 refine wpAny_newFunctionEnv_cells S.kind hkind fun env he s1 x=>?_
 subst he
 refine ⟨lim.keeps x.toInCall.keep,codeAny_func ?_⟩
 obtain ⟨t,ht,hq⟩:=hbody A outer s H vs Q E (hr.deeper _) hsp
 have I:Inv (cxOf CX P w K mg base N qual scope f cdv A outer s H E) [] (start N vs) H s1:=inv_start S hr.hd e0 hl r x
 refine wpAny_mono (ht [] s1 (start N vs) H _ I hq) (fun fl s' hs=>?_) fun e s' hs=>hs
 have fin:∀ {σ':St} {H':Hp} {v:V} {u:Value},Inv (cxOf CX P w K mg base N qual scope f cdv A outer s H E) [] σ' H' s'->RelV v u->Q v H'->CE outer P w H s Q u s' :=
  fun {σ' H' v u} J rv q=>⟨v,H',J.os,J.bare,J.base,J.hok,rv,q⟩
 cases fl with
 | ret u =>
   obtain ⟨v,σ',H',J,rv,q⟩:=hs
   exact fin J rv q
 | next =>
   obtain ⟨σ',H',J,q⟩:=hs
   exact fin (v:=V.non) (u:=Value.none) J rfl q
 | brk =>
   obtain ⟨_,_,_,q⟩:=hs
   exact False.elim q
 | cont =>
   obtain ⟨_,_,_,q⟩:=hs
   exact False.elim q
section
variable {X:Cx} {x:Str} {p pos:Pos} {e:Expr} {es:List Expr} {t:TA} {id T:String} {r:List V->Hp->VK->Prop}
def tCB (r:List V->Hp->VK->Prop) (t:TA):TE:=fun σ H Q=>t σ H fun vs H1=>r vs H1 Q
theorem yU (hc:CallR X (.builtin id) r) (hg:Gl X x) (hm:X.mg x=none) (hv:bootBuiltins x=some (.builtin id)) (ha:PA X (e::es) t) (hn:x≠"__name__":=by decide) (hdb:(x == ("__debug__" : Str))=false:=by decide)
  (he:starEach (e::es) X.env=(false,eval e X.env)::starEach es X.env:=by rfl) (hpl:(backTo pos (starEach es X.env)).any (·.1)=false:=by rfl):PE X (.Call (.Name x p) (e::es) [] pos) (tCB r t):=by
 intro pins s σ H Q I h
 refine wpAny_Call_Name_kw (vW I hg hm hv ?_ hn hdb)
 exact PyProof.Rows.callWith_builtin1 (thn (ha pos pins s σ H _ I h) fun us s1 ⟨vs,H1,I1,r1,q1⟩=>hc pins s1 σ H1 vs us Q I1 r1 q1) he hpl
theorem pe_callTy (hc:CallR X (.type T) r) (hg:Gl X x) (hm:X.mg x=none) (hv:bootBuiltins x=some (.type T)) (ha:PA X (e::es) t) (hn:x≠"__name__":=by decide) (hdb:(x == ("__debug__" : Str))=false:=by decide)
  (he:starEach (e::es) X.env=(false,eval e X.env)::starEach es X.env:=by rfl) (hpl:(backTo pos (starEach es X.env)).any (·.1)=false:=by rfl):PE X (.Call (.Name x p) (e::es) [] pos) (tCB r t):=by
 intro pins s σ H Q I h
 refine wpAny_Call_Name_kw (vW I hg hm hv ?_ hn hdb)
 exact PyProof.Rows.callWith_type1 (thn (ha pos pins s σ H _ I h) fun us s1 ⟨vs,H1,I1,r1,q1⟩=>hc pins s1 σ H1 vs us Q I1 r1 q1) he hpl
end
end L2
namespace HT
open PySem PyProof.Rows
section
open PySem.SeqAt
open PySem.AutoSeq1 (wpAny_loadPart')
open PySem.MeetsSeq PySem.MeetsSeq2 PySem.MeetsSeq3
end
section
variable {prog:Program} {w:World} {A:Around} {E:Value->Shared->Prop} {s:Shared}
end
end HT
namespace L2
open PySem PySem.Spec PyProof.Rows
abbrev TO:=St->Hp->(Option Int->Hp->Prop)->Prop
def PO (X:Cx) (e:Option Expr) (t:TO):Prop :=
 ∀ (pins:List (Addr×Obj)) (s:Shared) (σ : St) (H:Hp) (Q:Option Int->Hp->Prop),Inv X pins σ H s->t σ H Q →
  wpAny (model X.prog X.w) X.A (evalPart e X.env) (fun u s'=>∃ o H',Inv X pins σ H' s'/\IsPart u o/\Q o H') X.xe s
def tNoPart:TO:=fun _ H Q=>Q none H
def tPart (t:TE):TO:=fun σ H Q=>t σ H fun x H1=>∃ i,x = .int i/\Q (some i) H1
section
variable {X:Cx} {e:Expr} {te:TE} {lo hi:Option Expr} {tl th:TO} {pos p2:Pos}
theorem po_none:PO X none tNoPart:=by
 intro pins s σ H Q I h
 rw [evalPart_none]
 exact wpAny_pure ⟨none,H,I,.none,h⟩
theorem po_some (h:PE X e te):PO X (some e) (tPart te):=by
 intro pins s σ H Q I hw
 rw [evalPart_some]
 refine thn (h pins s σ H _ I hw) fun u s1 zq=>?_
 obtain ⟨x,H1,I1,r1,q1⟩:=zq
 obtain ⟨i,rfl,q⟩:=q1
 obtain ⟨t,rfl⟩:=r1
 exact ⟨some i,H1,I1,.int i t,q⟩
def SlR (X:Cx) (r:V->Option Int->Option Int->Hp->VK->Prop):Prop :=
 ∀ (pins:List (Addr×Obj)) (s:Shared) (σ : St) (H:Hp) (x:V) (v vl vu:Value) (lo hi:Option Int) (sl:Addr) (Q:VK),Inv X pins σ H s->RelV x v->s.heap.IsSliceOf sl vl vu .none->IsPart vl lo->IsPart vu hi->r x lo hi H Q →
  ∃ T id,typeLookup (.type T) "__getitem__" = pure (some (.builtin id))/\s.TypeIs v T/\wpAny (model X.prog X.w) X.A (getItem v (.ref sl)) (EP X pins σ Q) X.xe s
def tSl (r:V->Option Int->Option Int->Hp->VK->Prop) (te:TE) (tl th:TO):TE:=fun σ H Q=>te σ H fun x H1=>tl σ H1 fun l H2=>th σ H2 fun u H3=>r x l u H3 Q
theorem pe_slice {r:V->Option Int->Option Int->Hp->VK->Prop} (hr:SlR X r) (he:PE X e te) (hl:PO X lo tl) (hu:PO X hi th):PE X (.Subscript e (.Slice lo hi none p2) pos) (tSl r te tl th):=by
 intro pins s σ H Q I h
 refine Subscript_ (thn (he pins s σ H _ I h) fun v s1 zq=>?_)
 obtain ⟨x,H1,I1,r1,q1⟩:=zq
 refine wpAny_Slice (thn (hl pins s1 σ H1 _ I1 q1) fun vl s2 ⟨l,H2,I2,pl,q2⟩=>thn (hu pins s2 σ H2 _ I2 q2) fun vu s3 zq=>?_)
 obtain ⟨u,H3,I3,pu,q3⟩:=zq
 rw [evalPart_none]
 refine wpAny_pure ?_
 have I4:Inv X pins σ H3 { s3 with heap:=s3.heap.push { cls:=.type "slice",data:=.fields #[vl,vu,.none] } }:=I3.kept (t':=s3.toks) fun b ob q=>Heap.get?_push_of_some _ q
 obtain ⟨T,id,hT,ht,hg⟩:=hr pins { s3 with heap:=s3.heap.push { cls:=.type "slice",data:=.fields #[vl,vu,.none] } } σ H3 x v vl vu l u s3.heap.objs.size Q I4 r1 (Heap.IsSliceOf.new ..) pl pu q3
 show wpAny (model X.prog X.w) X.A (subscriptTail e (.Slice lo hi none p2) v (.ref s3.heap.objs.size)) (EP X pins σ Q) X.xe { s3 with heap:=s3.heap.push { cls:=.type "slice",data:=.fields #[vl,vu,.none] } }
 exact tail_any (ops:=[.ref s3.heap.objs.size,v]) ht hT hg (by with_unfolding_all rfl)
noncomputable def cutV (xs:List V) (lo hi:Option Int):List V:=(xs.drop (HT.sIx xs.length 0 lo)).take (HT.sIx xs.length xs.length hi - HT.sIx xs.length 0 lo)
theorem cutV_length (xs:List V) (lo hi:Option Int):(cutV xs lo hi).length<=xs.length:=by
 unfold cutV
 rw [List.length_take,List.length_drop]
 omega
end
theorem ixN_seq {n:Nat} {i:Int} {j:Nat} (h:ixN n i=some j):seqIndex? i n=some j/\j < n/\-(n:Int)<=i/\i < n:=by
 unfold ixN at h
 by_cases h0:0<=i
 · rw [if_pos h0] at h
   by_cases h1:i < n
   · rw [if_pos h1] at h
     have e:i.toNat=j:=Option.some.inj h
     exact ⟨by rw [seqIndex_of h0 h1,e],by omega,by omega,h1⟩
   · rw [if_neg h1] at h; cases h
 · rw [if_neg h0] at h
   by_cases h1 : -(n:Int)<=i
   · rw [if_pos h1] at h
     have e:(i+n).toNat=j:=Option.some.inj h
     exact ⟨by rw [seqIndex_neg (by omega) h1,e],by omega,h1,by omega⟩
   · rw [if_neg h1] at h; cases h
theorem atI_get {α : Type} {xs:List α} {i:Int} {v : α} (h:atI xs i=some v):∃ j,seqIndex? i xs.length=some j/\xs[j]? = some v/\j < xs.length/\-(xs.length:Int)<=i/\i < xs.length:=by
 unfold atI at h
 cases e:ixN xs.length i with
 | none=>rw [e] at h; cases h
 | some j =>
   rw [e] at h
   obtain ⟨h1,h2,h3,h4⟩:=ixN_seq e
   exact ⟨j,h1,h,h2,h3,h4⟩
def PlainIx (b:Expr):Prop:=∀ o i,subscripted b false o i=operate [o,i] (getItem o i)
def IxR (X:Cx) (r:R2):Prop :=
 ∀ (value slice:Expr) (pins:List (Addr×Obj)) (s:Shared) (σ : St) (H:Hp) (x y:V) (v u:Value) (Q:VK),Inv X pins σ H s->RelV x v->RelV y u->r x y H Q →
  subscripted slice false v u=operate [v,u] (getItem v u)->wpAny (model X.prog X.w) X.A (subscriptTail value slice v u) (EP X pins σ Q) X.xe s
def MtR (X:Cx) (id:String) (r:V->List V->Hp->VK->Prop):Prop :=
 ∀ (pins:List (Addr×Obj)) (s:Shared) (σ : St) (H:Hp) (x:V) (xs:List V) (v:Value) (us:List Value) (Q:VK),Inv X pins σ H s->RelV x v->Vals xs us->r x xs H Q →
  wpAny (model X.prog X.w) X.A (call (.builtin id) (v::us)) (EP X pins σ Q) X.xe s
section
variable {X:Cx} {a b:Expr} {ta tb:TE} {pos:Pos}
theorem IxR.or {r r':R2} (h:IxR X r) (h':IxR X r'):IxR X (fun x y H Q=>r x y H Q \/ r' x y H Q):=by
 intro value slice pins s σ H x y v u Q I rx ry q hs
 rcases q with q | q
 · exact h value slice pins s σ H x y v u Q I rx ry q hs
 · exact h' value slice pins s σ H x y v u Q I rx ry q hs
theorem pe_ix {r:R2} (hr:IxR X r) (ha:PE X a ta) (hb:PE X b tb) (hs:PlainIx b):PE X (.Subscript a b pos) (tOp r ta tb):=by
 intro pins s σ H Q I h
 exact Subscript_ (binT ha hb I h fun v u s2 x y H2 I2 rx ry q=>hr a b pins s2 σ H2 x y v u Q I2 rx ry q (hs _ _))
noncomputable def rIxL (K:PySem.W.Frag):R2:=fun x y H Q=>∃ p xs i v,x = .ref p/\y = .int i/\SqL K H p xs/\atI xs i=some v/\Q v H
noncomputable def rIxT (K:PySem.W.Frag):R2:=fun x y H Q=>∃ p xs i v,x = .ref p/\y = .int i/\SqT K H p xs/\atI xs i=some v/\Q v H
noncomputable def rIxS:R2:=fun x y H Q=>∃ z i c,x = .str z/\y = .int i/\z.length<=sizeLine/\atI z.cps.toList i=some c/\Q (.str ⟨#[c]⟩) H
theorem ix_list:IxR X (rIxL X.K):=by
 intro value slice pins s σ H x y v u Q I rx ry h hs
 obtain ⟨p,xs,i,z,rfl,rfl,hq,he,q⟩:=h
 cases rx
 obtain ⟨t,rfl⟩:=ry
 obtain ⟨its,r,pl,hz⟩:=I.list hq
 obtain ⟨j,h1,h2,h3,h4,h5⟩:=atI_get he
 obtain ⟨w,ew,rw'⟩:=r.get h2
 have hl:=r.length
 have hn:=line63
 have fin:EP X pins σ Q w s:=⟨z,H,I,rw',q⟩
 by_cases h0:0<=i
 · have hj:i.toNat=j:=by
    rw [seqIndex_of h0 h5] at h1
    exact Option.some.inj h1
   exact item_listR pl.isList h0 (by omega) (by rw [hj]; simpa using ew) fin hs
 · have hj:(i+(its.toArray.size:Int)).toNat=j:=by
    rw [seqIndex_neg (by omega) h4] at h1
    rw [List.size_toArray,<- hl]
    exact Option.some.inj h1
   exact subscriptTail_builtinR (x:=w) pl.isList.typeIs slot_list_getitem.lookup
    (wpAny_getItem_list_neg (Q:=fun r s'=>r=w/\EP X pins σ Q r s') pl.isList (by omega) (by rw [List.size_toArray] <;> omega) (by omega) (by rw [hj]; simpa using ew) ⟨rfl,fin⟩) hs
theorem ix_tup:IxR X (rIxT X.K):=by
 intro value slice pins s σ H x y v u Q I rx ry h hs
 obtain ⟨p,xs,i,z,rfl,rfl,hq,he,q⟩:=h
 cases rx
 obtain ⟨t,rfl⟩:=ry
 obtain ⟨its,r,pl,hz⟩:=I.tuple hq
 obtain ⟨j,h1,h2,h3,h4,h5⟩:=atI_get he
 obtain ⟨w,ew,rw'⟩:=r.get h2
 have hl:=r.length
 have hn:=line63
 have fin:EP X pins σ Q w s:=⟨z,H,I,rw',q⟩
 exact subscriptTail_builtinR (x:=w) pl.typeIs slot_tuple_getitem.lookup
  (getItem_tuple (j:=j) (Q:=fun r s'=>r=w/\EP X pins σ Q r s') pl (by omega) (by omega) (by rw [List.size_toArray,<- hl]; exact h1) (by simpa using ew) ⟨rfl,fin⟩) hs
theorem ix_str:IxR X rIxS:=by
 intro value slice pins s σ H x y v u Q I rx ry h hs
 obtain ⟨z,i,c,rfl,rfl,hz,he,q⟩:=h
 obtain ⟨t,rfl⟩:=rx
 obtain ⟨t',rfl⟩:=ry
 obtain ⟨j,h1,h2,h3,h4,h5⟩:=atI_get he
 have hl:z.cps.toList.length=z.length:=by simp [Str.length]
 rw [hl] at h1 h4 h5
 have hn:=line63
 exact tail_any (typeIs_str s z t) slot_str_getitem.lookup (getItem_str (c:=c) (by
  have e1:decide (i < -(2 ^ 63:Int))=false:=decide_eq_false (by omega)
  have e2:decide (i ≥ 2 ^ 63)=false:=decide_eq_false (by omega)
  rw [e1,e2,Bool.or_false]) (by rw [h1]; simpa using h2) ⟨.str ⟨#[c]⟩,H,I.tok _,⟨_,rfl⟩,q⟩) hs
noncomputable def rIx (K:PySem.W.Frag):R2:=fun x y H Q=>rIxL K x y H Q \/ rIxT K x y H Q \/ rIxS x y H Q
theorem ix_seq:IxR X (rIx X.K):=ix_list.or (ix_tup.or ix_str)
theorem mapSeq_set (its:List Value) (n j:Nat) (u:Value):Obj.mapSeq (·.setIfInBounds j u) { cls:=.type "list",data:=.seq its.toArray n } = { cls:=.type "list",data:=.seq (its.set j u).toArray n }:=by
 simp [Obj.mapSeq]
theorem Inv.lst {pins:List (Addr×Obj)} {σ : St} {H:Hp} {s:Shared} {p:Addr} {xs:List V} (I:Inv X pins σ H s) (h:H p=some (.lst xs)) :
  ∃ (its:List Value) (n:Nat),Vals xs its/\s.heap.get? p=some { cls:=.type "list",data:=.seq its.toArray n }/\xs.length<=sizeLine:=by
 obtain ⟨z,its,n,r,e⟩:=I.hok p _ h
 exact ⟨its,n,r,e,z⟩
theorem Inv.lstUpd {pins:List (Addr×Obj)} {σ : St} {H:Hp} {s:Shared} {p:Addr} {xs ys:List V} {its its':List Value} {n n':Nat} {f:Obj->Obj} (I:Inv X pins σ H s) (h:H p=some (.lst xs))
  (ho:s.heap.get? p=some { cls:=.type "list",data:=.seq its.toArray n }) (hf:f { cls:=.type "list",data:=.seq its.toArray n } = { cls:=.type "list",data:=.seq its'.toArray n' }) (r:Vals ys its') (hz:ys.length<=sizeLine) (t:Nat) :
  Inv X pins σ (upd H p (.lst ys)) { s with heap:=s.heap.update p f,toks:=t }:=by
 have e:(s.heap.update p f).get? p=some { cls:=.type "list",data:=.seq its'.toArray n' }:=by
  rw [Heap.get?_update_self f ho (by rw [hf] <;> rfl),hf]
 refine I.write (x:=p) (e:=p) (by rw [h]; trivial) (.inl rfl) (fun b u hb q=>(Heap.get?_update_other _ _ (Ne.symm hb)).trans q) ⟨_,e⟩ ?_
 exact ⟨hz,its',n',r,e⟩
def rSetL:V->V->V->Hp->(Hp->Prop)->Prop:=fun o i v H Q=>∃ p xs k j,o = .ref p/\i = .int k/\H p=some (.lst xs)/\ixN xs.length k=some j/\Q (upd H p (.lst (xs.set j v)))
theorem set_list:PSet X rSetL:=by
 intro pins s σ H o i v ov iv u Q I ro ri rv h
 obtain ⟨p,xs,k,j,rfl,rfl,hp,hj,q⟩:=h
 cases ro
 obtain ⟨t,rfl⟩:=ri
 obtain ⟨its,n,r,ho,hz⟩:=I.lst hp
 obtain ⟨h1,h2,h3,h4⟩:=ixN_seq hj
 have hl:=r.length
 have hn:=line63
 have I':Inv X pins σ (upd H p (.lst (xs.set j v))) { s with heap:=s.heap.update p (Obj.mapSeq (·.setIfInBounds j u)) } :=
  I.lstUpd hp ho (mapSeq_set its n j u) (r.set rv j) (by rw [List.length_set]; exact hz) s.toks
 by_cases h0:0<=k
 · have hk:k.toNat=j:=by
    rw [seqIndex_of h0 h4] at h1
    exact Option.some.inj h1
   exact PySem.W.ki_setAt ho h0 (by omega) (by rw [List.size_toArray,<- hl]; exact h4) (by rw [hk]; exact ⟨_,I',q⟩)
 · have hk:(k+(its.toArray.size:Int)).toNat=j:=by
    rw [seqIndex_neg (by omega) h3] at h1
    rw [List.size_toArray,<- hl]
    exact Option.some.inj h1
   exact PySem.W.ki_setBack ho (by omega) (by rw [List.size_toArray,<- hl]; exact h3) (by omega) (by rw [hk]; exact ⟨_,I',q⟩)
theorem slice_bounds (lo hi:Option Int) (n:Nat):(sliceBounds lo hi none n).1=((HT.sIx n 0 lo:Nat):Int)/\(sliceBounds lo hi none n).2.1=((HT.sIx n n hi:Nat):Int)/\(sliceBounds lo hi none n).2.2=1:=by
 refine ⟨?_,?_,rfl⟩
 · cases lo with
   | none=>simp [sliceBounds,HT.sIx]
   | some i =>
     simp only [sliceBounds,HT.sIx,Option.getD_none,show (1:Int) > 0 by decide,if_true]
     by_cases h:i < 0
     · simp only [h,if_true] <;> omega
     · simp only [h,if_false] <;> omega
 · cases hi with
   | none=>simp [sliceBounds,HT.sIx]
   | some i =>
     simp only [sliceBounds,HT.sIx,Option.getD_none,show (1:Int) > 0 by decide,if_true]
     by_cases h:i < 0
     · simp only [h,if_true] <;> omega
     · simp only [h,if_false] <;> omega
theorem slicePick_cut (its:List Value) (lo hi:Option Int):slicePick its.toArray lo hi none=((its.drop (HT.sIx its.length 0 lo)).take (HT.sIx its.length its.length hi - HT.sIx its.length 0 lo)).toArray:=by
 obtain ⟨h1,h2,h3⟩:=slice_bounds lo hi its.toArray.size
 unfold slicePick
 rw [h1,h2,h3]
 simp only [sliceRange_one,pick_run,List.size_toArray] <;> rfl
def rSlL (K:PySem.W.Frag):V->Option Int->Option Int->Hp->VK->Prop:=fun x lo hi H Q=>∃ a xs,x = .ref a/\SqL K H a xs/\∀ p,H p=none->Q (.ref p) (upd H p (.lst (cutV xs lo hi)))
theorem sl_list:SlR X (rSlL X.K):=by
 intro pins s σ H x v vl vu lo hi sl Q I rx hs pl pu h
 obtain ⟨a,xs,rfl,hx,q⟩:=h
 cases rx
 obtain ⟨its,r,ht,hz⟩:=I.list hx
 have hlen:=r.length
 refine ⟨"list",_,slot_list_getitem.lookup,ht.isList.typeIs,?_⟩
 refine wpAny_getItem_list_slice ht.isList hs pl pu .none (by simp) ?_ (by rw [List.size_toArray] <;> omega)
 rw [slicePick_cut,<- hlen]
 refine ⟨.ref s.heap.objs.size,_,I.laid (t':=s.toks) (o:=.lst (cutV xs lo hi)) (fun b ob q=>Heap.get?_push_of_some _ q) (Nat.le_refl _) ?_,rfl,q _ (I.hok.fresh (Nat.le_refl _))⟩
 exact ⟨Nat.le_trans (cutV_length xs lo hi) hz,_,0,(r.drop (HT.sIx xs.length 0 lo)).take (HT.sIx xs.length xs.length hi - HT.sIx xs.length 0 lo),Heap.get?_push_size _ rfl⟩
noncomputable def flatV:V->Bool
 | .non=>true
 | .bl _=>true
 | .int _=>true
 | .str _=>true
 | _=>false
noncomputable def eqV:V->V->Bool
 | .non,.non=>true
 | .bl a,.bl b=>a == b
 | .bl a,.int b=>(if a then 1 else 0) == b
 | .int a,.bl b=>a == (if b then 1 else 0)
 | .int a,.int b=>a == b
 | .str a,.str b=>a == b
 | _,_=>false
theorem eqAt_V {A:Around} {s:Shared} {y x:V} {u v:Value} (ry:RelV y u) (rx:RelV x v) (fy:flatV y=true) (fx:flatV x=true):SeqAt.EqAt A s u v (eqV y x):=by
 cases y with
 | non =>
   cases ry
   cases x with
   | non=>cases rx; exact SeqAt.EqAt.same _
   | bl b=>cases rx; exact SeqAt.EqAt.none_bool b
   | int b=>obtain ⟨t,rfl⟩:=rx; exact SeqAt.EqAt.none_int b t
   | str b=>obtain ⟨t,rfl⟩:=rx; exact SeqAt.EqAt.none_str b t
   | _=>exact absurd (show false=true from fx) Bool.false_ne_true
 | bl a =>
   cases ry
   cases x with
   | non=>cases rx; exact SeqAt.EqAt.bool_none a
   | bl b=>cases rx; exact SeqAt.EqAt.bool_bool a b
   | int b=>obtain ⟨t,rfl⟩:=rx; exact SeqAt.EqAt.bool_int a b t
   | str b=>obtain ⟨t,rfl⟩:=rx; exact SeqAt.EqAt.bool_str a b t
   | _=>exact absurd (show false=true from fx) Bool.false_ne_true
 | int a =>
   obtain ⟨t',rfl⟩:=ry
   cases x with
   | non=>cases rx; exact SeqAt.EqAt.int_none a t'
   | bl b=>cases rx; exact SeqAt.EqAt.int_bool a t' b
   | int b=>obtain ⟨t,rfl⟩:=rx; exact SeqAt.EqAt.int_int a t' b t
   | str b=>obtain ⟨t,rfl⟩:=rx; exact SeqAt.EqAt.int_str a t' b t
   | _=>exact absurd (show false=true from fx) Bool.false_ne_true
 | str a =>
   obtain ⟨t',rfl⟩:=ry
   cases x with
   | non=>cases rx; exact SeqAt.EqAt.str_none a t'
   | bl b=>cases rx; exact SeqAt.EqAt.str_bool a t' b
   | int b=>obtain ⟨t,rfl⟩:=rx; exact SeqAt.EqAt.str_int a t' b t
   | str b=>obtain ⟨t,rfl⟩:=rx; exact SeqAt.EqAt.str_str a t' b t
   | _=>exact absurd (show false=true from fx) Bool.false_ne_true
 | _=>exact absurd (show false=true from fy) Bool.false_ne_true
noncomputable def eqU (x:V) (u:Value):Bool:=match u with
 | .none=>eqV .non x
 | .bool b=>eqV (.bl b) x
 | .int i _=>eqV (.int i) x
 | .str z _=>eqV (.str z) x
 | _=>false
theorem eqU_of {x y:V} {u:Value} (r:RelV y u) (f:flatV y=true):eqU x u=eqV y x:=by
 cases y with
 | non=>cases r; rfl
 | bl b=>cases r; rfl
 | int i=>obtain ⟨t,rfl⟩:=r; rfl
 | str z=>obtain ⟨t,rfl⟩:=r; rfl
 | _=>exact absurd (show false=true from f) Bool.false_ne_true
theorem any_eqU {x:V} : ∀ {xs:List V} {us:List Value},Vals xs us->xs.all flatV=true->us.any (eqU x)=xs.any fun y=>eqV y x
 | _,_,.nil,_=>rfl
 | y :: xs, u :: us, .cons r t, f => by
   rw [List.all_cons,Bool.and_eq_true] at f
   rw [List.any_cons,List.any_cons,eqU_of r f.1,any_eqU t f.2]
theorem mem_eqAt {A:Around} {s:Shared} {x:V} {v:Value} (rx:RelV x v) (fx:flatV x=true):∀ {xs:List V} {us:List Value},Vals xs us->xs.all flatV=true->∀ u∈us,SeqAt.EqAt A s u v (eqU x u)
 | _,_,.nil,_=>fun u hu=>by cases hu
 | y :: xs, u :: us, .cons r t, f => fun u' hu => by
   rw [List.all_cons,Bool.and_eq_true] at f
   rcases List.mem_cons.mp hu with rfl | hu
   · rw [eqU_of r f.1]; exact eqAt_V r rx f.1 fx
   · exact mem_eqAt rx fx t f.2 u' hu
noncomputable def inV (x:V) (xs:List V):Bool:=xs.any fun y=>eqV y x
noncomputable def rIn (K:PySem.W.Frag) (neg:Bool):R2:=fun x y H Q=>∃ p xs,y = .ref p/\(SqL K H p xs \/ SqT K H p xs)/\flatV x=true/\xs.all flatV=true/\Q (.bl (if neg then !inV x xs else inV x xs)) H
theorem op_in_seq:OpR X (compareOp .In) (rIn X.K false):=by
 intro pins s σ H x y v u Q I rx ry h
 obtain ⟨p,xs,rfl,hq,fx,fs,q⟩:=h
 cases ry
 rcases hq with hq | hq
 · obtain ⟨its, r, pl, hz⟩ := I.list hq
   refine SeqAt.in_listAt (eqU x) pl.isList (fun w hw=>mem_eqAt rx fx r fs w (by simpa using hw)) ⟨.bl _,H,I,rfl,?_⟩
   rw [show its.toArray.any (eqU x)=its.any (eqU x) by simp,any_eqU r fs]
   exact q
 · obtain ⟨its, r, pl, hz⟩ := I.tuple hq
   refine SeqAt.in_tupleAt (eqU x) pl (fun w hw=>mem_eqAt rx fx r fs w (by simpa using hw)) ⟨.bl _,H,I,rfl,?_⟩
   rw [show its.toArray.any (eqU x)=its.any (eqU x) by simp,any_eqU r fs]
   exact q
theorem call_len_seq:CallR X (.builtin "len") (fun xs H Q=>∃ p ys,xs=[.ref p]/\(SqL X.K H p ys \/ SqT X.K H p ys)/\Q (.int ys.length) H):=by
 intro pins s σ H xs us Q I r h
 obtain ⟨p,ys,rfl,hq,q⟩:=h
 obtain ⟨u,rfl,rx⟩:=vals1 r
 cases rx
 have hn:=line63
 rcases hq with hq | hq
 · obtain ⟨its, r', pl, hz⟩ := I.list hq
   have hlen:=r'.length
   exact Calls.call_len_list pl.isList (by simp only [List.size_toArray] <;> omega) ⟨.int ys.length,H,I.tok _,⟨s.toks+1,by rw [List.size_toArray,hlen]⟩,q⟩
 · obtain ⟨its, r', pl, hz⟩ := I.tuple hq
   have hlen:=r'.length
   exact len_tuple pl (by simp only [List.size_toArray] <;> omega) ⟨.int ys.length,H,I.tok _,⟨s.toks+1,by rw [List.size_toArray,hlen]⟩,q⟩
theorem call_len_str:CallR X (.builtin "len") (fun xs H Q=>∃ z,xs=[.str z]/\z.length<=sizeLine/\Q (.int z.length) H):=by
 intro pins s σ H xs us Q I r h
 obtain ⟨z,rfl,hz,q⟩:=h
 obtain ⟨u,rfl,t,rfl⟩:=vals1 r
 have hn:=line63
 exact len_str (by omega) ⟨.int z.length,H,I.tok _,⟨_,rfl⟩,q⟩
theorem CallR.or {f:Value} {r r':List V->Hp->VK->Prop} (h:CallR X f r) (h':CallR X f r'):CallR X f (fun xs H Q=>r xs H Q \/ r' xs H Q):=by
 intro pins s σ H xs us Q I rs q
 rcases q with q | q
 · exact h pins s σ H xs us Q I rs q
 · exact h' pins s σ H xs us Q I rs q
theorem call_list_of:CallR X (.type "list") (fun xs H Q=>∃ p ys,xs=[.ref p]/\(SqL X.K H p ys \/ SqT X.K H p ys)/\∀ l,H l=none->Q (.ref l) (upd H l (.lst ys))):=by
 intro pins s σ H xs us Q I r h
 obtain ⟨p,ys,rfl,hq,q⟩:=h
 obtain ⟨u,rfl,rx⟩:=vals1 r
 cases rx
 have fin:∀ (its:List Value),Vals ys its->ys.length<=sizeLine->∀ (h':Heap) (c':Nat),(∀ b o',s.heap.get? b=some o'->h'.get? b=some o') →
   h'.get? s.heap.objs.size=some { cls:=.type "list",dict:=none,data:=.seq its.toArray c',slots:=#[] }->EP X pins σ Q (.ref s.heap.objs.size) { s with heap:=h' }:=fun its r' hz h' c' kp e =>
  ⟨.ref s.heap.objs.size,_,I.laid (t':=s.toks) kp (Nat.le_refl _) (show ObjOk X.prog X.w _ h' _ (.lst ys) from ⟨hz,its,c',r',e⟩),rfl,q _ (I.hok.fresh (Nat.le_refl _))⟩
 rcases hq with hq | hq
 · obtain ⟨its, r', pl, hz⟩ := I.list hq
   have hlen:=r'.length
   obtain ⟨o,ho,hc,n,hd⟩:=pl.isList
   exact call_list_seq p (.inl rfl) ho hc hd (fun h' c' kp e=>fin its r' hz h' c' kp e) (by simp only [List.size_toArray] <;> omega)
 · obtain ⟨its, r', pl, hz⟩ := I.tuple hq
   have hlen:=r'.length
   obtain ⟨o,ho,hc,n,hd⟩:=pl
   exact call_list_seq p (.inr rfl) ho hc hd (fun h' c' kp e=>fin its r' hz h' c' kp e) (by simp only [List.size_toArray] <;> omega)
def tyV (K:PySem.W.Frag) (T:String) (x:V) (H:Hp):Prop:=match x with
 | .str _=>T = "str"
 | .int _=>T = "int"
 | .ref p=>(T = "list"/\∃ xs,SqL K H p xs) \/ (T = "tuple"/\∃ o,K.lookup p=some o/\o.cls = .type "tuple"/\o.dict=none) ∨
    (T = "dict"/\((∃ kvs,H p=some (.dK kvs)) \/ ∃ kvs,H p=some (.dT kvs))) \/ (T = "set"/\∃ S n,H p=some (.set S n))
 | _=>False
theorem tyV_is {pins:List (Addr×Obj)} {σ : St} {H:Hp} {s:Shared} {T:String} {x:V} {v:Value} (I:Inv X pins σ H s) (r:RelV x v) (ty:tyV X.K T x H) :
  s.TypeIs v T/\∀ a,v = .ref a->∃ ob,s.heap.get? a=some ob/\ob.dict=none:=by
 cases x with
 | str z =>
   obtain ⟨t,rfl⟩:=r
   cases (show T = "str" from ty)
   exact ⟨typeIs_str s z t,fun _ e=>nomatch e⟩
 | int i =>
   obtain ⟨t,rfl⟩:=r
   cases (show T = "int" from ty)
   exact ⟨typeIs_int s i t,fun _ e=>nomatch e⟩
 | ref p =>
   cases r
   rcases ty with ⟨rfl,xs,hq⟩ | ⟨rfl,o,hk,hc,hd⟩ | ⟨rfl,hk⟩ | ⟨rfl,S,n,hk⟩
   · obtain ⟨its, _, pl, _⟩ := I.list hq
     refine ⟨pl.isList.typeIs,fun a e=>?_⟩
     cases e
     obtain ⟨o,n,e,c,hd,_⟩:=pl
     exact ⟨o,e,hd⟩
   · refine ⟨⟨o, I.kIn p o hk, hc⟩, fun a e => ?_⟩
     cases e
     exact ⟨o,I.kIn _ o hk,hd⟩
   · have z:∃ o,s.heap.get? p=some o/\o.ExactDict:=by
      rcases hk with ⟨kvs,hk⟩ | ⟨kvs,hk⟩
      · obtain ⟨_, _, _, _, o, _, _, e, ex, _⟩ := I.hok p _ hk
        exact ⟨o,e,ex⟩
      · obtain ⟨_, _, _, _, o, _, _, e, ex, _⟩ := I.hok p _ hk
        exact ⟨o,e,ex⟩
     obtain ⟨o,e,ex⟩:=z
     refine ⟨⟨o,e,ex.1⟩,fun a e2=>?_⟩
     cases e2
     exact ⟨o,e,ex.2.1⟩
   · obtain ⟨o, _, _, _, e, ex, _⟩ := I.hok p _ hk
     refine ⟨⟨o,e,ex.1⟩,fun a e2=>?_⟩
     cases e2
     exact ⟨o,e,ex.2.1⟩
 | _=>exact False.elim ty
def tBM (K:PySem.W.Frag) (T:String) (r:V->List V->Hp->VK->Prop) (to:TE) (t:TA):TE:=fun σ H Q=>to σ H fun x H1=>tyV K T x H1/\t σ H1 fun xs H2=>r x xs H2 Q
variable {o e:Expr} {es:List Expr} {to:TE} {t:TA} {name:Str} {apos cpos:Pos} {T id:String} {r:V->List V->Hp->VK->Prop}
theorem pe_bm (pa:PlainAttrs T) (slot:Slot T name id) (hty:typeOf (.builtin id)=pure (.type "method_descriptor")) (hm:MtR X id r) (ho:PE X o to) (ha:PA X (e::es) t)
  (hbase:attributeBase o name X.env (eval o X.env)=eval o X.env:=by rfl)
  (hfew:((backTo cpos (starEach (e::es) X.env)).all (fun x=>!x.1) && (backToKw cpos (keywordEach [] X.env)).all (fun x=>x.1.isSome)
    && decide ((e::es).length+([]:List Keyword).length+(if ([]:List Keyword).isEmpty then 0 else 1) < 30))=true:=by rfl)
  (hline:(apos.endLine == cpos.line)=true:=by rfl) (hs:starEach (e::es) X.env=(false,eval e X.env)::starEach es X.env:=by rfl) (hplain:(backTo cpos (starEach es X.env)).any (·.1)=false:=by rfl) :
  PE X (.Call (.Attribute o name apos) (e::es) [] cpos) (tBM X.K T r to t):=by
 intro pins s σ H Q I h
 refine wpAny_Call_method_late hbase hfew hline rfl (thn (ho pins s σ H _ I h) fun v s1 zq=>?_)
 obtain ⟨x,H1,I1,r1,ty,q1⟩:=zq
 obtain ⟨h1,h2⟩:=tyV_is I1 r1 ty
 refine ⟨T,id,pa,slot,hty,h1,h2,?_⟩
 have hA:=ha cpos pins s1 σ H1 _ I1 q1
 rw [hs] at hA ⊢
 refine Calls.callWith_builtin (by show (false || (backTo cpos (starEach es X.env)).any (·.1))=false; rw [hplain] <;> rfl) (Calls.evalArgs_plain ?_)
 exact thn hA fun us s2 ⟨vs,H2,I2,r2,q2⟩=>hm pins s2 σ H2 x vs v us Q I2 r1 r2 q2
/- xs.append(e),list.index on a module's tuple .. are MtR facts of 06m -/
end
def MtM (X:Cx) (id:String) (r:V->List V->Hp->VK->Prop):Prop :=
 ∀ (pins:List (Addr×Obj)) (s:Shared) (σ : St) (H:Hp) (x:V) (xs:List V) (v:Value) (us:List Value) (Q:VK),Inv X pins σ H s->RelV x v->Vals xs us->r x xs H Q →
  wpAny (model X.prog X.w) X.A (call (.builtin id) (v::us)) (EP X pins σ Q) X.xe s
theorem Vals.one:∀ {x:V} {us:List Value},Vals [x] us->∃ u,us=[u]/\RelV x u
 | _,_,.cons r .nil=>⟨_,rfl,r⟩
theorem Vals.two:∀ {x y:V} {us:List Value},Vals [x,y] us->∃ u v,us=[u,v]/\RelV x u/\RelV y v
 | _,_,_,.cons r (.cons q .nil)=>⟨_,_,rfl,r,q⟩
theorem Vals.reverse {xs:List V} {us:List Value} (h:Vals xs us):Vals xs.reverse us.reverse:=by
 induction h with
 | nil=>exact .nil
 | cons r t ih=>rw [List.reverse_cons,List.reverse_cons]; exact Vals.append ih (.cons r .nil)
theorem Vals.rep {xs:List V} {us:List Value} (h:Vals xs us):∀ k:Nat,Vals (List.replicate k xs).flatten (List.replicate k us).flatten
 | 0=>.nil
 | k + 1 => by
   rw [List.replicate_succ,List.replicate_succ,List.flatten_cons,List.flatten_cons]
   exact Vals.append h (Vals.rep h k)
theorem foldl_rep (its:List Value):∀ (k:Nat) (acc:List Value),
  List.foldl (fun x1 x2=>x1++x2) acc.toArray (List.replicate k its.toArray)=(acc++(List.replicate k its).flatten).toArray
 | 0,acc=>by simp
 | k + 1, acc => by
   have e:acc.toArray++its.toArray=(acc++its).toArray:=by simp
   have e2:(acc++its)++(List.replicate k its).flatten=acc++(List.replicate (k+1) its).flatten:=by
    rw [List.replicate_succ,List.flatten_cons,List.append_assoc]
   rw [<- e2,<- foldl_rep its k (acc++its),<- e,List.replicate_succ,List.foldl_cons]
section
variable {X:Cx} {pins:List (Addr×Obj)} {σ : St} {H:Hp} {s:Shared} {l b:Addr} {xs ys zs:List V}
theorem Inv.lset {its its':List Value} {n:Nat} {f:Array Value->Array Value} {t':Nat} (I:Inv X pins σ H s) (hH:H l=some (.lst xs))
  (e:s.heap.get? l=some { cls:=.type "list",data:=.seq its.toArray n }) (hf:f its.toArray=its'.toArray) (hv:Vals ys its') (hz:ys.length<=sizeLine) :
  Inv X pins σ (upd H l (.lst ys)) { s with heap:=s.heap.update l (Obj.mapSeq f),toks:=t' }:=by
 have q:=PySem.IsL.update e f
 rw [hf] at q
 refine I.write (x:=l) (e:=l) (by rw [hH]; exact trivial) (.inl rfl) (fun b' u hb hu=>(Heap.get?_update_other s.heap (Obj.mapSeq f) (Ne.symm hb)).trans hu) ⟨_,q⟩ ?_
 exact ⟨hz,its',_,hv,q⟩
theorem Inv.lnew {its:List Value} {t':Nat} (I:Inv X pins σ H s) (hv:Vals ys its) (hz:ys.length<=sizeLine) :
  Inv X pins σ (upd H s.heap.objs.size (.lst ys)) { s with heap:=s.heap.push { cls:=.type "list",data:=.seq its.toArray },toks:=t' } :=
 I.laid (fun _ _ q=>Heap.get?_push_of_some _ q) (Nat.le_refl _) ⟨hz,its,0,hv,Heap.get?_push_size _ rfl⟩
theorem Inv.fresh (I:Inv X pins σ H s):H s.heap.objs.size=none:=I.hok.fresh (Nat.le_refl _)
theorem Inv.lstM (I:Inv X pins σ H s) (hH:H l=some (.lst xs)):xs.length<=sizeLine/\∃ (its:List Value) (n:Nat),Vals xs its/\xs.length=its.length/\s.heap.get? l=some { cls:=.type "list",data:=.seq its.toArray n }:=by
 obtain ⟨z,its,n,r,e⟩:=I.hok l _ hH
 exact ⟨z,its,n,r,r.length,e⟩
theorem notLongL {n:Nat} (h:n<=sizeLine):Builtin.List.listTooLong n=false:=by
 unfold Builtin.List.listTooLong
 exact decide_eq_false (by omega)
end
section
variable {X:Cx}
def rAppend:V->List V->Hp->VK->Prop:=fun x vs H Q=>∃ l xs y,x = .ref l/\vs=[y]/\H l=some (.lst xs)/\xs.length < sizeLine/\Q .non (upd H l (.lst (xs++[y])))
theorem mt_append:MtM X "list.append" rAppend:=by
 intro pins s σ H x vs v us Q I rx rv h
 obtain ⟨l,xs,y,rfl,rfl,hH,hz,q⟩:=h
 cases rx
 obtain ⟨u,rfl,ru⟩:=rv.one
 obtain ⟨z,its,n,r,hl,e⟩:=I.lstM hH
 refine call_meets F.slot_list_append ⟨_,e,rfl⟩ F.entry_list_append (F.args_list_append_2 _ _) (PySem.list_append l its.toArray n u (by rw [List.size_toArray]; omega)) ⟨e,?_⟩
 refine ⟨.non,_,I.lset (its':=its++[u]) hH e (by simp) (r.append (.cons ru .nil)) ?_,rfl,q⟩
 rw [List.length_append,List.length_singleton]
 omega
def rExtend:V->List V->Hp->VK->Prop:=fun x vs H Q=>∃ l b xs zs,x = .ref l/\vs=[.ref b]/\H l=some (.lst xs)/\H b=some (.lst zs)/\xs.length+zs.length<=sizeLine/\Q .non (upd H l (.lst (xs++zs)))
theorem mt_extend:MtM X "list.extend" rExtend:=by
 intro pins s σ H x vs v us Q I rx rv h
 obtain ⟨l,b,xs,zs,rfl,rfl,hH,hB,hz,q⟩:=h
 cases rx
 obtain ⟨u,rfl,ru⟩:=rv.one
 cases ru
 obtain ⟨z,its,n,r,hl,e⟩:=I.lstM hH
 obtain ⟨z2,its2,n2,r2,hl2,e2⟩:=I.lstM hB
 have hsz:its.toArray.size+its2.toArray.size<=sizeLine:=by rw [List.size_toArray,List.size_toArray]; omega
 have hlong : ¬ (!its.toArray.isEmpty && Builtin.List.listTooLong (its.toArray.size+its2.toArray.size))=true:=by
  rw [notLongL hsz,Bool.and_false]
  exact Bool.false_ne_true
 refine call_meets F.slot_list_extend ⟨_,e,rfl⟩ F.entry_list_extend (F.args_list_extend_2 _ _)
  (AutoSeq1.list_extend_list_list_0 l its.toArray n b its2.toArray n2 hlong (by rw [List.size_toArray]; omega) (by omega)) ⟨e,e2,?_⟩
 refine ⟨.non,_,I.lset (its':=its++its2) hH e (by simp) (r.append r2) ?_,rfl,q⟩
 rw [List.length_append]
 omega
noncomputable def rRep:R2:=fun x y H Q=>∃ l k xs,x = .ref l/\y = .int k/\H l=some (.lst xs)/\-(2 ^ 63)<=k/\k < 2 ^ 63/\xs.length * k.toNat<=sizeLine ∧
 ∀ p,H p=none->Q (.ref p) (upd H p (.lst (List.replicate k.toNat xs).flatten))
theorem len_rep {α : Type} (xs:List α) (k:Nat):(List.replicate k xs).flatten.length=k * xs.length:=by
 induction k with
 | zero=>simp
 | succ k ih=>rw [List.replicate_succ,List.flatten_cons,List.length_append,ih,Nat.succ_mul,Nat.add_comm]
theorem op_rep:OpR X (binaryOp .Mult) rRep:=by
 intro pins s σ H x y v u Q I rx ry h
 obtain ⟨l,k,xs,rfl,rfl,hH,h1,h2,hz,q⟩:=h
 cases rx
 obtain ⟨t,rfl⟩:=ry
 obtain ⟨z,its,n,r,hl,e⟩:=I.lstM hH
 have hlen:its.toArray.size * k.toNat<=sizeLine:=by rw [List.size_toArray,<- hl]; exact hz
 have hcap : ¬ its.toArray.size * k.toNat > (2 ^ 63 - 1) / 8:=by
  have:(sizeLine:Nat)<=(2 ^ 63 - 1) / 8:=by decide
  omega
 have hfit : ¬ (!Builtin.List.listFitsIndex k)=true:=by
  rw [fitsIndex_both h1 h2]
  exact Bool.false_ne_true
 have hlong : ¬ Builtin.List.listTooLong (its.toArray.size * k.toNat)=true:=by
  rw [notLongL hlen]
  exact Bool.false_ne_true
 have hnew:List.foldl (fun x1 x2=>x1++x2) #[] (List.replicate (if its.toArray.isEmpty=true then 0 else k.toNat) its.toArray)=(List.replicate k.toNat its).flatten.toArray:=by
  have f0:∀ m:Nat,List.foldl (fun x1 x2=>x1++x2) #[] (List.replicate m its.toArray)=(List.replicate m its).flatten.toArray:=fun m=>by
   have:=foldl_rep its m []
   rw [List.nil_append] at this
   exact this
  rw [f0]
  cases its with
  | nil=>simp
  | cons a r'=>rw [if_neg (by simp)]
 refine wpAny_binaryOp_repeat_ref (T:="list") (U:="int") (by decide) ⟨_,e,rfl⟩ (fun s'=>typeIs_int s' k t) noFill_list_mul F.fills_int_mul F.slot_int_rmul repeat_list F.slot_int_index.lookup
  (call_meets F.slot_int_rmul (typeIs_int s k t) F.entry_int_rmul (F.args_int_rmul_2 _ _) (int___rmul___int_list k t l its.toArray n)
    ⟨e,rfl,⟨_,e,rfl⟩,call_meets F.slot_list_mul ⟨_,e,rfl⟩ F.entry_list_mul (F.args_list_mul_2 _ _) (AutoListH.list___mul___list_int_3 l its.toArray n k t hfit hcap hlong) ⟨e,?_⟩⟩)
 rw [hnew]
 exact ⟨.ref _,_,I.lnew (t':=s.toks) (r.rep k.toNat) (by rw [len_rep,Nat.mul_comm]; exact hz),rfl,q _ I.fresh⟩
end
section
variable {prog:Program} {w:World} {A:Around} {E:Value->Shared->Prop} {s:Shared}
end
section
variable {X:Cx}
end
section
variable {κ : Type} [DecidableEq κ]
noncomputable def valV (kvs:List (κ×V)) (k : κ):Option V:=(kvs.find? fun kv=>decide (kv.1=k)).map (·.2)
noncomputable def putK (kvs:List (κ×V)) (k : κ) (v:V):List (κ×V) :=
 if (kvs.any fun kv=>decide (kv.1=k))=true then kvs.map (fun kv=>if kv.1=k then (kv.1,v) else kv) else kvs++[(k,v)]
noncomputable def dropK (kvs:List (κ×V)) (k : κ):List (κ×V):=kvs.filter fun kv=>decide (kv.1≠k)
theorem wN {p : κ×V} {r:List (κ×V)} {k : κ} (e:p.1=k):valV (p::r) k=some p.2:=by simp [valV,List.find?_cons,e]
theorem valV_neg {p : κ×V} {r:List (κ×V)} {k : κ} (e : ¬ p.1=k):valV (p::r) k=valV r k:=by simp [valV,List.find?_cons,e]
theorem kB (k : κ):∀ kvs:List (κ×V),(kvs.any fun kv=>decide (kv.1=k))=(valV kvs k).isSome
 | []=>rfl
 | p :: r => by
   rw [List.any_cons]
   by_cases e:p.1=k
   · simp only [wN e,decide_eq_true e,Bool.true_or,Option.isSome_some]
   · rw [valV_neg e,decide_eq_false e,Bool.false_or]; exact kB k r
theorem length_putK (kvs:List (κ×V)) (k : κ) (v:V):(putK kvs k v).length<=kvs.length+1:=by
 unfold putK
 split
 · rw [List.length_map]; omega
 · rw [List.length_append,List.length_cons,List.length_nil]; omega
theorem wG {kvs:List (κ×V)} {k : κ} (v:V) (h:valV kvs k=none):putK kvs k v=kvs++[(k,v)]:=by
 unfold putK
 rw [kB,h]
 exact if_neg (by decide)
theorem RelO.isSome_eq {o:Option V} {u:Option Value} (r:RelO o u):o.isSome=u.isSome:=by
 cases o with
 | none => cases u with
   | none=>rfl
   | some _=>exact (show False from r).elim
 | some _ => cases u with
   | none=>exact (show False from r).elim
   | some _=>rfl
theorem RelO.getD {o:Option V} {u:Option Value} {d:V} {d':Value} (r:RelO o u) (rd:RelV d d'):RelV (o.getD d) (u.getD d'):=by
 cases o with
 | none => cases u with
   | none=>exact rd
   | some _=>exact (show False from r).elim
 | some _ => cases u with
   | none=>exact (show False from r).elim
   | some _=>exact r
theorem KV.val {kvs:List (κ×V)} {vs:List (κ×Value)} (r:KV kvs vs) (k : κ):RelO (valV kvs k) (valueAt vs k):=by
 unfold KV at r
 induction r with
 | nil=>exact True.intro
 | @cons p q ps qs h t ih =>
   obtain ⟨h1,h2⟩:=h
   by_cases e:p.1=k
   · have e' : q.1 = k := h1.symm.trans e
     have b:valueAt (q::qs) k=some q.2:=by simp [valueAt,List.find?_cons,e']
     rw [wN e,b]; exact h2
   · have e' : ¬ q.1 = k := fun z => e (h1.trans z)
     have b:valueAt (q::qs) k=valueAt qs k:=by simp [valueAt,List.find?_cons,e']
     rw [valV_neg e,b]; exact ih
theorem KV.any {kvs:List (κ×V)} {vs:List (κ×Value)} (r:KV kvs vs) (k : κ):(kvs.any fun kv=>decide (kv.1=k))=vs.any fun kv=>decide (kv.1=k):=by
 unfold KV at r
 induction r with
 | nil=>rfl
 | cons h t ih=>rw [List.any_cons,List.any_cons,ih,h.1]
theorem KV.repl {kvs:List (κ×V)} {vs:List (κ×Value)} (r:KV kvs vs) (k : κ) {y:V} {u:Value} (ry:RelV y u) :
  KV (kvs.map fun kv=>if kv.1=k then (kv.1,y) else kv) (vs.map fun kv=>if kv.1=k then (kv.1,u) else kv):=by
 unfold KV at r ⊢
 induction r with
 | nil=>exact .nil
 | @cons p q ps qs h t ih =>
   rw [List.map_cons,List.map_cons]
   refine .cons ?_ ih
   obtain ⟨h1,h2⟩:=h
   by_cases e:p.1=k
   · rw [if_pos e,if_pos (h1.symm.trans e)]; exact ⟨h1,ry⟩
   · rw [if_neg e,if_neg (fun z=>e (h1.trans z))]; exact ⟨h1,h2⟩
theorem KV.put {kvs:List (κ×V)} {vs:List (κ×Value)} (r:KV kvs vs) (k : κ) {y:V} {u:Value} (ry:RelV y u):KV (putK kvs k y) (stored vs k u):=by
 unfold putK stored
 rw [r.any k]
 by_cases e:(vs.any fun kv=>decide (kv.1=k))=true
 · rw [if_pos e,if_pos e]; exact r.repl k ry
 · rw [if_neg e,if_neg e]; exact Paired.snoc r ⟨rfl,ry⟩
theorem KV.drop {kvs:List (κ×V)} {vs:List (κ×Value)} (r:KV kvs vs) (k : κ):KV (dropK kvs k) (without vs k):=by
 unfold KV at r ⊢
 unfold dropK without
 induction r with
 | nil=>exact .nil
 | @cons p q ps qs h t ih =>
   obtain ⟨h1,h2⟩:=h
   rw [List.filter_cons,List.filter_cons]
   by_cases e:p.1=k
   · have a : ¬ decide (p.1 ≠ k) = true := by simp [e]
     have b : ¬ decide (q.1≠k)=true:=by simp [h1.symm.trans e]
     rw [if_neg a,if_neg b]; exact ih
   · have e' : ¬ q.1 = k := fun z => e (h1.trans z)
     have a:decide (p.1≠k)=true:=by simp [e]
     have b:decide (q.1≠k)=true:=by simp [e']
     rw [if_pos a,if_pos b]; exact .cons ⟨h1,h2⟩ ih
theorem KV.length {kvs:List (κ×V)} {vs:List (κ×Value)} (r:KV kvs vs):kvs.length=vs.length:=Paired.length r
end
theorem kV_is {P:Program} {w:World} {k:Key} {u:Value} (r:RelV (kV k) u):(mixKind P w).is k u=true:=by
 rcases k with (_ | i) | x
 · cases (show u=Value.none from r); rfl
 · obtain ⟨t,rfl⟩:=(show ∃ t,u=Value.int i t from r); simp [mixKind,keyIs,Value.isInt]
 · obtain ⟨t,rfl⟩:=(show ∃ t,u=Value.str x t from r); simp [mixKind,keyIs,Value.isStrOf]
theorem items_are {P:Program} {w:World} : ∀ {ks:List Key} {us:List Value},Vals (ks.map kV) us->ItemsAre (mixKind P w) ks us
 | [],_,r=>by rw [List.map_nil] at r; cases r; exact .nil
 | k :: ks, _, r => by
   rw [List.map_cons] at r
   cases r with
   | cons h t=>exact .cons (kV_is h) (items_are t)
abbrev KT (H:Hp):List (List Key×V)->List (List Key×Addr×Value)->Prop:=Paired fun p q=>p.1=q.1/\H q.2.1=some (.tup (p.1.map kV))/\RelV p.2 q.2.2
theorem KT.val {H:Hp} {kvs:List (List Key×V)} {xs:List (List Key×Addr×Value)} (r:KT H kvs xs) (k:List Key):RelO (valV kvs k) ((atKey xs k).map (·.2)):=by
 induction r with
 | nil=>exact True.intro
 | @cons p q ps qs h t ih =>
   obtain ⟨h1,_,h2⟩:=h
   by_cases e:p.1=k
   · have e' : q.1 = k := h1.symm.trans e
     have b:atKey (q::qs) k=some q.2:=by simp [atKey,List.find?_cons,e']
     rw [wN e,b]; exact h2
   · have e' : ¬ q.1 = k := fun z => e (h1.trans z)
     have b:atKey (q::qs) k=atKey qs k:=by simp [atKey,List.find?_cons,e']
     rw [valV_neg e,b]; exact ih
theorem KT.repl {H:Hp} {kvs:List (List Key×V)} {xs:List (List Key×Addr×Value)} (r:KT H kvs xs) (k:List Key) {y:V} {u:Value} (ry:RelV y u) :
  KT H (kvs.map fun kv=>if kv.1=k then (kv.1,y) else kv) (xs.map (putAt k u)):=by
 induction r with
 | nil=>exact .nil
 | @cons p q ps qs h t ih =>
   rw [List.map_cons,List.map_cons]
   refine .cons ?_ ih
   obtain ⟨h1,h2,h3⟩:=h
   unfold putAt
   by_cases e:p.1=k
   · rw [if_pos e,if_pos (h1.symm.trans e)]; exact ⟨h1,h2,ry⟩
   · rw [if_neg e,if_neg (fun z=>e (h1.trans z))]; exact ⟨h1,h2,h3⟩
theorem KT.put {H:Hp} {kvs:List (List Key×V)} {xs:List (List Key×Addr×Value)} (r:KT H kvs xs) (k:List Key) {b:Addr} {y:V} {u:Value} (hb:H b=some (.tup (k.map kV))) (ry:RelV y u) :
  KT H (putK kvs k y) (storedH xs k b u):=by
 have e:(kvs.any fun kv=>decide (kv.1=k))=(atKey xs k).isSome:=by
  rw [kB,(r.val k).isSome_eq,Option.isSome_map]
 unfold putK storedH
 rw [e]
 by_cases q:(atKey xs k).isSome=true
 · rw [if_pos q,if_pos q]; exact r.repl k ry
 · rw [if_neg q,if_neg q]; exact Paired.snoc r ⟨rfl,hb,ry⟩
theorem KT.keeps {H H':Hp} {kvs:List (List Key×V)} {xs:List (List Key×Addr×Value)} (r:KT H kvs xs) (ht:∀ b ys,H b=some (.tup ys)->H' b=some (.tup ys)):KT H' kvs xs :=
 Paired.mapP r fun _ _ z=>⟨z.1,ht _ _ z.2.1,z.2.2⟩
section
variable {P:Program} {w:World} {H:Hp} {h:Heap} {a:Addr}
theorem rd_of {u:HO} (ok:HOk P w H h) (e:Rd H a u):ObjOk P w H h a u:=e.ok ok
theorem dk_rd {kvs:List (Key×V)} (ok:HOk P w H h) (e:Rd H a (.dK kvs)):kvs.length<=sizeLine/\(a == sysModules)=false/\∃ vs,KV kvs vs/\h.DictOf (mixKind P w) a vs :=
 show ObjOk P w H h a (.dK kvs) from rd_of ok e
theorem dk_of {kvs:List (Key×V)} (ok:HOk P w H h) (e:H a=some (.dK kvs)):kvs.length<=sizeLine/\(a == sysModules)=false/\∃ vs,KV kvs vs/\h.DictOf (mixKind P w) a vs:=dk_rd ok (.inl e)
theorem key_of {ks:List Key} (ok:HOk P w H h) (e:H a=some (.tup (ks.map kV))):(tupleKind (mixKind P w)).is h ks a:=by
 obtain ⟨_,its,r,o,h1,h2,n,h3⟩:=(show ObjOk P w H h a (.tup (ks.map kV)) from ok a _ e)
 exact ⟨o,its.toArray,n,h1,h2,h3,by simpa using items_are r⟩
theorem dt_rd {kvs:List (List Key×V)} (ok:HOk P w H h) (e:Rd H a (.dT kvs)):kvs.length<=sizeLine/\(a == sysModules)=false ∧
  ∃ xs,KT H kvs xs/\h.DictOfH (tupleKind (mixKind P w)) a xs:=by
 obtain ⟨z,y,xs,r,o,es,ep,h1,h2,h3,h4,h5⟩:=(show ObjOk P w H h a (.dT kvs) from rd_of ok e)
 refine ⟨z,y,xs,r,o,es,ep,h1,h2,h3,h4,fun x hx=>?_,h5⟩
 have all:∀ {l:List (List Key×V)} {m:List (List Key×Addr×Value)},KT H l m->∀ x∈m,(tupleKind (mixKind P w)).is h x.1 x.2.1:=by
  intro l m q
  induction q with
  | nil=>intro x hx; exact nomatch hx
  | @cons p q ps qs hq t ih =>
    intro x hx
    rcases List.mem_cons.mp hx with e | hx
    · subst e
      exact key_of ok (by rw [<- hq.1]; exact hq.2.1)
    · exact ih x hx
 exact all r x hx
theorem dt_of {kvs:List (List Key×V)} (ok:HOk P w H h) (e:H a=some (.dT kvs)):kvs.length<=sizeLine/\(a == sysModules)=false ∧
  ∃ xs,KT H kvs xs/\h.DictOfH (tupleKind (mixKind P w)) a xs:=dt_rd ok (.inl e)
end
def DGet (H:Hp) (a:Addr) (y:V) (r:Option V):Prop :=
 (∃ kvs k,Rd H a (.dK kvs)/\y=kV k/\r=valV kvs k) \/ ∃ kvs k b,Rd H a (.dT kvs)/\y = .ref b/\H b=some (.tup (k.map kV))/\r=valV kvs k
def DPut (H:Hp) (a:Addr) (y v:V) (H':Hp):Prop :=
 (∃ kvs k,H a=some (.dK kvs)/\y=kV k/\kvs.length < sizeLine/\H'=upd H a (.dK (putK kvs k v))) ∨
 ∃ kvs k b,H a=some (.dT kvs)/\y = .ref b/\H b=some (.tup (k.map kV))/\kvs.length < sizeLine/\H'=upd H a (.dT (putK kvs k v))
theorem DGet.k {H:Hp} {a:Addr} {kvs:List (Key×V)} {k:Key} (e:H a=some (.dK kvs)):DGet H a (kV k) (valV kvs k):=.inl ⟨kvs,k,.inl e,rfl,rfl⟩
theorem DGet.t {H:Hp} {a b:Addr} {kvs:List (List Key×V)} {k:List Key} (e:H a=some (.dT kvs)) (eb:H b=some (.tup (k.map kV))):DGet H a (.ref b) (valV kvs k):=.inr ⟨kvs,k,b,.inl e,rfl,eb,rfl⟩
theorem DPut.k {H:Hp} {a:Addr} {kvs:List (Key×V)} {k:Key} {v:V} (e:H a=some (.dK kvs)) (hl:kvs.length < sizeLine):DPut H a (kV k) v (upd H a (.dK (putK kvs k v))):=.inl ⟨kvs,k,e,rfl,hl,rfl⟩
theorem DPut.t {H:Hp} {a b:Addr} {kvs:List (List Key×V)} {k:List Key} {v:V} (e:H a=some (.dT kvs)) (eb:H b=some (.tup (k.map kV))) (hl:kvs.length < sizeLine) :
  DPut H a (.ref b) v (upd H a (.dT (putK kvs k v))):=.inr ⟨kvs,k,b,e,rfl,eb,hl,rfl⟩
section
variable {X:Cx} {pins:List (Addr×Obj)} {σ : St} {H:Hp} {s:Shared} {a:Addr} {y v:V} {u r:Value} {o:Option V} {A:Around} {E:Value->Shared->Prop}
theorem Inv.big (I:Inv X pins σ H s):sysModules < s.heap.objs.size:=by
 have h:mainGlobals < s.heap.objs.size:=(I.mod.glob.keeps I.bk).lt
 exact Nat.lt_trans (by decide) h
theorem d_getItem {Q:Value->Shared->Prop} (hu:A.units+1 < cLine) (I:Inv X pins σ H s) (g:DGet H a y (some v)) (ry:RelV y u) (h:∀ w' s',Inv X pins σ H s'->RelV v w'->Q w' s') :
  wpAny (model X.prog X.w) A (getItem (.ref a) u) Q E s:=by
 rcases g with ⟨kvs,k,e,ey,l⟩ | ⟨kvs,k,b,e,ey,eb,l⟩
 · subst ey
   obtain ⟨z,hd,vs,rel,dd⟩:=dk_rd I.hok e
   obtain ⟨w',hw,rw'⟩:=RelO.some_of (v:=v) (o:=valueAt vs k) (by rw [l]; exact rel.val k)
   exact wpAny_getItem_of (kV_is ry) dd.mapOf hw (h w' _ (I.tok _) rw')
 · subst ey
   cases (show u=Value.ref b from ry)
   obtain ⟨z,hd,xs,rel,dd⟩:=dt_rd I.hok e
   obtain ⟨w',hw,rw'⟩:=RelO.some_of (v:=v) (o:=(atKey xs k).map (·.2)) (by rw [l]; exact rel.val k)
   obtain ⟨p,hp,hp2⟩:=Option.map_eq_some_iff.mp hw
   refine wpAny_getItem_heap (tupleKind_room_in1 hu) (key_of I.hok eb) dd hp ?_
   rw [hp2]
   exact h w' _ (I.tok _) rw'
theorem d_notIn {Q:Value->Shared->Prop} (hu:A.units+1 < cLine) (I:Inv X pins σ H s) (g:DGet H a y o) (ry:RelV y u) (h:∀ s',Inv X pins σ H s'->Q (.bool (!o.isSome)) s') :
  wpAny (model X.prog X.w) A (compareOp .NotIn u (.ref a)) Q E s:=by
 rcases g with ⟨kvs,k,e,ey,l⟩ | ⟨kvs,k,b,e,ey,eb,l⟩
 · subst ey
   obtain ⟨z,hd,vs,rel,dd⟩:=dk_rd I.hok e
   refine wpAny_notIn_of (kV_is ry) hd dd.mapOf ?_
   rw [<- (rel.val k).isSome_eq,<- l]
   exact h _ (I.tok _)
 · subst ey
   cases (show u=Value.ref b from ry)
   obtain ⟨z,hd,xs,rel,dd⟩:=dt_rd I.hok e
   refine wpAny_notIn_heap (tupleKind_room_in1 hu) (key_of I.hok eb) hd dd ?_
   have q:=(rel.val k).isSome_eq
   rw [Option.isSome_map] at q
   rw [<- q,<- l]
   exact h _ (I.tok _)
theorem d_write {h':Heap} {t':Nat} {ob:HO} (I:Inv X pins σ H s) (mu:Mut (H a)) (hs:Heap.SameBut a s.heap h') (he:∃ q,h'.get? a=some q) (new:ObjOk X.prog X.w (upd H a ob) h' a ob) :
  Inv X pins σ (upd H a ob) { s with heap:=h',toks:=t' } :=
 I.write (x:=a) (e:=a) mu (.inl rfl) (fun b q hb z=>(hs.2 b hb).trans z) he new
theorem dk_new {P:Program} {w:World} {H':Hp} {h':Heap} {kvs:List (Key×V)} {vs:List (Key×Value)} (z:kvs.length<=sizeLine) (hd:(a == sysModules)=false) (rel:KV kvs vs) (dd:h'.DictOf (mixKind P w) a vs) :
  ObjOk P w H' h' a (.dK kvs):=⟨z,hd,vs,rel,dd⟩
theorem d_setItem {H':Hp} {Q:Unit->Shared->Prop} (hu:A.units+1 < cLine) (I:Inv X pins σ H s) (g:DPut H a y v H') (ry:RelV y u) (rv:RelV v r) (h:∀ s',Inv X pins σ H' s'->Q () s') :
  wpAny (model X.prog X.w) A (setItem (.ref a) u r) Q E s:=by
 rcases g with ⟨kvs,k,e,ey,l,eH⟩ | ⟨kvs,k,b,e,ey,eb,l,eH⟩
 · subst ey eH
   obtain ⟨z,hd,vs,rel,dd⟩:=dk_of I.hok e
   have hz:vs.length<=sizeLine:=by rw [<- rel.length]; exact z
   have hl:(putK kvs k v).length<=sizeLine:=by have:=length_putK kvs k v; omega
   refine wpAny_setItem_pairs (hsz:=hz) (kV_is ry) dd fun h' dd' hs=>h _ ?_
   have he:∃ q,h'.get? a=some q:=let ⟨q,_,_,hq,_⟩:=dd'; ⟨q,hq⟩
   exact d_write I (by rw [e]; exact True.intro) hs he (dk_new hl hd (rel.put k rv) dd')
 · subst ey eH
   cases (show u=Value.ref b from ry)
   obtain ⟨z,hd,xs,rel,dd⟩:=dt_of I.hok e
   have hz:xs.length<=sizeLine:=by rw [<- Paired.length rel]; exact z
   have hl:(putK kvs k v).length<=sizeLine:=by have:=length_putK kvs k v; omega
   refine wpAny_setItem_heap (hsz:=hz) (tupleKind_room_in1 hu) (key_of I.hok eb) dd fun h' dd' hs=>h _ ?_
   obtain ⟨q,es,ep,hq,h2,h3,h4,_,h5⟩:=dd'
   refine d_write I (by rw [e]; exact True.intro) hs ⟨q,hq⟩ ⟨hl,hd,_,(rel.put k eb rv).keeps fun c ys ec=>?_,q,es,ep,hq,h2,h3,h4,h5⟩
   rw [upd_ne (ne_of ec e (fun z=>nomatch z))]
   exact ec
end
section
variable {X:Cx} {pins:List (Addr×Obj)} {σ : St} {H:Hp} {s:Shared} {a:Addr} {kvs:List (Key×V)} {k:Key} {u:Value} {A:Around} {E:Value->Shared->Prop}
end
def NoSl (i:Expr):Prop:=∀ ov iv,subscripted i false ov iv=operate [ov,iv] (getItem ov iv)
theorem subD_of {prog:Program} {w:World} {A:Around} {E:Value->Shared->Prop} {s:Shared} {env:Env} {value slice:Expr} {pos:Pos} {T id:String} {Q:Value->Shared->Prop}
  (hl:typeLookup (.type T) "__getitem__" = pure (some (.builtin id))) (hs:NoSl slice)
  (h:wpAny (model prog w) A (eval value env) (fun o s₁=>wpAny (model prog w) A (eval slice env) (fun i s₂=>s₂.TypeIs o T/\wpAny (model prog w) A (getItem o i) Q E s₂) E s₁) E s) :
  wpAny (model prog w) A (eval (.Subscript value slice pos) env) Q E s:=by
 refine Subscript_ (wpAny_mono h (fun o s₁ h₁=>wpAny_mono h₁ (fun i s₂ h₂=>?_) fun _ _ x=>x) fun _ _ x=>x)
 obtain ⟨hT,h₂⟩:=h₂
 unfold subscriptTail
 refine wpAny_bind ?_
 rw [getitemInPython_of_ne hT.not_modules]
 refine wpAny_bind (wpAny_specialOf hT hl ?_)
 have fin:wpAny (model prog w) A (subscripted slice false o i) (fun r s₃=>wpAny (model prog w) A (letTemporaryGo value o r >>= fun _=>pure r) Q E s₃) E s₂:=by
  rw [hs o i]
  exact wpAny_operating (wpAny_mono h₂ (fun r s₃ h₃=>wpAny_bind (wpAny_letTemporaryGo (wpAny_pure h₃))) fun _ _ x=>x)
 first
  | exact wpAny_pure (wpAny_bind fin)
  | exact wpAny_bind (wpAny_pure (wpAny_bind fin))
  | exact wpAny_bind fin
theorem dict_typeIs {X:Cx} {pins:List (Addr×Obj)} {σ : St} {H:Hp} {s:Shared} {a:Addr} {y:V} {o:Option V} (I:Inv X pins σ H s) (g:DGet H a y o):s.TypeIs (.ref a) "dict":=by
 rcases g with ⟨kvs,k,e,_,_⟩ | ⟨kvs,k,b,e,_,_,_⟩
 · obtain ⟨_, _, vs, _, dd⟩ := dk_rd I.hok e
   exact dd.typeIs
 · obtain ⟨_, _, xs, _, dd⟩ := dt_rd I.hok e
   exact dd.typeIs
def tDGet (td ty:TE):TE:=fun σ H Q=>td σ H fun x H1=>ty σ H1 fun y H2=>∃ a v,x = .ref a/\DGet H2 a y (some v)/\Q v H2
def tDNotIn (ty td:TE):TE:=fun σ H Q=>ty σ H fun y H1=>td σ H1 fun x H2=>∃ a o,x = .ref a/\DGet H2 a y o/\Q (.bl (!o.isSome)) H2
def sDPut (td ty tv:TE):TS:=fun D σ H=>tv σ H fun v H1=>td σ H1 fun x H2=>ty σ H2 fun y H3=>∃ a H4,x = .ref a/\DPut H3 a y v H4/\D.nx σ H4
section
variable {X:Cx} {o i e value:Expr} {pos pos' tpos:Pos} {td ty tv:TE}
theorem pe_dget (hu:X.A.units+1 < cLine) (ho:PE X o td) (hi:PE X i ty) (hs:NoSl i):PE X (.Subscript o i pos) (tDGet td ty):=by
 intro pins s σ H Q I h
 refine subD_of PySem.F.slot_dict_getitem.lookup hs (thn (ho pins s σ H _ I h) fun u s1 ⟨x,H1,I1,rx,q1⟩=>thn (hi pins s1 σ H1 _ I1 q1) fun iv s2 zq=>?_)
 obtain ⟨y,H2,I2,ry,a,v,ex,g,q2⟩:=zq
 subst ex
 obtain rfl:u=Value.ref a:=rx
 exact ⟨dict_typeIs I2 g,d_getItem hu I2 g ry fun w' s3 I3 rw'=>⟨v,H2,I3,rw',q2⟩⟩
theorem pc_dnotin (hu:X.A.units+1 < cLine) (hi:PE X i ty) (ho:PE X o td):PC X .NotIn i o (tDNotIn ty td):=by
 intro pins s σ H Q I h
 refine thn (hi pins s σ H _ I h) fun iv s1 ⟨y,H1,I1,ry,q1⟩=>thn (ho pins s1 σ H1 _ I1 q1) fun u s2 zq=>?_
 obtain ⟨x,H2,I2,rx,a,ov,ex,g,q2⟩:=zq
 subst ex
 obtain rfl:u=Value.ref a:=rx
 exact d_notIn hu I2 g ry fun s3 I3=>⟨.bl (!ov.isSome),H2,I3,rfl,q2⟩
theorem ps_dput (hu:X.A.units+1 < cLine) (ho:PE X o td) (hi:PE X i ty) (hv:PE X value tv) (hs:swapsWith value (some (.Subscript o i pos')) pos.line X.env=pure false) :
  PS X (.Assign [.Subscript o i pos'] value pos) (sDPut td ty tv):=by
 intro pins s σ H D I h
 refine wpAny_Assign_Subscript (thn (hv pins s σ H _ I h) fun r s1 ⟨v,H1,I1,rv,q1⟩=>thn (ho pins s1 σ H1 _ I1 q1) fun u s2 ⟨x,H2,I2,rx,q2⟩=>thn (hi pins s2 σ H2 _ I2 q2) fun iv s3 zq=>?_) hs
 obtain ⟨y,H3,I3,ry,a,H4,ex,g,q3⟩:=zq
 subst ex
 obtain rfl:u=Value.ref a:=rx
 exact d_setItem hu I3 g ry rv fun s4 I4=>⟨σ,H4,I4,q3⟩
end
theorem dk_empty {P:Program} {w:World} {H:Hp} (h:Heap) (hb:sysModules < h.objs.size):ObjOk P w H (h.push { cls:=.type "dict",data:=.dict #[] }) h.objs.size (.dK []) :=
 ⟨Nat.zero_le _,beq_eq_false_iff_ne.mpr (Ne.symm (Nat.ne_of_lt hb)),[],.nil,Heap.DictOf.new h⟩
def tDNewK:TE:=fun _ H Q=>∀ p,H p=none->Q (.ref p) (upd H p (.dK []))
section
variable {X:Cx} {pos:Pos}
theorem pe_dnewK:PE X (.Dict [] [] pos) tDNewK:=fun pins s σ H Q I h =>
 wpAny_Dict_empty ⟨.ref s.heap.objs.size,_,I.laid (a:=s.heap.objs.size) (o:=.dK []) (t':=s.toks) (fun _ _ q=>Heap.get?_push_of_some _ q) (Nat.le_refl _) (dk_empty s.heap I.big),rfl,h _ (I.hok.fresh (Nat.le_refl _))⟩
end
section
variable {X:Cx} {pins:List (Addr×Obj)} {σ : St} {H:Hp} {s:Shared} {a:Addr} {y d:V} {u r:Value} {o:Option V} {A:Around} {E:Value->Shared->Prop}
end
section
variable {X:Cx} {o e f:Expr} {apos cpos:Pos} {td ty tx:TE}
end
section
variable {X:Cx} {pins:List (Addr×Obj)} {σ : St} {H:Hp} {s:Shared} {a:Addr} {kvs:List (Key×V)} {A:Around} {E:Value->Shared->Prop}
end
section
variable {X:Cx} {pins:List (Addr×Obj)} {σ : St} {H:Hp} {s:Shared} {a:Addr} {y:V} {u:Value} {A:Around} {E:Value->Shared->Prop}
end
end L2
namespace Att
open PySem PySem.W PySem.Calls PyProof.Rows
theorem ints_of_wellAll {P:Params} {h:Heap} : ∀ (ns:List Int) (vs:List Value),WellAll P h vs (ns.map WData.int)->IntsAre vs ns:=by
 intro ns
 induction ns with
 | nil =>
   intro vs w
   rw [List.map_nil] at w
   cases w
   exact .nil
 | cons n ns ih =>
   intro vs w
   rw [List.map_cons] at w
   cases w with
   | cons a b =>
     cases a
     exact .cons _ _ (ih _ b)
theorem script_of {l:OpenLaw} {n:Nat} (hn:l.most=some n) {P:Params} {h:Heap} {args:List WData} {vals:List Value}
  (hpre:l.row.toRowW.claim.pre args=true) (hwl:WellAll P h vals args) :
  ∃ a vs ns,vals=[Value.ref a]/\args=[WData.list (ns.map WData.int)]/\h.get? a=some { cls:=.type "list",data:=.seq vs.toArray }/\IntsAre vs ns/\ns.length<=n:=by
 have hsh:WShape.hasAll [] args [.list .int]=true:=(pre_splitW hpre).1
 have hc:l.pre.holds [] { args:=args } = true:=(pre_splitW hpre).2
 obtain ⟨d,r,rfl,h1,h2⟩:=hasAllW_cons hsh
 obtain rfl:=hasAllW_nil h2
 obtain ⟨xs,rfl,h3⟩:=hasW_list h1
 obtain ⟨ns,rfl⟩:=items_int h3
 have hlen:ns.length<=n:=by
  unfold OpenLaw.pre at hc
  have h4:(WTm.not (.lt (.lit (.int (n:Int))) (.len (.arg 0)))).holds [] { args:=[.list (ns.map .int)] } = true:=by
   have h4:=(holds_andW hc).1
   rw [hn] at h4
   exact h4
  have h5:=condW_of h4 (w_not (w_lt w_lit (w_len_list (w_arg rfl))))
  rw [List.length_map] at h5
  refine Nat.le_of_not_lt fun q=>?_
  have q':(n:Int) < ((ns.length:Nat):Int):=by omega
  first
   | (rw [decide_eq_true q'] at h5; exact absurd h5 (by decide))
   | (simp at h5; omega)
 cases hwl with
 | cons w1 w2 =>
   cases w2
   cases w1 with
   | list ho hall=>exact ⟨_,_,ns,rfl,rfl,ho,ints_of_wellAll ns _ hall,hlen⟩
theorem post_true (l:OpenLaw) (args:List WData):l.row.toRowW.claim.post args (.bool true) args=true :=
 postW_of (r:=l.row.toRowW) (X:=(true == true))
  (show WShape.has [] (.bool true) .bool=true by first | rfl | decide | simp [WShape.has,WShape.arms,WShape.armsAll])
  (show (WTm.eq .res (.lit (.bool true))).value [] { args:=args,res:=some (.bool true),after:=args } = some (.bool (true == true)) from w_eq_bool (w_res rfl) w_lit) rfl
section
variable {prog:Program} {w:World} {A:Around} {E:Value->Shared->Prop} {s:Shared} {K:Frag}
end
end Att
namespace L2
open PySem PySem.Spec PyProof.Rows
theorem vals_ints:∀ {vs:List Value} {ns:List Int},IntsAre vs ns->Vals (ns.map V.int) vs
 | _,_,.nil=>.nil
 | _,_,.cons n t h=>.cons ⟨t,rfl⟩ (vals_ints h)
noncomputable def inClass (s:Stmt) (j:Nat):Stmt:=match s with
 | .ClassDef _ _ _ body _ _ _ _ _ _ _=>body.getD j (.Pass ⟨0,0,0,0⟩)
 | _=>.Pass ⟨0,0,0,0⟩
noncomputable def jU (s:Stmt):Arguments:=match s with
 | .FunctionDef _ a _ _ _ _ _ _ _ _=>a
 | _=>{ posonlyargs:=[],args:=[],vararg:=none,kwonlyargs:=[],kw_defaults:=[],kwarg:=none,defaults:=[] }
noncomputable def qE (s:Stmt):List Stmt:=match s with
 | .FunctionDef _ _ b _ _ _ _ _ _ _=>b
 | _=>[]
noncomputable def zH (s:Stmt):Scope:=match s with
 | .FunctionDef _ _ _ _ _ _ sc _ _ _=>sc
 | _=>{ kind:=.function,names:=[],isGenerator:=false,isCoroutine:=false }
abbrev CX0:CXT:=fun _ _ _ _ _ _=>False
abbrev E0:XK:=fun _ _ _=>False
theorem pass0 {X:Cx} : Passes CX0 X E0:=fun _ _ _ _ _ _ _ h=>h.elim
structure Fun (K:PySem.W.Frag) (x qual:Str) (st:Stmt) (f:Addr) (fd:FuncData):Prop where
 ex:∃ (oc:Value) (od:Option Addr) (kV doc pm:Value) (an:Option Addr) (cdv ct:Value) (osl:Array (Option Value)),
  fd=PySem.W.fnOf x qual (jU st) (qE st) (zH st) .none kV doc pm an cdv ct/\K.lookup f=some ⟨oc,od,.func fd,osl⟩/\PySem.W.codeIn K cdv qual=true
 kp:PySem.W.keepIn K (.ref f)=true
section
variable {P:Program} {w:World} {K:PySem.W.Frag} {mg:Str->Option Value} {base:Heap}
theorem Fun.ok {x qual:Str} {st:Stmt} {f:Addr} {fd:FuncData} {N ps:List Str} {k:Nat} {sp:Sp} (F:Fun K x qual st f fd) (S:FnScope N ps (zH st)) (len:∀ vs H Q E,sp vs H Q E->vs.length=ps.length)
  (hbody:∀ (cdv:Value) (A:Around) (outer:List Env) (s:Shared) (H:Hp) (vs:List V) (Q:VK) (E:XK),Room k (A.deeper (envOfC qual (zH st) s.heap.objs.size f cdv))->sp vs H Q E →
    ∃ t,PSs (cxOf CX0 P w K mg base N qual (zH st) f cdv A outer s H E).nox (qE st) t/\t { nx:=fun _ H'=>Q .non H',rt:=Q } (start N vs) H):FnOk P w K mg base CX0 (k+1) f fd ps sp:=by
 obtain ⟨oc,od,kV,doc,pm,an,cdv,ct,osl,rfl,lk,hcd⟩:=F.ex
 refine fn_of lk hcd S len fun A outer s H vs Q E hr hsp=>?_
 obtain ⟨t,h,q⟩:=hbody cdv A outer s H vs Q E hr hsp
 exact ⟨t,h.nox,q⟩
theorem Fun.binds {x qual:Str} {st:Stmt} {f:Addr} {fd:FuncData} {ps:List Str} (F:Fun K x qual st f fd)
  (h:∀ (kV doc pm:Value) (an:Option Addr) (cdv ct:Value) (us:List Value),us.length=ps.length->bindArgs (PySem.W.fnOf x qual (jU st) (qE st) (zH st) .none kV doc pm an cdv ct) ⟨us,[]⟩=pure (ps.zip us)):Binds K fd ps []:=by
 obtain ⟨oc,od,kV,doc,pm,an,cdv,ct,osl,rfl,lk,hcd⟩:=F.ex
 exact .all (h kV doc pm an cdv ct)
theorem fun_mk {x qual:Str} {st:Stmt} {f:Addr} {oc:Value} {od an:Option Addr} {osl:Array (Option Value)} {kV doc pm cdv ct:Value} (l:K.lookup f=some ⟨oc,od,.func (PySem.W.fnOf x qual (jU st) (qE st) (zH st) .none kV doc pm an cdv ct),osl⟩)
  (c:PySem.W.codeIn K cdv qual=true) (k:PySem.W.keepIn K (.ref f)=true):Fun K x qual st f (PySem.W.fnOf x qual (jU st) (qE st) (zH st) .none kV doc pm an cdv ct):=⟨⟨oc,od,kV,doc,pm,an,cdv,ct,osl,rfl,l,c⟩,k⟩
end
section
variable {X:Cx}
end
theorem iteF {A B:Prop} (h:B):if false=true then A else B:=by
 rw [if_neg Bool.false_ne_true]
 exact h
theorem iteT {A B:Prop} (h:A):if true=true then A else B:=by
 rw [if_pos rfl]
 exact h
def Same (H H':Hp):Prop:=∀ b o,H b=some o->H' b=some o
theorem Same.refl (H:Hp):Same H H:=fun _ _ h=>h
theorem Same.trans {H H1 H2:Hp} (a:Same H H1) (b:Same H1 H2):Same H H2:=fun c o h=>b c o (a c o h)
theorem Same.free {H H':Hp} (e:Same H H') {l:Addr} (h:H' l=Option.none):H l=Option.none:=by
 cases q:H l with
 | none=>rfl
 | some o =>
   rw [e l o q] at h
   cases h
theorem Same.seq {K:PySem.W.Frag} {H H':Hp} {a:Addr} {xs:List V} (e:Same H H') (h:SqL K H a xs):SqL K H' a xs:=by
 rcases h with (h | ⟨o,h⟩) | h
 · exact .inl (.inl (e _ _ h))
 · exact .inl (.inr ⟨o,e _ _ h⟩)
 · exact .inr h
section
variable {X:Cx}
end
section
variable {κ : Type} [DecidableEq κ]
end
noncomputable def wB (env:Env):List (Str×NameKind)->List (Str×Addr)->List (Str×Addr)
 | [],cs=>cs
 | (n,k)::r,cs=>wB env r (if k == NameKind.free then (match env.cells.lookup n with | some c=>(n,c)::cs | none=>cs) else cs)
theorem closureFor_of {scope:Scope} {env:Env} (h:∀ y∈scope.names,y.2=NameKind.free->∃ c,env.cells.lookup y.1=some c):closureFor scope env=pure (wB env scope.names []):=by
 simp only [closureFor]
 generalize ([]:List (Str×Addr))=cs
 revert h cs
 generalize scope.names=l
 intro h
 induction l with
 | nil=>intro cs; rfl
 | cons y r ih =>
   intro cs
   obtain ⟨n,k⟩:=y
   have ihr:=ih fun z hz=>h z (List.mem_cons_of_mem _ hz)
   simp only [List.forIn_cons,wB]
   by_cases hk:k=NameKind.free
   · obtain ⟨c, hc⟩ := h (n, k) List.mem_cons_self hk
     have hc':env.cells.lookup n=some c:=hc
     have hcell:cellOf env n=pure c:=by unfold cellOf; rw [hc']
     subst hk
     simp only [hcell,hc',beq_self_eq_true,if_true,pure_bind,bind_pure_comp,map_pure,bind_assoc]
     first
      | exact ihr _
      | simpa using ihr _
   · have hb : (k == NameKind.free) = false := by simpa using hk
     simp only [hb,Bool.false_eq_true,if_false,pure_bind]
     first
      | exact ihr _
      | simpa using ihr _
theorem closL_from {env:Env} : ∀ (l:List (Str×NameKind)) (cs:List (Str×Addr)),(∀ x c,cs.lookup x=some c->env.cells.lookup x=some c)->∀ x c,(wB env l cs).lookup x=some c->env.cells.lookup x=some c
 | [],_,h=>h
 | (n, k) :: r, cs, h => by
   unfold wB
   refine closL_from r _ fun x c e=>?_
   split at e
   · cases hc : env.cells.lookup n with
     | none=>rw [hc] at e; exact h x c e
     | some c' =>
       rw [hc] at e
       simp only [List.lookup_cons] at e
       by_cases hx:x == n
       · rw [hx] at e
         cases e
         rw [beq_iff_eq] at hx
         rw [hx]
         exact hc
       · have hx' : (x == n) = false := by simpa using hx
         rw [hx'] at e
         exact h x c e
   · exact h x c e
theorem closL_keep {env:Env} : ∀ (l:List (Str×NameKind)) (cs:List (Str×Addr)) (x:Str),(∃ c,cs.lookup x=some c)->∃ c,(wB env l cs).lookup x=some c
 | [],_,_,h=>h
 | (n, k) :: r, cs, x, h => by
   unfold wB
   refine closL_keep r _ x ?_
   split
   · cases hc : env.cells.lookup n with
     | none=>exact h
     | some c' =>
       simp only [List.lookup_cons]
       by_cases hx:x == n
       · rw [hx]; exact ⟨_,rfl⟩
       · have hx' : (x == n) = false := by simpa using hx
         rw [hx']; exact h
   · exact h
theorem vJ {env:Env} : ∀ (l:List (Str×NameKind)) (cs:List (Str×Addr)) (x:Str) (c:Addr),(x,NameKind.free)∈l->env.cells.lookup x=some c->∃ c,(wB env l cs).lookup x=some c
 | [],_,_,_,h,_=>nomatch h
 | (n, k) :: r, cs, x, c, h, hc => by
   unfold wB
   rcases List.mem_cons.mp h with e | e
   · cases e
     refine closL_keep r _ _ ?_
     simp only [beq_self_eq_true,if_true,hc,List.lookup_cons]
     exact ⟨_,rfl⟩
   · exact vJ r _ x c e hc
theorem lookup_relabel_free {env:Env} : ∀ {names:List (Str×NameKind)} {x:Str},names.lookup x=some NameKind.free →
  (names.map fun (n,k)=>if (k == NameKind.free && env.scope.kind == .function && env.kindOf n == some .cell) then (n,NameKind.cell) else (n,k)).lookup x=some NameKind.cell ∨
  (names.map fun (n,k)=>if (k == NameKind.free && env.scope.kind == .function && env.kindOf n == some .cell) then (n,NameKind.cell) else (n,k)).lookup x=some NameKind.free
 | [],_,h=>by simp at h
 | (n, k) :: r, x, h => by
   have ih:=@lookup_relabel_free env r x
   simp only [List.map_cons]
   cases hx:x == n with
   | true =>
     simp only [List.lookup_cons,hx] at h
     cases h
     by_cases hc:(NameKind.free == NameKind.free && env.scope.kind == .function && env.kindOf n == some .cell)=true
     · rw [if_pos hc]; left; simp only [List.lookup_cons,hx]
     · rw [if_neg hc]; right; simp only [List.lookup_cons,hx]
   | false =>
     simp only [List.lookup_cons,hx] at h
     by_cases hc:(k == NameKind.free && env.scope.kind == .function && env.kindOf n == some .cell)=true
     · rw [if_pos hc]; simp only [List.lookup_cons,hx]; exact ih h
     · rw [if_neg hc]; simp only [List.lookup_cons,hx]; exact ih h
theorem xY {env:Env} : ∀ {names:List (Str×NameKind)} {x:Str} {k':NameKind},(∀ y∈names,y.2≠NameKind.cell) →
  (names.map fun (n,k)=>if (k == NameKind.free && env.scope.kind == .function && env.kindOf n == some .cell) then (n,NameKind.cell) else (n,k)).lookup x=some k'->(k'=NameKind.cell \/ k'=NameKind.free)->(x,NameKind.free)∈names
 | [],_,_,_,h,_=>by simp at h
 | (n, k) :: r, x, k', hn, h, hk => by
   have ih:=@xY env r x k' fun y hy=>hn y (List.mem_cons_of_mem _ hy)
   simp only [List.map_cons] at h
   cases hx:x == n with
   | true =>
     have ex:x=n:=by simpa using hx
     by_cases hc:(k == NameKind.free && env.scope.kind == .function && env.kindOf n == some .cell)=true
     · have:k=NameKind.free:=by
        simp only [Bool.and_eq_true,beq_iff_eq] at hc
        exact hc.1.1
       subst this; subst ex
       exact List.mem_cons_self
     · rw [if_neg hc] at h
       simp only [List.lookup_cons,hx] at h
       cases h
       rcases hk with hk | hk
       · exact absurd hk (hn (n,k) List.mem_cons_self)
       · subst hk; subst ex; exact List.mem_cons_self
   | false =>
     by_cases hc:(k == NameKind.free && env.scope.kind == .function && env.kindOf n == some .cell)=true
     · rw [if_pos hc] at h; simp only [List.lookup_cons,hx] at h; exact List.mem_cons_of_mem _ (ih h hk)
     · rw [if_neg hc] at h; simp only [List.lookup_cons,hx] at h; exact List.mem_cons_of_mem _ (ih h hk)
section
variable {X:Cx}
structure CI where
 C:Addr
 s:Shared
 H:Hp
 ex:List Addr
noncomputable def qT (X:Cx) (scope:Scope) (NY:List Str) (c:CI):Cx where
 prog:=X.prog
 w:=X.w
 K:=X.K
 mg:=X.mg
 base:=X.base
 A:=X.A
 N:=NY
 s₀:=c.s
 H₀:=c.H
 env:=compEnvC scope (wB X.env scope.names []) c.C X.env
 outer:=X.stack
 stack:=X.stack
 ex:=c.ex
 fn:=fun _=>false
 calm:=X.calm
 pn:=[]
 xe:=fun _ _=>False
theorem Inv.adopt {pins:List (Addr×Obj)} {σ : St} {H:Hp} {s:Shared} {a:Addr} {o:HO} (I:Inv X pins σ H s) (hn:H a=none) (young:X.s₀.heap.objs.size<=a) (hL:a≠X.env.locals)
  (hc:∀ x c,X.env.cells.lookup x=some c->c≠a) (hp:∀ p∈X.pn++pins,p.1≠a) (new:ObjOk X.prog X.w (upd H a o) s.heap a o):Inv X pins σ (upd H a o) s:=by
 have ne:∀ {b:Addr} {u:HO},H b=some u->b≠a:=fun e z=>by rw [z,hn] at e; cases e
 refine ⟨I.ok,I.os,I.bare,⟨I.base.keep,I.base.slot,fun b ob q n hx=>?_,I.base.there,fun b xs q=>?_,fun b ob u q=>?_,fun b ps q=>?_⟩,I.loc,I.cell,?_,fun x c e=>?_,fun p hpm=>?_,fun b u e=>?_,I.len⟩
 · rw [upd_ne (Nat.ne_of_lt (Nat.lt_of_lt_of_le (Heap.lt_size q) young))]
   exact I.base.free b ob q n hx
 · have := I.base.tups b xs q
   rw [upd_ne (ne this)]; exact this
 · have := I.base.frzs b ob u q
   rw [upd_ne (ne this)]; exact this
 · have := I.base.tbls b ps q
   rw [upd_ne (ne this)]; exact this
 · rw [upd_ne (Ne.symm hL)]; exact I.free
 · have := I.freeC x c e
   unfold FreeC at this ⊢
   rw [upd_ne (hc x c e)]; exact this
 · obtain ⟨h1, h2, h3⟩ := I.pin p hpm
   exact ⟨h1,by rw [upd_ne (hp p hpm)]; exact h2,h3⟩
 · by_cases hb : b = a
   · subst hb; rw [upd_same] at e; cases e; exact new
   · rw [upd_ne hb] at e
     exact (I.hok b u e).stay (fun c v _ q=>q) (fun c q=>by rw [upd_ne (ne q)]; exact q) fun c xs q=>by rw [upd_ne (ne q)]; exact q
def PF (X:Cx) (ifs:List Expr) (t:TT):Prop :=
 ∀ (pins:List (Addr×Obj)) (s:Shared) (σ : St) (H:Hp) (Q:Bool->Hp->Prop),Inv X pins σ H s->t σ H Q →
  wpAny (model X.prog X.w) X.A (forIn ifs true fun c r=>if r=true then do let ok <- isTrue c X.env (eval c X.env); pure (ForInStep.yield ok) else pure (ForInStep.yield r)) (TP X pins σ Q) X.xe s
def tNoIf:TT:=fun _ H Q=>Q true H
theorem pf_nil:PF X [] tNoIf:=fun _ _ _ H _ I h=>wpAny_tests_nil ⟨H,I,h⟩
theorem pf_one {c:Expr} {t:TT} (h:PT X c t):PF X [c] t:=fun pins s σ H Q I q=>wpAny_tests_one (h pins s σ H Q I q)
noncomputable def slotsY (mp:List (Option Nat)) (σ : St):St:=mp.map fun o=>o.bind fun j=>σ[j]?.join
def tCompK (J:It) (mp:List (Option Nat)) (g:CI->TG) (tt:CI->TT) (te:CI->TE) (σ : St) (H1:Hp) (R:List V->Hp->Prop):Prop :=
 ∀ c:CI,∃ W:Nat->Nat->List V->Hp->Prop,(∃ m,W 0 m [] H1)/\∀ i m ys H,W i m ys H →
  (J.stop i H/\R ys H) ∨
  (J.go i H/\ys.length < sizeLine/\∀ x H',J.yld i H x H'->g c x (slotsY mp σ) H' fun σ2 H2=>tt c σ2 H2 fun b H3 =>
    if b=true then te c σ2 H3 fun y H4=>∃ m',m' < m/\W (i+1) m' (ys++[y]) H4 else ∃ m',m' < m/\W (i+1) m' ys H3)
def tComp (wi:TI) (mp:List (Option Nat)) (g:CI->TG) (tt:CI->TT) (te:CI->TE):TE:=fun σ H Q=>wi σ H fun J H1 =>
 tCompK J mp g tt te σ H1 fun ys H'=>ys.length<=sizeLine/\∀ p,H' p=none->Q (.ref p) (upd H' p (.lst ys))
structure CompScope (X:Cx) (scope:Scope) (NY:List Str) (mp:List (Option Nat)):Prop where
 kind:scope.kind = .function
 nocell:∀ y∈scope.names,y.2≠.cell
 names:∀ y∈scope.names,y.2 = .local->scope.names.lookup y.1=some .local
 free:∀ y∈scope.names,y.2 = .free->(X.env.kindOf y.1=some .cell \/ X.env.kindOf y.1=some .free)
 len:mp.length=NY.length
 map:∀ (i:Nat) (x:Str) (j:Nat),NY[i]? = some x->mp[i]? = some (some j)->X.N[j]? = some x/\scope.names.lookup x=some .free
theorem compLoop_own {prog:Program} {w:World} {A:Around} {R:Result->Shared->Prop} {s:Shared} {elt target iter:Expr} {ifs:List Expr} {scope:Scope} {pos:Pos} {it acc:Value} {env:Env} {Z:Value->Shared->Prop} (hZ:∀ e s,Z e s->notedBy (model prog w) A env (fun x s'=>R (.error x) s') e s) (I:Nat->Shared->Prop)
  (turn:∀ n s,I n s->wpAny (model prog w) A (pyNext it) (fun r s₁=>match r with
    | none=>R (.ok .next) s₁
    | some v=>wpAny (model prog w) A (letOwnedTupleGo target it v) (fun _ s₁'=>wpAny (model prog w) A (assign target env v) (fun _ s₂ =>
       wpAny (model prog w) A (forIn ifs true fun c r=>if r=true then do let ok <- isTrue c env (eval c env); pure (ForInStep.yield ok) else pure (ForInStep.yield r)) (fun ok s₃ =>
        if ok=true then wpAny (model prog w) A (eval elt env) (fun x s₄ =>
         wpAny (model prog w) A (call (.builtin "list.append") [acc,x]) (fun _ s₅=>∃ m,m < n/\I m s₅) (fun _ _=>False) s₄) Z s₃
        else ∃ m,m < n/\I m s₃) (fun _ _=>False) s₂) (fun _ _=>False) s₁') (fun _ _=>False) s₁) (fun _ _=>False) s)
  (n:Nat) (h:I n s) :
  codeAny (model prog w) A (.compLoop (.ListComp elt [⟨target,iter,ifs,0⟩] scope pos) 0 it acc env) R s:=by
 refine codeAny_loop rfl I (fun n s hI=>?_) n h
 show wpAny _ A ((compTurn (.ListComp elt [⟨target,iter,ifs,0⟩] scope pos) 0 it acc env).onRaise (fun x=>do noteFrame x env; theTreesLotGoes x)) _ _ s
 refine wpAny_noted ?_
 rw [compTurn_list]
 refine wpAny_bind (wpAny_standAt (wpAny_bind (wpAny_mono (turn n s hI) (fun r s₁ h₁=>?_) fun _ _ h'=>h'.elim)))
 cases r with
 | none=>exact wpAny_pure h₁
 | some v =>
   refine wpAny_bind (wpAny_mono h₁ (fun _ s₁' h₁'=>?_) fun _ _ h'=>h'.elim)
   refine wpAny_bind (wpAny_mono h₁' (fun _ s₂ h₂=>wpAny_bind (wpAny_mono h₂ (fun ok s₃ h₃=>?_) fun _ _ h'=>h'.elim)) fun _ _ h'=>h'.elim)
   cases ok with
   | false=>exact wpAny_pure ⟨rfl,h₃⟩
   | true =>
     exact wpAny_bind (wpAny_bind (wpAny_mono h₃ (fun x s₄ h₄=>wpAny_bind (wpAny_mono h₄ (fun _ s₅ h₅=>wpAny_pure (wpAny_pure ⟨rfl,h₅⟩)) fun _ _ h'=>h'.elim)) fun e s' h'=>hZ e s' h'))
theorem comp_block {E:Value->Shared->Prop} {scope:Scope} {NY:List Str} {mp:List (Option Nat)} {tg iter elt:Expr} {ifs:List Expr} {pos:Pos} {g:CI->TG} {tt:CI->TT} {te:CI->TE} {pins:List (Addr×Obj)} {σ : St} {H:Hp} {s₂ : Shared}
  {J:It} {fp:List Addr} {it:Addr} {tn:Nat->Heap->Prop} {R:List V->Hp->Prop} {RR:Value->Addr->Result->Shared->Prop}
  {WW:CI->Value->Shared->Prop} {cm:Cx->Prop} (S:CompScope X scope NY mp) (hc:∀ c:CI,c.H=H->cm (qT X scope NY c)) (I:Inv X pins σ H s₂) (T:Turn X.prog X.w X.K tg J fp it tn cm) (st:tn 0 s₂.heap) (hf:∀ b∈fp,FpOk X pins H b)
  (hg:∀ c,PG (qT X scope NY c) tg (g c)) (ht:∀ c,PF (qT X scope NY c) ifs (tt c)) (he:∀ c,PE ((qT X scope NY c).wish (WW c)) elt (te c))
  (err:∀ c:CI,X.s₀.heap.objs.size<=c.C->c.C ∉ frs X.stack->(∀ pl σ' H' s1,Inv (qT X scope NY c) pl σ' H' s1->Inv X pins σ H' s1)->∀ e s',WW c e s'->notedBy (model X.prog X.w) X.A (qT X scope NY c).env (fun x s''=>RR (.ref s₂.heap.objs.size) c.C (.error x) s'') e s')
  (h:tCompK J mp g tt te σ H R)
  (fin:∀ (s':Shared) (C:Addr) (m:Str->Option Value) (ys:List V) (H':Hp),R ys H'->H' s₂.heap.objs.size=none->H' C=none->C≠s₂.heap.objs.size->s'.heap.Ns C m →
    (ys.length<=sizeLine->Inv X pins σ (upd H' s₂.heap.objs.size (.lst ys)) s') →
    (C≠X.env.locals/\X.s₀.heap.objs.size<=C/\(∀ x c,X.env.cells.lookup x=some c->c≠C)/\∀ p∈X.pn++pins,p.1≠C)->RR (.ref s₂.heap.objs.size) C (.ok .next) s') :
  wpAny (model X.prog X.w) X.A (newList []) (fun acc s₃=>wpAny (model X.prog X.w) X.A (newFunctionEnv scope X.env.globals (wB X.env scope.names []) [] X.env.qual none .none (some X.env)) (fun cenv s₄ =>
   codeAny (model X.prog X.w) X.A (.compStart (.ListComp elt [⟨tg,iter,ifs,0⟩] scope pos) 0 (.ref it) acc { cenv with scope:=relabel scope X.env }) (RR acc cenv.locals) s₄) E s₃) E s₂:=by
 refine wpAny_newObj_type (wpAny_newFunctionEnv S.nocell (by intro y hy; simp at hy) (fun h₁ hns₁ hsb₁=>?_) S.kind)
 dsimp only at hns₁ hsb₁ ⊢
 generalize hH2:s₂.heap.push { cls:=.type "list",dict:=none,data:=.seq ([]:List Value).toArray } = H2 at hns₁ hsb₁ ⊢
 have hC:(H2.objs.size:Nat)=s₂.heap.objs.size+1:=by rw [<- hH2,Heap.size_push]
 generalize hDd:s₂.heap.objs.size=D at fin err hC ⊢
 generalize hCC:H2.objs.size=C at hns₁ hsb₁ hC ⊢
 have hC:(C:Nat)=(D:Nat)+1:=hC
 have hDC:D≠C:=fun z=>absurd (z.trans hC) (Nat.ne_of_lt (Nat.lt_succ_self _))
 have ltC:∀ {b:Addr},b < D->b≠C:=fun {b} h=>Nat.ne_of_lt (Nat.lt_of_lt_of_eq (Nat.lt_succ_of_lt h) hC.symm)
 have ltD:∀ {b:Addr},b < D->b≠D:=fun {b} h=>Nat.ne_of_lt h
 have hlt:∀ {b:Addr} {o:Obj},s₂.heap.get? b=some o->(b:Nat) < D:=fun e=>hDd ▸ Heap.lt_size e
 have k2:∀ b o,s₂.heap.get? b=some o->H2.get? b=some o:=fun b o e=>hH2 ▸ Heap.get?_push_of_some _ e
 have k1:∀ b o,H2.get? b=some o->h₁.get? b=some o:=fun b o e=>by
  have hb:b < C:=hCC ▸ Heap.lt_size e
  exact hsb₁.extBut b o (Nat.ne_of_lt hb) (Heap.get?_push_of_some _ e)
 have fr:∀ a,D<=a->H a=none:=fun a ha=>I.hok.fresh (hDd ▸ ha)
 have accP:h₁.PlainList D #[]:=⟨_,k1 _ _ (by rw [<- hH2,<- hDd]; exact Heap.get?_push_size _ rfl)⟩
 have fpo:∀ b∈fp,(b:Nat) < D:=fun b hb=>let ⟨o,e,_⟩:=T.obj 0 _ st b hb; hlt e
 have clF:∀ x c,(wB X.env scope.names []).lookup x=some c->X.env.cells.lookup x=some c:=closL_from _ _ fun x c e=>nomatch e
 have cellLt:∀ x c,X.env.cells.lookup x=some c->(c:Nat) < D:=fun x c e=>by
  obtain ⟨v,o,ho,_⟩:=I.cell x c e
  exact hlt ho
 have locLt:(X.env.locals:Nat) < D:=hDd ▸ I.lt
 have stkLt:∀ b∈frs X.stack,(b:Nat) < D:=fun b hb=>by
  obtain ⟨_,o,ho,_⟩:=I.stack.mem hb
  exact hlt ho
 have fpStk:∀ b∈fp,b ∉ frs X.stack:=fun b hb z=>by
  obtain ⟨_,f1,f2,_⟩:=hf b hb
  rcases List.mem_cons.mp (I.stkSub b z) with q | q
  · exact f1 q
  · exact f2 q
 have pinLt:∀ p∈X.pn++pins,(p.1:Nat) < D:=fun p hp=>hlt (I.pin p hp).1
 have pinStk:∀ p∈X.pn++pins,p.1 ∉ frs X.stack:=fun p hp z=>by
  obtain ⟨_,_,f1,f2,_⟩:=I.pin p hp
  rcases List.mem_cons.mp (I.stkSub _ z) with q | q
  · exact f1 q
  · exact f2 q
 let Y:Cx:=qT X scope NY ⟨C,{ s₂ with heap:=H2 },H,D::fp⟩
 obtain ⟨W,⟨m0,w0⟩,turn⟩:=h ⟨C,{ s₂ with heap:=H2 },H,D::fp⟩
 have okY:Y.Ok:=by
  refine ⟨I.ok.mod,S.kind,I.ok.glob,I.ok.blt,Nat.le_of_eq hCC,fun x y c h1 h2=>I.ok.inj x y c (clF _ _ h1) (clF _ _ h2),fun x hx=>?_,fun x c hfn=>absurd hfn (by intro z; cases z),I.ok.hd,I.ok.frames,.inl rfl,fun b hb=>?_,fun b o e=>?_,?_,fun b o e=>?_,fun b hb=>?_,?_,I.stkFree⟩
  · have hx':(x,NameKind.free)∈scope.names:=by
     rcases hx with hx | hx
     · exact xY S.nocell hx (.inl rfl)
     · exact xY S.nocell hx (.inr rfl)
    obtain ⟨c,e⟩:=I.ok.has x (S.free _ hx' rfl)
    exact vJ _ _ x c hx' e
  · rcases List.mem_cons.mp hb with z | z
    · subst z
      exact ⟨hDC,fun x c e q=>absurd (cellLt x c (clF x c e)) (by rw [q]; exact Nat.lt_irrefl _)⟩
    · have := fpo b z
      exact ⟨ltC this,fun x c e q=>(hf b z).2.2.2.2.1 x c (clF x c e) q⟩
  · have := I.bs b o e
    exact ⟨k2 b o this.1,this.2⟩
  · refine ⟨?_, I.tabsH⟩
    show (X.base.objs.size:Nat)<=H2.objs.size
    have h1:(X.base.objs.size:Nat)<=s₂.heap.objs.size:=Nat.le_trans I.ok.bsz.1 I.sz
    have h2:(H2.objs.size:Nat)=C:=hCC
    have h3:(s₂.heap.objs.size:Nat)=D:=hDd
    omega
  · have hb := I.bs b o e
    have hb':=hlt hb.1
    intro z
    rcases List.mem_cons.mp z with z | z
    · rw [z] at hb'; exact Nat.lt_irrefl _ hb'
    · rcases (hf b z).2.2.2.1 with q | q
      · exact I.ok.noex b o e q
      · exact absurd (Nat.lt_of_lt_of_le (Heap.lt_size (I.ok.bs b o e).1) q) (Nat.lt_irrefl _)
  · rcases List.mem_cons.mp hb with z | z
    · subst z
      exact fun q=>absurd (stkLt _ q) (Nat.lt_irrefl _)
    · exact fpStk b z
  · exact I.stack.of_keeps fun b o e _=>⟨o,k2 b o e,rfl⟩
 have capt:∀ (i:Nat) (x:Str) (v:V),NY[i]? = some x->(slotsY mp σ)[i]? = some (some v)->∃ u c,RelV v u/\(Y.env.kindOf x=some .cell \/ Y.env.kindOf x=some .free)/\Y.env.cells.lookup x=some c/\H2.IsCell c (some u)/\(H c=none \/ ∃ o u,H c=some (.frz o u))/\c ∉ D::fp:=by
  intro i x v e1 e2
  have e2':(mp[i]?.map fun o=>o.bind fun j=>σ[j]?.join)=some (some v):=by
   unfold slotsY at e2
   rwa [List.getElem?_map] at e2
  cases hm:mp[i]? with
  | none=>rw [hm] at e2'; cases e2'
  | some o =>
    rw [hm] at e2'
    cases o with
    | none=>simp at e2'
    | some j =>
      simp only [Option.map_some,Option.bind_some,Option.some.injEq] at e2'
      have e4 : σ[j]? = some (some v):=by
       cases hs : σ[j]? with
       | none=>rw [hs] at e2'; cases e2'
       | some q=>rw [hs] at e2'; simp at e2'; rw [e2']
      obtain ⟨hXj,hfr⟩:=S.map i x j e1 hm
      have hmem:(x,NameKind.free)∈scope.names:=PySem.mem_of_lookup hfr
      have hk:=S.free _ hmem rfl
      obtain ⟨m,hn,hl⟩:=I.loc
      obtain ⟨u,ru,l⟩:=hl j x v hXj e4 (hk.elim (fun z=>.inr (.inl z)) fun z=>.inr (.inr z))
      have hlook:∃ c,X.env.cells.lookup x=some c/\s₂.heap.IsCell c (some u):=by
       rcases l with ⟨kl,_⟩ | ⟨_,c,ec,hcell⟩
       · rcases hk with q | q
         · exact absurd (kl.symm.trans q) (by intro z; cases z)
         · exact absurd (kl.symm.trans q) (by intro z; cases z)
       · exact ⟨c,ec,hcell⟩
      obtain ⟨c,ec,oc,hoc,hocd⟩:=hlook
      obtain ⟨c',ec'⟩:=vJ (env:=X.env) scope.names [] x c hmem ec
      have:c'=c:=Option.some.inj ((clF x c' ec').symm.trans ec)
      subst this
      refine ⟨u,c',ru,lookup_relabel_free hfr,ec',⟨oc,k2 _ _ hoc,hocd⟩,(I.freeC x c' ec).imp id And.right,fun z=>?_⟩
      rcases List.mem_cons.mp z with z | z
      · have:=cellLt x c' ec; rw [z] at this; exact Nat.lt_irrefl _ this
      · exact (hf c' z).2.2.2.2.1 x c' ec rfl
 have lenY:(slotsY mp σ).length=NY.length:=by
  unfold slotsY
  rw [List.length_map]
  exact S.len
 have I0:∀ tk,Inv Y [] (slotsY mp σ) H { s₂ with heap:=h₁,toks:=tk }:=by
  intro tk
  refine ⟨okY,rfl,I.bare,Un.kept k1,⟨_,hns₁,fun i x v e1 e2 e3=>?_⟩,fun x c e=>?_,fr C (by show (D:Nat)<=C; omega),fun x c e=>(I.freeC x c (clF x c e)).imp id fun z=>⟨rfl,z.2⟩,fun p hp=>absurd (show p∈([]:List (Addr×Obj)) from hp) (by simp),I.hok.kept fun b o e=>k1 b o (k2 b o e),lenY⟩
  · obtain ⟨u, c, ru, hk, ec, ⟨oc, hoc, hocd⟩, _⟩ := capt i x v e1 e2
    exact ⟨u,ru,.inr ⟨hk,c,ec,oc,k1 _ _ hoc,hocd⟩⟩
  · obtain ⟨v, o, ho, hd⟩ := I.cell x c (clF x c e)
    exact ⟨v,o,k1 _ _ (k2 _ _ ho),hd⟩
 have stat:∀ {H':Hp} {pl:List (Addr×Obj)},(∀ p∈pl,p.1 ∉ fp)->(∀ b∈fp,H' b=none)->∀ b∈fp,FpOk Y pl H' b:=fun hpl hn b hb=>by
  have hbD:=fpo b hb
  refine ⟨hn b hb,ltC hbD,fpStk b hb,.inl (List.mem_cons_of_mem _ hb),fun x c e=>(hf b hb).2.2.2.2.1 x c (clF x c e),fun p hp z=>hpl p (show p∈_ from hp) (z ▸ hb)⟩
 have dN:D ∉ Y.fs:=fun q=>absurd (stkLt _ q) (Nat.lt_irrefl _)
 have dFp:D ∉ fp:=fun q=>absurd (fpo _ q) (Nat.lt_irrefl _)
 have plD:∀ (o:Obj),∀ p∈[(D,o)],p.1 ∉ fp:=fun o p hp=>by
  have e:p=(D,o):=by simpa using hp
  rw [e]; exact dFp
 have toX:∀ pl σ' H3 s4,Inv Y pl σ' H3 s4->Inv X pins σ H3 s4:=fun pl σ' H3 s4 I4=>by
  have u:Un (frs X.stack) fp H H3 s₂.heap s4.heap:=by
   have B:Un (frs X.stack) (D::fp) H H3 H2 s4.heap:=I4.base
   have nx:∀ {b:Addr} {o:Obj},s₂.heap.get? b=some o->b ∉ fp->b ∉ D::fp:=fun e hb z=>by
    rcases List.mem_cons.mp z with z | z
    · have:=hlt e; rw [z] at this; exact Nat.lt_irrefl _ this
    · exact hb z
   exact ⟨fun b o q n hb hx=>B.keep b o (k2 b o q) n hb (nx q hx),fun b o q n hb hx=>B.slot b o (k2 b o q) n hb (nx q hx),fun b o q n hx=>B.free b o (k2 b o q) n (nx q hx),fun b o q hx=>B.there b o (k2 b o q) (nx q hx),B.tups,B.frzs,B.tbls⟩
  exact I.call' I4.os u I4.hok I4.bare fun b hb=>⟨(hf b hb).2.2.2.1,(hf b hb).2.1,(hf b hb).2.2.2.2.1,(hf b hb).2.2.2.2.2⟩
 have keyC:∀ (tk:Nat) (it':Value),it' = .ref it->codeAny (model X.prog X.w) X.A (.compLoop (.ListComp elt [⟨tg,iter,ifs,0⟩] scope pos) 0 it' (.ref D) Y.env) (RR (.ref D) C) { s₂ with heap:=h₁,toks:=tk }:=by
  rintro tk _ rfl
  refine compLoop_own (Z:=WW ⟨C,{ s₂ with heap:=H2 },H,D::fp⟩) (fun e s' z=>err ⟨C,{ s₂ with heap:=H2 },H,D::fp⟩ (by have:(X.s₀.heap.objs.size:Nat)<=D:=hDd ▸ I.sz; show (X.s₀.heap.objs.size:Nat)<=C; omega) (fun q=>absurd (stkLt _ q) (by show ¬ (C:Nat) < D; omega)) toX e s' z) (fun n s'=>∃ i ys H' its,Inv Y [] (slotsY mp σ) H' s'/\tn i s'.heap/\(∀ b∈fp,H' b=none)/\H' D=none/\s'.heap.PlainList D its/\Vals ys its.toList/\W i n ys H') ?_ m0
   ⟨0,[],H,#[],I0 tk,T.keep 0 _ _ st fun b _ o e=>k1 b o (k2 b o e),fun b hb=>(hf b hb).1,fr D (Nat.le_refl _),accP,.nil,w0⟩
  rintro n s3 ⟨i,ys,H3,its,I3,st3,fr3,d3,⟨kk,pl3⟩,rv3,w3⟩
  have I3':Inv Y [(D,{ cls:=.type "list",data:=.seq its kk })] (slotsY mp σ) H3 s3:=I3.pins_of fun p hp=>by
   have e:p=(D,{ cls:=.type "list",data:=.seq its kk }):=by simpa using hp
   subst e
   exact ⟨pl3,d3,hDC,dN,fun v z=>nomatch (show Data.seq its kk=Data.cell v from z)⟩
  rcases turn i n ys H3 w3 with ⟨stop,qn⟩ | ⟨go,hsz,step⟩
  · refine thn (T.done Y rfl rfl rfl (hc ⟨C, { s₂ with heap := H2 }, H, D :: fp⟩ rfl) i _ s3 _ H3 _ I3' (stat (plD _) fr3) st3 stop) fun r s4 zq => ?_
    obtain ⟨hr,I4⟩:=zq
    subst hr
    have hD4:s4.heap.get? D=some { cls:=.type "list",data:=.seq its kk }:=(I4.pin (D,_) (by simp)).1
    have J4:Inv X pins σ H3 s4:=toX _ _ _ _ I4
    obtain ⟨m4,hn4,_⟩:=I4.loc
    refine fin s4 C m4 ys H3 qn d3 I4.free (Ne.symm hDC) hn4 (fun hz=>?_) ⟨(ltC locLt).symm,?_,fun x c e=>?_,fun p hp=>?_⟩
    · refine J4.adopt d3 ?_ (ltD locLt).symm (fun x c e => ?_) (fun p hp => ?_) ⟨hz, its.toList, kk, rv3, hD4⟩
      · exact hDd ▸ I.sz
      · exact ltD (cellLt x c e)
      · exact ltD (pinLt p hp)
    · have : (X.s₀.heap.objs.size : Nat) <= D := hDd ▸ I.sz
      show (X.s₀.heap.objs.size:Nat)<=C
      omega
    · exact ltC (cellLt x c e)
    · exact ltC (pinLt p hp)
  · refine thn (T.item Y rfl rfl rfl (hc ⟨C, { s₂ with heap := H2 }, H, D :: fp⟩ rfl) i _ s3 _ H3 _ I3' (stat (plD _) fr3) st3 go) fun r s4 zq => ?_
    obtain ⟨u,hr,h4⟩:=zq
    subst hr
    refine thn h4 fun _ s5 zq=>?_
    obtain ⟨x,H5,I5,r5,y5,st5,fr5⟩:=zq
    have I5':=I5.pinned (stat (plD _) fr5) (T.obj _ _ st5)
    refine thn (hg _ _ s5 _ H5 x u _ I5' r5 (step x H5 y5)) fun _ s6 zq=>?_
    obtain ⟨σ6,H6,I6,q6⟩:=zq
    refine thn (ht _ _ s6 σ6 H6 _ I6 q6) fun ok s7 zq=>?_
    obtain ⟨H7,I7,q7⟩:=zq
    have back:∀ {s8:Shared} {σ8:St} {H8:Hp},Inv Y ([(D,{ cls:=.type "list",data:=.seq its kk })]++pinsAt fp s5.heap) σ8 H8 s8 →
      tn (i+1) s8.heap/\(∀ b∈fp,H8 b=none)/\H8 D=none/\s8.heap.get? D=some { cls:=.type "list",data:=.seq its kk }:=fun {s8 σ8 H8} I8=>by
     refine ⟨T.keep _ _ _ st5 fun b hb o e=>(I8.pin (b,o) (List.mem_append_right _ (List.mem_append_right _ (yT hb e)))).1,fun b hb=>?_,?_,?_⟩
     · obtain ⟨o, e, d⟩ := T.obj _ _ st5 b hb
       exact (I8.pin (b,o) (List.mem_append_right _ (List.mem_append_right _ (yT hb e)))).2.1
     · exact (I8.pin (D,_) (List.mem_append_right _ (List.mem_append_left _ (List.mem_singleton.mpr rfl)))).2.1
     · exact (I8.pin (D,_) (List.mem_append_right _ (List.mem_append_left _ (List.mem_singleton.mpr rfl)))).1
    have drop:∀ {s8:Shared} {σ8:St} {H8:Hp} {pl:List (Addr×Obj)},Inv Y pl σ8 H8 s8->Inv Y [] (slotsY mp σ) H8 s8:=fun {s8 σ8 H8 pl} I8=>by
     obtain ⟨m8,hn8,_⟩:=I8.loc
     refine ⟨I8.ok,I8.os,I8.bare,I8.base,⟨m8,hn8,fun i x v e1 e2 e3=>?_⟩,I8.cell,I8.free,I8.freeC,fun p hp=>absurd (show p∈([]:List (Addr×Obj)) from hp) (by simp),I8.hok,lenY⟩
     obtain ⟨u,c,ru,hk,ec,⟨oc,hoc,hocd⟩,hn,hx⟩:=capt i x v e1 e2
     rcases hn with hn | ⟨ob,ub,hn⟩
     · obtain ⟨sl, e⟩ := I8.base.any hoc hn hx
       exact ⟨u,ru,.inr ⟨hk,c,ec,_,e,hocd⟩⟩
     · obtain ⟨e1, _⟩ := I.hok c _ hn
       obtain ⟨e2,_⟩:=I8.hok c _ (I8.base.frzs c ob ub hn)
       have e3:=k2 _ _ e1
       rw [hoc] at e3; cases e3
       exact ⟨u,ru,.inr ⟨hk,c,ec,oc,e2,hocd⟩⟩
    cases ok with
    | false =>
      obtain ⟨m',hm',w'⟩:=q7
      obtain ⟨b1,b2,b3,b4⟩:=back I7
      exact ⟨m',hm',i+1,ys,H7,its,drop I7,b1,b2,b3,⟨kk,b4⟩,rv3,w'⟩
    | true =>
      refine thn (he _ _ s7 σ6 H7 _ (I7.wish _) q7) fun y s8 zq=>?_
      obtain ⟨yv,H8,I8w,r8,q8⟩:=zq
      have I8:=I8w.unwish
      obtain ⟨b1,b2,b3,b4⟩:=back I8
      have hl:ys.length=its.size:=by simpa using rv3.length
      refine wpAny_list_append_plain (items:=its) ⟨kk,b4⟩ (fun h' pl' sb=>?_) (by omega)
      obtain ⟨m',hm',w'⟩:=q8
      have I9:Inv Y [] (slotsY mp σ) H8 { s8 with heap:=h' }:=(drop I8).turned (it:=D) (t':=s8.toks) (fun b o hb e=>(sb.2 b hb).trans e) b3 hDC (.inl List.mem_cons_self) (fun x c e=>ltD (cellLt x c (clF x c e))) fun p hp=>absurd (show p∈([]:List (Addr×Obj)) from hp) (by simp)
      refine ⟨m',hm',i+1,ys++[yv],H8,its.push y,I9,?_,b2,b3,pl',?_,w'⟩
      · exact T.keep _ _ _ b1 fun b hb o e=>(sb.2 b (fun z=>dFp (z ▸ hb))).trans e
      · rw [Array.toList_push]
        exact rv3.append (.cons r8 .nil)
 exact codeAny_compStart_list (keyC _ _ rfl) (T.self _ 0 _ _ _ (T.keep 0 _ _ st fun b _ o e=>k1 b o (k2 b o e)) (keyC _ _ rfl))
theorem pe_compC {scope:Scope} {NY:List Str} {mp:List (Option Nat)} {tg iter elt:Expr} {ifs:List Expr} {pos:Pos} {wi:TI} {g:CI->TG} {tt:CI->TT} {te:CI->TE}
  {cm:Cx->Prop} (S:CompScope X scope NY mp) (hc:∀ pins σ H s,Inv X pins σ H s->∀ c:CI,c.H=H->cm (qT X scope NY c)) (hi:PI X tg iter wi cm)
  (hg:∀ c,PG (qT X scope NY c) tg (g c)) (ht:∀ c,PF (qT X scope NY c) ifs (tt c)) (he:∀ c,PE (qT X scope NY c) elt (te c))
  (hs:∀ x,foldedSetIterable iter X.env x=pure x:=by intro _; rfl):PE X (.ListComp elt [⟨tg,iter,ifs,0⟩] scope pos) (tComp wi mp g tt te):=by
 intro pins s σ H Q I h
 rw [eval_ListComp]
 refine wpAny_comprehension_free (use:=none) rfl hs (closureFor_of fun y hy hk=>I.ok.has y.1 (S.free y hy hk)) S.kind S.names (thn (hi pins s σ H _ I h) fun v s1 h1=>thn h1 fun itv s2 h2=>?_)
 obtain ⟨it,fp,tn,J,H2,e,I2,T,st2,f2,hk⟩:=h2
 subst e
 refine comp_block (RR:=fun acc C=>compPost (model X.prog X.w) X.A X.xe none (EP X pins σ Q) acc C) (WW:=fun _ _ _=>False) S (hc _ _ _ _ I2) I2 T st2 f2 hg ht he (fun _ _ _ _ _ _ z=>z.elim) hk ?_
 intro s' C m ys H' q hD hC hCD hn hI hct
 refine ⟨m,hn,fun h' sb=>?_⟩
 have J':=hI q.1
 refine ⟨.ref s2.heap.objs.size,_,J'.turned (it:=C) (t':=s'.toks) (fun b o hb e=>(sb.2 b hb).trans e) (by rw [upd_ne hCD]; exact hC) hct.1 (.inr hct.2.1) hct.2.2.1 hct.2.2.2,rfl,q.2 _ hD⟩
theorem pe_comp {scope:Scope} {NY:List Str} {mp:List (Option Nat)} {tg iter elt:Expr} {ifs:List Expr} {pos:Pos} {wi:TI} {g:CI->TG} {tt:CI->TT} {te:CI->TE}
  (S:CompScope X scope NY mp) (hc:X.calm=true) (hi:PI X tg iter wi)
  (hg:∀ c,PG (qT X scope NY c) tg (g c)) (ht:∀ c,PF (qT X scope NY c) ifs (tt c)) (he:∀ c,PE (qT X scope NY c) elt (te c))
  (hs:∀ x,foldedSetIterable iter X.env x=pure x:=by intro _; rfl):PE X (.ListComp elt [⟨tg,iter,ifs,0⟩] scope pos) (tComp wi mp g tt te):=pe_compC S (fun _ _ _ _ _ _ _=>hc) hi hg ht he hs
def tCompS (wi:TI) (mp:List (Option Nat)) (g:CI->TG) (tt:CI->TT) (te:CI->TE) (i:Nat):TS:=fun D σ H=>tComp wi mp g tt te σ H fun v H1=>D.nx (σ.set i (some v)) H1
theorem ps_comp {i:Nat} {y:Str} {py:Pos} {scope:Scope} {NY:List Str} {mp:List (Option Nat)} {tg iter elt:Expr} {ifs:List Expr} {pos spos:Pos} {wi:TI} {g:CI->TG} {tt:CI->TT} {te:CI->TE}
  (hN:X.N.Nodup) (hy:X.N[i]? = some y) (hl:X.env.scope.names.lookup y=some .local)
  (hsw:swapsWith (.ListComp elt [⟨tg,iter,ifs,0⟩] scope pos) (some (.Name y py)) spos.line X.env=pure true)
  (S:CompScope X scope NY mp) (hc:X.calm=true) (hi:PI X tg iter wi)
  (hg:∀ c,PG (qT X scope NY c) tg (g c)) (ht:∀ c,PF (qT X scope NY c) ifs (tt c)) (he:∀ c,PE (qT X scope NY c) elt (te c))
  (hs:∀ x,foldedSetIterable iter X.env x=pure x:=by intro _; rfl):PS X (.Assign [.Name y py] (.ListComp elt [⟨tg,iter,ifs,0⟩] scope pos) spos) (tCompS wi mp g tt te i):=by
 intro pins s σ H D I h
 rw [exec_Assign_Name_used _ _ _ _ hsw]
 refine wpAny_bind (wpAny_standAt (wpAny_bind ?_))
 show wpAny _ X.A (do let _ <- comprehension (.ListComp elt [⟨tg,iter,ifs,0⟩] scope pos) scope X.env _ (newList []) false (eval iter X.env) (some (assign (.Name y py) X.env))) _ _ s
 refine wpAny_bind (wpAny_mono (wpAny_comprehension_free (use:=some (assign (.Name y py) X.env)) (Q:=fun _ s'=>SP X pins D .next s') rfl hs (closureFor_of fun y hy hk=>I.ok.has y.1 (S.free y hy hk)) S.kind S.names
  (thn (hi pins s σ H _ I h) fun v s1 h1=>thn h1 fun itv s2 h2=>?_)) (fun _ s' hq=>wpAny_pure (wpAny_pure hq)) fun _ _ e=>e)
 obtain ⟨it,fp,tn,J,H2,e,I2,T,st2,f2,hk⟩:=h2
 subst e
 refine comp_block (RR:=fun acc C=>compPost (model X.prog X.w) X.A X.xe (some (assign (.Name y py) X.env)) (fun _ s'=>SP X pins D .next s') acc C) (WW:=fun _ _ _=>False) S (fun _ _=>hc) I2 T st2 f2 hg ht he (fun _ _ _ _ _ _ z=>z.elim) hk ?_
 intro s' C m ys H' q hD hC hCD hn hI hct
 have J':=hI q.1
 refine wpAny_assign_Name (store_ok2 J' hN hy (.inl hl) (v:=.ref s2.heap.objs.size) rfl (fun s'' I'' sb=>?_) (.inr hl))
 obtain ⟨a,sba,ha⟩:=sb
 have haC:C≠a:=by
  rcases ha with rfl | ha
  · exact hct.1
  · exact fun z=>hct.2.2.1 _ _ ha z.symm
 refine ⟨m,hn.sameBut sba haC,fun h' sb'=>?_⟩
 exact ⟨_,_,I''.turned (it:=C) (t':=s''.toks) (fun b o hb e=>(sb'.2 b hb).trans e) (by rw [upd_ne hCD]; exact hC) hct.1 (.inr hct.2.1) hct.2.2.1 hct.2.2.2,q.2 _ hD⟩
end
end L2
namespace TS
open PySem PyProof.Rows
set_option autoImplicit false
section
variable {prog:Program} {w:World} {A:Around} {E:Value->Shared->Prop} {s:Shared}
noncomputable def bt (w:World):Bool:=w.params.followText "set-order"
end
set_option autoImplicit false
section
variable {prog:Program} {w:World}
section
variable {A:Around} {R:Result->Shared->Prop} {J:Addr} {feet hand:List Addr} {G:Array GenState->Array GenState->Prop} {n:Nat} {P:Nat->Value->Prop} {Z:Nat->Shared->Prop}
theorem upd_step {c:Addr} {z:Shared} (h:wpAny (model prog w) A.in1 (pyNext (.ref J)) (fun r z'=>match r with
   | none=>R (.ok (.ret .none)) z'
   | some v=>wpAny (model prog w) A.in1 (setAdd c v) (fun _ z2=>codeAny (model prog w) A (.builtin "set.update.loop" ⟨[.ref c,.ref J],[]⟩) R z2) (fun e z2=>R (.error e) z2) z') (fun e z2=>R (.error e) z2) z) :
  codeAny (model prog w) A (.builtin "set.update.loop" ⟨[.ref c,.ref J],[]⟩) R z:=by
 have pl:=F.plain_set_update_loop
 refine codeAny_builtin F.entry_set_update_loop (Eq.mpr (congrArg (fun B=>wpAny _ B _ _ _ z) (Around.under_plainId pl _)) ?_)
 show wpAny _ A.in1 (pyNext (.ref J) >>= _) _ _ z
 refine wpAny_bind (wpAny_mono h (fun r z' q=>?_) fun _ _ q=>q)
 cases r with
 | none=>exact wpAny_pure q
 | some v =>
   show wpAny _ A.in1 (holding [v] (setAdd c v) >>= _) _ _ z'
   exact wpAny_bind (wpAny_holding (wpAny_mono q (fun _ z2 q2=>wpAny_pure ⟨plainId_quiet pl _,q2⟩) fun _ _ q2=>q2))
end
section
variable {A:Around} {E:Value->Shared->Prop} {s:Shared}
abbrev nset (led:Bool):Obj:={ cls:=.type "set",dict:=none,data:=.set #[] 0 (.fresh 0 0 led) }
theorem new_set1 (x:Value) {Q:Value->Shared->Prop} (h:Q (.ref s.heap.objs.size) { s with heap:=s.heap.push (nset (!bt w)) }) :
  codeAny (model prog w) A (.call (.builtin "set.__new__") ⟨[.type "set",x],[]⟩) (wants Q E) s:=by
 have own:=sub_set_self
 have pl:=PySem.F.plain_set_new
 refine codeAny_of_tree ?_
 show wpAny _ A.in1 (checkBuiltinCall "set.__new__" ⟨[.type "set",x],[]⟩ >>= fun _=>again (.builtin "set.__new__" ⟨[.type "set",x],[]⟩)) _ _ s
 refine wpAny_bind (wpAny_of_eq (PySem.F.newCall_set_1 x) (wpAny_pure ⟨plainId_quiet pl _,codeAny_builtin PySem.F.entry_set_new ?_⟩))
 rw [Around.under_plainId pl _]
 obtain ⟨hp,gens,dr,toks,sys⟩:=s
 unfold Builtin.«set.__new__»
 unfold Builtin.Frozenset.newClass
 wp_walk
 exact wpAny_askSetting (wpAny_pure (wpAny_bind (wpAny_alloc (wpAny_pure (wpAny_pure h)))))
end
end
end TS
namespace TU
open PySem PyProof.Rows
set_option autoImplicit false
variable {prog:Program} {w:World} {A:Around} {E:Value->Shared->Prop} {s:Shared}
theorem sorted_endS {vs:List Value} {ss:List Str} {Q:Value->Shared->Prop} (hI:StrsAre vs ss) (h64:vs.length < 64)
  (h:∀ (h2:Heap) (vs':List Value) (ns':List Str) (e:Nat),(∀ b o,s.heap.get? b=some o->h2.get? b=some o)->h2.get? s.heap.objs.size=some (seqObj "list" vs'.toArray e)->StrsAre vs' ns'->ns'.Perm ss->sortedS ns'=true →
    Q (.ref s.heap.objs.size) { s with heap:=h2 }) :
  wpAny (model prog w) A.in1 (do
   let l <- newList vs
   let _ <- holding [l] (call (.builtin "list.sort") [l] [])
   ret l) (fun r z=>∃ v,r = .done (.ret v)/\Q v z) E s:=by
 refine wpAny_bind (wpAny_newList ?_ (hsz:=by rw [sizeLine_eq]; omega))
 have hoL:(s.heap.push (seqObj "list" vs.toArray 0)).get? s.heap.objs.size=some (seqObj "list" vs.toArray 0):=Heap.get?_push_size _ rfl
 refine wpAny_bind (wpAny_holding (wpAny_call_entry slot_list_sort ⟨_,hoL,rfl⟩ entry_list_sort (list_sort_treeK strKind_oneLt hoL hI.keysOf (fun v₁ v₂ rest e=>keyKind_strs (by rw [<- e]; exact hI)) h64 fun st' hp hs=>⟨_,rfl,?_⟩) (args_list_sort _)))
 obtain ⟨ns',a1,a2,a3⟩:=sorted_out_str hI hp hs
 generalize (arrOf st').map (·.2)=out at *
 obtain ⟨e,he⟩:=sortedHeap_at (out:=out) hoL
 refine wpAny_pure ⟨_,rfl,h _ out.toList ns' e (fun b o q=>?_) (by simpa using he) a1 a2 a3⟩
 have hb:=Heap.lt_size q
 have q1:=Heap.get?_push_of_some (seqObj "list" vs.toArray 0) q
 show (sortedHeap (s.heap.push (seqObj "list" vs.toArray 0)) s.heap.objs.size vs out).get? b=some o
 rw [sortedHeap_old (Nat.ne_of_lt hb) (by rw [size_push']; exact Nat.lt_succ_of_lt hb)]
 exact q1
end TU
namespace FL
open PySem PySem.Spec PyProof.Rows L2
abbrev Frag:=PySem.W.Frag
def KLst (K:Frag) (a:Addr) (xs:List V):Prop:=∃ (o:Obj) (its:Array Value) (n:Nat),K.lookup a=some o/\o.cls = .type "list"/\o.dict=none/\o.data = .seq its n/\its.size<=sizeLine/\Vals xs its.toList
def KTup (K:Frag) (a:Addr) (xs:List V):Prop:=∃ (o:Obj) (its:Array Value) (n:Nat),K.lookup a=some o/\o.cls = .type "tuple"/\o.data = .seq its n/\its.size<=sizeLine/\Vals xs its.toList
structure LamT where
 qual:Str
 params:Arguments
 body:FuncBody
 scope:Scope
noncomputable def lamsE (q:Str):Nat->Expr->List LamT
 | 0,_=>[]
 | n + 1, e => match e with
   | .Lambda a b sc _=>[⟨q++"<lambda>",a,.expr b,sc⟩]
   | .Call _ as _ _=>as.flatMap (lamsE q n)
   | .Compare l _ cs _=>lamsE q n l++cs.flatMap (lamsE q n)
   | .BoolOp _ vs _=>vs.flatMap (lamsE q n)
   | .UnaryOp _ o _=>lamsE q n o
   | .BinOp l _ r _=>lamsE q n l++lamsE q n r
   | .IfExp t b o _=>lamsE q n t++(lamsE q n b++lamsE q n o)
   | .List es _=>es.flatMap (lamsE q n)
   | .Tuple es _ _=>es.flatMap (lamsE q n)
   | .Subscript v i _=>lamsE q n v++lamsE q n i
   | _=>[]
noncomputable def lamsS (q:Str):Nat->Stmt->List LamT
 | 0,_=>[]
 | n + 1, s => match s with
   | .FunctionDef x a b _ _ _ sc _ _ _=>[⟨q++x,a,.stmts b,sc⟩]
   | .Assign _ e _=>lamsE q 12 e
   | .Return (some e) _=>lamsE q 12 e
   | .Expr e _=>lamsE q 12 e
   | .If t a b _=>lamsE q 12 t++(a.flatMap (lamsS q n)++b.flatMap (lamsS q n))
   | .For _ _ a _ _=>a.flatMap (lamsS q n)
   | .While _ a _ _=>a.flatMap (lamsS q n)
   | _=>[]
noncomputable def lamsOf (x:Str) (b:List Stmt):List LamT:=b.flatMap (lamsS (x++".<locals>.") 8)
noncomputable def textIn (K:PySem.W.Frag) (m n:Nat):Option LamT:=(makers[m]?).bind fun x=>match PySem.W.nsIn K mainGlobals x with
 | some (some (.ref f)) => (match K.lookup f with
   | some ⟨_, _, .func fd, _⟩ => (match fd.body with
     | .stmts b=>(lamsOf x b)[n]?
     | _=>none)
   | _=>none)
 | _=>none
noncomputable def freeR (l:List (Str×NameKind)):List Str:=((l.filter fun y=>y.2 == NameKind.free).map (·.1)).reverse
inductive ClosOk (H:Hp) (O:Addr->Prop):List (Str×Addr)->List V->Prop
 | nil:ClosOk H O [] []
 | cons {n:Str} {c:Addr} {o:Obj} {u:HO} {w:Value} {x:V} {cl:List (Str×Addr)} {xs:List V} (no : ¬ O c) (h:H c=some (.frz o u)) (d:o.data = .cell (some w)) (r:RelV x w) (t:ClosOk H O cl xs):ClosOk H O ((n,c)::cl) (x::xs)
def LamAt (H:Hp) (O:Addr->Prop) (f:Addr) (t:LamT) (cl:List (Str×Addr)):Prop:=¬ O f/\∃ (o oc:Obj) (u uc:HO) (fd:FuncData) (c:Addr) (vs:Array Value) (tq:Tok),
 H f=some (.frz o u)/\o.cls = .type "function"/\o.data = .func fd/\fd.qualname=t.qual/\fd.params=t.params/\fd.body=t.body/\fd.scope=t.scope/\fd.globals=mainGlobals/\fd.closure=cl/\fd.defaults = .none/\fd.kwdefaults = .none/\fd.code = .ref c/\fd.builtins=builtinsNs ∧
 ¬ O c/\H c=some (.frz oc uc)/\oc.data = .fields vs/\vs[1]? = some (.str t.qual tq)
mutual
inductive Rep (K:Frag) (H:Hp) (O:Addr->Prop):V->D->Prop
 | non:Rep K H O .non .non
 | bl (b:Bool):Rep K H O (.bl b) (.bl b)
 | int (i:Int):Rep K H O (.int i) (.int i)
 | str (x:Str):Rep K H O (.str x) (.str x)
 | tup {a:Addr} {xs:List V} {ds:List D} (n : ¬ O a) (h:Rd H a (.tup xs)) (r:Reps K H O xs ds):Rep K H O (.ref a) (.tup ds)
 | tupK {a:Addr} {xs:List V} {ds:List D} (h:KTup K a xs) (r:Reps K H O xs ds):Rep K H O (.ref a) (.tup ds)
 | lst {a:Addr} {xs:List V} {ds:List D} (n : ¬ O a) (h:Rd H a (.lst xs)) (r:Reps K H O xs ds):Rep K H O (.ref a) (.lst ds)
 | lstK {a:Addr} {xs:List V} {ds:List D} (h:KLst K a xs) (r:Reps K H O xs ds):Rep K H O (.ref a) (.lst ds)
 | dct {a:Addr} {kvs:List (Key×V)} {ks:List Key} {ds:List D} (n : ¬ O a) (h:H a=some (.dK kvs)) (e:kvs.map (·.1)=ks) (r:Reps K H O (kvs.map (·.2)) ds):Rep K H O (.ref a) (.dct ks ds)
 | dcf {a:Addr} {o:Obj} {kvs:List (Key×V)} {ks:List Key} {ds:List D} (n : ¬ O a) (h:H a=some (.frz o (.dK kvs))) (e:kvs.map (·.1)=ks) (r:Reps K H O (kvs.map (·.2)) ds):Rep K H O (.ref a) (.dcf ks ds)
 | ins {a C dx:Addr} {t:Nat} {kvs:List (Str×V)} {ds:List D} (c:PySem.W.nsIn K mainGlobals (clsName t)=some (some (.ref C))) (n : ¬ O a) (h:H a=some (.ins C dx kvs)) (e:kvs.map (·.1)=clsFlds t) (r:Reps K H O (kvs.map (·.2)) ds):Rep K H O (.ref a) (.ins t ds)
 | clo {f:Addr} {m n:Nat} {t:LamT} {cl:List (Str×Addr)} {xs:List V} {ds:List D} (tx:textIn K m n=some t) (h:LamAt H O f t cl) (e:cl.map (·.1)=freeR t.scope.names) (nd:(cl.map (·.2)).Nodup) (c:ClosOk H O cl xs) (r:Reps K H O xs ds):Rep K H O (.ref f) (.clo m n ds)
 | fnK {f:Addr} {k:Nat} (h:PySem.W.nsIn K mainGlobals (fnName k)=some (some (.ref f))):Rep K H O (.ref f) (.clo 1000 k [])
inductive Reps (K:Frag) (H:Hp) (O:Addr->Prop):List V->List D->Prop
 | nil:Reps K H O [] []
 | cons {x:V} {d:D} {xs:List V} {ds:List D} (h:Rep K H O x d) (t:Reps K H O xs ds):Reps K H O (x::xs) (d::ds)
end
section
variable {K:Frag} {H H':Hp} {O O':Addr->Prop}
def Keep (O:Addr->Prop) (H H':Hp):Prop:=∀ b o,¬ O b->H b=some o->H' b=some o
theorem Keep.of_same (h:Same H H'):Keep O H H':=fun b o _ e=>h b o e
theorem Keep.rd {a:Addr} {u:HO} (k:Keep O H H') (n : ¬ O a) (h:Rd H a u):Rd H' a u:=by
 rcases h with h | ⟨o,h⟩
 · exact .inl (k _ _ n h)
 · exact .inr ⟨o,k _ _ n h⟩
def Kp (O O':Addr->Prop) (H H':Hp):Prop:=∀ b o,¬ O b->H b=some o->¬ O' b/\H' b=some o
theorem Kp.rd {a:Addr} {u:HO} (k:Kp O O' H H') (n : ¬ O a) (h:Rd H a u) : ¬ O' a/\Rd H' a u:=by
 rcases h with h | ⟨o,h⟩
 · exact ⟨(k _ _ n h).1,.inl (k _ _ n h).2⟩
 · exact ⟨(k _ _ n h).1,.inr ⟨o,(k _ _ n h).2⟩⟩
theorem ClosOk.gen (k:Kp O O' H H') {cl:List (Str×Addr)} {xs:List V} (h:ClosOk H O cl xs):ClosOk H' O' cl xs:=by
 induction h with
 | nil=>exact .nil
 | cons no h d r _ ih=>exact .cons (k _ _ no h).1 (k _ _ no h).2 d r ih
theorem LamAt.gen {f:Addr} {t:LamT} {cl:List (Str×Addr)} (k:Kp O O' H H') (h:LamAt H O f t cl):LamAt H' O' f t cl:=by
 obtain ⟨n,o,oc,u,uc,fd,c,vs,tq,h1,h2,h3,h4,h5,h6,h7,h8,h9,h10,h11,h12,h13,h14,h15,h16,h17⟩:=h
 exact ⟨(k _ _ n h1).1,o,oc,u,uc,fd,c,vs,tq,(k _ _ n h1).2,h2,h3,h4,h5,h6,h7,h8,h9,h10,h11,h12,h13,(k _ _ h14 h15).1,(k _ _ h14 h15).2,h16,h17⟩
theorem Kp.of (k:Keep O H H'):Kp O O H H':=fun b o n e=>⟨n,k b o n e⟩
theorem Kp.less (k:∀ a,O' a->O a):Kp O O' H H:=fun b o n e=>⟨fun z=>n (k _ z),e⟩
theorem ClosOk.keep (k:Keep O H H') {cl:List (Str×Addr)} {xs:List V} (h:ClosOk H O cl xs):ClosOk H' O cl xs:=h.gen (.of k)
theorem LamAt.keep {f:Addr} {t:LamT} {cl:List (Str×Addr)} (k:Keep O H H') (h:LamAt H O f t cl):LamAt H' O f t cl:=h.gen (.of k)
theorem ClosOk.of (k:∀ a o u,H a=some (.frz o u)->¬ O' a):∀ {cl:List (Str×Addr)} {xs:List V},ClosOk H O cl xs->ClosOk H O' cl xs
 | _,_,.nil=>.nil
 | _,_,.cons no h d r t=>.cons (k _ _ _ h) h d r (ClosOk.of k t)
theorem LamAt.of {f:Addr} {t:LamT} {cl:List (Str×Addr)} (k:∀ a o u,H a=some (.frz o u)->¬ O' a) (h:LamAt H O f t cl):LamAt H O' f t cl:=by
 obtain ⟨n,o,oc,u,uc,fd,c,vs,tq,h1,h2,h3,h4,h5,h6,h7,h8,h9,h10,h11,h12,h13,h14,h15,h16,h17⟩:=h
 exact ⟨k _ _ _ h1,o,oc,u,uc,fd,c,vs,tq,h1,h2,h3,h4,h5,h6,h7,h8,h9,h10,h11,h12,h13,k _ _ _ h15,h15,h16,h17⟩
def ins1 (p:Addr) (O:Addr->Prop):Addr->Prop:=fun b=>b=p \/ O b
theorem Kp.ins {p:Addr} (hp:H p=none):Kp O (ins1 p O) H H:=fun b o n e=>⟨fun z=>z.elim (fun q=>by rw [q,hp] at e; cases e) n,e⟩
mutual
theorem Rep.gen (k:Kp O O' H H'):∀ {v:V} {d:D},Rep K H O v d->Rep K H' O' v d
 | _,_,.non=>.non
 | _,_,.bl b=>.bl b
 | _,_,.int i=>.int i
 | _,_,.str x=>.str x
 | _,_,.tup n h r=>.tup (k.rd n h).1 (k.rd n h).2 (Reps.gen k r)
 | _,_,.tupK h r=>.tupK h (Reps.gen k r)
 | _,_,.lst n h r=>.lst (k.rd n h).1 (k.rd n h).2 (Reps.gen k r)
 | _,_,.lstK h r=>.lstK h (Reps.gen k r)
 | _,_,.dct n h e r=>.dct (k _ _ n h).1 (k _ _ n h).2 e (Reps.gen k r)
 | _,_,.dcf n h e r=>.dcf (k _ _ n h).1 (k _ _ n h).2 e (Reps.gen k r)
 | _,_,.ins c n h e r=>.ins c (k _ _ n h).1 (k _ _ n h).2 e (Reps.gen k r)
 | _,_,.clo tx h e nd c r=>.clo tx (h.gen k) e nd (c.gen k) (Reps.gen k r)
 | _,_,.fnK h=>.fnK h
theorem Reps.gen (k:Kp O O' H H'):∀ {vs:List V} {ds:List D},Reps K H O vs ds->Reps K H' O' vs ds
 | _,_,.nil=>.nil
 | _,_,.cons h t=>.cons (Rep.gen k h) (Reps.gen k t)
end
theorem Rep.keep (k:Keep O H H') {v:V} {d:D} (h:Rep K H O v d):Rep K H' O v d:=h.gen (.of k)
theorem Reps.keep (k:Keep O H H') {v:List V} {d:List D} (h:Reps K H O v d):Reps K H' O v d:=h.gen (.of k)
theorem Rep.mono (k:Same H H') {v:V} {d:D} (h:Rep K H O v d):Rep K H' O v d:=h.keep (.of_same k)
theorem Reps.mono (k:Same H H') {v:List V} {d:List D} (h:Reps K H O v d):Reps K H' O v d:=h.keep (.of_same k)
theorem Rep.less (k:∀ a,O' a->O a) {v:V} {d:D} (h:Rep K H O v d):Rep K H O' v d:=h.gen (.less k)
theorem Reps.less (k:∀ a,O' a->O a) {v:List V} {d:List D} (h:Reps K H O v d):Reps K H O' v d:=h.gen (.less k)
theorem Rd.some {a:Addr} {u:HO} (h:Rd H a u):H a≠none:=by
 rcases h with h | ⟨o,h⟩ <;> (rw [h]; simp)
theorem Rep.more {p:Addr} (hp:H p=none) {v:V} {d:D} (h:Rep K H O v d):Rep K H (ins1 p O) v d:=h.gen (.ins hp)
theorem Reps.more {p:Addr} (hp:H p=none) {v:List V} {d:List D} (h:Reps K H O v d):Reps K H (ins1 p O) v d:=h.gen (.ins hp)
noncomputable def mutO:HO->Bool
 | .lst _ | .dK _ | .dT _ | .set _ _ | .ins _ _ _=>true
 | _=>false
noncomputable def MutHO:={ u:HO // mutO u=true }
def Old (H:Hp):Addr->Prop:=fun a=>∃ o,H a=some o/\mutO o=true
theorem Old.mono (k:Same H H') {a:Addr} (h:Old H a):Old H' a:=let ⟨o,e,m⟩:=h; ⟨o,k _ _ e,m⟩
def jE:Addr->Prop:=fun _=>False
mutual
theorem Rep.flattn (ho:∀ a,O a->Old H a):∀ {v:V} {d:D},Rep K H O' v d->flat d=true->Rep K H O v d
 | _,_,.non=>fun _=>.non
 | _,_,.bl b=>fun _=>.bl b
 | _,_,.int i=>fun _=>.int i
 | _,_,.str x=>fun _=>.str x
 | _,_,.tup n h r=>fun f=>.tup (fun z=>by
    obtain ⟨u,e,m⟩:=ho _ z
    rcases h with h | ⟨o,h⟩
    · rw [e] at h; cases h; cases m
    · rw [e] at h; cases h; cases m) h (Reps.flattn ho r (by simpa [flat] using f))
 | _,_,.tupK h r=>fun f=>.tupK h (Reps.flattn ho r (by simpa [flat] using f))
 | _,_,.lst _ _ _=>fun f=>by simp [flat] at f
 | _,_,.lstK _ _=>fun f=>by simp [flat] at f
 | _,_,.dct _ _ _ _=>fun f=>by simp [flat] at f
 | _,_,.dcf _ _ _ _=>fun f=>by simp [flat] at f
 | _,_,.ins _ _ _ _ _=>fun f=>by simp [flat] at f
 | _,_,.clo _ _ _ _ _ _=>fun f=>by simp [flat] at f
 | _,_,.fnK _=>fun f=>by simp [flat] at f
theorem Reps.flattn (ho:∀ a,O a->Old H a):∀ {vs:List V} {ds:List D},Reps K H O' vs ds->flats ds=true->Reps K H O vs ds
 | _,_,.nil=>fun _=>.nil
 | _, _, .cons h t => fun f => by
   simp only [flats,Bool.and_eq_true] at f
   exact .cons (Rep.flattn ho h f.1) (Reps.flattn ho t f.2)
end
theorem Rep.flatten (ho:∀ a,O a->Old H a) {v:V} {d:D} (f:flat d=true) (r:Rep K H O' v d):Rep K H O v d:=r.flattn ho f
theorem Reps.flatten (ho:∀ a,O a->Old H a) {v:List V} {d:List D} (f:flats d=true) (r:Reps K H O' v d):Reps K H O v d:=r.flattn ho f
theorem Reps.length:∀ {vs:List V} {ds:List D},Reps K H O vs ds->vs.length=ds.length
 | _,_,.nil=>rfl
 | _,_,.cons _ t=>by simp [Reps.length t]
theorem Reps.get:∀ {vs:List V} {ds:List D} {i:Nat} {d:D},Reps K H O vs ds->ds[i]? = some d->∃ v,vs[i]? = some v/\Rep K H O v d
 | _,_,_,_,.nil,e=>by simp at e
 | _,_,0,_,.cons h _,e=>by simp at e; subst e; exact ⟨_,rfl,h⟩
 | _, _, i + 1, d, .cons _ t, e => by
   obtain ⟨v,h1,h2⟩:=Reps.get (i:=i) (d:=d) t (by simpa using e)
   exact ⟨v,by simpa using h1,h2⟩
theorem Reps.append:∀ {xs ys:List V} {ds es:List D},Reps K H O xs ds->Reps K H O ys es->Reps K H O (xs++ys) (ds++es)
 | _,_,_,_,.nil,s=>s
 | _,_,_,_,.cons r t,s=>.cons r (Reps.append t s)
theorem Reps.set {x:V} {d:D} (r:Rep K H O x d):∀ {xs:List V} {ds:List D} (i:Nat),Reps K H O xs ds->Reps K H O (xs.set i x) (ds.set i d)
 | _,_,_,.nil=>.nil
 | _,_,0,.cons _ t=>.cons r t
 | _,_,i+1,.cons q t=>.cons q (Reps.set r i t)
theorem Reps.drop:∀ {xs:List V} {ds:List D} (n:Nat),Reps K H O xs ds->Reps K H O (xs.drop n) (ds.drop n)
 | _,_,0,r=>r
 | _,_,_+1,.nil=>.nil
 | _,_,n+1,.cons _ t=>Reps.drop n t
theorem Reps.take:∀ {xs:List V} {ds:List D} (n:Nat),Reps K H O xs ds->Reps K H O (xs.take n) (ds.take n)
 | _,_,0,_=>.nil
 | _,_,_+1,.nil=>.nil
 | _,_,n+1,.cons r t=>.cons r (Reps.take n t)
theorem Reps.ints:∀ (ns:List Int),Reps K H O (ns.map V.int) (ns.map D.int)
 | []=>.nil
 | n::r=>.cons (.int n) (Reps.ints r)
def WRep (K:Frag) (H:Hp) (O:Addr->Prop) (v:V) (d:D):Prop:=Rep K H O v d \/ ∃ a xs l,v = .ref a/\d = .lst l/\O a/\H a=some (.lst xs)/\Reps K H O xs l
theorem WRep.mono (k:Same H H') {v:V} {d:D} (h:WRep K H O v d):WRep K H' O v d:=by
 rcases h with h | ⟨a,xs,l,e1,e2,ho,h,r⟩
 · exact .inl (h.mono k)
 · exact .inr ⟨a,xs,l,e1,e2,ho,k _ _ h,r.mono k⟩
theorem WRep.any {v:V} {d:D} (h:WRep K H O v d):Rep K H jE v d:=by
 rcases h with h | ⟨a,xs,l,rfl,rfl,ho,h,r⟩
 · exact h.less (fun _ z=>z.elim)
 · exact .lst (fun z=>z.elim) (.inl h) (r.less fun _ z=>z.elim)
theorem WRep.seqL {v:V} {l:List D} (h:WRep K H O v (.lst l)):∃ a xs,v = .ref a/\SqL K H a xs/\Reps K H O xs l:=by
 rcases h with h | ⟨a,xs,l',rfl,e,ho,h,r⟩
 · cases h with
   | lst n h r=>exact ⟨_,_,rfl,.inl h,r⟩
   | lstK h r=>exact ⟨_,_,rfl,.inr h,r⟩
 · cases e; exact ⟨a,xs,rfl,.inl (.inl h),r⟩
theorem WRep.seqT {v:V} {l:List D} (h:WRep K H O v (.tup l)):∃ a xs,v = .ref a/\SqT K H a xs/\Reps K H O xs l:=by
 rcases h with h | ⟨a,xs,l',rfl,e,ho,h,r⟩
 · cases h with
   | tup n h r=>exact ⟨_,_,rfl,.inl h,r⟩
   | tupK h r=>exact ⟨_,_,rfl,.inr h,r⟩
 · cases e
theorem WRep.int' {v:V} {i:Int} (h:WRep K H O v (.int i)):v = .int i:=by
 rcases h with h | ⟨a,xs,l',rfl,e,_⟩
 · cases h; rfl
 · cases e
theorem WRep.bl' {v:V} {i:Bool} (h:WRep K H O v (.bl i)):v = .bl i:=by
 rcases h with h | ⟨a,xs,l',rfl,e,_⟩
 · cases h; rfl
 · cases e
theorem WRep.str' {v:V} {i:Str} (h:WRep K H O v (.str i)):v = .str i:=by
 rcases h with h | ⟨a,xs,l',rfl,e,_⟩
 · cases h; rfl
 · cases e
end
mutual
inductive RepO (K:Frag) (H:Hp) (O:Addr->Prop):V->OT->List Addr->Prop
 | val {v:V} {d:D} (r:Rep K H O v d):RepO K H O v (.val d) []
 | lst {a:Addr} {xs:List V} {ts:List OT} {fs:List Addr} (n:O a) (h:H a=some (.lst xs)) (r:RepsO K H O xs ts fs):RepO K H O (.ref a) (.lst ts) (a::fs)
 | tup {a:Addr} {xs:List V} {ts:List OT} {fs:List Addr} (n : ¬ O a) (h:Rd H a (.tup xs)) (r:RepsO K H O xs ts fs):RepO K H O (.ref a) (.tup ts) fs
 | dct {a:Addr} {kvs:List (Key×V)} {ks:List Key} {ts:List OT} {fs:List Addr} (n:O a) (h:H a=some (.dK kvs)) (e:kvs.map (·.1)=ks) (r:RepsO K H O (kvs.map (·.2)) ts fs):RepO K H O (.ref a) (.dct ks ts) (a::fs)
 | ins {a C dx:Addr} {t:Nat} {kvs:List (Str×V)} {ts:List OT} {fs:List Addr} (c:PySem.W.nsIn K mainGlobals (clsName t)=some (some (.ref C))) (n:O a) (h:H a=some (.ins C dx kvs)) (e:kvs.map (·.1)=clsFlds t) (r:RepsO K H O (kvs.map (·.2)) ts fs):RepO K H O (.ref a) (.ins t ts) (a::fs)
inductive RepsO (K:Frag) (H:Hp) (O:Addr->Prop):List V->List OT->List Addr->Prop
 | nil:RepsO K H O [] [] []
 | cons {x:V} {t:OT} {xs:List V} {ts:List OT} {fs gs:List Addr} (h:RepO K H O x t fs) (r:RepsO K H O xs ts gs):RepsO K H O (x::xs) (t::ts) (fs++gs)
end
section
variable {K:Frag} {H H':Hp} {O O':Addr->Prop}
mutual
theorem RepO.gen (k:Kp O O' H H'):∀ {v:V} {t:OT} {fs:List Addr},RepO K H O v t fs->(∀ b∈fs,∀ u,O b->H b=some u->O' b/\H' b=some u)->RepO K H' O' v t fs
 | _,_,_,.val r=>fun _=>.val (r.gen k)
 | _,_,_,.lst n h r=>fun hb=>.lst (hb _ (.head _) _ n h).1 (hb _ (.head _) _ n h).2 (RepsO.gen k r fun b z=>hb b (.tail _ z))
 | _,_,_,.tup n h r=>fun hb=>.tup (k.rd n h).1 (k.rd n h).2 (RepsO.gen k r hb)
 | _,_,_,.dct n h e r=>fun hb=>.dct (hb _ (.head _) _ n h).1 (hb _ (.head _) _ n h).2 e (RepsO.gen k r fun b z=>hb b (.tail _ z))
 | _,_,_,.ins c n h e r=>fun hb=>.ins c (hb _ (.head _) _ n h).1 (hb _ (.head _) _ n h).2 e (RepsO.gen k r fun b z=>hb b (.tail _ z))
theorem RepsO.gen (k:Kp O O' H H'):∀ {v:List V} {t:List OT} {fs:List Addr},RepsO K H O v t fs->(∀ b∈fs,∀ u,O b->H b=some u->O' b/\H' b=some u)->RepsO K H' O' v t fs
 | _,_,_,.nil=>fun _=>.nil
 | _,_,_,.cons h r=>fun hb=>.cons (RepO.gen k h fun b z=>hb b (List.mem_append_left _ z)) (RepsO.gen k r fun b z=>hb b (List.mem_append_right _ z))
end
theorem RepO.keep (k:Keep O H H') {v:V} {t:OT} {fs:List Addr} (h:RepO K H O v t fs) (hb:∀ b∈fs,∀ u,H b=some u->H' b=some u):RepO K H' O v t fs:=h.gen (.of k) fun b z u o e=>⟨o,hb b z u e⟩
theorem RepsO.keep (k:Keep O H H') {v:List V} {t:List OT} {fs:List Addr} (h:RepsO K H O v t fs) (hb:∀ b∈fs,∀ u,H b=some u->H' b=some u):RepsO K H' O v t fs:=h.gen (.of k) fun b z u o e=>⟨o,hb b z u e⟩
theorem RepO.mono (k:Same H H') {v:V} {t:OT} {fs:List Addr} (h:RepO K H O v t fs):RepO K H' O v t fs:=h.keep (.of_same k) fun b _ u e=>k b u e
theorem RepsO.mono (k:Same H H') {v:List V} {t:List OT} {fs:List Addr} (h:RepsO K H O v t fs):RepsO K H' O v t fs:=h.keep (.of_same k) fun b _ u e=>k b u e
theorem RepO.less (k:∀ a,O' a->O a) {v:V} {t:OT} {fs:List Addr} (h:RepO K H O v t fs) (hb:∀ b∈fs,O' b):RepO K H O' v t fs:=h.gen (.less k) fun b z _ _ e=>⟨hb b z,e⟩
theorem RepsO.less (k:∀ a,O' a->O a) {v:List V} {t:List OT} {fs:List Addr} (h:RepsO K H O v t fs) (hb:∀ b∈fs,O' b):RepsO K H O' v t fs:=h.gen (.less k) fun b z _ _ e=>⟨hb b z,e⟩
theorem RepO.more {p:Addr} (hp:H p=none) {v:V} {t:OT} {fs:List Addr} (h:RepO K H O v t fs):RepO K H (ins1 p O) v t fs:=h.gen (.ins hp) fun _ _ _ o e=>⟨.inr o,e⟩
theorem RepsO.more {p:Addr} (hp:H p=none) {v:List V} {t:List OT} {fs:List Addr} (h:RepsO K H O v t fs):RepsO K H (ins1 p O) v t fs:=h.gen (.ins hp) fun _ _ _ o e=>⟨.inr o,e⟩
mutual
theorem RepO.owns:∀ {v:V} {t:OT} {fs:List Addr},RepO K H O v t fs->∀ b∈fs,O b/\∃ u:MutHO,H b=some u.1
 | _,_,_,.val r=>fun b z=>nomatch z
 | _,_,_,.lst n h r=>fun b z=>(List.mem_cons.mp z).elim (fun q=>q ▸ ⟨n,⟨_,rfl⟩,h⟩) (RepsO.owns r b)
 | _,_,_,.tup n h r=>RepsO.owns r
 | _,_,_,.dct n h e r=>fun b z=>(List.mem_cons.mp z).elim (fun q=>q ▸ ⟨n,⟨_,rfl⟩,h⟩) (RepsO.owns r b)
 | _,_,_,.ins c n h e r=>fun b z=>(List.mem_cons.mp z).elim (fun q=>q ▸ ⟨n,⟨_,rfl⟩,h⟩) (RepsO.owns r b)
theorem RepsO.owns:∀ {v:List V} {t:List OT} {fs:List Addr},RepsO K H O v t fs->∀ b∈fs,O b/\∃ u:MutHO,H b=some u.1
 | _,_,_,.nil=>fun b z=>nomatch z
 | _,_,_,.cons h r=>fun b z=>(List.mem_append.mp z).elim (RepO.owns h b) (RepsO.owns r b)
end
mutual
theorem RepO.val':∀ {v:V} {t:OT} {fs:List Addr},RepO K H O v t fs->(∀ a,O' a->O a/\a ∉ fs)->Rep K H O' v (otD t)
 | _,_,_,.val r=>fun k=>r.less fun a z=>(k a z).1
 | _,_,_,.lst n h r=>fun k=>by unfold otD; exact .lst (fun z=>(k _ z).2 (.head _)) (.inl h) (RepsO.val' r fun a z=>⟨(k a z).1,fun q=>(k a z).2 (.tail _ q)⟩)
 | _,_,_,.tup n h r=>fun k=>by unfold otD; exact .tup (fun z=>n (k _ z).1) h (RepsO.val' r k)
 | _,_,_,.dct n h e r=>fun k=>by unfold otD; exact .dct (fun z=>(k _ z).2 (.head _)) h e (RepsO.val' r fun a z=>⟨(k a z).1,fun q=>(k a z).2 (.tail _ q)⟩)
 | _,_,_,.ins c n h e r=>fun k=>by unfold otD; exact .ins c (fun z=>(k _ z).2 (.head _)) h e (RepsO.val' r fun a z=>⟨(k a z).1,fun q=>(k a z).2 (.tail _ q)⟩)
theorem RepsO.val':∀ {v:List V} {t:List OT} {fs:List Addr},RepsO K H O v t fs->(∀ a,O' a->O a/\a ∉ fs)->Reps K H O' v (otDs t)
 | _,_,_,.nil=>fun _=>by unfold otDs; exact .nil
 | _,_,_,.cons h r=>fun k=>by unfold otDs; exact .cons (RepO.val' h fun a z=>⟨(k a z).1,fun q=>(k a z).2 (List.mem_append_left _ q)⟩) (RepsO.val' r fun a z=>⟨(k a z).1,fun q=>(k a z).2 (List.mem_append_right _ q)⟩)
end
theorem RepO.any {v:V} {t:OT} {fs:List Addr} (h:RepO K H O v t fs):Rep K H jE v (otD t):=h.val' fun _ z=>z.elim
theorem RepsO.any {v:List V} {t:List OT} {fs:List Addr} (h:RepsO K H O v t fs):Reps K H jE v (otDs t):=h.val' fun _ z=>z.elim
end
noncomputable def SlOk (K:Frag) (H₀ H:Hp) (O:Addr->Prop):Option V->Sl->Prop
 | _,.no=>True
 | some x,.v d=>Rep K H O x d
 | some (.ref a),.own l=>O a/\∃ xs,H a=some (.lst xs)/\Reps K H O xs l
 | some (.ref a),.fr l=>¬ O a/\H₀ a=none/\∃ xs,H a=some (.lst xs)/\Reps K H O xs l
 | _,.ob _ _=>True
 | some (.ref a),.exc t=>∃ C o u,PySem.W.nsIn K mainGlobals (xName t)=some (some (.ref C))/\H a=some (.frz o u)/\o.cls = .ref C
 | _,_=>False
def IsOwn (ds:List Sl) (i:Nat):Prop:=∃ l,ds[i]? = some (.own l)
inductive HI where
 | rep (v:V) (d:D) | base (B:Addr->Prop) | root (k a:Nat) | fz (a:Addr) (o:Obj) (kvs:List (Key×V)) (l:List D)
abbrev Hold:=List HI
noncomputable def HOk (K:Frag) (H₀ H:Hp) (O:Addr->Prop):HI->Prop
 | .rep v d=>Rep K H O v d
 | .base B=>∀ a,B a->O a/\H₀ a≠none
 | .root _ _=>True
 | .fz a o kvs l=>¬ O a/\H a=some (.frz o (.dK kvs))/\Reps K H O (kvs.map (·.2)) l
def Obs (K:Frag) (H₀ H:Hp) (O:Addr->Prop) (σ : L2.St) (ds:List Sl) (hd:Hold):Prop:=∃ F:Nat->List Addr,∀ (i:Nat) (r:Option Nat) (t:OT),ds[i]? = some (.ob r t)->∃ v,σ[i]? = some (some v)/\RepO K H O v t (F i)/\(∀ k a,r=some k->HI.root k a∈hd->v = .ref a)/\(F i).Nodup ∧
 ∀ b∈F i,H₀ b=none/\(∀ j r' t',j≠i->ds[j]? = some (.ob r' t')->b ∉ F j)/\∀ j,IsOwn ds j->σ[j]?≠some (some (.ref b))
structure Ok (K:Frag) (H₀ H:Hp) (O:Addr->Prop) (σ : L2.St) (ds:List Sl) (hd:Hold):Prop where
 same:Same H₀ H
 fresh:∀ (i:Nat) (l:List D) (a:Addr),ds[i]? = some (.own l)->σ[i]? = some (some (.ref a))->H₀ a=none
 dom:∀ a,O a->∃ u:MutHO,H a=some u.1
 len : σ.length=ds.length
 sl:∀ (i:Nat) (s:Sl),ds[i]? = some s->SlOk K H₀ H O (σ[i]?.join) s
 apart:∀ (i j:Nat) (a:Addr),i≠j->IsOwn ds i->IsOwn ds j->σ[i]? = some (some (.ref a))->σ[j]? = some (some (.ref a))->False
 hold:∀ p∈hd,HOk K H₀ H O p
 obs:Obs K H₀ H O σ ds hd
section
variable {K:Frag} {H₀ H H':Hp} {O O':Addr->Prop} {σ : L2.St} {ds:List Sl} {hd:Hold}
theorem HOk.mono (k:Same H H'):∀ {p:HI},HOk K H₀ H O p->HOk K H₀ H' O p
 | .rep _ _,h=>Rep.mono k h
 | .base _,h=>h
 | .root _ _,h=>h
 | .fz _ _ _ _,h=>⟨h.1,k _ _ h.2.1,Reps.mono k h.2.2⟩
theorem HOk.keep (k:Keep O H H'):∀ {p:HI},HOk K H₀ H O p->HOk K H₀ H' O p
 | .rep _ _,h=>Rep.keep k h
 | .base _,h=>h
 | .root _ _,h=>h
 | .fz _ _ _ _,h=>⟨h.1,k _ _ h.1 h.2.1,Reps.keep k h.2.2⟩
theorem Obs.tr {σ':L2.St} {ds':List Sl} (h:Obs K H₀ H O σ ds hd) (tr:∀ v t fs,RepO K H O v t fs->(∀ b∈fs,H₀ b=none/\∀ j,IsOwn ds j->σ[j]?≠some (some (.ref b)))->RepO K H' O' v t fs)
  (hob:∀ (i:Nat) (r:Option Nat) (t:OT),ds'[i]? = some (.ob r t)->ds[i]? = some (.ob r t)/\σ'[i]? = σ[i]?)
  (hown:∀ (j:Nat) (b:Addr),IsOwn ds' j->σ'[j]? = some (some (.ref b))->(IsOwn ds j/\σ[j]? = some (some (.ref b))) \/ H b=none):Obs K H₀ H' O' σ' ds' hd:=by
 obtain ⟨F,hF⟩:=h
 refine ⟨F,fun i r t e=>?_⟩
 obtain ⟨e1,e2⟩:=hob i r t e
 obtain ⟨v,h1,h2,h3,h4,h5⟩:=hF i r t e1
 refine ⟨v,e2.trans h1,tr v t _ h2 fun b hb=>⟨(h5 b hb).1,(h5 b hb).2.2⟩,h3,h4,fun b hb=>⟨(h5 b hb).1,fun j r' t' hj ej=>(h5 b hb).2.1 j r' t' hj (hob j r' t' ej).1,fun j oj ej=>?_⟩⟩
 rcases hown j b oj ej with ⟨o1,o2⟩ | hn
 · exact (h5 b hb).2.2 j o1 o2
 · obtain ⟨_, xs, z⟩ := h2.owns b hb
   rw [hn] at z; cases z
theorem Obs.no (h:∀ (i:Nat) (r:Option Nat) (t:OT),ds[i]?≠some (.ob r t)):Obs K H₀ H O σ ds hd:=⟨fun _=>[],fun i r t e=>(h i r t e).elim⟩
theorem Obs.mono (k:Same H H') (h:Obs K H₀ H O σ ds hd):Obs K H₀ H' O σ ds hd:=h.tr (fun _ _ _ r _=>r.mono k) (fun _ _ _ e=>⟨e,rfl⟩) fun _ _ o e=>.inl ⟨o,e⟩
theorem yZ {i:Nat} {s:Sl} (hs:∀ r t,s≠.ob r t) {j:Nat} {r:Option Nat} {t:OT} (e:(ds.set i s)[j]? = some (.ob r t)):ds[j]? = some (.ob r t)/\j≠i:=by
 by_cases hj:j=i
 · subst hj
   by_cases hl:j < ds.length
   · rw [List.getElem?_set_self hl] at e
     cases e
     exact (hs r t rfl).elim
   · rw [List.getElem?_eq_none (by simpa using hl)] at e; cases e
 · rw [List.getElem?_set_ne (Ne.symm hj)] at e
   exact ⟨e,hj⟩
theorem yN {i:Nat} {s:Sl} (hs:∀ l,s≠.own l) {j:Nat} (e:IsOwn (ds.set i s) j):IsOwn ds j/\j≠i:=by
 obtain ⟨l,e⟩:=e
 by_cases hj:j=i
 · subst hj
   by_cases hl:j < ds.length
   · rw [List.getElem?_set_self hl] at e
     cases e
     exact (hs l rfl).elim
   · rw [List.getElem?_eq_none (by simpa using hl)] at e; cases e
 · rw [List.getElem?_set_ne (Ne.symm hj)] at e
   exact ⟨⟨l,e⟩,hj⟩
theorem SlOk.mono (k:Same H H'):∀ {x:Option V} {s:Sl},SlOk K H₀ H O x s->SlOk K H₀ H' O x s
 | none,.no,_=>trivial
 | some (.ref _),.no,_=>trivial
 | some _,.no,_=>by simp [SlOk]
 | x, .ob _ _, _ => by cases x with
   | none=>trivial
   | some x=>cases x <;> trivial
 | some x, .v d, h => by
   have h:Rep K H O x d:=by cases x <;> exact h
   show SlOk K H₀ H' O (some x) (.v d)
   have:=h.mono k
   cases x <;> exact this
 | some (.ref a),.own l,⟨ho,xs,h,r⟩=>⟨ho,xs,k _ _ h,r.mono k⟩
 | some (.ref a),.fr l,⟨ho,h0,xs,h,r⟩=>⟨ho,h0,xs,k _ _ h,r.mono k⟩
 | some (.ref a),.exc t,⟨C,o,u,h1,h2,h3⟩=>⟨C,o,u,h1,k _ _ h2,h3⟩
theorem Ok.old (o:Ok K H₀ H O σ ds hd) {a:Addr} (h:O a):Old H a:=let ⟨xs,e⟩:=o.dom a h; ⟨_,e,xs.2⟩
theorem Ok.mono (k:Same H H') (o:Ok K H₀ H O σ ds hd):Ok K H₀ H' O σ ds hd :=
 ⟨o.same.trans k,o.fresh,fun a h=>let ⟨xs,e⟩:=o.dom a h; ⟨xs,k _ _ e⟩,o.len,fun i s e=>(o.sl i s e).mono k,o.apart,fun p hp=>(o.hold p hp).mono k,o.obs.mono k⟩
theorem Ok.free {p:Addr} (o:Ok K H₀ H O σ ds hd) (h:H p=none) : ¬ O p:=fun z=>by
 obtain ⟨xs,e⟩:=o.dom p z
 rw [h] at e; cases e
theorem Ok.read {i:Nat} {d:D} (o:Ok K H₀ H O σ ds hd) (e:ds[i]? = some (.v d)):∃ v,σ[i]? = some (some v)/\Rep K H O v d:=by
 have h:=o.sl i _ e
 cases q : σ[i]? with
 | none=>rw [q] at h; exact h.elim
 | some x =>
   rw [q] at h
   cases x with
   | none=>exact h.elim
   | some x=>exact ⟨x,rfl,by cases x <;> exact h⟩
theorem Ok.readO {i:Nat} {l:List D} (o:Ok K H₀ H O σ ds hd) (e:ds[i]? = some (.own l)):∃ a xs,σ[i]? = some (some (.ref a))/\O a/\H a=some (.lst xs)/\Reps K H O xs l:=by
 have h:=o.sl i _ e
 cases q : σ[i]? with
 | none=>rw [q] at h; exact h.elim
 | some x =>
   rw [q] at h
   cases x with
   | none=>exact h.elim
   | some x =>
     cases x with
     | ref a=>obtain ⟨ho,xs,h1,h2⟩:=h; exact ⟨a,xs,rfl,ho,h1,h2⟩
     | _=>exact h.elim
theorem Ok.readX {i t:Nat} (o:Ok K H₀ H O σ ds hd) (e:ds[i]? = some (.exc t)):∃ a C ob u,σ[i]? = some (some (.ref a))/\PySem.W.nsIn K mainGlobals (xName t)=some (some (.ref C))/\H a=some (.frz ob u)/\ob.cls = .ref C:=by
 have h:=o.sl i _ e
 cases q : σ[i]? with
 | none=>rw [q] at h; exact h.elim
 | some x =>
   rw [q] at h
   cases x with
   | none=>exact h.elim
   | some x =>
     cases x with
     | ref a=>obtain ⟨C,ob,u,h1,h2,h3⟩:=h; exact ⟨a,C,ob,u,rfl,h1,h2,h3⟩
     | _=>exact h.elim
theorem Ok.readF {i:Nat} {l:List D} (o:Ok K H₀ H O σ ds hd) (e:ds[i]? = some (.fr l)):∃ a xs,σ[i]? = some (some (.ref a))/\¬ O a/\H₀ a=none/\H a=some (.lst xs)/\Reps K H O xs l:=by
 have h:=o.sl i _ e
 cases q : σ[i]? with
 | none=>rw [q] at h; exact h.elim
 | some x =>
   rw [q] at h
   cases x with
   | none=>exact h.elim
   | some x =>
     cases x with
     | ref a=>obtain ⟨ho,h0,xs,h1,h2⟩:=h; exact ⟨a,xs,rfl,ho,h0,h1,h2⟩
     | _=>exact h.elim
theorem qU {x:Option V} : SlOk K H₀ H O x .no:=by
 cases x with
 | none=>trivial
 | some x=>cases x <;> trivial
theorem jV {x:Option V} {r:Option Nat} {t:OT} : SlOk K H₀ H O x (.ob r t):=by
 cases x with
 | none=>trivial
 | some x=>cases x <;> trivial
theorem jN {x:V} {d:D} (h:Rep K H O x d):SlOk K H₀ H O (some x) (.v d):=by
 cases x <;> exact h
theorem Ok.set {i:Nat} {v:V} {d:D} (o:Ok K H₀ H O σ ds hd) (r:Rep K H O v d):Ok K H₀ H O (σ.set i (some v)) (ds.set i (.v d)) hd:=by
 have own':∀ {j:Nat},IsOwn (ds.set i (.v d)) j->j≠i/\IsOwn ds j:=fun {j} ⟨l,e⟩=>by
  by_cases hj:j=i
  · subst hj
    by_cases hl:j < ds.length
    · rw [List.getElem?_set_self hl] at e; cases e
    · rw [List.getElem?_eq_none (by simpa using hl)] at e; cases e
  · rw [List.getElem?_set_ne (Ne.symm hj)] at e
    exact ⟨hj,l,e⟩
 refine ⟨o.same,fun j l a e1 e2=>?_,o.dom,by simpa using o.len,fun j s e=>?_,fun j k a hjk hj hk e1 e2=>?_,o.hold,o.obs.tr (fun _ _ _ r _=>r) (fun j r t e=>by
  obtain ⟨e1,hj⟩:=yZ (fun r t=>by intro z; cases z) e
  exact ⟨e1,by rw [List.getElem?_set_ne (Ne.symm hj)]⟩) (fun j b oj ej=>by
  obtain ⟨o1,hj⟩:=yN (fun l=>by intro z; cases z) oj
  rw [List.getElem?_set_ne (Ne.symm hj)] at ej
  exact .inl ⟨o1,ej⟩)⟩
 · obtain ⟨n1, h1⟩ := own' ⟨l, e1⟩
   rw [List.getElem?_set_ne (Ne.symm n1)] at e1 e2
   exact o.fresh j l a e1 e2
 · by_cases hj : j = i
   · subst hj
     by_cases hl:j < ds.length
     · rw [List.getElem?_set_self hl] at e
       cases e
       rw [List.getElem?_set_self (by rw [o.len]; exact hl)]
       exact jN r
     · rw [List.getElem?_eq_none (by simpa using hl)] at e; cases e
   · rw [List.getElem?_set_ne (Ne.symm hj)] at e
     rw [List.getElem?_set_ne (Ne.symm hj)]
     exact o.sl j s e
 · obtain ⟨n1, h1⟩ := own' hj
   obtain ⟨n2,h2⟩:=own' hk
   rw [List.getElem?_set_ne (Ne.symm n1)] at e1
   rw [List.getElem?_set_ne (Ne.symm n2)] at e2
   exact o.apart j k a hjk h1 h2 e1 e2
theorem Ok.setO {i:Nat} {a:Addr} {xs:List V} {l:List D} (o:Ok K H₀ H O σ ds hd) (k:Same H H') (hn:H a=none) (e:H' a=some (.lst xs)) (r:Reps K H' (ins1 a O) xs l) :
  Ok K H₀ H' (ins1 a O) (σ.set i (some (.ref a))) (ds.set i (.own l)) hd:=by
 have up:∀ {v:V} {d:D},Rep K H O v d->Rep K H' (ins1 a O) v d:=fun h=>(h.more hn).mono k
 have ups:∀ {v:List V} {d:List D},Reps K H O v d->Reps K H' (ins1 a O) v d:=fun h=>(h.more hn).mono k
 have other:∀ j:Nat,IsOwn ds j->σ[j]? = some (some (.ref a))->False:=fun j ⟨l',e'⟩ q=>by
  obtain ⟨b,ys,h1,h2,h3,_⟩:=o.readO e'
  rw [q] at h1; cases h1
  rw [hn] at h3; cases h3
 have own':∀ {j:Nat},j≠i->IsOwn (ds.set i (.own l)) j->IsOwn ds j:=fun {j} hj ⟨l',e'⟩=>⟨l',by rwa [List.getElem?_set_ne (Ne.symm hj)] at e'⟩
 refine ⟨o.same.trans k,fun j l' b e1 e2=>?_,fun b hb=>?_,by simpa using o.len,fun j s es=>?_,fun j m b hjm hj hm e1 e2=>?_,fun p hp=>?_,o.obs.tr (fun _ _ _ r _=>(r.more hn).mono k) (fun j r t e=>by
  obtain ⟨e1,hj⟩:=yZ (fun r t=>by intro z; cases z) e
  exact ⟨e1,by rw [List.getElem?_set_ne (Ne.symm hj)]⟩) (fun j b oj ej=>by
  by_cases hj:j=i
  · subst hj
    by_cases hl:j < σ.length
    · rw [List.getElem?_set_self hl] at ej; cases ej; exact .inr hn
    · rw [List.getElem?_eq_none (by simpa using hl)] at ej; cases ej
  · rw [List.getElem?_set_ne (Ne.symm hj)] at ej
    obtain ⟨l',e'⟩:=oj
    rw [List.getElem?_set_ne (Ne.symm hj)] at e'
    exact .inl ⟨⟨l',e'⟩,ej⟩)⟩
 rotate_left 4
 · have := o.hold p hp
   cases p with
   | rep v d=>exact up this
   | base B=>exact fun b hb=>⟨.inr (this b hb).1,(this b hb).2⟩
   | root k a=>exact True.intro
   | fz a' o' kvs' l'=>exact ⟨fun z=>z.elim (fun z=>by have:=this.2.1; rw [z,hn] at this; cases this) this.1,k _ _ this.2.1,(Reps.more hn this.2.2).mono k⟩
 · by_cases hj : j = i
   · subst hj
     by_cases hl:j < σ.length
     · rw [List.getElem?_set_self hl] at e2
       cases e2
       exact o.same.free hn
     · rw [List.getElem?_eq_none (by simpa using hl)] at e2; cases e2
   · rw [List.getElem?_set_ne (Ne.symm hj)] at e1 e2
     exact o.fresh j l' b e1 e2
 · rcases hb with rfl | hb
   · exact ⟨⟨.lst xs,rfl⟩,e⟩
   · obtain ⟨ys, q⟩ := o.dom b hb
     exact ⟨ys,k _ _ q⟩
 · by_cases hj : j = i
   · subst hj
     by_cases hl:j < ds.length
     · rw [List.getElem?_set_self hl] at es
       cases es
       rw [List.getElem?_set_self (by rw [o.len]; exact hl)]
       exact ⟨.inl rfl,xs,e,r⟩
     · rw [List.getElem?_eq_none (by simpa using hl)] at es; cases es
   · rw [List.getElem?_set_ne (Ne.symm hj)] at es
     rw [List.getElem?_set_ne (Ne.symm hj)]
     cases s with
     | no=>exact qU
     | ob r t=>exact jV
     | exc t =>
       obtain ⟨a',C',ob',u',q1,q2,q3,q4⟩:=o.readX es
       rw [q1]
       exact ⟨C',ob',u',q2,k _ _ q3,q4⟩
     | fr l' =>
       obtain ⟨a',xs',q1,q2,q0,q3,q4⟩:=o.readF es
       rw [q1]
       exact ⟨fun z=>z.elim (fun e'=>by rw [e',hn] at q3; cases q3) q2,q0,xs',k _ _ q3,ups q4⟩
     | v d =>
       obtain ⟨v,h1,h2⟩:=o.read es
       rw [h1]
       exact jN (up h2)
     | own l' =>
       obtain ⟨b,ys,h1,h2,h3,h4⟩:=o.readO es
       rw [h1]
       exact ⟨.inr h2,ys,k _ _ h3,ups h4⟩
 · have hs:∀ {q:Nat},q=i->(σ.set i (some (V.ref a)))[q]? = some (some (.ref b))->b=a:=fun {q} hq eq=>by
    subst hq
    by_cases hl:q < σ.length
    · rw [List.getElem?_set_self hl] at eq
      cases eq; rfl
    · rw [List.getElem?_eq_none (by simpa using hl)] at eq; cases eq
   by_cases h1:j=i
   · have hb := hs h1 e1
     have h2:m≠i:=fun z=>hjm (h1.trans z.symm)
     rw [List.getElem?_set_ne (Ne.symm h2),hb] at e2
     exact other m (own' h2 hm) e2
   · by_cases h2 : m = i
     · have hb := hs h2 e2
       rw [List.getElem?_set_ne (Ne.symm h1),hb] at e1
       exact other j (own' h1 hj) e1
     · rw [List.getElem?_set_ne (Ne.symm h1)] at e1
       rw [List.getElem?_set_ne (Ne.symm h2)] at e2
       exact o.apart j m b hjm (own' h1 hj) (own' h2 hm) e1 e2
theorem Ok.release {i:Nat} {l:List D} (o:Ok K H₀ H O σ ds hd) (e:ds[i]? = some (.own l)):∃ O',Ok K H₀ H O' σ (ds.set i (.v (.lst l))) hd:=by
 obtain ⟨a,xs,h1,h2,h3,h4⟩:=o.readO e
 have hl:i < ds.length:=(List.getElem?_eq_some_iff.mp e).1
 let O':Addr->Prop:=fun b=>O b/\b≠a
 have sub:∀ b,O' b->O b:=fun b hb=>hb.1
 have na : ¬ O' a:=fun hb=>hb.2 rfl
 have own0:∀ {j:Nat} {l':List D},(ds.set i (.v (.lst l)))[j]? = some (.own l')->ds[j]? = some (.own l'):=fun {j l'} e'=>by
  by_cases hj:j=i
  · subst hj
    rw [List.getElem?_set_self hl] at e'; cases e'
  · rwa [List.getElem?_set_ne (Ne.symm hj)] at e'
 refine ⟨O',o.same,fun j l' b e1 e2=>o.fresh j l' b (own0 e1) e2,fun b hb=>o.dom b (sub b hb),by simpa using o.len,fun j s es=>?_,fun j m b hjm hj hm e1 e2=>?_,fun p hp=>?_,o.obs.tr (fun _ _ _ r hb=>r.less sub fun b z=>⟨(r.owns b z).1,fun q=>(hb b z).2 i ⟨l,e⟩ (by rw [q]; exact h1)⟩) (fun j r t ej=>by
  obtain ⟨e1,hj⟩:=yZ (fun r t=>by intro z; cases z) ej
  exact ⟨e1,rfl⟩) (fun j b oj ej=>.inl ⟨(yN (fun l=>by intro z; cases z) oj).1,ej⟩)⟩
 rotate_left 2
 · have := o.hold p hp
   cases p with
   | rep v d=>exact Rep.less sub this
   | base B=>exact fun b hb=>⟨⟨(this b hb).1,fun z=>(this b hb).2 (z ▸ o.fresh i l a e h1)⟩,(this b hb).2⟩
   | root k a=>exact True.intro
   | fz a' o' kvs' l'=>exact ⟨fun z=>this.1 (sub _ z),this.2.1,Reps.less sub this.2.2⟩
 · by_cases hj : j = i
   · subst hj
     rw [List.getElem?_set_self hl] at es
     cases es
     rw [h1]
     exact jN (.lst na (.inl h3) (h4.less sub))
   · rw [List.getElem?_set_ne (Ne.symm hj)] at es
     cases s with
     | no=>exact qU
     | ob r t=>exact jV
     | exc t =>
       obtain ⟨a',C',ob',u',q1,q2,q3,q4⟩:=o.readX es
       rw [q1]
       exact ⟨C',ob',u',q2,q3,q4⟩
     | fr l' =>
       obtain ⟨a',xs',q1,q2,q0,q3,q4⟩:=o.readF es
       rw [q1]
       exact ⟨fun z=>q2 (sub _ z),q0,xs',q3,q4.less sub⟩
     | v d =>
       obtain ⟨v,q1,q2⟩:=o.read es
       rw [q1]
       exact jN (q2.less sub)
     | own l' =>
       obtain ⟨b,ys,q1,q2,q3,q4⟩:=o.readO es
       rw [q1]
       refine ⟨⟨q2,fun z=>?_⟩,ys,q3,q4.less sub⟩
       subst z
       exact o.apart j i b hj ⟨l',es⟩ ⟨l,e⟩ q1 h1
 · have own':∀ {j:Nat},IsOwn (ds.set i (.v (.lst l))) j->IsOwn ds j:=fun {j} ⟨l',e'⟩=>by
    by_cases hj:j=i
    · subst hj
      rw [List.getElem?_set_self hl] at e'; cases e'
    · rw [List.getElem?_set_ne (Ne.symm hj)] at e'; exact ⟨l',e'⟩
   exact o.apart j m b hjm (own' hj) (own' hm) e1 e2
theorem Ok.modify {i:Nat} {l l':List D} {a:Addr} {xs':List V} (o:Ok K H₀ H O σ ds hd) (e:ds[i]? = some (.own l)) (ea : σ[i]? = some (some (.ref a))) (r:Reps K H O xs' l') :
  Ok K H₀ (upd H a (.lst xs')) O σ (ds.set i (.own l')) hd:=by
 obtain ⟨a',xs,h1,h2,h3,h4⟩:=o.readO e
 rw [ea] at h1; cases h1
 have hl:i < ds.length:=(List.getElem?_eq_some_iff.mp e).1
 have k:Keep O H (upd H a (.lst xs')):=fun b u hb eb=>by
  rw [upd_ne (fun (z:b=a)=>hb (z.symm ▸ h2))]; exact eb
 refine ⟨fun b u eb=>?_,fun j l2 b e1 e2=>?_,fun b hb=>?_,by simpa using o.len,fun j s es=>?_,fun j m b hjm hj hm e1 e2=>?_,fun p hp=>(o.hold p hp).keep k,o.obs.tr (fun _ _ _ r hb=>r.keep k fun b z u eu=>by rw [upd_ne (fun q=>(hb b z).2 i ⟨l,e⟩ (by rw [q]; exact ea))]; exact eu) (fun j r t ej=>by
  obtain ⟨e1,hj⟩:=yZ (fun r t=>by intro z; cases z) ej
  exact ⟨e1,rfl⟩) (fun j b oj ej=>by
  by_cases hj:j=i
  · subst hj; exact .inl ⟨⟨l,e⟩,ej⟩
  · obtain ⟨l', e'⟩ := oj
    rw [List.getElem?_set_ne (Ne.symm hj)] at e'
    exact .inl ⟨⟨l',e'⟩,ej⟩)⟩
 rotate_left 1
 · by_cases hj : j = i
   · subst hj; exact o.fresh j l b e e2
   · rw [List.getElem?_set_ne (Ne.symm hj)] at e1; exact o.fresh j l2 b e1 e2
 rotate_right 1
 · rw [upd_ne (fun z => by rw [z, o.fresh i l a e ea] at eb; cases eb)]
   exact o.same b u eb
 · by_cases hba : b = a
   · subst hba; exact ⟨⟨.lst xs',rfl⟩,upd_same⟩
   · rw [upd_ne hba]; exact o.dom b hb
 · by_cases hj : j = i
   · subst hj
     rw [List.getElem?_set_self hl] at es
     cases es
     rw [ea]
     exact ⟨h2,xs',upd_same,r.keep k⟩
   · rw [List.getElem?_set_ne (Ne.symm hj)] at es
     cases s with
     | no=>exact qU
     | ob r t=>exact jV
     | exc t =>
       obtain ⟨a',C',ob',u',q1,q2,q3,q4⟩:=o.readX es
       rw [q1]
       exact ⟨C',ob',u',q2,by rw [upd_ne (fun z=>by rw [z,h3] at q3; cases q3)]; exact q3,q4⟩
     | fr l' =>
       obtain ⟨a',xs'',q1,q2,q0,q3,q4⟩:=o.readF es
       rw [q1]
       exact ⟨q2,q0,xs'',by rw [upd_ne (fun z=>q2 (by rw [z]; exact h2))]; exact q3,q4.keep k⟩
     | v d =>
       obtain ⟨v,q1,q2⟩:=o.read es
       rw [q1]
       exact jN (q2.keep k)
     | own l'' =>
       obtain ⟨b,ys,q1,q2,q3,q4⟩:=o.readO es
       rw [q1]
       refine ⟨q2,ys,?_,q4.keep k⟩
       rw [upd_ne (fun z=>?_)]
       · exact q3
       · subst z
         exact o.apart j i b hj ⟨_,es⟩ ⟨l,e⟩ q1 ea
 · have own':∀ {j:Nat},IsOwn (ds.set i (.own l')) j->IsOwn ds j:=fun {j} ⟨l'',e'⟩=>by
    by_cases hj:j=i
    · subst hj; exact ⟨l,e⟩
    · rw [List.getElem?_set_ne (Ne.symm hj)] at e'; exact ⟨l'',e'⟩
   exact o.apart j m b hjm (own' hj) (own' hm) e1 e2
theorem Ok.holdMore {p:HI} (o:Ok K H₀ H O σ ds hd) (r:HOk K H₀ H O p) (hp:∀ k a,HI.root k a≠p:=by intro _ _ z; cases z):Ok K H₀ H O σ ds (p::hd) :=
 ⟨o.same,o.fresh,o.dom,o.len,o.sl,o.apart,fun q hq=>(List.mem_cons.mp hq).elim (fun e=>e ▸ r) (o.hold q),let ⟨F,hF⟩:=o.obs; ⟨F,fun i r t e=>let ⟨v,h1,h2,h3,h4⟩:=hF i r t e; ⟨v,h1,h2,fun k a z y=>(List.mem_cons.mp y).elim (fun y=>(hp k a y).elim) (h3 k a z),h4⟩⟩⟩
theorem Ok.holdLess {p:HI} (o:Ok K H₀ H O σ ds (p::hd)):Ok K H₀ H O σ ds hd :=
 ⟨o.same,o.fresh,o.dom,o.len,o.sl,o.apart,fun q hq=>o.hold q (List.mem_cons_of_mem _ hq),let ⟨F,hF⟩:=o.obs; ⟨F,fun i r t e=>let ⟨v,h1,h2,h3,h4⟩:=hF i r t e; ⟨v,h1,h2,fun k a z y=>h3 k a z (List.mem_cons_of_mem _ y),h4⟩⟩⟩
end
section
variable (X:Cx)
def PV (e:Expr) (f:FE):Prop:=∃ t,PE X e t/\∀ H₀ H O σ ds hd d Q,Ok X.K H₀ H O σ ds hd->f ds=some d->(∀ v H',Same H H'->Rep X.K H' O v d->Q v H')->t σ H Q
def PVw (e:Expr) (f:FE):Prop:=∃ t,PE X e t/\∀ H₀ H O σ ds hd d Q,Ok X.K H₀ H O σ ds hd->f ds=some d->(∀ v H',Same H H'->WRep X.K H' O v d->Q v H')->t σ H Q
def PVf (e:Expr) (f:FA):Prop:=∃ t,PE X e t/\∀ H₀ H O σ ds hd l Q,Ok X.K H₀ H O σ ds hd->f ds=some l →
 (∀ a xs H',Same H H'->H a=none->H' a=some (.lst xs)->Reps X.K H' (ins1 a O) xs l->Q (.ref a) H')->t σ H Q
def PTv (e:Expr) (c:FT):Prop:=∃ t,PT X e t/\∀ H₀ H O σ ds hd b Q,Ok X.K H₀ H O σ ds hd->c ds=some b->(∀ H',Same H H'->Q b H')->t σ H Q
def PWv (e:Expr) (c:FT):Prop:=∃ t,PW X e t/\∀ H₀ H O σ ds hd b Q,Ok X.K H₀ H O σ ds hd->c ds=some b->(∀ H',Same H H'->Q b H')->t σ H Q
def PAv (es:List Expr) (f:FA):Prop:=∃ t,PA X es t/\∀ H₀ H O σ ds hd l Q,Ok X.K H₀ H O σ ds hd->f ds=some l->(∀ vs H',Same H H'->Paired (WRep X.K H' O) vs l->Q vs H')->t σ H Q
def PAs (es:List Expr) (f:FA):Prop:=∃ t,PA X es t/\∀ H₀ H O σ ds hd l Q,Ok X.K H₀ H O σ ds hd->f ds=some l->(∀ vs H',Same H H'->Reps X.K H' O vs l->Q vs H')->t σ H Q
end
section
variable {X:Cx}
theorem PV.w {e:Expr} {f:FE} (h:PV X e f):PVw X e f:=by
 obtain ⟨t,ht,hf⟩:=h
 exact ⟨t,ht,fun H₀ H O σ ds hd d Q o e q=>hf H₀ H O σ ds hd d Q o e fun v H' s r=>q v H' s (.inl r)⟩
theorem PVf.s {e:Expr} {f:FA} (h:PVf X e f):PV X e (mkL f):=by
 obtain ⟨t,ht,hf⟩:=h
 refine ⟨t,ht,fun H₀ H O σ ds hd d Q o e q=>?_⟩
 unfold mkL at e
 obtain ⟨l,hl,rfl⟩:=mpd e
 rw [hl] at e; cases e
 refine hf H₀ H O σ ds hd l Q o hl fun a xs H' s hn he r=>q _ _ s ?_
 exact .lst (o.free hn) (.inl he) (r.less fun _ z=>.inr z)
theorem zM (i:Nat) {x:Str} {pos:Pos} (hN:X.N[i]? = some x:=by rfl) (hv:Vis X.env.scope x:=by first | exact Or.inl rfl | exact Or.inr (Or.inl rfl) | exact Or.inr (Or.inr rfl)) (hd:(x == ("__debug__" : Str))=false:=by decide)
  (hcd:(x == ("__classdict__" : Str))=false:=by decide):PV X (.Name x pos) (qF i):=by
 refine ⟨_,yH hN hv hd hcd,fun H₀ H O σ ds hd d Q o e q=>?_⟩
 unfold qF at e
 cases hs:ds[i]? with
 | none=>rw [hs] at e; cases e
 | some s =>
   rw [hs] at e
   cases s with
   | v d' =>
     cases e
     obtain ⟨v,h1,h2⟩:=o.read hs
     exact ⟨v,h1,q v H (Same.refl _) h2⟩
   | no=>cases e
   | exc _=>cases e
   | fr _=>cases e
   | ob _ _=>cases e
   | own l=>cases e
theorem zE (i:Nat) {x:Str} {pos:Pos} (hN:X.N[i]? = some x:=by rfl) (hv:Vis X.env.scope x:=by first | exact Or.inl rfl | exact Or.inr (Or.inl rfl) | exact Or.inr (Or.inr rfl)) (hd:(x == ("__debug__" : Str))=false:=by decide)
  (hcd:(x == ("__classdict__" : Str))=false:=by decide):PVw X (.Name x pos) (zI i):=by
 refine ⟨_,yH hN hv hd hcd,fun H₀ H O σ ds hd d Q o e q=>?_⟩
 unfold zI at e
 cases hs:ds[i]? with
 | none=>rw [hs] at e; cases e
 | some s =>
   rw [hs] at e
   cases s with
   | v d' =>
     cases e
     obtain ⟨v,h1,h2⟩:=o.read hs
     exact ⟨v,h1,q v H (Same.refl _) (.inl h2)⟩
   | no=>cases e
   | exc _=>cases e
   | fr _=>cases e
   | ob _ _=>cases e
   | own l =>
     cases e
     obtain ⟨a,xs,h1,h2,h3,h4⟩:=o.readO hs
     exact ⟨.ref a,h1,q _ H (Same.refl _) (.inr ⟨a,xs,l,rfl,rfl,h2,h3,h4⟩)⟩
theorem qI {i:Int} {j pos} : PV X (.Constant (.int i) j pos) (zA (.int i)):=⟨_,pe_int,fun _ H _ _ _ _ _ _ _ e q=>by cases e; exact q _ H (Same.refl _) (.int i)⟩
theorem vQ {b:Bool} {j pos} : PV X (.Constant (.bool b) j pos) (zA (.bl b)):=⟨_,pe_bl,fun _ H _ _ _ _ _ _ _ e q=>by cases e; exact q _ H (Same.refl _) (.bl b)⟩
theorem jA {j pos} : PV X (.Constant .none j pos) (zA .non):=⟨_,pe_non,fun _ H _ _ _ _ _ _ _ e q=>by cases e; exact q _ H (Same.refl _) .non⟩
theorem vX {x:Str} {j pos} : PV X (.Constant (.str x) j pos) (zA (.str x)):=⟨_,pe_str,fun _ H _ _ _ _ _ _ _ e q=>by cases e; exact q _ H (Same.refl _) (.str x)⟩
theorem pv_glob {x:Str} {v:V} {u:Value} {d:D} {pos:Pos} (hg:Gl X x) (hm:X.mg x=some u) (r:RelV v u) (hr:∀ H O,Rep X.K H O v d) (hd:(x == ("__debug__" : Str))=false:=by decide):PV X (.Name x pos) (zA d) :=
 ⟨_,pe_glob hg hm r hd,fun _ H O _ _ _ _ _ _ e q=>by cases e; exact q _ H (Same.refl _) (hr H O)⟩
def OpS (X:Cx) (r:R2) (op:D->D->Option D):Prop:=∀ H O x y dx dy d Q,(∀ a,O a->∃ u:MutHO,H a=some u.1)->WRep X.K H O x dx->WRep X.K H O y dy->op dx dy=some d->(∀ v H',Same H H'->Rep X.K H' O v d->Q v H')->r x y H Q
theorem pv_tOp {r:R2} {op:D->D->Option D} (hs:OpS X r op) {a b:Expr} {fa fb:FE} {ta tb:TE} (ha:∀ H₀ H O σ ds hd d Q,Ok X.K H₀ H O σ ds hd->fa ds=some d->(∀ v H',Same H H'->WRep X.K H' O v d->Q v H')->ta σ H Q)
  (hb:∀ H₀ H O σ ds hd d Q,Ok X.K H₀ H O σ ds hd->fb ds=some d->(∀ v H',Same H H'->WRep X.K H' O v d->Q v H')->tb σ H Q) :
  ∀ H₀ H O σ ds hd d Q,Ok X.K H₀ H O σ ds hd->zJ op fa fb ds=some d->(∀ v H',Same H H'->Rep X.K H' O v d->Q v H')->tOp r ta tb σ H Q:=by
 intro H₀ H O σ ds hd d Q o e q
 unfold zJ at e
 obtain ⟨dx,h1,e⟩:=bnd e
 obtain ⟨dy,h2,e⟩:=bnd e
 refine ha H₀ H O σ ds hd dx _ o h1 fun x H1 s1 r1=>?_
 refine hb H₀ H1 O σ ds hd dy _ (o.mono s1) h2 fun y H2 s2 r2=>?_
 exact hs H2 O x y dx dy d Q ((o.mono s1).mono s2).dom (r1.mono s2) r2 e fun v H' s r=>q v H' ((s1.trans s2).trans s) r
theorem pv_bin {op:Operator} {r:R2} {opD:D->D->Option D} {a b:Expr} {fa fb:FE} {pos:Pos} (ho:OpR X (binaryOp op) r) (hs:OpS X r opD) (ha:PVw X a fa) (hb:PVw X b fb):PV X (.BinOp a op b pos) (zJ opD fa fb):=by
 obtain ⟨ta,pa,ha⟩:=ha
 obtain ⟨tb,pb,hb⟩:=hb
 exact ⟨_,pe_op ho pa pb,pv_tOp hs (a:=a) (b:=b) ha hb⟩
theorem pv_cmp {op:CmpOp} {r:R2} {opD:D->D->Option D} {a b:Expr} {fa fb:FE} {pos:Pos} (ho:OpR X (compareOp op) r) (hs:OpS X r opD) (ha:PVw X a fa) (hb:PVw X b fb) (hm:behindInMarks op b=false):PV X (.Compare a [op] [b] pos) (zJ opD fa fb):=by
 obtain ⟨ta,pa,ha⟩:=ha
 obtain ⟨tb,pb,hb⟩:=hb
 exact ⟨_,pe_cmpR ho pa pb hm,pv_tOp hs (a:=a) (b:=b) ha hb⟩
theorem pt_cmpV {op:CmpOp} {r:R2} {opD:D->D->Option D} {a b:Expr} {fa fb:FE} {pos:Pos} (ho:OpR X (compareOp op) r) (hs:OpS X r opD) (ha:PVw X a fa) (hb:PVw X b fb) (hm:behindInMarks op b=false):PTv X (.Compare a [op] [b] pos) (zP (zJ opD fa fb)):=by
 obtain ⟨ta,pa,ha⟩:=ha
 obtain ⟨tb,pb,hb⟩:=hb
 refine ⟨_,pt_cmpR ho pa pb hm,fun H₀ H O σ ds hd k Q o e q=>?_⟩
 unfold zP at e
 obtain ⟨d,h,e⟩:=bnd e
 refine pv_tOp hs (a:=a) (b:=b) ha hb H₀ H O σ ds hd d _ o h fun v H' s r=>?_
 cases d with
 | bl c=>cases e; cases r; exact ⟨_,rfl,q H' s⟩
 | _=>cases e
theorem os_add:OpS X (fun x y H Q=>rI0 (fun i j=>.int (i+j)) x y H Q \/ ∃ i j,x = .str i/\y = .str j/\i.length+j.length<=sizeLine/\Q (.str (i++j)) H) yG:=by
 intro H O x y dx dy d Q ho rx ry e q
 cases dx <;> cases dy <;> first | (simp [yG] at e; done) | skip
 · cases e
   rw [rx.int',ry.int']
   exact .inl ⟨_,_,rfl,rfl,q _ H (Same.refl _) (.int _)⟩
 · rename_i x y
   simp only [yG] at e
   split at e
   · rename_i hl
     cases e
     rw [rx.str',ry.str']
     exact .inr ⟨_,_,rfl,rfl,hl,q _ H (Same.refl _) (.str _)⟩
   · cases e
theorem op_addU:OpR X (binaryOp .Add) (fun x y H Q=>rI0 (fun i j=>.int (i+j)) x y H Q \/ ∃ i j,x = .str i/\y = .str j/\i.length+j.length<=sizeLine/\Q (.str (i++j)) H):=op_add.or op_add_str
def CDivB (i j:Int):Prop:=divOk j
theorem op_fdivB:OpR X (binaryOp .FloorDiv) (rI CDivB fun i j=>.int (i / j)):=opI fun i j _ _ _ _ _ hc q=>by
 have e:i.fdiv j=i / j:=Int.fdiv_eq_ediv_of_nonneg _ (Int.le_of_lt hc.1)
 refine floordiv_int (by have:=hc.1; omega) ?_ (.inl (PyProof.noPylong_of_log2 hc.2))
 rw [e]; exact q
theorem os_fdiv:OpS X (rI CDivB fun i j=>.int (i / j)) qL:=by
 intro H O x y dx dy d Q ho rx ry e q
 cases dx <;> cases dy <;> first | (simp [qL] at e; done) | skip
 simp only [qL] at e
 split at e
 · rename_i hc
   cases e
   rw [rx.int',ry.int']
   exact ⟨_,_,rfl,rfl,hc,q _ H (Same.refl _) (.int _)⟩
 · cases e
theorem os_mod:OpS X (rI (fun _ j=>0 < j) fun i j=>.int (i % j)) jO:=by
 intro H O x y dx dy d Q ho rx ry e q
 cases dx <;> cases dy <;> first | (simp [jO] at e; done) | skip
 simp only [jO] at e
 split at e
 · rename_i hc
   cases e
   rw [rx.int',ry.int']
   exact ⟨_,_,rfl,rfl,hc,q _ H (Same.refl _) (.int _)⟩
 · cases e
theorem os_cmpI {p:Int->Int->Bool} : OpS X (rI0 fun i j=>.bl (p i j)) (cmpI p):=by
 intro H O x y dx dy d Q ho rx ry e q
 cases dx <;> cases dy <;> first | (simp [cmpI] at e; done) | skip
 cases e
 rw [rx.int',ry.int']
 exact ⟨_,_,rfl,rfl,q _ H (Same.refl _) (.bl _)⟩
end
section
variable {X:Cx}
theorem PV.t {e:Expr} {f:FE} (h:PV X e f) (he:∀ whole,isTrue e X.env whole=(do let v <- whole; standAt e.pos; holding [v] (truthy v)):=by intro _; rfl):PTv X e (zP f):=by
 obtain ⟨t,ht,hf⟩:=h
 refine ⟨_,pt_val ht he,fun H₀ H O σ ds hd k Q o e q=>?_⟩
 unfold zP at e
 obtain ⟨d,h,e⟩:=bnd e
 refine hf H₀ H O σ ds hd d _ o h fun v H' s r=>?_
 cases d with
 | bl c=>cases e; cases r; exact ⟨_,rfl,q H' s⟩
 | _=>cases e
theorem pwv_and1 {a:Expr} {pos:Pos} {c:FT} (ha:PTv X a c):PWv X (.BoolOp .And [a] pos) c:=by
 obtain ⟨t,ht,hf⟩:=ha
 exact ⟨_,pw_and1 ht,hf⟩
theorem xD {a:Expr} {pos:Pos} {c:FT} (ha:PTv X a c):PWv X (.BoolOp .Or [a] pos) c:=by
 obtain ⟨t,ht,hf⟩:=ha
 exact ⟨_,pw_or1 ht,hf⟩
theorem pwv_and {a b:Expr} {rest:List Expr} {pos:Pos} {c d:FT} (ha:PTv X a c) (hb:PWv X (.BoolOp .And (b::rest) pos) d):PWv X (.BoolOp .And (a::b::rest) pos) (andT c d):=by
 obtain ⟨t,ht,hf⟩:=ha
 obtain ⟨u,hu,hg⟩:=hb
 refine ⟨_,pw_and ht hu,fun H₀ H O σ ds hd k Q o e q=>?_⟩
 unfold andT at e
 obtain ⟨b,h,e⟩:=bnd e
 refine hf H₀ H O σ ds hd b _ o h fun H' s=>?_
 cases b with
 | true=>exact iteT (hg H₀ H' O σ ds hd k Q (o.mono s) (by simpa using e) fun H'' s'=>q H'' (s.trans s'))
 | false =>
   have:false=k:=by simpa using e
   subst this
   exact iteF (q H' s)
theorem vN {a b:Expr} {rest:List Expr} {pos:Pos} {c d:FT} (ha:PTv X a c) (hb:PWv X (.BoolOp .Or (b::rest) pos) d):PWv X (.BoolOp .Or (a::b::rest) pos) (orT c d):=by
 obtain ⟨t,ht,hf⟩:=ha
 obtain ⟨u,hu,hg⟩:=hb
 refine ⟨_,pw_or ht hu,fun H₀ H O σ ds hd k Q o e q=>?_⟩
 unfold orT at e
 obtain ⟨b,h,e⟩:=bnd e
 refine hf H₀ H O σ ds hd b _ o h fun H' s=>?_
 cases b with
 | false=>exact iteF (hg H₀ H' O σ ds hd k Q (o.mono s) (by simpa using e) fun H'' s'=>q H'' (s.trans s'))
 | true =>
   have:true=k:=by simpa using e
   subst this
   exact iteT (q H' s)
theorem PWv.t {e:Expr} {c:FT} (h:PWv X e c):PTv X e c:=by
 obtain ⟨t,ht,hf⟩:=h
 exact ⟨t,ht.pt,hf⟩
theorem yD {a:Expr} {pos:Pos} {c:FT} (ha:PTv X a c):PTv X (.UnaryOp .Not a pos) (notT c):=by
 obtain ⟨t,ht,hf⟩:=ha
 refine ⟨_,pt_not ht,fun H₀ H O σ ds hd k Q o e q=>?_⟩
 unfold notT at e
 obtain ⟨b,h,rfl⟩:=mpd e
 exact hf H₀ H O σ ds hd b _ o h fun H' s=>q H' s
theorem vY {a:Expr} {op} {pos:Pos} {f:FE} (ha:PV X a f):PV X (.BoolOp op [a] pos) f:=by
 obtain ⟨t,ht,hf⟩:=ha
 exact ⟨_,pe_one ht,hf⟩
theorem vT {a b:Expr} {rest:List Expr} {pos:Pos} {f g:FE} (ha:PV X a f) (hb:PV X (.BoolOp .And (b::rest) pos) g):PV X (.BoolOp .And (a::b::rest) pos) (andV f g):=by
 obtain ⟨t,ht,hf⟩:=ha
 obtain ⟨u,hu,hg⟩:=hb
 refine ⟨_,pe_and ht hu,fun H₀ H O σ ds hd d Q o e q=>?_⟩
 unfold andV at e
 obtain ⟨dd,h,e⟩:=bnd e
 refine hf H₀ H O σ ds hd dd _ o h fun v H' s r=>?_
 cases dd with
 | bl c =>
   cases r
   cases c with
   | true=>exact ⟨true,rfl,iteT (hg H₀ H' O σ ds hd d Q (o.mono s) e fun v H'' s'=>q v H'' (s.trans s'))⟩
   | false =>
     have:D.bl false=d:=Option.some.inj e
     subst this
     exact ⟨false,rfl,iteF (q _ H' s (.bl false))⟩
 | _=>cases e
theorem pv_or {a b:Expr} {rest:List Expr} {pos:Pos} {f g:FE} (ha:PV X a f) (hb:PV X (.BoolOp .Or (b::rest) pos) g):PV X (.BoolOp .Or (a::b::rest) pos) (orV f g):=by
 obtain ⟨t,ht,hf⟩:=ha
 obtain ⟨u,hu,hg⟩:=hb
 refine ⟨_,pe_or ht hu,fun H₀ H O σ ds hd d Q o e q=>?_⟩
 unfold orV at e
 obtain ⟨dd,h,e⟩:=bnd e
 refine hf H₀ H O σ ds hd dd _ o h fun v H' s r=>?_
 cases dd with
 | bl c =>
   cases r
   cases c with
   | false=>exact ⟨false,rfl,iteF (hg H₀ H' O σ ds hd d Q (o.mono s) e fun v H'' s'=>q v H'' (s.trans s'))⟩
   | true =>
     have:D.bl true=d:=Option.some.inj e
     subst this
     exact ⟨true,rfl,iteT (q _ H' s (.bl true))⟩
 | _=>cases e
theorem pv_not {a:Expr} {pos:Pos} {f:FE} (ha:PV X a f):PV X (.UnaryOp .Not a pos) (notV f):=by
 obtain ⟨t,ht,hf⟩:=ha
 refine ⟨_,pe_not ht,fun H₀ H O σ ds hd d Q o e q=>?_⟩
 unfold notV at e
 obtain ⟨dd,h,e⟩:=bnd e
 refine hf H₀ H O σ ds hd dd _ o h fun v H' s r=>?_
 cases dd with
 | bl c=>cases r; cases e; exact ⟨c,rfl,q _ H' s (.bl _)⟩
 | _=>cases e
theorem qD:PAv X [] zR:=⟨_,jK,fun _ H _ _ _ _ _ _ _ e q=>by cases e; exact q _ H (Same.refl _) .nil⟩
theorem zO:PAs X [] zR:=⟨_,jK,fun _ H _ _ _ _ _ _ _ e q=>by cases e; exact q _ H (Same.refl _) .nil⟩
theorem zS {e:Expr} {es:List Expr} {f:FE} {g:FA} (ha:PVw X e f) (hr:PAv X es g) (hs:starEach (e::es) X.env=(false,eval e X.env)::starEach es X.env:=by rfl):PAv X (e::es) (zB f g):=by
 obtain ⟨t,ht,hf⟩:=ha
 obtain ⟨u,hu,hg⟩:=hr
 refine ⟨_,qK ht hu hs,fun H₀ H O σ ds hd l Q o e q=>?_⟩
 unfold zB at e
 obtain ⟨x,h,e⟩:=bnd e
 obtain ⟨r,h2,rfl⟩:=mpd e
 refine hf H₀ H O σ ds hd x _ o h fun v H1 s1 r1=>?_
 refine hg H₀ H1 O σ ds hd r _ (o.mono s1) h2 fun vs H2 s2 r2=>?_
 exact q _ H2 (s1.trans s2) (.cons (r1.mono s2) r2)
theorem zF {e:Expr} {es:List Expr} {f:FE} {g:FA} (ha:PV X e f) (hr:PAs X es g) (hs:starEach (e::es) X.env=(false,eval e X.env)::starEach es X.env:=by rfl):PAs X (e::es) (zB f g):=by
 obtain ⟨t,ht,hf⟩:=ha
 obtain ⟨u,hu,hg⟩:=hr
 refine ⟨_,qK ht hu hs,fun H₀ H O σ ds hd l Q o e q=>?_⟩
 unfold zB at e
 obtain ⟨x,h,e⟩:=bnd e
 obtain ⟨r,h2,rfl⟩:=mpd e
 refine hf H₀ H O σ ds hd x _ o h fun v H1 s1 r1=>?_
 refine hg H₀ H1 O σ ds hd r _ (o.mono s1) h2 fun vs H2 s2 r2=>?_
 exact q _ H2 (s1.trans s2) (.cons (r1.mono s2) r2)
theorem zX {H:Hp} {p:Addr} (h:H p=none) (o:HO):Same H (upd H p o):=fun b u q=>by rw [upd_ne (qV q h)]; exact q
theorem qH {es:List Expr} {pos:Pos} {g:FA} (h:PAs X es g):PVf X (.List es pos) (zZ g):=by
 obtain ⟨t,ht,hf⟩:=h
 refine ⟨_,pe_lst ht,fun H₀ H O σ ds hd l Q o e q=>?_⟩
 unfold zZ at e
 cases h:g ds with
 | none=>rw [h] at e; cases e
 | some l' =>
   rw [h] at e
   simp only [Option.bind_some] at e
   split at e
   · rename_i hl
     cases e
     refine hf H₀ H O σ ds hd l _ o h fun vs H1 s1 r1=>⟨by rw [r1.length]; exact hl,fun p hp=>?_⟩
     refine q p vs _ (s1.trans (zX hp _)) (s1.free hp) upd_same ?_
     exact (r1.more hp).mono (zX hp _)
   · cases e
theorem jR {es:List Expr} {x1} {pos:Pos} {g:FA} (h:PAs X es g):PV X (.Tuple es x1 pos) (mkT (zZ g)):=by
 obtain ⟨t,ht,hf⟩:=h
 refine ⟨_,pe_tup ht,fun H₀ H O σ ds hd d Q o e q=>?_⟩
 unfold mkT zZ at e
 cases h:g ds with
 | none=>rw [h] at e; cases e
 | some l' =>
   rw [h] at e
   simp only [Option.bind_some] at e
   split at e
   · rename_i hl
     cases e
     refine hf H₀ H O σ ds hd l' _ o h fun vs H1 s1 r1=>⟨by rw [r1.length]; exact hl,fun p hp=>?_⟩
     refine q _ _ (s1.trans (zX hp _)) ?_
     exact .tup ((o.mono s1).free hp) (.inl upd_same) (r1.mono (zX hp _))
   · cases e
theorem atI_rep {K:Frag} {H:Hp} {O:Addr->Prop} {xs:List V} {l:List D} {i:Int} {d:D} (r:Reps K H O xs l) (e:atI l i=some d):∃ v,atI xs i=some v/\Rep K H O v d:=by
 unfold atI at e ⊢
 rw [r.length]
 cases h:ixN l.length i with
 | none=>rw [h] at e; cases e
 | some j =>
   rw [h] at e
   exact r.get e
theorem ix_sem {K:Frag} {H:Hp} {O:Addr->Prop} {x y:V} {dx dy d:D} {Q:VK} (rx:WRep K H O x dx) (ry:WRep K H O y dy) (e:ixD dx dy=some d) (q:∀ v H',Same H H'->Rep K H' O v d->Q v H'):rIx K x y H Q:=by
 cases dx <;> cases dy <;> first | (simp [ixD] at e; done) | skip
 · simp only [ixD] at e
   split at e
   · rename_i hl
     rw [rx.str',ry.int']
     rename_i z i
     obtain ⟨c,hc,rfl⟩:=mpd e
     exact .inr (.inr ⟨_,_,c,rfl,rfl,hl,hc,q _ H (Same.refl _) (.str _)⟩)
   · cases e
 · obtain ⟨a, xs, rfl, hs, r⟩ := rx.seqT
   rw [ry.int']
   obtain ⟨v,h1,h2⟩:=atI_rep r e
   exact .inr (.inl ⟨a,xs,_,v,rfl,rfl,hs,h1,q _ H (Same.refl _) h2⟩)
 · obtain ⟨a, xs, rfl, hs, r⟩ := rx.seqL
   rw [ry.int']
   obtain ⟨v,h1,h2⟩:=atI_rep r e
   exact .inl ⟨a,xs,_,v,rfl,rfl,hs,h1,q _ H (Same.refl _) h2⟩
theorem os_ix:OpS X (rIx X.K) ixD:=fun H O x y dx dy d Q ho rx ry e q=>ix_sem rx ry e q
theorem qP {a b:Expr} {fa fb:FE} {pos:Pos} (ha:PVw X a fa) (hb:PVw X b fb) (hs:PlainIx b:=by exact fun _ _=>rfl):PV X (.Subscript a b pos) (zJ ixD fa fb):=by
 obtain ⟨ta,pa,ha⟩:=ha
 obtain ⟨tb,pb,hb⟩:=hb
 exact ⟨_,pe_ix ix_seq pa pb hs,pv_tOp os_ix (a:=a) (b:=b) ha hb⟩
end
noncomputable def RetOk (K:Frag) (H H':Hp) (v:V):Ret->Prop
 | .val d=>Rep K H' (Old H) v d
 | .fresh l=>∃ a xs,v = .ref a/\H a=none/\H' a=some (.lst xs)/\Reps K H' (ins1 a (Old H)) xs l
 | .any d=>Rep K H' jE v d
 | .obj t=>∃ fs,RepO K H' (fun b=>b∈fs \/ Old H b) v t fs/\fs.Nodup/\∀ b∈fs,H b=none
noncomputable def RetB (K:Frag) (H:Hp) (hd:Hold) (v:V):Ret->Prop
 | .any d=>∀ B,HI.base B∈hd->Rep K H B v d
 | _=>True
noncomputable def spF (K:Frag) (n:Nat) (F:List D->Option Ret):Sp:=fun vs H Q _=>vs.length=n/\∃ ds r,Reps K H jE vs ds/\F ds=some r/\∀ v H',Same H H'->RetOk K H H' v r->Q v H'
section
variable {X:Cx}
theorem retV_ok {K:Frag} {H H':Hp} {O:Addr->Prop} {v:V} {r:Ret} {d:D} (h:RetOk K H H' v r) (e:retV r=some d) (ho:∀ a,O a->Old H a):Rep K H' O v d:=by
 cases r with
 | any d'=>cases e
 | val d'=>cases e; exact h.less ho
 | obj t =>
   cases e
   obtain ⟨fs,h1,h2,h3⟩:=h
   refine h1.val' fun a z=>⟨.inr (ho a z),fun q=>?_⟩
   obtain ⟨o,e,_⟩:=ho a z
   rw [h3 a q] at e; cases e
 | fresh l =>
   cases e
   obtain ⟨a,xs,rfl,h1,h2,h3⟩:=h
   refine .lst (fun z=>?_) (.inl h2) (h3.less fun b z=>.inr (ho b z))
   obtain ⟨o,e,_⟩:=ho a z
   rw [h1] at e; cases e
theorem retF_ok {K:Frag} {H H':Hp} {O:Addr->Prop} {v:V} {r:Ret} {l:List D} (h:RetOk K H H' v r) (e:retF r=some l) (ho:∀ a,O a->Old H a):∃ a xs,v = .ref a/\H a=none/\H' a=some (.lst xs)/\Reps K H' (ins1 a O) xs l:=by
 cases r with
 | any d'=>cases e
 | val d'=>cases e
 | obj t=>cases e
 | fresh l' =>
   cases e
   obtain ⟨a,xs,rfl,h1,h2,h3⟩:=h
   exact ⟨a,xs,rfl,h1,h2,h3.less fun b z=>z.elim .inl fun z=>.inr (ho b z)⟩
section
variable {k:Nat} {f:Addr} {fd:FuncData} {ps:List Str} {n:Nat} {F:List D->Option Ret} {x:Str} {p pos:Pos} {e:Expr} {es:List Expr} {g:FA}
end
def CallS (X:Cx) (r:List V->Hp->VK->Prop) (F:List D->Option D):Prop:=∀ H O vs l d Q,(∀ a,O a->∃ u:MutHO,H a=some u.1)->Paired (WRep X.K H O) vs l->F l=some d->(∀ v H',Same H H'->Rep X.K H' O v d->Q v H')->r vs H Q
theorem wL {x:Str} {p pos:Pos} {e:Expr} {es:List Expr} {id:String} {r:List V->Hp->VK->Prop} {F:List D->Option D} {g:FA} (hc:CallR X (.builtin id) r) (hs:CallS X r F) (hm:X.mg x=none) (hv:bootBuiltins x=some (.builtin id)) (ha:PAv X (e::es) g)
  (hg:Gl X x) (hn:x≠"__name__":=by decide) (hdb:(x == ("__debug__" : Str))=false:=by decide) (he:starEach (e::es) X.env=(false,eval e X.env)::starEach es X.env:=by rfl) (hpl:(backTo pos (starEach es X.env)).any (·.1)=false:=by rfl) :
  PV X (.Call (.Name x p) (e::es) [] pos) (callB F g):=by
 obtain ⟨t,ht,hf⟩:=ha
 refine ⟨_,yU hc hg hm hv ht hn hdb he hpl,fun H₀ H O σ ds hd d Q o e q=>?_⟩
 unfold callB at e
 obtain ⟨l,h,e⟩:=bnd e
 refine hf H₀ H O σ ds hd l _ o h fun vs H1 s1 r1=>?_
 exact hs H1 O vs l d Q (o.mono s1).dom r1 e fun v H' s' r=>q v H' (s1.trans s') r
theorem call_lenU:CallR X (.builtin "len") (fun xs H Q=>(∃ p ys,xs=[.ref p]/\(SqL X.K H p ys \/ SqT X.K H p ys)/\Q (.int ys.length) H) \/ ∃ z,xs=[.str z]/\z.length<=sizeLine/\Q (.int z.length) H):=call_len_seq.or call_len_str
theorem cs_len:CallS X (fun xs H Q=>(∃ p ys,xs=[.ref p]/\(SqL X.K H p ys \/ SqT X.K H p ys)/\Q (.int ys.length) H) \/ ∃ z,xs=[.str z]/\z.length<=sizeLine/\Q (.int z.length) H) lenD:=by
 intro H O vs l d Q ho r e q
 unfold lenD at e
 split at e
 · cases e
   cases r with
   | cons r rn =>
     cases rn
     obtain ⟨a,xs,rfl,hs,rs⟩:=r.seqL
     refine .inl ⟨a,xs,rfl,.inl hs,?_⟩
     rw [rs.length]
     exact q _ H (Same.refl _) (.int _)
 · cases e
   cases r with
   | cons r rn =>
     cases rn
     obtain ⟨a,xs,rfl,hs,rs⟩:=r.seqT
     refine .inl ⟨a,xs,rfl,.inr hs,?_⟩
     rw [rs.length]
     exact q _ H (Same.refl _) (.int _)
 · split at e
   · rename_i hl
     cases e
     cases r with
     | cons r rn =>
       cases rn
       rw [r.str']
       exact .inr ⟨_,rfl,hl,q _ H (Same.refl _) (.int _)⟩
   · cases e
 · cases e
theorem jJ {p pos:Pos} {e:Expr} {g:FA} (hm:X.mg "len" = none) (ha:PAv X [e] g) (hg:Gl X "len":=by rfl) (he:starEach [e] X.env=[(false,eval e X.env)]:=by rfl) :
  PV X (.Call (.Name "len" p) [e] [] pos) (callB lenD g):=wL call_lenU cs_len hm PySem.boot_len ha hg (by decide) (by decide) he rfl
noncomputable def After (X:Cx) (H₀ : Hp) (hd:Hold) (E:Ends):Out->Prop
 | .nx ds=>∀ σ H O,Ok X.K H₀ H O σ ds hd->E.nx σ H
 | .bk ds=>∀ σ H O,Ok X.K H₀ H O σ ds hd->E.bk σ H
 | .ct ds=>∀ σ H O,Ok X.K H₀ H O σ ds hd->E.ct σ H
 | .rt r=>∀ v H,Same H₀ H->RetOk X.K H₀ H v r->RetB X.K H hd v r->E.rt v H
variable (X) in
def PSv (st:Stmt) (g:FS):Prop:=∃ t,PS X st t/\∀ H₀ H O σ ds hd out E,Ok X.K H₀ H O σ ds hd->g ds=some out->After X H₀ hd E out->t E σ H
variable (X) in
def PSsv (st:List Stmt) (g:FS):Prop:=∃ t,PSs X st t/\∀ H₀ H O σ ds hd out E,Ok X.K H₀ H O σ ds hd->g ds=some out->After X H₀ hd E out->t E σ H
theorem zK:PSsv X [] qB:=⟨_,pss_nil,fun _ H O σ ds hd out E o e h=>by cases e; exact h σ H O o⟩
theorem zC {st:Stmt} {rest:List Stmt} {f g:FS} (h1:PSv X st f) (h2:PSsv X rest g):PSsv X (st::rest) (qJ f g):=by
 obtain ⟨t,ht,hf⟩:=h1
 obtain ⟨u,hu,hg⟩:=h2
 refine ⟨_,kA ht hu,fun H₀ H O σ ds hd out E o e h=>?_⟩
 unfold qJ at e
 obtain ⟨o1,h1,e⟩:=bnd e
 refine hf H₀ H O σ ds hd o1 _ o h1 ?_
 cases o1 with
 | nx ds'=>exact fun σ' H' O' o'=>hg H₀ H' O' σ' ds' hd out E o' e h
 | rt r=>cases e; exact h
 | bk ds'=>cases e; exact h
 | ct ds'=>cases e; exact h
theorem zG {st:Stmt} {f:FS} (h1:PSv X st f):PSsv X [st] f:=by
 obtain ⟨t,ht,hf⟩:=h1
 exact ⟨_,pss_one ht,hf⟩
theorem psv_continue {pos:Pos} : PSv X (.Continue pos) (fun ds=>some (.ct ds)):=⟨_,ps_continue,fun _ H O σ ds hd out E o e h=>by cases e; exact h σ H O o⟩
theorem zV {c:Expr} {a b:List Stmt} {pos:Pos} {fc:FT} {f g:FS} (hc:PTv X c fc) (ha:PSsv X a f) (hb:PSsv X b g):PSv X (.If c a b pos) (ifG fc f g):=by
 obtain ⟨tc,pc,hc⟩:=hc
 obtain ⟨t,ht,hf⟩:=ha
 obtain ⟨u,hu,hg⟩:=hb
 refine ⟨_,ps_if pc ht hu,fun H₀ H O σ ds hd out E o e h=>?_⟩
 unfold ifG at e
 obtain ⟨k,h1,e⟩:=bnd e
 refine hc H₀ H O σ ds hd k _ o h1 fun H' s=>?_
 cases k with
 | true=>exact iteT (hf H₀ H' O σ ds hd out E (o.mono s) (by simpa using e) h)
 | false=>exact iteF (hg H₀ H' O σ ds hd out E (o.mono s) (by simpa using e) h)
theorem qW {i:Nat} {x:Str} {e:Expr} {pos pos':Pos} {f:FE} (hN:X.N.Nodup) (he:PV X e f) (hi:X.N[i]? = some x:=by rfl) (hx:Loc X.env.scope x:=by first | exact Or.inl rfl | exact Or.inr rfl) (hs:swapsWith e (some (.Name x pos')) pos.line X.env=pure false:=by rfl)
  (hf:X.fn x=true \/ X.env.scope.names.lookup x=some .local:=by first | exact .inl rfl | exact .inr rfl):PSv X (.Assign [.Name x pos'] e pos) (xG i f):=by
 obtain ⟨t,ht,hg⟩:=he
 refine ⟨_,ps_set hN hi hx ht hs hf,fun H₀ H O σ ds hd out E o e h=>?_⟩
 unfold xG at e
 obtain ⟨d,h1,rfl⟩:=mpd e
 exact hg H₀ H O σ ds hd d _ o h1 fun v H' s r=>h _ _ _ ((o.mono s).set r)
theorem yC {i:Nat} {x:Str} {e:Expr} {pos pos':Pos} {f:FA} (hN:X.N.Nodup) (he:PVf X e f) (hi:X.N[i]? = some x:=by rfl) (hx:Loc X.env.scope x:=by first | exact Or.inl rfl | exact Or.inr rfl) (hs:swapsWith e (some (.Name x pos')) pos.line X.env=pure false:=by rfl)
  (hf:X.fn x=true \/ X.env.scope.names.lookup x=some .local:=by first | exact .inl rfl | exact .inr rfl):PSv X (.Assign [.Name x pos'] e pos) (setOG i f):=by
 obtain ⟨t,ht,hg⟩:=he
 refine ⟨_,ps_set hN hi hx ht hs hf,fun H₀ H O σ ds hd out E o e h=>?_⟩
 unfold setOG at e
 obtain ⟨l,h1,rfl⟩:=mpd e
 exact hg H₀ H O σ ds hd l _ o h1 fun a xs H' s hn he r=>h _ _ _ (o.setO s hn he r)
theorem zW {e:Expr} {pos:Pos} {f:FE} (he:PVw X e f):PSv X (.Return (some e) pos) (retG f):=by
 obtain ⟨t,ht,hg⟩:=he
 refine ⟨_,ps_ret ht,fun H₀ H O σ ds hd out E o e h=>?_⟩
 unfold retG at e
 obtain ⟨d,h1,e⟩:=bnd e
 simp only [Option.bind_some,flatR] at e
 split at e
 · rename_i hf
   cases e
   exact hg H₀ H O σ ds hd d _ o h1 fun v H' s r=>h _ _ (o.same.trans s) (Rep.flatten (fun a z=>Old.mono (o.same.trans s) z) hf r.any) True.intro
 · cases e
theorem kC {e:Expr} {pos:Pos} {f:FA} (he:PVf X e f):PSv X (.Return (some e) pos) (retOG f):=by
 obtain ⟨t,ht,hg⟩:=he
 refine ⟨_,ps_ret ht,fun H₀ H O σ ds hd out E o e h=>?_⟩
 unfold retOG at e
 obtain ⟨l,h1,e⟩:=bnd e
 simp only [Option.bind_some,flatF] at e
 split at e
 · rename_i hf
   cases e
   refine hg H₀ H O σ ds hd l _ o h1 fun a xs H' s hn he r=>h _ _ (o.same.trans s) ⟨a,xs,rfl,o.same.free hn,he,Reps.flatten (fun b z=>?_) hf r⟩ True.intro
   rcases z with rfl | z
   · exact ⟨_,he,rfl⟩
   · exact Old.mono (o.same.trans s) z
 · cases e
theorem wI (i:Nat) {x:Str} {pos pos':Pos} (hN:X.N[i]? = some x:=by rfl) (hv:Vis X.env.scope x:=by first | exact Or.inl rfl | exact Or.inr (Or.inl rfl) | exact Or.inr (Or.inr rfl)) (hd:(x == ("__debug__" : Str))=false:=by decide)
  (hcd:(x == ("__classdict__" : Str))=false:=by decide):PSv X (.Return (some (.Name x pos')) pos) (retXG i):=by
 refine ⟨_,ps_ret (yH hN hv hd hcd),fun H₀ H O σ ds hd out E o e h=>?_⟩
 unfold retXG at e
 cases hs:ds[i]? with
 | none=>rw [hs] at e; cases e
 | some s =>
   rw [hs] at e
   cases s with
   | v d'=>cases e
   | no=>cases e
   | exc _=>cases e
   | fr _=>cases e
   | ob _ _=>cases e
   | own l =>
     simp only [flatF] at e
     split at e
     · rename_i hf
       cases e
       obtain ⟨a,xs,h1,h2,h3,h4⟩:=o.readO hs
       refine ⟨.ref a,h1,h _ _ o.same ⟨a,xs,rfl,o.fresh i l a hs h1,h3,Reps.flatten (fun b z=>?_) hf h4⟩ True.intro⟩
       rcases z with rfl | z
       · exact ⟨_,h3,rfl⟩
       · exact Old.mono o.same z
     · cases e
theorem psv_put {i:Nat} {x:Str} {e ek:Expr} {pos p1 p2:Pos} {fk fe:FE} (he:PV X e fe) (hk:PV X ek fk) (hN:X.N[i]? = some x:=by rfl) (hv:Vis X.env.scope x:=by first | exact Or.inl rfl | exact Or.inr (Or.inl rfl) | exact Or.inr (Or.inr rfl)) (hd:(x == ("__debug__" : Str))=false:=by decide)
  (hcd:(x == ("__classdict__" : Str))=false:=by decide)
  (ha:∀ v,assign (.Subscript (.Name x p1) ek p2) X.env v=(do
    let ov <- holding [v] (eval (.Name x p1) X.env)
    let iv <- holding [v,ov] (eval ek X.env)
    standAt p2
    holding [v,ov,iv] (setItem ov iv v)
    release [v,ov,iv] []):=by intro _; rfl)
  (hs:swapsWithSole [.Subscript (.Name x p1) ek p2] e pos.line X.env=pure false:=by rfl) (hw:swappedStores [.Subscript (.Name x p1) ek p2] e X.env=pure none:=by rfl)
  (h1:(assignEach [.Subscript (.Name x p1) ek p2] X.env).map (·.2)=[assign (.Subscript (.Name x p1) ek p2) X.env]:=by rfl):PSv X (.Assign [.Subscript (.Name x p1) ek p2] e pos) (putG i fk fe):=by
 obtain ⟨te,pe,he⟩:=he
 obtain ⟨tk,pk,hk⟩:=hk
 refine ⟨_,ps_asg pe (pg_sub (yH hN hv hd hcd) pk set_list ha) hs hw h1,fun H₀ H O σ ds hd out E o e h=>?_⟩
 unfold putG at e
 cases hsl:ds[i]? with
 | none=>rw [hsl] at e; cases e
 | some s =>
   rw [hsl] at e
   cases s with
   | v d'=>cases e
   | no=>cases e
   | exc _=>cases e
   | fr _=>cases e
   | ob _ _=>cases e
   | own l =>
     simp only at e
     obtain ⟨d,h1,e⟩:=bnd e
     obtain ⟨kd,h2,e⟩:=bnd e
     cases kd with
     | int n =>
       simp only at e
       obtain ⟨j,h3,rfl⟩:=mpd e
       refine he H₀ H O σ ds hd d _ o h1 fun v H1 s1 r1=>?_
       obtain ⟨a,xs,q1,q2,q3,q4⟩:=(o.mono s1).readO hsl
       refine ⟨.ref a,q1,?_⟩
       refine hk H₀ H1 O σ ds hd _ _ (o.mono s1) h2 fun kv H2 s2 r2=>?_
       cases r2
       refine ⟨a,xs,n,j,rfl,rfl,s2 _ _ q3,by rw [q4.length]; exact h3,?_⟩
       exact h _ _ _ (((o.mono s1).mono s2).modify hsl q1 ((q4.mono s2).set (r1.mono s2) j))
     | _=>cases e
theorem xX {i:Nat} {x:Str} {e:Expr} {pos p1 p2 p3:Pos} {fe:FE} (he:PV X e fe) (hN:X.N[i]? = some x:=by rfl) (hv:Vis X.env.scope x:=by first | exact Or.inl rfl | exact Or.inr (Or.inl rfl) | exact Or.inr (Or.inr rfl)) (hd:(x == ("__debug__" : Str))=false:=by decide)
  (hcd:(x == ("__classdict__" : Str))=false:=by decide)
  (hfew:((backTo p3 (starEach [e] X.env)).all (fun x=>!x.1) && (backToKw p3 (keywordEach [] X.env)).all (fun x=>x.1.isSome)
    && decide ([e].length+([]:List Keyword).length+(if ([]:List Keyword).isEmpty then 0 else 1) < 30))=true:=by rfl)
  (hline:(p2.endLine == p3.line)=true:=by rfl) (hs:starEach [e] X.env=(false,eval e X.env)::starEach [] X.env:=by rfl)
  (hbase:attributeBase (.Name x p1) "append" X.env (eval (.Name x p1) X.env)=eval (.Name x p1) X.env:=by rfl) (hsw:swapsWith (.Call (.Attribute (.Name x p1) "append" p2) [e] [] p3) none pos.line X.env=pure false:=by rfl) :
  PSv X (.Expr (.Call (.Attribute (.Name x p1) "append" p2) [e] [] p3) pos) (appG i fe):=by
 obtain ⟨te,pe,he⟩:=he
 refine ⟨_,xW (pe_bm PySem.F.plainAttrs_list PySem.F.slot_list_append PySem.F.type_list_append mt_append (yH hN hv hd hcd) (qK pe jK hs) hbase hfew hline hs rfl) hsw,fun H₀ H O σ ds hd out E o e h=>?_⟩
 unfold appG at e
 cases hsl:ds[i]? with
 | none=>rw [hsl] at e; cases e
 | some s =>
   rw [hsl] at e
   cases s with
   | v d'=>cases e
   | no=>cases e
   | exc _=>cases e
   | fr _=>cases e
   | ob _ _=>cases e
   | own l =>
     simp only at e
     obtain ⟨d,h1,e⟩:=bnd e
     split at e
     · rename_i hl
       cases e
       obtain ⟨a,xs,q1,q2,q3,q4⟩:=o.readO hsl
       refine ⟨.ref a,q1,.inl ⟨rfl,xs,SqL.of q3⟩,?_⟩
       refine he H₀ H O σ ds hd d _ o h1 fun v H1 s1 r1=>?_
       refine ⟨a,xs,v,rfl,rfl,s1 _ _ q3,by rw [q4.length]; exact hl,?_⟩
       exact h _ _ _ ((o.mono s1).modify hsl q1 ((q4.mono s1).append (.cons r1 .nil)))
     · cases e
theorem args_ob (n:Nat) (ds:List D) (i:Nat) (r:Option Nat) (t:OT):(args n ds)[i]?≠some (.ob r t):=fun e=>by
 unfold args at e
 by_cases hi:i < ds.length
 · rw [List.getElem?_append_left (by simpa using hi), List.getElem?_map] at e
   cases h:ds[i]? with
   | none=>rw [h] at e; cases e
   | some d=>rw [h] at e; cases e
 · rw [List.getElem?_append_right (by simpa using hi), List.getElem?_replicate] at e
   split at e <;> cases e
theorem kD {K:Frag} {H:Hp} {N:List Str} {vs:List V} {ds:List D} (r:Reps K H jE vs ds):Ok K H H jE (L2.start N vs) (args N.length ds) []:=by
 have hl:=r.length
 have no:∀ i,IsOwn (args N.length ds) i->False:=fun i ⟨l,e⟩=>by
  unfold args at e
  by_cases hi:i < ds.length
  · rw [List.getElem?_append_left (by simpa using hi), List.getElem?_map] at e
    cases h:ds[i]? with
    | none=>rw [h] at e; cases e
    | some d=>rw [h] at e; cases e
  · rw [List.getElem?_append_right (by simpa using hi), List.getElem?_replicate] at e
    split at e <;> cases e
 refine ⟨Same.refl _,fun i l a e _=>(no i ⟨l,e⟩).elim,fun _ z=>z.elim,by simp [L2.start,args,hl],fun i s e=>?_,fun i j a _ hi _ _ _=>no i hi,(fun p hp=>nomatch hp),.no (args_ob _ _)⟩
 unfold args at e
 unfold L2.start
 by_cases hi:i < ds.length
 · rw [List.getElem?_append_left (by simpa using hi), List.getElem?_map] at e
   rw [List.getElem?_append_left (by simpa [hl] using hi),List.getElem?_map]
   obtain ⟨d,h,rfl⟩:=mpd e
   obtain ⟨v,h1,h2⟩:=r.get h
   rw [h1]
   exact jN h2
 · rw [List.getElem?_append_right (by simpa using hi), List.getElem?_replicate] at e
   split at e
   · cases e; exact qU
   · cases e
def Does (g:FS) (n:Nat) (ds:List D) (r:Ret):Prop:=g (args n ds)=some (.rt r) \/ (r = .val .non/\∃ ds',g (args n ds)=some (.nx ds'))
theorem jD {P:Program} {w:World} {K:Frag} {mg:Str->Option Value} {base:Heap} {x qual:Str} {st:Stmt} {f:Addr} {fd:FuncData} {N ps:List Str} {k:Nat} {F:List D->Option Ret} (Fn:Fun K x qual st f fd) (S:FnScope N ps (zH st))
  {g:FS} (hbody:∀ (cdv:Value) (A:Around) (outer:List Env) (s:Shared) (H:Hp) (E:XK),Room k (A.deeper (envOfC qual (zH st) s.heap.objs.size f cdv))->PSsv (cxOf CX0 P w K mg base N qual (zH st) f cdv A outer s H E).nox (qE st) g)
  (hg:∀ ds r,ds.length=ps.length->F ds=some r->Does g N.length ds r):FnOk P w K mg base CX0 (k+1) f fd ps (spF K ps.length F):=by
 refine Fn.ok S (fun vs H Q E h=>h.1) (fun cdv A outer s H vs Q E hr h=>?_)
 obtain ⟨hl,ds,r,rv,e,q⟩:=h
 obtain ⟨t,ht,hf⟩:=hbody cdv A outer s H E hr
 refine ⟨t,ht,?_⟩
 have o:=kD (N:=N) rv
 rcases hg ds r (by rw [<- rv.length]; exact hl) e with e' | ⟨rfl,ds',e'⟩
 · exact hf H H jE _ _ [] _ _ o e' (fun v H' s r _=>q v H' s r)
 · exact hf H H jE _ _ [] _ _ o e' (fun σ H' O o'=>q .non H' o'.same .non)
end
end FL
namespace L2
open PySem PySem.Spec PyProof.Rows
noncomputable def Its (x:Str):It:=⟨fun i _=>i < x.cps.size,fun i H v H'=>H'=H/\∃ c,x.cps[i]? = some c/\v = .str ⟨#[c]⟩,fun i _=>i=x.cps.size⟩
theorem turn_str {P:Program} {w:World} {K:PySem.W.Frag} {tg:Expr} (x:Str) (t:Tok) (it:Addr) (ty:String) (hn:["enumerate","zip","dict_itemiterator","dict_reverseitemiterator","odict_iterator","itertools.zip_longest","itertools.pairwise"].contains ty=false)
  (Wk:∀ A:Around,A.handled=none->Walks P w A it [it] [it] x.cps.size (SignAt x) (fun i h=>h.IsStrIter it ty x t i))
  (hself:∀ (A:Around) (i:Nat) (s:Shared) (Q:Value->Shared->Prop) (E:Value->Shared->Prop),s.heap.IsStrIter it ty x t i->Q (.ref it) s->wpAny (model P w) A (pyIter (.ref it)) Q E s):Turn P w K tg (Its x) [it] it (fun i h=>h.IsStrIter it ty x t i) where
 mem:=by simp
 obj:=fun i h st b hb=>by
  have e:b=it:=by simpa using hb
  subst e
  obtain ⟨o,e,c,d⟩:=st
  exact ⟨o,e,fun v z=>by rw [d] at z; cases z⟩
 keep:=fun i h h' st k=>by
  obtain ⟨o,e,r⟩:=st
  exact ⟨o,k it (by simp) o e,r⟩
 item:=by
  intro X hP hw hK hc i pins s σ H E I hf st hg
  subst hP hw hK
  obtain ⟨f0,f1,f2,f3,f4,f5⟩:=hf it (by simp)
  refine (Wk X.A (I.ok.hd hc)).item i s _ _ hg st fun v h' tk hv st' kk=>?_
  obtain ⟨c,u,hc',rfl⟩:=hv
  have I1:Inv X pins σ H { s with heap:=h',toks:=tk }:=I.turned (fun b o hb e=>kk b o (by simpa using hb) e) f0 f1 f3 f4 f5
  obtain ⟨o,e,c1,d⟩:=id st'
  exact ⟨_,rfl,go_of (s:={ s with heap:=h',toks:=tk }) e c1 d hn ⟨.str ⟨#[c]⟩,H,I1,⟨u,rfl⟩,⟨rfl,c,hc',rfl⟩,st',fun b hb=>(hf b hb).1⟩⟩
 done:=by
  intro X hP hw hK hc i pins s σ H E I hf st hg
  subst hP hw hK
  obtain ⟨f0,f1,f2,f3,f4,f5⟩:=hf it (by simp)
  have hg':i=x.cps.size:=hg
  subst hg'
  exact (Wk X.A (I.ok.hd hc)).done s _ _ st fun h' tk eb=>⟨rfl,I.turned (fun b o hb e=>eb b o (by simpa using hb) e) f0 f1 f3 f4 f5⟩
 self:=hself
section
variable {X:Cx} {tg:Expr}
def iStr (tl:TE):TI:=fun σ H R=>tl σ H fun x H1=>∃ z,x = .str z/\R (Its z) H1
theorem pi_str {l:Expr} {tl:TE} (hl:PE X l tl):PI X tg l (iStr tl):=by
 intro pins s σ H R I h
 refine thn (hl pins s σ H _ I h) fun v s1 zq=>?_
 obtain ⟨x,H1,I1,r1,q1⟩:=zq
 obtain ⟨z,e,q⟩:=q1
 subst e
 obtain ⟨t,rfl⟩:=r1
 cases ha:z.cps.all (· < 128)
 · refine wpAny_pyIter_wide ha ⟨s1.heap.objs.size, [s1.heap.objs.size], _, _, H1, rfl, I1.kept (t' := s1.toks) fun b o e => Heap.get?_push_of_some _ e, turn_str z t _ "str_iterator" (by decide) (fun A hA => Walks.strWide hA _ z t) (fun _ _ _ _ _ st h => wpAny_pyIter_striter_wide st h), ⟨_, Heap.get?_push_size _ rfl, rfl, rfl⟩, fun b hb => ?_, q⟩
   have e:b=s1.heap.objs.size:=by simpa using hb
   subst e
   exact I1.fpOk (Nat.le_refl _) (I1.hok.fresh (Nat.le_refl _))
 · refine wpAny_pyIter_ascii ha ⟨s1.heap.objs.size, [s1.heap.objs.size], _, _, H1, rfl, I1.kept (t' := s1.toks) fun b o e => Heap.get?_push_of_some _ e, turn_str z t _ "str_ascii_iterator" (by decide) (fun A hA => Walks.strAscii hA _ z t) (fun _ _ _ _ _ st h => wpAny_pyIter_striter_ascii st h), ⟨_, Heap.get?_push_size _ rfl, rfl, rfl⟩, fun b hb => ?_, q⟩
   have e:b=s1.heap.objs.size:=by simpa using hb
   subst e
   exact I1.fpOk (Nat.le_refl _) (I1.hok.fresh (Nat.le_refl _))
end
end L2
namespace FL
open PySem PySem.Spec PyProof.Rows L2
def Wlk (K:Frag) (J:It) (p:V×D) (items:List D):Prop:=∀ H O,(∀ a,O a->∃ u:MutHO,H a=some u.1)->Rep K H O p.1 p.2 →
 (∀ i d,items[i]? = some d->J.go i H/\∀ x H',J.yld i H x H'->Same H H'/\Rep K H' O x d)/\J.stop items.length H
section
variable {X:Cx}
variable (X) in
def PIv (tg iter:Expr) (fi:FA):Prop:=∃ wi,PI X tg iter wi/\∀ H₀ H O σ ds hd items R,Ok X.K H₀ H O σ ds hd->fi ds=some items →
 (∀ J p H',Same H H'->Rep X.K H' O p.1 p.2->Wlk X.K J p items->R J H')->wi σ H R
theorem wlk_list {K:Frag} {a:Addr} {l:List D} : Wlk K (Itl K a) (.ref a,.lst l) l:=by
 intro H O _ r
 obtain ⟨b,xs,e,hs,rs⟩:=WRep.seqL (.inl r)
 cases e
 refine ⟨fun i d hd=>?_,⟨xs,hs,by rw [rs.length]; exact Nat.le_refl _⟩⟩
 obtain ⟨v,h1,h2⟩:=rs.get hd
 refine ⟨⟨xs,v,hs,h1⟩,fun x H' y=>?_⟩
 obtain ⟨rfl,y⟩:=y
 have:=y xs hs
 rw [h1] at this; cases this
 exact ⟨Same.refl _,h2⟩
theorem wlk_tup {K:Frag} {a:Addr} {l:List D} : Wlk K (Itt K a) (.ref a,.tup l) l:=by
 intro H O _ r
 obtain ⟨b,xs,e,hs,rs⟩:=WRep.seqT (.inl r)
 cases e
 refine ⟨fun i d hd=>?_,⟨xs,hs,by rw [rs.length]; exact Nat.le_refl _⟩⟩
 obtain ⟨v,h1,h2⟩:=rs.get hd
 refine ⟨⟨xs,v,hs,h1⟩,fun x H' y=>?_⟩
 obtain ⟨rfl,y⟩:=y
 have:=y xs hs
 rw [h1] at this; cases this
 exact ⟨Same.refl _,h2⟩
theorem wlk_range {K:Frag} {lo:Int} {n:Nat} : Wlk K (Itr lo n) (.non,.non) (rangeD lo n):=by
 intro H O _ r
 have hl:(rangeD lo n).length=n:=by simp [rangeD]
 refine ⟨fun i d hd=>?_,show n<=_ by rw [hl]; exact Nat.le_refl _⟩
 have hi:i < n:=by
  have:=(List.getElem?_eq_some_iff.mp hd).1
  rwa [hl] at this
 refine ⟨hi,fun x H' y=>?_⟩
 obtain ⟨rfl,rfl⟩:=y
 have:d=D.int (lo+(i:Int)):=by
  simp only [rangeD,List.getElem?_map,List.getElem?_range hi,Option.map_some] at hd
  exact (Option.some.inj hd).symm
 subst this
 exact ⟨Same.refl _,.int _⟩
theorem wlk_str {K:Frag} {x:Str} : Wlk K (Its x) (.non,.non) (sgns x):=by
 intro H O _ r
 have hl:(sgns x).length=x.cps.size:=by simp [sgns]
 refine ⟨fun i d hd=>?_,show _=x.cps.size from hl⟩
 have hi:i < x.cps.size:=by
  have:=(List.getElem?_eq_some_iff.mp hd).1
  rwa [hl] at this
 refine ⟨hi,fun v H' y=>?_⟩
 obtain ⟨rfl,c,hc,rfl⟩:=y
 have:d=D.str ⟨#[c]⟩:=by
  simp only [sgns,List.getElem?_map,Array.getElem?_toList,hc,Option.map_some] at hd
  exact (Option.some.inj hd).symm
 subst this
 exact ⟨Same.refl _,.str _⟩
theorem piv_str {tg e:Expr} {f:FE} (h:PV X e f):PIv X tg e (viaA f asS):=by
 obtain ⟨t,ht,hf⟩:=h
 refine ⟨_,pi_str ht,fun H₀ H O σ ds hd items R o e q=>?_⟩
 unfold viaA at e
 obtain ⟨d,h1,e⟩:=bnd e
 cases d with
 | str x =>
   cases e
   refine hf H₀ H O σ ds hd _ _ o h1 fun v H' s r=>?_
   cases r
   exact ⟨x,rfl,q _ (.non,.non) H' s .non wlk_str⟩
 | _=>cases e
theorem xR {tg e:Expr} {p pos:Pos} {f:FE} (hm:X.mg "range" = none) (h:PV X e f) (hg:Gl X "range":=by rfl) (hs:starEach [e] X.env=[(false,eval e X.env)]:=by rfl):PIv X tg (.Call (.Name "range" p) [e] [] pos) (rng1 f):=by
 obtain ⟨t,ht,hf⟩:=h
 refine ⟨_,pi_range1 hg hm (qK ht jK hs) hs,fun H₀ H O σ ds hd items R o e q=>?_⟩
 unfold rng1 at e
 obtain ⟨d,h1,e⟩:=bnd e
 cases d with
 | int j =>
   simp only at e
   split at e
   · rename_i hj
     cases e
     refine hf H₀ H O σ ds hd _ _ o h1 fun v H' s r=>?_
     cases r
     exact ⟨j,rfl,hj.1,hj.2,q _ (.non,.non) H' s .non wlk_range⟩
   · cases e
 | _=>cases e
variable (X) in
def PGv (tg:Expr) (ga:D->List Sl->Option (List Sl)):Prop:=∃ g,PG X tg g/\∀ H₀ H O σ ds hd v d ds' Q,Ok X.K H₀ H O σ ds hd->Rep X.K H O v d->ga d ds=some ds'->(∀ σ',Ok X.K H₀ H O σ' ds' hd->Q σ' H)->g v σ H Q
variable (X) in
def PGsv (tgs:List Expr) (ga:List D->List Sl->Option (List Sl)):Prop:=∃ g,PGs X tgs g/\∀ H₀ H O σ ds hd vs l ds' Q,Ok X.K H₀ H O σ ds hd->Reps X.K H O vs l->ga l ds=some ds'->(∀ σ',Ok X.K H₀ H O σ' ds' hd->Q σ' H)->g vs σ H Q
theorem qC {i:Nat} {x:Str} {pos:Pos} (hN:X.N.Nodup) (hi:X.N[i]? = some x:=by rfl) (hx:Loc X.env.scope x:=by first | exact Or.inl rfl | exact Or.inr rfl)
  (hf:X.fn x=true \/ X.env.scope.names.lookup x=some .local:=by first | exact .inl rfl | exact .inr rfl):PGv X (.Name x pos) (qA i) :=
 ⟨_,pg_name hN hi hx hf,fun H₀ H O σ ds hd v d ds' Q o r e q=>by cases e; exact q _ (o.set r)⟩
theorem pgsv_nil:PGsv X [] tgNil:=⟨_,pgs_nil,fun H₀ H O σ ds hd vs l ds' Q o r e q=>by
 cases r with
 | nil=>cases e; exact ⟨rfl,q _ o⟩
 | cons _ _=>cases e⟩
theorem jF {e:Expr} {es:List Expr} {g:D->List Sl->Option (List Sl)} {h:List D->List Sl->Option (List Sl)} (h1:PGv X e g) (h2:PGsv X es h)
  (hs:(assignEach (e::es) X.env).map (·.2)=assign e X.env::(assignEach es X.env).map (·.2):=by rfl):PGsv X (e::es) (jC g h):=by
 obtain ⟨t,ht,hf⟩:=h1
 obtain ⟨u,hu,hg⟩:=h2
 refine ⟨_,pgs_cons ht hu hs,fun H₀ H O σ ds hd vs l ds' Q o r e q=>?_⟩
 cases r with
 | nil=>cases e
 | cons r1 rr =>
   rename_i v d vr dr
   simp only [jC] at e
   obtain ⟨ds1,h1,e⟩:=bnd e
   exact ⟨v,vr,rfl,hf H₀ H O σ ds hd v d ds1 _ o r1 h1 fun σ' o'=>hg H₀ H O σ' ds1 hd vr dr ds' Q o' rr e q⟩
theorem pgv_tup {es:List Expr} {k:Nat} {pos:Pos} {h:List D->List Sl->Option (List Sl)} {n:Nat} (hc:X.calm=true) (hh:PGsv X es h)
  (hn:(assignEach es X.env).length=n:=by rfl) (hst:(assignEach es X.env).findIdx? (·.1)=none:=by rfl):PGv X (.Tuple es k pos) (tupG n h):=by
 obtain ⟨t,ht,hf⟩:=hh
 refine ⟨_,pg_tup hc ht hn hst,fun H₀ H O σ ds hd v d ds' Q o r e q=>?_⟩
 cases d with
 | tup l =>
   simp only [tupG] at e
   split at e
   · rename_i hl
     obtain ⟨a,xs,rfl,hs,rs⟩:=WRep.seqT (.inl r)
     exact ⟨a,xs,rfl,hs,by rw [rs.length]; exact hl,hf H₀ H O σ ds hd xs l ds' Q o rs e q⟩
   · cases e
 | _=>cases e
theorem retB_less {K:Frag} {H:Hp} {hd:Hold} {q:HI} {v:V} {r:Ret} (h:RetB K H (q::hd) v r):RetB K H hd v r:=by
 cases r with
 | any d=>exact fun B hB=>h B (List.mem_cons_of_mem _ hB)
 | _=>exact True.intro
theorem yA {tg iter:Expr} {body:List Stmt} {pos:Pos} {fi:FA} {ga:D->List Sl->Option (List Sl)} {g:FS} (hp:PassesOwn (model X.prog X.w) X.A X.env X.xe) (hc:X.calm=true) (hi:PIv X tg iter fi) (hg:PGv X tg ga) (hb:PSsv X body g)
  (hs:∀ x,foldedSetIterable iter X.env x=pure x:=by intro _; rfl):PSv X (.For tg iter body [] pos) (forG fi ga g):=by
 obtain ⟨wi,pi,hi⟩:=hi
 obtain ⟨tg',pg,hg⟩:=hg
 obtain ⟨tb,pb,hb⟩:=hb
 refine ⟨_,ps_for hp hc pi pg pb hs,fun H₀ H O σ ds hd out E o e h=>?_⟩
 unfold forG at e
 obtain ⟨items,h1,e⟩:=bnd e
 refine hi H₀ H O σ ds hd items _ o h1 fun J p H' s r wk=>?_
 refine ⟨fun i m σ' H'=>i<=items.length/\m=items.length - i/\∃ O' ds',Ok X.K H₀ H' O' σ' ds' (HI.rep p.1 p.2::hd)/\jM ga g (items.drop i) ds'=some out,⟨items.length,Nat.zero_le _,rfl,O,ds,(o.mono s).holdMore (p:=HI.rep p.1 p.2) r,by simpa using e⟩,?_⟩
 rintro i m σ1 H1 ⟨hi1,rfl,O1,ds1,o1,e1⟩
 obtain ⟨go,stop⟩:=wk H1 O1 o1.dom (o1.hold (HI.rep p.1 p.2) List.mem_cons_self)
 by_cases hlt:i < items.length
 · right
   have hd0:items[i]? = some items[i]:=List.getElem?_eq_getElem hlt
   obtain ⟨hgo,hy⟩:=go i _ hd0
   rw [List.drop_eq_getElem_cons hlt,jM] at e1
   refine ⟨hgo,fun σ' H'=>i+1<=items.length/\∃ O' ds',Ok X.K H₀ H' O' σ' ds' (HI.rep p.1 p.2::hd)/\jM ga g (items.drop (i+1)) ds'=some out,fun σ' H' ⟨q1,q2⟩=>⟨items.length - (i+1),by omega,q1,rfl,q2⟩,fun x H2 y=>?_⟩
   obtain ⟨s2,r2⟩:=hy x H2 y
   obtain ⟨ds2,h2,e1⟩:=bnd e1
   obtain ⟨o3,h3,e1⟩:=bnd e1
   refine hg H₀ H2 O1 σ1 ds1 (HI.rep p.1 p.2::hd) x _ ds2 _ (o1.mono s2) r2 h2 fun σ' o'=>?_
   refine hb H₀ H2 O1 σ' ds2 (HI.rep p.1 p.2::hd) o3 _ o' h3 ?_
   cases o3 with
   | nx ds3=>exact fun σ3 H3 O3 ok3=>⟨hlt,O3,ds3,ok3,e1⟩
   | ct ds3=>exact fun σ3 H3 O3 ok3=>⟨hlt,O3,ds3,ok3,e1⟩
   | bk ds3=>cases e1; exact fun σ3 H3 O3 ok3=>h σ3 H3 O3 ok3.holdLess
   | rt rr=>cases e1; exact fun v H s r b=>h v H s r (retB_less b)
 · left
   have ei:i=items.length:=by omega
   subst ei
   rw [List.drop_length,jM] at e1
   cases e1
   exact ⟨stop,h σ1 H1 O1 o1.holdLess⟩
variable (X) in
def PFv (ifs:List Expr) (c:FT):Prop:=∃ t,PF X ifs t/\∀ H₀ H O σ ds hd b Q,Ok X.K H₀ H O σ ds hd->c ds=some b->(∀ H',Same H H'->Q b H')->t σ H Q
theorem vB:PFv X [] (fun _=>some true):=⟨_,pf_nil,fun _ H _ _ _ _ _ _ _ e q=>by cases e; exact q H (Same.refl _)⟩
theorem pfv_one {c:Expr} {fc:FT} (h:PTv X c fc):PFv X [c] fc:=by
 obtain ⟨t,ht,hf⟩:=h
 exact ⟨_,pf_one ht,hf⟩
theorem Ok.inner {K:Frag} {H₀ H:Hp} {O:Addr->Prop} {σ : L2.St} {ds:List Sl} {hd:Hold} (o:Ok K H₀ H O σ ds hd) (mp:List (Option Nat)):Ok K H₀ H O (slotsY mp σ) (qY mp ds) hd:=by
 have no:∀ {i:Nat} {l:List D},(qY mp ds)[i]? = some (.own l)->False:=fun {i l} e=>by
  unfold qY at e
  rw [List.getElem?_map] at e
  cases hm:mp[i]? with
  | none=>rw [hm] at e; cases e
  | some m =>
    rw [hm] at e
    simp only [Option.map_some,Option.some.injEq] at e
    cases m with
    | none=>cases e
    | some j =>
      simp only at e
      split at e <;> cases e
 refine ⟨o.same,fun i l a e _=>(no e).elim,o.dom,by simp [slotsY,qY],fun i s e=>?_,fun i j a hij hi hj e1 e2=>?_,o.hold,.no fun i r t e=>by
  unfold qY at e
  rw [List.getElem?_map] at e
  cases hm:mp[i]? with
  | none=>rw [hm] at e; cases e
  | some m =>
    rw [hm] at e
    simp only [Option.map_some,Option.some.injEq] at e
    cases m with
    | none=>cases e
    | some j =>
      simp only at e
      split at e <;> cases e⟩
 · unfold qY at e
   unfold slotsY
   rw [List.getElem?_map] at e ⊢
   cases hm:mp[i]? with
   | none=>rw [hm] at e; cases e
   | some m =>
     rw [hm] at e
     simp only [Option.map_some,Option.some.injEq] at e
     cases m with
     | none =>
       simp only at e
       subst e; exact qU
     | some j =>
       simp only at e
       cases hj:ds[j]? with
       | none=>rw [hj] at e; subst e; exact qU
       | some s' =>
         rw [hj] at e
         cases s' with
         | no=>subst e; exact qU
         | exc _=>subst e; exact qU
         | fr _=>subst e; exact qU
         | ob _ _=>subst e; exact qU
         | own l=>subst e; exact qU
         | v d =>
           simp only at e
           subst e
           obtain ⟨v,h1,h2⟩:=o.read hj
           simp only [Option.map_some,Option.bind_some,h1,Option.join_some]
           exact jN h2
 · obtain ⟨l, e⟩ := hi
   unfold qY at e
   rw [List.getElem?_map] at e
   cases hm:mp[i]? with
   | none=>rw [hm] at e; cases e
   | some m =>
     rw [hm] at e
     simp only [Option.map_some,Option.some.injEq] at e
     cases m with
     | none=>cases e
     | some j =>
       simp only at e
       cases hj:ds[j]? with
       | none=>rw [hj] at e; cases e
       | some s'=>rw [hj] at e; cases s' <;> cases e
section
variable {scope:Scope} {NY:List Str} {mp:List (Option Nat)} {tg iter elt:Expr} {ifs:List Expr} {pos:Pos} {fi:FA} {ga:D->List Sl->Option (List Sl)} {tt:FT} {fe:FE}
theorem comp_sem {wi:TI} {g:CI->TG} {t1:CI->TT} {t2:CI->TE}
  (hi:∀ H₀ H O σ ds hd items R,Ok X.K H₀ H O σ ds hd->fi ds=some items->(∀ J p H',Same H H'->Rep X.K H' O p.1 p.2->Wlk X.K J p items->R J H')->wi σ H R)
  (hg:∀ c H₀ H O σ ds hd v d ds' Q,Ok X.K H₀ H O σ ds hd->Rep X.K H O v d->ga d ds=some ds'->(∀ σ',Ok X.K H₀ H O σ' ds' hd->Q σ' H)->g c v σ H Q)
  (ht:∀ c H₀ H O σ ds hd b Q,Ok X.K H₀ H O σ ds hd->tt ds=some b->(∀ H',Same H H'->Q b H')->t1 c σ H Q)
  (he:∀ c H₀ H O σ ds hd d Q,Ok X.K H₀ H O σ ds hd->fe ds=some d->(∀ v H',Same H H'->Rep X.K H' O v d->Q v H')->t2 c σ H Q) :
  ∀ H₀ H O σ ds hd l Q,Ok X.K H₀ H O σ ds hd->compG fi mp ga tt fe ds=some l →
   (∀ a xs H',Same H H'->H a=none->H' a=some (.lst xs)->Reps X.K H' (ins1 a O) xs l->Q (.ref a) H')->tComp wi mp g t1 t2 σ H Q:=by
 intro H₀ H O σ ds hd l Q o e q
 unfold compG at e
 obtain ⟨items,h1,e⟩:=bnd e
 split at e
 · rename_i hsz
   refine hi H₀ H O σ ds hd items _ o h1 fun J p H1 s1 r1 wk=>fun c=>?_
   have oI:Ok X.K H₀ H1 O (slotsY mp σ) (qY mp ds) (HI.rep p.1 p.2::hd):=((o.mono s1).holdMore (p:=HI.rep p.1 p.2) r1).inner mp
   refine ⟨fun i m ys H2=>i<=items.length/\m=items.length - i/\Same H1 H2/\ys.length<=i/\∃ l' rest,Reps X.K H2 O ys l'/\compL ga tt fe (qY mp ds) (items.drop i)=some rest/\l=l'++rest,
    ⟨items.length,Nat.zero_le _,rfl,Same.refl _,Nat.le_refl _,[],l,.nil,by simpa using e,rfl⟩,?_⟩
   rintro i m ys H2 ⟨hi1,rfl,s2,hy,l',rest,ry,er,el⟩
   have o2:=oI.mono s2
   obtain ⟨go,stop⟩:=wk H2 O o2.dom (o2.hold (HI.rep p.1 p.2) List.mem_cons_self)
   by_cases hlt:i < items.length
   · right
     have hd0:items[i]? = some items[i]:=List.getElem?_eq_getElem hlt
     obtain ⟨hgo,hyl⟩:=go i _ hd0
     refine ⟨hgo,by omega,fun x H3 y=>?_⟩
     obtain ⟨s3,r3⟩:=hyl x H3 y
     rw [List.drop_eq_getElem_cons hlt,compL] at er
     obtain ⟨ds1,h2,er⟩:=bnd er
     refine hg c H₀ H3 O _ _ (HI.rep p.1 p.2::hd) x _ ds1 _ (o2.mono s3) r3 h2 fun σ' o3=>?_
     obtain ⟨b,h3,er⟩:=bnd er
     refine ht c H₀ H3 O σ' ds1 (HI.rep p.1 p.2::hd) b _ o3 h3 fun H4 s4=>?_
     cases b with
     | false =>
       refine iteF ⟨items.length - (i+1),by omega,hlt,rfl,(s2.trans s3).trans s4,Nat.le_succ_of_le hy,l',rest,(ry.mono s3).mono s4,by simpa using er,el⟩
     | true =>
       refine iteT ?_
       simp only [if_true] at er
       obtain ⟨yd,h4,er⟩:=bnd er
       cases h5:compL ga tt fe (qY mp ds) (items.drop (i+1)) with
       | none=>rw [h5] at er; cases er
       | some rest' =>
         rw [h5] at er
         cases er
         refine he c H₀ H4 O σ' ds1 (HI.rep p.1 p.2::hd) yd _ (o3.mono s4) h4 fun v H5 s5 r5=>?_
         refine ⟨items.length - (i+1),by omega,hlt,rfl,((s2.trans s3).trans s4).trans s5,by simp; omega,l'++[yd],rest',(((ry.mono s3).mono s4).mono s5).append (.cons r5 .nil),h5,?_⟩
         rw [el]; simp
   · left
     have ei:i=items.length:=by omega
     subst ei
     rw [List.drop_length,compL] at er
     cases er
     rw [List.append_nil] at el
     subst el
     refine ⟨stop,by omega,fun a ha=>?_⟩
     refine q a ys _ ((s1.trans s2).trans (zX ha _)) ((s1.trans s2).free ha) upd_same ?_
     exact (ry.more ha).mono (zX ha _)
 · cases e
theorem wO (S:CompScope X scope NY mp) (hc:X.calm=true) (hi:PIv X tg iter fi) (hg:∀ c,PGv (qT X scope NY c) tg ga) (ht:∀ c,PFv (qT X scope NY c) ifs tt) (he:∀ c,PV (qT X scope NY c) elt fe)
  (hs:∀ x,foldedSetIterable iter X.env x=pure x:=by intro _; rfl):PVf X (.ListComp elt [⟨tg,iter,ifs,0⟩] scope pos) (compG fi mp ga tt fe):=by
 obtain ⟨wi,pi,hi⟩:=hi
 refine ⟨_,pe_comp S hc pi (fun c=>(Classical.choose_spec (hg c)).1) (fun c=>(Classical.choose_spec (ht c)).1) (fun c=>(Classical.choose_spec (he c)).1) hs,?_⟩
 exact comp_sem hi (fun c=>(Classical.choose_spec (hg c)).2) (fun c=>(Classical.choose_spec (ht c)).2) (fun c=>(Classical.choose_spec (he c)).2)
end
end
end FL
namespace L2
open PySem PySem.Spec PyProof.Rows
section
variable {X:Cx}
inductive TyV (K:PySem.W.Frag) (H:Hp):V->Value->Prop where
 | of {x:V} {t:Value} (h:TyOf K H x t):TyV K H x t
 | lstK {a:Addr} {o:Obj} (h:K.lookup a=some o) (c:o.cls = .type "list"):TyV K H (.ref a) (.type "list")
 | tupK {a:Addr} {o:Obj} (h:K.lookup a=some o) (c:o.cls = .type "tuple"):TyV K H (.ref a) (.type "tuple")
 | tupF {a:Addr} {o:Obj} {xs:List V} (h:H a=some (.frz o (.tup xs))):TyV K H (.ref a) (.type "tuple")
noncomputable def clsV:V->Value->Prop
 | .ty n,u=>u = .type n
 | .ref a,u=>u = .ref a
 | _,_=>False
theorem call_isi:CallR X (.builtin "isinstance") (fun xs H Q=>∃ x c cv t b,xs=[x,c]/\clsV c cv/\TyV X.K H x t/\PySem.W.kitOne X.K t cv=some b/\Q (.bl b) H):=by
 intro pins s σ H xs us Q I r h
 obtain ⟨x,c,cv,t,b,rfl,hc,ty,e,q⟩:=h
 obtain ⟨u,u2,rfl,ru,ru2⟩:=vals2 r
 have e2:u2=cv:=by
  cases c with
  | ty n=>cases (show cv = .type n from hc); cases (show u2 = .type n from ru2); rfl
  | ref a=>cases (show cv = .ref a from hc); cases (show u2 = .ref a from ru2); rfl
  | _=>exact (show False from hc).elim
 subst e2
 have fin:∀ tk,EP X pins σ Q (.bool b) { s with toks:=tk }:=fun tk=>⟨.bl b,H,I.tok tk,rfl,q⟩
 cases ty with
 | of h=>exact isinst_ok I ru h e fin
 | @lstK a o h c =>
   cases (show u=Value.ref a from ru)
   exact PySem.W.kia_one PySem.W.kitx_list I.kIn ⟨o,I.kIn _ _ h,c⟩ e (fun z=>nomatch z) fin
 | @tupK a o h c =>
   cases (show u=Value.ref a from ru)
   exact PySem.W.kia_one PySem.W.kitx_tuple I.kIn ⟨o,I.kIn _ _ h,c⟩ e (fun z=>nomatch z) fin
 | @tupF a o xs ea =>
   cases (show u=Value.ref a from ru)
   obtain ⟨e0,_,_,_,p⟩:=(show ObjOk X.prog X.w H s.heap a (.frz o (.tup xs)) from I.hok a _ ea)
   obtain ⟨o',h1,h2,_⟩:=p
   exact PySem.W.kia_one PySem.W.kitx_tuple I.kIn ⟨o',h1,h2⟩ e (fun z=>nomatch z) fin
theorem bools_of:∀ {bs:List Bool} {us:List Value},Vals (bs.map V.bl) us->LSm.BoolsAre us bs
 | [],_,.nil=>.nil
 | b :: r, _, .cons h t => by
   cases (show _=Value.bool b from h)
   exact .cons b (bools_of t)
theorem call_allB (hc:X.calm=true):CallR X (.builtin "all") (fun xs H Q=>∃ (p:Addr) (bs:List Bool),xs=[.ref p]/\SqL X.K H p (bs.map V.bl)/\Q (.bl (bs.all id)) H):=by
 intro pins s σ H xs us Q I r h
 obtain ⟨p,bs,rfl,hq,q⟩:=h
 obtain ⟨u,rfl,ru⟩:=vals1 r
 cases ru
 obtain ⟨its,rv,pl,hz⟩:=I.list hq
 have hlt:p < s.heap.objs.size:=by obtain ⟨_,e,_⟩:=pl.isList; exact Heap.lt_size e
 have hb:=bools_of rv
 refine call_all_walk (wpAny_pyIter_list pl.isList ?_)
 refine ⟨s.heap.objs.size,[s.heap.objs.size,p],[s.heap.objs.size],its.toArray.size,_,_,fun i=>(bs[i]?).getD true,rfl,Walks.list (A:=X.A.in1) (I.ok.hd hc) _ p (Nat.ne_of_lt hlt) its.toArray,
  ⟨⟨_,Heap.get?_push_size _ rfl,rfl,rfl⟩,pl.isList.push _⟩,fun i v s' Q' E' hP hQ=>?_,fun h' tk hk=>?_⟩
 · obtain ⟨b, e, rfl⟩ := hb.get i v (by simpa using hP)
   simp only [e,Option.getD_some] at hQ
   exact wpAny_truthy_bool hQ
 · have e:((List.range its.toArray.size).all fun i=>(bs[i]?).getD true)=bs.all id:=by
    rw [List.size_toArray,hb.length]; exact LSm.range_all bs
   rw [e]
   exact ⟨.bl _,H,I.kept (LSm.kept_iter hk),rfl,q⟩
theorem strs_of:∀ {ts:List Str} {us:List Value},Vals (ts.map V.str) us->StrsAre us ts
 | [],_,.nil=>.nil
 | b :: r, _, .cons h t => by
   obtain ⟨tk,rfl⟩:=(show ∃ tk,_=Value.str b tk from h)
   exact .cons b tk (strs_of t)
def rJoin (K:PySem.W.Frag):V->List V->Hp->VK->Prop:=fun x vs H Q=>∃ (z:Str) (p:Addr) (ts:List Str),x = .str z/\vs=[.ref p]/\SqL K H p (ts.map V.str)/\z.length<=16/\(ts.map (·.length)).sum+ts.length<=1048576/\Q (.str (Txt.join z ts)) H
theorem mt_join:MtR X "str.join" (rJoin X.K):=by
 intro pins s σ H x vs v us Q I rx rv h
 obtain ⟨z,p,ts,rfl,rfl,hq,hz,hw,q⟩:=h
 obtain ⟨tk,rfl⟩:=(show ∃ tk,v=Value.str z tk from rx)
 obtain ⟨u,rfl,ru⟩:=rv.one
 cases ru
 obtain ⟨its,rv,pl,hl⟩:=I.list hq
 exact join_listW pl.isList (by simpa using strs_of rv) hz hw fun t' k=>⟨.str _,H,I.tok k,⟨t',rfl⟩,q⟩
end
end L2
namespace FL
open PySem PySem.Spec PyProof.Rows L2
section
variable {X:Cx}
noncomputable def kitO (t T:String):Option Bool:=if ((Value.type t) == (Value.type T))=true then some true else if PySem.W.kitMeta T=true then (fastBuiltinMro t).map (·.contains (.type T)) else none
theorem kit_all:∀ t∈kitN,∀ T∈kitT,kitO t T=some (t == T || (t == "bool" && T == "int")):=by decide +kernel
theorem kit_of {K:Frag} {t T:String} {b:Bool} (h:kitF t T=some b):PySem.W.kitOne K (.type t) (.type T)=some b:=by
 unfold kitF at h
 split at h
 · rename_i hm
   cases h
   exact kit_all t hm.1 T hm.2
 · cases h
theorem ty_of {K:Frag} {H:Hp} {O:Addr->Prop} {v:V} {d:D} {t:String} (r:WRep K H O v d) (e:tyD d=some t):TyV K H v (.type t):=by
 rcases r with r | ⟨a,xs,l,rfl,rfl,ho,h,rs⟩
 · cases r with
   | non=>cases e; exact .of .non
   | bl b=>cases e; exact .of (.bl b)
   | int i=>cases e; exact .of (.int i)
   | str x=>cases e; exact .of (.str x)
   | tup n h r =>
     cases e
     rcases h with h | ⟨o,h⟩
     · exact .of (.tup h)
     · exact .tupF h
   | tupK h r=>cases e; obtain ⟨o,its,m,hk,hc,_⟩:=h; exact .tupK hk hc
   | lst n h r =>
     cases e
     rcases h with h | ⟨o,h⟩
     · exact .of (.lst h)
     · exact .of (.frz h)
   | lstK h r=>cases e; obtain ⟨o,its,m,hk,hc,_⟩:=h; exact .lstK hk hc
   | dct n h e' r=>cases e; exact .of (.dK h)
   | dcf n h e' r=>cases e
   | ins c n h e' r=>cases e
   | clo tx h e' nd c r=>cases e
   | fnK h=>cases e
 · cases e; exact .of (.lst h)
theorem pv_isi {p pT pos:Pos} {e:Expr} {f:FE} {x:Str} {T:String} (hm:X.mg "isinstance" = none) (hT:X.mg x=none) (hv:bootBuiltins x=some (.type T)) (he:PVw X e f) (hg:Gl X "isinstance":=by rfl) (hgT:Gl X x:=by rfl)
  (h1:starEach [e,.Name x pT] X.env=(false,eval e X.env)::starEach [.Name x pT] X.env:=by rfl) (h2:starEach [.Name x pT] X.env=(false,eval (.Name x pT) X.env)::starEach [] X.env:=by rfl) (h3:(backTo pos (starEach [.Name x pT] X.env)).any (·.1)=false:=by rfl)
  (hn:x≠"__name__":=by decide) (hd:(x == ("__debug__" : Str))=false:=by decide):PV X (.Call (.Name "isinstance" p) [e,.Name x pT] [] pos) (isiG T f):=by
 obtain ⟨t,ht,hf⟩:=he
 refine ⟨_,yU call_isi hg hm (by decide +kernel) (qK ht (qK (pe_bltn (v:=.ty T) hgT hT hv rfl hn hd) jK h2) h1) (by decide) (by decide) h1 h3,fun H₀ H O σ ds hd d Q o e q=>?_⟩
 unfold isiG at e
 obtain ⟨dx,hh,e⟩:=bnd e
 simp only [Option.bind_some,isiD] at e
 obtain ⟨t,ht,e⟩:=bnd e
 obtain ⟨b,hk,rfl⟩:=mpd e
 refine hf H₀ H O σ ds hd dx _ o hh fun v H' s r=>?_
 exact ⟨v,.ty T,.type T,.type t,b,rfl,rfl,ty_of r ht,kit_of hk,q _ H' s (.bl b)⟩
theorem bls_rep {K:Frag} {H:Hp} {O:Addr->Prop} : ∀ {xs:List V} {l:List D} {bs:List Bool},Reps K H O xs l->blsD l=some bs->xs=bs.map V.bl
 | _,_,_,.nil,e=>by cases e; rfl
 | _, _, bs, .cons (d := d) h t, e => by
   cases d with
   | bl b =>
     rename_i ds
     simp only [blsD] at e
     obtain ⟨r,hr,rfl⟩:=mpd e
     cases h
     rw [bls_rep t hr]
     rfl
   | _=>cases e
theorem cs_all:CallS X (fun xs H Q=>∃ (p:Addr) (bs:List Bool),xs=[.ref p]/\SqL X.K H p (bs.map V.bl)/\Q (.bl (bs.all id)) H) allD:=by
 intro H O vs l d Q ho r e q
 unfold allD at e
 split at e
 · obtain ⟨bs, hb, rfl⟩ := mpd e
   cases r with
   | cons r rn =>
     cases rn
     obtain ⟨a,xs,rfl,hs,rs⟩:=r.seqL
     refine ⟨a,bs,rfl,?_,q _ H (Same.refl _) (.bl _)⟩
     rw [<- bls_rep rs hb]
     exact hs
 · cases e
theorem pv_all {p pos:Pos} {e:Expr} {g:FA} (hc:X.calm=true) (hm:X.mg "all" = none) (ha:PAv X [e] g) (hg:Gl X "all":=by rfl) (he:starEach [e] X.env=[(false,eval e X.env)]:=by rfl) :
  PV X (.Call (.Name "all" p) [e] [] pos) (callB allD g):=wL (call_allB hc) cs_all hm (by decide +kernel) ha hg (by decide) (by decide) he rfl
theorem wK {K:Frag} {H:Hp} {O:Addr->Prop} : ∀ {xs:List V} {l:List D} {bs:List Str},Reps K H O xs l->strsD l=some bs->xs=bs.map V.str
 | _,_,_,.nil,e=>by cases e; rfl
 | _, _, bs, .cons (d := d) h t, e => by
   cases d with
   | str b =>
     rename_i ds
     simp only [strsD] at e
     obtain ⟨r,hr,rfl⟩:=mpd e
     cases h
     rw [wK t hr]
     rfl
   | _=>cases e
theorem pv_join {o e:Expr} {apos cpos:Pos} {f g:FE} (ho:PVw X o f) (he:PVw X e g)
  (hbase:attributeBase o "join" X.env (eval o X.env)=eval o X.env:=by rfl)
  (hfew:((backTo cpos (starEach [e] X.env)).all (fun x=>!x.1) && (backToKw cpos (keywordEach [] X.env)).all (fun x=>x.1.isSome)
    && decide ([e].length+([]:List Keyword).length+(if ([]:List Keyword).isEmpty then 0 else 1) < 30))=true:=by rfl)
  (hline:(apos.endLine == cpos.line)=true:=by rfl) (hs:starEach [e] X.env=(false,eval e X.env)::starEach [] X.env:=by rfl) :
  PV X (.Call (.Attribute o "join" apos) [e] [] cpos) (zJ joinD f g):=by
 obtain ⟨to,po,ho⟩:=ho
 obtain ⟨te,pe,he⟩:=he
 refine ⟨_,pe_bm PySem.F.plainAttrs_str PySem.F.slot_str_join PySem.F.type_str_join mt_join po (qK pe jK hs) hbase hfew hline hs rfl,fun H₀ H O σ ds hd d Q o e q=>?_⟩
 unfold zJ at e
 obtain ⟨dx,h1,e⟩:=bnd e
 obtain ⟨dy,h2,e⟩:=bnd e
 cases dx with
 | str z =>
   cases dy with
   | lst l =>
     simp only [joinD] at e
     obtain ⟨ts,h3,e⟩:=bnd e
     split at e
     · rename_i hc
       cases e
       refine ho H₀ H O σ ds hd _ _ o h1 fun x H1 s1 r1=>?_
       rw [r1.str']
       refine ⟨rfl,?_⟩
       refine he H₀ H1 O σ ds hd _ _ (o.mono s1) h2 fun y H2 s2 r2=>?_
       obtain ⟨a,xs,rfl,hs,rs⟩:=r2.seqL
       refine ⟨z,a,ts,rfl,rfl,?_,hc.1,hc.2,q _ H2 (s1.trans s2) (.str _)⟩
       rw [<- wK rs h3]
       exact hs
     · cases e
   | _=>simp [joinD] at e
 | _=>simp [joinD] at e
theorem pv_neg {a:Expr} {pos:Pos} {f:FE} (ha:PV X a f):PV X (.UnaryOp .USub a pos) (un1 negD f):=by
 obtain ⟨ta,pa,ha⟩:=ha
 refine ⟨_,pe_un un_neg pa,fun H₀ H O σ ds hd d Q o e q=>?_⟩
 unfold un1 at e
 obtain ⟨dx,h1,e⟩:=bnd e
 cases dx with
 | int i =>
   cases e
   refine ha H₀ H O σ ds hd _ _ o h1 fun x H1 s1 r1=>?_
   cases r1
   exact ⟨i,rfl,q _ H1 s1 (.int _)⟩
 | _=>cases e
theorem os_inS:OpS X (fun x y H Q=>∃ i j,x = .str i/\y = .str j/\Q (.bl (!(Builtin.Str.occurrences j i 0 j.length 1).isEmpty)) H) inS:=by
 intro H O x y dx dy d Q ho rx ry e q
 cases dx <;> cases dy <;> first | (simp [inS] at e; done) | skip
 cases e
 rw [rx.str',ry.str']
 exact ⟨_,_,rfl,rfl,q _ H (Same.refl _) (.bl _)⟩
variable (X) in
def PVd (e:Expr) (f:FE):Prop:=∃ t,PE X e t/\∀ H₀ H O σ ds hd d Q,Ok X.K H₀ H O σ ds hd->f ds=some d->(∀ v H',Same H H'->Rep X.K H' (Old H) v d->Q v H')->t σ H Q
end
section
variable {X:Cx}
noncomputable def compOk (sc scope:Scope) (N NY:List Str) (mp:List (Option Nat)):Bool :=
 scope.kind == .function && scope.names.all (fun y=>y.2 != .cell) && scope.names.all (fun y=>y.2 != .local || scope.names.lookup y.1 == some .local)
 && scope.names.all (fun y=>y.2 != .free || (sc.names.lookup y.1 == some .cell || sc.names.lookup y.1 == some .free)) && mp.length == NY.length
 && (List.range NY.length).all (fun i=>match NY[i]?,mp[i]? with | some x,some (some j)=>N[j]? == some x && scope.names.lookup x == some .free | _,_=>true)
theorem jQ {scope:Scope} {NY:List Str} {mp:List (Option Nat)} (h:compOk X.env.scope scope X.N NY mp=true):CompScope X scope NY mp:=by
 unfold compOk at h
 simp only [Bool.and_eq_true,List.all_eq_true,beq_iff_eq] at h
 obtain ⟨⟨⟨⟨⟨h1,h2⟩,h3⟩,h4⟩,h5⟩,h6⟩:=h
 refine ⟨h1,fun y hy=>by simpa using h2 y hy,fun y hy hk=>?_,fun y hy hk=>?_,h5,fun i x j e1 e2=>?_⟩
 · have := h3 y hy
   simpa [hk] using this
 · have := h4 y hy
   simp only [hk,bne_self_eq_false,Bool.false_or,Bool.or_eq_true,beq_iff_eq] at this
   exact this
 · have hi : i ∈ List.range NY.length := List.mem_range.mpr (List.getElem?_eq_some_iff.mp e1).1
   have:=h6 i hi
   rw [e1,e2] at this
   simpa using this
end
theorem zY {g:FS} {n:Nat} {ds:List D} {r:Ret} (e:runG g n ds=some r):Does g n ds r:=by
 unfold runG at e
 cases h:g (args n ds) with
 | none=>rw [h] at e; cases e
 | some o =>
   rw [h] at e
   cases o with
   | rt r'=>cases e; exact .inl h
   | nx ds'=>cases e; exact .inr ⟨rfl,ds',h⟩
   | bk ds'=>cases e
   | ct ds'=>cases e
end FL
namespace L2
open PySem PySem.Spec PyProof.Rows
section
variable {X:Cx}
theorem op_mulB:OpR X (binaryOp .Mult) (rI IntMulOk fun i j=>.int (i * j)):=opI fun _ _ _ _ _ _ _ hc q=>mul_int q hc
noncomputable def rCatS (K:PySem.W.Frag):R2:=fun x y H Q=>∃ l b xs zs,x = .ref l/\y = .ref b/\SqL K H l xs/\SqL K H b zs/\xs.length+zs.length<=sizeLine/\∀ p,H p=none->Q (.ref p) (upd H p (.lst (xs++zs)))
theorem op_catS:OpR X (binaryOp .Add) (rCatS X.K):=by
 intro pins s σ H x y v u Q I rx ry h
 obtain ⟨l,b,xs,zs,rfl,rfl,hH,hB,hz,q⟩:=h
 cases rx
 cases ry
 obtain ⟨its,r,pl,z⟩:=I.list hH
 obtain ⟨its2,r2,pl2,z2⟩:=I.list hB
 obtain ⟨⟨cls,dd,data,sl⟩,ho,hc,n,hd⟩:=pl.isList
 obtain ⟨⟨cls2,dd2,data2,sl2⟩,ho2,hc2,n2,hd2⟩:=pl2.isList
 simp only at hc hd hc2 hd2
 subst hc hd hc2 hd2
 have hl:=r.length
 have hl2:=r2.length
 refine concat_meets ⟨_,ho,rfl⟩ ⟨_,ho2,rfl⟩ noFill_list_add seq_list_add PySem.F.slot_list_add PySem.F.entry_list_add (PySem.F.args_list_add_2 _ _) (list_addW l b its.toArray its2.toArray n n2 dd dd2 sl sl2 (by simp only [List.size_toArray]; omega)) ⟨ho,ho2,?_⟩
 have ea:its.toArray++its2.toArray=(its++its2).toArray:=by simp
 rw [ea]
 exact ⟨.ref _,_,I.lnew (t':=s.toks) (r.append r2) (by rw [List.length_append]; omega),rfl,q _ I.fresh⟩
end
end L2
namespace FL
open PySem PySem.Spec PyProof.Rows L2
section
variable {X:Cx}
variable (X) in
def PVn (e:Expr) (f:FE):Prop:=∃ t,PE X e t/\∀ H₀ H O σ ds hd d Q,Ok X.K H₀ H O σ ds hd->f ds=some d->(∀ v H',Same H H'->Rep X.K H' jE v d->Q v H')->t σ H Q
variable (X) in
def PAn (es:List Expr) (f:FA):Prop:=∃ t,PA X es t/\∀ H₀ H O σ ds hd l Q,Ok X.K H₀ H O σ ds hd->f ds=some l->(∀ vs H',Same H H'->Reps X.K H' jE vs l->Q vs H')->t σ H Q
theorem PVw.n {e:Expr} {f:FE} (h:PVw X e f):PVn X e f:=by
 obtain ⟨t,ht,hf⟩:=h
 exact ⟨t,ht,fun H₀ H O σ ds hd d Q o e q=>hf H₀ H O σ ds hd d Q o e fun v H' s r=>q v H' s r.any⟩
theorem PV.n {e:Expr} {f:FE} (h:PV X e f):PVn X e f:=h.w.n
theorem zL:PAn X [] zR:=⟨_,jK,fun _ H _ _ _ _ _ _ _ e q=>by cases e; exact q _ H (Same.refl _) .nil⟩
theorem zD {e:Expr} {es:List Expr} {f:FE} {g:FA} (ha:PVn X e f) (hr:PAn X es g) (hs:starEach (e::es) X.env=(false,eval e X.env)::starEach es X.env:=by rfl):PAn X (e::es) (zB f g):=by
 obtain ⟨t,ht,hf⟩:=ha
 obtain ⟨u,hu,hg⟩:=hr
 refine ⟨_,qK ht hu hs,fun H₀ H O σ ds hd l Q o e q=>?_⟩
 unfold zB at e
 obtain ⟨x,h,e⟩:=bnd e
 obtain ⟨r,h2,rfl⟩:=mpd e
 refine hf H₀ H O σ ds hd x _ o h fun v H1 s1 r1=>?_
 refine hg H₀ H1 O σ ds hd r _ (o.mono s1) h2 fun vs H2 s2 r2=>?_
 exact q _ H2 (s1.trans s2) (.cons (r1.mono s2) r2)
section
variable {k:Nat} {f:Addr} {fd:FuncData} {ps:List Str} {n:Nat} {F:List D->Option Ret} {x:Str} {p pos:Pos} {e:Expr} {es:List Expr} {g:FA}
theorem pv_callN (Fn:FnOk X.prog X.w X.K X.mg X.base CX0 k f fd ps (spF X.K n F)) (hr:Room k X.A) (hm:X.mg x=some (.ref f)) (hk:PySem.W.keepIn X.K (.ref f)=true) (hb:Binds X.K fd ps []) (ha:PAn X (e::es) g)
  (hg:Gl X x:=by rfl) (hdb:(x == ("__debug__" : Str))=false:=by decide) (he:starEach (e::es) X.env=(false,eval e X.env)::starEach es X.env:=by rfl) (hpl:(backTo pos (starEach es X.env)).any (·.1)=false:=by rfl) :
  PV X (.Call (.Name x p) (e::es) [] pos) (qQ n F g):=by
 obtain ⟨t,ht,hf⟩:=ha
 refine ⟨_,wV (CX:=CX0) (E:=E0) Fn hr hg hm hk hb .nil pass0 ht hdb he hpl,fun H₀ H O σ ds hd d Q o e q=>?_⟩
 unfold qQ at e
 obtain ⟨l,h,e⟩:=bnd e
 split at e
 · rename_i hln
   obtain ⟨r,h2,e⟩:=bnd e
   refine hf H₀ H O σ ds hd l _ o h fun vs H1 s1 r1=>?_
   have hl:=r1.length
   refine ⟨by simp only [List.append_nil]; omega,l,r,by simpa using r1,h2,fun v H' s' ro=>q v H' (s1.trans s') ?_⟩
   exact retV_ok ro e fun a ha=>(o.mono s1).old ha
 · cases e
theorem pvf_callN (Fn:FnOk X.prog X.w X.K X.mg X.base CX0 k f fd ps (spF X.K n F)) (hr:Room k X.A) (hm:X.mg x=some (.ref f)) (hk:PySem.W.keepIn X.K (.ref f)=true) (hb:Binds X.K fd ps []) (ha:PAn X (e::es) g)
  (hg:Gl X x:=by rfl) (hdb:(x == ("__debug__" : Str))=false:=by decide) (he:starEach (e::es) X.env=(false,eval e X.env)::starEach es X.env:=by rfl) (hpl:(backTo pos (starEach es X.env)).any (·.1)=false:=by rfl) :
  PVf X (.Call (.Name x p) (e::es) [] pos) (vI n F g):=by
 obtain ⟨t,ht,hf⟩:=ha
 refine ⟨_,wV (CX:=CX0) (E:=E0) Fn hr hg hm hk hb .nil pass0 ht hdb he hpl,fun H₀ H O σ ds hd d Q o e q=>?_⟩
 unfold vI at e
 obtain ⟨l,h,e⟩:=bnd e
 split at e
 · rename_i hln
   obtain ⟨r,h2,e⟩:=bnd e
   refine hf H₀ H O σ ds hd l _ o h fun vs H1 s1 r1=>?_
   have hl:=r1.length
   refine ⟨by simp only [List.append_nil]; omega,l,r,by simpa using r1,h2,fun v H' s' ro=>?_⟩
   obtain ⟨a,xs,rfl,h3,h4,h5⟩:=retF_ok ro e fun a ha=>(o.mono s1).old ha
   exact q a xs H' (s1.trans s') (s1.free h3) h4 h5
 · cases e
end
def OpN (X:Cx) (r:R2) (op:D->D->Option D):Prop:=∀ H O x y dx dy d Q,Rep X.K H jE x dx->Rep X.K H jE y dy->op dx dy=some d->(∀ v H',Same H H'->Rep X.K H' O v d->Q v H')->r x y H Q
theorem pvn_tOp {r:R2} {op:D->D->Option D} (hs:OpN X r op) {fa fb:FE} {ta tb:TE} (ha:∀ H₀ H O σ ds hd d Q,Ok X.K H₀ H O σ ds hd->fa ds=some d->(∀ v H',Same H H'->Rep X.K H' jE v d->Q v H')->ta σ H Q)
  (hb:∀ H₀ H O σ ds hd d Q,Ok X.K H₀ H O σ ds hd->fb ds=some d->(∀ v H',Same H H'->Rep X.K H' jE v d->Q v H')->tb σ H Q) :
  ∀ H₀ H O σ ds hd d Q,Ok X.K H₀ H O σ ds hd->zJ op fa fb ds=some d->(∀ v H',Same H H'->Rep X.K H' O v d->Q v H')->tOp r ta tb σ H Q:=by
 intro H₀ H O σ ds hd d Q o e q
 unfold zJ at e
 obtain ⟨dx,h1,e⟩:=bnd e
 obtain ⟨dy,h2,e⟩:=bnd e
 refine ha H₀ H O σ ds hd dx _ o h1 fun x H1 s1 r1=>?_
 refine hb H₀ H1 O σ ds hd dy _ (o.mono s1) h2 fun y H2 s2 r2=>?_
 exact hs H2 O x y dx dy d Q (r1.mono s2) r2 e fun v H' s r=>q v H' ((s1.trans s2).trans s) r
theorem pv_cmpN {op:CmpOp} {r:R2} {opD:D->D->Option D} {a b:Expr} {fa fb:FE} {pos:Pos} (ho:OpR X (compareOp op) r) (hs:OpN X r opD) (ha:PVn X a fa) (hb:PVn X b fb) (hm:behindInMarks op b=false):PV X (.Compare a [op] [b] pos) (zJ opD fa fb):=by
 obtain ⟨ta,pa,ha⟩:=ha
 obtain ⟨tb,pb,hb⟩:=hb
 exact ⟨_,pe_cmpR ho pa pb hm,pvn_tOp hs ha hb⟩
theorem kG {op:CmpOp} {r:R2} {opD:D->D->Option D} {a b:Expr} {fa fb:FE} {pos:Pos} (ho:OpR X (compareOp op) r) (hs:OpN X r opD) (ha:PVn X a fa) (hb:PVn X b fb) (hm:behindInMarks op b=false):PTv X (.Compare a [op] [b] pos) (zP (zJ opD fa fb)):=by
 obtain ⟨ta,pa,ha⟩:=ha
 obtain ⟨tb,pb,hb⟩:=hb
 refine ⟨_,pt_cmpR ho pa pb hm,fun H₀ H O σ ds hd k Q o e q=>?_⟩
 unfold zP at e
 obtain ⟨d,h,e⟩:=bnd e
 refine pvn_tOp hs ha hb H₀ H O σ ds hd d _ o h fun v H' s r=>?_
 cases d with
 | bl c=>cases e; cases r; exact ⟨_,rfl,q H' s⟩
 | _=>cases e
mutual
theorem Rep.reads {pins:List (Addr×Obj)} {σ : L2.St} {H:Hp} {s:Shared} {O:Addr->Prop} (I:Inv X pins σ H s):∀ {v:V} {d:D},Rep X.K H O v d->∀ {u:Value} {n:Nat},RelV v u->shal n d=true->∃ as,Reads s.heap u (toPy d) as/\(toPy d).canLay0=true/\(toPy d).depth<=n+1
 | _,_,.non=>fun r _=>by cases r; exact ⟨[],.none,rfl,Nat.zero_le _⟩
 | _,_,.bl b=>fun r _=>by cases r; exact ⟨[],.bool b,rfl,Nat.zero_le _⟩
 | _,_,.int i=>fun r _=>by obtain ⟨t,rfl⟩:=r; exact ⟨[],.int i t,rfl,Nat.zero_le _⟩
 | _,_,.str x=>fun r h=>by obtain ⟨t,rfl⟩:=r; exact ⟨[],.str x t,by simpa [toPy,PyData.canLay0,shal] using h,Nat.zero_le _⟩
 | _, _, .tup m h q => fun r hs => by
   cases r
   obtain ⟨its,rv,⟨o,ho,hc,k,hd⟩,hz⟩:=I.tuple (.inl h)
   obtain ⟨as,h1,h2,h3⟩:=Reps.reads I q rv (by simpa [shal] using hs)
   exact ⟨as,.tuple ho hc hd (by simpa using h1),by simpa [toPy,PyData.canLay0] using h2,by simpa [toPy,PyData.depth] using h3⟩
 | _, _, .tupK h q => fun r hs => by
   cases r
   obtain ⟨its,rv,⟨o,ho,hc,k,hd⟩,hz⟩:=I.tuple (.inr h)
   obtain ⟨as,h1,h2,h3⟩:=Reps.reads I q rv (by simpa [shal] using hs)
   exact ⟨as,.tuple ho hc hd (by simpa using h1),by simpa [toPy,PyData.canLay0] using h2,by simpa [toPy,PyData.depth] using h3⟩
 | _, _, .lst m h q => fun r hs => by
   cases r
   obtain ⟨its,rv,pl,hz⟩:=I.list (.inl h)
   obtain ⟨o,ho,hc,k,hd⟩:=pl.isList
   obtain ⟨as,h1,h2,h3⟩:=Reps.reads I q rv (by simpa [shal] using hs)
   exact ⟨_,.list ho hc hd (by simpa using h1),by simpa [toPy,PyData.canLay0] using h2,by simpa [toPy,PyData.depth] using h3⟩
 | _, _, .lstK h q => fun r hs => by
   cases r
   obtain ⟨its,rv,pl,hz⟩:=I.list (.inr h)
   obtain ⟨o,ho,hc,k,hd⟩:=pl.isList
   obtain ⟨as,h1,h2,h3⟩:=Reps.reads I q rv (by simpa [shal] using hs)
   exact ⟨_,.list ho hc hd (by simpa using h1),by simpa [toPy,PyData.canLay0] using h2,by simpa [toPy,PyData.depth] using h3⟩
 | _,_,.dct _ _ _ _=>fun _ hs=>by simp [shal] at hs
 | _,_,.dcf _ _ _ _=>fun _ hs=>by simp [shal] at hs
 | _,_,.ins _ _ _ _ _=>fun _ hs=>by simp [shal] at hs
 | _,_,.clo _ _ _ _ _ _=>fun _ hs=>by simp [shal] at hs
 | _,_,.fnK _=>fun _ hs=>by simp [shal] at hs
theorem Reps.reads {pins:List (Addr×Obj)} {σ : L2.St} {H:Hp} {s:Shared} {O:Addr->Prop} (I:Inv X pins σ H s):∀ {vs:List V} {ds:List D},Reps X.K H O vs ds->∀ {us:List Value} {n:Nat},Vals vs us->shals n ds=true->∃ as,ReadsAll s.heap us (toPys ds) as/\PyData.canLayAll0 (toPys ds)=true/\PyData.depthAll (toPys ds)<=n
 | _,_,.nil=>fun r _=>by cases r; exact ⟨[],.nil,rfl,Nat.zero_le _⟩
 | _, _, .cons h t => fun r hs => by
   rename Nat=>n
   cases n with
   | zero=>simp [shals] at hs
   | succ n =>
    cases r with
    | cons r1 r2 =>
     simp only [shals,Bool.and_eq_true] at hs
     obtain ⟨as,h1,h2,h3⟩:=Rep.reads I h r1 hs.1
     obtain ⟨bs,k1,k2,k3⟩:=Reps.reads I t r2 hs.2
     exact ⟨_,.cons h1 k1,by simp [toPys,PyData.canLayAll0,h2,k2],by simp only [toPys,PyData.depthAll]; omega⟩
end
noncomputable def rEqD (X:Cx) (neg:Bool):R2:=fun x y H Q=>∃ dx dy,Rep X.K H jE x dx/\Rep X.K H jE y dy/\shal 40 dx=true/\shal 40 dy=true/\Q (.bl (if neg then !eqvD dx dy else eqvD dx dy)) H
theorem op_eqD (hu:X.A.units+100 < cLine):OpR X (compareOp .Eq) (rEqD X false):=by
 intro pins s σ H x y v u Q I rx ry h
 obtain ⟨dx,dy,r1,r2,s1,s2,q⟩:=h
 obtain ⟨as,a1,a2,a3⟩:=r1.reads I rx s1
 obtain ⟨bs,b1,b2,b3⟩:=r2.reads I ry s2
 exact SeqAt.compareEq_reads a1 b1 a2 b2 (by omega) ⟨.bl _,H,I,rfl,q⟩
theorem op_neD (hu:X.A.units+100 < cLine):OpR X (compareOp .NotEq) (rEqD X true):=by
 intro pins s σ H x y v u Q I rx ry h
 obtain ⟨dx,dy,r1,r2,s1,s2,q⟩:=h
 obtain ⟨as,a1,a2,a3⟩:=r1.reads I rx s1
 obtain ⟨bs,b1,b2,b3⟩:=r2.reads I ry s2
 exact SeqAt.compareNe_reads a1 b1 a2 b2 (by omega) ⟨.bl _,H,I,rfl,q⟩
theorem on_eqD:OpN X (rEqD X false) eqD:=by
 intro H O x y dx dy d Q rx ry e q
 unfold eqD at e
 split at e
 · rename_i hs
   cases e
   exact ⟨dx,dy,rx,ry,hs.1,hs.2,q _ H (Same.refl _) (.bl _)⟩
 · cases e
theorem on_neD:OpN X (rEqD X true) neD:=by
 intro H O x y dx dy d Q rx ry e q
 unfold neD at e
 split at e
 · rename_i hs
   cases e
   exact ⟨dx,dy,rx,ry,hs.1,hs.2,q _ H (Same.refl _) (.bl _)⟩
 · cases e
theorem hu100 {k:Nat} {A:Around} (hr:Room k A):A.units+100 < cLine:=by have:=hr.un; omega
theorem pv_eq {a b:Expr} {fa fb:FE} {pos:Pos} {k:Nat} (hr:Room k X.A) (ha:PVn X a fa) (hb:PVn X b fb):PV X (.Compare a [.Eq] [b] pos) (zJ eqD fa fb):=pv_cmpN (op_eqD (hu100 hr)) on_eqD ha hb (nomark _)
theorem yB {a b:Expr} {fa fb:FE} {pos:Pos} {k:Nat} (hr:Room k X.A) (ha:PVn X a fa) (hb:PVn X b fb):PTv X (.Compare a [.Eq] [b] pos) (zP (zJ eqD fa fb)):=kG (op_eqD (hu100 hr)) on_eqD ha hb (nomark _)
theorem pt_ne {a b:Expr} {fa fb:FE} {pos:Pos} {k:Nat} (hr:Room k X.A) (ha:PVn X a fa) (hb:PVn X b fb):PTv X (.Compare a [.NotEq] [b] pos) (zP (zJ neD fa fb)):=kG (op_neD (hu100 hr)) on_neD ha hb (nomark _)
theorem non_iff {K:Frag} {H:Hp} {O:Addr->Prop} {v:V} {d:D} (r:Rep K H O v d):decide (v = .non)=(match d with | .non=>true | _=>false):=by
 cases r <;> rfl
theorem on_is:OpN X (fun x y H Q=>y = .non/\Q (.bl (decide (x = .non))) H) isD:=by
 intro H O x y dx dy d Q rx ry e q
 cases dy <;> first | (cases dx <;> simp [isD] at e; done) | skip
 cases ry
 refine ⟨rfl,?_⟩
 rw [non_iff rx]
 cases dx <;> (simp only [isD,Option.some.injEq] at e; subst e; exact q _ H (Same.refl _) (.bl _))
theorem on_not:OpN X (fun x y H Q=>y = .non/\Q (.bl (!decide (x = .non))) H) notD:=by
 intro H O x y dx dy d Q rx ry e q
 cases dy <;> first | (cases dx <;> simp [notD] at e; done) | skip
 cases ry
 refine ⟨rfl,?_⟩
 rw [non_iff rx]
 cases dx <;> (simp only [notD,Option.some.injEq] at e; subst e; exact q _ H (Same.refl _) (.bl _))
theorem pv_is {a b:Expr} {fa fb:FE} {pos:Pos} (ha:PVn X a fa) (hb:PVn X b fb):PV X (.Compare a [.Is] [b] pos) (zJ isD fa fb):=pv_cmpN op_isN on_is ha hb (nomark _)
theorem pv_isnot {a b:Expr} {fa fb:FE} {pos:Pos} (ha:PVn X a fa) (hb:PVn X b fb):PV X (.Compare a [.IsNot] [b] pos) (zJ notD fa fb):=pv_cmpN op_notN on_not ha hb (nomark _)
theorem pt_is {a b:Expr} {fa fb:FE} {pos:Pos} (ha:PVn X a fa) (hb:PVn X b fb):PTv X (.Compare a [.Is] [b] pos) (zP (zJ isD fa fb)):=kG op_isN on_is ha hb (nomark _)
theorem wE {a b:Expr} {fa fb:FE} {pos:Pos} (ha:PVn X a fa) (hb:PVn X b fb):PTv X (.Compare a [.IsNot] [b] pos) (zP (zJ notD fa fb)):=kG op_notN on_not ha hb (nomark _)
theorem scl_flat {K:Frag} {H:Hp} {O:Addr->Prop} {v:V} {d:D} (r:Rep K H O v d) (h:sclD d=true):flatV v=true:=by
 cases r <;> first | rfl | (simp [sclD] at h; done)
theorem scl_eq {K:Frag} {H:Hp} {O O':Addr->Prop} {v v':V} {d d':D} (r:Rep K H O v d) (h:sclD d=true) (r':Rep K H O' v' d') (h':sclD d'=true):eqV v v'=eqvD d d':=by
 cases r <;> first | (simp [sclD] at h; done) | skip
 all_goals (cases r' <;> first | (simp [sclD] at h'; done) | rfl)
theorem scl_all {K:Frag} {H:Hp} {O O':Addr->Prop} {x:V} {dx:D} (rx:Rep K H O' x dx) (hx:sclD dx=true):∀ {xs:List V} {l:List D},Reps K H O xs l->l.all sclD=true->xs.all flatV=true/\inV x xs=l.any fun z=>eqvD z dx
 | _,_,.nil,_=>⟨rfl,rfl⟩
 | _, _, .cons r t, h => by
   rw [List.all_cons,Bool.and_eq_true] at h
   obtain ⟨h1,h2⟩:=scl_all rx hx t h.2
   refine ⟨by rw [List.all_cons,scl_flat r h.1,h1]; rfl,?_⟩
   unfold inV at h2 ⊢
   rw [List.any_cons,List.any_cons,h2,scl_eq r h.1 rx hx]
theorem on_in {neg:Bool} : OpN X (rIn X.K neg) (inD neg):=by
 intro H O x y dx dy d Q rx ry e q
 unfold inD at e
 obtain ⟨l,hl,e⟩:=bnd e
 split at e
 · rename_i hs
   cases e
   cases dy with
   | lst l' =>
     cases hl
     obtain ⟨a,xs,rfl,hq,rs⟩:=WRep.seqL (.inl ry)
     obtain ⟨h1,h2⟩:=scl_all rx hs.1 rs hs.2
     refine ⟨a,xs,rfl,.inl hq,scl_flat rx hs.1,h1,?_⟩
     rw [h2]
     exact q _ H (Same.refl _) (.bl _)
   | tup l' =>
     cases hl
     obtain ⟨a,xs,rfl,hq,rs⟩:=WRep.seqT (.inl ry)
     obtain ⟨h1,h2⟩:=scl_all rx hs.1 rs hs.2
     refine ⟨a,xs,rfl,.inr hq,scl_flat rx hs.1,h1,?_⟩
     rw [h2]
     exact q _ H (Same.refl _) (.bl _)
   | _=>cases hl
 · cases e
theorem pv_in {a b:Expr} {fa fb:FE} {pos:Pos} (ha:PVn X a fa) (hb:PVn X b fb) (hm:behindInMarks .In b=false:=by rfl):PV X (.Compare a [.In] [b] pos) (zJ (inD false) fa fb):=pv_cmpN op_in_seq on_in ha hb hm
theorem os_mul:OpS X (rI IntMulOk fun i j=>.int (i * j)) mulD:=by
 intro H O x y dx dy d Q ho rx ry e q
 cases dx <;> cases dy <;> first | (simp [mulD] at e; done) | skip
 simp only [mulD] at e
 split at e
 · rename_i hc
   cases e
   rw [rx.int',ry.int']
   exact ⟨_,_,rfl,rfl,hc,q _ H (Same.refl _) (.int _)⟩
 · cases e
theorem pvf_cat {a b:Expr} {fa fb:FE} {pos:Pos} (ha:PVw X a fa) (hb:PVw X b fb):PVf X (.BinOp a .Add b pos) (catA fa fb):=by
 obtain ⟨ta,pa,ha⟩:=ha
 obtain ⟨tb,pb,hb⟩:=hb
 refine ⟨_,pe_op op_catS pa pb,fun H₀ H O σ ds hd l Q o e q=>?_⟩
 unfold catA at e
 obtain ⟨dx,h1,e⟩:=bnd e
 obtain ⟨dy,h2,e⟩:=bnd e
 cases dx <;> cases dy <;> first | (simp at e; done) | skip
 simp only at e
 split at e
 · rename_i hz
   cases e
   refine ha H₀ H O σ ds hd _ _ o h1 fun x H1 s1 r1=>?_
   refine hb H₀ H1 O σ ds hd _ _ (o.mono s1) h2 fun y H2 s2 r2=>?_
   obtain ⟨a1,xs,rfl,hq1,rs1⟩:=(r1.mono s2).seqL
   obtain ⟨a2,ys,rfl,hq2,rs2⟩:=r2.seqL
   refine ⟨a1,a2,xs,ys,rfl,rfl,hq1,hq2,by rw [rs1.length,rs2.length]; exact hz,fun p hp=>?_⟩
   refine q p _ _ ((s1.trans s2).trans (zX hp _)) ((s1.trans s2).free hp) upd_same ?_
   exact ((rs1.append rs2).more hp).mono (zX hp _)
 · cases e
variable (X) in
def POv (e:Option Expr) (f:List Sl->Option (Option Int)):Prop:=∃ t,PO X e t/\∀ H₀ H O σ ds hd i Q,Ok X.K H₀ H O σ ds hd->f ds=some i->(∀ H',Same H H'->Q i H')->t σ H Q
theorem yW:POv X none noP:=⟨_,po_none,fun _ H _ _ _ _ _ _ _ e q=>by cases e; exact q H (Same.refl _)⟩
theorem yY {e:Expr} {f:FE} (h:PVw X e f):POv X (some e) (soP f):=by
 obtain ⟨t,ht,hf⟩:=h
 refine ⟨_,po_some ht,fun H₀ H O σ ds hd i Q o e q=>?_⟩
 unfold soP at e
 obtain ⟨d,h1,e⟩:=bnd e
 cases d <;> first | (cases e; done) | skip
 cases e
 refine hf H₀ H O σ ds hd _ _ o h1 fun v H' s r=>?_
 rw [r.int']
 exact ⟨_,rfl,q H' s⟩
theorem cut_reps {K:Frag} {H:Hp} {O:Addr->Prop} {xs:List V} {l:List D} {a b:Option Int} (rs:Reps K H O xs l):Reps K H O (cutV xs a b) (cutD l a b):=by
 unfold cutV cutD
 rw [rs.length]
 exact (rs.drop _).take _
theorem pvf_slice {e:Expr} {lo hi:Option Expr} {f:FE} {gl gh:List Sl->Option (Option Int)} {p2 pos:Pos} (he:PVw X e f) (hl:POv X lo gl) (hh:POv X hi gh):PVf X (.Subscript e (.Slice lo hi none p2) pos) (sliA f gl gh):=by
 obtain ⟨te,pe,he⟩:=he
 obtain ⟨tl,pl,hl⟩:=hl
 obtain ⟨th,ph,hh⟩:=hh
 refine ⟨_,pe_slice sl_list pe pl ph,fun H₀ H O σ ds hd l Q o e q=>?_⟩
 unfold sliA at e
 obtain ⟨d,h1,e⟩:=bnd e
 obtain ⟨a,h2,e⟩:=bnd e
 obtain ⟨b,h3,e⟩:=bnd e
 cases d <;> first | (cases e; done) | skip
 cases e
 refine he H₀ H O σ ds hd _ _ o h1 fun v H1 s1 r1=>?_
 refine hl H₀ H1 O σ ds hd _ _ (o.mono s1) h2 fun H2 s2=>?_
 refine hh H₀ H2 O σ ds hd _ _ ((o.mono s1).mono s2) h3 fun H3 s3=>?_
 obtain ⟨a1,xs,rfl,hq,rs⟩:=((r1.mono s2).mono s3).seqL
 refine ⟨a1,xs,rfl,hq,fun p hp=>?_⟩
 have ss:=(s1.trans s2).trans s3
 refine q p _ _ (ss.trans (zX hp _)) (ss.free hp) upd_same ?_
 exact ((cut_reps rs).more hp).mono (zX hp _)
theorem wF {e:Expr} {f:FE} {p pos:Pos} (hm:X.mg "list" = none) (he:PVw X e f) (hg:Gl X "list":=by rfl) (hs:starEach [e] X.env=[(false,eval e X.env)]:=by rfl):PVf X (.Call (.Name "list" p) [e] [] pos) (lisA f):=by
 obtain ⟨te,pe,he⟩:=he
 refine ⟨_,pe_callTy call_list_of hg hm (by decide +kernel) (qK pe jK hs) (by decide) (by decide) hs rfl,fun H₀ H O σ ds hd l Q o e q=>?_⟩
 unfold lisA at e
 obtain ⟨d,h1,e⟩:=bnd e
 refine he H₀ H O σ ds hd _ _ o h1 fun v H1 s1 r1=>?_
 cases d <;> first | (cases e; done) | skip
 · cases e
   obtain ⟨a1,xs,rfl,hq,rs⟩:=r1.seqT
   refine ⟨a1,xs,rfl,.inr hq,fun p hp=>?_⟩
   exact q p _ _ (s1.trans (zX hp _)) (s1.free hp) upd_same ((rs.more hp).mono (zX hp _))
 · cases e
   obtain ⟨a1,xs,rfl,hq,rs⟩:=r1.seqL
   refine ⟨a1,xs,rfl,.inl hq,fun p hp=>?_⟩
   exact q p _ _ (s1.trans (zX hp _)) (s1.free hp) upd_same ((rs.more hp).mono (zX hp _))
theorem cs_max:CallS X (fun xs H Q=>∃ i j,xs=[.int i,.int j]/\Q (.int (if j > i then j else i)) H) mxD:=by
 intro H O vs l d Q ho r e q
 unfold mxD at e
 split at e
 · cases e
   cases r with
   | cons r1 rn =>
     cases rn with
     | cons r2 rm =>
       cases rm
       exact ⟨_,_,by rw [r1.int',r2.int'],q _ H (Same.refl _) (.int _)⟩
 · cases e
theorem cs_min:CallS X (fun xs H Q=>∃ i j,xs=[.int i,.int j]/\Q (.int (if j < i then j else i)) H) mnD:=by
 intro H O vs l d Q ho r e q
 unfold mnD at e
 split at e
 · cases e
   cases r with
   | cons r1 rn =>
     cases rn with
     | cons r2 rm =>
       cases rm
       exact ⟨_,_,by rw [r1.int',r2.int'],q _ H (Same.refl _) (.int _)⟩
 · cases e
theorem pv_max2 {p pos:Pos} {a b:Expr} {g:FA} (hc:X.calm=true) (hm:X.mg "max" = none) (ha:PAv X [a,b] g) (hg:Gl X "max":=by rfl) (he:starEach [a,b] X.env=(false,eval a X.env)::starEach [b] X.env:=by rfl) (hpl:(backTo pos (starEach [b] X.env)).any (·.1)=false:=by rfl) :
  PV X (.Call (.Name "max" p) [a,b] [] pos) (callB mxD g):=wL (call_max2 hc) cs_max hm (by decide +kernel) ha hg (by decide) (by decide) he hpl
theorem pv_min2 {p pos:Pos} {a b:Expr} {g:FA} (hc:X.calm=true) (hm:X.mg "min" = none) (ha:PAv X [a,b] g) (hg:Gl X "min":=by rfl) (he:starEach [a,b] X.env=(false,eval a X.env)::starEach [b] X.env:=by rfl) (hpl:(backTo pos (starEach [b] X.env)).any (·.1)=false:=by rfl) :
  PV X (.Call (.Name "min" p) [a,b] [] pos) (callB mnD g):=wL (call_min2 hc) cs_min hm (by decide +kernel) ha hg (by decide) (by decide) he hpl
theorem isEmpty_len {α β : Type} {xs:List α} {ys:List β} (h:xs.length=ys.length):xs.isEmpty=ys.isEmpty:=by
 cases xs <;> cases ys <;> simp_all
theorem PVn.t {e:Expr} {f:FE} (h:PVn X e f) (he:∀ whole,isTrue e X.env whole=(do let v <- whole; standAt e.pos; holding [v] (truthy v)):=by intro _; rfl):PTv X e (testT f):=by
 obtain ⟨t,ht,hf⟩:=h
 refine ⟨_,pt_truth ht he,fun H₀ H O σ ds hd k Q o e q=>?_⟩
 unfold testT at e
 obtain ⟨d,h,e⟩:=bnd e
 refine hf H₀ H O σ ds hd d _ o h fun v H' s r=>⟨k,?_,q H' s⟩
 cases d with
 | non=>cases e; cases r; exact rfl
 | bl b=>cases e; cases r; exact rfl
 | int i=>cases e; cases r; exact rfl
 | str x =>
   simp only [truD] at e
   split at e
   · rename_i hz; cases e; cases r; exact ⟨hz,rfl⟩
   · cases e
 | tup l =>
   cases e
   obtain ⟨a,xs,rfl,hq,rs⟩:=WRep.seqT (.inl r)
   exact .inr (.inl ⟨xs,hq,by rw [isEmpty_len rs.length]⟩)
 | lst l =>
   cases e
   obtain ⟨a,xs,rfl,hq,rs⟩:=WRep.seqL (.inl r)
   exact .inl ⟨xs,hq,by rw [isEmpty_len rs.length]⟩
 | _=>cases e
theorem jY {st:Stmt} : PSv X st (fun _=>none):=⟨_,ps_never,fun _ _ _ _ _ _ _ _ _ e _=>by cases e⟩
theorem psv_rel (i:Nat) {st:Stmt} {g:FS} (h:PSv X st g):PSv X st (fun ds=>g (relS i ds)):=by
 obtain ⟨t,ht,hf⟩:=h
 refine ⟨t,ht,fun H₀ H O σ ds hd out E o e q=>?_⟩
 have e:g (relS i ds)=some out:=e
 by_cases hs:∃ l,ds[i]? = some (.own l)
 · obtain ⟨l, hl⟩ := hs
   have e':relS i ds=ds.set i (.v (.lst l)):=by unfold relS; rw [hl]
   rw [e'] at e
   obtain ⟨O',o'⟩:=o.release hl
   exact hf H₀ H O' σ _ hd out E o' e q
 · have e':relS i ds=ds:=by
    unfold relS
    split
    · rename_i l hl; exact (hs ⟨l,hl⟩).elim
    · rfl
   rw [e'] at e
   exact hf H₀ H O σ ds hd out E o e q
theorem psv_ext {i:Nat} {x:Str} {e:Expr} {pos p1 p2 p3:Pos} {fe:FA} (he:PVf X e fe) (hN:X.N[i]? = some x:=by rfl) (hv:Vis X.env.scope x:=by first | exact Or.inl rfl | exact Or.inr (Or.inl rfl) | exact Or.inr (Or.inr rfl)) (hd:(x == ("__debug__" : Str))=false:=by decide)
  (hcd:(x == ("__classdict__" : Str))=false:=by decide)
  (hfew:((backTo p3 (starEach [e] X.env)).all (fun x=>!x.1) && (backToKw p3 (keywordEach [] X.env)).all (fun x=>x.1.isSome)
    && decide ([e].length+([]:List Keyword).length+(if ([]:List Keyword).isEmpty then 0 else 1) < 30))=true:=by rfl)
  (hline:(p2.endLine == p3.line)=true:=by rfl) (hs:starEach [e] X.env=(false,eval e X.env)::starEach [] X.env:=by rfl)
  (hbase:attributeBase (.Name x p1) "extend" X.env (eval (.Name x p1) X.env)=eval (.Name x p1) X.env:=by rfl) (hsw:swapsWith (.Call (.Attribute (.Name x p1) "extend" p2) [e] [] p3) none pos.line X.env=pure false:=by rfl) :
  PSv X (.Expr (.Call (.Attribute (.Name x p1) "extend" p2) [e] [] p3) pos) (extG i fe):=by
 obtain ⟨te,pe,he⟩:=he
 refine ⟨_,xW (pe_bm PySem.F.plainAttrs_list PySem.F.slot_list_extend PySem.F.type_list_extend mt_extend (yH hN hv hd hcd) (qK pe jK hs) hbase hfew hline hs rfl) hsw,fun H₀ H O σ ds hd out E o e h=>?_⟩
 unfold extG at e
 cases hsl:ds[i]? with
 | none=>rw [hsl] at e; cases e
 | some s =>
   rw [hsl] at e
   cases s with
   | v d'=>cases e
   | no=>cases e
   | exc _=>cases e
   | fr _=>cases e
   | ob _ _=>cases e
   | own l =>
     simp only at e
     obtain ⟨d,h1,e⟩:=bnd e
     split at e
     · rename_i hl
       cases e
       obtain ⟨a,xs,q1,q2,q3,q4⟩:=o.readO hsl
       refine ⟨.ref a,q1,.inl ⟨rfl,xs,SqL.of q3⟩,?_⟩
       refine he H₀ H O σ ds hd d _ o h1 fun b ys H1 s1 hn hb r1=>?_
       refine ⟨a,b,xs,ys,rfl,rfl,s1 _ _ q3,hb,by rw [q4.length,r1.length]; exact hl,?_⟩
       exact h _ _ _ ((o.mono s1).modify hsl q1 ((q4.mono s1).append (r1.less fun a z=>.inr z)))
     · cases e
theorem psv_compV {i:Nat} {y:Str} {py spos:Pos} {scope:Scope} {NY:List Str} {mp:List (Option Nat)} {tg iter elt:Expr} {ifs:List Expr} {pos:Pos} {fi:FA} {ga:D->List Sl->Option (List Sl)} {tt:FT} {fe:FE} (hN:X.N.Nodup)
  (S:CompScope X scope NY mp) (hc:X.calm=true) (hi:PIv X tg iter fi) (hg:∀ c,PGv (qT X scope NY c) tg ga) (ht:∀ c,PFv (qT X scope NY c) ifs tt) (he:∀ c,PV (qT X scope NY c) elt fe)
  (hy:X.N[i]? = some y:=by rfl) (hl:X.env.scope.names.lookup y=some .local:=by rfl)
  (hsw:swapsWith (.ListComp elt [⟨tg,iter,ifs,0⟩] scope pos) (some (.Name y py)) spos.line X.env=pure true:=by rfl)
  (hs:∀ x,foldedSetIterable iter X.env x=pure x:=by intro _; rfl):PSv X (.Assign [.Name y py] (.ListComp elt [⟨tg,iter,ifs,0⟩] scope pos) spos) (xG i (mkL (compG fi mp ga tt fe))):=by
 obtain ⟨wi,pi,hi⟩:=hi
 refine ⟨_,ps_comp hN hy hl hsw S hc pi (fun c=>(Classical.choose_spec (hg c)).1) (fun c=>(Classical.choose_spec (ht c)).1) (fun c=>(Classical.choose_spec (he c)).1) hs,fun H₀ H O σ ds hd out E o e h=>?_⟩
 unfold xG mkL at e
 cases h1:compG fi mp ga tt fe ds with
 | none=>rw [h1] at e; cases e
 | some l =>
   rw [h1] at e
   cases e
   exact comp_sem hi (fun c=>(Classical.choose_spec (hg c)).2) (fun c=>(Classical.choose_spec (ht c)).2) (fun c=>(Classical.choose_spec (he c)).2) H₀ H O σ ds hd l _ o h1 fun a xs H' s hn he r =>
    h _ _ _ ((o.mono s).set (.lst (o.free hn) (.inl he) (r.less fun _ z=>.inr z)))
end
end FL
namespace L2
open PySem PySem.Spec PyProof.Rows
section
variable {X:Cx}
end
end L2
namespace Att
open PySem PySem.W PySem.Calls PyProof.Rows
theorem bits_script:∀ {ns:List Int} {b:Nat},WData.weightAll (ns.map WData.int)<=b->∀ c∈ns,Builtin.Int.intBits c<=b
 | [],_,_=>fun c hc=>by cases hc
 | n :: r, b, h => fun c hc => by
   simp only [List.map_cons,WData.weightAll,WData.weight] at h
   rcases List.mem_cons.mp hc with rfl | hc
   · unfold Builtin.Int.intBits
     omega
   · exact bits_script (ns:=r) (b:=b) (by omega) c hc
theorem attach_callB {l:OpenLaw} {n:Nat} {q:Program} {loose:List Str} {XP:(Str->Option Value)->Heap->Prop} {YP:World->Heap->Prop} {d:DefRec}
  (hn:l.most=some n) (hdf:d.params.defaults=[])
  (call:∀ (w:World) (s₀ s₁ : Shared) (mg mb:Str->Option Value) (fa:Addr) (o:Obj) (pm cd doc:Value) (a:Addr) (vs:List Value) (ns:List Int),
    Ground q loose [] XP w s₀ mg mb s₁.heap->YP w s₁.heap →
    s₁.heap.get? fa=some o->o.data = .func (docDef d.name d.params d.body d.scope pm cd doc)->s₁.heap.CodeRec cd d.name->mg d.name=some (.ref fa) →
    s₁.heap.get? a=some { cls:=.type "list",data:=.seq vs.toArray }->IntsAre vs ns->ns.length<=n->(∀ c∈ns,Builtin.Int.intBits c<=1048576)->s₁.gens = #[] →
    codeAny (model l.prog w) callerA (.call (.ref fa) ⟨[.ref a],[]⟩) (fun r s'=>r = .ok (.ret (.bool true))/\OldK s₁.heap s'.heap/\s'.os=s₁.os/\AllBare s'.gens) s₁) :
  WalkO q loose XP YP l.row.toRowW d [] (fun f vs=>PySem.call f vs):=by
 intro w s₀ s₁ mg mb G Y fa o pm cd doc dV kV ho hd hcd hD hmg hg args vals as hpre hlay hrd hwl hlo
 obtain rfl:dV = .none:=Dflts.none hD hdf
 obtain rfl:kV = .none:=Dflts.noKw hD
 obtain ⟨a,vs,ns,rfl,rfl,hobj,hints,hlen⟩:=script_of hn hpre hwl
 have hb:∀ c∈ns,Builtin.Int.intBits c<=1048576:=by
  have h1:=(layableW_iff.mp (layW_cons hlay).1).2.2
  simp only [WData.weight] at h1
  exact bits_script (Nat.le_trans h1 (by decide))
 refine enter_call (codeAny_mono (call w s₀ s₁ mg mb fa o pm cd doc a vs ns G Y ho (fd_plain hd) hcd hmg hobj hints hlen hb hg) fun r s' hq=>?_)
 obtain ⟨rfl,h2,h3,h4⟩:=hq
 exact ⟨.inl ⟨.bool true,.bool true,[],rfl,fun _=>rfl,.bool true,post_true l _,fun _=>⟨List.Pairwise.nil,fun _ hm=>(nomatch hm)⟩⟩,h2,h3,h4⟩
end Att
namespace FL
open PySem PySem.Spec PyProof.Rows L2
noncomputable def spLawB (K:Frag) (n:Nat):Sp:=fun vs H Q _=>∃ (a:Addr) (ns:List Int),vs=[.ref a]/\SqL K H a (ns.map V.int)/\ns.length<=n/\(∀ c∈ns,Builtin.Int.intBits c<=1048576)/\∀ H',Q (.bl true) H'
theorem law_ofB {P:Program} {w:World} {K:Frag} {mg:Str->Option Value} {base:Heap} {k:Nat} {f:Addr} {fd:FuncData} {x:Str} {n:Nat} {F:List D->Option Ret} (Fn:FnOk P w K mg base CX0 k f fd [x] (spF K 1 F))
  (h:∀ ns:List Int,ns.length<=n->(∀ c∈ns,Builtin.Int.intBits c<=1048576)->F [.lst (ns.map D.int)]=some (.val (.bl true))):FnOk P w K mg base CX0 k f fd [x] (spLawB K n):=by
 refine Fn.imp fun vs H Q E hq=>?_
 obtain ⟨a,ns,rfl,hS,hl,hb,q⟩:=hq
 refine ⟨rfl,[.lst (ns.map D.int)],.val (.bl true),.cons ?_ .nil,h ns hl hb,fun v H' s r=>?_⟩
 · rcases hS with hS | hS
   · exact .lst (fun z=>z.elim) hS (Reps.ints ns)
   · exact .lstK hS (Reps.ints ns)
 · cases r; exact q H'
open PySem.W (tabIn CodeHd tabObj noTabs tab_of) in
inductive TabL (K:Frag) (q:Program):List Str->List (Str×Addr×Addr)->Prop
 | nil:TabL K q [] []
 | yes {x:Str} {xs:List Str} {c P:Addr} {tl:List (Str×Addr×Addr)} (h:PySem.W.tabIn K x=some (c,P)) (r:((recsOf q).find? (fun e=>e.name == x)).isSome=true) (ap:(tl.all fun p=>p.2.2 != P)=true) (t:TabL K q xs tl):TabL K q (x::xs) ((x,c,P)::tl)
 | no {x:Str} {xs:List Str} {tl:List (Str×Addr×Addr)} (h:PySem.W.tabIn K x=none) (t:TabL K q xs tl):TabL K q (x::xs) tl
theorem tabL_no {K:Frag} {q:Program} {x:Str} {xs:List Str} {tl:List (Str×Addr×Addr)} (h:PySem.W.nsIn K mainGlobals x=some none) (t:TabL K q xs tl):TabL K q (x::xs) tl:=.no (by unfold PySem.W.tabIn; rw [h]) t
theorem tabL_yes {K:Frag} {q:Program} {x:Str} {xs:List Str} {c P f:Addr} {fd:FuncData} {oc oc':Value} {od od':Option Addr} {sl sl':Array (Option Value)} {vs:Array Value} {tl:List (Str×Addr×Addr)} (h1:PySem.W.nsIn K mainGlobals x=some (some (.ref f))) (h2:K.lookup f=some ⟨oc,od,.func fd,sl⟩)
  (h3:fd.code = .ref c) (h4:K.lookup c=some ⟨oc',od',.fields vs,sl'⟩) (h5:(vs[11]? : Option Value)=some (.ref P)) (r:((recsOf q).find? (fun e=>e.name == x)).isSome=true) (t:TabL K q xs tl) (ap:(tl.all fun p=>p.2.2 != P)=true):TabL K q (x::xs) ((x,c,P)::tl) :=
 .yes (by unfold PySem.W.tabIn; simp only [h1,h2,h3,h4,h5]) r ap t
section
variable {K:Frag} {q:Program} {xs:List Str} {tl:List (Str×Addr×Addr)}
theorem TabL.get (h:TabL K q xs tl):∀ {x:Str} {c P:Addr},x∈xs->PySem.W.tabIn K x=some (c,P)->(x,c,P)∈tl:=by
 induction h with
 | nil=>intro x c P hx; cases hx
 | yes h r ap t ih =>
   intro x c P hx ht
   rcases List.mem_cons.mp hx with e | e
   · subst e
     rw [h] at ht
     cases ht
     exact List.mem_cons_self
   · exact List.mem_cons_of_mem _ (ih e ht)
 | no h t ih =>
   intro x c P hx ht
   rcases List.mem_cons.mp hx with e | e
   · subst e
     rw [h] at ht
     cases ht
   · exact ih e ht
theorem TabL.fact (h:TabL K q xs tl):∀ p∈tl,PySem.W.tabIn K p.1=some (p.2.1,p.2.2)/\((recsOf q).find? (fun e=>e.name == p.1)).isSome=true:=by
 induction h with
 | nil=>intro p hp; cases hp
 | yes h r ap t ih =>
   intro p hp
   rcases List.mem_cons.mp hp with e | e
   · subst e; exact ⟨h,r⟩
   · exact ih p e
 | no h t ih=>exact ih
noncomputable def tabH (K:Frag) (tl:List (Str×Addr×Addr)):Hp:=fun b=>(tl.find? fun p=>p.2.2 == b).map fun p=>.tbl (innerQ K p.1)
theorem tabH_of {b:Addr} {u:HO} (e:tabH K tl b=some u):∃ p∈tl,b=p.2.2/\u = .tbl (innerQ K p.1):=by
 unfold tabH at e
 obtain ⟨p,h,rfl⟩:=mpd e
 exact ⟨p,List.mem_of_find?_eq_some h,(beq_iff_eq.mp (List.find?_some (p:=fun p:Str×Addr×Addr=>p.2.2 == b) h)).symm,rfl⟩
theorem TabL.at (h:TabL K q xs tl):∀ p∈tl,tabH K tl p.2.2=some (.tbl (innerQ K p.1)):=by
 induction h with
 | nil=>intro p hp; cases hp
 | yes h r ap t ih =>
   intro p hp
   rename_i x xs c P tl
   unfold tabH
   rcases List.mem_cons.mp hp with e | e
   · subst e
     simp
   · have:(P == p.2.2)=false:=by
      have:=List.all_eq_true.mp ap p e
      simp only [bne_iff_ne,ne_eq] at this
      exact beq_eq_false_iff_ne.mpr (Ne.symm this)
     rw [List.find?_cons,this]
     exact ih p e
 | no h t ih=>exact ih
end
theorem no_cls {K:Frag} {h:Heap} {b:Addr} {o:Obj} {ps:Array Value} (X:K.In h) (hK:PySem.W.noTabs K=true) (e:K.lookup b=some o) (hb:h.get? b=some (PySem.W.tabObj ps)):False:=by
 have q:=X b o e
 rw [hb] at q
 cases q
 have h2:=List.all_eq_true.mp hK (b,_) (PySem.W.mem_of_lookupK e)
 exact absurd (show false=true from h2) Bool.false_ne_true
theorem law_callT {P:Program} {w:World} {K:Frag} {q:Program} {loose:List Str} {mean:ExcName->Option Value} {mg mb:Str->Option Value} {k:Nat} {fa a:Addr} {fd:FuncData} {x:Str} {sp:Sp} {s₁ : Shared} {vs:List Value} {ns:List Int} {tl:List (Str×Addr×Addr)}
  (KX:K.In s₁.heap) (T:Top q loose mean mg mb s₁.heap) (hT:TabL K q makers tl) (hK:PySem.W.noTabs K=true) (hg:s₁.gens = #[]) (ha:s₁.heap.get? a=some { cls:=.type "list",data:=.seq vs.toArray }) (hi:IntsAre vs ns) (hl:ns.length<=sizeLine) (hr:Room k callerA)
  (F:∀ base:Heap,K.In base->base.Ns mainGlobals mg->FnOk P w K mg base CX0 k fa fd [x] sp) (hbind:∀ (s:Shared) (u:Value),BindsTo s fd ⟨[u],[]⟩ [(x,u)])
  (hsp:∀ H:Hp,SqL K H a (ns.map V.int)->sp [.ref a] H (fun v _=>v = .bl true) fun _ _ _=>False) :
  codeAny (model P w) callerA (.call (.ref fa) ⟨[.ref a],[]⟩) (fun r s'=>r = .ok (.ret (.bool true))/\OldK s₁.heap s'.heap/\s'.os=s₁.os/\AllBare s'.gens) s₁:=by
 have rv:=vals_ints hi
 have tf:∀ p∈tl,PySem.W.CodeHd s₁.heap p.2.1 p.2.2/\s₁.heap.get? p.2.2=some (PySem.W.tabObj #[]):=fun p hp=>by
  obtain ⟨h1,h2⟩:=hT.fact p hp
  obtain ⟨d,hd⟩:=Option.isSome_iff_exists.mp h2
  exact PySem.W.tab_of T KX hd h1
 have core:∀ H:Hp,SqL K H a (ns.map V.int)->L2.HOk P w H s₁.heap->(∀ b u,H b=some u->(b=a/\K.lookup a=none/\∃ o xs,u = .frz o (.lst xs)) \/ ∃ p∈tl,b=p.2.2/\u = .tbl (innerQ K p.1))->(∀ p∈tl,H p.2.2=some (.tbl (innerQ K p.1))) →
   codeAny (model P w) callerA (.call (.ref fa) ⟨[.ref a],[]⟩) (fun r s'=>r = .ok (.ret (.bool true))/\OldK s₁.heap s'.heap/\s'.os=s₁.os/\AllBare s'.gens) s₁:=by
  intro H hS hok hA hP
  have free_of:∀ {b:Addr} {o:Obj},s₁.heap.get? b=some o->(∀ its n,o.data≠.seq its n)->o.data≠.fields #[]->H b=none:=fun {b o} e n1 n2=>by
   cases qb:H b with
   | none=>rfl
   | some u =>
     rcases hA b u qb with ⟨rfl,_,_⟩ | ⟨p,hp,rfl,_⟩
     · rw [ha] at e; cases e; exact (n1 _ _ rfl).elim
     · rw [(tf p hp).2] at e; cases e; exact (n2 rfl).elim
  have base_of:∀ {b:Addr} {o:Obj},s₁.heap.get? b=some o->(∀ its n,o.data≠.seq its n)->o.data≠.fields #[]->(hidT s₁.heap H).get? b=some o:=fun e n1 n2=>hidT_get e (free_of e n1 n2)
  have nsK:∀ {b:Addr} {m:Str->Option Value},s₁.heap.Ns b m->(hidT s₁.heap H).Ns b m:=fun {b m} ⟨o,es,ep,e,d,r⟩=>⟨o,es,ep,base_of e (fun _ _ z=>by rw [d] at z; cases z) (fun z=>by rw [d] at z; cases z),d,r⟩
  have hKb:K.In (hidT s₁.heap H):=fun b o e=>hidT_get (KX b o e) (by
   cases qb:H b with
   | none=>rfl
   | some u =>
     rcases hA b u qb with ⟨rfl,z,_⟩ | ⟨p,hp,rfl,_⟩
     · rw [z] at e; cases e
     · exact (no_cls KX hK e (tf p hp).2).elim)
  have hM:Mod K mg (hidT s₁.heap H):=⟨hKb,nsK T.g,⟨mb,nsK T.b,T.builtins⟩,let ⟨mc,h1,h2⟩:=T.nolimit; ⟨mc,nsK h1,h2⟩⟩
  have hTab:TabsK K mg (hidT s₁.heap H) H:=by
   refine ⟨?_,fun y c P' hy ht=>?_⟩
   · obtain ⟨bm, ob, b1, b2, b3, b4, b5, b6⟩ := T.bmain
     exact ⟨bm,ob,b1,b2,base_of b3 (fun _ _ z=>by rw [b6] at z; cases z) (fun z=>by rw [b6] at z; cases z),b4,b5,b6⟩
   · have hm := hT.get hy ht
     refine ⟨?_,hP _ hm⟩
     obtain ⟨o,ws,file,tf',flags,tg,inF,text,tt,e1,r1,r2,r3,rest⟩:=(tf _ hm).1
     refine ⟨o,ws,file,tf',flags,tg,inF,text,tt,base_of e1 (fun _ _ z=>by rw [r2] at z; cases z) (fun z=>?_),r1,r2,r3,rest⟩
     rw [r2] at z
     cases z
     cases r3
  have e0:Env0 P w K mg (hidT s₁.heap H) callerA [] s₁ H:=⟨rfl,hM,fun b o e=>of_hidT e,⟨Nat.le_of_eq (hidT_size _ _),hTab⟩,trivial,fun b hb=>absurd (show b∈([]:List Addr) from hb) (by simp),hok,.of_eq hg⟩
  refine codeAny_mono ((F _ hKb (nsK T.g)).run callerA [] s₁ H ⟨[.ref a],[]⟩ [.ref a] [.ref a] _ _ hr e0 (hbind s₁ (.ref a)) (.cons rfl .nil) (hsp H hS)) fun r s' h=>?_
  cases r with
  | error e=>exact False.elim h
  | ok fl =>
    cases fl with
    | next=>exact False.elim h
    | brk=>exact False.elim h
    | cont=>exact False.elim h
    | ret u =>
      obtain ⟨v,H',os,bare,un,hok',r',hv⟩:=h
      have hv':v = .bl true:=hv
      subst hv'
      obtain rfl:u=Value.bool true:=r'
      refine ⟨rfl,⟨fun b o e=>?_,fun b o e=>un.there b o e (by simp)⟩,os,bare⟩
      cases qb:H b with
      | none=>exact .inl (un.keep b o e qb (by intro z; exact absurd (show b∈([]:List Addr) from z) (by simp)) (by simp))
      | some u =>
        rcases hA b u qb with ⟨_,_,ob,xs,rfl⟩ | ⟨p,hp,rfl,rfl⟩
        · obtain ⟨e1, _⟩ := hok b _ qb
          obtain ⟨e2,_⟩:=hok' b _ (un.frzs b ob _ qb)
          rw [e] at e1; cases e1
          exact .inl e2
        · have t2 := (tf p hp).2
          rw [e] at t2
          cases t2
          obtain ⟨ps,e2,_⟩:=hok' _ _ (un.tbls _ _ qb)
          exact .inr (.inl ⟨((tf p hp).1.tab (tf p hp).2).isCodeTable,rfl,#[],ps,rfl,by rw [Array.empty_append]; exact e2⟩)
 have tabOk:∀ (H:Hp) (p:Str×Addr×Addr),p∈tl->ObjOk P w H s₁.heap p.2.2 (.tbl (innerQ K p.1)):=fun H p hp=>⟨#[],(tf p hp).2,trivial,fun pos v z=>by cases z⟩
 cases hk:K.lookup a with
 | some o =>
   have e:=KX a o hk
   rw [ha] at e
   cases e
   refine core (tabH K tl) (.inr ⟨_,vs.toArray,_,hk,rfl,rfl,rfl,by rw [List.size_toArray,hi.length]; exact hl,by simpa using rv⟩) (fun b u z=>?_) (fun b u z=>.inr (tabH_of z)) fun p hp=>hT.at p hp
   obtain ⟨p,hp,rfl,rfl⟩:=tabH_of z
   exact tabOk _ p hp
 | none =>
   have na:∀ p∈tl,p.2.2≠a:=fun p hp z=>by
    have:=(tf p hp).2
    rw [z,ha] at this; cases this
   refine core (upd (tabH K tl) a (.frz { cls:=.type "list",data:=.seq vs.toArray } (.lst (ns.map V.int)))) (.inl (.inr ⟨_,upd_same⟩)) (fun b u z=>?_) (fun b u z=>?_) fun p hp=>by rw [upd_ne (na p hp)]; exact hT.at p hp
   · by_cases hb : b = a
     · subst hb
       rw [upd_same] at z
       cases z
       exact ⟨ha,by rw [List.length_map]; exact hl,vs,_,rv,ha⟩
     · rw [upd_ne hb] at z
       obtain ⟨p,hp,rfl,rfl⟩:=tabH_of z
       exact tabOk _ p hp
   · by_cases hb : b = a
     · subst hb
       rw [upd_same] at z
       cases z
       exact .inl ⟨rfl,hk,_,_,rfl⟩
     · rw [upd_ne hb] at z
       exact .inr (tabH_of z)
theorem walkB {l:PySem.W.OpenLaw} {q:Program} {loose:List Str} {XP:(Str->Option Value)->Heap->Prop} {YP:World->Heap->Prop} {d:DefRec} {K:Params->PySem.W.Frag} {k:Nat} {tl:List (Str×Addr×Addr)} (hn:l.most=some 63) (hdf:d.params.defaults=[]) (hr:Room k callerA)
  (hY:∀ (w:World) (h:Heap),YP w h->(K w.params).In h) (hK:∀ w:World,PySem.W.noTabs (K w.params)=true) (hT:∀ w:World,TabL (K w.params) q makers tl)
  (F:∀ (w:World) (mg:Str->Option Value) (fa:Addr) (h:Heap),(K w.params).In h->h.Ns mainGlobals mg->mg d.name=some (.ref fa) →
    ∃ fd:FuncData,(∀ (s:Shared) (u:Value),BindsTo s fd ⟨[u],[]⟩ [("_law_script",u)])/\∀ base:Heap,(K w.params).In base->base.Ns mainGlobals mg->FnOk l.prog w (K w.params) mg base CX0 k fa fd ["_law_script"] (spLawB (K w.params) 63)) :
  PySem.W.WalkO q loose XP YP l.row.toRowW d [] (fun f vs=>PySem.call f vs):=by
 refine Att.attach_callB hn hdf fun w s₀ s₁ mg mb fa o pm cd doc a vs ns G Y ho hd hcd hmg hobj hints hlen hb hg=>?_
 have KX:=hY w _ Y
 obtain ⟨fd,hbd,hF⟩:=F w mg fa _ KX G.T.g hmg
 exact law_callT KX G.T (hT w) (hK w) hg hobj hints (Nat.le_trans hlen (by decide)) hr hF hbd fun H hS=>⟨a,ns,rfl,hS,hlen,hb,fun _=>rfl⟩
structure Cal (P:Program) (w:World) (K:Frag) (mg:Str->Option Value) (base:Heap) (x:Str) (k n:Nat) (F:List D->Option Ret):Prop where
 ex:∃ (f:Addr) (fd:FuncData) (ps:List Str),FnOk P w K mg base CX0 k f fd ps (spF K n F)/\Binds K fd ps []/\PySem.W.keepIn K (.ref f)=true/\mg x=some (.ref f)
section
variable {X:Cx}
section
variable {k j:Nat} {n:Nat} {F:List D->Option Ret} {x:Str} {p pos:Pos} {e:Expr} {es:List Expr} {g:FA}
theorem zU (C:Cal X.prog X.w X.K X.mg X.base x k n F) (hr:Room j X.A) (ha:PAn X (e::es) g) (hj:k<=j:=by decide)
  (hg:Gl X x:=by rfl) (hdb:(x == ("__debug__" : Str))=false:=by decide) (he:starEach (e::es) X.env=(false,eval e X.env)::starEach es X.env:=by rfl) (hpl:(backTo pos (starEach es X.env)).any (·.1)=false:=by rfl) :
  PV X (.Call (.Name x p) (e::es) [] pos) (qQ n F g):=by
 obtain ⟨f,fd,ps,Fn,hb,hk,hm⟩:=C.ex
 exact pv_callN Fn (hr.mono hj) hm hk hb ha hg hdb he hpl
theorem yK (C:Cal X.prog X.w X.K X.mg X.base x k n F) (hr:Room j X.A) (ha:PAn X (e::es) g) (hj:k<=j:=by decide)
  (hg:Gl X x:=by rfl) (hdb:(x == ("__debug__" : Str))=false:=by decide) (he:starEach (e::es) X.env=(false,eval e X.env)::starEach es X.env:=by rfl) (hpl:(backTo pos (starEach es X.env)).any (·.1)=false:=by rfl) :
  PVf X (.Call (.Name x p) (e::es) [] pos) (vI n F g):=by
 obtain ⟨f,fd,ps,Fn,hb,hk,hm⟩:=C.ex
 exact pvf_callN Fn (hr.mono hj) hm hk hb ha hg hdb he hpl
end
end
section
variable {X:Cx} {a b:Expr} {fa fb:FE} {pos:Pos}
theorem pv_lt (ha:PVw X a fa) (hb:PVw X b fb):PV X (.Compare a [.Lt] [b] pos) (zJ ltD fa fb):=pv_cmp op_lt os_cmpI ha hb (nomark _)
theorem pv_le (ha:PVw X a fa) (hb:PVw X b fb):PV X (.Compare a [.LtE] [b] pos) (zJ leD fa fb):=pv_cmp op_le os_cmpI ha hb (nomark _)
theorem pt_lt (ha:PVw X a fa) (hb:PVw X b fb):PTv X (.Compare a [.Lt] [b] pos) (zP (zJ ltD fa fb)):=pt_cmpV op_lt os_cmpI ha hb (nomark _)
theorem pt_gt (ha:PVw X a fa) (hb:PVw X b fb):PTv X (.Compare a [.Gt] [b] pos) (zP (zJ gtD fa fb)):=pt_cmpV op_gt os_cmpI ha hb (nomark _)
theorem qX (ha:PVw X a fa) (hb:PVw X b fb):PV X (.BinOp a .Add b pos) (zJ yG fa fb):=pv_bin op_addU os_add ha hb
theorem pv_mulI (ha:PVw X a fa) (hb:PVw X b fb):PV X (.BinOp a .Mult b pos) (zJ mulD fa fb):=pv_bin op_mulB os_mul ha hb
theorem qG (ha:PVw X a fa) (hb:PVw X b fb):PV X (.BinOp a .Mod b pos) (zJ jO fa fb):=pv_bin op_mod os_mod ha hb
theorem qN (ha:PVw X a fa) (hb:PVw X b fb):PV X (.BinOp a .FloorDiv b pos) (zJ qL fa fb):=pv_bin op_fdivB os_fdiv ha hb
end
end FL
namespace L2
open PySem PySem.Spec PyProof.Rows
section
variable {X:Cx} {tg:Expr}
theorem pi_seq {l:Expr} {tl:TE} (hl:PE X l tl):PI X tg l (fun σ H R=>iList X.K tl σ H R \/ iTup X.K tl σ H R):=by
 intro pins s σ H R I h
 rcases h with h | h
 · exact pi_list hl pins s σ H R I h
 · exact pi_tup hl pins s σ H R I h
end
end L2
namespace FL
open PySem PySem.Spec PyProof.Rows L2
section
variable {X:Cx}
theorem jW {tg e:Expr} {f:FE} (h:PV X e f):PIv X tg e (viaA f asLT):=by
 obtain ⟨t,ht,hf⟩:=h
 refine ⟨_,pi_seq ht,fun H₀ H O σ ds hd items R o e q=>?_⟩
 unfold viaA at e
 obtain ⟨d,h1,e⟩:=bnd e
 cases d with
 | lst l =>
   cases e
   refine .inl (hf H₀ H O σ ds hd _ _ o h1 fun v H' s r=>?_)
   obtain ⟨a,xs,rfl,hs,rs⟩:=WRep.seqL (.inl r)
   exact ⟨a,rfl,⟨xs,hs⟩,q _ (.ref a,.lst items) H' s r wlk_list⟩
 | tup l =>
   cases e
   refine .inr (hf H₀ H O σ ds hd _ _ o h1 fun v H' s r=>?_)
   obtain ⟨a,xs,rfl,hs,rs⟩:=WRep.seqT (.inl r)
   exact ⟨a,rfl,⟨xs,hs⟩,q _ (.ref a,.tup items) H' s r wlk_tup⟩
 | _=>cases e
end
end FL
namespace L2
open PySem PySem.Spec PyProof.Rows
section
variable {X:Cx} {tg:Expr}
end
end L2
namespace FL
open PySem PySem.Spec PyProof.Rows L2
section
variable {X:Cx}
theorem pv_int1 {p pos:Pos} {e:Expr} {g:FA} (hm:X.mg "int" = none) (ha:PAv X [e] g) (hg:Gl X "int":=by rfl) (he:starEach [e] X.env=[(false,eval e X.env)]:=by rfl):PV X (.Call (.Name "int" p) [e] [] pos) (callB int1D g):=by
 obtain ⟨t,ht,hf⟩:=ha
 refine ⟨_,pe_callTy call_int1 hg hm (by decide +kernel) ht (by decide) (by decide) he rfl,fun H₀ H O σ ds hd d Q o e q=>?_⟩
 unfold callB at e
 obtain ⟨l,h,e⟩:=bnd e
 refine hf H₀ H O σ ds hd l _ o h fun vs H1 s1 r1=>?_
 unfold int1D at e
 split at e
 · cases e
   cases r1 with
   | cons r rn =>
     cases rn
     exact .inl ⟨_,by rw [r.int'],q _ H1 s1 (.int _)⟩
 · cases e
   cases r1 with
   | cons r rn =>
     cases rn
     exact .inr ⟨_,by rw [r.bl'],q _ H1 s1 (.int _)⟩
 · cases e
end
end FL
namespace L2
open PySem PySem.Spec PyProof.Rows
section
variable {X:Cx} {pins:List (Addr×Obj)} {σ : St} {H:Hp} {s:Shared} {h':Heap}
end
section
variable {X:Cx}
end
end L2
namespace FL
open PySem PySem.Spec PyProof.Rows L2
section
variable {X:Cx}
section
variable {scope:Scope} {NY:List Str} {mp:List (Option Nat)} {tg iter elt:Expr} {ifs:List Expr} {pos:Pos} {fi:FA} {ga:D->List Sl->Option (List Sl)} {tt:FT} {fe:FE}
end
end
end FL
namespace L2
open PySem PySem.Spec PyProof.Rows
section
variable {X:Cx}
end
end L2
namespace FL
open PySem PySem.Spec PyProof.Rows L2
section
variable {X:Cx}
end
section
variable {X:Cx}
end
section
variable {X:Cx}
theorem Reps.rep {K:Frag} {H:Hp} {O:Addr->Prop} {xs:List V} {l:List D} (h:Reps K H O xs l):∀ k:Nat,Reps K H O (List.replicate k xs).flatten (List.replicate k l).flatten
 | 0=>by simpa using .nil
 | k + 1 => by
   rw [List.replicate_succ,List.flatten_cons,List.replicate_succ,List.flatten_cons]
   exact h.append (Reps.rep h k)
theorem pvf_repF {a b:Expr} {fa:FA} {fb:FE} {pos:Pos} (ha:PVf X a fa) (hb:PVw X b fb):PVf X (.BinOp a .Mult b pos) (repF fa fb):=by
 obtain ⟨ta,pa,ha⟩:=ha
 obtain ⟨tb,pb,hb⟩:=hb
 refine ⟨_,pe_op op_rep pa pb,fun H₀ H O σ ds hd l Q o e q=>?_⟩
 unfold repF at e
 obtain ⟨l0,h1,e⟩:=bnd e
 obtain ⟨dy,h2,e⟩:=bnd e
 cases dy <;> first | (cases e; done) | skip
 rename_i k
 simp only at e
 split at e
 · rename_i hk
   cases e
   refine ha H₀ H O σ ds hd l0 _ o h1 fun a1 xs H1 s1 n1 e1 r1=>?_
   refine hb H₀ H1 O σ ds hd _ _ (o.mono s1) h2 fun v H2 s2 r2=>?_
   have r2':=r2.int'
   subst r2'
   refine ⟨a1,k,xs,rfl,rfl,s2 _ _ e1,?_,?_,?_,fun p hp=>?_⟩
   · have : (2 : Int) ^ 63 = 9223372036854775808 := by decide
     omega
   · have : (2 : Int) ^ 63 = 9223372036854775808 := by decide
     omega
   · rw [r1.length]; exact hk.2.2
   · have ss := s1.trans s2
     refine q p _ _ (ss.trans (zX hp _)) (ss.free hp) upd_same ?_
     have r3:Reps X.K H2 O xs l0:=(r1.less fun _ z=>.inr z).mono s2
     exact ((r3.rep k.toNat).more hp).mono (zX hp _)
 · cases e
end
end FL
namespace L2
open PySem PySem.Spec PyProof.Rows
section
variable {X:Cx}
end
end L2
namespace FL
open PySem PySem.Spec PyProof.Rows L2
section
variable {X:Cx}
end
end FL
namespace L2
open PySem PySem.Spec PyProof.Rows
section
variable {X:Cx}
def tMethD (X:Cx) (m:Str) (k:Nat) (ta:TE) (t:TA):TE:=fun σ H Q=>ta σ H fun x H1=>∃ (a C dx:Addr) (fs:List (Str×V)) (f:Addr) (fd:FuncData) (ps:List Str) (sp:Sp),x = .ref a/\H1 a=some (.ins C dx fs)/\fs.lookup m=none ∧
 Cls X.K C/\Meth X.K C m f/\FnOk X.prog X.w X.K X.mg X.base CX0 k f fd ps sp/\Binds X.K fd ps []/\t σ H1 fun vs H2=>sp (x::vs) H2 Q E0
theorem kE {k:Nat} {m:Str} {e o:Expr} {es:List Expr} {apos pos:Pos} {ta:TE} {t:TA} {pl:Sem Bool} (he:PE X o ta) (hr:Room k X.A) (ha:PA X (e::es) t)
  (hst:starEach (e::es) X.env=(false,eval e X.env)::starEach es X.env:=by rfl) (hpl:(backTo pos (starEach es X.env)).any (·.1)=false:=by rfl)
  (ht:eval (.Call (.Attribute o m apos) (e::es) [] pos) X.env=(do
    let ov <- eval o X.env
    standAt apos.atName
    let (f,first) <- holding [ov] (getMethod ov m pl)
    callWith pos f first (backTo pos (starEach (e::es) X.env)) (backToKw pos (keywordEach [] X.env))):=by rfl) :
  PE X (.Call (.Attribute o m apos) (e::es) [] pos) (tMethD X m k ta t):=by
 intro pins s σ H Q I h
 refine PySem.W.methodCall_KW (pl:=pl) (thn (he pins s σ H _ I h) fun u s1 zq=>?_) ht
 obtain ⟨x,H1,I1,rx,a,C,dx,fs,f,fd,ps,sp,ex,ea,l,c,hm,F,hb,q⟩:=zq
 subst ex
 obtain rfl:u=Value.ref a:=rx
 refine getmeth_ok I1 ea c hm l ?_
 refine PySem.W.callWith_K (first:=[.ref a]) (h₀:=X.base) I.ok.mod.kin hm.kp (thn (ha pos pins s1 σ H1 _ I1 q) fun us s2 ⟨vs,H2,I2,r,q2⟩=>⟨I2.kIn,?_⟩) hst hpl
 exact run_fn (us:=.ref a::us) (vs:=.ref a::vs) F hr hb .nil pass0 I2 (.cons rfl r) (by simpa using q2)
end
end L2
namespace FL
open PySem PySem.Spec PyProof.Rows L2
section
variable {X:Cx}
theorem PVd.v {e:Expr} {f:FE} (h:PVd X e f):PV X e f:=by
 obtain ⟨t,ht,hf⟩:=h
 exact ⟨t,ht,fun H₀ H O σ ds hd d Q o e q=>hf H₀ H O σ ds hd d Q o e fun v H' s r=>q v H' s (r.less fun a z=>o.old z)⟩
def FldOk (K:Frag) (f:Str) (ix:List (Nat×Nat)):Prop:=∀ t i,ix.lookup t=some i->(clsFlds t)[i]? = some f/\(∀ j,j < i->(clsFlds t)[j]?≠some f)/\∀ C,PySem.W.nsIn K mainGlobals (clsName t)=some (some (.ref C))->Cls K C/\NoAttr K C f
theorem fldOk_nil {K:Frag} {f:Str} : FldOk K f []:=fun t i h=>by simp at h
theorem fldOk_cons {K:Frag} {f:Str} {t i:Nat} {C:Addr} {ix:List (Nat×Nat)} (a:PySem.W.nsIn K mainGlobals (clsName t)=some (some (.ref C))) (c:Cls K C) (n:NoAttr K C f) (h1:(clsFlds t)[i]? = some f) (h2:∀ j,j < i->(clsFlds t)[j]?≠some f)
  (h:FldOk K f ix):FldOk K f ((t,i)::ix):=by
 intro t' i' e
 by_cases q:t'=t
 · subst q
   simp at e
   subst e
   refine ⟨h1,h2,fun C' e'=>?_⟩
   rw [a] at e'
   cases e'
   exact ⟨c,n⟩
 · have : (t' == t) = false := by simpa using q
   rw [List.lookup_cons,this] at e
   exact h t' i' e
theorem xS {f:Str} : ∀ {kvs:List (Str×V)} {i:Nat} {v:V},(kvs.map (·.1))[i]? = some f->(∀ j,j < i->(kvs.map (·.1))[j]?≠some f)->(kvs.map (·.2))[i]? = some v->kvs.lookup f=some v
 | [],_,_,h,_,_=>by simp at h
 | (g, x) :: r, 0, v, h1, _, h3 => by
   simp at h1 h3
   subst h1 h3
   simp [List.lookup]
 | (g, x) :: r, i + 1, v, h1, h2, h3 => by
   have hg:g≠f:=fun z=>h2 0 (by omega) (by simp [z])
   have:(f == g)=false:=by simpa using fun z=>hg z.symm
   rw [List.lookup_cons,this]
   exact xS (i:=i) (by simpa using h1) (fun j hj=>by have:=h2 (j+1) (by omega); simpa using this) (by simpa using h3)
theorem wU {e:Expr} {f:Str} {pos:Pos} {fe:FE} {ix:List (Nat×Nat)} (hF:FldOk X.K f ix) (he:PV X e fe) (hb:attributeBase e f X.env (eval e X.env)=eval e X.env:=by rfl):PV X (.Attribute e f pos) (fldG ix fe):=by
 obtain ⟨t,ht,hf⟩:=he
 refine ⟨_,pe_fld ht hb,fun H₀ H O σ ds hd d Q o e q=>?_⟩
 unfold fldG at e
 obtain ⟨x,h,e⟩:=bnd e
 refine hf H₀ H O σ ds hd x _ o h fun v H1 s1 r1=>?_
 cases x with
 | ins t es =>
   simp only [fldD] at e
   obtain ⟨i,hl,e⟩:=bnd e
   obtain ⟨h1,h2,h3⟩:=hF t i hl
   cases r1 with
   | @ins a C dx _ kvs _ c n ha ek rr =>
     obtain ⟨cl,na⟩:=h3 C c
     obtain ⟨w,hw,rw'⟩:=rr.get e
     refine ⟨a,C,dx,kvs,w,rfl,ha,cl,na,xS (i:=i) (by rw [ek]; exact h1) (by rw [ek]; exact h2) hw,?_⟩
     exact q w H1 s1 rw'
 | _=>simp [fldD] at e
structure MCal (P:Program) (w:World) (K:Frag) (mg:Str->Option Value) (base:Heap) (m:Str) (k n:Nat) (cs:List Nat) (F:Nat->List D->Option Ret):Prop where
 no:∀ t∈cs,m ∉ clsFlds t
 of:∀ t∈cs,∀ C,PySem.W.nsIn K mainGlobals (clsName t)=some (some (.ref C))->∃ (f:Addr) (fd:FuncData) (ps:List Str),Cls K C/\Meth K C m f/\FnOk P w K mg base CX0 k f fd ps (spF K (n+1) (F t))/\Binds K fd ps []
theorem mcal_nil {P:Program} {w:World} {K:Frag} {mg:Str->Option Value} {base:Heap} {m:Str} {k n:Nat} {F:Nat->List D->Option Ret} : MCal P w K mg base m k n [] F:=⟨fun _ h=>(nomatch h),fun _ h=>(nomatch h)⟩
theorem mcal_cons {P:Program} {w:World} {K:Frag} {mg:Str->Option Value} {base:Heap} {m:Str} {j k n t:Nat} {cs:List Nat} {F:Nat->List D->Option Ret} {C f:Addr} {fd:FuncData} {ps:List Str} (a:PySem.W.nsIn K mainGlobals (clsName t)=some (some (.ref C)))
  (c:Cls K C) (hm:Meth K C m f) (G:FnOk P w K mg base CX0 j f fd ps (spF K (n+1) (F t))) (hj:j<=k) (b:Binds K fd ps []) (hn:m ∉ clsFlds t) (h:MCal P w K mg base m k n cs F):MCal P w K mg base m k n (t::cs) F:=by
 refine ⟨fun t' ht=>(List.mem_cons.mp ht).elim (fun e=>e ▸ hn) (h.no t'),fun t' ht C' e=>?_⟩
 rcases List.mem_cons.mp ht with rfl | ht
 · rw [a] at e
   cases e
   exact ⟨f,fd,ps,c,hm,G.mono hj,b⟩
 · exact h.of t' ht C' e
theorem jI {m:Str} : ∀ {kvs:List (Str×V)},m ∉ kvs.map (·.1)->kvs.lookup m=none
 | [],_=>rfl
 | (g, x) :: r, h => by
   have hg:(m == g)=false:=by simpa using fun z=>h (by simp [z])
   rw [List.lookup_cons,hg]
   exact jI fun z=>h (by simp at z ⊢; exact .inr z)
theorem meth_sem {m:Str} {k n:Nat} {cs:List Nat} {F:Nat->List D->Option Ret} (M:MCal X.prog X.w X.K X.mg X.base m k n cs F) {ta:TE} {t:TA} {fo:FE} {g:FA}
  (hfo:∀ H₀ H O σ ds hd d Q,Ok X.K H₀ H O σ ds hd->fo ds=some d->(∀ v H',Same H H'->Rep X.K H' O v d->Q v H')->ta σ H Q)
  (hfg:∀ H₀ H O σ ds hd l Q,Ok X.K H₀ H O σ ds hd->g ds=some l->(∀ vs H',Same H H'->Reps X.K H' jE vs l->Q vs H')->t σ H Q)
  {H₀ H:Hp} {O:Addr->Prop} {σ : L2.St} {ds:List Sl} {hd:Hold} {x:D} {l:List D} {r:Ret} {Q:VK} (o:Ok X.K H₀ H O σ ds hd) (h1:fo ds=some x) (h2:g ds=some l) (h3:methR n cs F x l=some r)
  (q:∀ v H1 H',Same H H1->Same H1 H'->RetOk X.K H1 H' v r->Q v H'):tMethD X m k ta t σ H Q:=by
 refine hfo H₀ H O σ ds hd x _ o h1 fun v H1 s1 r1=>?_
 cases x with
 | ins c es =>
   simp only [methR] at h3
   split at h3
   · rename_i hc
     cases r1 with
     | @ins a C dx _ kvs _ cc nn ha ek rr =>
       obtain ⟨f,fd,ps,cl,hm,Fn,hb⟩:=M.of c hc.1 C cc
       refine ⟨a,C,dx,kvs,f,fd,ps,_,rfl,ha,jI (by rw [ek]; exact M.no c hc.1),cl,hm,Fn,hb,?_⟩
       refine hfg H₀ H1 O σ ds hd l _ (o.mono s1) h2 fun vs H2 s2 r2=>?_
       have hl:=r2.length
       have r1':Rep X.K H2 jE (.ref a) (.ins c es):=(Rep.ins cc (fun z=>z.elim) (s2 _ _ ha) ek ((rr.mono s2).less fun _ z=>z.elim))
       exact ⟨by simp only [List.length_cons]; omega,_,r,.cons r1' r2,h3,fun v H' s' ro=>q v H2 H' (s1.trans s2) s' ro⟩
   · cases h3
 | _=>simp [methR] at h3
section
variable {m:Str} {k j n:Nat} {cs:List Nat} {F:Nat->List D->Option Ret} {o e:Expr} {es:List Expr} {apos pos:Pos} {fo:FE} {g:FA}
theorem vL {pl:Sem Bool} (M:MCal X.prog X.w X.K X.mg X.base m k n cs F) (hr:Room j X.A) (ho:PV X o fo) (ha:PAn X (e::es) g) (hj:k<=j:=by decide)
  (hst:starEach (e::es) X.env=(false,eval e X.env)::starEach es X.env:=by rfl) (hpl:(backTo pos (starEach es X.env)).any (·.1)=false:=by rfl)
  (ht:eval (.Call (.Attribute o m apos) (e::es) [] pos) X.env=(do
    let ov <- eval o X.env
    standAt apos.atName
    let (f,first) <- holding [ov] (getMethod ov m pl)
    callWith pos f first (backTo pos (starEach (e::es) X.env)) (backToKw pos (keywordEach [] X.env))):=by rfl):PV X (.Call (.Attribute o m apos) (e::es) [] pos) (methV n cs F fo g):=by
 obtain ⟨ta,pa,hfo⟩:=ho
 obtain ⟨t,pt,hfg⟩:=ha
 refine ⟨_,kE (pl:=pl) (k:=k) pa (hr.mono hj) pt hst hpl ht,fun H₀ H O σ ds hd d Q o e q=>?_⟩
 unfold methV at e
 obtain ⟨x,h1,e⟩:=bnd e
 obtain ⟨l,h2,e⟩:=bnd e
 obtain ⟨r,h3,e⟩:=bnd e
 refine meth_sem M hfo hfg o h1 h2 h3 fun v H1 H' s1 s' ro=>q v H' (s1.trans s') ?_
 exact retV_ok ro e fun a ha=>(o.mono s1).old ha
theorem pvf_meth {pl:Sem Bool} (M:MCal X.prog X.w X.K X.mg X.base m k n cs F) (hr:Room j X.A) (ho:PV X o fo) (ha:PAn X (e::es) g) (hj:k<=j:=by decide)
  (hst:starEach (e::es) X.env=(false,eval e X.env)::starEach es X.env:=by rfl) (hpl:(backTo pos (starEach es X.env)).any (·.1)=false:=by rfl)
  (ht:eval (.Call (.Attribute o m apos) (e::es) [] pos) X.env=(do
    let ov <- eval o X.env
    standAt apos.atName
    let (f,first) <- holding [ov] (getMethod ov m pl)
    callWith pos f first (backTo pos (starEach (e::es) X.env)) (backToKw pos (keywordEach [] X.env))):=by rfl):PVf X (.Call (.Attribute o m apos) (e::es) [] pos) (methF n cs F fo g):=by
 obtain ⟨ta,pa,hfo⟩:=ho
 obtain ⟨t,pt,hfg⟩:=ha
 refine ⟨_,kE (pl:=pl) (k:=k) pa (hr.mono hj) pt hst hpl ht,fun H₀ H O σ ds hd d Q o e q=>?_⟩
 unfold methF at e
 obtain ⟨x,h1,e⟩:=bnd e
 obtain ⟨l,h2,e⟩:=bnd e
 obtain ⟨r,h3,e⟩:=bnd e
 refine meth_sem M hfo hfg o h1 h2 h3 fun v H1 H' s1 s' ro=>?_
 obtain ⟨a,xs,rfl,h4,h5,h6⟩:=retF_ok ro e fun a ha=>(o.mono s1).old ha
 exact q a xs H' (s1.trans s') (s1.free h4) h5 h6
end
end
noncomputable def eH:Hp:=fun _=>none
def Keepx (x:Addr) (H H':Hp):Prop:=∀ b o,b≠x->H b=some o->H' b=some o
theorem Keepx.trans {x:Addr} {H H1 H2:Hp} (a:Keepx x H H1) (b:Keepx x H1 H2):Keepx x H H2:=fun c o n e=>b c o n (a c o n e)
section
variable {K:Frag} {H H':Hp} {O:Addr->Prop} {x:Addr}
end
theorem putF_new {f:Str} {v:V} : ∀ {kvs:List (Str×V)},f ∉ kvs.map (·.1)->putF f v kvs=kvs++[(f,v)]
 | [],_=>rfl
 | (g, x) :: r, h => by
   have hg : ¬ g=f:=fun z=>h (by simp [z])
   rw [show putF f v ((g,x)::r)=(if g=f then (g,v)::r else (g,x)::putF f v r) from rfl,if_neg hg,putF_new fun z=>h (by simp at z ⊢; exact .inr z)]
   rfl
section
variable {X:Cx}
end
theorem xM {n:Nat} {ds:List D} {i:Nat} {s:Sl} (e:(argsN n ds)[i]? = some s):s = .no \/ ∃ j d,i=j+1/\ds[j]? = some d/\s = .v d:=by
 unfold argsN at e
 cases i with
 | zero=>simp at e; exact .inl e.symm
 | succ j =>
   rw [List.getElem?_cons_succ] at e
   by_cases hj:j < ds.length
   · rw [List.getElem?_append_left (by simpa using hj), List.getElem?_map] at e
     cases h:ds[j]? with
     | none=>rw [h] at e; cases e
     | some d=>rw [h] at e; cases e; exact .inr ⟨j,d,rfl,h,rfl⟩
   · rw [List.getElem?_append_right (by simpa using hj), List.getElem?_replicate] at e
     split at e
     · cases e; exact .inl rfl
     · cases e
section
variable {X:Cx} {t k j n:Nat} {G:List D->Option (List D)} {x:Str} {p pos:Pos} {e:Expr} {es:List Expr} {g:FA}
end
theorem kit_self {K:Frag} (C:Addr):PySem.W.kitOne K (.ref C) (.ref C)=some true:=by unfold PySem.W.kitOne; rw [if_pos (by simp)]
theorem kit_no {K:Frag} {C C':Addr} (u:PySem.W.isClsIn K C=true) (y:PySem.W.typeIn K (.ref C)=some (.type "type")) (s:PySem.W.subIn K (.ref C') (.ref C)=some false) (n:(Value.ref C' == Value.ref C)=false):PySem.W.kitOne K (.ref C') (.ref C)=some false:=by
 unfold PySem.W.kitOne
 rw [n,if_neg (by decide)]
 unfold PySem.W.kitCls
 simp only
 rw [show (PySem.W.clsIn K C).isSome=true from u,y,if_pos (by simp),s]
section
variable {X:Cx}
end
section
variable {X:Cx}
theorem wP {x:Str} {i:Int} {pos:Pos} (hm:∃ t,X.mg x=some (.int i t)) (hg:Gl X x:=by rfl) (hd:(x == ("__debug__" : Str))=false:=by decide):PV X (.Name x pos) (zA (.int i)) :=
 let ⟨t,h⟩:=hm
 pv_glob (v:=.int i) hg h ⟨t,rfl⟩ (fun _ _=>.int i) hd
theorem pv_globS {x:Str} {i:Str} {pos:Pos} (hm:∃ t,X.mg x=some (.str i t)) (hg:Gl X x:=by rfl) (hd:(x == ("__debug__" : Str))=false:=by decide):PV X (.Name x pos) (zA (.str i)) :=
 let ⟨t,h⟩:=hm
 pv_glob (v:=.str i) hg h ⟨t,rfl⟩ (fun _ _=>.str i) hd
end
noncomputable def spA (K:Frag) (n:Nat) (F:List D->Option Ret):Sp:=fun vs H Q _=>vs.length=n/\∃ (B:Addr->Prop) (ds:List D) (d:D),(∀ a,B a->∃ u:MutHO,H a=some u.1)/\Reps K H B vs ds/\F ds=some (.any d)/\∀ v H',Same H H'->Rep K H' B v d->Q v H'
section
variable {X:Cx}
theorem wJ {e:Expr} {pos:Pos} {f:FE} (he:PV X e f):PSv X (.Return (some e) pos) (retAG f):=by
 obtain ⟨t,ht,hg⟩:=he
 refine ⟨_,ps_ret ht,fun H₀ H O σ ds hd out E o e h=>?_⟩
 unfold retAG at e
 obtain ⟨d,h1,rfl⟩:=mpd e
 exact hg H₀ H O σ ds hd d _ o h1 fun v H' s r=>h _ _ (o.same.trans s) (r.less fun _ z=>z.elim) fun B hB=>r.less fun a ha=>(o.hold _ hB a ha).1
end
theorem ok_startA {K:Frag} {H:Hp} {N:List Str} {vs:List V} {ds:List D} {B:Addr->Prop} (hB:∀ a,B a->∃ u:MutHO,H a=some u.1) (r:Reps K H B vs ds):Ok K H H B (L2.start N vs) (args N.length ds) [.base B]:=by
 have o:=kD (N:=N) (r.less (O':=jE) fun _ z=>z.elim)
 refine ⟨o.same,o.fresh,hB,o.len,fun i s e=>?_,o.apart,fun p hp=>?_,.no (args_ob _ _)⟩
 · unfold args at e
   unfold L2.start
   have hl:=r.length
   by_cases hi:i < ds.length
   · rw [List.getElem?_append_left (by simpa using hi), List.getElem?_map] at e
     rw [List.getElem?_append_left (by simpa [hl] using hi),List.getElem?_map]
     obtain ⟨d,h,rfl⟩:=mpd e
     obtain ⟨v,h1,h2⟩:=r.get h
     rw [h1]
     exact jN h2
   · rw [List.getElem?_append_right (by simpa using hi), List.getElem?_replicate] at e
     split at e
     · cases e; exact qU
     · cases e
 · simp only [List.mem_singleton] at hp
   subst hp
   exact fun a ha=>⟨ha,by obtain ⟨xs,e⟩:=hB a ha; rw [e]; simp⟩
theorem fun_okA {P:Program} {w:World} {K:Frag} {mg:Str->Option Value} {base:Heap} {x qual:Str} {st:Stmt} {f:Addr} {fd:FuncData} {N ps:List Str} {k n:Nat} {F:List D->Option Ret} (Fn:Fun K x qual st f fd) (S:FnScope N ps (zH st))
  {g:FS} (hbody:∀ (cdv:Value) (A:Around) (outer:List Env) (s:Shared) (H:Hp) (E:XK),Room k (A.deeper (envOfC qual (zH st) s.heap.objs.size f cdv))->PSsv (cxOf CX0 P w K mg base N qual (zH st) f cdv A outer s H E).nox (qE st) g)
  (hn:ps.length=n) (hg:∀ ds r,ds.length=ps.length->F ds=some r->Does g N.length ds r):FnOk P w K mg base CX0 (k+1) f fd ps (spA K n F):=by
 refine Fn.ok S (fun vs H Q E h=>by rw [hn]; exact h.1) (fun cdv A outer s H vs Q E hr h=>?_)
 obtain ⟨hl,B,ds,d,hB,rv,e,q⟩:=h
 obtain ⟨t,ht,hf⟩:=hbody cdv A outer s H E hr
 refine ⟨t,ht,?_⟩
 have o:=ok_startA (N:=N) hB rv
 rcases hg ds _ (by rw [<- rv.length,hn]; exact hl) e with e' | ⟨z,_⟩
 · exact hf H H B _ _ [.base B] _ _ o e' (fun v H' s _ r=>q v H' s (r B (by simp)))
 · cases z
structure CalA (P:Program) (w:World) (K:Frag) (mg:Str->Option Value) (base:Heap) (x:Str) (k n:Nat) (F:List D->Option Ret):Prop where
 ex:∃ (f:Addr) (fd:FuncData) (ps:List Str),FnOk P w K mg base CX0 k f fd ps (spA K n F)/\Binds K fd ps []/\PySem.W.keepIn K (.ref f)=true/\mg x=some (.ref f)
section
variable {X:Cx} {k j n:Nat} {F:List D->Option Ret} {x:Str} {p pos:Pos} {e:Expr} {es:List Expr} {g:FA}
theorem pv_callA (C:CalA X.prog X.w X.K X.mg X.base x k n F) (hr:Room j X.A) (ha:PAs X (e::es) g) (hj:k<=j:=by decide)
  (hg:Gl X x:=by rfl) (hdb:(x == ("__debug__" : Str))=false:=by decide) (he:starEach (e::es) X.env=(false,eval e X.env)::starEach es X.env:=by rfl) (hpl:(backTo pos (starEach es X.env)).any (·.1)=false:=by rfl) :
  PV X (.Call (.Name x p) (e::es) [] pos) (callA n F g):=by
 obtain ⟨f,fd,ps,Fn,hb,hk,hm⟩:=C.ex
 obtain ⟨t,ht,hf⟩:=ha
 refine ⟨_,wV (CX:=CX0) (E:=E0) Fn (hr.mono hj) hg hm hk hb .nil pass0 ht hdb he hpl,fun H₀ H O σ ds hd d Q o e q=>?_⟩
 unfold callA at e
 obtain ⟨l,h,e⟩:=bnd e
 split at e
 · rename_i hln
   obtain ⟨r,h2,e⟩:=bnd e
   cases r with
   | any d' =>
     cases e
     refine hf H₀ H O σ ds hd l _ o h fun vs H1 s1 r1=>?_
     have hl:=r1.length
     exact ⟨by simp only [List.append_nil]; omega,O,l,_,(o.mono s1).dom,by simpa using r1,h2,fun v H' s' ro=>q v H' (s1.trans s') ro⟩
   | val _=>cases e
   | obj _=>cases e
   | fresh _=>cases e
 · cases e
end
end FL
namespace PySem
open Sem (wp)
section
variable {prog:Program} {w:World} {A:Around} {R:Result->Shared->Prop} {I:Addr} {fp wr:List Addr} {n:Nat} {P:Nat->Value->Prop} {St:Nat->Heap->Prop} {kw:List (Str×Value)}
end
section
variable {prog:Program} {w:World} {A:Around} {E:Value->Shared->Prop} {s:Shared}
end
end PySem
namespace FL
open PySem PySem.Spec PyProof.Rows L2
section
variable {X:Cx}
end
open PySem.Calls PySem.Builtin PySem.Builtin.ObjectAttr PySem.Builtin.Getset_descriptor
open PySem.W (Looks looks_findIn looks_mroIn findIn mroIn specialIn takesIn KitX)
structure XIn (K:Frag) (C:Addr):Prop where
 ga:findIn K (.ref C) "__getattribute__" = some (some (.builtin "BaseException.__getattribute__"))
 gt:findIn K (.ref C) "__getattr__" = some none
 cl:findIn K (.ref C) "__class__" = some (some (.builtin "object.__class__"))
 ob:mroIn K C (.type "object")=some true
 be:mroIn K C (.type "BaseException")=some true
section
variable {prog:Program} {w:World} {A:Around} {E:Value->Shared->Prop} {h:Heap} {g:Array GenState} {d:Drawn} {t:Nat} {os:OsState} {a C:Addr} {o:Obj} {K:Frag}
theorem vZ {M:Model} (hx:h.get? a=some o) (hc:o.cls = .ref C):Looks M h (typeOf (.ref a)) (.ref C):=hc ▸ (PySem.W.Looks.ld hx).andThen .now
theorem x_class_get {R:Result->Shared->Prop} {tp:Value} (X:K.In h) (hx:h.get? a=some o) (hc:o.cls = .ref C) (I:XIn K C) (hq:R (.ok (.ret (.ref C))) ⟨h,g,d,t,os⟩) :
  codeAny (model prog w) A (.call (.builtin "getset_descriptor.__get__") ⟨[.builtin "object.__class__",.ref a,tp],[]⟩) R ⟨h,g,d,t,os⟩:=by
 have L0:=vZ (M:=model prog w) hx hc
 have L1:=looks_mroIn (M:=model prog w) X I.ob
 refine codeAny_call_builtin PySem.W.KF.slot_gs.plain PySem.W.KF.entry_gs (PySem.W.KF.slot_gs.check _ _ _ _ _ _ _ _ PySem.W.KF.type_class (PySem.W.KF.args_gs _ _ _) ?_)
 unfold Builtin.«getset_descriptor.__get__» descrGet
 rw [PySem.W.dga_obj]
 refine wpAny_bind (wpAny_pure ?_)
 unfold descrGetter descrCheckInstance descrNameAndClass isInstance
 simp only [PySem.W.KF.owner_class]
 repeat lk
 refine ⟨Code.quiet_builtin _ (by decide +kernel),codeAny_builtin PySem.W.KF.entry_class ?_⟩
 unfold Builtin.«object.__class__» shownTypeOf
 repeat lk
 exact hq
theorem x_check_ga {M:Model} {nameV:Value} {Q:Unit->Shared->Prop} (X:K.In h) (hx:h.get? a=some o) (hc:o.cls = .ref C) (I:XIn K C) (hq:Q () ⟨h,g,d,t,os⟩) :
  wpAny M A (checkBuiltinCall "BaseException.__getattribute__" ⟨[.ref a,nameV],[]⟩) Q E ⟨h,g,d,t,os⟩:=by
 have hk:builtinKind "BaseException.__getattribute__" = some .slot:=by decide +kernel
 have hsplit:splitId "BaseException.__getattribute__" = some ("BaseException","__getattribute__"):=by decide +kernel
 have L0:=vZ (M:=M) hx hc
 have L1:=looks_mroIn (M:=M) X I.be
 have ha:=F.args_bexc_ga (.ref a) nameV
 simp only [checkBuiltinCall,hk,hsplit]
 refine wpAny_bind ?_
 · unfold isInstance
   repeat (first | with_reducible refine L0.at ?_ | with_reducible refine L1.at ?_ | wp_step)
   exact hq
theorem x_entry {tk:Tok} {Q:Fin->Shared->Prop} (X:K.In h) (hx:h.get? a=some o) (hc:o.cls = .ref C) (I:XIn K C) (hq:Q (.done (.ret (.ref C))) ⟨h,g,d,t,os⟩) :
  wpAny (model prog w) A (Builtin.«object.__getattribute__» ⟨[.ref a,.str "__class__" tk],[]⟩) Q E ⟨h,g,d,t,os⟩:=by
 have L0:=vZ (M:=model prog w) hx hc
 have L1:=looks_findIn (M:=model prog w) X I.cl
 have hT5:(⟨h,g,d,t,os⟩:Shared).TypeIs (.builtin "object.__class__") "getset_descriptor":=F.typeOf_object_class
 have f5:=F.typeOf_object_class
 have f6:=F.slot_gs_get.lookup
 have f7:=F.slot_gs_set.lookup
 repeat (any_goals (first | assumption | with_reducible refine L0.at ?_ | with_reducible refine L1.at ?_ | wp_step))
 refine x_class_get X hx hc I ?_
 repeat (any_goals (first | assumption | wp_step))
theorem x_call {tk:Tok} {R:Result->Shared->Prop} (X:K.In h) (hx:h.get? a=some o) (hc:o.cls = .ref C) (I:XIn K C) (hq:R (.ok (.ret (.ref C))) ⟨h,g,d,t,os⟩) :
  codeAny (model prog w) A (.call (.builtin "BaseException.__getattribute__") ⟨[.ref a,.str "__class__" tk],[]⟩) R ⟨h,g,d,t,os⟩ :=
 codeAny_call_builtin F.attr_ValueError.ga.plain F.entry_bexc_ga (x_check_ga X hx hc I (x_entry X hx hc I hq))
theorem x_by {tk:Tok} {fill expr:Bool} {Q:Value->Shared->Prop} (X:K.In h) (hx:h.get? a=some o) (hc:o.cls = .ref C) (I:XIn K C) (hq:Q (.ref C) ⟨h,g,d,t,os⟩) :
  wpAny (model prog w) A (getAttrBy (.ref a) (.str "__class__" tk) fill expr) Q E ⟨h,g,d,t,os⟩:=by
 have L0:=vZ (M:=model prog w) hx hc
 have L1:=looks_findIn (M:=model prog w) X I.ga
 have L2:=looks_findIn (M:=model prog w) X I.gt
 have f3:=F.attr_ValueError.ga.bind (.ref a)
 have hx0:(expr && onTheHeap (Value.builtin "BaseException.__getattribute__"))=false:=by cases expr <;> rfl
 have hx2:(Value.builtin "BaseException.__getattribute__" == Value.builtin "object.__getattribute__")=false:=by decide +kernel
 have hx1:(onTheHeap (Value.ref C) && Value.builtin "BaseException.__getattribute__" == Value.builtin "object.__getattribute__")=false:=by rw [hx2]; rfl
 repeat (any_goals (first | assumption | with_reducible refine L0.at ?_ | with_reducible refine L1.at ?_ | with_reducible refine L2.at ?_ | wp_step))
 refine x_call X hx hc I ?_
 repeat (any_goals (first | assumption | wp_step))
theorem x_attr {Q:Option Value->Shared->Prop} (X:K.In h) (hx:h.get? a=some o) (hc:o.cls = .ref C) (I:XIn K C) (hq:Q (some (.ref C)) ⟨h,g,d,t+1,os⟩) :
  wpAny (model prog w) A (getAttr? (.ref a) "__class__") Q E ⟨h,g,d,t,os⟩:=by
 unfold getAttr? getAttrBy?
 repeat (any_goals (first | assumption | with_reducible apply x_by X hx hc I | wp_step))
def IsX (a C:Addr) (h:Heap):Prop:=∃ o,h.get? a=some o/\o.cls = .ref C
theorem kitx_exc (I:XIn K C):KitX K (.ref a) (.ref C) (IsX a C) where
 ty:=fun _ _ _ ⟨o,h1,h2⟩=>vZ h1 h2
 it:=fun _ _ X _=>by
  have hm:=I.ob
  unfold mroIn at hm
  obtain ⟨cd,hcD,hm⟩:=bnd hm
  unfold PySem.W.clsIn at hcD
  split at hcD
  · rename_i c' d' cd' sl' ho
    intro A' Q' E' s' k q
    unfold isType loadHead
    exact wpAny_bind (wpAny_loadPart (k _ _ (X _ _ ho)) (wpAny_pure q))
  · cases hcD
 ne:=fun h tp dd its n sl X htp=>by
  have hm:=I.ob
  unfold mroIn at hm
  obtain ⟨cd,hcD,hm⟩:=bnd hm
  refine Bool.eq_false_iff.mpr fun q=>?_
  have e:C=tp:=Value.ref.inj (beq_iff_eq.mp q)
  subst e
  unfold PySem.W.clsIn at hcD
  split at hcD
  · rename_i c' d' cd' sl' ho
    have z:=(X _ _ ho).symm.trans htp
    cases z
  · cases hcD
 ca:=fun {prog w A E Q s} X p k=>by
  obtain ⟨o,h1,h2⟩:=p
  obtain ⟨h,g,d,t,os⟩:=s
  exact x_attr X h1 h2 I k
end
end FL
namespace FL
open PySem PySem.Spec PyProof.Rows L2
def Fl2 (B:Heap) (l:List Env) (e:Addr) (cls a0 fl:Value) (h:Heap):Prop:=B.StaysIn h/\B.get? e=none/\h.FunFrames B l ∧
 ∃ oe vs T oT ts,h.get? e=some oe/\(oe.cls=cls/\vs[0]? = some a0/\vs[2]? = some .none)/\oe.data = .fields vs/\vs[1]? = some (.ref T)/\B.get? T=none/\T≠e/\h.get? T=some oT/\oT.data = .fields ts/\ts[3]? = some fl
section
variable {M:Model} {A:Around} {E:Value->Shared->Prop} {s:Shared} {B:Heap} {l outer:List Env} {env:Env} {e L:Addr} {cls a0 fl:Value} {oe:Obj} {vs:Array Value} {Q:Unit->Shared->Prop}
theorem set2 {v:Option Addr} (R:Fl2 B l e cls a0 fl s.heap) (h:∀ h',Fl2 B l e cls a0 (v.elim .none fun f=>rawInt f) h'->s.heap.UpToSlots h'->Q () { s with heap:=h' }):wpAny M A (setFlight (.ref e) v) Q E s:=by
 obtain ⟨r1,r2,r3,oe,vs,T,oT,ts,q1,q2,q3,q4,q5,q6,q7,q8,q9⟩:=R
 have hz:3 < ts.size:=(Array.getElem?_eq_some_iff.mp q9).1
 have ot:∀ b,b≠T->(s.heap.update T (Obj.mapFields (·.setIfInBounds 3 (v.elim .none fun f=>rawInt f)))).get? b=s.heap.get? b:=fun b hb=>Heap.get?_update_other _ _ (Ne.symm hb)
 have nr:∀ b o,s.heap.get? b=some o->(∀ vs,o.data≠.fields vs)->b≠T:=fun b o hb hn z=>by
  rw [z,q7] at hb
  cases hb
  exact hn _ q8
 unfold setFlight
 refine wpAny_bind (wpAny_field q1 q3 q4 ?_)
 rw [if_pos (by simp)]
 refine wpAny_setField q7 q8 hz (h _ ⟨fun b o hb=>(ot b fun z=>?_).trans (r1 b o hb),r2,r3.of_keeps fun b o hb hn=>⟨o,(ot b (nr b o hb hn)).trans hb,rfl⟩,?_⟩ fun b o hb hn=>⟨o.slots,(ot b (nr b o hb hn)).trans hb⟩)
 · rw [z,q5] at hb; cases hb
 · exact ⟨oe,vs,T,_,_,(ot e (Ne.symm q6)).trans q1,q2,q3,q4,q5,q6,Heap.get?_update_self _ q7 (Obj.isFreed_of_fields (Obj.data_mapFields q8 _)),Obj.data_mapFields q8 _,by simp [hz]⟩
theorem entry2 {head:Value} {had:Bool} (hfr:A.frames=some (env::outer)) (hl:s.heap.FunFrames B (env::outer)) (hf:env.frame=some L) (he:s.heap.get? e=some oe) (hk:B.StaysIn s.heap) (hn:B.get? e=none) (hd:oe.data = .fields vs) (hc:oe.cls=cls/\vs[0]? = some a0/\vs[2]? = some .none)
  (h:∀ h',Fl2 B (env::outer) e cls a0 (rawInt L) h'->s.heap.UpToSlots h'->Q () { s with heap:=h' }) :
  wpAny M A (do let a <- frameOf env; let pl <- entryPlaceOf L had; let b <- EntryCells.newEntry head a .none (rawInt L) .none pl; setField (.ref e) 1 b) Q E s:=by
 have ne:e ∉ (env::outer).filterMap (·.frame):=fun hm=>by
  obtain ⟨_,o,ho,hx⟩:=hl.mem hm
  rw [he] at ho
  cases ho
  exact hx vs hd
 have hsz:1 < vs.size:=by have:=(Array.getElem?_eq_some_iff.mp hc.2.2).1; omega
 refine wpAny_bind (wpAny_frameOf_fun hfr hl hf fun h1 s1=>wpAny_bind (wpAny_entryPlaceOf fun pl hpl=>?_))
 unfold EntryCells.newEntry newFields
 refine wpAny_bind (wpAny_newObj_type ?_ (hpl.sizeOk5 _ _ _ _ _))
 have e1:h1.get? e=some oe:=(s1.2.1 e ne).trans he
 have k1:B.StaysIn h1:=fun b o q=>(s1.2.1 b fun hm=>by rw [(hl.mem hm).1] at q; cases q).trans (hk b o q)
 have te:h1.objs.size≠e:=Nat.ne_of_gt (Heap.lt_size e1)
 have ot:∀ (O:Obj) b o,b≠e->h1.get? b=some o->((h1.push O).update e (Obj.mapFields (·.setIfInBounds 1 (Value.ref h1.objs.size)))).get? b=some o:=fun O b o hb q=>(Heap.get?_update_other _ _ (Ne.symm hb)).trans (Heap.get?_push_of_some _ q)
 have nr:∀ b o,s.heap.get? b=some o->(∀ vs,o.data≠.fields vs)->b≠e:=fun b o q hx z=>by
  rw [z,he] at q
  cases q
  exact hx vs hd
 have d3:=Obj.data_mapFields hd (·.setIfInBounds 1 (Value.ref h1.objs.size))
 refine wpAny_setField (Heap.get?_push_of_some _ e1) hd hsz (h _ ⟨fun b o q=>ot _ b o (fun z=>by rw [z,hn] at q; cases q) (k1 b o q),hn,hl.of_keeps fun b o q hx=>?_,?_⟩ fun b o q hx=>?_)
 · obtain ⟨sl, z⟩ := s1.2.2 b o q
   exact ⟨_,ot _ b _ (nr b o q hx) z,rfl⟩
 · refine ⟨_, _, h1.objs.size, _, _, Heap.get?_update_self _ (Heap.get?_push_of_some _ e1) (Obj.isFreed_of_fields d3), ⟨(Obj.cls_mapFields _ _).trans hc.1, ?_, ?_⟩, d3, by simp [hsz], k1.fresh, te, (Heap.get?_update_other _ _ (Ne.symm te)).trans (Heap.get?_push_size _ rfl), rfl, by first | (simp; done) | (rcases hpl with rfl | ⟨_, _, _, _, _, _, _, rfl⟩ <;> simp)⟩
   · rw [Array.getElem?_setIfInBounds_ne (by decide)]; exact hc.2.1
   · rw [Array.getElem?_setIfInBounds_ne (by decide)]; exact hc.2.2
 · obtain ⟨sl, z⟩ := s1.2.2 b o q
   exact ⟨sl,ot _ b _ (nr b o q hx) z⟩
theorem note2 (hfr:A.frames=some (env::outer)) (hf:env.frame=some L) (R:Fl2 B (env::outer) e cls a0 .none s.heap) (h:∀ h',Fl2 B (env::outer) e cls a0 (rawInt L) h'->s.heap.UpToSlots h'->Q () { s with heap:=h' }):wpAny M A (noteFrame (.ref e) env) Q E s:=by
 obtain ⟨r1,r2,r3,oe,vs,T,oT,ts,q1,q2,q3,q4,q5,q6,q7,q8,q9⟩:=R
 have ot:∀ b,b≠T->(s.heap.update T (Obj.mapFields (·.setIfInBounds 3 Value.none))).get? b=s.heap.get? b:=fun b hb=>Heap.get?_update_other _ _ (Ne.symm hb)
 have nr:∀ b o,s.heap.get? b=some o->(∀ vs,o.data≠.fields vs)->b≠T:=fun b o hb hn z=>by
  rw [z,q7] at hb
  cases hb
  exact hn _ q8
 unfold noteFrame
 simp only [hf]
 refine wpAny_bind (wpAny_field q1 q3 q4 ?_)
 rw [if_pos (by simp)]
 refine wpAny_bind (wpAny_field q7 q8 q9 ?_)
 rw [if_neg (by simp [rawInt])]
 refine wpAny_bind (wpAny_setField q7 q8 (Array.getElem?_eq_some_iff.mp q9).1 ?_)
 exact entry2 hfr (r3.of_keeps fun b o hb hn=>⟨o,(ot b (nr b o hb hn)).trans hb,rfl⟩) hf ((ot e (Ne.symm q6)).trans q1) (fun b o hb=>(ot b fun z=>by rw [z,q5] at hb; cases hb).trans (r1 b o hb)) r2 q3 q2 fun h' f u=>h h' f fun b o hb hn=>u b o ((ot b (nr b o hb hn)).trans hb) hn
theorem Fl2.tail (R:Fl2 B (env::outer) e cls a0 fl s.heap):Fl2 B outer e cls a0 fl s.heap:=let ⟨k1,k2,⟨_,_,k3⟩,k4⟩:=R; ⟨k1,k2,k3,k4⟩
theorem leave2 (hfr:A.frames=some (env::outer)) (hf:env.frame=some L) (R:Fl2 B (env::outer) e cls a0 .none s.heap) (h:∀ h',Fl2 B outer e cls a0 .none h'->s.heap.UpToSlots h'->Q () { s with heap:=h' }):wpAny M A (leaving env (.ref e)) Q E s:=by
 unfold leaving
 refine wpAny_bind (note2 hfr hf R fun h1 f1 u1=>set2 (s:={ s with heap:=h1 }) f1 fun h2 f2 u2=>h h2 ?_ (u1.trans u2))
 obtain ⟨k1,k2,⟨_,_,k3⟩,k4⟩:=f2
 exact ⟨k1,k2,k3,k4⟩
theorem made2 {h:Heap} {args:List Value} (hfr:A.frames=some (env::outer)) (hf:env.frame=some L) (hk:B.StaysIn h) (hl:h.FunFrames B (env::outer)) (hx:Heap.MadeExcOf h s.heap e cls args)
  (hQ:∀ h' t,Fl2 B outer e cls (.ref t) .none h'->s.heap.UpToSlots h'->Q () { s with heap:=h' }):wpAny M A (leaving env (.ref e)) Q E s:=by
 obtain ⟨t,he,_,_⟩:=hx.there
 have hn:B.get? e=none:=by
  cases q:B.get? e with
  | none=>rfl
  | some o=>have:=hk e o q; rw [hx.new] at this; cases this
 unfold leaving noteFrame
 simp only [hf]
 refine wpAny_bind (wpAny_bind (wpAny_field he rfl (x:=Value.none) rfl ?_))
 rw [if_neg (by decide)]
 refine entry2 (a0:=.ref t) hfr (hl.of_keeps fun b o hb _=>⟨o,hx.keeps b o hb,rfl⟩) hf he (fun b o hb=>hx.keeps b o (hk b o hb)) hn rfl ⟨rfl,rfl,rfl⟩ fun h1 f1 u1=>set2 (s:={ s with heap:=h1 }) f1 fun h2 f2 u2=>hQ h2 t ?_ (u1.trans u2)
 obtain ⟨k1,k2,⟨_,_,k3⟩,k4⟩:=f2
 exact ⟨k1,k2,k3,k4⟩
end
def HdA (A:Around) (H:Hp):Prop:=∃ ea oe u vs,A.handled=some (.ref ea)/\H ea=some (.frz oe u)/\oe.data = .fields vs/\vs[2]? = some .none
def HdP (X:Cx):Prop:=HdA X.A X.H₀
open PySem.W (hideAll hideAll_get of_hideAll hideAll_none funFrames_hide excIn tail_of_in nsMap_none_of_in isNs_of_in)
theorem obj_get {P:Program} {w:World} {H:Hp} {h:Heap} {a:Addr} {o:HO} (x:ObjOk P w H h a o):∃ u,h.get? a=some u:=by
 cases o with
 | lst xs=>obtain ⟨_,_,_,_,e⟩:=x; exact ⟨_,e⟩
 | tup xs=>obtain ⟨_,_,_,_,e,_⟩:=x; exact ⟨_,e⟩
 | dK kvs=>obtain ⟨_,_,_,_,o,_,_,e,_⟩:=x; exact ⟨_,e⟩
 | dT kvs=>obtain ⟨_,_,_,_,o,_,_,e,_⟩:=x; exact ⟨_,e⟩
 | set S n=>obtain ⟨o,_,_,_,e,_⟩:=x; exact ⟨_,e⟩
 | ins C dx fs=>obtain ⟨_,_,_,e,_⟩:=x; exact ⟨_,e⟩
 | own y=>obtain ⟨_,e⟩:=x; exact ⟨_,e⟩
 | xd fs=>obtain ⟨_,⟨_,_,_,e,_⟩,_⟩:=x; exact ⟨_,e⟩
 | rng lo hi=>obtain ⟨_,_,_,e⟩:=x; exact ⟨_,e⟩
 | frz ob u=>obtain ⟨e,_⟩:=x; exact ⟨_,e⟩
 | tbl ps=>obtain ⟨_,e,_⟩:=x; exact ⟨_,e⟩
 | met f y=>exact ⟨_,(show h.get? a=some _ from x)⟩
 | ext φ=>obtain ⟨_,⟨_,e⟩,_⟩:=x; exact ⟨_,e⟩
structure Thrown (P:Program) (w:World) (outer:List Env) (H:Hp) (s:Shared) (cls:Value) (ea:Addr) (a0:Value) (B:Heap) (H':Hp) (h:Heap):Prop where
 fly:Fl2 B outer ea cls a0 .none h
 keep:∀ b o,s.heap.get? b=some o->H b=none->b ∉ frs outer->B.get? b=some o
 there:∀ b o,s.heap.get? b=some o->b ∉ frs outer->∃ o',B.get? b=some o'
 slot:∀ b o,s.heap.get? b=some o->b∈frs outer->∃ sl,h.get? b=some { o with slots:=sl }
 free:∀ b o,s.heap.get? b=some o->H b=none->H' b=none
 tups:∀ b xs,H b=some (.tup xs)->H' b=some (.tup xs)
 frzs:∀ b o u,H b=some (.frz o u)->H' b=some (.frz o u)
 tbls:∀ b ps,H b=some (.tbl ps)->H' b=some (.tbl ps)
 hok:L2.HOk P w H' B
section
variable {P:Program} {w:World} {outer:List Env} {H H':Hp} {s:Shared} {cls a0:Value} {ea:Addr} {B h h':Heap}
theorem Thrown.un (t:Thrown P w outer H s cls ea a0 B H' h):Un (frs outer) [] H H' s.heap h where
 keep:=fun b o e n hb _=>t.fly.1 b o (t.keep b o e n hb)
 slot:=fun b o e n hb _=>t.slot b o e hb
 free:=fun b o e n _=>t.free b o e n
 there:=fun b o e _=>by
  by_cases hb:b∈frs outer
  · obtain ⟨sl,q⟩:=t.slot b o e hb; exact ⟨_,q⟩
  · obtain ⟨o',q⟩:=t.there b o e hb; exact ⟨o',t.fly.1 b o' q⟩
 tups:=t.tups
 frzs:=t.frzs
 tbls:=t.tbls
theorem Thrown.hokh (t:Thrown P w outer H s cls ea a0 B H' h):L2.HOk P w H' h:=t.hok.kept t.fly.1
theorem Thrown.on (t:Thrown P w outer H s cls ea a0 B H' h) (f:Fl2 B outer ea cls a0 .none h') (u:h.UpToSlots h'):Thrown P w outer H s cls ea a0 B H' h' where
 fly:=f
 keep:=t.keep
 there:=t.there
 slot:=fun b o e hb=>by
  obtain ⟨sl,q⟩:=t.slot b o e hb
  obtain ⟨_,ob,ho,hd⟩:=t.fly.2.2.1.mem hb
  rw [q] at ho
  cases ho
  obtain ⟨sl',q'⟩:=u b _ q hd
  exact ⟨sl',q'⟩
 free:=t.free
 tups:=t.tups
 frzs:=t.frzs
 tbls:=t.tbls
 hok:=t.hok
theorem Thrown.no (t:Thrown P w outer H s cls ea a0 B H' h):H' ea=none:=by
 cases q:H' ea with
 | none=>rfl
 | some u =>
   obtain ⟨o,e⟩:=obj_get (t.hok _ _ q)
   rw [t.fly.2.1] at e; cases e
end
theorem hok_hidden {P:Program} {w:World} {H:Hp} {h:Heap} (x:L2.HOk P w H h) (l:List Addr) (hl:∀ b∈l,H b=none):L2.HOk P w H (hideAll h l):=fun a o e =>
 (x a o e).stay (fun b u hb q=>hideAll_get _ q fun z=>by
   rcases hb with rfl | hb
   · rw [hl _ z] at e; cases e
   · rw [hl _ z] at hb; cases hb) (fun _ q=>q) fun _ _ q=>q
noncomputable def CXM (P:Program) (w:World):CXT:=fun outer H s E e s'=>∃ ea cls a0 B H',e = .ref ea/\s'.os=s.os/\AllBare s'.gens/\Thrown P w outer H s cls ea a0 B H' s'.heap/\E cls none H'
def XeOk (X:Cx) (C:Addr) (σ : L2.St) (H:Hp):Prop:=∀ (pins:List (Addr×Obj)) (s:Shared) (h':Heap) (e:Addr) (as:List Value),Inv X pins σ H s->Heap.MadeExcOf s.heap h' e (.ref C) as->X.xe (.ref e) { s with heap:=h' }
theorem xe_raise {P:Program} {w:World} {K:Frag} {mg:Str->Option Value} {base:Heap} {N:List Str} {qual:Str} {scope:Scope} {f C:Addr} {cd:Value} {A:Around} {outer:List Env} {s:Shared} {H H':Hp} {E:XK} {σ : L2.St}
  (hE:E (.ref C) none H'):XeOk (cxOf (CXM P w) P w K mg base N qual scope f cd A outer s H E) C σ H':=by
 intro pins s1 h1 e as I hx
 have hfr:frs (envOfC qual scope s.heap.objs.size f cd::outer)=s.heap.objs.size::frs outer:=rfl
 have nm:∀ b o,s.heap.get? b=some o->b ∉ frs outer->b ∉ frs (envOfC qual scope s.heap.objs.size f cd::outer):=fun b o q n z=>by
  rw [hfr] at z
  rcases List.mem_cons.mp z with z | z
  · exact absurd (Heap.lt_size q) (by rw [z]; exact Nat.lt_irrefl _)
  · exact n z
 show wpAny _ _ (leaving _ _) _ _ _
 refine made2 (B:=hideAll s1.heap (frs (envOfC qual scope s.heap.objs.size f cd::outer))) (h:=s1.heap) I.ok.frames rfl (fun b o q=>of_hideAll _ q) (funFrames_hide I.stack fun env he b hb=>List.mem_filterMap.mpr ⟨env,he,hb⟩) hx fun h' t x1 x4=>?_
 refine ⟨e,.ref C,.ref t,_,H',rfl,I.os,I.bare,⟨x1,fun b o q n hb=>?_,fun b o q hb=>?_,fun b o q hb=>?_,fun b o q n=>I.base.free b o q n (by intro z; cases z),I.base.tups,I.base.frzs,I.base.tbls,?_⟩,hE⟩
 · exact hideAll_get _ (I.base.keep b o q n hb (by intro z; cases z)) (nm b o q hb)
 · obtain ⟨o', q'⟩ := I.base.there b o q (by intro z; cases z)
   exact ⟨o',hideAll_get _ q' (nm b o q hb)⟩
 · obtain ⟨sl, q'⟩ := I.base.slot b o q (I.ok.frf b hb) hb (by intro z; cases z)
   obtain ⟨_,ob,ho,hd⟩:=I.ok.funs.mem hb
   have ho':s.heap.get? b=some ob:=ho
   rw [q] at ho'
   cases ho'
   obtain ⟨sl',q''⟩:=x4 b _ (hx.keeps _ _ q') hd
   exact ⟨sl',q''⟩
 · exact hok_hidden I.hok _ I.stkFree
abbrev bmVE:List Value:=[.type "ValueError",.type "Exception",.type "BaseException",.type "object"]
structure XCls (K:Frag) (C:Addr):Prop where
 exc:excIn K C bmVE "ValueError.__new__" = true
 xin:XIn K C
theorem xcls_at {K:Frag} {h:Heap} {C:Addr} {bmB:List Value} {newId:String} (X:K.In h) (q:excIn K C bmB newId=true):∃ bm N nm qn bs hdct sn sub ab col dd k0 k1 k2 k3 k5 mN,h.get? C=some (excClassObj nm qn C N bs bm hdct sn sub ab col dd k0 k1 k2 k3 k5 newId)/\h.Ns N mN/\mN "__init__" = none/\OwnTail h bmB bm:=by
 unfold excIn at q
 split at q
 · rename_i dd cd sl ho
   split at q
   · rename_i C' bm k0 k1 k2 k3 n k5 hm hs
     simp only [Bool.and_eq_true,beq_iff_eq,Bool.not_eq_true'] at q
     obtain ⟨⟨⟨⟨⟨rfl,rfl⟩,hdel⟩,ht⟩,hok⟩,hni⟩:=q
     obtain ⟨nm,bs,mro,ns,qn,hd,sn,sub,ab,col,del⟩:=cd
     dsimp only at hm hdel hok hni
     subst hm hdel
     have hsl:sl = #[k0,k1,k2,k3,some (.builtin n),k5]:=by
      obtain ⟨l⟩:=sl
      simp only at hs
      rw [hs]
     subst hsl
     exact ⟨bm,ns,nm,qn,bs,hd,sn,sub,ab,col,dd,k0,k1,k2,k3,k5,_,X _ _ ho,.of_isNs (isNs_of_in X hok),nsMap_none_of_in X hok hni,tail_of_in X ht⟩
   · cases q
 · cases q
def tRaise (X:Cx) (C:Addr):TS:=fun _ σ H=>XeOk X C σ H
theorem ps_raise {X:Cx} {C:Addr} {x txt:Str} {j:Nat} {np cp cpos pos:Pos} (hC:XCls X.K C) (hm:X.mg x=some (.ref C)) (hcalm:X.calm=true) (hg:Gl X x:=by rfl) (hdb:(x == ("__debug__" : Str))=false:=by decide)
  (he:starEach [.Constant (.str txt) j cp] X.env=[(false,eval (.Constant (.str txt) j cp) X.env)]:=by rfl):PS X (.Raise (some (.Call (.Name x np) [.Constant (.str txt) j cp] [] cpos)) none pos) (tRaise X C):=by
 intro pins s σ H D I h
 obtain ⟨bm,N,nm,qn,bs,hdct,sn,sub,ab,col,dd,k0,k1,k2,k3,k5,mN,h1,h2,h3,h4⟩:=xcls_at I.kIn hC.exc
 have hbase:bm.contains (.type "BaseException")=true:=h4.hasType (by decide +kernel)
 refine wpAny_Raise_call_subU (C:=C) (mN:=mN) (N:=N) (nm:=nm) (q:=qn) (bs:=bs) (bm:=bm) (hdct:=hdct) (sn:=sn) (sub:=sub) (ab:=ab) (col:=col) (dd:=dd) (k0:=k0) (k1:=k1) (k2:=k2) (k3:=k3) (k5:=k5) F.excBase_ValueError (by decide +kernel) F.excBase_ValueError hbase (I.ok.hd hcalm) (by rw [he]; rfl) h3 (xU I hg hm ⟨rfl,?_⟩ hdb)
 rw [he]
 show wpAny _ _ (evalArgs _ true ((false,eval (.Constant (.str txt) j cp) X.env)::[]) []) _ _ s
 refine Calls.evalArgs_plain (Calls.spliced_cons ?_)
 refine Calls.Constant_str (k:=j) (pos:=cp) (Calls.spliced_nil ?_)
 have I2:=I.tok (s.toks+1)
 refine ⟨rfl,by show 1<=sizeLine; decide,h1,h2,h4,fun h' e hx=>?_⟩
 exact h pins _ h' e _ I2 hx
section
variable (X:Cx) (C:Addr)
def PSx (st:Stmt) (x:List Sl->Bool):Prop:=∃ t,PS X st t/\∀ H₀ H O σ ds hd E,Ok X.K H₀ H O σ ds hd->x ds=true->(∀ σ' H',Same H₀ H'->XeOk X C σ' H')->t E σ H
end
section
variable {X:Cx} {C:Addr}
theorem xI {x txt:Str} {j:Nat} {np cp cpos pos:Pos} (hC:XCls X.K C) (hm:X.mg x=some (.ref C)) (hcalm:X.calm=true:=by rfl) (hg:Gl X x:=by rfl) (hdb:(x == ("__debug__" : Str))=false:=by decide)
  (he:starEach [.Constant (.str txt) j cp] X.env=[(false,eval (.Constant (.str txt) j cp) X.env)]:=by rfl):PSx X C (.Raise (some (.Call (.Name x np) [.Constant (.str txt) j cp] [] cpos)) none pos) alwaysX :=
 ⟨_,ps_raise hC hm hcalm hg hdb he,fun H₀ H O σ ds hd E o _ h=>h σ H o.same⟩
end
noncomputable def spX (K:Frag) (n:Nat) (R:List D->Bool) (C:Addr):Sp:=fun vs H _ E=>vs.length=n/\∃ ds,Reps K H jE vs ds/\R ds=true/\∀ H',Same H H'->E (.ref C) none H'
structure CalX (P:Program) (w:World) (K:Frag) (mg:Str->Option Value) (base:Heap) (x:Str) (k n:Nat) (R:List D->Bool) (C:Addr):Prop where
 ex:∃ (f:Addr) (fd:FuncData) (ps:List Str),FnOk P w K mg base (CXM P w) k f fd ps (spX K n R C)/\Binds K fd ps []/\PySem.W.keepIn K (.ref f)=true/\mg x=some (.ref f)
end FL
namespace FL
open PySem PySem.Spec PyProof.Rows L2
open PySem.W (Looks looks_mroIn mroIn)
abbrev suiteCx (X:Cx) (ea:Addr) (xe:Value->Shared->Prop) (H0:Hp:=X.H₀):Cx:={ X with A:=X.A.mark (some (.ref ea)),calm:=false,H₀:=H0,xe:=xe }
section
variable {X:Cx} {pins:List (Addr×Obj)} {σ : L2.St} {H:Hp} {s:Shared} {ea:Addr} {oe:Obj} {xe:Value->Shared->Prop}
theorem inv_suite (I:Inv X pins σ H s):Inv (suiteCx X ea xe) pins σ H s:=by
 have ok:=I.ok
 exact ⟨⟨ok.mod,ok.kind,ok.glob,ok.blt,ok.above,ok.inj,ok.has,ok.cab,(fun z=>by cases z),ok.frames,ok.stk,ok.exf,ok.bs,ok.bsz,ok.noex,ok.exfs,ok.funs,ok.frf⟩,I.os,I.bare,I.base,I.loc,I.cell,I.free,I.freeC,I.pin,I.hok,I.len⟩
theorem inv_suiteH {u:HO} (I:Inv X pins σ H s) (hH:H ea=some (.frz oe u)) (h0:X.s₀.heap.get? ea=none) (nt:∀ q,X.H₀ ea≠some (.tbl q)) (nf:ea ∉ X.fs):Inv (suiteCx X ea xe (upd X.H₀ ea (.frz oe u))) pins σ H s:=by
 have ok:=I.ok
 have n0:∀ {b:Addr} {o:Obj},X.s₀.heap.get? b=some o->b≠ea:=fun e z=>by rw [z,h0] at e; cases e
 refine ⟨⟨ok.mod,ok.kind,ok.glob,ok.blt,ok.above,ok.inj,ok.has,ok.cab,(fun z=>by cases z),ok.frames,ok.stk,ok.exf,fun b o e=>?_,⟨ok.bsz.1,ok.bsz.2.bm,fun x c P h1 h2=>?_⟩,ok.noex,ok.exfs,ok.funs,fun b hb=>?_⟩,I.os,I.bare,⟨fun b o e n=>?_,fun b o e n=>?_,fun b o e n=>?_,I.base.there,fun b xs e=>?_,fun b o u e=>?_,fun b q e=>?_⟩,I.loc,I.cell,I.free,I.freeC,I.pin,I.hok,I.len⟩
 · have := ok.bs b o e
   exact ⟨this.1,(upd_ne (n0 this.1)).trans this.2⟩
 · have := ok.bsz.2.tab x c P h1 h2
   exact ⟨this.1,(upd_ne (fun z:P=ea=>nt _ (z ▸ this.2))).trans this.2⟩
 · exact (upd_ne (fun z:b=ea=>nf (z ▸ hb))).trans (ok.frf b hb)
 · exact I.base.keep b o e ((upd_ne (n0 e)).symm.trans n)
 · exact I.base.slot b o e ((upd_ne (n0 e)).symm.trans n)
 · exact I.base.free b o e ((upd_ne (n0 e)).symm.trans n)
 · by_cases hb : b = ea
   · subst hb; cases (upd_same (o:=.frz oe u)).symm.trans e
   · exact I.base.tups b xs ((upd_ne hb).symm.trans e)
 · by_cases hb : b = ea
   · subst hb; cases upd_same.symm.trans e; exact hH
   · exact I.base.frzs b o _ ((upd_ne hb).symm.trans e)
 · by_cases hb : b = ea
   · subst hb; cases (upd_same (o:=.frz oe u)).symm.trans e
   · exact I.base.tbls b q ((upd_ne hb).symm.trans e)
theorem inv_unsuiteH {u:HO} {pins0:List (Addr×Obj)} {σ0:L2.St} {H0:Hp} {s0:Shared} (I0:Inv X pins0 σ0 H0 s0) (hn:H0 ea=none) (h0:X.s₀.heap.get? ea=none) (I:Inv (suiteCx X ea xe (upd X.H₀ ea (.frz oe u))) pins σ H s):Inv X pins σ H s:=by
 have n0:∀ {b:Addr} {o:Obj},X.s₀.heap.get? b=some o->b≠ea:=fun e z=>by rw [z,h0] at e; cases e
 have ne:∀ {b:Addr} {v:HO},H0 b=some v->b≠ea:=fun e z=>by rw [z,hn] at e; cases e
 refine ⟨I0.ok,I.os,I.bare,⟨fun b o e n=>I.base.keep b o e ?_,fun b o e n=>I.base.slot b o e ?_,fun b o e n=>I.base.free b o e ?_,I.base.there,fun b xs e=>I.base.tups b xs ?_,fun b o u e=>I.base.frzs b o u ?_,fun b q e=>I.base.tbls b q ?_⟩,I.loc,I.cell,I.free,I.freeC,I.pin,I.hok,I.len⟩
 · exact (upd_ne (n0 e)).trans n
 · exact (upd_ne (n0 e)).trans n
 · exact (upd_ne (n0 e)).trans n
 · exact (upd_ne (ne (I0.base.tups b xs e))).trans e
 · exact (upd_ne (ne (I0.base.frzs b o u e))).trans e
 · exact (upd_ne (ne (I0.base.tbls b q e))).trans e
theorem inv_track (I:Inv X pins σ H s) (hn:H ea=none) (h1:s.heap.get? ea=some oe) (h3:ea≠X.env.locals) (h0:X.s₀.heap.get? ea=none) (hc:∀ v,oe.data≠.cell v) (hp:∀ p∈X.pn++pins,p.1≠ea) :
  Inv X pins σ (upd H ea (.frz oe (.own ea))) s:=by
 have nz:∀ b u,H b=some u->b≠ea:=fun b u e z=>by rw [z,hn] at e; cases e
 have n0:∀ b o,X.s₀.heap.get? b=some o->b≠ea:=fun b o e z=>by rw [z,h0] at e; cases e
 refine ⟨I.ok,I.os,I.bare,⟨I.base.keep,I.base.slot,fun b o e n hx=>?_,I.base.there,fun b xs e=>?_,fun b o u e=>?_,fun b ps e=>?_⟩,I.loc,I.cell,?_,fun x c e=>?_,fun p hpp=>?_,fun b u e=>?_,I.len⟩
 · rw [upd_ne (n0 b o e)]; exact I.base.free b o e n hx
 · have:=I.base.tups b xs e; rw [upd_ne (nz b _ this)]; exact this
 · have:=I.base.frzs b o u e; rw [upd_ne (nz b _ this)]; exact this
 · have:=I.base.tbls b ps e; rw [upd_ne (nz b _ this)]; exact this
 · rw [upd_ne (Ne.symm h3)]; exact I.free
 · have hz:c≠ea:=by
    intro z
    obtain ⟨v,o,ho,hd⟩:=I.cell x c e
    rw [z,h1] at ho
    cases ho
    exact hc v hd
   have:=I.freeC x c e
   unfold FreeC at this ⊢
   rw [upd_ne hz]
   exact this
 · obtain ⟨q1, q2, q3, q4, q5⟩ := I.pin p hpp
   exact ⟨q1,by rw [upd_ne (hp p hpp)]; exact q2,q3,q4,q5⟩
 · by_cases hb : b = ea
   · subst hb
     rw [upd_same] at e
     cases e
     exact ⟨h1,oe,h1⟩
   · rw [upd_ne hb] at e
     exact (I.hok b u e).stay (fun _ _ _ q=>q) (fun c q=>by rw [upd_ne (nz c _ q)]; exact q) fun c xs q=>by rw [upd_ne (nz c _ q)]; exact q
theorem inv_gone {i:Nat} {x:Str} {m:Str->Option Value} {h':Heap} {v:Option Value} {t':Nat} (I:Inv X pins σ H s) (hN:X.N.Nodup) (hi:X.N[i]? = some x) (hn:s.heap.Ns X.env.locals m)
  (hl:∀ (i:Nat) (x:Str) (v:V),X.N[i]? = some x->σ[i]? = some (some v)->Vis X.env.scope x->∃ u,RelV v u/\Look X.env s.heap m x u)
  (hn':h'.Ns X.env.locals (fun y=>if y=x then v else m y)) (hs:Heap.SameBut X.env.locals s.heap h'):Inv X pins (σ.set i none) H { s with heap:=h',toks:=t' }:=by
 have cne:=I.cne
 obtain ⟨oL,_,_,hoL,_⟩:=id hn
 refine ⟨I.ok,I.os,I.bare,⟨fun b o e n hb hx=>?_,fun b o e n hb hx=>?_,I.base.free,fun b o e hx=>?_,I.base.tups,I.base.frzs,I.base.tbls⟩,⟨_,hn',fun j y v' e1 e2 e3=>?_⟩,fun y c e=>?_,I.free,I.freeC,fun p hp=>?_,fun b ob e=>?_,by simpa using I.len⟩
 · exact (hs.2 b (Nat.ne_of_lt (Nat.lt_of_lt_of_le (Heap.lt_size e) I.ok.above))).trans (I.base.keep b o e n hb hx)
 · obtain ⟨sl, e1⟩ := I.base.slot b o e n hb hx
   exact ⟨sl,(hs.2 b (Nat.ne_of_lt (Nat.lt_of_lt_of_le (Heap.lt_size e) I.ok.above))).trans e1⟩
 · obtain ⟨o', e1⟩ := I.base.there b o e hx
   exact ⟨o',(hs.2 b (Nat.ne_of_lt (Nat.lt_of_lt_of_le (Heap.lt_size e) I.ok.above))).trans e1⟩
 · by_cases hj : j = i
   · subst hj
     have hiσ : j < σ.length:=by rw [I.len]; exact (List.getElem?_eq_some_iff.mp hi).1
     rw [List.getElem?_set_self hiσ] at e2
     cases e2
   · rw [List.getElem?_set_ne (Ne.symm hj)] at e2
     obtain ⟨u',r',q⟩:=hl j y v' e1 e2 e3
     refine ⟨u',r',?_⟩
     rcases q with ⟨k,e⟩ | ⟨k,c,e,z⟩
     · refine .inl ⟨k, ?_⟩
       have:y≠x:=fun e=>hj (kI hN e1 (e ▸ hi))
       simp [this,e]
     · exact .inr ⟨k,c,e,z.sameBut hs (cne y c e)⟩
 · obtain ⟨w', z⟩ := I.cell y c e
   exact ⟨w',z.sameBut hs (cne y c e)⟩
 · obtain ⟨e, n, ne, nf, d⟩ := I.pin p hp
   exact ⟨(hs.2 p.1 ne).trans e,n,ne,nf,d⟩
 · refine (I.hok b ob e).stay (fun c w' hc q => (hs.2 c ?_).trans q) (fun _ q => q) fun _ _ q => q
   rintro rfl
   have hfree:=I.free
   rcases hc with rfl | hc
   · rw [hfree] at e; cases e
   · rw [hfree] at hc; cases hc
end
theorem Ok.setNo {K:Frag} {H₀ H:Hp} {O:Addr->Prop} {σ : L2.St} {ds:List Sl} {hd:Hold} (o:Ok K H₀ H O σ ds hd) (i:Nat) (v:Option V):Ok K H₀ H O (σ.set i v) (ds.set i .no) hd:=by
 have own':∀ {j:Nat},IsOwn (ds.set i .no) j->j≠i/\IsOwn ds j:=fun {j} ⟨l,e⟩=>by
  by_cases hj:j=i
  · subst hj
    by_cases hl:j < ds.length
    · rw [List.getElem?_set_self hl] at e; cases e
    · rw [List.getElem?_eq_none (by simpa using hl)] at e; cases e
  · rw [List.getElem?_set_ne (Ne.symm hj)] at e
    exact ⟨hj,l,e⟩
 refine ⟨o.same,fun j l a e1 e2=>?_,o.dom,by simpa using o.len,fun j s e=>?_,fun j k a hjk hj hk e1 e2=>?_,o.hold,o.obs.tr (fun _ _ _ r _=>r) (fun j r t e=>by
  obtain ⟨e1,hj⟩:=yZ (fun r t=>by intro z; cases z) e
  exact ⟨e1,by rw [List.getElem?_set_ne (Ne.symm hj)]⟩) (fun j b oj ej=>by
  obtain ⟨o1,hj⟩:=yN (fun l=>by intro z; cases z) oj
  rw [List.getElem?_set_ne (Ne.symm hj)] at ej
  exact .inl ⟨o1,ej⟩)⟩
 · obtain ⟨n1, h1⟩ := own' ⟨l, e1⟩
   rw [List.getElem?_set_ne (Ne.symm n1)] at e1 e2
   exact o.fresh j l a e1 e2
 · by_cases hj : j = i
   · subst hj
     by_cases hl:j < ds.length
     · rw [List.getElem?_set_self hl] at e
       cases e
       exact qU
     · rw [List.getElem?_eq_none (by simpa using hl)] at e; cases e
   · rw [List.getElem?_set_ne (Ne.symm hj)] at e
     rw [List.getElem?_set_ne (Ne.symm hj)]
     exact o.sl j s e
 · obtain ⟨n1, h1⟩ := own' hj
   obtain ⟨n2,h2⟩:=own' hk
   rw [List.getElem?_set_ne (Ne.symm n1)] at e1
   rw [List.getElem?_set_ne (Ne.symm n2)] at e2
   exact o.apart j k a hjk h1 h2 e1 e2
theorem Ok.setX {K:Frag} {H₀ H:Hp} {O:Addr->Prop} {σ : L2.St} {ds:List Sl} {hd:Hold} (o:Ok K H₀ H O σ ds hd) {i t:Nat} {a C:Addr} {ob:Obj} {u:HO} (h1:PySem.W.nsIn K mainGlobals (xName t)=some (some (.ref C))) (h2:H a=some (.frz ob u)) (h3:ob.cls = .ref C) :
  Ok K H₀ H O (σ.set i (some (.ref a))) (ds.set i (.exc t)) hd:=by
 have own':∀ {j:Nat},IsOwn (ds.set i (.exc t)) j->j≠i/\IsOwn ds j:=fun {j} ⟨l,e⟩=>by
  by_cases hj:j=i
  · subst hj
    by_cases hl:j < ds.length
    · rw [List.getElem?_set_self hl] at e; cases e
    · rw [List.getElem?_eq_none (by simpa using hl)] at e; cases e
  · rw [List.getElem?_set_ne (Ne.symm hj)] at e
    exact ⟨hj,l,e⟩
 refine ⟨o.same,fun j l a e1 e2=>?_,o.dom,by simpa using o.len,fun j s e=>?_,fun j k a hjk hj hk e1 e2=>?_,o.hold,o.obs.tr (fun _ _ _ r _=>r) (fun j r t e=>by
  obtain ⟨e1,hj⟩:=yZ (fun r t=>by intro z; cases z) e
  exact ⟨e1,by rw [List.getElem?_set_ne (Ne.symm hj)]⟩) (fun j b oj ej=>by
  obtain ⟨o1,hj⟩:=yN (fun l=>by intro z; cases z) oj
  rw [List.getElem?_set_ne (Ne.symm hj)] at ej
  exact .inl ⟨o1,ej⟩)⟩
 · obtain ⟨n1, h1⟩ := own' ⟨l, e1⟩
   rw [List.getElem?_set_ne (Ne.symm n1)] at e1 e2
   exact o.fresh j l a e1 e2
 · by_cases hj : j = i
   · subst hj
     by_cases hl:j < ds.length
     · rw [List.getElem?_set_self hl] at e
       cases e
       rw [List.getElem?_set_self (by rw [o.len]; exact hl)]
       exact ⟨C,ob,u,h1,h2,h3⟩
     · rw [List.getElem?_eq_none (by simpa using hl)] at e; cases e
   · rw [List.getElem?_set_ne (Ne.symm hj)] at e
     rw [List.getElem?_set_ne (Ne.symm hj)]
     exact o.sl j s e
 · obtain ⟨n1, h1⟩ := own' hj
   obtain ⟨n2,h2⟩:=own' hk
   rw [List.getElem?_set_ne (Ne.symm n1)] at e1
   rw [List.getElem?_set_ne (Ne.symm n2)] at e2
   exact o.apart j k a hjk h1 h2 e1 e2
def Throws (X:Cx) (C:Addr) (st:Stmt) (x:List Sl->Bool):Prop:=∀ (pins:List (Addr×Obj)) (s:Shared) (σ : L2.St) (H H₀ : Hp) (O:Addr->Prop) (ds:List Sl) (hd:Hold),Inv X pins σ H s->Ok X.K H₀ H O σ ds hd->x ds=true →
 (∀ ea a0 B H1 H' s1 s',Inv X pins σ H1 s1->Same H H1->Same H1 H'->Thrown X.prog X.w X.stack H1 s1 (.ref C) ea a0 B H' s'.heap->s'.os=s1.os->AllBare s'.gens->X.xe (.ref ea) s')->wpAny (model X.prog X.w) X.A (exec st X.env) (fun _ _=>False) X.xe s
section
variable {X:Cx} {k j n:Nat} {R:List D->Bool} {C:Addr} {x:Str} {p pos:Pos} {e:Expr} {es:List Expr} {g:FA}
theorem call_thrown (CX:CalX X.prog X.w X.K X.mg X.base x k n R C) (hr:Room j X.A) (ha:PAn X (e::es) g) (hj:k<=j) (hg:Gl X x) (hdb:(x == ("__debug__" : Str))=false)
  (he:starEach (e::es) X.env=(false,eval e X.env)::starEach es X.env) (hpl:(backTo pos (starEach es X.env)).any (·.1)=false)
  {pins:List (Addr×Obj)} {s:Shared} {σ : L2.St} {H H₀ : Hp} {O:Addr->Prop} {ds:List Sl} {hd:Hold} {Q:Value->Shared->Prop} (I:Inv X pins σ H s) (o:Ok X.K H₀ H O σ ds hd) (ex:callX n R g ds=true)
  (W:∀ ea a0 B H1 H' s1 s',Inv X pins σ H1 s1->Same H H1->Same H1 H'->Thrown X.prog X.w X.stack H1 s1 (.ref C) ea a0 B H' s'.heap->s'.os=s1.os->AllBare s'.gens->X.xe (.ref ea) s') :
  wpAny (model X.prog X.w) X.A (eval (.Call (.Name x p) (e::es) [] pos) X.env) Q X.xe s:=by
 obtain ⟨f,fd,ps,Fn,hb,hk,hm⟩:=CX.ex
 obtain ⟨t,ht,hf⟩:=ha
 unfold callX at ex
 cases hl:g ds with
 | none=>rw [hl] at ex; cases ex
 | some l =>
   rw [hl] at ex
   simp only [Bool.and_eq_true,decide_eq_true_eq] at ex
   refine wpAny_Call_Name_kw (xU I hg hm ?_ hdb)
   refine PySem.W.callWith_K (h₀:=X.base) I.ok.mod.kin hk (thn (ht pos pins s σ H (fun vs H1=>Same H H1/\Reps X.K H1 jE vs l) I (hf H₀ H O σ ds hd l _ o hl fun vs H1 s1 r=>⟨s1,r⟩)) fun us s1 ⟨vs,H1,I1,r,q1,q2⟩=>⟨I1.kIn,?_⟩) he hpl
   have sp:spX X.K n R C vs H1 (fun _ _=>False) (fun cl _ H'=>cl = .ref C/\Same H1 H'):=⟨by rw [q2.length]; exact ex.1,l,q2,ex.2,fun H' s'=>⟨rfl,s'⟩⟩
   have hl2:us.length=ps.length:=by rw [<- r.length]; exact Fn.len _ _ _ _ sp
   have bd:=hb s1 us I1.kIn (by rw [List.append_nil]; exact hl2)
   rw [List.append_nil] at bd
   refine wpAny_call (codeAny_mono (Fn.run X.A X.stack s1 H1 ⟨us,[]⟩ us vs (fun _ _=>False) (fun cl _ H'=>cl = .ref C/\Same H1 H') (hr.mono hj) I1.env0 bd r sp) fun r s' hq=>?_)
   cases r with
   | error e' =>
     obtain ⟨ea,cls,a0,B,H',rfl,os,bare,T,rfl,sm⟩:=hq
     exact W ea a0 B H1 H' s1 s' I1 q1 sm T os bare
   | ok fl =>
     cases fl with
     | ret u=>obtain ⟨v,H',_,_,_,_,_,z⟩:=hq; exact z.elim
     | next=>exact False.elim hq
     | brk=>exact False.elim hq
     | cont=>exact False.elim hq
theorem thr_expr {pos':Pos} (CX:CalX X.prog X.w X.K X.mg X.base x k n R C) (hr:Room j X.A) (ha:PAn X (e::es) g) (hj:k<=j:=by decide) (hg:Gl X x:=by rfl) (hdb:(x == ("__debug__" : Str))=false:=by decide)
  (he:starEach (e::es) X.env=(false,eval e X.env)::starEach es X.env:=by rfl) (hpl:(backTo pos (starEach es X.env)).any (·.1)=false:=by rfl) (hs:swapsWith (.Call (.Name x p) (e::es) [] pos) none pos'.line X.env=pure false:=by rfl) :
  Throws X C (.Expr (.Call (.Name x p) (e::es) [] pos) pos') (callX n R g):=by
 intro pins s σ H H₀ O ds hd I o ex W
 exact wpAny_Expr_any (call_thrown CX hr ha hj hg hdb he hpl I o ex W) I.quiet hs
theorem psv_drop {f:FE} {e:Expr} (h:PV X e f) (hs:swapsWith e none pos.line X.env=pure false:=by rfl):PSv X (.Expr e pos) (dropG f):=by
 obtain ⟨t,ht,hf⟩:=h
 refine ⟨_,xW ht hs,fun H₀ H O σ ds hd out E o e' h=>?_⟩
 unfold dropG at e'
 cases hh:f ds with
 | none=>rw [hh] at e'; cases e'
 | some d =>
   rw [hh] at e'
   cases e'
   exact hf H₀ H O σ ds hd d _ o hh fun v H' s r=>h σ H' O (o.mono s)
end
end FL
namespace FL
open PySem PySem.Spec PyProof.Rows L2
open PySem.W (Looks looks_mroIn mroIn clsIn)
structure XCatch (K:Frag) (C S:Addr):Prop where
 kit:PySem.W.kitCls K (.ref C) (.ref S)=some true
 be:mroIn K S (.type "BaseException")=some true
section
variable {prog:Program} {w:World} {A:Around} {E:Value->Shared->Prop} {h:Heap} {g:Array GenState} {d:Drawn} {t:Nat} {os:OsState} {a C S:Addr} {o:Obj} {K:Frag}
theorem x_matches {M:Model} {Q:Bool->Shared->Prop} (X:K.In h) (hx:h.get? a=some o) (hc:o.cls = .ref C) (hS:XCatch K C S) (hq:Q true ⟨h,g,d,t,os⟩) :
  wpAny M A (excMatches (.ref a) (.ref S)) Q E ⟨h,g,d,t,os⟩:=by
 have L0:=vZ (M:=M) hx hc
 have L1:=looks_mroIn (M:=M) X hS.be
 obtain ⟨L3,L4,L2⟩:=PySem.W.kit_cls (M:=M) X hS.kit
 have f:=tc_notTuple
 unfold excMatches
 repeat (first | with_reducible refine L0.at ?_ | with_reducible refine L1.at ?_ | with_reducible refine L2.at ?_ | with_reducible refine L3.at ?_ | with_reducible refine L4.at ?_ | with_reducible refine wpAny_loadPart_at hx ?_ | wp_step)
 exact hq
end
section
variable {X:Cx}
theorem run_suite {ea:Addr} {H0:Hp} {xe0:Value->Shared->Prop} {sts:List Stmt} {h:FS} {pins:List (Addr×Obj)} {σ : L2.St} {H H₀ : Hp} {O:Addr->Prop} {ds:List Sl} {hd:Hold} {out:Out} {D:Ends} {s:Shared}
  (hs:∀ xe,PSsv (suiteCx X ea xe H0) sts h) (I:Inv (suiteCx X ea xe0 H0) pins σ H s) (o:Ok X.K H₀ H O σ ds hd) (e:h ds=some out) (af:After X H₀ hd D out) {EXC:Value->Shared->Prop} {POST:Flow->Shared->Prop}
  (hp:∀ f s',SP (suiteCx X ea EXC H0) pins D f s'->POST f s'):wpAny (model X.prog X.w) (X.A.mark (some (.ref ea))) (execs sts X.env) POST EXC s:=by
 obtain ⟨t,ht,hf⟩:=hs EXC
 exact wpAny_mono (ht pins s σ H D (I.wish EXC) (hf H₀ H O σ ds hd out D o e af)) hp (fun _ _ z=>z)
theorem after_gone {H₀ : Hp} {hd:Hold} {D:Ends} {i:Nat} {out:Out} (af:After X H₀ hd D (goneO i out)) :
  After X H₀ hd { nx:=fun σ H=>D.nx (σ.set i none) H,rt:=D.rt,bk:=fun σ H=>D.bk (σ.set i none) H,ct:=fun σ H=>D.ct (σ.set i none) H } out:=by
 cases out with
 | nx ds=>exact fun σ H O o=>af _ _ O (o.setNo i none)
 | bk ds=>exact fun σ H O o=>af _ _ O (o.setNo i none)
 | ct ds=>exact fun σ H O o=>af _ _ O (o.setNo i none)
 | rt r=>exact af
theorem fly_apart {B h:Heap} {l:List Env} {e:Addr} {cls a0:Value} (f:Fl2 B l e cls a0 .none h):e ∉ frs l/\∃ oe,h.get? e=some oe/\oe.cls=cls/\(∀ v,oe.data≠.cell v)/\∃ vs,oe.data = .fields vs/\vs[2]? = some .none:=by
 obtain ⟨_,_,f3,oe,vs,T,oT,ts,he,hc,hd,_⟩:=f
 refine ⟨fun z=>?_,oe,he,hc.1,(fun v q=>by rw [hd] at q; cases q),vs,hd,hc.2.2⟩
 obtain ⟨_,o,ho,hn⟩:=f3.mem z
 rw [he] at ho
 cases ho
 exact hn vs hd
def tryE (X:Cx) (pins:List (Addr×Obj)) (D:Ends) (hs:List ExceptHandler):Value->Shared->Prop:=fun e s₁=>wpAny (model X.prog X.w) X.A (noteFrame e X.env) (fun _ s₂=>wpAny (model X.prog X.w) X.A (setFlight e none) (fun _ s₃=>wpAny (model X.prog X.w) X.A (handleBy e X.env hs) (SP X pins D) X.xe s₃) X.xe s₂) X.xe s₁
theorem try_lands {st b₀ : Stmt} {suite:List Stmt} {sx en:Str} {hp hpos:Pos} {i t:Nat} {C S:Addr} {h:FS} {x:List Sl->Bool}
  (hN:X.N.Nodup) (hm:X.mg sx=some (.ref S)) (hS:XCatch X.K C S) (hC:PySem.W.nsIn X.K mainGlobals (xName t)=some (some (.ref C)))
  (hx:∀ W,Throws (X.wish W) C st x) (hs:∀ ea oe xe,HdP (suiteCx X ea xe (upd X.H₀ ea (.frz oe (.own ea))))->PSsv (suiteCx X ea xe (upd X.H₀ ea (.frz oe (.own ea)))) (b₀::suite) h)
  (hi:X.N[i]? = some en) (hlo:X.env.kindOf en=some .local) (hst:X.stack=X.env::X.outer) (hfr:X.env.frame=some X.env.locals) (hex:X.ex=[])
  (hgS:Gl X sx) (hdb:(sx == ("__debug__" : Str))=false)
  {pins:List (Addr×Obj)} {s:Shared} {σ : L2.St} {H H₀ : Hp} {O:Addr->Prop} {ds:List Sl} {hd:Hold} {D:Ends} {out':Out} (I:Inv X pins σ H s) (o:Ok X.K H₀ H O σ ds hd) (hxd:x ds=true) (hh:h (ds.set i (.exc t))=some out') (af:After X H₀ hd D (goneO i out')) :
  wpAny (model X.prog X.w) X.A (exec st X.env) (fun _ _=>False) (tryE X pins D [.ExceptHandler (some (.Name sx hp)) (some en) (b₀::suite) hpos]) s:=by
 have hLoc:Loc X.env.scope en:=.inl hlo
 have hsub:∀ b,b∈X.env.locals::X.fs->b∈frs X.stack:=fun b hb=>by
  rw [hst]; unfold frs; rw [List.filterMap_cons,hfr]; exact hb
 refine hx (tryE X pins D [.ExceptHandler (some (.Name sx hp)) (some en) (b₀::suite) hpos]) pins s σ H H₀ O ds hd (I.wish _) o hxd ?_
 intro ea a0 B H1 H' s1 s' I1 m1 m2 T os bare
 have I1':Inv X pins σ H1 s1:=I1.unwish
 have T:Thrown X.prog X.w X.stack H1 s1 (.ref C) ea a0 B H' s'.heap:=T
 show wpAny _ _ (noteFrame _ _) _ _ _
 have hA:X.A.frames=some (X.env::X.outer):=by rw [<- hst]; exact I.ok.frames
 refine note2 hA hfr (by rw [<- hst]; exact T.fly) fun h₄ held₄ sm₄=>?_
 refine set2 (s:={ s' with heap:=h₄ }) held₄ fun h₅ fly₅ sm₅=>?_
 have T5:=T.on (h':=h₅) (by rw [hst]; exact fly₅) (sm₄.trans sm₅)
 have I5:Inv X pins σ H' { s' with heap:=h₅ }:=I1'.call' (ch:=[]) os T5.un T5.hokh bare (fun b z=>by cases z)
 obtain ⟨ap5,ob,hob,hobc,hobd,_⟩:=fly_apart T5.fly
 refine wpAny_handleBy_cons (codeAny_handlers_test ?_) (by intro q; cases q)
 refine xU (X:=suiteCx X ea X.xe) (inv_suite I5) hgS hm ?_ hdb
 refine x_matches (K:=X.K) I5.kIn hob hobc hS ?_
 refine codeAny_handlers_suite_as ?_
 refine set2 (s:={ s' with heap:=h₅ }) fly₅ fun h₆ fly₆ sm₆=>?_
 have T6:=T5.on (h':=h₆) (by rw [hst]; exact fly₆) sm₆
 have I6:Inv X pins σ H' { s' with heap:=h₆ }:=I1'.call' (ch:=[]) os T6.un T6.hokh bare (fun b z=>by cases z)
 obtain ⟨ap6,oe,hoe,hoec,hoed,vs,hvs,hv2⟩:=fly_apart T6.fly
 have nb:∀ b o,s1.heap.get? b=some o->b≠ea:=fun b o e z=>by
  subst z
  obtain ⟨o',q⟩:=T6.there b o e ap6
  rw [T6.fly.2.1] at q; cases q
 have h0:X.s₀.heap.get? ea=none:=by
  cases q:X.s₀.heap.get? ea with
  | none=>rfl
  | some o' =>
    obtain ⟨o'',q'⟩:=I1'.base.there ea o' q (by rw [hex]; intro z; cases z)
    exact (nb ea o'' q' rfl).elim
 have It:=inv_track I6 T6.no hoe (fun z=>ap6 (hsub _ (by rw [z]; exact List.mem_cons_self))) h0 hoed fun p hpp=>nb p.1 p.2 (I1'.pin p hpp).1
 have sm:Same H' (upd H' ea (.frz oe (.own ea))):=fun b u e=>by rw [upd_ne (fun z=>by rw [z,T6.no] at e; cases e)]; exact e
 have Is:Inv (suiteCx X ea X.xe (upd X.H₀ ea (.frz oe (.own ea)))) pins σ (upd H' ea (.frz oe (.own ea))) { s' with heap:=h₆ }:=inv_suiteH It upd_same h0 (fun q e=>by have:=I6.base.tbls _ _ e; rw [T6.no] at this; cases this) (fun z=>ap6 (hsub _ (List.mem_cons_of_mem _ z)))
 refine kL (X:=suiteCx X ea X.xe (upd X.H₀ ea (.frz oe (.own ea)))) (i:=i) (v:=.ref ea) Is hN hi hLoc rfl (fun s7 I7=>?_) (.inr hlo)
 refine run_suite (fun xe=>hs ea oe xe ⟨ea,oe,_,vs,rfl,upd_same,hvs,hv2⟩) I7 ((o.mono ((m1.trans m2).trans sm)).setX hC upd_same hoec) hh (after_gone af) fun f s8 h8=>?_
 have hcls:(X.env.scope.kind == .class || (X.env.scope.kind == .module && X.env.locals != X.env.globals))=false:=by rw [I.ok.kind]; rfl
 have gone:∀ xe σ' H8,Inv (suiteCx X ea xe (upd X.H₀ ea (.frz oe (.own ea)))) pins σ' H8 s8->∀ Q:Unit->Shared->Prop,(∀ s9,Inv X pins (σ'.set i none) H8 s9->Q () s9)->wpAny (model X.prog X.w) X.A (do bindName X.env en .none; unbindBehindTheSuite X.env en hpos) Q X.xe s8:=fun xe σ' H8 I8 Q k=>by
  have I8':=inv_unsuiteH I6 T6.no h0 I8
  obtain ⟨m,hn,hl⟩:=id I8'.loc
  exact wpAny_nameGoes_keeps hlo hn hcls fun h' v hn' hs'=>k _ (inv_gone I8' hN hi hn hl hn' hs')
 cases f with
 | next=>obtain ⟨σ',H8,I8,q⟩:=h8; exact gone _ σ' H8 I8 _ fun s9 I9=>⟨_,H8,I9,q⟩
 | brk=>obtain ⟨σ',H8,I8,q⟩:=h8; exact gone _ σ' H8 I8 _ fun s9 I9=>⟨_,H8,I9,q⟩
 | cont=>obtain ⟨σ',H8,I8,q⟩:=h8; exact gone _ σ' H8 I8 _ fun s9 I9=>⟨_,H8,I9,q⟩
 | ret u=>obtain ⟨v,σ',H8,I8,r,q⟩:=h8; exact gone _ σ' H8 I8 _ fun s9 I9=>⟨v,_,H8,I9,r,q⟩
theorem psv_try {st b₀ : Stmt} {suite:List Stmt} {sx en:Str} {hp hpos pos:Pos} {i t:Nat} {C S:Addr} {g h:FS} {x:List Sl->Bool}
  (hN:X.N.Nodup) (hm:X.mg sx=some (.ref S)) (hS:XCatch X.K C S) (hC:PySem.W.nsIn X.K mainGlobals (xName t)=some (some (.ref C)))
  (hg:∀ W,PSv (X.wish W) st g) (hx:∀ W,Throws (X.wish W) C st x) (hs:∀ ea oe xe,HdP (suiteCx X ea xe (upd X.H₀ ea (.frz oe (.own ea))))->PSsv (suiteCx X ea xe (upd X.H₀ ea (.frz oe (.own ea)))) (b₀::suite) h)
  (hi:X.N[i]? = some en:=by rfl) (hlo:X.env.kindOf en=some .local:=by rfl) (hst:X.stack=X.env::X.outer:=by rfl) (hfr:X.env.frame=some X.env.locals:=by rfl) (hex:X.ex=[]:=by rfl)
  (hgS:Gl X sx:=by rfl) (hdb:(sx == ("__debug__" : Str))=false:=by decide) :
  PSv X (.Try [st] [.ExceptHandler (some (.Name sx hp)) (some en) (b₀::suite) hpos] [] [] pos) (tryG i t g x h):=by
 refine ⟨fun D σ H=>∀ pins s,Inv X pins σ H s->wpAny (model X.prog X.w) X.A (exec (.Try [st] [.ExceptHandler (some (.Name sx hp)) (some en) (b₀::suite) hpos] [] [] pos) X.env) (SP X pins D) X.xe s,
  fun pins s σ H D I h=>h pins s I,fun H₀ H O σ ds hd out D o e af pins s I=>?_⟩
 refine wpAny_Try_except (wpAny_execs_cons ?_)
 show wpAny _ _ _ _ (tryE X pins D [.ExceptHandler (some (.Name sx hp)) (some en) (b₀::suite) hpos]) s
 unfold tryG at e
 by_cases hxd:x ds=true
 · rw [if_pos hxd] at e
   cases hh:h (ds.set i (.exc t)) with
   | none=>rw [hh] at e; cases e
   | some out' =>
     rw [hh] at e
     cases e
     exact wpAny_mono (try_lands hN hm hS hC hx hs hi hlo hst hfr hex hgS hdb I o hxd hh af) (fun _ _ z=>z.elim) (fun _ _ z=>z)
 · rw [if_neg hxd] at e
   obtain ⟨t,ht,hf⟩:=hg (tryE X pins D [.ExceptHandler (some (.Name sx hp)) (some en) (b₀::suite) hpos])
   refine wpAny_mono (ht pins s σ H D (I.wish _) (hf H₀ H O σ ds hd out D o e af)) (fun f s1 q=>?_) (fun _ _ z=>z)
   have q':=q.unwish
   cases f with
   | next=>exact wpAny_execs_nil (wpAny_execs_nil q')
   | brk=>exact q'
   | cont=>exact q'
   | ret u=>exact q'
end
end FL
namespace FL
open PySem PySem.Spec PyProof.Rows L2
def IsxOk (K:Frag) (cv:Value) (tb:List (Nat×Bool)):Prop:=∀ t b,tb.lookup t=some b->∀ C,PySem.W.nsIn K mainGlobals (xName t)=some (some (.ref C))->XIn K C/\PySem.W.kitOne K (.ref C) cv=some b
def IsxOkT (K:Frag) (its:List Value) (tb:List (Nat×Bool)):Prop:=∀ t b,tb.lookup t=some b->∀ C,PySem.W.nsIn K mainGlobals (xName t)=some (some (.ref C))->XIn K C/\PySem.W.kitAny K (.ref C) its=some b
theorem isx_oneT {K:Frag} {its:List Value} {t:Nat} {b:Bool} {C:Addr} (n:PySem.W.nsIn K mainGlobals (xName t)=some (some (.ref C))) (x:XIn K C) (k:PySem.W.kitAny K (.ref C) its=some b):IsxOkT K its [(t,b)]:=fun t' b' e C' n'=>by
 by_cases h:t'=t
 · subst h
   simp [List.lookup] at e
   subst e
   rw [n] at n'
   cases n'
   exact ⟨x,k⟩
 · have : (t' == t) = false := beq_eq_false_iff_ne.mpr h
   simp [List.lookup,this] at e
section
variable {X:Cx}
theorem call_isx:CallR X (.builtin "isinstance") (fun xs H Q=>∃ a o u C c cv b,xs=[.ref a,c]/\clsV c cv/\H a=some (.frz o u)/\o.cls = .ref C/\XIn X.K C/\PySem.W.kitOne X.K (.ref C) cv=some b/\Q (.bl b) H):=by
 intro pins s σ H xs us Q I r h
 obtain ⟨a,o,v,C,c,cv,b,rfl,hc,ha,ho,hx,e,q⟩:=h
 obtain ⟨u,u2,rfl,ru,ru2⟩:=vals2 r
 have e2:u2=cv:=by
  cases c with
  | ty n=>cases (show cv = .type n from hc); cases (show u2 = .type n from ru2); rfl
  | ref a=>cases (show cv = .ref a from hc); cases (show u2 = .ref a from ru2); rfl
  | _=>exact (show False from hc).elim
 subst e2
 cases (show u=Value.ref a from ru)
 have hg:s.heap.get? a=some o:=(show s.heap.get? a=some o/\ObjOk X.prog X.w H s.heap a v from I.hok a _ ha).1
 exact PySem.W.kia_one (kitx_exc hx) I.kIn ⟨o,hg,ho⟩ e (fun z=>nomatch z) fun tk=>⟨.bl b,H,I.tok tk,rfl,q⟩
theorem vals_refs:∀ {l:List Addr} {us:List Value},Vals (l.map V.ref) us->us=l.map Value.ref
 | [],_,.nil=>rfl
 | a :: l, _, .cons (b := u) r t => by
   rw [vals_refs t,show u=Value.ref a from r]
   rfl
theorem call_isxT:CallR X (.builtin "isinstance") (fun xs H Q=>∃ (a:Addr) (o:Obj) (u:HO) (C tp:Addr) (Ds:List Addr) (b:Bool),xs=[.ref a,.ref tp]/\H tp=some (.tup (Ds.map V.ref))/\H a=some (.frz o u)/\o.cls = .ref C/\XIn X.K C/\PySem.W.kitAny X.K (.ref C) (Ds.map Value.ref)=some b/\Q (.bl b) H):=by
 intro pins s σ H xs us Q I r h
 obtain ⟨a,o,v,C,tp,Ds,b,rfl,ht,ha,ho,hx,e,q⟩:=h
 obtain ⟨u,u2,rfl,ru,ru2⟩:=vals2 r
 cases (show u=Value.ref a from ru)
 cases (show u2=Value.ref tp from ru2)
 have hg:s.heap.get? a=some o:=(show s.heap.get? a=some o/\ObjOk X.prog X.w H s.heap a v from I.hok a _ ha).1
 obtain ⟨_,its,rv,ot,hot,hotc,n,hotd⟩:=(show ObjOk X.prog X.w H s.heap tp (.tup (Ds.map V.ref)) from I.hok tp _ ht)
 obtain ⟨c0,dd0,dat0,sl0⟩:=ot
 simp only at hotc hotd
 subst hotc hotd
 rw [vals_refs rv] at hot
 exact PySem.W.kia_tup (kitx_exc hx) I.kIn ⟨o,hg,ho⟩ hot e (fun z=>nomatch z) fun tk=>⟨.bl b,H,I.tok tk,rfl,q⟩
def tCs (Ds:List Addr):TA:=fun _ H Q=>Q (Ds.map V.ref) H
def PAc (X:Cx) (es:List Expr) (Ds:List Addr):Prop:=PA X es (tCs Ds)
theorem pac_nil:PAc X [] []:=jK
theorem jG {x:Str} {pos:Pos} {es:List Expr} {D:Addr} {Ds:List Addr} (hm:X.mg x=some (.ref D)) (h:PAc X es Ds) (hg:Gl X x:=by rfl) (hd:(x == ("__debug__" : Str))=false:=by decide)
  (hs:starEach (.Name x pos::es) X.env=(false,eval (.Name x pos) X.env)::starEach es X.env:=by rfl):PAc X (.Name x pos::es) (D::Ds):=by
 have:=qK (pe_glob (v:=.ref D) (pos:=pos) hg hm rfl hd) h hs
 exact this
section
variable {en:Str} {i:Nat} {p pe pT pos:Pos} {tb:List (Nat×Bool)}
theorem kK {σ : L2.St} {H₀ H:Hp} {O:Addr->Prop} {ds:List Sl} {hd:Hold} {d:D} (o:Ok X.K H₀ H O σ ds hd) (e:isxG i tb ds=some d):∃ t b,ds[i]? = some (.exc t)/\tb.lookup t=some b/\d = .bl b:=by
 unfold isxG at e
 cases hs:ds[i]? with
 | none=>rw [hs] at e; cases e
 | some s =>
   rw [hs] at e
   cases s with
   | exc t =>
     simp only at e
     cases hl:tb.lookup t with
     | none=>rw [hl] at e; cases e
     | some b=>rw [hl] at e; cases e; exact ⟨t,b,rfl,hl,rfl⟩
   | no=>cases e
   | v d=>cases e
   | own l=>cases e
   | fr l=>cases e
   | ob _ _=>cases e
theorem pv_isx {x:Str} (hm:X.mg "isinstance" = none) (hI:∃ D,X.mg x=some (.ref D)/\IsxOk X.K (.ref D) tb) (hN:X.N[i]? = some en:=by rfl) (hv:Vis X.env.scope en:=by exact Or.inl rfl) (hde:(en == ("__debug__" : Str))=false:=by decide)
  (hcd:(en == ("__classdict__" : Str))=false:=by decide) (hg:Gl X "isinstance":=by rfl) (hgT:Gl X x:=by rfl)
  (h1:starEach [.Name en pe,.Name x pT] X.env=(false,eval (.Name en pe) X.env)::starEach [.Name x pT] X.env:=by rfl) (h2:starEach [.Name x pT] X.env=(false,eval (.Name x pT) X.env)::starEach [] X.env:=by rfl) (h3:(backTo pos (starEach [.Name x pT] X.env)).any (·.1)=false:=by rfl)
  (hd:(x == ("__debug__" : Str))=false:=by decide):PV X (.Call (.Name "isinstance" p) [.Name en pe,.Name x pT] [] pos) (isxG i tb):=by
 obtain ⟨D,hT,hI⟩:=hI
 refine ⟨_,yU call_isx hg hm (by decide +kernel) (qK (yH hN hv hde hcd) (qK (pe_glob (v:=.ref D) hgT hT rfl hd) jK h2) h1) (by decide) (by decide) h1 h3,fun H₀ H O σ ds hd d Q o e q=>?_⟩
 obtain ⟨t,b,hs,hl,rfl⟩:=kK o e
 obtain ⟨a,C,ob,u,q1,q2,q3,q4⟩:=o.readX hs
 obtain ⟨x1,x2⟩:=hI t b hl C q2
 exact ⟨.ref a,q1,a,ob,u,C,.ref D,.ref D,b,rfl,rfl,q3,q4,x1,x2,q _ H (Same.refl _) (.bl b)⟩
theorem pv_isxB {x:Str} {T:String} (hm:X.mg "isinstance" = none) (hx:X.mg x=none) (hI:IsxOk X.K (.type T) tb) (hb:bootBuiltins x=some (.type T):=by decide +kernel) (hN:X.N[i]? = some en:=by rfl) (hv:Vis X.env.scope en:=by exact Or.inl rfl) (hde:(en == ("__debug__" : Str))=false:=by decide)
  (hcd:(en == ("__classdict__" : Str))=false:=by decide) (hg:Gl X "isinstance":=by rfl) (hgT:Gl X x:=by rfl)
  (h1:starEach [.Name en pe,.Name x pT] X.env=(false,eval (.Name en pe) X.env)::starEach [.Name x pT] X.env:=by rfl) (h2:starEach [.Name x pT] X.env=(false,eval (.Name x pT) X.env)::starEach [] X.env:=by rfl) (h3:(backTo pos (starEach [.Name x pT] X.env)).any (·.1)=false:=by rfl)
  (hn:x≠"__name__":=by decide) (hd:(x == ("__debug__" : Str))=false:=by decide):PV X (.Call (.Name "isinstance" p) [.Name en pe,.Name x pT] [] pos) (isxG i tb):=by
 refine ⟨_,yU call_isx hg hm (by decide +kernel) (qK (yH hN hv hde hcd) (qK (pe_bltn (v:=.ty T) hgT hx hb rfl hn hd) jK h2) h1) (by decide) (by decide) h1 h3,fun H₀ H O σ ds hd d Q o e q=>?_⟩
 obtain ⟨t,b,hs,hl,rfl⟩:=kK o e
 obtain ⟨a,C,ob,u,q1,q2,q3,q4⟩:=o.readX hs
 obtain ⟨x1,x2⟩:=hI t b hl C q2
 exact ⟨.ref a,q1,a,ob,u,C,.ty T,.type T,b,rfl,rfl,q3,q4,x1,x2,q _ H (Same.refl _) (.bl b)⟩
theorem pv_isxT {es:List Expr} {Ds:List Addr} {x1} (hm:X.mg "isinstance" = none) (hP:PAc X es Ds) (hI:IsxOkT X.K (Ds.map Value.ref) tb) (hz:Ds.length<=100:=by first | decide | simp) (hN:X.N[i]? = some en:=by rfl) (hv:Vis X.env.scope en:=by exact Or.inl rfl) (hde:(en == ("__debug__" : Str))=false:=by decide)
  (hcd:(en == ("__classdict__" : Str))=false:=by decide) (hg:Gl X "isinstance":=by rfl)
  (h1:starEach [.Name en pe,.Tuple es x1 pT] X.env=(false,eval (.Name en pe) X.env)::starEach [.Tuple es x1 pT] X.env:=by rfl) (h2:starEach [.Tuple es x1 pT] X.env=(false,eval (.Tuple es x1 pT) X.env)::starEach [] X.env:=by rfl) (h3:(backTo pos (starEach [.Tuple es x1 pT] X.env)).any (·.1)=false:=by rfl) :
  PV X (.Call (.Name "isinstance" p) [.Name en pe,.Tuple es x1 pT] [] pos) (isxG i tb):=by
 refine ⟨_,yU call_isxT hg hm (by decide +kernel) (qK (yH hN hv hde hcd) (qK (pe_tup hP) jK h2) h1) (by decide) (by decide) h1 h3,fun H₀ H O σ ds hd d Q o e q=>?_⟩
 obtain ⟨t,b,hs,hl,rfl⟩:=kK o e
 obtain ⟨a,C,ob,u,q1,q2,q3,q4⟩:=o.readX hs
 obtain ⟨x1,x2⟩:=hI t b hl C q2
 refine ⟨.ref a,q1,?_,fun tp htp=>?_⟩
 · show (Ds.map V.ref).length <= sizeLine
   have:(100:Nat)<=sizeLine:=by decide
   simp; omega
 · have na : a ≠ tp := fun z => by rw [z, htp] at q3; cases q3
   refine ⟨a,ob,u,C,tp,Ds,b,rfl,upd_same,by rw [upd_ne na]; exact q3,q4,x1,x2,q _ _ (fun b' o' e'=>?_) (.bl b)⟩
   rw [upd_ne (fun z=>by rw [z,htp] at e'; cases e')]; exact e'
end
end
structure XR (K:Frag) (mg:Str->Option Value) (t:Nat) (C:Addr):Prop where
 nm:PySem.W.nsIn K mainGlobals (xName t)=some (some (.ref C))
 gl:mg (xName t)=some (.ref C)
 cls:XCls K C
structure XT (K:Frag) (mg:Str->Option Value) (t:Nat) (x:Str) (C S:Addr):Prop where
 nm:PySem.W.nsIn K mainGlobals (xName t)=some (some (.ref C))
 gl:mg x=some (.ref S)
 cat:XCatch K C S
section
variable {X:Cx} {m:Str} {k j:Nat} {cs:List Nat} {F:Nat->List D->Option Ret} {o:Expr} {apos pos:Pos} {fo:FE}
end
section
variable {X:Cx} {C:Addr} {x:Str} {p pos:Pos}
end
theorem kitCls_yes {K:Frag} {C C':Addr} (u:PySem.W.isClsIn K C=true) (y:PySem.W.typeIn K (.ref C)=some (.type "type")) (s:PySem.W.subIn K (.ref C') (.ref C)=some true):PySem.W.kitCls K (.ref C') (.ref C)=some true:=by
 unfold PySem.W.kitCls
 simp only
 rw [show (PySem.W.clsIn K C).isSome=true from u,y,if_pos (by simp),s]
theorem kitB_yes {K:Frag} {C':Addr} {T:String} (u:PySem.W.kitMeta T=true) (s:PySem.W.subIn K (.ref C') (.type T)=some true):PySem.W.kitOne K (.ref C') (.type T)=some true:=by
 unfold PySem.W.kitOne
 split
 · rfl
 · unfold PySem.W.kitCls
   simp only
   rw [u,if_pos rfl,s]
theorem kitAny_nil {K:Frag} {t:Value} : PySem.W.kitAny K t []=some false:=rfl
theorem jB {K:Frag} {t c:Value} {r:List Value} {b:Bool} (h:PySem.W.kitOne K t c=some false) (h2:PySem.W.kitAny K t r=some b):PySem.W.kitAny K t (c::r)=some b:=by
 unfold PySem.W.kitAny
 rw [h]
 exact h2
section
variable {K:Frag} {H:Hp} {O:Addr->Prop} {a:Addr} {xs ys:List V}
end
section
variable {X:Cx}
end
theorem xE {P:Program} {w:World} {K:Frag} {mg:Str->Option Value} {base:Heap} {N:List Str} {qual:Str} {scope:Scope} {f:Addr} {cd:Value} {A:Around} {outer:List Env} {s:Shared} {H:Hp} {E:XK} :
  Passes (CXM P w) (cxOf (CXM P w) P w K mg base N qual scope f cd A outer s H E) E:=by
 intro pins σ H1 s1 e s' I h
 obtain ⟨ea,cls,a0,B,H',rfl,os,bare,T,hE⟩:=h
 have hfr:frs (envOfC qual scope s.heap.objs.size f cd::outer)=s.heap.objs.size::frs outer:=rfl
 have nm:∀ b o,s.heap.get? b=some o->b ∉ frs outer->b ∉ frs (envOfC qual scope s.heap.objs.size f cd::outer):=fun b o q n z=>by
  rw [hfr] at z
  rcases List.mem_cons.mp z with z | z
  · exact absurd (Heap.lt_size q) (by rw [z]; exact Nat.lt_irrefl _)
  · exact n z
 show wpAny _ _ (leaving _ _) _ _ _
 refine leave2 I.ok.frames rfl T.fly fun h' x1 x4=>?_
 refine ⟨ea,cls,a0,B,H',rfl,os.trans I.os,bare,⟨x1,fun b o q n hb=>?_,fun b o q hb=>?_,fun b o q hb=>?_,fun b o q n=>?_,fun b xs q=>T.tups b xs (I.base.tups b xs q),fun b o u q=>T.frzs b o u (I.base.frzs b o u q),fun b ps q=>?_,T.hok⟩,hE⟩
 · exact T.keep b o (I.base.keep b o q n hb (by intro z; cases z)) (I.base.free b o q n (by intro z; cases z)) (nm b o q hb)
 · obtain ⟨o', q'⟩ := I.base.there b o q (by intro z; cases z)
   exact T.there b o' q' (nm b o q hb)
 · obtain ⟨sl, q'⟩ := I.base.slot b o q (I.ok.frf b hb) hb (by intro z; cases z)
   obtain ⟨sl2,q2⟩:=T.slot b _ q' (List.mem_cons_of_mem _ hb)
   obtain ⟨_,ob,ho,hd⟩:=I.ok.funs.mem hb
   have ho':s.heap.get? b=some ob:=ho
   rw [q] at ho'
   cases ho'
   obtain ⟨sl',q''⟩:=x4 b _ q2 hd
   exact ⟨sl',q''⟩
 · obtain ⟨o', q'⟩ := I.base.there b o q (by intro z; cases z)
   exact T.free b o' q' (I.base.free b o q n (by intro z; cases z))
 · exact T.tbls b ps (I.base.tbls b ps q)
section
variable (X:Cx) (E:XK) (C:Addr)
def PSy (st:Stmt) (x:List Sl->Bool):Prop:=∃ t,PS X st t/\∀ H₀ H O σ ds hd D,Ok X.K H₀ H O σ ds hd->x ds=true->(∀ σ' H',Same H₀ H'->XeOk X C σ' H')->(∀ H',Same H₀ H'->E (.ref C) none H')->t D σ H
def PSsy (st:List Stmt) (x:List Sl->Bool):Prop:=∃ t,PSs X st t/\∀ H₀ H O σ ds hd D,Ok X.K H₀ H O σ ds hd->x ds=true->(∀ σ' H',Same H₀ H'->XeOk X C σ' H')->(∀ H',Same H₀ H'->E (.ref C) none H')->t D σ H
def PEy (e:Expr) (x:List Sl->Bool):Prop:=∃ t,PE X e t/\∀ H₀ H O σ ds hd Q,Ok X.K H₀ H O σ ds hd->x ds=true->(∀ H',Same H₀ H'->E (.ref C) none H')->t σ H Q
def PSsAny (st:List Stmt):Prop:=∃ t,PSs X st t
end
section
variable {X:Cx} {E:XK} {C:Addr}
theorem PSx.y {st:Stmt} {x:List Sl->Bool} (h:PSx X C st x):PSy X E C st x:=by
 obtain ⟨t,ht,hf⟩:=h
 exact ⟨t,ht,fun H₀ H O σ ds hd D o e q _=>hf H₀ H O σ ds hd D o e q⟩
theorem PSsv.any {st:List Stmt} {g:FS} (h:PSsv X st g):PSsAny X st:=let ⟨t,ht,_⟩:=h; ⟨t,ht⟩
theorem jH {st:List Stmt} (h:PSsAny X st):PSsy X E C st neverX:=by
 obtain ⟨t,ht⟩:=h
 exact ⟨t,ht,fun _ _ _ _ _ _ _ _ e _ _=>by cases e⟩
theorem qO {st:Stmt} {rest:List Stmt} {x:List Sl->Bool} (h1:PSy X E C st x) (h2:PSsAny X rest):PSsy X E C (st::rest) x:=by
 obtain ⟨t,ht,hf⟩:=h1
 obtain ⟨u,hu⟩:=h2
 exact ⟨_,kA ht hu,fun H₀ H O σ ds hd D o e q p=>hf H₀ H O σ ds hd _ o e q p⟩
theorem ps_or {st:Stmt} {t u:TS} (h1:PS X st t) (h2:PS X st u):PS X st (fun D σ H=>t D σ H \/ u D σ H):=fun pins s σ H D I h=>h.elim (h1 pins s σ H D I) (h2 pins s σ H D I)
theorem yL {st:Stmt} {rest:List Stmt} {f:FS} {x y:List Sl->Bool} (h0:PSy X E C st x) (h1:PSv X st f) (h2:PSsy X E C rest y):PSsy X E C (st::rest) (orX x (seqX f y)):=by
 obtain ⟨t0,ht0,hf0⟩:=h0
 obtain ⟨t,ht,hf⟩:=h1
 obtain ⟨u,hu,hg⟩:=h2
 refine ⟨_,kA (ps_or ht0 ht) hu,fun H₀ H O σ ds hd D o e q p=>?_⟩
 unfold orX at e
 rcases Bool.or_eq_true_iff.mp e with e | e
 · exact .inl (hf0 H₀ H O σ ds hd _ o e q p)
 · refine .inr ?_
   unfold seqX at e
   cases h1:f ds with
   | none=>rw [h1] at e; cases e
   | some o1 =>
     rw [h1] at e
     cases o1 with
     | nx ds'=>exact hf H₀ H O σ ds hd _ _ o h1 (fun σ' H' O' o'=>hg H₀ H' O' σ' ds' hd D o' e q p)
     | _=>cases e
theorem wY {c:Expr} {a b:List Stmt} {pos:Pos} {fc:FT} {xa xb:List Sl->Bool} (hc:PTv X c fc) (ha:PSsy X E C a xa) (hb:PSsy X E C b xb):PSy X E C (.If c a b pos) (ifX fc xa xb):=by
 obtain ⟨tc,hc,hcf⟩:=hc
 obtain ⟨ta,ha,haf⟩:=ha
 obtain ⟨tb,hb,hbf⟩:=hb
 refine ⟨_,ps_if hc ha hb,fun H₀ H O σ ds hd D o e q p=>?_⟩
 unfold ifX at e
 cases hh:fc ds with
 | none=>rw [hh] at e; cases e
 | some k =>
   rw [hh] at e
   refine hcf H₀ H O σ ds hd k _ o hh fun H' s=>?_
   cases k with
   | true=>exact haf H₀ H' O σ ds hd D (o.mono s) e q p
   | false=>exact hbf H₀ H' O σ ds hd D (o.mono s) e q p
theorem psy_ret {e:Expr} {pos:Pos} {x:List Sl->Bool} (h:PEy X E C e x):PSy X E C (.Return (some e) pos) x:=by
 obtain ⟨t,ht,hf⟩:=h
 exact ⟨_,ps_ret ht,fun H₀ H O σ ds hd D o e _ p=>hf H₀ H O σ ds hd _ o e p⟩
theorem psy_expr {e:Expr} {pos:Pos} {x:List Sl->Bool} (h:PEy X E C e x) (hs:swapsWith e none pos.line X.env=pure false:=by rfl):PSy X E C (.Expr e pos) x:=by
 obtain ⟨t,ht,hf⟩:=h
 exact ⟨_,xW ht hs,fun H₀ H O σ ds hd D o e _ p=>hf H₀ H O σ ds hd _ o e p⟩
section
variable {k j n:Nat} {R:List D->Bool} {x:Str} {p pos:Pos} {e:Expr} {es:List Expr} {g:FA}
theorem pey_call (hp:Passes (CXM X.prog X.w) X E) (CX:CalX X.prog X.w X.K X.mg X.base x k n R C) (hr:Room j X.A) (ha:PAn X (e::es) g) (hj:k<=j:=by decide) (hg:Gl X x:=by rfl) (hdb:(x == ("__debug__" : Str))=false:=by decide)
  (he:starEach (e::es) X.env=(false,eval e X.env)::starEach es X.env:=by rfl) (hpl:(backTo pos (starEach es X.env)).any (·.1)=false:=by rfl):PEy X E C (.Call (.Name x p) (e::es) [] pos) (callX n R g):=by
 obtain ⟨f,fd,ps,Fn,hb,hk,hm⟩:=CX.ex
 obtain ⟨t,ht,hf⟩:=ha
 refine ⟨_,wV (E:=E) Fn (hr.mono hj) hg hm hk hb .nil hp ht hdb he hpl,fun H₀ H O σ ds hd Q o ex q=>?_⟩
 unfold callX at ex
 cases hl:g ds with
 | none=>rw [hl] at ex; cases ex
 | some l =>
   rw [hl] at ex
   simp only [Bool.and_eq_true,decide_eq_true_eq] at ex
   refine hf H₀ H O σ ds hd l _ o hl fun vs H1 s1 r1=>?_
   have hl':=r1.length
   exact ⟨by simp only [List.append_nil]; rw [hl']; exact ex.1,l,by simpa using r1,ex.2,fun H' s'=>q H' (o.same.trans (s1.trans s'))⟩
end
end
theorem wW {P:Program} {w:World} {K:Frag} {mg:Str->Option Value} {base:Heap} {x qual:Str} {st:Stmt} {f C:Addr} {fd:FuncData} {N ps:List Str} {k:Nat} {R:List D->Bool} (Fn:Fun K x qual st f fd) (S:FnScope N ps (zH st))
  {g:List Sl->Bool} (hbody:∀ (cdv:Value) (A:Around) (outer:List Env) (s:Shared) (H:Hp) (E:XK),Room k (A.deeper (envOfC qual (zH st) s.heap.objs.size f cdv))->PSsy (cxOf (CXM P w) P w K mg base N qual (zH st) f cdv A outer s H E) E C (qE st) g)
  (hg:∀ ds,ds.length=ps.length->R ds=true->g (args N.length ds)=true):FnOk P w K mg base (CXM P w) (k+1) f fd ps (spX K ps.length R C):=by
 obtain ⟨oc,od,kV,doc,pm,an,cdv,ct,osl,rfl,lk,hcd⟩:=Fn.ex
 refine fn_of lk hcd S (fun vs H Q E h=>h.1) fun A outer s H vs Q E hr h=>?_
 obtain ⟨hl,ds,rv,e,q⟩:=h
 obtain ⟨t,ht,hf⟩:=hbody cdv A outer s H E hr
 exact ⟨t,ht,hf H H jE _ _ [] _ (kD (N:=N) rv) (hg ds (by rw [<- rv.length]; exact hl) e) (fun σ' H' s'=>xe_raise (q H' s')) q⟩
noncomputable def spXN (K:Frag) (n:Nat) (R:List D->Bool) (C:Addr):Sp:=fun vs H _ E=>∃ x vs' ds,vs = .ref x::vs'/\vs'.length=n/\Reps K H jE vs' ds/\R ds=true/\∀ H',Same H H'->E (.ref C) none H'
theorem ok_startN {K:Frag} {H:Hp} {N:List Str} {x:Addr} {vs':List V} {ds:List D} (rv:Reps K H jE vs' ds):Ok K H H jE (L2.start N (.ref x::vs')) (argsN N.length ds) []:=by
 have hl:=rv.length
 refine ⟨Same.refl _,(fun i l a hi _=>by rcases xM hi with h | ⟨j,d,_,_,h⟩ <;> cases h),fun _ z=>z.elim,by simp [L2.start,argsN,hl],fun i s e=>?_,fun i j a _ ⟨l,hi⟩ _ _ _=>?_,(fun p hp=>by cases hp),.no fun i r t e=>by rcases xM e with h | ⟨j,d,_,_,h⟩ <;> cases h⟩
 · rcases xM e with rfl | ⟨j, d, rfl, hj, rfl⟩
   · exact qU
   · obtain ⟨v, h1, h2⟩ := rv.get hj
     have hjl:j < vs'.length:=(List.getElem?_eq_some_iff.mp h1).1
     have:(L2.start N (.ref x::vs'))[j+1]? = some (some v):=by
      unfold L2.start
      rw [List.getElem?_append_left (by simpa using hjl)]
      simp [h1]
     rw [this]
     exact jN h2
 · rcases xM hi with h | ⟨j,d,_,_,h⟩ <;> cases h
theorem init_okY {P:Program} {w:World} {K:Frag} {mg:Str->Option Value} {base:Heap} {x qual:Str} {st:Stmt} {f C:Addr} {fd:FuncData} {N ps:List Str} {k n:Nat} (Fn:Fun K x qual st f fd) (S:FnScope N ps (zH st))
  {g:List Sl->Bool} (hbody:∀ (cdv:Value) (A:Around) (outer:List Env) (s:Shared) (H:Hp) (E:XK),Room k (A.deeper (envOfC qual (zH st) s.heap.objs.size f cdv))->PSsy (cxOf (CXM P w) P w K mg base N qual (zH st) f cdv A outer s H E) E C (qE st) g)
  (hn:ps.length=n+1):FnOk P w K mg base (CXM P w) (k+1) f fd ps (spXN K n (runXN g N.length) C):=by
 obtain ⟨oc,od,kV,doc,pm,an,cdv,ct,osl,rfl,lk,hcd⟩:=Fn.ex
 refine fn_of lk hcd S (fun vs H Q E h=>?_) fun A outer s H vs Q E hr h=>?_
 · obtain ⟨x, vs', ds, rfl, hl, _⟩ := h
   simp [hl,hn]
 · obtain ⟨x, vs', ds, rfl, hl, rv, e, q⟩ := h
   obtain ⟨t,ht,hf⟩:=hbody cdv A outer s H E hr
   exact ⟨t,ht,hf H H jE _ _ [] _ (ok_startN (N:=N) rv) e (fun σ' H' s'=>xe_raise (q H' s')) q⟩
structure MkX (P:Program) (w:World) (K:Frag) (mg:Str->Option Value) (base:Heap) (t k n:Nat) (R:List D->Bool) (C:Addr):Prop where
 ex:∃ (D f:Addr) (fd:FuncData) (ps:List Str),mg (clsName t)=some (.ref D)/\Mk K D f/\FnOk P w K mg base (CXM P w) k f fd ps (spXN K n R C)/\Binds K fd ps []
section
variable {X:Cx} {E:XK} {C:Addr} {t k j n:Nat} {R:List D->Bool} {x:Str} {p pos:Pos} {e:Expr} {es:List Expr} {g:FA}
theorem pey_make (hp:Passes (CXM X.prog X.w) X E) (M:MkX X.prog X.w X.K X.mg X.base t k n R C) (hr:Room j X.A) (ha:PAn X (e::es) g) (hj:k+1<=j:=by decide) (hx:clsName t=x:=by rfl)
  (hg:Gl X x:=by rfl) (hdb:(x == ("__debug__" : Str))=false:=by decide) (he:starEach (e::es) X.env=(false,eval e X.env)::starEach es X.env:=by rfl) (hpl:(backTo pos (starEach es X.env)).any (·.1)=false:=by rfl) :
  PEy X E C (.Call (.Name x p) (e::es) [] pos) (callX n R g):=by
 obtain ⟨D,f,fd,ps,hm,mk,Fn,hb⟩:=M.ex
 obtain ⟨ta,pa,hfa⟩:=ha
 subst hx
 refine ⟨_,pe_make (E:=E) mk Fn (hr.mono hj) hg hm hb .nil hp pa hdb he hpl,fun H₀ H O σ ds hd Q o ex q=>?_⟩
 unfold callX at ex
 cases hl:g ds with
 | none=>rw [hl] at ex; cases ex
 | some l =>
   rw [hl] at ex
   simp only [Bool.and_eq_true,decide_eq_true_eq] at ex
   refine hfa H₀ H O σ ds hd l _ o hl fun vs H1 s1 r1=>?_
   intro x dx nx ndx nex
   have hl':=r1.length
   have s2:Same H1 (upd (upd H1 dx (.own x)) x (.ins D dx [])):=fun b o e=>by
    rw [upd_ne (qV e nx),upd_ne (qV e ndx)]
    exact e
   exact ⟨x,vs,l,by simp,by rw [hl']; exact ex.1,r1.mono s2,ex.2,fun H' s'=>q H' (o.same.trans (s1.trans (s2.trans s')))⟩
end
section
variable {X:Cx}
end
structure RoomH (k:Nat) (A:Around):Prop where
 dp:A.depth+3 * k+5 < recursionLimit
 un:A.units+16 * k+200 < cLine
theorem RoomH.of {k:Nat} {A:Around} {v:Option Value} (r:Room k A):RoomH k (A.mark v):=⟨r.dp,r.un⟩
theorem RoomH.depth {k:Nat} {A:Around} (r:RoomH k A):A.depth < recursionLimit:=by have:=r.dp; omega
section
variable {X:Cx} {k j i:Nat} {F:Nat->Option Ret} {x en:Str} {p pe pos:Pos}
end
theorem isx_nil {K:Frag} {cv:Value} : IsxOk K cv []:=fun t b e=>by cases e
theorem isx_cons {K:Frag} {cv:Value} {t:Nat} {b:Bool} {C:Addr} {tb:List (Nat×Bool)} (n:PySem.W.nsIn K mainGlobals (xName t)=some (some (.ref C))) (x:XIn K C) (k:PySem.W.kitOne K (.ref C) cv=some b) (r:IsxOk K cv tb):IsxOk K cv ((t,b)::tb):=fun t' b' e C' n'=>by
 by_cases h:t'=t
 · subst h
   simp [List.lookup] at e
   subst e
   rw [n] at n'
   cases n'
   exact ⟨x,k⟩
 · have hf : (t' == t) = false := beq_eq_false_iff_ne.mpr h
   simp only [List.lookup,hf] at e
   exact r t' b' e C' n'
end FL
namespace L2
open PySem PySem.Spec PyProof.Rows
section
variable {X:Cx}
end
end L2
namespace FL
open PySem PySem.Spec PyProof.Rows L2
section
variable {X:Cx}
end
section
variable {X:Cx}
end
end FL
namespace L2
open PySem PySem.Spec PyProof.Rows
section
variable {X:Cx}
end
end L2
namespace FL
open PySem PySem.Spec PyProof.Rows L2
section
variable {X:Cx}
end
end FL
namespace L2
open PySem PySem.Spec PyProof.Rows
section
variable {prog:Program} {w:World} {A:Around} {E:Value->Shared->Prop} {s:Shared}
end
section
variable {X:Cx}
end
end L2
namespace FL
open PySem PySem.Spec PyProof.Rows L2
section
variable {X:Cx}
end
open PySem.W (tabIn CodeHd tabObj kla_eval kla_makeFunction kla_makeFunctionHit kla_obj kla_fn kla_callFunE kla_codeExpr FnAt callWith_F envX)
section
variable {X:Cx}
end
section
variable {X:Cx} {pins:List (Addr×Obj)} {σ : L2.St} {H H':Hp} {s s':Shared} {cs:List Addr}
end
section
variable {K:Frag} {H:Hp} {O:Addr->Prop} {cs:List Addr}
end
section
variable {X:Cx}
end
end FL
namespace FL
open PySem PySem.Spec PyProof.Rows L2
open PySem.W (tabIn CodeHd tabObj kla_callFunE kla_codeExpr FnAt callWith_F envX)
section
variable {X:Cx}
section
variable {k j' n m j:Nat} {F:List D->Option Ret} {x y:Str} {p pos:Pos} {e:Expr} {es:List Expr} {g:FA} {is:List Nat} {t:LamT} {st:Stmt} {f c P:Addr}
end
end
theorem ClosOk.get {H:Hp} {O:Addr->Prop} : ∀ {cl:List (Str×Addr)} {xs:List V},ClosOk H O cl xs->∀ {i:Nat} {v:V},xs[i]? = some v->∃ p o u w,cl[i]? = some p/\H p.2=some (.frz o u)/\o.data = .cell (some w)/\RelV v w
 | _,_,.nil,_,_,h=>by cases h
 | _,_,.cons no h d r t,0,v,hv=>by cases hv; exact ⟨_,_,_,_,rfl,h,d,r⟩
 | _,_,.cons no h d r t,i+1,v,hv=>t.get hv
theorem ClosOk.length {H:Hp} {O:Addr->Prop} : ∀ {cl:List (Str×Addr)} {xs:List V},ClosOk H O cl xs->cl.length=xs.length
 | _,_,.nil=>rfl
 | _,_,.cons no h d r t=>by simp [t.length]
section
variable {X:Cx} {k j i:Nat} {Φ : Fun2} {x:Str} {p pos:Pos} {e:Expr} {es:List Expr} {g:FA}
end
end FL
namespace FL
open PySem PySem.Spec PyProof.Rows L2
section
variable {X:Cx}
end
open PySem.W (tabIn CodeHd tabObj makeFunction_K makeFunction_hit fnMade fnX nestDef_K kla_callFunE envX)
section
variable {X:Cx} {pins:List (Addr×Obj)} {σ : L2.St} {H:Hp} {s:Shared}
end
section
variable {X:Cx}
end
section
variable {X:Cx} {pins:List (Addr×Obj)} {σ : L2.St} {H:Hp} {s:Shared} {cs:List Addr}
end
section
variable {X:Cx}
end
end FL
namespace FL
open PySem PySem.Spec PyProof.Rows L2
section
variable {X:Cx} {tg:Expr}
end
section
variable {X:Cx}
theorem qS {st:List Stmt} : PSsAny X st:=⟨fun _ _ _=>False,fun _ _ _ _ _ _ h=>h.elim⟩
end
open PySem.W (tabIn CodeHd)
section
variable {X:Cx}
end
section
variable {X:Cx} {E:XK} {C:Addr}
end
section
variable {X:Cx} {k j:Nat} {n:Nat} {F:List D->Option Ret} {x:Str} {p pos:Pos} {e:Expr} {es:List Expr} {g:FA}
end
end FL
namespace FL
open PySem PySem.Spec PyProof.Rows L2
section
variable {X:Cx} {E:XK} {C:Addr}
end
section
variable {X:Cx} {E:XK} {C:Addr}
end
end FL
namespace L2
open PySem PySem.Spec PyProof.Rows
section
variable {X:Cx}
def rInsert:V->List V->Hp->VK->Prop:=fun x vs H Q=>∃ l xs k y,x = .ref l/\vs=[.int k,y]/\H l=some (.lst xs)/\0<=k/\k<=(xs.length:Int)/\xs.length < sizeLine/\Q .non (upd H l (.lst (xs.take k.toNat++y::xs.drop k.toNat)))
theorem mt_insert:MtM X "list.insert" rInsert:=by
 intro pins s σ H x vs v us Q I rx rv h
 obtain ⟨l,xs,k,y,rfl,rfl,hH,h0,h1,hz,q⟩:=h
 cases rx
 obtain ⟨u1,u2,rfl,⟨t,rfl⟩,ru⟩:=rv.two
 obtain ⟨z,its,n,r,hl,e⟩:=I.lstM hH
 have hzl:=sizeLine_eq
 refine call_meets F.slot_list_insert ⟨_,e,rfl⟩ F.entry_list_insert (F.args_list_insert_3 _ _ _) (AutoListH.list_insert_list_int_val_1 l its.toArray n k t u2 (by rw [fitsIndex_both (by omega) (by omega)]; simp) (by rw [List.size_toArray]; omega)) ⟨e,?_⟩
 refine ⟨.non,_,I.lset (its':=its.take k.toNat++u2::its.drop k.toNat) hH e ?_ ((r.take _).append (.cons ru (r.drop _))) ?_,rfl,q⟩
 · have hk : min k.toNat its.toArray.size = k.toNat := by rw [List.size_toArray]; omega
   have hn : ¬ k < 0:=by omega
   simp only [hn,if_false,hk]
   apply Array.ext'
   simp
   exact List.take_of_length_le (by simp)
 · simp only [List.length_append, List.length_cons, List.length_take, List.length_drop]
   omega
end
end L2
namespace FL
open PySem PySem.Spec PyProof.Rows L2
section
variable {X:Cx} {E:XK} {C:Addr}
theorem psv_ins {i:Nat} {x:Str} {k e:Expr} {pos p1 p2 p3:Pos} {fk fe:FE} (hk:PV X k fk) (he:PV X e fe) (hN:X.N[i]? = some x:=by rfl) (hv:Vis X.env.scope x:=by first | exact Or.inl rfl | exact Or.inr (Or.inl rfl) | exact Or.inr (Or.inr rfl)) (hd:(x == ("__debug__" : Str))=false:=by decide)
  (hcd:(x == ("__classdict__" : Str))=false:=by decide)
  (hfew:((backTo p3 (starEach [k,e] X.env)).all (fun x=>!x.1) && (backToKw p3 (keywordEach [] X.env)).all (fun x=>x.1.isSome)
    && decide ([k,e].length+([]:List Keyword).length+(if ([]:List Keyword).isEmpty then 0 else 1) < 30))=true:=by rfl)
  (hline:(p2.endLine == p3.line)=true:=by rfl) (hs:starEach [k,e] X.env=(false,eval k X.env)::starEach [e] X.env:=by rfl) (hs2:starEach [e] X.env=(false,eval e X.env)::starEach [] X.env:=by rfl)
  (hpl:(backTo p3 (starEach [e] X.env)).any (·.1)=false:=by rfl)
  (hbase:attributeBase (.Name x p1) "insert" X.env (eval (.Name x p1) X.env)=eval (.Name x p1) X.env:=by rfl) (hsw:swapsWith (.Call (.Attribute (.Name x p1) "insert" p2) [k,e] [] p3) none pos.line X.env=pure false:=by rfl) :
  PSv X (.Expr (.Call (.Attribute (.Name x p1) "insert" p2) [k,e] [] p3) pos) (insG i fk fe):=by
 obtain ⟨tk,pk,hk⟩:=hk
 obtain ⟨te,pe,he⟩:=he
 refine ⟨_,xW (pe_bm PySem.F.plainAttrs_list PySem.F.slot_list_insert PySem.F.type_list_insert mt_insert (yH hN hv hd hcd) (qK pk (qK pe jK hs2) hs) hbase hfew hline hs hpl) hsw,fun H₀ H O σ ds hd out E o e h=>?_⟩
 unfold insG at e
 cases hsl:ds[i]? with
 | none=>rw [hsl] at e; cases e
 | some s =>
   rw [hsl] at e
   cases s with
   | v d'=>cases e
   | no=>cases e
   | exc _=>cases e
   | fr _=>cases e
   | ob _ _=>cases e
   | own l =>
     simp only at e
     cases h0:fk ds with
     | none=>rw [h0] at e; cases e
     | some dk =>
     rw [h0] at e
     simp only [Option.bind_some] at e
     cases h1:fe ds with
     | none=>rw [h1] at e; cases e
     | some d =>
       rw [h1] at e
       simp only [Option.bind_some] at e
       cases dk <;> first | (cases e; done) | skip
       rename_i n
       simp only at e
       split at e
       · rename_i hl
         cases e
         obtain ⟨a,xs,q1,q2,q3,q4⟩:=o.readO hsl
         refine ⟨.ref a,q1,.inl ⟨rfl,xs,SqL.of q3⟩,?_⟩
         refine hk H₀ H O σ ds hd _ _ o h0 fun vk H1 s1 r1=>?_
         refine he H₀ H1 O σ ds hd d _ (o.mono s1) h1 fun v H2 s2 r2=>?_
         have hq:=q4.length
         have ek:vk = .int n:=by cases r1; rfl
         refine ⟨a,xs,n,v,rfl,by rw [ek],s2 _ _ (s1 _ _ q3),hl.1,by rw [hq]; exact hl.2.1,by rw [hq]; exact hl.2.2,?_⟩
         exact h _ _ _ (((o.mono s1).mono s2).modify hsl q1 ((((q4.mono s1).mono s2).take n.toNat).append (.cons r2 (((q4.mono s1).mono s2).drop n.toNat))))
       · cases e
end
section
variable {X:Cx}
end
end FL
namespace L2
open PySem PySem.Spec PyProof.Rows
open Builtin Builtin.Str
section
variable {X:Cx}
def rSlS:V->Option Int->Option Int->Hp->VK->Prop:=fun x lo hi H Q=>∃ a,x = .str a/\a.length<=sizeLine/\Q (.str (Txt.slice a lo hi)) H
theorem sl_str:SlR X rSlS:=by
 intro pins s σ H x v vl vu lo hi sl Q I rx hs pl pu h
 obtain ⟨a,rfl,hz,q⟩:=h
 obtain ⟨tk,rfl⟩:=(show ∃ tk,v=Value.str a tk from rx)
 obtain ⟨o,ho,hc,hd⟩:=hs
 have fin:∀ (l u:Option (Int×Tok)),partValue l=vl->partValue u=vu->l.map (·.1)=lo->u.map (·.1)=hi->wpAny (model X.prog X.w) X.A (getItem (.str a tk) (.ref sl)) (EP X pins σ Q) X.xe s:=by
  intro l u e1 e2 e3 e4
  refine wpAny_getItem_str_slice (l:=l) (u:=u) (st:=none) ⟨o,ho,hc,by rw [hd,e1,e2]; rfl⟩ rfl ?_
  subst e3 e4
  exact post_val_or_str ⟨Nat.le_trans (Txt.slice_le a _ _) hz,fun t' k=>⟨.str _,H,I.tok _,⟨_,rfl⟩,q⟩⟩
 refine ⟨"str",_,F.slot_str_getitem.lookup,typeIs_str _ _ _,?_⟩
 cases pl with
 | none =>
   cases pu with
   | none=>exact fin none none rfl rfl rfl rfl
   | int j t2=>exact fin none (some (j,t2)) rfl rfl rfl rfl
 | int i t1 =>
   cases pu with
   | none=>exact fin (some (i,t1)) none rfl rfl rfl rfl
   | int j t2=>exact fin (some (i,t1)) (some (j,t2)) rfl rfl rfl rfl
end
end L2
namespace FL
open PySem PySem.Spec PyProof.Rows L2
section
variable {X:Cx}
section
variable {o e:Expr} {apos cpos:Pos} {f g:FE} {name:Str} {id:String}
theorem reps_strs {K:Frag} {H:Hp} {O:Addr->Prop} : ∀ (l:List Str),Reps K H O (l.map V.str) (l.map D.str)
 | []=>.nil
 | a::l=>.cons (.str a) (reps_strs l)
end
theorem wA {e:Expr} {lo hi:Option Expr} {f:FE} {gl gh:List Sl->Option (Option Int)} {p2 pos:Pos} (he:PVw X e f) (hl:POv X lo gl) (hh:POv X hi gh):PV X (.Subscript e (.Slice lo hi none p2) pos) (slsS f gl gh):=by
 obtain ⟨te,pe,he⟩:=he
 obtain ⟨tl,pl,hl⟩:=hl
 obtain ⟨th,ph,hh⟩:=hh
 refine ⟨_,pe_slice sl_str pe pl ph,fun H₀ H O σ ds hd d' Q o e q=>?_⟩
 unfold slsS at e
 obtain ⟨d,h1,e⟩:=bnd e
 obtain ⟨a,h2,e⟩:=bnd e
 obtain ⟨b,h3,e⟩:=bnd e
 cases d <;> first | (cases e; done) | skip
 simp only at e
 split at e
 · rename_i hc
   cases e
   refine he H₀ H O σ ds hd _ _ o h1 fun v H1 s1 r1=>?_
   refine hl H₀ H1 O σ ds hd _ _ (o.mono s1) h2 fun H2 s2=>?_
   refine hh H₀ H2 O σ ds hd _ _ ((o.mono s1).mono s2) h3 fun H3 s3=>?_
   rw [r1.str']
   exact ⟨_,rfl,hc,q _ H3 ((s1.trans s2).trans s3) (.str _)⟩
 · cases e
end
section
variable {X:Cx} {E:XK} {C:Addr}
theorem pe_or {e:Expr} {t u:TE} (h1:PE X e t) (h2:PE X e u):PE X e (fun σ H Q=>t σ H Q \/ u σ H Q):=fun pins s σ H Q I h=>h.elim (h1 pins s σ H Q I) (h2 pins s σ H Q I)
section
variable {x:Str} {p pos:Pos} {e:Expr} {t k j:Nat} {G:List D->Option (List D)} {y:List Sl->Bool}
end
end
end FL
namespace L2
open PySem PySem.Spec PyProof.Rows
section
variable {prog:Program} {w:World} {A:Around} {E:Value->Shared->Prop} {s:Shared}
end
section
variable {X:Cx} {pos:Pos}
end
end L2
namespace FL
open PySem PySem.Spec PyProof.Rows L2
section
variable {X:Cx}
end
section
variable {K:Frag} {H H' H₀ : Hp} {O O':Addr->Prop}
abbrev orL (fs:List Addr) (O:Addr->Prop):Addr->Prop:=fun b=>b∈fs \/ O b
theorem Rep.moreL {v:V} {d:D} : ∀ {ps:List Addr},(∀ p∈ps,H p=none)->Rep K H O v d->Rep K H (orL ps O) v d
 | [],_,h=>h.less fun a z=>z.elim (fun q=>nomatch q) id
 | p::ps,hp,h=>((Rep.moreL (ps:=ps) (fun q hq=>hp q (.tail _ hq)) h).more (p:=p) (hp p (.head _))).less fun a z=>z.elim (fun q=>(List.mem_cons.mp q).elim .inl fun q=>.inr (.inl q)) fun q=>.inr (.inr q)
theorem Reps.moreL {v:List V} {d:List D} : ∀ {ps:List Addr},(∀ p∈ps,H p=none)->Reps K H O v d->Reps K H (orL ps O) v d
 | [],_,h=>h.less fun a z=>z.elim (fun q=>nomatch q) id
 | p::ps,hp,h=>((Reps.moreL (ps:=ps) (fun q hq=>hp q (.tail _ hq)) h).more (p:=p) (hp p (.head _))).less fun a z=>z.elim (fun q=>(List.mem_cons.mp q).elim .inl fun q=>.inr (.inl q)) fun q=>.inr (.inr q)
theorem RepO.moreL {v:V} {t:OT} {fs:List Addr} : ∀ {ps:List Addr},(∀ p∈ps,H p=none)->RepO K H O v t fs->RepO K H (orL ps O) v t fs
 | [],_,h=>h.less (fun a z=>z.elim (fun q=>nomatch q) id) fun b hb=>.inr (h.owns b hb).1
 | p::ps,hp,h=>((RepO.moreL (ps:=ps) (fun q hq=>hp q (.tail _ hq)) h).more (p:=p) (hp p (.head _))).less (fun a z=>z.elim (fun q=>(List.mem_cons.mp q).elim .inl fun q=>.inr (.inl q)) fun q=>.inr (.inr q)) fun b hb=>.inr (h.owns b hb).1
theorem Ok.moreL {σ : L2.St} {ds:List Sl} {hd:Hold} {fs:List Addr} (o:Ok K H₀ H O σ ds hd) (s:Same H H') (hn:∀ b∈fs,H b=none) (hl:∀ b∈fs,∃ u:MutHO,H' b=some u.1):Ok K H₀ H' (orL fs O) σ ds hd:=by
 refine ⟨o.same.trans s,o.fresh,fun b hb=>hb.elim (hl b) fun z=>let ⟨xs,e⟩:=o.dom b z; ⟨xs,s _ _ e⟩,o.len,fun i sl e=>?_,o.apart,fun p hp=>?_,o.obs.tr (fun _ _ _ r _=>(r.moreL hn).mono s) (fun _ _ _ e=>⟨e,rfl⟩) fun _ _ oj ej=>.inl ⟨oj,ej⟩⟩
 · cases sl with
   | no=>exact qU
   | ob r t=>exact jV
   | exc t =>
     obtain ⟨a',C',ob',u',q1,q2,q3,q4⟩:=o.readX e
     rw [q1]
     exact ⟨C',ob',u',q2,s _ _ q3,q4⟩
   | fr l' =>
     obtain ⟨a',xs',q1,q2,q0,q3,q4⟩:=o.readF e
     rw [q1]
     exact ⟨fun z=>z.elim (fun z=>by rw [hn _ z] at q3; cases q3) q2,q0,xs',s _ _ q3,(q4.moreL hn).mono s⟩
   | v d =>
     obtain ⟨v,h1,h2⟩:=o.read e
     rw [h1]
     exact jN ((h2.moreL hn).mono s)
   | own l' =>
     obtain ⟨b,ys,h1,h2,h3,h4⟩:=o.readO e
     rw [h1]
     exact ⟨.inr h2,ys,s _ _ h3,(h4.moreL hn).mono s⟩
 · have := o.hold p hp
   cases p with
   | rep v d=>exact (Rep.moreL hn this).mono s
   | base B=>exact fun b hb=>⟨.inr (this b hb).1,(this b hb).2⟩
   | root k a=>exact True.intro
   | fz a' o' kvs' l'=>exact ⟨fun z=>z.elim (fun z=>by have:=this.2.1; rw [hn _ z] at this; cases this) this.1,s _ _ this.2.1,(Reps.moreL hn this.2.2).mono s⟩
theorem Ok.setOb {σ : L2.St} {ds:List Sl} {hd:Hold} {fs:List Addr} {i:Nat} {v:V} {t:OT} (o:Ok K H₀ H O σ ds hd) (s:Same H H') (r:RepO K H' (orL fs O) v t fs) (nd:fs.Nodup) (hn:∀ b∈fs,H b=none) :
  Ok K H₀ H' (orL fs O) (σ.set i (some v)) (ds.set i (.ob none t)) hd:=by
 have o1:Ok K H₀ H' (orL fs O) σ ds hd:=o.moreL s hn fun b hb=>(r.owns b hb).2
 have own':∀ {j:Nat},IsOwn (ds.set i (.ob none t)) j->IsOwn ds j/\j≠i:=fun h=>yN (fun l=>by intro z; cases z) h
 refine ⟨o1.same,fun j l a e1 e2=>?_,o1.dom,by simpa using o1.len,fun j sl e=>?_,fun j k a hjk hj hk e1 e2=>?_,o1.hold,?_⟩
 · obtain ⟨⟨l', e'⟩, n1⟩ := own' ⟨l, e1⟩
   rw [List.getElem?_set_ne (Ne.symm n1)] at e2
   exact o1.fresh j l' a e' e2
 · by_cases hj : j = i
   · subst hj
     by_cases hl:j < ds.length
     · rw [List.getElem?_set_self hl] at e
       cases e
       exact jV
     · rw [List.getElem?_eq_none (by simpa using hl)] at e; cases e
   · rw [List.getElem?_set_ne (Ne.symm hj)] at e
     rw [List.getElem?_set_ne (Ne.symm hj)]
     exact o1.sl j sl e
 · obtain ⟨h1, n1⟩ := own' hj
   obtain ⟨h2,n2⟩:=own' hk
   rw [List.getElem?_set_ne (Ne.symm n1)] at e1
   rw [List.getElem?_set_ne (Ne.symm n2)] at e2
   exact o1.apart j k a hjk h1 h2 e1 e2
 · obtain ⟨F, hF⟩ := o.obs
   have ne:∀ {j:Nat} {r':Option Nat} {t':OT},ds[j]? = some (.ob r' t')->∀ b∈F j,b ∉ fs:=fun {j r' t'} e b hb z=>by
    obtain ⟨w,_,q,_⟩:=hF j r' t' e
    obtain ⟨_,xs,ex⟩:=q.owns b hb
    rw [hn b z] at ex; cases ex
   refine ⟨fun j=>if j=i then fs else F j,fun j r' t' e=>?_⟩
   by_cases hj:j=i
   · subst hj
     by_cases hl:j < ds.length
     · rw [List.getElem?_set_self hl] at e
       cases e
       refine ⟨v,by rw [List.getElem?_set_self (by rw [o.len]; exact hl)],by simpa using r,(fun k a z=>by cases z),by simpa using nd,fun b hb=>?_⟩
       have hb:b∈fs:=by simpa using hb
       refine ⟨o.same.free (hn b hb),fun k r2 t2 hk e2 z=>?_,fun k ok ek=>?_⟩
       · simp only [hk, if_false] at z
         rw [List.getElem?_set_ne (Ne.symm hk)] at e2
         exact ne e2 b z hb
       · obtain ⟨⟨l2, e2⟩, hk⟩ := own' ok
         rw [List.getElem?_set_ne (Ne.symm hk)] at ek
         obtain ⟨b',ys,q1,_,q3,_⟩:=o.readO e2
         rw [ek] at q1; cases q1
         rw [hn b hb] at q3; cases q3
     · rw [List.getElem?_eq_none (by simpa using hl)] at e; cases e
   · rw [List.getElem?_set_ne (Ne.symm hj)] at e
     obtain ⟨w,h1,h2,h3,h4,h5⟩:=hF j r' t' e
     refine ⟨w,by rw [List.getElem?_set_ne (Ne.symm hj)]; exact h1,by simp only [hj,if_false]; exact (h2.moreL hn).mono s,h3,by simpa [hj] using h4,fun b hb=>?_⟩
     have hb:b∈F j:=by simpa [hj] using hb
     refine ⟨(h5 b hb).1,fun k r2 t2 hk e2 z=>?_,fun k ok ek=>?_⟩
     · by_cases hki : k = i
       · simp only [hki, if_true] at z
         exact ne e b hb z
       · simp only [hki, if_false] at z
         rw [List.getElem?_set_ne (Ne.symm hki)] at e2
         exact (h5 b hb).2.1 k r2 t2 hk e2 z
     · obtain ⟨ok', hk⟩ := own' ok
       rw [List.getElem?_set_ne (Ne.symm hk)] at ek
       exact (h5 b hb).2.2 k ok' ek
inductive Kid (H:Hp) (b:Addr):List V->Prop
 | tup {xs:List V} (h:Rd H b (.tup xs)):Kid H b xs
 | lst {xs:List V} (h:H b=some (.lst xs)):Kid H b xs
 | dct {kvs:List (Key×V)} (h:H b=some (.dK kvs)):Kid H b (kvs.map (·.2))
 | ins {C dx:Addr} {kvs:List (Str×V)} (h:H b=some (.ins C dx kvs)):Kid H b (kvs.map (·.2))
noncomputable def PathV (H:Hp):V->List Nat->V->Prop
 | v,[],w=>w=v
 | v,k::p,w=>∃ b xs x,v = .ref b/\Kid H b xs/\xs[k]? = some x/\PathV H x p w
theorem Kid.det {b:Addr} {xs ys:List V} (h:Kid H b xs) (g:Kid H b ys):xs=ys:=by
 have rd:∀ {zs ws:List V},Rd H b (.tup zs)->Rd H b (.tup ws)->zs=ws:=fun h g=>by
  rcases h with h | ⟨o,h⟩ <;> rcases g with g | ⟨o',g⟩ <;> rw [h] at g <;> cases g <;> rfl
 have no:∀ {zs:List V} {u:HO},Rd H b (.tup zs)->H b=some u->(∀ ws,u≠.tup ws)->(∀ o w,u≠.frz o w)->False:=fun h g n1 n2=>by
  rcases h with h | ⟨o,h⟩ <;> rw [h] at g <;> cases g
  · exact n1 _ rfl
  · exact n2 _ _ rfl
 cases h with
 | tup h => cases g with
   | tup g=>exact rd h g
   | lst g=>exact (no h g (fun _ z=>by cases z) (fun _ _ z=>by cases z)).elim
   | dct g=>exact (no h g (fun _ z=>by cases z) (fun _ _ z=>by cases z)).elim
   | ins g=>exact (no h g (fun _ z=>by cases z) (fun _ _ z=>by cases z)).elim
 | lst h => cases g with
   | tup g=>exact (no g h (fun _ z=>by cases z) (fun _ _ z=>by cases z)).elim
   | lst g=>rw [h] at g; cases g; rfl
   | dct g=>rw [h] at g; cases g
   | ins g=>rw [h] at g; cases g
 | dct h => cases g with
   | tup g=>exact (no g h (fun _ z=>by cases z) (fun _ _ z=>by cases z)).elim
   | lst g=>rw [h] at g; cases g
   | dct g=>rw [h] at g; cases g; rfl
   | ins g=>rw [h] at g; cases g
 | ins h => cases g with
   | tup g=>exact (no g h (fun _ z=>by cases z) (fun _ _ z=>by cases z)).elim
   | lst g=>rw [h] at g; cases g
   | dct g=>rw [h] at g; cases g
   | ins g=>rw [h] at g; cases g; rfl
theorem yI:∀ {p:List Nat} {v x y:V},PathV H v p x->PathV H v p y->x=y
 | [],v,x,y,h,g=>h.trans g.symm
 | k :: p, v, x, y, ⟨b, xs, z, h1, h2, h3, h4⟩, ⟨b', xs', z', g1, g2, g3, g4⟩ => by
   rw [h1] at g1
   cases g1
   cases h2.det g2
   rw [h3] at g3
   cases g3
   exact yI h4 g4
theorem pathV_add:∀ {p:List Nat} {k:Nat} {v x:V} {b:Addr} {xs:List V},PathV H v p (.ref b)->Kid H b xs->xs[k]? = some x->PathV H v (p++[k]) x
 | [],k,v,x,b,xs,h,hk,hx=>⟨b,xs,x,h.symm,hk,hx,rfl⟩
 | j::p,k,v,x,b,xs,⟨c,ys,y,h1,h2,h3,h4⟩,hk,hx=>⟨c,ys,y,h1,h2,h3,pathV_add h4 hk hx⟩
theorem xH:∀ (p:List Nat) (k:Nat) (t:OT),subO (p++[k]) t=(subO p t).bind (subO [k])
 | [],k,t=>by simp [subO]
 | j :: p, k, t => by
   cases t with
   | val d=>simp [subO]
   | lst l=>simp only [List.cons_append,subO]; cases l[j]? <;> simp [xH p k]
   | tup l=>simp only [List.cons_append,subO]; cases l[j]? <;> simp [xH p k]
   | dct ks l=>simp only [List.cons_append,subO]; cases l[j]? <;> simp [xH p k]
   | ins c l=>simp only [List.cons_append,subO]; cases l[j]? <;> simp [xH p k]
theorem RepsO.length:∀ {xs:List V} {ts:List OT} {fs:List Addr},RepsO K H O xs ts fs->xs.length=ts.length
 | _,_,_,.nil=>rfl
 | _,_,_,.cons _ r=>by simp [RepsO.length r]
theorem RepsO.pick:∀ {xs:List V} {ts:List OT} {fs:List Addr} {k:Nat} {t:OT},RepsO K H O xs ts fs->ts[k]? = some t->∃ (x:V) (pre f post:List Addr),xs[k]? = some x/\fs=pre++(f++post)/\RepO K H O x t f ∧
  ∀ {H':Hp} {O':Addr->Prop} {g:OT->OT} {f':List Addr},RepO K H' O' x (g t) f'->(∀ y s e,RepO K H O y s e->(∀ b∈e,b∈pre \/ b∈post)->RepO K H' O' y s e)->RepsO K H' O' xs (ts.modify k g) (pre++(f'++post))
 | _, _, _, 0, t, .cons (x := x) (fs := f) (gs := gs) h r, e => by
   simp only [List.getElem?_cons_zero,Option.some.injEq] at e
   subst e
   refine ⟨x,[],f,gs,rfl,rfl,h,fun {H' O' g f'} h' ho=>?_⟩
   have:∀ {xs:List V} {ts:List OT} {gs':List Addr},RepsO K H O xs ts gs'->(∀ b∈gs',b∈gs)->RepsO K H' O' xs ts gs':=by
    intro xs ts gs' h
    induction xs generalizing ts gs' with
    | nil=>intro _; cases h; exact .nil
    | cons y ys ih =>
      intro hb
      cases h with
      | cons h1 h2=>exact .cons (ho _ _ _ h1 fun b z=>.inr (hb b (List.mem_append_left _ z))) (ih h2 fun b z=>hb b (List.mem_append_right _ z))
   show RepsO K H' O' _ _ (f'++gs)
   exact .cons h' (this r fun _ z=>z)
 | _, _, _, k + 1, t, .cons (x := x) (t := t0) (fs := f0) (gs := gs) h r, e => by
   obtain ⟨y,pre,f,post,h1,h2,h3,h4⟩:=RepsO.pick (k:=k) (t:=t) r (by simpa using e)
   refine ⟨y,f0++pre,f,post,by simpa using h1,by rw [h2]; simp,h3,fun {H' O' g f'} h' ho=>?_⟩
   have q:=h4 h' fun z s e' hz hb=>ho z s e' hz fun b hb'=>(hb b hb').elim (fun z=>.inl (List.mem_append_right _ z)) .inr
   have:=RepsO.cons (ho _ _ _ h fun b hb=>.inl (List.mem_append_left _ hb)) q
   simpa [List.append_assoc] using this
theorem nodup_mid {pre f post:List Addr} (nd:(pre++(f++post)).Nodup):f.Nodup/\(∀ b∈f,b ∉ pre/\b ∉ post)/\∀ (f':List Addr),f'.Nodup->(∀ b∈f',b∈f \/ (b ∉ pre/\b ∉ post))->(pre++(f'++post)).Nodup:=by
 rw [List.nodup_append] at nd
 obtain ⟨n1,n2,n3⟩:=nd
 rw [List.nodup_append] at n2
 obtain ⟨n4,n5,n6⟩:=n2
 have ap:∀ b∈f,b ∉ pre/\b ∉ post:=fun b hb=>⟨fun z=>n3 b z b (List.mem_append_left _ hb) rfl,fun z=>n6 b hb b z rfl⟩
 refine ⟨n4,ap,fun f' hf hs=>?_⟩
 have ap':∀ b∈f',b ∉ pre/\b ∉ post:=fun b hb=>(hs b hb).elim (ap b) id
 rw [List.nodup_append]
 refine ⟨n1,?_,fun a ha b hb e=>?_⟩
 · rw [List.nodup_append]
   exact ⟨hf,n5,fun a ha b hb e=>(ap' a ha).2 (e ▸ hb)⟩
 · rcases List.mem_append.mp hb with z | z
   · exact (ap' b z).1 (e ▸ ha)
   · exact n3 a ha b (List.mem_append_right _ z) e
structure Chg (H H':Hp) (O O':Addr->Prop) (f:List Addr) (f':List Addr):Prop where
 keep:∀ b u,¬ O b->H b=some u->H' b=some u
 rest:∀ b u,O b->b ∉ f->H b=some u->H' b=some u
 sub:∀ b,O b->b ∉ f->O' b
 new:∀ b,O' b->O b \/ (b∈f'/\H b=none)
 fp:∀ b∈f',b∈f \/ H b=none
theorem Chg.rep {f f':List Addr} (c:Chg H H' O O' f f') {v:V} {d:D} (r:Rep K H O v d):Rep K H' O' v d:=by
 have hn:∀ p∈f'.filter (fun b=>(H b).isNone),H p=none:=fun p hp=>by simpa using (List.mem_filter.mp hp).2
 have r1:=(r.moreL hn).keep (H':=H') fun b u hb e=>c.keep b u (fun z=>hb (.inr z)) e
 exact r1.less (O':=O') fun a z=>(c.new a z).elim .inr fun q=>.inl (List.mem_filter.mpr ⟨q.1,by rw [q.2]; rfl⟩)
theorem Chg.reps {f f':List Addr} (c:Chg H H' O O' f f') {v:List V} {d:List D} (r:Reps K H O v d):Reps K H' O' v d:=by
 have hn:∀ p∈f'.filter (fun b=>(H b).isNone),H p=none:=fun p hp=>by simpa using (List.mem_filter.mp hp).2
 have r1:=(r.moreL hn).keep (H':=H') fun b u hb e=>c.keep b u (fun z=>hb (.inr z)) e
 exact r1.less (O':=O') fun a z=>(c.new a z).elim .inr fun q=>.inl (List.mem_filter.mpr ⟨q.1,by rw [q.2]; rfl⟩)
theorem Chg.repO {f f':List Addr} (c:Chg H H' O O' f f') {v:V} {t:OT} {e:List Addr} (r:RepO K H O v t e) (he:∀ b∈e,b ∉ f):RepO K H' O' v t e:=by
 have hn:∀ p∈f'.filter (fun b=>(H b).isNone),H p=none:=fun p hp=>by simpa using (List.mem_filter.mp hp).2
 have r1:=(r.moreL hn).keep (H':=H') (fun b u hb e=>c.keep b u (fun z=>hb (.inr z)) e) fun b hb u eb=>c.rest b u (r.owns b hb).1 (he b hb) eb
 exact r1.less (O':=O') (fun a z=>(c.new a z).elim .inr fun q=>.inl (List.mem_filter.mpr ⟨q.1,by rw [q.2]; rfl⟩)) fun b hb=>c.sub b (r.owns b hb).1 (he b hb)
theorem RepO.modAt:∀ (p:List Nat) {v:V} {t u:OT} {fs:List Addr},RepO K H O v t fs->fs.Nodup->subO p t=some u->∃ w f,PathV H v p w/\RepO K H O w u f/\f.Nodup/\(∀ b∈f,b∈fs) ∧
  ∀ {H':Hp} {O':Addr->Prop} {u':OT} {f':List Addr},Chg H H' O O' f f'->RepO K H' O' w u' f'->f'.Nodup->∃ fs',RepO K H' O' v (putO u' p t) fs'/\fs'.Nodup/\(∀ b∈fs',b∈fs \/ b∈f')/\∀ b∈f',b∈fs'
 | [], v, t, u, fs, r, nd, e => by
   cases e
   exact ⟨v,fs,rfl,r,nd,fun _ h=>h,fun {H' O' u' f'} c r' nd'=>⟨f',r',nd',fun b hb=>.inr hb,fun b hb=>hb⟩⟩
 | k :: p, v, t, u, fs, r, nd, e => by
   have core:∀ {xs:List V} {ts:List OT} {gs:List Addr},RepsO K H O xs ts gs->gs.Nodup->(ts[k]?).bind (subO p)=some u->∃ x w f,xs[k]? = some x/\PathV H x p w/\RepO K H O w u f/\f.Nodup/\(∀ b∈f,b∈gs) ∧
     ∀ {H':Hp} {O':Addr->Prop} {u':OT} {f':List Addr},Chg H H' O O' f f'->RepO K H' O' w u' f'->f'.Nodup->∃ gs',RepsO K H' O' xs (ts.modify k (putO u' p)) gs'/\gs'.Nodup/\(∀ b∈gs',b∈gs \/ b∈f')/\∀ b∈f',b∈gs':=by
    intro xs ts gs rs nds es
    obtain ⟨t1,ht,es⟩:=bnd es
    obtain ⟨x,pre,f0,post,h1,rfl,h3,h4⟩:=rs.pick ht
    obtain ⟨nf,nfr,nre⟩:=nodup_mid nds
    obtain ⟨w,f,g1,g2,g3,g4,g5⟩:=RepO.modAt p h3 nf es
    have inn:∀ b∈f,b∈pre++(f0++post):=fun b hb=>List.mem_append_right _ (List.mem_append_left _ (g4 b hb))
    refine ⟨x,w,f,h1,g1,g2,g3,inn,fun {H' O' u' f'} c r' nd'=>?_⟩
    obtain ⟨f1,q1,q2,q3,q4⟩:=g5 c r' nd'
    have old:∀ b,b∈pre++(f0++post)->H b≠none:=fun b hb z=>by
     obtain ⟨_,y,ey⟩:=rs.owns b hb
     rw [z] at ey; cases ey
    refine ⟨pre++(f1++post),h4 (g:=putO u' p) q1 fun y s e hy hb=>c.repO hy fun b hb' z=>?_,nre f1 q2 fun b hb=>?_,fun b hb=>?_,fun b hb=>List.mem_append_right _ (List.mem_append_left _ (q4 b hb))⟩
    · exact (hb b hb').elim (nfr b (g4 b z)).1 (nfr b (g4 b z)).2
    · rcases q3 b hb with z | z
      · exact .inl z
      · rcases c.fp b z with y | y
        · exact .inl (g4 b y)
        · exact .inr ⟨fun q=>old b (List.mem_append_left _ q) y,fun q=>old b (List.mem_append_right _ (List.mem_append_right _ q)) y⟩
    · rcases List.mem_append.mp hb with z | z
      · exact .inl (List.mem_append_left _ z)
      · rcases List.mem_append.mp z with z | z
        · exact (q3 b z).imp (fun z=>List.mem_append_right _ (List.mem_append_left _ z)) id
        · exact .inl (List.mem_append_right _ (List.mem_append_right _ z))
   have head:∀ {a0:Addr} {gs gs' f f':List Addr} {H':Hp} {O':Addr->Prop},(a0::gs).Nodup->O a0->H a0≠none->Chg H H' O O' f f'->gs'.Nodup->(∀ b∈gs',b∈gs \/ b∈f')->(∀ b∈f,b∈gs)->(a0::gs').Nodup/\(∀ b∈a0::gs',b∈a0::gs \/ b∈f')/\a0 ∉ f:=by
    intro a0 gs gs' f f' H' O' nd0 oa ha c ndg hg hf
    obtain ⟨n0,_⟩:=List.nodup_cons.mp nd0
    refine ⟨List.nodup_cons.mpr ⟨fun z=>?_,ndg⟩,fun b hb=>?_,fun z=>n0 (hf a0 z)⟩
    · rcases hg a0 z with y | y
      · exact n0 y
      · exact (c.fp a0 y).elim (fun q=>n0 (hf a0 q)) ha
    · rcases List.mem_cons.mp hb with rfl | z
      · exact .inl (.head _)
      · exact (hg b z).imp (fun y=>.tail _ y) id
   cases r with
   | val r=>simp [subO] at e
   | tup n h r =>
     obtain ⟨x,w,f,h1,g1,g2,g3,g4,g5⟩:=core r nd e
     refine ⟨w,f,⟨_,_,x,rfl,.tup h,h1,g1⟩,g2,g3,g4,fun {H' O' u' f'} c r' nd'=>?_⟩
     obtain ⟨gs',q1,q2,q3,q4⟩:=g5 c r' nd'
     refine ⟨gs',?_,q2,q3,q4⟩
     have kk:Keep O H H':=fun b u hb eb=>c.keep b u hb eb
     exact .tup (fun z=>(c.new _ z).elim n fun q=>Rd.some h q.2) (kk.rd n h) q1
   | lst n h r =>
     obtain ⟨x,w,f,h1,g1,g2,g3,g4,g5⟩:=core r (List.nodup_cons.mp nd).2 e
     refine ⟨w,f,⟨_,_,x,rfl,.lst h,h1,g1⟩,g2,g3,fun b hb=>.tail _ (g4 b hb),fun {H' O' u' f'} c r' nd'=>?_⟩
     obtain ⟨gs',q1,q2,q3,q4⟩:=g5 c r' nd'
     obtain ⟨k1,k2,k3⟩:=head nd n (by rw [h]; simp) c q2 q3 g4
     exact ⟨_::gs',.lst (c.sub _ n k3) (c.rest _ _ n k3 h) q1,k1,k2,fun b hb=>.tail _ (q4 b hb)⟩
   | dct n h he r =>
     obtain ⟨x,w,f,h1,g1,g2,g3,g4,g5⟩:=core r (List.nodup_cons.mp nd).2 e
     refine ⟨w,f,⟨_,_,x,rfl,.dct h,h1,g1⟩,g2,g3,fun b hb=>.tail _ (g4 b hb),fun {H' O' u' f'} c r' nd'=>?_⟩
     obtain ⟨gs',q1,q2,q3,q4⟩:=g5 c r' nd'
     obtain ⟨k1,k2,k3⟩:=head nd n (by rw [h]; simp) c q2 q3 g4
     exact ⟨_::gs',.dct (c.sub _ n k3) (c.rest _ _ n k3 h) he q1,k1,k2,fun b hb=>.tail _ (q4 b hb)⟩
   | ins hc n h he r =>
     obtain ⟨x,w,f,h1,g1,g2,g3,g4,g5⟩:=core r (List.nodup_cons.mp nd).2 e
     refine ⟨w,f,⟨_,_,x,rfl,.ins h,h1,g1⟩,g2,g3,fun b hb=>.tail _ (g4 b hb),fun {H' O' u' f'} c r' nd'=>?_⟩
     obtain ⟨gs',q1,q2,q3,q4⟩:=g5 c r' nd'
     obtain ⟨k1,k2,k3⟩:=head nd n (by rw [h]; simp) c q2 q3 g4
     exact ⟨_::gs',.ins hc (c.sub _ n k3) (c.rest _ _ n k3 h) he q1,k1,k2,fun b hb=>.tail _ (q4 b hb)⟩
theorem Ok.modAt {σ : L2.St} {ds:List Sl} {hd:Hold} {i:Nat} {r:Option Nat} {t u:OT} {p:List Nat} (o:Ok K H₀ H O σ ds hd) (e:ds[i]? = some (.ob r t)) (hs:subO p t=some u) :
  ∃ v w f,σ[i]? = some (some v)/\PathV H v p w/\RepO K H O w u f/\f.Nodup/\(∀ b∈f,H₀ b=none) ∧
   ∀ {H':Hp} {O':Addr->Prop} {u':OT} {f':List Addr},Chg H H' O O' f f'->(∀ b∈f,O' b->∃ y:MutHO,H' b=some y.1)->RepO K H' O' w u' f'->f'.Nodup->Ok K H₀ H' O' σ (ds.set i (.ob r (putO u' p t))) hd:=by
 obtain ⟨F,hF⟩:=o.obs
 obtain ⟨v,h1,h2,h3,h4,h5⟩:=hF i r t e
 obtain ⟨w,f,g1,g2,g3,g4,g5⟩:=h2.modAt p h4 hs
 have hl:i < ds.length:=(List.getElem?_eq_some_iff.mp e).1
 refine ⟨v,w,f,h1,g1,g2,g3,fun b hb=>(h5 b (g4 b hb)).1,fun {H' O' u' f'} c hf r' nd'=>?_⟩
 obtain ⟨fs',q1,q2,q3,q4⟩:=g5 c r' nd'
 have own':∀ {j:Nat},IsOwn (ds.set i (.ob r (putO u' p t))) j->IsOwn ds j/\j≠i:=fun h=>yN (fun l=>by intro z; cases z) h
 have nown:∀ {j:Nat} {b:Addr},IsOwn ds j->σ[j]? = some (some (.ref b))->b ∉ f:=fun {j b} oj ej z=>(h5 b (g4 b z)).2.2 j oj ej
 have free0:∀ b,H b=none->H₀ b=none:=fun b hb=>o.same.free hb
 refine ⟨fun b x eb=>?_,fun j l b e1 e2=>?_,fun b hb=>?_,by simpa using o.len,fun j sl es=>?_,fun j m b hjm hj hm e1 e2=>o.apart j m b hjm (own' hj).1 (own' hm).1 e1 e2,fun q hq=>?_,?_⟩
 · have hb := o.same b x eb
   by_cases ob:O b
   · by_cases bf : b ∈ f
     · rw [(h5 b (g4 b bf)).1] at eb; cases eb
     · exact c.rest b x ob bf hb
   · exact c.keep b x ob hb
 · obtain ⟨⟨l', e'⟩, _⟩ := own' ⟨l, e1⟩
   exact o.fresh j l' b e' e2
 · rcases c.new b hb with z | z
   · by_cases bf : b ∈ f
     · exact hf b bf hb
     · obtain ⟨y, ey⟩ := o.dom b z
       exact ⟨y,c.rest b _ z bf ey⟩
   · exact (r'.owns b z.1).2
 · by_cases hj : j = i
   · subst hj
     rw [List.getElem?_set_self hl] at es
     cases es
     exact jV
   · rw [List.getElem?_set_ne (Ne.symm hj)] at es
     cases sl with
     | no=>exact qU
     | ob r t=>exact jV
     | exc t =>
       obtain ⟨a',C',ob',x',q1,q2,q3,q4⟩:=o.readX es
       rw [q1]
       refine ⟨C',ob',x',q2,c.keep _ _ (fun z=>?_) q3,q4⟩
       obtain ⟨y,ey⟩:=o.dom _ z
       rw [q3] at ey
       have h2:=y.2
       rw [<- Option.some.inj ey] at h2
       cases h2
     | fr l' =>
       obtain ⟨a',xs'',q1,q2,q0,q3,q4⟩:=o.readF es
       rw [q1]
       exact ⟨fun z=>(c.new _ z).elim q2 (fun y=>by rw [y.2] at q3; cases q3),q0,xs'',c.keep _ _ q2 q3,c.reps q4⟩
     | v d =>
       obtain ⟨v,q1,q2⟩:=o.read es
       rw [q1]
       exact jN (c.rep q2)
     | own l'' =>
       obtain ⟨b,ys,q1,q2,q3,q4⟩:=o.readO es
       rw [q1]
       exact ⟨c.sub _ q2 (nown ⟨l'',es⟩ q1),ys,c.rest _ _ q2 (nown ⟨l'',es⟩ q1) q3,c.reps q4⟩
 · have := o.hold q hq
   cases q with
   | rep v d=>exact c.rep this
   | base B=>exact fun b hb=>⟨c.sub _ (this b hb).1 (fun z=>(this b hb).2 (h5 b (g4 b z)).1),(this b hb).2⟩
   | root k a=>exact True.intro
   | fz a' o' kvs' l'=>exact ⟨fun z=>(c.new _ z).elim this.1 (fun y=>by have z:=this.2.1; rw [y.2] at z; cases z),c.keep _ _ this.1 this.2.1,c.reps this.2.2⟩
 · refine ⟨fun j => if j = i then fs' else F j, fun j r2 t2 ej => ?_⟩
   have fsOld:∀ b∈fs',b∈F i \/ H b=none:=fun b hb=>(q3 b hb).elim .inl fun z=>(c.fp b z).imp (g4 b) id
   by_cases hj:j=i
   · subst hj
     rw [List.getElem?_set_self hl] at ej
     cases ej
     refine ⟨v,h1,by simpa using q1,h3,by simpa using q2,fun b hb=>?_⟩
     have hb:b∈fs':=by simpa using hb
     rcases fsOld b hb with z | z
     · refine ⟨(h5 b z).1, fun m r3 t3 hm e3 y => ?_, fun m om em => (h5 b z).2.2 m (own' om).1 em⟩
       simp only [hm,if_false] at y
       rw [List.getElem?_set_ne (Ne.symm hm)] at e3
       exact (h5 b z).2.1 m r3 t3 hm e3 y
     · refine ⟨free0 b z, fun m r3 t3 hm e3 y => ?_, fun m om em => ?_⟩
       · simp only [hm, if_false] at y
         rw [List.getElem?_set_ne (Ne.symm hm)] at e3
         obtain ⟨_,_,w3,_⟩:=hF m r3 t3 e3
         obtain ⟨_,x3,ex3⟩:=w3.owns b y
         rw [z] at ex3; cases ex3
       · obtain ⟨⟨l3, e3⟩, _⟩ := own' om
         obtain ⟨b3,ys,y1,_,y3,_⟩:=o.readO e3
         rw [em] at y1; cases y1
         rw [z] at y3; cases y3
   · rw [List.getElem?_set_ne (Ne.symm hj)] at ej
     obtain ⟨w2,y1,y2,y3,y4,y5⟩:=hF j r2 t2 ej
     have apart:∀ b∈F j,b ∉ f:=fun b hb z=>(h5 b (g4 b z)).2.1 j r2 t2 hj ej hb
     refine ⟨w2,y1,by simp only [hj,if_false]; exact c.repO y2 apart,y3,by simpa [hj] using y4,fun b hb=>?_⟩
     have hb:b∈F j:=by simpa [hj] using hb
     refine ⟨(y5 b hb).1,fun m r3 t3 hm e3 z=>?_,fun m om em=>(y5 b hb).2.2 m (own' om).1 em⟩
     by_cases hmi:m=i
     · simp only [hmi, if_true] at z
       rcases fsOld b z with x | x
       · exact (y5 b hb).2.1 i r t (fun z=>hj z.symm) e x
       · obtain ⟨_, x3, ex3⟩ := y2.owns b hb
         rw [x] at ex3; cases ex3
     · simp only [hmi, if_false] at z
       rw [List.getElem?_set_ne (Ne.symm hmi)] at e3
       exact (y5 b hb).2.1 m r3 t3 hm e3 z
end
section
variable (X:Cx)
def PVo (e:Expr) (f:FO):Prop:=∃ t,PE X e t/\∀ H₀ H O σ ds hd T Q,Ok X.K H₀ H O σ ds hd->f ds=some T->(∀ v H' fs,Same H H'->RepO X.K H' (orL fs O) v T fs->fs.Nodup->(∀ b∈fs,H b=none)->Q v H')->t σ H Q
def PAo (es:List Expr) (f:FOs):Prop:=∃ t,PA X es t/\∀ H₀ H O σ ds hd T Q,Ok X.K H₀ H O σ ds hd->f ds=some T->(∀ vs H' fs,Same H H'->RepsO X.K H' (orL fs O) vs T fs->fs.Nodup->(∀ b∈fs,H b=none)->Q vs H')->t σ H Q
def PVp (e:Expr) (f:FP):Prop:=∃ t,PE X e t/\∀ H₀ H O σ ds hd q Q,Ok X.K H₀ H O σ ds hd->f ds=some q->(∀ r T v w fs,ds[q.1]? = some (.ob r T)->subO q.2.1 T=some q.2.2->σ[q.1]? = some (some v)->PathV H v q.2.1 w->RepO X.K H O w q.2.2 fs->Q w H)->t σ H Q
end
section
variable {X:Cx}
theorem repsO_vals {K:Frag} {H:Hp} {O:Addr->Prop} : ∀ {xs:List V} {l:List D},Reps K H O xs l->RepsO K H O xs (l.map OT.val) []
 | _,_,.nil=>.nil
 | _,_,.cons h t=>.cons (fs:=[]) (gs:=[]) (.val h) (repsO_vals t)
theorem pvo_l {e:Expr} {f:FA} (h:PVf X e f):PVo X e (lO f):=by
 obtain ⟨t,ht,hf⟩:=h
 refine ⟨t,ht,fun H₀ H O σ ds hd T Q o e q=>?_⟩
 unfold lO at e
 obtain ⟨l,h1,rfl⟩:=mpd e
 refine hf H₀ H O σ ds hd l Q o h1 fun a xs H' s hn he r=>q (.ref a) H' [a] s ?_ (by simp) fun b hb=>by rw [List.mem_singleton.mp hb]; exact hn
 exact .lst (.inl (.head _)) he (repsO_vals (r.less fun b z=>z.elim (fun q=>.inl (List.mem_singleton.mp q)) .inr))
theorem pao_nil:PAo X [] nilO:=⟨_,jK,fun _ H _ _ _ _ _ _ _ e q=>by cases e; exact q [] H [] (Same.refl _) .nil .nil (fun b hb=>nomatch hb)⟩
theorem pvo_s {es:List Expr} {pos:Pos} {g:FOs} (h:PAo X es g):PVo X (.List es pos) (sO g):=by
 obtain ⟨t,ht,hf⟩:=h
 refine ⟨_,pe_lst ht,fun H₀ H O σ ds hd T Q o e q=>?_⟩
 unfold sO at e
 obtain ⟨l,h1,e⟩:=bnd e
 split at e
 · rename_i hl
   cases e
   refine hf H₀ H O σ ds hd l _ o h1 fun vs H1 fs s1 r1 nd n1=>⟨by rw [r1.length]; exact hl,fun p hp=>?_⟩
   have r2:RepsO X.K (upd H1 p (.lst vs)) (orL (p::fs) O) vs l fs:=by
    have e1:∀ a,orL (p::fs) O a->orL [p] (orL fs O) a:=fun a z=>z.elim (fun z=>(List.mem_cons.mp z).elim (fun z=>.inl (by rw [z]; exact .head _)) fun z=>.inr (.inl z)) fun z=>.inr (.inr z)
    have mm:RepsO X.K H1 (ins1 p (orL fs O)) vs l fs:=r1.more hp
    exact (mm.mono (zX hp _)).less (fun a z=>(e1 a z).elim (fun z=>.inl (List.mem_singleton.mp z)) .inr) fun b hb=>.inl (.tail _ hb)
   refine q _ _ (p::fs) (s1.trans (zX hp _)) (.lst (.inl (.head _)) upd_same r2) (List.nodup_cons.mpr ⟨fun z=>?_,nd⟩) fun b hb=>?_
   · obtain ⟨_, xs, ex⟩ := r1.owns p z
     rw [hp] at ex; cases ex
   · rcases List.mem_cons.mp hb with z | z
     · rw [z]; exact s1.free hp
     · exact n1 b z
 · cases e
theorem psv_setB {i:Nat} {x:Str} {e:Expr} {pos pos':Pos} {f:FO} (hN:X.N.Nodup) (he:PVo X e f) (hi:X.N[i]? = some x:=by rfl) (hx:Loc X.env.scope x:=by first | exact Or.inl rfl | exact Or.inr rfl) (hs:swapsWith e (some (.Name x pos')) pos.line X.env=pure false:=by rfl)
  (hf:X.fn x=true \/ X.env.scope.names.lookup x=some .local:=by first | exact .inl rfl | exact .inr rfl):PSv X (.Assign [.Name x pos'] e pos) (setB i f):=by
 obtain ⟨t,ht,hg⟩:=he
 refine ⟨_,ps_set hN hi hx ht hs hf,fun H₀ H O σ ds hd out E o e h=>?_⟩
 unfold setB at e
 obtain ⟨T,h1,rfl⟩:=mpd e
 exact hg H₀ H O σ ds hd T _ o h1 fun v H' fs s r nd n=>h _ _ _ (o.setOb s r nd n)
theorem xF (i:Nat) {x:Str} {pos:Pos} (hN:X.N[i]? = some x:=by rfl) (hv:Vis X.env.scope x:=by first | exact Or.inl rfl | exact Or.inr (Or.inl rfl) | exact Or.inr (Or.inr rfl)) (hd:(x == ("__debug__" : Str))=false:=by decide)
  (hcd:(x == ("__classdict__" : Str))=false:=by decide):PVp X (.Name x pos) (varP i):=by
 refine ⟨_,yH hN hv hd hcd,fun H₀ H O σ ds hd q Q o e h=>?_⟩
 unfold varP at e
 cases hs:ds[i]? with
 | none=>rw [hs] at e; cases e
 | some s =>
   rw [hs] at e
   cases s with
   | ob r t =>
     cases e
     obtain ⟨F,hF⟩:=o.obs
     obtain ⟨v,h1,h2,_⟩:=hF i r t hs
     exact ⟨v,h1,h r t v v _ hs rfl h1 rfl h2⟩
   | _=>cases e
theorem RepsO.nth {K:Frag} {H:Hp} {O:Addr->Prop} {xs:List V} {ts:List OT} {fs:List Addr} {k:Nat} {t:OT} (h:RepsO K H O xs ts fs) (e:ts[k]? = some t):∃ x f,xs[k]? = some x/\RepO K H O x t f:=by
 obtain ⟨x,_,f,_,h1,_,h3,_⟩:=h.pick e
 exact ⟨x,f,h1,h3⟩
theorem Chg.ofUpd {H:Hp} {O:Addr->Prop} {a:Addr} {y:HO} {f f':List Addr} (oa:O a) (ha:a∈f) (hf:∀ b∈f',b∈f):Chg H (upd H a y) O O f f' :=
 ⟨fun b u nb e=>by have z:b≠a:=fun z=>nb (by rw [z]; exact oa); rw [L2.upd_ne z]; exact e,fun b u _ nb e=>by have z:b≠a:=fun z=>nb (by rw [z]; exact ha); rw [L2.upd_ne z]; exact e,fun _ z _=>z,fun _ z=>.inl z,fun b hb=>.inl (hf b hb)⟩
section
variable {x:Str} {k j n:Nat} {F:List D->Option Ret} {p pos:Pos} {e:Expr} {es:List Expr} {g:FA}
end
mutual
theorem RepO.flatten {K:Frag} {H:Hp} {O O':Addr->Prop} (ho:∀ a,O a->Old H a):∀ {v:V} {t:OT} {fs:List Addr},flatO t=true->RepO K H O' v t fs->(∀ b∈fs,O b)->RepO K H O v t fs
 | _,_,_,f,.val r,_=>.val (Rep.flatten ho (by simpa [flatO] using f) r)
 | _,_,_,f,.lst n h r,hb=>.lst (hb _ (.head _)) h (RepsO.flatten ho (by simpa [flatO] using f) r fun b z=>hb b (.tail _ z))
 | _,_,_,f,.dct n h e r,hb=>.dct (hb _ (.head _)) h e (RepsO.flatten ho (by simpa [flatO] using f) r fun b z=>hb b (.tail _ z))
 | _,_,_,f,.ins c n h e r,hb=>.ins c (hb _ (.head _)) h e (RepsO.flatten ho (by simpa [flatO] using f) r fun b z=>hb b (.tail _ z))
 | _,_,_,f,.tup (a:=a) n h r,hb=>.tup (fun z=>by
    obtain ⟨u,e,m⟩:=ho a z
    rcases h with h | ⟨o,h⟩
    · rw [e] at h; cases h; cases m
    · rw [e] at h; cases h; cases m) h (RepsO.flatten ho (by simpa [flatO] using f) r hb)
theorem RepsO.flatten {K:Frag} {H:Hp} {O O':Addr->Prop} (ho:∀ a,O a->Old H a):∀ {v:List V} {t:List OT} {fs:List Addr},flatOs t=true->RepsO K H O' v t fs->(∀ b∈fs,O b)->RepsO K H O v t fs
 | _,_,_,_,.nil,_=>.nil
 | _, _, _, f, .cons h r, hb => by
   simp only [flatOs,Bool.and_eq_true] at f
   exact .cons (RepO.flatten ho f.1 h fun b z=>hb b (List.mem_append_left _ z)) (RepsO.flatten ho f.2 r fun b z=>hb b (List.mem_append_right _ z))
end
end
section
variable {X:Cx}
end
section
variable {K:Frag} {H H' H₀ : Hp} {O O':Addr->Prop}
theorem Kid.mono (s:Same H H') {b:Addr} {xs:List V} (h:Kid H b xs):Kid H' b xs:=by
 cases h with
 | tup h=>exact .tup (Keep.rd (O:=jE) (.of_same s) (fun z=>z) h)
 | lst h=>exact .lst (s _ _ h)
 | dct h=>exact .dct (s _ _ h)
 | ins h=>exact .ins (s _ _ h)
theorem jX (s:Same H H'):∀ {p:List Nat} {v w:V},PathV H v p w->PathV H' v p w
 | [],_,_,h=>h
 | _::_,_,_,⟨b,xs,x,h1,h2,h3,h4⟩=>⟨b,xs,x,h1,h2.mono s,h3,jX s h4⟩
theorem RepsO.put:∀ {xs:List V} {ts:List OT} {fs:List Addr} {k:Nat} {t:OT},RepsO K H O xs ts fs->ts[k]? = some t->∃ (pre f post:List Addr),fs=pre++(f++post) ∧
  ∀ {H':Hp} {O':Addr->Prop} {v:V} {T:OT} {f':List Addr},RepO K H' O' v T f'->(∀ y s e,RepO K H O y s e->(∀ b∈e,b∈pre \/ b∈post)->RepO K H' O' y s e)->RepsO K H' O' (xs.set k v) (ts.set k T) (pre++(f'++post))
 | _, _, _, 0, t, .cons (x := x) (fs := f) (gs := gs) h r, e => by
   refine ⟨[],f,gs,rfl,fun {H' O' v T f'} h' ho=>?_⟩
   have:∀ {xs:List V} {ts:List OT} {gs':List Addr},RepsO K H O xs ts gs'->(∀ b∈gs',b∈gs)->RepsO K H' O' xs ts gs':=by
    intro xs ts gs' h
    induction xs generalizing ts gs' with
    | nil=>intro _; cases h; exact .nil
    | cons y ys ih =>
      intro hb
      cases h with
      | cons h1 h2=>exact .cons (ho _ _ _ h1 fun b z=>.inr (hb b (List.mem_append_left _ z))) (ih h2 fun b z=>hb b (List.mem_append_right _ z))
   show RepsO K H' O' (v::_) (T::_) (f'++gs)
   exact .cons h' (this r fun _ z=>z)
 | _, _, _, k + 1, t, .cons (x := x) (t := t0) (fs := f0) (gs := gs) h r, e => by
   obtain ⟨pre,f,post,h2,h4⟩:=RepsO.put (k:=k) (t:=t) r (by simpa using e)
   refine ⟨f0++pre,f,post,by rw [h2]; simp,fun {H' O' v T f'} h' ho=>?_⟩
   have q:=h4 h' fun z s e' hz hb=>ho z s e' hz fun b hb'=>(hb b hb').elim (fun z=>.inl (List.mem_append_right _ z)) .inr
   have:=RepsO.cons (ho _ _ _ h fun b hb=>.inl (List.mem_append_left _ hb)) q
   simpa [List.append_assoc] using this
end
section
variable {X:Cx}
theorem pvp_at {e:Expr} {n:Str} {pos:Pos} {f:FP} {ix:List (Nat×Nat)} (hF:FldOk X.K n ix) (he:PVp X e f) (hb:attributeBase e n X.env (eval e X.env)=eval e X.env:=by rfl):PVp X (.Attribute e n pos) (atP ix f):=by
 obtain ⟨t,ht,hf⟩:=he
 refine ⟨_,pe_fld ht hb,fun H₀ H O σ ds hd q Q o e h=>?_⟩
 unfold atP at e
 obtain ⟨q0,h1,e⟩:=bnd e
 refine hf H₀ H O σ ds hd q0 _ o h1 fun r T v w fs g1 g2 g3 g4 g5=>?_
 cases hu:q0.2.2 with
 | ins c l =>
   rw [hu] at e g5
   simp only at e
   obtain ⟨k,hl,e⟩:=bnd e
   obtain ⟨u,hk,rfl⟩:=mpd e
   cases g5 with
   | @ins a C dx _ kvs _ fs' hc n ha ek rs =>
     obtain ⟨y1,y2,y3⟩:=hF c k hl
     obtain ⟨cl,na⟩:=y3 C hc
     obtain ⟨x,f2,z1,z2⟩:=rs.nth hk
     refine ⟨a,C,dx,kvs,x,rfl,ha,cl,na,xS (i:=k) (by rw [ek]; exact y1) (by rw [ek]; exact y2) z1,h r T v x f2 g1 ?_ g3 (pathV_add g4 (.ins ha) z1) z2⟩
     rw [xH,g2,hu]
     simp [subO,hk]
 | _=>rw [hu] at e; cases e
theorem RepsO.snoc {K:Frag} {H:Hp} {O:Addr->Prop} : ∀ {xs:List V} {ts:List OT} {fs:List Addr} {v:V} {d:D},RepsO K H O xs ts fs->Rep K H O v d->RepsO K H O (xs++[v]) (ts++[.val d]) fs
 | _,_,_,_,_,.nil,r=>.cons (fs:=[]) (gs:=[]) (.val r) .nil
 | _,_,_,_,_,.cons h t,r=>.cons h (RepsO.snoc t r)
theorem Chg.repsO {K:Frag} {H H':Hp} {O O':Addr->Prop} {f f':List Addr} (c:Chg H H' O O' f f'):∀ {v:List V} {t:List OT} {e:List Addr},RepsO K H O v t e->(∀ b∈e,b ∉ f)->RepsO K H' O' v t e
 | _,_,_,.nil,_=>.nil
 | _,_,_,.cons h r,he=>.cons (c.repO h fun b z=>he b (List.mem_append_left _ z)) (Chg.repsO c r fun b z=>he b (List.mem_append_right _ z))
end
section
variable {K:Frag} {H H' H₀ : Hp} {O O':Addr->Prop}
theorem RepO.frz {v:V} {t:OT} {fs:List Addr} (r:RepO K H O v t fs) (h:∀ a,O' a->O a/\a ∉ fs):Rep K H O' v (otD t):=r.val' h
theorem Ok.frz {σ : L2.St} {ds:List Sl} {hd:Hold} {i:Nat} {r:Option Nat} {T:OT} (o:Ok K H₀ H O σ ds hd) (e:ds[i]? = some (.ob r T)):∃ O',Ok K H₀ H O' σ (ds.set i (.v (otD T))) hd:=by
 obtain ⟨F,hF⟩:=o.obs
 obtain ⟨v,h1,h2,h3,h4,h5⟩:=hF i r T e
 have hl:i < ds.length:=(List.getElem?_eq_some_iff.mp e).1
 let O':Addr->Prop:=fun b=>O b/\b ∉ F i
 have sub:∀ b,O' b->O b:=fun b hb=>hb.1
 have own':∀ {j:Nat},IsOwn (ds.set i (.v (otD T))) j->IsOwn ds j/\j≠i:=fun h=>yN (fun l=>by intro z; cases z) h
 refine ⟨O',o.same,fun j l' b e1 e2=>?_,fun b hb=>o.dom b (sub b hb),by simpa using o.len,fun j s es=>?_,fun j m b hjm hj hm e1 e2=>o.apart j m b hjm (own' hj).1 (own' hm).1 e1 e2,fun p hp=>?_,?_⟩
 · obtain ⟨⟨l2, e2'⟩, _⟩ := own' ⟨l', e1⟩
   exact o.fresh j l2 b e2' e2
 · by_cases hj : j = i
   · subst hj
     rw [List.getElem?_set_self hl] at es
     cases es
     rw [h1]
     exact jN (h2.frz fun a z=>z)
   · rw [List.getElem?_set_ne (Ne.symm hj)] at es
     cases s with
     | no=>exact qU
     | ob r t=>exact jV
     | exc t =>
       obtain ⟨a',C',ob',u',q1,q2,q3,q4⟩:=o.readX es
       rw [q1]
       exact ⟨C',ob',u',q2,q3,q4⟩
     | fr l' =>
       obtain ⟨a',xs',q1,q2,q0,q3,q4⟩:=o.readF es
       rw [q1]
       exact ⟨fun z=>q2 (sub _ z),q0,xs',q3,q4.less sub⟩
     | v d =>
       obtain ⟨v,q1,q2⟩:=o.read es
       rw [q1]
       exact jN (q2.less sub)
     | own l' =>
       obtain ⟨b,ys,q1,q2,q3,q4⟩:=o.readO es
       rw [q1]
       exact ⟨⟨q2,fun z=>(h5 b z).2.2 j ⟨l',es⟩ q1⟩,ys,q3,q4.less sub⟩
 · have := o.hold p hp
   cases p with
   | rep v d=>exact Rep.less sub this
   | base B=>exact fun b hb=>⟨⟨(this b hb).1,fun z=>(this b hb).2 (h5 b z).1⟩,(this b hb).2⟩
   | root k a=>exact True.intro
   | fz a' o' kvs' l'=>exact ⟨fun z=>this.1 (sub _ z),this.2.1,Reps.less sub this.2.2⟩
 · refine ⟨F, fun j r' t' ej => ?_⟩
   obtain ⟨ej,hj⟩:=yZ (fun r t=>by intro z; cases z) ej
   obtain ⟨w,g1,g2,g3,g4,g5⟩:=hF j r' t' ej
   refine ⟨w,g1,g2.less sub fun b hb=>⟨(g2.owns b hb).1,fun z=>(h5 b z).2.1 j r' t' hj ej hb⟩,g3,g4,fun b hb=>⟨(g5 b hb).1,fun m r2 t2 hm em=>(g5 b hb).2.1 m r2 t2 hm (yZ (fun r t=>by intro z; cases z) em).1,fun m om em=>(g5 b hb).2.2 m (own' om).1 em⟩⟩
end
section
variable {X:Cx}
end
noncomputable def spL (K:Frag) (n:Nat) (F:OT->List D->Option OT):Sp:=fun vs H Q _=>∃ (a:Addr) (T T':OT) (fs:List Addr) (B:Addr->Prop) (vs':List V) (l:List D),vs = .ref a::vs'/\vs'.length=n/\RepO K H (orL fs B) (.ref a) T fs/\fs.Nodup ∧
 (∀ b,B b->b ∉ fs/\∃ u:MutHO,H b=some u.1)/\Reps K H (orL fs B) vs' l/\F T l=some T' ∧
 ∀ H' fs',(∀ b u,b ∉ fs->H b=some u->H' b=some u)->RepO K H' (orL fs' B) (.ref a) T' fs'->fs'.Nodup->(∀ b∈fs',b∈fs \/ H b=none)->Q .non H'
noncomputable def cutH (fs:List Addr) (H:Hp):Hp:=fun b=>if b∈fs then none else H b
theorem cutH_in {fs:List Addr} {H:Hp} {b:Addr} (h:b∈fs):cutH fs H b=none:=if_pos h
theorem wC {fs:List Addr} {H:Hp} {b:Addr} (h:b ∉ fs):cutH fs H b=H b:=if_neg h
theorem cutH_none {fs:List Addr} {H:Hp} {b:Addr} (h:cutH fs H b=none):b∈fs \/ H b=none:=by
 by_cases z:b∈fs
 · exact .inl z
 · rw [wC z] at h; exact .inr h
theorem vG {n:Nat} {T:OT} {l:List D} {i:Nat} : ¬ IsOwn (argsL n T l) i:=fun ⟨l',e⟩=>by
 unfold argsL at e
 cases i with
 | zero=>cases e
 | succ i =>
   rw [List.getElem?_cons_succ] at e
   unfold args at e
   by_cases hi:i < l.length
   · rw [List.getElem?_append_left (by simpa using hi), List.getElem?_map] at e
     cases h:l[i]? with
     | none=>rw [h] at e; cases e
     | some d=>rw [h] at e; cases e
   · rw [List.getElem?_append_right (by simpa using hi), List.getElem?_replicate] at e
     split at e <;> cases e
theorem ok_startL {K:Frag} {H:Hp} {N:List Str} {a:Addr} {T:OT} {fs:List Addr} {B:Addr->Prop} {vs:List V} {l:List D} (rt:RepO K H (orL fs B) (.ref a) T fs) (nd:fs.Nodup) (hB:∀ b,B b->b ∉ fs/\∃ u:MutHO,H b=some u.1) (r:Reps K H (orL fs B) vs l) (hN:0 < N.length) :
  Ok K (cutH fs H) H (orL fs B) (L2.start N (.ref a::vs)) (argsL N.length T l) [.root 0 a,.base B]:=by
 have hl:=r.length
 refine ⟨fun b u e=>?_,fun i l' a' e _=>(vG ⟨l',e⟩).elim,fun b hb=>hb.elim (fun z=>(rt.owns b z).2) fun z=>(hB b z).2,?_,fun i s e=>?_,fun i j a _ hi _ _ _=>(vG hi).elim,fun p hp=>?_,?_⟩
 · by_cases z : b ∈ fs
   · rw [cutH_in z] at e; cases e
   · rwa [wC z] at e
 · simp only [L2.start, argsL, args, List.length_append, List.length_map, List.length_replicate, List.length_cons, hl]
   omega
 · unfold argsL at e
   cases i with
   | zero=>cases e; exact jV
   | succ i =>
     rw [List.getElem?_cons_succ] at e
     have eσ : (L2.start N (.ref a::vs))[i+1]? = (vs.map some++List.replicate (N.length - (vs.length+1)) none)[i]?:=by
      simp only [L2.start,List.map_cons,List.cons_append,List.getElem?_cons_succ,List.length_cons]
     rw [eσ]
     unfold args at e
     by_cases hi:i < l.length
     · rw [List.getElem?_append_left (by simpa using hi), List.getElem?_map] at e
       rw [List.getElem?_append_left (by simpa [hl] using hi),List.getElem?_map]
       obtain ⟨d,h,rfl⟩:=mpd e
       obtain ⟨v,h1,h2⟩:=r.get h
       rw [h1]
       exact jN h2
     · rw [List.getElem?_append_right (by simpa using hi), List.getElem?_replicate] at e
       split at e
       · cases e; exact qU
       · cases e
 · rcases List.mem_cons.mp hp with rfl | hp
   · exact True.intro
   · cases List.mem_singleton.mp hp
     refine fun b hb=>⟨.inr hb,fun z=>?_⟩
     obtain ⟨n,u,e⟩:=hB b hb
     rw [wC n,e] at z; cases z
 · refine ⟨fun i => if i = 0 then fs else [], fun i r' t' e => ?_⟩
   cases i with
   | succ i =>
     unfold argsL at e
     rw [List.getElem?_cons_succ] at e
     exact (args_ob _ _ _ _ _ e).elim
   | zero =>
     unfold argsL at e
     cases e
     refine ⟨.ref a,rfl,by simpa using rt,fun k a' ek h=>?_,by simpa using nd,fun b hb=>⟨cutH_in (by simpa using hb),fun j r2 t2 hj _=>by simp [hj],fun j oj=>(vG oj).elim⟩⟩
     cases ek
     rcases List.mem_cons.mp h with h | h
     · cases h; rfl
     · cases List.mem_singleton.mp h
theorem fun_okLG {P:Program} {w:World} {K:Frag} {mg:Str->Option Value} {base:Heap} {qual:Str} {st:Stmt} {f:Addr} {fd:FuncData} {N ps:List Str} {k n:Nat} {F:OT->List D->Option OT}
  (hok:∀ sp:Sp,(∀ vs H Q E,sp vs H Q E->vs.length=ps.length)->(∀ (cdv:Value) (A:Around) (outer:List Env) (s:Shared) (H:Hp) (vs:List V) (Q:VK) (E:XK),Room k (A.deeper (envOfC qual (zH st) s.heap.objs.size f cdv))->sp vs H Q E->∃ t,PSs (cxOf CX0 P w K mg base N qual (zH st) f cdv A outer s H E).nox (qE st) t/\t { nx:=fun _ H'=>Q .non H',rt:=Q } (start N vs) H)->FnOk P w K mg base CX0 (k+1) f fd ps sp)
  {g:FS} (hbody:∀ (cdv:Value) (A:Around) (outer:List Env) (s:Shared) (H:Hp) (E:XK),Room k (A.deeper (envOfC qual (zH st) s.heap.objs.size f cdv))->PSsv (cxOf CX0 P w K mg base N qual (zH st) f cdv A outer s H E).nox (qE st) g)
  (hg:∀ T l T',l.length=n->F T l=some T'->lentF g N.length T l=some T') (hn:ps.length=n+1:=by rfl) (hN:0 < N.length:=by decide):FnOk P w K mg base CX0 (k+1) f fd ps (spL K n F):=by
 refine hok _ (fun vs H Q E h=>?_) (fun cdv A outer s H vs Q E hr h=>?_)
 · obtain ⟨a, T, T', fs, B, vs', l, rfl, hl, _⟩ := h
   simp only [List.length_cons]; omega
 · obtain ⟨a, T, T', fs, B, vs', l, rfl, hl, rt, nd, hB, ra, e, q⟩ := h
   obtain ⟨t,ht,hf⟩:=hbody cdv A outer s H E hr
   refine ⟨t,ht,?_⟩
   have o:=ok_startL (N:=N) rt nd hB ra hN
   have e:=hg T l T' (by rw [<- ra.length]; exact hl) e
   unfold lentF at e
   cases h1:g (argsL N.length T l) with
   | none=>rw [h1] at e; cases e
   | some out =>
     rw [h1] at e
     cases out with
     | nx ds =>
       simp only at e
       cases h2:ds[0]? with
       | none=>rw [h2] at e; cases e
       | some s0 =>
         rw [h2] at e
         cases s0 with
         | ob r T2 =>
           have hr0:r=some 0/\T2=T':=by
            cases r with
            | none=>cases e
            | some i =>
              cases i with
              | zero=>cases e; exact ⟨rfl,rfl⟩
              | succ i=>cases e
           obtain ⟨rfl,rfl⟩:=hr0
           refine hf _ H _ _ _ _ _ _ o h1 (fun σ H' O' o'=>?_)
           obtain ⟨F',hF⟩:=o'.obs
           obtain ⟨v,y1,y2,y3,y4,y5⟩:=hF 0 _ _ h2
           cases y3 0 a rfl (.head _)
           have hb:=o'.hold (.base B) (.tail _ (.head _))
           exact q H' (F' 0) (fun b u nb eb=>o'.same b u (by rw [wC nb]; exact eb)) (y2.less (fun b z=>z.elim (fun z=>(y2.owns b z).1) fun z=>(hb b z).1) fun b z=>.inl z) y4 fun b z=>cutH_none (y5 b z).1
         | _=>cases e
     | _=>cases e
theorem fun_okL {P:Program} {w:World} {K:Frag} {mg:Str->Option Value} {base:Heap} {x qual:Str} {st:Stmt} {f:Addr} {fd:FuncData} {N ps:List Str} {k n:Nat} {F:OT->List D->Option OT} (Fn:Fun K x qual st f fd) (S:FnScope N ps (zH st))
  {g:FS} (hbody:∀ (cdv:Value) (A:Around) (outer:List Env) (s:Shared) (H:Hp) (E:XK),Room k (A.deeper (envOfC qual (zH st) s.heap.objs.size f cdv))->PSsv (cxOf CX0 P w K mg base N qual (zH st) f cdv A outer s H E).nox (qE st) g)
  (hg:∀ T l T',l.length=n->F T l=some T'->lentF g N.length T l=some T') (hn:ps.length=n+1:=by rfl) (hN:0 < N.length:=by decide):FnOk P w K mg base CX0 (k+1) f fd ps (spL K n F):=by
 exact fun_okLG (fun sp a b=>Fn.ok S a b) hbody hg hn hN
structure LCal (P:Program) (w:World) (K:Frag) (mg:Str->Option Value) (base:Heap) (m:Str) (k n:Nat) (cs:List Nat) (F:Nat->OT->List D->Option OT):Prop where
 no:∀ t∈cs,m ∉ clsFlds t
 of:∀ t∈cs,∀ C,PySem.W.nsIn K mainGlobals (clsName t)=some (some (.ref C))->∃ (f:Addr) (fd:FuncData) (ps:List Str),Cls K C/\Meth K C m f/\FnOk P w K mg base CX0 k f fd ps (spL K n (F t))/\Binds K fd ps []
theorem lcal_nil {P:Program} {w:World} {K:Frag} {mg:Str->Option Value} {base:Heap} {m:Str} {k n:Nat} {F:Nat->OT->List D->Option OT} : LCal P w K mg base m k n [] F:=⟨fun _ h=>(nomatch h),fun _ h=>(nomatch h)⟩
theorem lcal_cons {P:Program} {w:World} {K:Frag} {mg:Str->Option Value} {base:Heap} {m:Str} {j k n t:Nat} {cs:List Nat} {F:Nat->OT->List D->Option OT} {C f:Addr} {fd:FuncData} {ps:List Str} (a:PySem.W.nsIn K mainGlobals (clsName t)=some (some (.ref C)))
  (c:Cls K C) (hm:Meth K C m f) (G:FnOk P w K mg base CX0 j f fd ps (spL K n (F t))) (hj:j<=k) (b:Binds K fd ps []) (hn:m ∉ clsFlds t) (h:LCal P w K mg base m k n cs F):LCal P w K mg base m k n (t::cs) F:=by
 refine ⟨fun t' ht=>(List.mem_cons.mp ht).elim (fun e=>e ▸ hn) (h.no t'),fun t' ht C' e=>?_⟩
 rcases List.mem_cons.mp ht with rfl | ht
 · rw [a] at e
   cases e
   exact ⟨f,fd,ps,c,hm,G.mono hj,b⟩
 · exact h.of t' ht C' e
section
variable {X:Cx} {m:Str} {k j n:Nat} {cs:List Nat} {F:Nat->OT->List D->Option OT} {oe e:Expr} {es:List Expr} {apos pos pos':Pos} {f:FP} {g:FA}
theorem lent_sem (M:LCal X.prog X.w X.K X.mg X.base m k n cs F) {ta:TE} {t:TA}
  (hf:∀ H₀ H O σ ds hd q Q,Ok X.K H₀ H O σ ds hd->f ds=some q->(∀ r T v w fs,ds[q.1]? = some (.ob r T)->subO q.2.1 T=some q.2.2->σ[q.1]? = some (some v)->PathV H v q.2.1 w->RepO X.K H O w q.2.2 fs->Q w H)->ta σ H Q)
  (hfg:∀ H₀ H O σ ds hd l Q,Ok X.K H₀ H O σ ds hd->g ds=some l->(∀ vs H',Same H H'->Reps X.K H' O vs l->Q vs H')->t σ H Q)
  {H₀ H:Hp} {O:Addr->Prop} {σ : L2.St} {ds ds':List Sl} {hd:Hold} {Q:VK} (o:Ok X.K H₀ H O σ ds hd) (h1:lentG n cs F f g ds=some (.nx ds')) (q:∀ H' O',Ok X.K H₀ H' O' σ ds' hd->Q .non H'):tMethD X m k ta t σ H Q:=by
 unfold lentG at h1
 obtain ⟨q0,h2,h1⟩:=bnd h1
 obtain ⟨l,h3,h1⟩:=bnd h1
 refine hf H₀ H O σ ds hd q0 _ o h2 fun r T v w fs g1 g2 g3 g4 g5=>?_
 cases hu:q0.2.2 with
 | ins c ts =>
   rw [hu] at h1 g5 g2
   simp only at h1
   split at h1
   · rename_i hc
     cases h4:F c (.ins c ts) l with
     | none=>rw [h4] at h1; cases h1
     | some T' =>
       rw [h4] at h1
       cases h1
       cases g5 with
       | @ins a C dx _ kvs _ fs' cc nn ha ek rr =>
         obtain ⟨fa,fd,ps,cl,hm,Fn,hb⟩:=M.of c hc.1 C cc
         refine ⟨a,C,dx,kvs,fa,fd,ps,_,rfl,ha,jI (by rw [ek]; exact M.no c hc.1),cl,hm,Fn,hb,?_⟩
         refine hfg H₀ H O σ ds hd l _ o h3 fun vs H2 s2 r2=>?_
         have o2:=o.mono s2
         obtain ⟨v',w',f',y1,y2,y3,y4,y5,y6⟩:=o2.modAt g1 g2
         rw [g3] at y1
         cases y1
         cases yI (jX s2 g4) y2
         have ow:∀ b∈f',O b:=fun b z=>(y3.owns b z).1
         let B:Addr->Prop:=fun b=>O b/\b ∉ f'
         have toO:∀ b,orL f' B b->O b:=fun b z=>z.elim (ow b) fun z=>z.1
         refine ⟨a,_,T',f',B,vs,l,rfl,by rw [r2.length]; exact hc.2,y3.less toO (fun b z=>.inl z),y4,fun b z=>⟨z.2,o2.dom b z.1⟩,r2.less toO,h4,fun H' fs2 k1 k2 k3 k4=>?_⟩
         have e':putP q0 T' ds=ds.set q0.1 (.ob r (putO T' q0.2.1 T)):=by simp [putP,g1]
         rw [e'] at q
         refine q H' (orL fs2 B) (y6 ⟨fun b u nb eb=>k1 b u (fun z=>nb (ow b z)) eb,fun b u _ nb eb=>k1 b u nb eb,fun b z nb=>.inr ⟨z,nb⟩,fun b z=>z.elim (fun z=>(k4 b z).elim (fun y=>.inl (ow b y)) fun y=>.inr ⟨z,y⟩) fun z=>.inl z.1,k4⟩ (fun b z y=>y.elim (fun y=>(k2.owns b y).2) fun y=>(y.2 z).elim) k2 k3)
   · cases h1
 | _=>rw [hu] at h1; cases h1
theorem psv_lent {pl:Sem Bool} (M:LCal X.prog X.w X.K X.mg X.base m k n cs F) (hr:Room j X.A) (ho:PVp X oe f) (ha:PAs X (e::es) g) (hj:k<=j:=by decide)
  (hst:starEach (e::es) X.env=(false,eval e X.env)::starEach es X.env:=by rfl) (hpl:(backTo pos (starEach es X.env)).any (·.1)=false:=by rfl)
  (ht:eval (.Call (.Attribute oe m apos) (e::es) [] pos) X.env=(do
    let ov <- eval oe X.env
    standAt apos.atName
    let (f,first) <- holding [ov] (getMethod ov m pl)
    callWith pos f first (backTo pos (starEach (e::es) X.env)) (backToKw pos (keywordEach [] X.env))):=by rfl)
  (hsw:swapsWith (.Call (.Attribute oe m apos) (e::es) [] pos) none pos'.line X.env=pure false:=by rfl):PSv X (.Expr (.Call (.Attribute oe m apos) (e::es) [] pos) pos') (lentG n cs F f g):=by
 obtain ⟨ta,pa,hf⟩:=ho
 obtain ⟨t,pt,hfg⟩:=ha
 refine ⟨_,xW (kE (pl:=pl) (k:=k) pa (hr.mono hj) pt hst hpl ht) hsw,fun H₀ H O σ ds hd out E o e h=>?_⟩
 have:∃ ds',out = .nx ds':=by
  unfold lentG at e
  obtain ⟨q0,h2,e⟩:=bnd e
  obtain ⟨l,h3,e⟩:=bnd e
  split at e
  · split at e
    · rename_i c ts _ _
      cases h4:F c (.ins c ts) l with
      | none=>rw [h4] at e; cases e
      | some T'=>rw [h4] at e; cases e; exact ⟨_,rfl⟩
    · cases e
  · cases e
 obtain ⟨ds',rfl⟩:=this
 exact lent_sem M hf hfg o e fun H' O' o'=>h _ _ _ o'
end
section
variable {K:Frag} {H H' H₀ : Hp} {O O':Addr->Prop}
theorem Ok.putN {σ : L2.St} {ds:List Sl} {hd:Hold} {i:Nat} {r:Option Nat} {T u u':OT} {p:List Nat} {a:Addr} {v:V} (y:MutHO) (o:Ok K H₀ H O σ ds hd) (e:ds[i]? = some (.ob r T)) (hs:subO p T=some u) (hv : σ[i]? = some (some v)) (hp:PathV H v p (.ref a))
  (h:∀ f,RepO K H O (.ref a) u f->f.Nodup->∃ f',O a/\a∈f/\(∀ b∈f',b∈f)/\f'.Nodup/\RepO K (upd H a y.1) O (.ref a) u' f'):Ok K H₀ (upd H a y.1) O σ (ds.set i (.ob r (putO u' p T))) hd:=by
 obtain ⟨v',w',f,y1,y2,y3,y4,y5,y6⟩:=o.modAt e hs
 rw [hv] at y1
 cases y1
 cases yI hp y2
 obtain ⟨f',n,h1,h2,h3,h4⟩:=h f y3 y4
 refine y6 (f':=f') (.ofUpd n h1 h2) (fun b z _=>?_) h4 h3
 by_cases z':b=a
 · rw [z',upd_same]; exact ⟨y,rfl⟩
 · rw [upd_ne z']; exact (y3.owns b z).2
theorem wQ {v:V} {d:D} {k:Key} (r:Rep K H O v d) (e:keyD d=some k):v=kV k:=by
 cases d <;> first | (cases e; done) | skip
 · cases e; cases r; rfl
 · cases e; cases r; rfl
 · cases e; cases r; rfl
theorem kdD_rep {v:V} {d:D} {p:List Key×List D} (r:Rep K H O v d) (e:kdD d=some p):∃ (a:Addr) (kvs:List (Key×V)),v = .ref a/\Rd H a (.dK kvs)/\kvs.map (·.1)=p.1/\Reps K H O (kvs.map (·.2)) p.2:=by
 cases d <;> first | (cases e; done) | skip
 · cases e
   cases r with
   | @dct a kvs _ _ n hb ek rs=>exact ⟨a,kvs,rfl,.inl hb,ek,rs⟩
 · cases e
   cases r with
   | @dcf a o kvs _ _ n hb ek rs=>exact ⟨a,kvs,rfl,.inr ⟨o,hb⟩,ek,rs⟩
theorem valV_get:∀ {kvs:List (Key×V)} {l:List D} {k:Key} {d:D},Reps K H O (kvs.map (·.2)) l->getKD k (kvs.map (·.1)) l=some d->∃ v,valV kvs k=some v/\Rep K H O v d
 | [],_,_,_,_,e=>by simp [getKD] at e
 | (k',v)::r,[],_,_,h,_=>by cases h
 | (k', v) :: r, d' :: l, k, d, .cons h t, e => by
   simp only [List.map_cons,getKD] at e
   by_cases z:k'=k
   · rw [if_pos z] at e
     cases e
     exact ⟨v,wN z,h⟩
   · rw [if_neg z] at e
     obtain ⟨w,h1,h2⟩:=valV_get t e
     exact ⟨w,by simpa [valV,List.find?_cons,z] using h1,h2⟩
theorem valV_some:∀ (kvs:List (Key×V)) (k:Key),(valV kvs k).isSome=hasK k (kvs.map (·.1))
 | [],k=>rfl
 | (k', v) :: r, k => by
   by_cases z:k'=k
   · simp [valV,List.find?_cons,z,hasK]
   · have := valV_some r k
     simp only [valV,hasK] at this ⊢
     rw [List.find?_cons_of_neg (by simpa using z),this]
     simp [z]
theorem putK_keys {kvs:List (Key×V)} {k:Key} {v:V} (h:hasK k (kvs.map (·.1))=true):putK kvs k v=kvs.map (fun kv=>if kv.1=k then (kv.1,v) else kv):=by
 unfold putK
 rw [if_pos]
 rw [hasK,List.any_map] at h
 exact h
theorem wG {kvs:List (Key×V)} {k:Key} {v:V} (h : ¬ hasK k (kvs.map (·.1))=true):putK kvs k v=kvs++[(k,v)]:=by
 unfold putK
 rw [if_neg]
 rw [hasK,List.any_map] at h
 exact h
theorem putK_map1 (kvs:List (Key×V)) (k:Key) (v:V):(kvs.map (fun kv=>if kv.1=k then (kv.1,v) else kv)).map (·.1)=kvs.map (·.1):=by
 rw [List.map_map]
 refine List.map_congr_left fun kv _=>?_
 simp only [Function.comp]
 split <;> rfl
theorem RepsO.putTs {k:Key} {v:V} {d:D} (r:Rep K H O v d):∀ {kvs:List (Key×V)} {ts:List OT} {fs:List Addr},RepsO K H O (kvs.map (·.2)) ts fs->∃ fs':List Addr,fs'.Sublist fs/\RepsO K H O ((kvs.map (fun kv=>if kv.1=k then (kv.1,v) else kv)).map (·.2)) (FL.putTs k (.val d) (kvs.map (·.1)) ts) fs'
 | [],_,_,.nil=>⟨[],.slnil,.nil⟩
 | (k', w) :: kvs, _, _, .cons (t := t) (ts := ts) (fs := fs) (gs := gs) h q => by
   obtain ⟨gs',h1,h2⟩:=RepsO.putTs r q
   by_cases z:k'=k
   · refine ⟨gs', h1.trans (List.sublist_append_right _ _), ?_⟩
     simp only [List.map_cons,z,if_true,FL.putTs]
     exact .cons (fs:=[]) (.val r) h2
   · refine ⟨fs ++ gs', h1.append_left _, ?_⟩
     simp only [List.map_cons,z,if_false,FL.putTs]
     exact .cons h h2
end
section
variable {X:Cx} {i:Nat}
theorem pvo_dnew {pos:Pos} : PVo X (.Dict [] [] pos) dO0:=by
 refine ⟨_,pe_dnewK,fun H₀ H O σ ds hd T Q o e q=>fun p hp=>?_⟩
 cases e
 exact q _ _ [p] (zX hp _) (.dct (kvs:=[]) (.inl (.head _)) upd_same rfl .nil) (by simp) fun b hb=>by rw [List.mem_singleton.mp hb]; exact hp
theorem psv_dput {oe ke e:Expr} {pos pos':Pos} {f:FP} {fk fv:FE} {j:Nat} (hr:Room j X.A) (ho:PVp X oe f) (hk:PV X ke fk) (he:PV X e fv) (hs:swapsWith e (some (.Subscript oe ke pos')) pos.line X.env=pure false:=by rfl) :
  PSv X (.Assign [.Subscript oe ke pos'] e pos) (dputG f fk fv):=by
 obtain ⟨tp,hp,hf⟩:=ho
 obtain ⟨tk,pk,hk⟩:=hk
 obtain ⟨te,pe,he⟩:=he
 refine ⟨_,ps_dput (Nat.lt_of_le_of_lt (by omega) (hu100 hr)) hp pk pe hs,fun H₀ H O σ ds hd out E o e h=>?_⟩
 unfold dputG at e
 obtain ⟨d,h1,e⟩:=bnd e
 obtain ⟨q,h2,e⟩:=bnd e
 obtain ⟨y,h3,e⟩:=bnd e
 obtain ⟨k,h4,e⟩:=bnd e
 refine he H₀ H O σ ds hd d _ o h1 fun v H1 s1 r1=>?_
 refine hf H₀ H1 O σ ds hd q _ (o.mono s1) h2 fun r T v0 w fs g1 g2 g3 g4 g5=>?_
 refine hk H₀ H1 O σ ds hd y _ (o.mono s1) h3 fun yv H2 s2 r2=>?_
 have o2:=(o.mono s1).mono s2
 cases hq:q.2.2 with
 | dct ks ts =>
   rw [hq] at e g2 g5
   simp only at e
   split at e
   · rename_i hl
     cases e
     cases g5 with
     | @dct a kvs _ _ fs' n hb ek rs =>
       have hb2:=s2 _ _ hb
       cases wQ r2 h4
       have ln:kvs.length < sizeLine:=by rw [<- ek] at hl; simpa using hl
       refine ⟨a,_,rfl,DPut.k hb2 ln,?_⟩
       have e':putP q (putKT k (.val d) ks ts) ds=ds.set q.1 (.ob r (putO (putKT k (.val d) ks ts) q.2.1 T)):=by simp [putP,g1]
       rw [e'] at h
       refine h _ _ _ (Ok.putN ⟨.dK (putK kvs k v),rfl⟩ o2 g1 g2 g3 (jX s2 g4) fun f2 k1 k2=>?_)
       cases k1 with
       | @dct _ kvs2 _ _ fs2 n2 hb3 ek2 rs2 =>
         rw [hb2] at hb3
         cases hb3
         obtain ⟨n3,n4⟩:=List.nodup_cons.mp k2
         have c:Chg H2 (upd H2 a (.dK (putK kvs k v))) O O [a] [a]:=.ofUpd n (.head _) fun _ z=>z
         have rs3:=c.repsO rs2 fun b z y=>n3 (List.mem_singleton.mp y ▸ z)
         have rv:=c.rep (r1.mono s2)
         unfold putKT
         by_cases hm:hasK k ks=true
         · rw [if_pos hm]
           have hm':hasK k (kvs.map (·.1))=true:=by rw [ek]; exact hm
           obtain ⟨fs3,w1,w2⟩:=RepsO.putTs (k:=k) rv rs3
           refine ⟨a::fs3,n,.head _,fun b z=>(List.mem_cons.mp z).elim (fun z=>by rw [z]; exact .head _) fun z=>.tail _ (w1.subset z),List.nodup_cons.mpr ⟨fun z=>n3 (w1.subset z),w1.nodup n4⟩,?_⟩
           refine .dct n upd_same ?_ ?_
           · rw [putK_keys hm',putK_map1,ek]
           · have z := congrArg (List.map (·.2)) (putK_keys (v := v) hm')
             rw [ek] at w2
             rw [<- z] at w2
             exact w2
         · rw [if_neg hm]
           have hm' : ¬ hasK k (kvs.map (·.1))=true:=by rw [ek]; exact hm
           refine ⟨a::fs2,n,.head _,fun b z=>z,k2,?_⟩
           refine .dct n upd_same ?_ ?_
           · rw [wG hm']; simp [ek]
           · have z : (putK kvs k v).map (·.2) = kvs.map (·.2) ++ [v] := by rw [wG hm']; simp
             rw [z]
             exact rs3.snoc rv
   · cases e
 | _=>rw [hq] at e; cases e
theorem pv_dget {oe ke:Expr} {pos:Pos} {fd fk:FE} {j:Nat} (hr:Room j X.A) (ho:PV X oe fd) (hk:PV X ke fk) (hs:NoSl ke:=by exact fun _ _=>rfl):PV X (.Subscript oe ke pos) (dgetG fd fk):=by
 obtain ⟨td,pd,hd'⟩:=ho
 obtain ⟨tk,pk,hk⟩:=hk
 refine ⟨_,pe_dget (Nat.lt_of_le_of_lt (by omega) (hu100 hr)) pd pk hs,fun H₀ H O σ ds hd d Q o e q=>?_⟩
 unfold dgetG at e
 obtain ⟨x,h1,e⟩:=bnd e
 obtain ⟨y,h3,e⟩:=bnd e
 obtain ⟨k,h4,e⟩:=bnd e
 refine hd' H₀ H O σ ds hd x _ o h1 fun v H1 s1 r1=>?_
 refine hk H₀ H1 O σ ds hd y _ (o.mono s1) h3 fun yv H2 s2 r2=>?_
 obtain ⟨p,h6,e⟩:=bnd e
 obtain ⟨a,kvs,rfl,hb,ek,rs⟩:=kdD_rep (r1.mono s2) h6
 cases wQ r2 h4
 rw [<- ek] at e
 obtain ⟨w,h5,h6⟩:=valV_get rs e
 exact ⟨a,w,rfl,.inl ⟨kvs,k,hb,rfl,h5.symm⟩,q w H2 (s1.trans s2) h6⟩
theorem ptv_dnot {oe ke:Expr} {pos:Pos} {fd fk:FE} {j:Nat} (hr:Room j X.A) (hk:PVn X ke fk) (ho:PVn X oe fd) (hm:behindInMarks .NotIn oe=false:=by rfl):PTv X (.Compare ke [.NotIn] [oe] pos) (dnotG fk fd):=by
 obtain ⟨td,pd,hd'⟩:=ho
 obtain ⟨tk,pk,hk⟩:=hk
 refine ⟨_,pt_cmp (pc_dnotin (Nat.lt_of_le_of_lt (by omega) (hu100 hr)) pk pd) hm,fun H₀ H O σ ds hd b Q o e q=>?_⟩
 unfold dnotG dinG at e
 cases h3:fk ds with
 | none=>rw [h3] at e; cases e
 | some y =>
   rw [h3] at e
   simp only [Option.bind_some] at e
   cases h4:keyD y with
   | none=>rw [h4] at e; cases e
   | some k =>
     rw [h4] at e
     simp only [Option.bind_some] at e
     cases h1:fd ds with
     | none=>rw [h1] at e; cases e
     | some x =>
       rw [h1] at e
       simp only [Option.bind_some] at e
       refine hk H₀ H O σ ds hd y _ o h3 fun yv H1 s1 r1=>?_
       refine hd' H₀ H1 O σ ds hd x _ (o.mono s1) h1 fun v H2 s2 r2=>?_
       cases h6:kdD x with
       | none=>rw [h6] at e; cases e
       | some p =>
         rw [h6] at e
         cases e
         obtain ⟨a,kvs,rfl,hb,ek,rs⟩:=kdD_rep r2 h6
         cases wQ r1 h4
         refine ⟨a,_,rfl,.inl ⟨kvs,k,hb,rfl,rfl⟩,_,rfl,?_⟩
         rw [valV_some,ek]
         exact q H2 (s1.trans s2)
end
end FL
namespace L2
open PySem PySem.Spec PyProof.Rows
section
variable {X:Cx}
theorem Inv.freezeD {pins:List (Addr×Obj)} {σ : L2.St} {H:Hp} {s:Shared} {a:Addr} {kvs:List (Key×V)} (I:Inv X pins σ H s) (e:H a=some (.dK kvs)):∃ o,Inv X pins σ (upd H a (.frz o (.dK kvs))) s:=by
 obtain ⟨z,hd,vs,rel,dd⟩:=dk_of I.hok e
 obtain ⟨o,es,ep,ho,r⟩:=id dd
 exact ⟨o,d_write (h':=s.heap) (t':=s.toks) (ob:=.frz o (.dK kvs)) I (by rw [e]; trivial) ⟨rfl,fun _ _=>rfl⟩ ⟨o,ho⟩ ⟨ho,z,hd,vs,rel,dd⟩⟩
end
theorem frz_dictAt {X:Cx} {pins:List (Addr×Obj)} {σ : L2.St} {H:Hp} {s:Shared} {d:Addr} {o:Obj} {kvs:List (Key×V)} {es:Array DictEntry} {ep:Nat} (I:Inv X pins σ H s) (hd:H d=some (.frz o (.dK kvs))) (dat:o.data = .dict es ep):∃ vs,KV kvs vs/\s.heap.DictAt (mixKind X.prog X.w) d vs ep:=by
 obtain ⟨ho,z,hds,vs,rel,o',es',ep',e1,ex,dat',r⟩:=I.hok d _ hd
 rw [ho] at e1
 cases e1
 rw [dat] at dat'
 cases dat'
 exact ⟨vs,rel,o,es,ho,ex,dat,r⟩
theorem KV.get {κ : Type} {kvs:List (κ×V)} {vs:List (κ×Value)} {i:Nat} {k : κ} {x:V} (h:KV kvs vs) (e:kvs[i]? = some (k,x)):∃ u,vs[i]? = some (k,u)/\RelV x u:=by
 unfold KV at h
 induction h generalizing i with
 | nil=>simp at e
 | @cons p q _ _ h _ ih =>
   cases i with
   | zero =>
     simp only [List.getElem?_cons_zero,Option.some.injEq] at e
     subst e
     exact ⟨q.2,by simp only [List.getElem?_cons_zero]; rw [show q=(k,q.2) from Prod.ext h.1.symm rfl],h.2⟩
   | succ i =>
     simp only [List.getElem?_cons_succ] at e ⊢
     exact ih e
section
variable {X:Cx}
end
end L2
namespace FL
open PySem PySem.Spec PyProof.Rows L2
section
variable {K:Frag} {H H' H₀ : Hp} {O O':Addr->Prop}
end
section
variable {X:Cx}
def WlkD (K:Frag) (J:It) (h:HI) (items:List D):Prop:=∀ H₀ H O,(∀ a,O a->∃ u:MutHO,H a=some u.1)->HOk K H₀ H O h →
 (∀ i d,items[i]? = some d->J.go i H/\∀ x H',J.yld i H x H'->Same H H'/\Rep K H' O x d)/\J.stop items.length H
variable (X) in
def PId (tg iter:Expr) (fi:FA):Prop:=∃ wi,PI X tg iter wi/\∀ H₀ H O σ ds hd items R,Ok X.K H₀ H O σ ds hd->fi ds=some items →
 (∀ J p H',Same H H'->HOk X.K H₀ H' O p->(∀ k a,HI.root k a≠p)->(∀ B,HI.base B≠p)->WlkD X.K J p items->R J H')->wi σ H R
theorem kV_rep {K:Frag} {H:Hp} {O:Addr->Prop} : ∀ k:Key,Rep K H O (kV k) (keyDD k)
 | .inl (some i)=>.int i
 | .inl none=>.non
 | .inr x=>.str x
end
section
variable {K:Frag} {H H' H₀ : Hp} {O O':Addr->Prop}
theorem RepsO.snocO:∀ {xs:List V} {ts:List OT} {fs:List Addr} {v:V} {T:OT} {f:List Addr},RepsO K H O xs ts fs->RepO K H O v T f->RepsO K H O (xs++[v]) (ts++[T]) (fs++f)
 | _, _, _, _, _, f, .nil, r => by
   have:=RepsO.cons (gs:=[]) r .nil
   simpa using this
 | _, _, _, _, _, _, .cons (fs := fs) (gs := gs) h t, r => by
   rw [List.append_assoc]
   exact .cons h (RepsO.snocO t r)
end
section
variable {X:Cx}
theorem psv_setNew {oe e:Expr} {n:Str} {pos pos':Pos} {f:FP} {g:FO} {t t':Nat} (hF:∀ C,PySem.W.nsIn X.K mainGlobals (clsName t)=some (some (.ref C))->Cls X.K C/\NoAttr X.K C n) (ho:PVp X oe f) (he:PVo X e g)
  (hn:clsName t'=clsName t:=by rfl) (hfl:clsFlds t'=clsFlds t++[n]:=by rfl) (hnew:n ∉ clsFlds t:=by decide +kernel) (hs:swapsWith e (some (.Attribute oe n pos')) pos.line X.env=pure false:=by rfl) :
  PSv X (.Assign [.Attribute oe n pos'] e pos) (setNw t t' f g):=by
 obtain ⟨tp,hp,hfp⟩:=ho
 obtain ⟨tv,hv,hg⟩:=he
 refine ⟨_,ps_fld hp hv hs,fun H₀ H O σ ds hd out E o e h=>?_⟩
 unfold setNw at e
 cases h1:g ds with
 | none=>rw [h1] at e; cases e
 | some T =>
   rw [h1] at e
   simp only [Option.bind_some] at e
   cases h2:f ds with
   | none=>rw [h2] at e; cases e
   | some q =>
     rw [h2] at e
     simp only [Option.bind_some] at e
     refine hg H₀ H O σ ds hd T _ o h1 fun v H1 fs s1 r1 nd1 n1=>?_
     have o1:Ok X.K H₀ H1 (orL fs O) σ ds hd:=o.moreL s1 n1 fun b hb=>(r1.owns b hb).2
     refine hfp H₀ H1 (orL fs O) σ ds hd q _ o1 h2 fun r T0 v0 w fs0 g1 g2 g3 g4 g5=>?_
     obtain ⟨v',w',f',y1,y2,y3,y4,y5,y6⟩:=o.modAt g1 g2
     rw [g3] at y1
     cases y1
     cases yI g4 (jX s1 y2)
     cases hq:q.2.2 with
     | ins c l =>
       rw [hq] at y3 e
       simp only at e
       split at e
       · rename_i hk
         obtain ⟨rfl,hk⟩:=hk
         cases e
         cases y3 with
         | @ins a C dx _ kvs _ fs' cc na ha ek rs =>
           obtain ⟨cl,nat⟩:=hF C cc
           have ln:kvs.length=l.length:=by simpa using rs.length
           refine ⟨a,C,dx,kvs,rfl,s1 _ _ ha,cl,nat,by omega,?_⟩
           obtain ⟨n3,n4⟩:=List.nodup_cons.mp y4
           have old:∀ b,H b=none->b ∉ a::fs':=fun b hb z=>by
            rcases List.mem_cons.mp z with z | z
            · rw [z,ha] at hb; cases hb
            · obtain ⟨_, x, ex⟩ := rs.owns b z
              rw [hb] at ex; cases ex
           have afs:a ∉ fs:=fun z=>by rw [n1 a z] at ha; cases ha
           have pn:putF n v kvs=kvs++[(n,v)]:=putF_new (by rw [ek]; exact hnew)
           have hs':∀ b u,b≠a->H b=some u->upd H1 a (.ins C dx (putF n v kvs)) b=some u:=fun b u nb eb=>by rw [L2.upd_ne nb]; exact s1 _ _ eb
           have nO:∀ {b:Addr},¬ O b->b≠a:=fun nb z=>nb (by rw [z]; exact na)
           have c0:Chg H (upd H1 a (.ins C dx (putF n v kvs))) O (orL fs O) [a] (a::fs) :=
            ⟨fun b u nb eb=>hs' b u (nO nb) eb,fun b u _ nb eb=>hs' b u (fun z=>nb (by rw [z]; exact .head _)) eb,fun b z _=>.inr z,fun b z=>z.elim (fun z=>.inr ⟨.tail _ z,n1 b z⟩) .inl,fun b z=>(List.mem_cons.mp z).elim (fun z=>.inl (by rw [z]; exact .head _)) fun z=>.inr (n1 b z)⟩
           have rT:RepO X.K (upd H1 a (.ins C dx (putF n v kvs))) (orL fs O) v T fs:=r1.keep (fun b u nb eb=>by rw [L2.upd_ne (nO fun z=>nb (.inr z))]; exact eb) fun b hb u eb=>by
            have z:b≠a:=fun z=>afs (by rw [<- z]; exact hb)
            rw [L2.upd_ne z]; exact eb
           have rs':=(c0.repsO rs fun b hb z=>n3 (List.mem_singleton.mp z ▸ hb)).snocO rT
           have ok:=y6 (H':=upd H1 a (.ins C dx (putF n v kvs))) (O':=orL fs O) (u':=.ins t' (l++[T])) (f':=a::(fs'++fs))
            ⟨fun b u nb eb=>hs' b u (nO nb) eb,fun b u _ nb eb=>hs' b u (fun z=>nb (by rw [z]; exact .head _)) eb,fun b z _=>.inr z,fun b z=>z.elim (fun z=>.inr ⟨.tail _ (List.mem_append_right _ z),n1 b z⟩) .inl,fun b z=>?_⟩
            (fun b z _=>?_) (.ins (by rw [hn]; exact cc) (.inr na) upd_same (by rw [pn,hfl,<- ek]; simp) (by rw [show (putF n v kvs).map (·.2)=kvs.map (·.2)++[v] by rw [pn]; simp]; exact rs')) (List.nodup_cons.mpr ⟨fun z=>?_,?_⟩)
           · have e' : putP q (.ins t' (l ++ [T])) ds = ds.set q.1 (.ob r (putO (.ins t' (l ++ [T])) q.2.1 T0)) := by simp [putP, g1]
             rw [e'] at h
             exact h _ _ _ ok
           · rcases List.mem_cons.mp z with z | z
             · exact .inl (by rw [z]; exact .head _)
             · rcases List.mem_append.mp z with z | z
               · exact .inl (.tail _ z)
               · exact .inr (n1 b z)
           · by_cases z' : b = a
             · rw [z',upd_same]; exact ⟨⟨.ins C dx (putF n v kvs),rfl⟩,rfl⟩
             · rcases List.mem_cons.mp z with q' | q'
               · exact (z' q').elim
               · obtain ⟨_, y, ey⟩ := rs.owns b q'
                 exact ⟨y,hs' b _ z' ey⟩
           · rcases List.mem_append.mp z with z | z
             · exact n3 z
             · exact afs z
           · rw [List.nodup_append]
             refine ⟨n4,nd1,fun x hx y hy z=>old x (by rw [z]; exact n1 y hy) (.tail _ hx)⟩
       · cases e
     | _=>rw [hq] at e; cases e
structure LMk (P:Program) (w:World) (K:Frag) (mg:Str->Option Value) (base:Heap) (t k n m:Nat) (F:OT->List D->Option OT):Prop where
 ex:∃ (C f:Addr) (fd:FuncData) (ps:List Str),PySem.W.nsIn K mainGlobals (clsName t)=some (some (.ref C))/\mg (clsName t)=some (.ref C)/\Mk K C f/\FnOk P w K mg base CX0 k f fd ps (spL K n F)/\Binds K fd ps (List.replicate m .none)
theorem vals_non:∀ m:Nat,Vals (List.replicate m V.non) (List.replicate m Value.none)
 | 0=>.nil
 | m+1=>.cons rfl (vals_non m)
theorem reps_non {K:Frag} {H:Hp} {O:Addr->Prop} : ∀ m:Nat,Reps K H O (List.replicate m V.non) (List.replicate m D.non)
 | 0=>.nil
 | m+1=>.cons .non (reps_non m)
theorem make_semL {t n m:Nat} {F:OT->List D->Option OT} {g:FA} {C:Addr} {ta:TA} {T:OT} {H₀ H:Hp} {O:Addr->Prop} {σ : L2.St} {ds:List Sl} {hd:Hold} {Q:VK} (hc:PySem.W.nsIn X.K mainGlobals (clsName t)=some (some (.ref C))) (hfl:clsFlds t=[])
  (hfa:∀ H₀ H O σ ds hd l Q,Ok X.K H₀ H O σ ds hd->g ds=some l->(∀ vs H',Same H H'->Reps X.K H' O vs l->Q vs H')->ta σ H Q) (o:Ok X.K H₀ H O σ ds hd) (h1:makeO t n m F g ds=some T)
  (q:∀ v H' fs,Same H H'->RepO X.K H' (orL fs O) v T fs->fs.Nodup->(∀ b∈fs,H b=none)->Q v H'):tMake C (spL X.K n F) (List.replicate m .non) E0 ta σ H Q:=by
 unfold makeO at h1
 obtain ⟨l,h2,h1⟩:=bnd h1
 split at h1
 · rename_i hl
   refine hfa H₀ H O σ ds hd l _ o h2 fun vs H1 s1 r1=>?_
   intro x dx nx ndx nex
   have s2:Same H1 (upd (upd H1 dx (.own x)) x (.ins C dx [])):=fun b o e=>by
    rw [upd_ne (qV e nx),upd_ne (qV e ndx)]
    exact e
   have o1:=o.mono s1
   have rl:=r1.length
   refine ⟨x,.ins t [],T,[x],O,vs++List.replicate m .non,l++List.replicate m .non,rfl,by simp; omega,.ins (kvs:=[]) (fs:=[]) hc (.inl (.head _)) upd_same (by rw [hfl]; rfl) .nil,by simp,fun b hb=>?_,?_,h1,fun H' fs' k1 k2 k3 k4=>⟨rfl,q _ H' fs' (fun b u eb=>?_) k2 k3 fun b hb=>?_⟩⟩
   · obtain ⟨u, eu⟩ := o1.dom b hb
     exact ⟨(fun z=>by rw [List.mem_singleton.mp z,nx] at eu; cases eu),u,s2 _ _ eu⟩
   · exact ((r1.moreL (ps:=[x]) fun p hp=>by rw [List.mem_singleton.mp hp]; exact nx).mono s2).append (reps_non m)
   · have e1 := s1 _ _ eb
     exact k1 b u (fun z=>by rw [List.mem_singleton.mp z,nx] at e1; cases e1) (s2 _ _ e1)
   · rcases k4 b hb with z | z
     · rw [List.mem_singleton.mp z]; exact s1.free nx
     · exact s1.free (s2.free z)
 · cases h1
section
variable {t k j n m:Nat} {F:OT->List D->Option OT} {x:Str} {p pos:Pos} {e:Expr} {es:List Expr} {g:FA}
theorem pvo_make (M:LMk X.prog X.w X.K X.mg X.base t k n m F) (hr:Room j X.A) (ha:PAs X (e::es) g) (hj:k+1<=j:=by decide) (hx:clsName t=x:=by rfl) (hfl:clsFlds t=[]:=by rfl)
  (hg:Gl X x:=by rfl) (hdb:(x == ("__debug__" : Str))=false:=by decide) (he:starEach (e::es) X.env=(false,eval e X.env)::starEach es X.env:=by rfl) (hpl:(backTo pos (starEach es X.env)).any (·.1)=false:=by rfl) :
  PVo X (.Call (.Name x p) (e::es) [] pos) (makeO t n m F g):=by
 obtain ⟨C,f,fd,ps,hc,hm,mk,Fn,hb⟩:=M.ex
 obtain ⟨ta,pa,hfa⟩:=ha
 subst hx
 exact ⟨_,pe_make (CX:=CX0) (E:=E0) mk Fn (hr.mono hj) hg hm hb (vals_non m) pass0 pa hdb he hpl,fun H₀ H O σ ds hd T Q o e q=>make_semL hc hfl hfa o e q⟩
end
end
section
variable {X:Cx}
section
variable {m:Str} {k j n:Nat} {cs:List Nat} {F:Nat->OT->List D->Option OT} {oe e:Expr} {es:List Expr} {apos pos pos':Pos} {f:FP} {g:FA}
end
end
end FL
namespace L2
open PySem PySem.Spec PyProof.Rows
section
variable {X:Cx}
theorem vals_strs2:∀ {us:List Value} {ns:List Str},StrsAre us ns->Vals (ns.map V.str) us
 | _,_,.nil=>.nil
 | _,_,.cons n t h=>.cons ⟨t,rfl⟩ (vals_strs2 h)
end
end L2
namespace FL
open PySem PySem.Spec PyProof.Rows L2
section
variable {X:Cx}
end
end FL
namespace L2
open PySem PySem.Spec PyProof.Rows
section
variable {X:Cx}
end
end L2
namespace FL
open PySem PySem.Spec PyProof.Rows L2
section
variable {X:Cx}
end
section
variable {X:Cx}
theorem Ok.look {K:Frag} {H₀ H:Hp} {O:Addr->Prop} {σ : L2.St} {ds:List Sl} {hd:Hold} (o:Ok K H₀ H O σ ds hd) (i:Nat):∃ O',Ok K H₀ H O' σ (relO i ds) hd:=by
 by_cases hs:∃ r T,ds[i]? = some (.ob r T)
 · obtain ⟨r, T, hl⟩ := hs
   have e':relO i ds=ds.set i (.v (otD T)):=by unfold relO; rw [hl]
   rw [e']
   exact o.frz hl
 · have e':relO i ds=ds:=by
    unfold relO
    split
    · rename_i r T hl; exact (hs ⟨r,T,hl⟩).elim
    · rfl
   rw [e']
   exact ⟨O,o⟩
end
abbrev LkF (K:Frag) (f:Addr) (oc:Value) (od:Option Addr) (nm q:Str) (st:Stmt) (dV kV dc pm:Value) (an:Option Addr) (cd ct:Value) (sl:Array (Option Value)):Prop:=K.lookup f=some ⟨oc,od,.func (PySem.W.fnOf nm q (jU st) (qE st) (zH st) dV kV dc pm an cd ct),sl⟩
structure FunD (K:Frag) (x qual:Str) (st:Stmt) (f:Addr) (fd:FuncData) (its:Array Value):Prop where
 ex:∃ (Tu:Addr) (ob:Obj) (n:Nat) (oc:Value) (od:Option Addr) (kV doc pm:Value) (an:Option Addr) (cdv ct:Value) (osl:Array (Option Value)),
  fd=PySem.W.fnOf x qual (jU st) (qE st) (zH st) (.ref Tu) kV doc pm an cdv ct/\K.lookup f=some ⟨oc,od,.func fd,osl⟩/\PySem.W.codeIn K cdv qual=true/\K.lookup Tu=some ob/\ob.data = .seq its n
 kp:PySem.W.keepIn K (.ref f)=true
section
variable {P:Program} {w:World} {K:Frag} {mg:Str->Option Value} {base:Heap} {x qual:Str} {st:Stmt} {f:Addr} {fd:FuncData} {its:Array Value}
theorem FunD.binds {ps:List Str} {ds:List Value} (F:FunD K x qual st f fd its)
  (h:∀ (Tu:Addr) (kV doc pm:Value) (an:Option Addr) (cdv ct:Value) (us:List Value),(us++ds).length=ps.length->∃ k:Option (Array Value)->Sem (List (Str×Value)),bindArgs (PySem.W.fnOf x qual (jU st) (qE st) (zH st) (.ref Tu) kV doc pm an cdv ct) ⟨us,[]⟩=seqItems? (.ref Tu) >>= k/\k (some its)=pure (ps.zip (us++ds))):Binds K fd ps ds:=by
 obtain ⟨Tu,ob,n,oc,od,kV,doc,pm,an,cdv,ct,osl,rfl,lk,hcd,lt,hs⟩:=F.ex
 intro s us X hl
 obtain ⟨k,h1,h2⟩:=h Tu kV doc pm an cdv ct us hl
 exact PySem.W.binds_K X rfl lt hs h1 h2
theorem len0 {P:List Value->Prop} (h:P []):∀ us:List Value,us.length=0->P us:=fun us hl=>by cases us with | nil=>exact h | cons _ _=>cases hl
theorem lenS {P:List Value->Prop} {n:Nat} (h:∀ a us,us.length=n->P (a::us)):∀ us:List Value,us.length=n+1->P us:=fun us hl=>by cases us with | nil=>cases hl | cons a r=>exact h a r (Nat.succ.inj hl)
theorem len1 {P:List Value->Prop} (h:∀ a0,P [a0]):∀ us:List Value,us.length=1->P us:=lenS fun a=>len0 (P:=fun us=>P (a::us)) (h a)
theorem len2 {P:List Value->Prop} (h:∀ a0 a1,P [a0,a1]):∀ us:List Value,us.length=2->P us:=lenS fun a=>len1 (P:=fun us=>P (a::us)) (h a)
theorem len3 {P:List Value->Prop} (h:∀ a0 a1 a2,P [a0,a1,a2]):∀ us:List Value,us.length=3->P us:=lenS fun a=>len2 (P:=fun us=>P (a::us)) (h a)
theorem len4 {P:List Value->Prop} (h:∀ a0 a1 a2 a3,P [a0,a1,a2,a3]):∀ us:List Value,us.length=4->P us:=lenS fun a=>len3 (P:=fun us=>P (a::us)) (h a)
theorem len5 {P:List Value->Prop} (h:∀ a0 a1 a2 a3 a4,P [a0,a1,a2,a3,a4]):∀ us:List Value,us.length=5->P us:=lenS fun a=>len4 (P:=fun us=>P (a::us)) (h a)
def DefM (K:Frag) (x:Str) (st:Stmt) (f:Addr):Prop:=∃ (oc:Value) (od:Option Addr) (kV dc pm:Value) (an:Option Addr) (cd ct:Value) (sl:Array (Option Value)),PySem.W.nsIn K mainGlobals x=some (some (.ref f))/\LkF K f oc od x x st .none kV dc pm an cd ct sl/\PySem.W.codeIn K cd x=true/\PySem.W.keepIn K (.ref f)=true
def DefC (K:Frag) (C:Addr) (m q:Str) (st:Stmt) (f:Addr):Prop:=∃ (oc:Value) (od:Option Addr) (kV dc pm:Value) (an:Option Addr) (cd ct:Value) (sl:Array (Option Value)),PySem.W.findIn K (.ref C) m=some (some (.ref f))/\LkF K f oc od m q st .none kV dc pm an cd ct sl/\PySem.W.codeIn K cd q=true/\PySem.W.keepIn K (.ref f)=true/\PySem.W.isFn K (.ref f)=true
theorem DefM.get {x:Str} {st:Stmt} {f:Addr} (h:DefM K x st f):∃ fd,Fun K x x st f fd/\PySem.W.nsIn K mainGlobals x=some (some (.ref f))/\PySem.W.keepIn K (.ref f)=true:=by
 obtain ⟨_,_,_,_,_,_,_,_,_,a,l,c,k⟩:=h
 exact ⟨_,fun_mk l c k,a,k⟩
theorem DefC.get {C:Addr} {m q:Str} {st:Stmt} {f:Addr} (h:DefC K C m q st f):∃ fd,Fun K m q st f fd/\PySem.W.findIn K (.ref C) m=some (some (.ref f))/\PySem.W.keepIn K (.ref f)=true/\PySem.W.isFn K (.ref f)=true:=by
 obtain ⟨_,_,_,_,_,_,_,_,_,a,l,c,k,i⟩:=h
 exact ⟨_,fun_mk l c k,a,k,i⟩
theorem cal_mk {k n:Nat} {x:Str} {f:Addr} {fd:FuncData} {ps:List Str} {F:List D->Option Ret} (G:FnOk P w K mg base CX0 k f fd ps (spF K n F)) (b:Binds K fd ps []) (h:PySem.W.keepIn K (.ref f)=true) (m:mg x=some (.ref f)):Cal P w K mg base x k n F:=⟨f,_,_,G,b,h,m⟩
structure SysAt (P:Program) (w:World) (base:Heap) (K:Frag) (mg:Str->Option Value):Prop where
 ex:∃ h:Heap,K.In h/\h.Ns mainGlobals mg
def CN (K:Frag) (x:Str) (C:Addr):Prop:=PySem.W.nsIn K mainGlobals x=some (some (.ref C))/\PySem.W.plainGet K C Str.empty=true/\PySem.W.hasDictIn K C=true/\PySem.W.plainOver K C=true/\PySem.W.findIn K (.ref C) "__setattr__" = some (some (.builtin "object.__setattr__"))
theorem CN.get {C:Addr} (h:CN K x C):PySem.W.nsIn K mainGlobals x=some (some (.ref C))/\Cls K C:=⟨h.1,⟨h.2.1,h.2.2.1,h.2.2.2.1,h.2.2.2.2⟩⟩
theorem fldOk_c {f:Str} {t i:Nat} {C:Addr} {ix:List (Nat×Nat)} (a:PySem.W.nsIn K mainGlobals (clsName t)=some (some (.ref C))) (c:Cls K C) (n:NoAttr K C f) (h:FldOk K f ix) (h1:(clsFlds t)[i]? = some f:=by rfl) (h2:∀ j,j < i->(clsFlds t)[j]?≠some f:=by decide +kernel):FldOk K f ((t,i)::ix):=fldOk_cons a c n h1 h2 h
def XN (K:Frag) (A B:Addr):Prop:=PySem.W.isClsIn K B=true/\PySem.W.typeIn K (.ref B)=some (.type "type")/\PySem.W.subIn K (.ref A) (.ref B)=some false/\(Value.ref A == Value.ref B)=false
theorem XN.k {A B:Addr} (h:XN K A B):PySem.W.kitOne K (.ref A) (.ref B)=some false:=kit_no h.1 h.2.1 h.2.2.1 h.2.2.2
def XI (K:Frag) (x:Str) (C:Addr):Prop:=PySem.W.nsIn K mainGlobals x=some (some (.ref C))/\PySem.W.findIn K (.ref C) "__getattribute__" = some (some (.builtin "BaseException.__getattribute__"))/\PySem.W.findIn K (.ref C) "__getattr__" = some none/\PySem.W.findIn K (.ref C) "__class__" = some (some (.builtin "object.__class__"))/\PySem.W.mroIn K C (.type "object")=some true/\PySem.W.mroIn K C (.type "BaseException")=some true
theorem XI.i {C:Addr} (h:XI K x C):XIn K C:=⟨h.2.1,h.2.2.1,h.2.2.2.1,h.2.2.2.2.1,h.2.2.2.2.2⟩
theorem isx_c {cv:Value} {t:Nat} {b:Bool} {C:Addr} {tb:List (Nat×Bool)} (y:XI K (xName t) C) (k:PySem.W.kitOne K (.ref C) cv=some b) (r:IsxOk K cv tb):IsxOk K cv ((t,b)::tb):=isx_cons y.1 y.i k r
theorem DefM.cal {k n:Nat} {x:Str} {st:Stmt} {f:Addr} {ps:List Str} {F:List D->Option Ret} (d:DefM K x st f) (X:SysAt P w base K mg) (hf:∀ {fd},Fun K x x st f fd->FnOk P w K mg base CX0 k f fd ps (spF K n F))
  (hb:∀ (kV doc pm:Value) (an:Option Addr) (cdv ct:Value) (us:List Value),us.length=ps.length->bindArgs (PySem.W.fnOf x x (jU st) (qE st) (zH st) .none kV doc pm an cdv ct) ⟨us,[]⟩=pure (ps.zip us):=by
    intro _ _ _ _ _ _; first | exact len0 rfl | exact len1 fun _=>rfl | exact len2 fun _ _=>rfl | exact len3 fun _ _ _=>rfl | exact len4 fun _ _ _ _=>rfl | exact len5 fun _ _ _ _ _=>rfl):Cal P w K mg base x k n F:=by
 obtain ⟨_,F1,a,c⟩:=d.get
 obtain ⟨_,X,G⟩:=X.ex
 exact cal_mk (hf F1) (F1.binds hb) c (PySem.W.mg_of X G a)
theorem DefC.mc {j k n t:Nat} {cs:List Nat} {C f:Addr} {m q:Str} {st:Stmt} {ps:List Str} {F:Nat->List D->Option Ret} (d:DefC K C m q st f) (a:PySem.W.nsIn K mainGlobals (clsName t)=some (some (.ref C))) (c:Cls K C) (hf:∀ {fd},Fun K m q st f fd->FnOk P w K mg base CX0 j f fd ps (spF K (n+1) (F t)))
  (h:MCal P w K mg base m k n cs F) (hj:j<=k:=by decide) (hn:m ∉ clsFlds t:=by decide +kernel)
  (hb:∀ (kV doc pm:Value) (an:Option Addr) (cdv ct:Value) (us:List Value),us.length=ps.length->bindArgs (PySem.W.fnOf m q (jU st) (qE st) (zH st) .none kV doc pm an cdv ct) ⟨us,[]⟩=pure (ps.zip us):=by
    intro _ _ _ _ _ _; first | exact len1 fun _=>rfl | exact len2 fun _ _=>rfl | exact len3 fun _ _ _=>rfl):MCal P w K mg base m k n (t::cs) F:=by
 obtain ⟨_,F1,x,y,z⟩:=d.get
 exact mcal_cons a c ⟨x,z,y⟩ (hf F1) hj (F1.binds hb) hn h
theorem newOk {t:Nat} {C:Addr} {a:Str} (n:PySem.W.nsIn K mainGlobals (clsName t)=some (some (.ref C))) (c:Cls K C) (na:NoAttr K C a):∀ C',PySem.W.nsIn K mainGlobals (clsName t)=some (some (.ref C'))->Cls K C'/\NoAttr K C' a:=fun C' e=>by
 rw [n] at e
 cases e
 exact ⟨c,na⟩
end
section
variable {X:Cx}
end
section
variable {X:Cx} {m:Str} {k j:Nat} {cs:List Nat} {F:Nat->List D->Option Ret} {o:Expr} {apos pos:Pos} {fo:FE}
end
end FL
namespace L2
open PySem PySem.Spec PyProof.Rows
section
variable {prog:Program} {w:World} {A:Around} {E:Value->Shared->Prop} {s:Shared}
end
section
variable {X:Cx}
end
section
variable {X:Cx}
theorem Inv.thawD {pins:List (Addr×Obj)} {σ : L2.St} {H:Hp} {s:Shared} {a:Addr} {o:Obj} {es:Array DictEntry} {ep:Nat} {kvs:List (Key×V)} (I:Inv X pins σ H s) (e:H a=some (.frz o (.dK kvs))) (dat:o.data = .dict es ep) (hn:∀ q u,X.H₀ a≠some (.frz q u)):Inv X pins σ (upd H a (.dK kvs)) s:=by
 have ne:∀ {b},H b=none->b≠a:=fun {b} h z=>by rw [z,e] at h; cases h
 have ho:=(I.hok a _ e).1
 refine ⟨I.ok,I.os,I.bare,⟨I.base.keep,I.base.slot,fun b q x n hx=>?_,I.base.there,fun b xs q=>?_,fun b q u z=>?_,fun b ps q=>?_⟩,I.loc,I.cell,by rw [upd_ne (ne I.free)]; exact I.free,fun x c q=>?_,fun p hp=>?_,fun b u q=>?_,I.len⟩
 · have := I.base.free b q x n hx
   rw [upd_ne (ne this)]; exact this
 · have := I.base.tups b xs q
   rw [upd_ne (fun z=>by rw [z,e] at this; cases this)]; exact this
 · have := I.base.frzs b q u z
   rw [upd_ne (fun y=>by rw [y] at z; exact hn q u z)]; exact this
 · have := I.base.tbls b ps q
   rw [upd_ne (fun z=>by rw [z,e] at this; cases this)]; exact this
 · have hca:c≠a:=fun z=>by
    obtain ⟨v,hc⟩:=I.cell x c q
    obtain ⟨q',hc,hd⟩:=hc
    rw [z,ho] at hc
    have:=Option.some.inj hc
    rw [<- this,dat] at hd; cases hd
   rcases I.freeC x c q with h | ⟨h1,q',u,h2⟩
   · exact .inl (by rw [upd_ne hca]; exact h)
   · exact .inr ⟨h1,q',u,by rw [upd_ne hca]; exact h2⟩
 · obtain ⟨p1, p2, p3⟩ := I.pin p hp
   exact ⟨p1,by rw [upd_ne (ne p2)]; exact p2,p3⟩
 · by_cases hb : b = a
   · subst hb
     rw [upd_same] at q
     cases q
     exact (I.hok b _ e).2
   · rw [upd_ne hb] at q
     refine (I.hok b u q).stay (fun _ _ _ z=>z) (fun c z=>?_) fun c xs z=>?_
     · rw [upd_ne (fun y=>by rw [y,e] at z; cases z)]; exact z
     · obtain ⟨w, hw⟩ := xs
       have z':H c=some w:=z
       show upd H a (.dK kvs) c=some w
       rw [upd_ne (fun y=>?_)]
       · exact z
       · rw [y, e] at z'
         cases z'
         obtain ⟨vs,hv⟩:=hw
         rw [dat] at hv; cases hv
end
section
variable {X:Cx}
end
end L2
namespace FL
open PySem PySem.Spec PyProof.Rows L2
section
variable {X:Cx}
end
section
variable {X:Cx}
section
variable {scope:Scope} {NY:List Str} {mp:List (Option Nat)} {tg iter elt:Expr} {ifs:List Expr} {pos:Pos} {fi:FA} {ga:D->List Sl->Option (List Sl)} {tt:FT} {fe:FE}
theorem comp_semD {wi:TI} {g:CI->TG} {t1:CI->TT} {t2:CI->TE}
  (hi:∀ H₀ H O σ ds hd items R,Ok X.K H₀ H O σ ds hd->fi ds=some items->(∀ J p H',Same H H'->HOk X.K H₀ H' O p->(∀ k a,HI.root k a≠p)->(∀ B,HI.base B≠p)->WlkD X.K J p items->R J H')->wi σ H R)
  (hg:∀ c H₀ H O σ ds hd v d ds' Q,Ok X.K H₀ H O σ ds hd->Rep X.K H O v d->ga d ds=some ds'->(∀ σ',Ok X.K H₀ H O σ' ds' hd->Q σ' H)->g c v σ H Q)
  (ht:∀ c H₀ H O σ ds hd b Q,Ok X.K H₀ H O σ ds hd->tt ds=some b->(∀ H',Same H H'->Q b H')->t1 c σ H Q)
  (he:∀ c H₀ H O σ ds hd d Q,Ok X.K H₀ H O σ ds hd->fe ds=some d->(∀ v H',Same H H'->Rep X.K H' O v d->Q v H')->t2 c σ H Q) :
  ∀ H₀ H O σ ds hd l Q,Ok X.K H₀ H O σ ds hd->compG fi mp ga tt fe ds=some l →
   (∀ a xs H',Same H H'->H a=none->H' a=some (.lst xs)->Reps X.K H' (ins1 a O) xs l->Q (.ref a) H')->tComp wi mp g t1 t2 σ H Q:=by
 intro H₀ H O σ ds hd l Q o e q
 unfold compG at e
 obtain ⟨items,h1,e⟩:=bnd e
 split at e
 · rename_i hsz
   refine hi H₀ H O σ ds hd items _ o h1 fun J p H1 s1 r1 nr nb wk=>fun c=>?_
   have oI:Ok X.K H₀ H1 O (slotsY mp σ) (qY mp ds) (p::hd):=((o.mono s1).holdMore (p:=p) r1 nr).inner mp
   refine ⟨fun i m ys H2=>i<=items.length/\m=items.length - i/\Same H1 H2/\ys.length<=i/\∃ l' rest,Reps X.K H2 O ys l'/\compL ga tt fe (qY mp ds) (items.drop i)=some rest/\l=l'++rest,
    ⟨items.length,Nat.zero_le _,rfl,Same.refl _,Nat.le_refl _,[],l,.nil,by simpa using e,rfl⟩,?_⟩
   rintro i m ys H2 ⟨hi1,rfl,s2,hy,l',rest,ry,er,el⟩
   have o2:=oI.mono s2
   obtain ⟨go,stop⟩:=wk H₀ H2 O o2.dom (o2.hold p List.mem_cons_self)
   by_cases hlt:i < items.length
   · right
     have hd0:items[i]? = some items[i]:=List.getElem?_eq_getElem hlt
     obtain ⟨hgo,hyl⟩:=go i _ hd0
     refine ⟨hgo,by omega,fun x H3 y=>?_⟩
     obtain ⟨s3,r3⟩:=hyl x H3 y
     rw [List.drop_eq_getElem_cons hlt,compL] at er
     obtain ⟨ds1,h2,er⟩:=bnd er
     refine hg c H₀ H3 O _ _ (p::hd) x _ ds1 _ (o2.mono s3) r3 h2 fun σ' o3=>?_
     obtain ⟨b,h3,er⟩:=bnd er
     refine ht c H₀ H3 O σ' ds1 (p::hd) b _ o3 h3 fun H4 s4=>?_
     cases b with
     | false =>
       refine iteF ⟨items.length - (i+1),by omega,hlt,rfl,(s2.trans s3).trans s4,Nat.le_succ_of_le hy,l',rest,(ry.mono s3).mono s4,by simpa using er,el⟩
     | true =>
       refine iteT ?_
       simp only [if_true] at er
       obtain ⟨yd,h4,er⟩:=bnd er
       cases h5:compL ga tt fe (qY mp ds) (items.drop (i+1)) with
       | none=>rw [h5] at er; cases er
       | some rest' =>
         rw [h5] at er
         cases er
         refine he c H₀ H4 O σ' ds1 (p::hd) yd _ (o3.mono s4) h4 fun v H5 s5 r5=>?_
         refine ⟨items.length - (i+1),by omega,hlt,rfl,((s2.trans s3).trans s4).trans s5,by simp; omega,l'++[yd],rest',(((ry.mono s3).mono s4).mono s5).append (.cons r5 .nil),h5,?_⟩
         rw [el]; simp
   · left
     have ei:i=items.length:=by omega
     subst ei
     rw [List.drop_length,compL] at er
     cases er
     rw [List.append_nil] at el
     subst el
     refine ⟨stop,by omega,fun a ha=>?_⟩
     refine q a ys _ ((s1.trans s2).trans (zX ha _)) ((s1.trans s2).free ha) upd_same ?_
     exact (ry.more ha).mono (zX ha _)
 · cases e
end
theorem PVo.n {e:Expr} {f:FO} (h:PVo X e f):PVn X e (seeO f):=by
 obtain ⟨t,ht,hf⟩:=h
 refine ⟨t,ht,fun H₀ H O σ ds hd d Q o e q=>?_⟩
 unfold seeO at e
 obtain ⟨T,h1,rfl⟩:=mpd e
 exact hf H₀ H O σ ds hd T Q o h1 fun v H' fs s r nd hn=>q v H' s (r.frz fun a z=>z.elim)
end
section
variable {X:Cx}
end
end FL
namespace L2
open PySem PySem.Spec PyProof.Rows
section
variable {X:Cx}
end
end L2
namespace FL
open PySem PySem.Spec PyProof.Rows L2
section
variable {X:Cx}
end
section
variable {prog:Program} {w:World} {A:Around} {E:Value->Shared->Prop} {s:Shared}
end
section
variable {X:Cx} {tg:Expr}
end
section
variable {K:Frag} {H H' H₀ : Hp} {O O':Addr->Prop}
end
section
variable {X:Cx}
end
section
variable {X:Cx}
section
variable {scope:Scope} {NY:List Str} {mp:List (Option Nat)} {tg iter elt:Expr} {pos:Pos} {fi:FA} {ga:D->List Sl->Option (List Sl)} {fe:FX} {i p:Nat}
end
end
section
variable {P:Program} {w:World} {K:Frag} {mg:Str->Option Value} {base:Heap}
end
open PySem.W (hideAll hideAll_get of_hideAll hideAll_none)
section
variable {M:Model} {A:Around} {E:Value->Shared->Prop} {s:Shared} {B:Heap} {l outer:List Env} {env:Env} {e L:Addr} {cls a0 fl:Value} {Q:Unit->Shared->Prop}
end
section
variable {X:Cx} {E:XK} {C:Addr}
end
section
variable {X:Cx} {E:XK} {C:Addr} {scope:Scope} {NY:List Str} {mp:List (Option Nat)} {tg iter elt:Expr} {pos:Pos} {fi:FA} {ga:D->List Sl->Option (List Sl)} {fe:FE} {x:List Sl->Bool}
end
section
variable {X:Cx}
end
end FL
namespace FL
open PySem PySem.Spec PyProof.Rows L2
structure MCalX (P:Program) (w:World) (K:Frag) (mg:Str->Option Value) (base:Heap) (m:Str) (t k n:Nat) (R:List D->Bool) (C:Addr):Prop where
 no:m ∉ clsFlds t
 ex:∃ (B f:Addr) (fd:FuncData) (ps:List Str),PySem.W.nsIn K mainGlobals (clsName t)=some (some (.ref B))/\Cls K B/\Meth K B m f/\FnOk P w K mg base (CXM P w) k f fd ps (spX K (n+1) R C)/\Binds K fd ps []
section
variable {X:Cx} {E:XK} {C:Addr} {m:Str} {t k j n:Nat} {R:List D->Bool} {o e:Expr} {es:List Expr} {apos pos:Pos} {fo:FE} {g:FA}
theorem methX_sem (M:MCalX X.prog X.w X.K X.mg X.base m t k n R C) {B f:Addr} {fd:FuncData} {ps:List Str} (hn:PySem.W.nsIn X.K mainGlobals (clsName t)=some (some (.ref B))) {ta:TE} {tt:TA}
  (hfo:∀ H₀ H O σ ds hd d Q,Ok X.K H₀ H O σ ds hd->fo ds=some d->(∀ v H',Same H H'->Rep X.K H' O v d->Q v H')->ta σ H Q)
  (hfg:∀ H₀ H O σ ds hd l Q,Ok X.K H₀ H O σ ds hd->g ds=some l->(∀ vs H',Same H H'->Reps X.K H' jE vs l->Q vs H')->tt σ H Q)
  {H₀ H:Hp} {O:Addr->Prop} {σ : L2.St} {ds:List Sl} {hd:Hold} {Q:VK} (ok:Ok X.K H₀ H O σ ds hd) (ex:methX t n R fo g ds=true) (q:∀ H',Same H₀ H'->E (.ref C) none H') :
  tMeth B m (spX X.K (n+1) R C) [] E ta tt σ H Q:=by
 unfold methX at ex
 cases hd1:fo ds with
 | none=>rw [hd1] at ex; cases ex
 | some d =>
   rw [hd1] at ex
   cases hl:g ds with
   | none=>rw [hl] at ex; cases ex
   | some l =>
     rw [hl] at ex
     simp only [Bool.and_eq_true,decide_eq_true_eq] at ex
     obtain ⟨e1,e2,e3⟩:=ex
     refine hfo H₀ H O σ ds hd d _ ok hd1 fun v H1 s1 r1=>?_
     cases d with
     | ins c es' =>
       simp only [isT,decide_eq_true_eq] at e1
       subst e1
       cases r1 with
       | @ins a C' dx _ kvs _ cc nn ha ek rr =>
         have z:=cc.symm.trans hn
         cases z
         refine ⟨a,dx,kvs,rfl,ha,jI (by rw [ek]; exact M.no),?_⟩
         refine hfg H₀ H1 O σ ds hd l _ (ok.mono s1) hl fun vs H2 s2 r2=>?_
         have hl':=r2.length
         have r1':Rep X.K H2 jE (.ref a) (.ins c es'):=(Rep.ins cc (fun z=>z.elim) (s2 _ _ ha) ek ((rr.mono s2).less fun _ z=>z.elim))
         exact ⟨by simp; omega,_,by simpa using Reps.cons r1' r2,e3,fun H' s'=>q H' (ok.same.trans (s1.trans (s2.trans s')))⟩
     | _=>simp [isT] at e1
theorem xN {pl:Sem Bool} (hp:Passes (CXM X.prog X.w) X E) (M:MCalX X.prog X.w X.K X.mg X.base m t k n R C) (hr:Room j X.A) (ho:PV X o fo) (ha:PAn X (e::es) g) (hj:k<=j:=by decide)
  (hst:starEach (e::es) X.env=(false,eval e X.env)::starEach es X.env:=by rfl) (hpl:(backTo pos (starEach es X.env)).any (·.1)=false:=by rfl)
  (ht:eval (.Call (.Attribute o m apos) (e::es) [] pos) X.env=(do
    let ov <- eval o X.env
    standAt apos.atName
    let (f,first) <- holding [ov] (getMethod ov m pl)
    callWith pos f first (backTo pos (starEach (e::es) X.env)) (backToKw pos (keywordEach [] X.env))):=by rfl):PEy X E C (.Call (.Attribute o m apos) (e::es) [] pos) (methX t n R fo g):=by
 obtain ⟨B,f,fd,ps,hn,cl,hm,Fn,hb⟩:=M.ex
 obtain ⟨ta,pa,hfo⟩:=ho
 obtain ⟨tt,pt,hfg⟩:=ha
 exact ⟨_,pe_meth (E:=E) (pl:=pl) pa cl hm Fn (hr.mono hj) hb .nil hp pt hst hpl ht,fun H₀ H O σ ds hd Q ok ex q=>methX_sem M (f:=f) (fd:=fd) (ps:=ps) hn hfo hfg ok ex q⟩
theorem pvo_relO (i:Nat) {e:Expr} {f:FO} (h:PVo X e f):PVo X e (relGO i f):=by
 obtain ⟨t,ht,hf⟩:=h
 refine ⟨t,ht,fun H₀ H O σ ds hd T Q ok ex q=>?_⟩
 obtain ⟨O',o'⟩:=ok.look i
 unfold relGO at ex
 obtain ⟨T',h1,ex⟩:=bnd ex
 split at ex
 · rename_i hfl
   cases ex
   refine hf H₀ H O' σ _ hd _ Q o' h1 fun v H' fs s r nd nw=>q v H' fs s ?_ nd nw
   refine RepO.flatten (fun a z=>?_) hfl r fun b hb=>.inl hb
   rcases z with z | z
   · obtain ⟨_, u, e⟩ := r.owns a z
     exact ⟨u.1,e,u.2⟩
   · obtain ⟨u, e⟩ := (ok.mono s).dom a z
     exact ⟨_,e,u.2⟩
 · cases ex
theorem pv_ofO {e:Expr} {f:FO} (h:PVo X e f):PV X e (ofO f):=by
 obtain ⟨t,ht,hf⟩:=h
 refine ⟨t,ht,fun H₀ H O σ ds hd d Q ok ex q=>?_⟩
 unfold ofO at ex
 obtain ⟨T,h1,rfl⟩:=mpd ex
 refine hf H₀ H O σ ds hd T Q ok h1 fun v H' fs s r nd nw=>q v H' s (r.val' fun a z=>⟨.inr z,fun hb=>?_⟩)
 obtain ⟨u,e⟩:=ok.dom a z
 rw [nw a hb] at e
 cases e
theorem yE {st:Stmt} : PSv X st (fun _=>none):=⟨fun _ _ _=>False,fun _ _ _ _ _ _ h=>h.elim,fun _ _ _ _ _ _ _ _ _ e _=>by cases e⟩
end
section
variable {X:Cx} {E:XK} {C:Addr} {m:Str} {t k j n:Nat} {R:List D->Bool} {o e:Expr} {es:List Expr} {apos pos:Pos} {fo:FE} {g:FA}
end
section
variable {X:Cx} {scope:Scope} {NY:List Str} {mp:List (Option Nat)} {tg iter elt:Expr} {ifs:List Expr} {pos:Pos} {fi:FA} {ga:D->List Sl->Option (List Sl)} {tt:FT} {fe:FE}
end
section
variable {X:Cx}
end
end FL
namespace L2
open PySem PySem.Spec PyProof.Rows
noncomputable def ItK (d:Addr) (o:Obj) (kvs:List (Key×V)):It :=
 ⟨fun i H=>H d=some (.frz o (.dK kvs))/\i < kvs.length,fun i H v H'=>H'=H/\∃ k x,kvs[i]? = some (k,x)/\v=kV k,fun i H=>H d=some (.frz o (.dK kvs))/\kvs.length<=i⟩
theorem turn_dkeys {P:Program} {w:World} {K:PySem.W.Frag} {tg:Expr} (it d:Addr) (o:Obj) (kvs:List (Key×V)) {en:Array DictEntry} {ep:Nat} (dat:o.data = .dict en ep) :
  Turn P w K tg (ItK d o kvs) [it] it (fun i h=>h.IsKeyIter it d i kvs.length ep) where
 mem:=by simp
 obj:=fun i h st b hb=>by
  rw [List.mem_singleton.mp hb]
  obtain ⟨q,e,c,dt⟩:=st
  exact ⟨q,e,fun v z=>by rw [dt] at z; cases z⟩
 keep:=fun i h h' st k=>let ⟨q,e,r⟩:=st; ⟨q,k it (by simp) _ e,r⟩
 item:=by
  intro X hP hw hK hc i pins s σ H E I hf st hg
  subst hP hw hK
  obtain ⟨hd,hi⟩:=hg
  obtain ⟨vs,rel,hat⟩:=frz_dictAt I hd dat
  have hl:=rel.length
  obtain ⟨k,x,hx⟩:∃ k x,kvs[i]? = some (k,x):=⟨kvs[i].1,kvs[i].2,List.getElem?_eq_getElem hi⟩
  obtain ⟨u,hu,ru⟩:=rel.get hx
  obtain ⟨f0,f1,f2,f3,f4,f5⟩:=hf it (by simp)
  rw [hl] at st
  refine wpAny_pyNext_dict_item st hat hu fun key h' hkey st' sb=>?_
  have I1:Inv X pins σ H { s with heap:=h' }:=I.turned (t':=s.toks) (fun b o hb e=>(sb.2 b hb).trans e) f0 f1 f3 f4 f5
  obtain ⟨q,e,c,dt⟩:=id st'
  have rk:RelV (kV k) key:=by
   rcases qZ hkey with ⟨j,t,rfl,rfl⟩ | ⟨y,t,rfl,rfl⟩ | ⟨rfl,rfl⟩
   · exact ⟨t,rfl⟩
   · exact ⟨t,rfl⟩
   · exact rfl
  exact ⟨key,rfl,go_of (s:={ s with heap:=h' }) e c dt (by decide) ⟨kV k,H,I1,rk,⟨rfl,k,x,hx,rfl⟩,by rw [hl]; exact st',fun b hb=>(hf b hb).1⟩⟩
 done:=by
  intro X hP hw hK hc i pins s σ H E I hf st hg
  subst hP hw hK
  obtain ⟨hd,hi⟩:=hg
  obtain ⟨vs,rel,hat⟩:=frz_dictAt I hd dat
  have hl:=rel.length
  obtain ⟨f0,f1,f2,f3,f4,f5⟩:=hf it (by simp)
  rw [hl] at st
  exact wpAny_pyNext_dict_end (I.ok.hd hc) st hat (List.getElem?_eq_none (by omega)) fun h' eb=>⟨rfl,I.turned (t':=s.toks) (fun b o hb e=>eb b o hb e) f0 f1 f3 f4 f5⟩
 self:=fun _ _ _ _ _ st h=>wpAny_pyIter_keyiter st h
section
variable {X:Cx}
def iDK (to:TE):TI:=fun σ H R=>to σ H fun x H1=>∃ d o kvs,x = .ref d/\H1 d=some (.frz o (.dK kvs))/\R (ItK d o kvs) H1
theorem pi_dkeys {tg oe:Expr} {to:TE} (ho:PE X oe to):PI X tg oe (iDK to):=by
 intro pins s σ H R I h
 refine thn (ho pins s σ H _ I h) fun v s1 zq=>?_
 obtain ⟨x,H1,I1,r1,d,o,kvs,ex,hd,q⟩:=zq
 subst ex
 obtain rfl:v=Value.ref d:=r1
 obtain ⟨hob,z,hds,vs,rel,dd⟩:=I1.hok d _ hd
 obtain ⟨o',en,ep,e1,exd,dat,r⟩:=id dd
 rw [hob] at e1
 cases e1
 have hat:s1.heap.DictAt (mixKind X.prog X.w) d vs ep:=⟨o,en,hob,exd,dat,r⟩
 refine wpAny_pyIter_dict hds hat ?_
 refine ⟨_,[_],_,_,H1,rfl,I1.kept (t':=s1.toks) fun b o e=>Heap.get?_push_of_some _ e,turn_dkeys _ d o kvs dat,?_,fun c hc=>?_,q⟩
 · rw [rel.length]
   exact ⟨_,Heap.get?_push_size _ rfl,rfl,rfl⟩
 · rw [List.mem_singleton.mp hc]
   exact I1.fpOk (Nat.le_refl _) (I1.hok.fresh (Nat.le_refl _))
def tThw (t:TT):TT:=fun σ H Q=>∃ a kvs,H a=some (.dK kvs)/\∀ o,t σ (upd H a (.frz o (.dK kvs))) fun b H'=>H' a=some (.frz o (.dK kvs))/\Q b (upd H' a (.dK kvs))
theorem pt_thw {e:Expr} {t:TT} (h:PT X e t):PT X e (tThw t):=by
 intro pins s σ H Q I ⟨a,kvs,h2,h3⟩
 have hn:∀ q u,X.H₀ a≠some (.frz q u):=fun q u z=>by
  have:=I.base.frzs a q u z
  rw [h2] at this; cases this
 obtain ⟨o,I'⟩:=I.freezeD h2
 obtain ⟨ho,z,hd,vs,rel,o',en,ep,e1,exd,dat,r⟩:=I'.hok a _ upd_same
 rw [ho] at e1
 cases e1
 refine thn (h pins s σ _ _ I' (h3 o)) fun b s' hq=>?_
 obtain ⟨H',I2,e2,q⟩:=hq
 exact ⟨_,I2.thawD e2 dat hn,q⟩
end
end L2
namespace FL
open PySem PySem.Spec PyProof.Rows L2
section
variable {X:Cx}
theorem wlk_dkeys {K:Frag} {d:Addr} {o:Obj} {kvs:List (Key×V)} {l:List D} : WlkD K (ItK d o kvs) (.fz d o kvs l) ((kvs.map (·.1)).map keyDD):=by
 intro H₀ H O dom ⟨n,hd,rs⟩
 have hl:((kvs.map (·.1)).map keyDD).length=kvs.length:=by simp
 refine ⟨fun i x hx=>?_,⟨hd,by rw [hl]; exact Nat.le_refl _⟩⟩
 have lt:i < kvs.length:=by rw [<- hl]; exact (List.getElem?_eq_some_iff.mp hx).1
 refine ⟨⟨hd,lt⟩,fun v H' zq=>?_⟩
 obtain ⟨e,k,y,hk,rfl⟩:=zq
 subst e
 have:x=keyDD k:=by
  simp only [List.getElem?_map,hk,Option.map_some,Option.some.injEq] at hx
  exact hx.symm
 subst this
 exact ⟨Same.refl _,kV_rep k⟩
theorem pid_keys {tg oe:Expr} {f:FE} (h:PV X oe f):PId X tg oe (keysA f):=by
 obtain ⟨t,ht,hf⟩:=h
 refine ⟨_,pi_dkeys ht,fun H₀ H O σ ds hd items R o e q=>?_⟩
 unfold keysA at e
 obtain ⟨x,h1,e⟩:=bnd e
 refine hf H₀ H O σ ds hd x _ o h1 fun v H1 s1 r1=>?_
 cases x <;> first | (cases e; done) | skip
 cases e
 cases r1 with
 | @dcf a ob kvs _ _ n hb ek rs =>
   subst ek
   exact ⟨a,ob,kvs,rfl,hb,q _ (.fz a ob kvs _) H1 s1 ⟨n,hb,rs⟩ (fun _ _ z=>by cases z) (fun _ z=>by cases z) wlk_dkeys⟩
end
section
variable {K:Frag} {H H' H₀ : Hp} {O O':Addr->Prop}
end
section
variable {X:Cx}
end
end FL
namespace TS
open PySem PyProof.Rows
section
variable {prog:Program} {w:World}
abbrev SS (prog:Program) (w:World) (h:Heap) (a:Addr) (ts:List Str):Prop:=h.SetOf (PySem.strKind prog w) a (fun k=>decide (k∈ts)) (FL.cntT ts)
theorem ss_add {h:Heap} {a:Addr} {ts:List Str} {x:Str} (q:h.SetOf (PySem.strKind prog w) a (fun k'=>decide (k'∈ts) || decide (k'=x)) (if decide (x∈ts)=true then FL.cntT ts else FL.cntT ts+1)):SS prog w h a (x::ts):=by
 have e1:(fun k':Str=>decide (k'∈ts) || decide (k'=x))=fun k'=>decide (k'∈x::ts):=by
  funext k'
  rw [Bool.or_comm]
  simp only [List.mem_cons,Bool.decide_or]
 have e2:(if decide (x∈ts)=true then FL.cntT ts else FL.cntT ts+1)=FL.cntT (x::ts):=by
  show _=if x∈ts then _ else _
  by_cases hx:x∈ts <;> simp [hx]
 rw [e1,e2] at q
 exact q
section
variable {A:Around} {R:Result->Shared->Prop} {J:Addr} {feet hand:List Addr} {G:Array GenState->Array GenState->Prop} {n:Nat} {P:Nat->Value->Prop} {Z:Nat->Shared->Prop}
theorem upd_loopT (W:WalksS prog w A.in1 J feet hand G n P Z) (c:Addr) (off:c ∉ feet) (num:Nat->Str) (isn:∀ i v,P i v->∃ t,v = .str (num i) t) (few:n+1 < scanBound) :
  ∀ (k i:Nat) (z:Shared),n - i=k->i<=n->Z i z->SS prog w z.heap c ((List.range i).map num).reverse →
   (∀ z',Moved (c::hand) G z z'->SS prog w z'.heap c ((List.range n).map num).reverse->R (.ok (.ret .none)) z') →
   codeAny (model prog w) A (.builtin "set.update.loop" ⟨[.ref c,.ref J],[]⟩) R z:=by
 have away:c ∉ hand:=fun q=>off (W.sub c q)
 have more:∀ b,b∈hand->b∈c::hand:=fun b q=>.tail _ q
 have at':∀ {z z':Shared} {ts:List Str},Moved hand G z z'->SS prog w z.heap c ts->SS prog w z'.heap c ts:=fun mv hS=>by
  obtain ⟨o,es,ep,t,ho,r⟩:=hS
  exact ⟨o,es,ep,t,mv.heap c o away ho,r⟩
 intro k
 induction k with
 | zero =>
   intro i z hk hi here hS done
   have e:i=n:=by omega
   subst e
   exact upd_step (W.done z _ _ here fun z' mv=>done z' (mv.mono more) (at' mv hS))
 | succ k ih =>
   intro i z hk hi here hS done
   have hlt:i < n:=by omega
   refine upd_step (W.item i z _ _ hlt here fun v z' hv here' mv=>?_)
   obtain ⟨t,rfl⟩:=isn i v hv
   have hS':=at' mv hS
   have hk':(PySem.strKind prog w).is (num i) (.str (num i) t)=true:=by simp [PySem.strKind,Value.isStrOf]
   have hle:=FL.cntT_le ((List.range i).map num).reverse
   simp only [List.length_reverse,List.length_map,List.length_range] at hle
   dsimp only
   unfold setAdd
   refine wpAny_holding (wpAny_bind ((PySem.strKind prog w).pyHash (k:=num i) hk' ?_))
   refine wpAny_setAddHashed_of (knd:=PySem.strKind prog w) (s:={ z' with toks:=z'.toks+1 }) hk' rfl hS' (by omega) fun h' same hS2=>?_
   have rest:∀ b,b≠c->h'.get? b=z'.heap.get? b:=same.2
   have hS3:SS prog w h' c ((List.range (i+1)).map num).reverse:=by
    rw [List.range_succ,List.map_append,List.reverse_append]
    exact ss_add hS2
   exact ih (i+1) _ (by omega) hlt (W.frame _ z' _ _ here' (Nat.le_succ _) fun b q o e=>(rest b fun y=>off (y ▸ q)).trans e) hS3 fun z2 mv2 hS4=>done z2 (Moved.trans W.gtrans ((mv.mono more).then_heap (Nat.le_succ _) fun b o q e=>(rest b fun y=>q (y ▸ .head _)).trans e) mv2) hS4
end
section
variable {A:Around} {E:Value->Shared->Prop} {s:Shared}
theorem ss_new (h:Heap):SS prog w (h.push (nset (!bt w))) h.objs.size [] :=
 ⟨_,#[],0,_,Heap.get?_push_size _ rfl,⟨rfl,rfl,rfl⟩,rfl,fun e he=>by simp at he,fun k=>by simp,by decide,by rfl,rfl⟩
theorem strs_all {items:Array Value} {ns:List Str} (hi:StrsAre items.toList ns):(List.range items.size).map (fun i=>ns.getD i "")=ns:=by
 have hlen:items.size=ns.length:=by rw [<- StrsAre.length hi,Array.length_toList]
 apply List.ext_getElem?
 intro i
 rw [List.getElem?_map]
 by_cases hi':i < ns.length
 · rw [List.getElem?_range (by omega)]
   simp [List.getD_eq_getElem?_getD,List.getElem?_eq_getElem hi']
 · rw [List.getElem?_eq_none (by simp; omega),List.getElem?_eq_none (by omega)]; rfl
theorem init_setT {l:Addr} {items:Array Value} {ns:List Str} {Q:Value->Shared->Prop} (free:A.handled=none) (hl:s.heap.IsList l items) (hi:StrsAre items.toList ns) (few:items.size+1 < scanBound)
  (h:∀ (h':Heap) (tk:Nat),SS prog w h' s.heap.objs.size ns.reverse->(∀ b o,s.heap.get? b=some o->h'.get? b=some o)->Q .none { s with heap:=h',toks:=tk }) :
  codeAny (model prog w) A (.call (.builtin "set.__init__") ⟨[.ref s.heap.objs.size,.ref l],[]⟩) (wants Q E) { s with heap:=s.heap.push (nset (!bt w)) }:=by
 have hS:(s.heap.push (nset (!bt w))).get? s.heap.objs.size=some (nset (!bt w)):=Heap.get?_push_size _ rfl
 refine codeAny_call_builtin PySem.F.called_set.init.plain PySem.F.entry_set_init (check_set_init_1 ⟨_,hS,rfl⟩ ?_)
 obtain ⟨lo,hlo,c1,nl,d1⟩:=hl
 obtain ⟨k1,k2,k3,k4⟩:=lo
 cases c1
 cases d1
 have old:(s.heap.push (nset (!bt w))).get? l=some { cls:=.type "list",dict:=k2,data:=.seq items nl,slots:=k4 }:=Heap.get?_push_of_some _ hlo
 have no1:=PySem.F.sub_list_set
 have no2:=PySem.F.sub_list_frozenset
 have no3:(Value.type "list" == Value.type "dict")=false:=rfl
 have hl1:(s.heap.push (nset (!bt w))).IsList l items:=⟨_,old,rfl,nl,rfl⟩
 have lS:=Heap.lt_size hlo
 have sz:(s.heap.push (nset (!bt w))).objs.size=s.heap.objs.size+1:=size_push' _ _
 have far:∀ b:Addr,b < s.heap.objs.size->b≠(s.heap.push (nset (!bt w))).objs.size:=fun b hb=>by rw [sz]; exact Nat.ne_of_lt (Nat.lt_succ_of_lt hb)
 unfold Builtin.«set.__init__» noKeywords
 unfold Builtin.Frozenset.updateFrom
 generalize walker:pyIter=PI
 wp_walk
 subst walker
 refine wpAny_pyIter_list hl1 (wpAny_bind (wpAny_runValue ?_))
 refine upd_loopT ((Walks.list (by simp [free]) _ l (far l lS) items).toS) s.heap.objs.size ?off (fun i=>ns.getD i "") (fun i v hv=>by
   obtain ⟨y,t,e1,e2⟩:=StrsAre.item hi i v (by rw [Array.getElem?_toList]; exact hv)
   exact ⟨t,by rw [e1,List.getD_eq_getElem?_getD,e2]; rfl⟩) few items.size 0 _ rfl (Nat.zero_le _)
  ⟨⟨_,Heap.get?_push_size _ rfl,rfl,rfl⟩,hl1.push _⟩ ?at0 ?fin
 case at0 =>
  obtain ⟨o,es,ep,t,ho,r⟩:=ss_new (prog:=prog) (w:=w) s.heap
  exact ⟨o,es,ep,t,Heap.get?_push_of_some _ ho,r⟩
 case off =>
  rw [sz]
  intro q
  rcases List.mem_cons.mp q with e | q
  · exact Nat.ne_of_lt (Nat.lt_succ_self _) e
  · exact Nat.ne_of_gt lS (List.mem_singleton.mp q)
 case fin =>
  rintro ⟨h2,g2,d2,t2,s2⟩ mv full
  have eg:g2=s.gens:=mv.gens
  have ed:d2=s.drawn:=mv.drawn
  have es:s2=s.os:=mv.os
  rw [strs_all hi] at full
  subst eg ed es
  refine wpAny_pure (wpAny_pure (h h2 t2 full fun b o e=>?_))
  have hb:=Heap.lt_size e
  refine mv.heap b o (fun q=>?_) (Heap.get?_push_of_some _ (Heap.get?_push_of_some _ e))
  rcases List.mem_cons.mp q with y | q
  · exact Nat.ne_of_lt hb y
  · exact far b hb (List.mem_singleton.mp q)
set_option maxHeartbeats 4000000 in
theorem call_setT {l:Addr} {items:Array Value} {ns:List Str} {Q:Value->Shared->Prop} (free:A.handled=none) (hl:s.heap.IsList l items) (hi:StrsAre items.toList ns) (few:items.size+1 < scanBound)
  (h:∀ (h':Heap) (tk:Nat),SS prog w h' s.heap.objs.size ns.reverse->(∀ b o,s.heap.get? b=some o->h'.get? b=some o)->Q (.ref s.heap.objs.size) { s with heap:=h',toks:=tk }) :
  wpAny (model prog w) A (call (.type "set") [.ref l]) Q E s:=by
 have C:=PySem.F.called_set
 obtain ⟨top,above,order⟩:=C.mro
 have made:=C.made
 have below:=C.sub
 have nt:=C.notType
 have can:=C.canCreate
 have fits:=PySem.F.typeCall_set_1 (.ref l)
 refine wpAny_call (codeAny_of_tree (show wpAny _ _ (callAny (.type "set") _) _ _ _ from wpAny_pure ⟨Code.quiet_builtin _ (by decide +kernel),codeAny_builtin PySem.F.entry_type_call ?_⟩))
 rw [Around.under_plain (weight_type_call_type _ _ _) rfl]
 repeat (any_goals first | assumption | wp_step)
 refine codeAny_mono (new_set1 (.ref l) (E:=E) (Q:=fun v z=>v = .ref s.heap.objs.size/\z = { s with heap:=s.heap.push (nset (!bt w)) }) ⟨rfl,rfl⟩) fun r z q=>?_
 rcases r with e | fl
 · exact q
 cases fl <;> try exact q.elim
 obtain ⟨rfl,rfl⟩:=q
 have at':Shared.TypeIs { s with heap:=s.heap.push (nset (!bt w)) } (.ref s.heap.objs.size) "set":=⟨_,Heap.get?_push_size _ rfl,rfl⟩
 have look:=C.init.lookup
 have bound:=C.init.bind (.ref s.heap.objs.size)
 repeat (any_goals first | assumption | wp_step)
 refine codeAny_mono (init_setT (E:=E) (Q:=fun v z=>v = .none/\∃ h' tk,z = { s with heap:=h',toks:=tk }/\SS prog w h' s.heap.objs.size ns.reverse/\∀ b o,s.heap.get? b=some o->h'.get? b=some o) (by simp [free]) hl hi few
  fun h' tk q1 q2=>⟨rfl,h',tk,rfl,q1,q2⟩) fun r z q=>?_
 rcases r with e | fl
 · exact q
 cases fl <;> try exact q.elim
 obtain ⟨rfl,h',tk,rfl,q1,q2⟩:=q
 repeat (any_goals first | assumption | wp_step)
 exact h h' tk q1 q2
end
end
end TS
namespace L2
open PySem PySem.Spec PyProof.Rows
section
variable {X:Cx}
theorem call_sortedT:CallR X (.builtin "sorted") (fun xs H Q=>∃ (p:Addr) (ks:List Str),xs=[.ref p]/\SqL X.K H p (ks.map V.str)/\ks.length < 64/\∀ l,H l=none->Q (.ref l) (upd H l (.lst ((FL.srtT ks).map V.str)))):=by
 intro pins s σ H xs us Q I r h
 obtain ⟨p,ks,rfl,hq,h64,q⟩:=h
 obtain ⟨u,rfl,ru⟩:=vals1 r
 cases ru
 obtain ⟨its,rv,pl,hz⟩:=I.list hq
 have hi:StrsAre its ks:=strs_of rv
 have hl:=pl.isList
 have hlen:=StrsAre.length hi
 refine Calls.call_function_entry (A:=X.A) kind_sorted plain_sorted entry_sorted (args_sorted1 _) ?_
 show wpAny _ _ (checkCount "sorted" 1 1 1 >>= _) _ _ s
 refine wpAny_bind (wpAny_pure (wpAny_bind (collect_list hl ?_ (by rw [sizeLine_eq]; omega))))
 refine TU.sorted_endS (s:={ s with heap:=(s.heap.push (seqObj "list" #[] 0)).update s.heap.objs.size (Obj.mapSeq (·++its.toArray)) }) hi (by omega) fun h2 vs' ns' e p1 p2 p3 p4 p5=>?_
 have k1:∀ b o,s.heap.get? b=some o->((s.heap.push (seqObj "list" #[] 0)).update s.heap.objs.size (Obj.mapSeq (·++its.toArray))).get? b=some o:=fun b o q=>(Heap.get?_update_other _ _ (Ne.symm (Nat.ne_of_lt (Heap.lt_size q)))).trans (Heap.get?_push_of_some _ q)
 have en:ns'=FL.srtT ks:=FL.leT_unique _ _ (p4.trans (FL.srtT_perm ks).symm) (FL.sortedS_le p5) (FL.srtT_le ks)
 have I1:=I.kept (t':=s.toks) k1
 refine ⟨.ref _,_,Inv.laid I1 (t':=s.toks) p1 (Nat.le_refl _) (show ObjOk X.prog X.w _ h2 _ (.lst ((FL.srtT ks).map V.str)) from ⟨?_,vs',e,?_,p2⟩),rfl,q _ (I1.hok.fresh (Nat.le_refl _))⟩
 · have := (FL.srtT_perm ks).length_eq
   simp only [List.length_map]
   rw [sizeLine_eq]; omega
 · rw [<- en]; exact vals_strs2 p3
def tLset (ta:TA) (K:PySem.W.Frag):TE:=fun σ H Q=>ta σ H fun vs H1=>∃ (p:Addr) (ts:List Str),vs=[.ref p]/\SqL K H1 p (ts.map V.str)/\ts.length < 1000/\Q (.int (FL.cntT ts.reverse:Nat)) H1
theorem pe_lset {a:Expr} {ta:TA} {p p2 pos pos2:Pos} (hc:X.calm=true) (hgl:Gl X "len") (hml:X.mg "len" = none) (hg:Gl X "set") (hm:X.mg "set" = none) (ha:PA X [a] ta)
  (hl:starEach [.Call (.Name "set" p2) [a] [] pos2] X.env=[(false,eval (.Call (.Name "set" p2) [a] [] pos2) X.env)]:=by rfl)
  (hs:starEach [a] X.env=[(false,eval a X.env)]:=by rfl) :
  PE X (.Call (.Name "len" p) [.Call (.Name "set" p2) [a] [] pos2] [] pos) (tLset ta X.K):=by
 intro pins s σ H Q I h
 refine wpAny_Call_Name_kw (vW I hgl hml (show bootBuiltins "len" = some (.builtin "len") by decide +kernel) ?_)
 refine PyProof.Rows.callWith_builtin1 ?_ hl rfl
 rw [hl]
 show wpAny _ _ (spliced ((false,eval (.Call (.Name "set" p2) [a] [] pos2) X.env)::backTo pos [])) _ _ s
 refine Calls.spliced_cons ?_
 refine Call_ (vW I hg hm (show bootBuiltins "set" = some (.type "set") by decide +kernel) (PyProof.Rows.callWith_type1 (thn (ha pos2 pins s σ H _ I h) fun us s1 zq=>?_) hs rfl))
 obtain ⟨vs,H1,I1,r1,q1⟩:=zq
 obtain ⟨l,ts,e,hq,hz0,q⟩:=q1
 subst e
 obtain ⟨u,rfl,ru⟩:=vals1 r1
 cases ru
 obtain ⟨its,rv,pl,hz⟩:=I1.list hq
 have hi:StrsAre its ts:=strs_of rv
 have hlen:=StrsAre.length hi
 refine TS.call_setT (I.ok.hd hc) pl.isList (by simpa using hi) (by simp only [List.size_toArray]; unfold scanBound; omega) fun h' tk hS hk=>?_
 have I2:Inv X pins σ H1 { s1 with heap:=h',toks:=tk }:=I1.kept hk
 refine Calls.spliced_nil ?_
 obtain ⟨o,es,ep,t,ho,hex,hd,hel,hmem,hb,hf,hn⟩:=hS
 have hle:=FL.cntT_le ts.reverse
 simp only [List.length_reverse] at hle
 refine call_len_set (s:={ s1 with heap:=h',toks:=tk }) ho hex hd hf (by omega) ?_
 exact ⟨.int (FL.cntT ts.reverse:Nat),H1,I2.kept (t':=tk+1+1) (fun b o e=>e),⟨_,by rw [hn]⟩,q⟩
end
end L2
namespace FL
open PySem PySem.Spec PyProof.Rows L2
section
variable {X:Cx}
theorem pv_lset {e:Expr} {f:FE} {p p2 pos pos2:Pos} (hc:X.calm=true) (hml:X.mg "len" = none) (hm:X.mg "set" = none) (he:PVw X e f) (hgl:Gl X "len":=by rfl) (hg:Gl X "set":=by rfl)
  (hl:starEach [.Call (.Name "set" p2) [e] [] pos2] X.env=[(false,eval (.Call (.Name "set" p2) [e] [] pos2) X.env)]:=by rfl) (hs:starEach [e] X.env=[(false,eval e X.env)]:=by rfl) :
  PV X (.Call (.Name "len" p) [.Call (.Name "set" p2) [e] [] pos2] [] pos) (lsetE f):=by
 obtain ⟨te,pe,he⟩:=he
 refine ⟨_,pe_lset hc hgl hml hg hm (qK pe jK hs) hl hs,fun H₀ H O σ ds hd l Q o e q=>?_⟩
 unfold lsetE at e
 obtain ⟨d,h1,e⟩:=bnd e
 refine he H₀ H O σ ds hd _ _ o h1 fun v H1 s1 r1=>?_
 cases d <;> first | (cases e; done) | skip
 rename_i l'
 simp only at e
 obtain ⟨ts,hb,e⟩:=bnd e
 split at e
 · rename_i hz
   cases e
   obtain ⟨a1,xs,rfl,hq,rs⟩:=r1.seqL
   exact ⟨a1,ts,rfl,by rw [<- wK rs hb]; exact hq,hz,q _ H1 s1 (.int _)⟩
 · cases e
theorem xA {e:Expr} {f:FE} {p pos:Pos} (hm:X.mg "sorted" = none) (he:PVw X e f) (hg:Gl X "sorted":=by rfl) (hs:starEach [e] X.env=[(false,eval e X.env)]:=by rfl) :
  PVf X (.Call (.Name "sorted" p) [e] [] pos) (srtTA f):=by
 obtain ⟨te,pe,he⟩:=he
 refine ⟨_,yU call_sortedT hg hm (by decide +kernel) (qK pe jK hs) (by decide) (by decide) hs rfl,fun H₀ H O σ ds hd l Q o e q=>?_⟩
 unfold srtTA at e
 obtain ⟨d,h1,e⟩:=bnd e
 refine he H₀ H O σ ds hd _ _ o h1 fun v H1 s1 r1=>?_
 cases d <;> first | (cases e; done) | skip
 rename_i l'
 simp only at e
 obtain ⟨ts,hb,e⟩:=bnd e
 split at e
 · rename_i hz
   cases e
   obtain ⟨a1,xs,rfl,hq,rs⟩:=r1.seqL
   exact ⟨a1,ts,rfl,by rw [<- wK rs hb]; exact hq,hz,fun p hp=>q p _ _ (s1.trans (zX hp _)) (s1.free hp) upd_same (reps_strs _)⟩
 · cases e
end
section
variable {X:Cx}
theorem psv_dputN {oe ke e:Expr} {pos pos':Pos} {f:FP} {fk:FE} {g:FO} {j:Nat} (hr:Room j X.A) (ho:PVp X oe f) (hk:PV X ke fk) (he:PVo X e g) (hs:swapsWith e (some (.Subscript oe ke pos')) pos.line X.env=pure false:=by rfl) :
  PSv X (.Assign [.Subscript oe ke pos'] e pos) (dputN f fk g):=by
 obtain ⟨tp,hp,hfp⟩:=ho
 obtain ⟨tk,pk,hk⟩:=hk
 obtain ⟨te,pe,hg⟩:=he
 refine ⟨_,ps_dput (Nat.lt_of_le_of_lt (by omega) (hu100 hr)) hp pk pe hs,fun H₀ H O σ ds hd out E o e h=>?_⟩
 unfold dputN at e
 obtain ⟨T,h1,e⟩:=bnd e
 obtain ⟨q,h2,e⟩:=bnd e
 obtain ⟨y,h3,e⟩:=bnd e
 obtain ⟨k,h4,e⟩:=bnd e
 refine hg H₀ H O σ ds hd T _ o h1 fun v H1 fs s1 r1 nd1 n1=>?_
 have o1:Ok X.K H₀ H1 (orL fs O) σ ds hd:=o.moreL s1 n1 fun b hb=>(r1.owns b hb).2
 refine hfp H₀ H1 (orL fs O) σ ds hd q _ o1 h2 fun r T0 v0 w fs0 g1 g2 g3 g4 g5=>?_
 refine hk H₀ H1 (orL fs O) σ ds hd y _ o1 h3 fun yv H2 s2 r2=>?_
 have s12:=s1.trans s2
 obtain ⟨v',w',f',y1,y2,y3,y4,y5,y6⟩:=o.modAt g1 g2
 rw [g3] at y1
 cases y1
 cases yI g4 (jX s1 y2)
 cases hq:q.2.2 with
 | dct ks ts =>
   rw [hq] at y3 e
   simp only at e
   split at e
   · rename_i hl
     obtain ⟨hl,hnew⟩:=hl
     cases e
     cases y3 with
     | @dct a kvs _ _ fs' na ha ek rs =>
       cases wQ r2 h4
       have ha2:=s12 _ _ ha
       have ln:kvs.length < sizeLine:=by rw [<- ek] at hl; simpa using hl
       have hm' : ¬ hasK k (kvs.map (·.1))=true:=by rw [ek,hnew]; simp
       have pn:putK kvs k v=kvs++[(k,v)]:=wG hm'
       refine ⟨a,_,rfl,DPut.k ha2 ln,?_⟩
       obtain ⟨n3,n4⟩:=List.nodup_cons.mp y4
       have old:∀ b,H b=none->b ∉ a::fs':=fun b hb z=>by
        rcases List.mem_cons.mp z with z | z
        · rw [z,ha] at hb; cases hb
        · obtain ⟨_, x, ex⟩ := rs.owns b z
          rw [hb] at ex; cases ex
       have afs:a ∉ fs:=fun z=>by rw [n1 a z] at ha; cases ha
       have hs':∀ b u,b≠a->H b=some u->upd H2 a (.dK (putK kvs k v)) b=some u:=fun b u nb eb=>by rw [L2.upd_ne nb]; exact s12 _ _ eb
       have nO:∀ {b:Addr},¬ O b->b≠a:=fun nb z=>nb (by rw [z]; exact na)
       have c0:Chg H (upd H2 a (.dK (putK kvs k v))) O (orL fs O) [a] (a::fs) :=
        ⟨fun b u nb eb=>hs' b u (nO nb) eb,fun b u _ nb eb=>hs' b u (fun z=>nb (by rw [z]; exact .head _)) eb,fun b z _=>.inr z,fun b z=>z.elim (fun z=>.inr ⟨.tail _ z,n1 b z⟩) .inl,fun b z=>(List.mem_cons.mp z).elim (fun z=>.inl (by rw [z]; exact .head _)) fun z=>.inr (n1 b z)⟩
       have rT:RepO X.K (upd H2 a (.dK (putK kvs k v))) (orL fs O) v T fs:=(r1.mono s2).keep (fun b u nb eb=>by rw [L2.upd_ne (nO fun z=>nb (.inr z))]; exact eb) fun b hb u eb=>by
        have z:b≠a:=fun z=>afs (by rw [<- z]; exact hb)
        rw [L2.upd_ne z]; exact eb
       have rs':=(c0.repsO rs fun b hb z=>n3 (List.mem_singleton.mp z ▸ hb)).snocO rT
       have ok:=y6 (H':=upd H2 a (.dK (putK kvs k v))) (O':=orL fs O) (u':=.dct (ks++[k]) (ts++[T])) (f':=a::(fs'++fs))
        ⟨fun b u nb eb=>hs' b u (nO nb) eb,fun b u _ nb eb=>hs' b u (fun z=>nb (by rw [z]; exact .head _)) eb,fun b z _=>.inr z,fun b z=>z.elim (fun z=>.inr ⟨.tail _ (List.mem_append_right _ z),n1 b z⟩) .inl,fun b z=>?_⟩
        (fun b z _=>?_) (.dct (.inr na) upd_same (by rw [pn,<- ek]; simp) (by rw [show (putK kvs k v).map (·.2)=kvs.map (·.2)++[v] by rw [pn]; simp]; exact rs')) (List.nodup_cons.mpr ⟨fun z=>?_,?_⟩)
       · have e' : putP q (.dct (ks ++ [k]) (ts ++ [T])) ds = ds.set q.1 (.ob r (putO (.dct (ks ++ [k]) (ts ++ [T])) q.2.1 T0)) := by simp [putP, g1]
         rw [e'] at h
         exact h _ _ _ ok
       · rcases List.mem_cons.mp z with z | z
         · exact .inl (by rw [z]; exact .head _)
         · rcases List.mem_append.mp z with z | z
           · exact .inl (.tail _ z)
           · exact .inr (n1 b z)
       · by_cases z' : b = a
         · rw [z',upd_same]; exact ⟨⟨.dK (putK kvs k v),rfl⟩,rfl⟩
         · rcases List.mem_cons.mp z with q' | q'
           · exact (z' q').elim
           · obtain ⟨_, y, ey⟩ := rs.owns b q'
             exact ⟨y,hs' b _ z' ey⟩
       · rcases List.mem_append.mp z with z | z
         · exact n3 z
         · exact afs z
       · rw [List.nodup_append]
         exact ⟨n4,nd1,fun x hx y hy z=>old x (by rw [z]; exact n1 y hy) (.tail _ hx)⟩
   · cases e
 | _=>rw [hq] at e; cases e
end
section
variable {K:Frag} {H H' H₀ : Hp} {O O':Addr->Prop}
theorem Ok.frzV {σ : L2.St} {ds:List Sl} {hd:Hold} {i t:Nat} {r:Option Nat} {ks:List Key} {ts:List OT} (o:Ok K H₀ H O σ ds hd) (e:ds[i]? = some (.ob r (.ins t [.dct ks ts]))) :
  ∃ a kvs,H a=some (.dK kvs)/\∀ ob,∃ O',Ok K H₀ (upd H a (.frz ob (.dK kvs))) O' σ (ds.set i (.v (.ins t [.dcf ks (otDs ts)]))) hd:=by
 obtain ⟨F,hF⟩:=o.obs
 obtain ⟨v,h1,h2,h3,h4,h5⟩:=hF i r _ e
 have hl:i < ds.length:=(List.getElem?_eq_some_iff.mp e).1
 generalize hfi:F i=fi at h2 h4 h5
 cases h2 with
 | @ins a0 C dx _ kvs0 _ fs0 cc n0 h0' ek0 rs0 =>
  generalize hv0:kvs0.map (·.2)=vs0 at rs0
  cases rs0 with
  | @cons x0 _ xs0 _ f1 f2 h2 t2 =>
  cases t2
  cases h2 with
  | @dct a kvs _ _ fs n hb ek rs =>
   refine ⟨a,kvs,hb,fun ob=>?_⟩
   have nd:=List.nodup_cons.mp h4
   have nd2:=List.nodup_cons.mp ((List.nodup_append.mp nd.2).1)
   have a0a:a0≠a:=fun z=>nd.1 (by rw [z]; simp)
   have afs:a ∉ fs:=nd2.1
   have ma:a∈a0::(a::fs++[]):=by simp
   have m0:a0∈a0::(a::fs++[]):=by simp
   let O':Addr->Prop:=fun b=>O b/\b ∉ a0::(a::fs++[])
   have sub:∀ b,O' b->O b:=fun b hb=>hb.1
   have h0:H₀ a=none:=(h5 a ma).1
   have kp:Keep O H (upd H a (.frz ob (.dK kvs))):=fun b u nb eb=>by
    have z:b≠a:=fun z=>nb (by rw [z]; exact n)
    rw [L2.upd_ne z]; exact eb
   have ne:∀ {b:Addr} {u:HO},b≠a->H b=some u->upd H a (.frz ob (.dK kvs)) b=some u:=fun z eb=>by rw [L2.upd_ne z]; exact eb
   have own':∀ {j:Nat},IsOwn (ds.set i (.v (.ins t [.dcf ks (otDs ts)]))) j->IsOwn ds j/\j≠i:=fun h=>yN (fun l=>by intro z; cases z) h
   have nown:∀ {j:Nat} {b:Addr},IsOwn ds j->σ[j]? = some (some (.ref b))->b ∉ a0::(a::fs++[]):=fun {j b} oj ej z=>(h5 b z).2.2 j oj ej
   have rs2:RepsO K (upd H a (.frz ob (.dK kvs))) O (kvs.map (·.2)) ts fs:=rs.keep kp fun b hb' u eb=>ne (fun z=>afs (by rw [<- z]; exact hb')) eb
   have rv:Reps K (upd H a (.frz ob (.dK kvs))) O' (kvs.map (·.2)) (otDs ts):=rs2.val' fun b z=>⟨z.1,fun q=>z.2 (by simp [q])⟩
   refine ⟨O',fun b u eb=>ne (fun z=>by rw [z,h0] at eb; cases eb) (o.same b u eb),fun j l' b e1 e2=>?_,fun b hb=>?_,by simpa using o.len,fun j s es=>?_,fun j m b hjm hj hm e1 e2=>o.apart j m b hjm (own' hj).1 (own' hm).1 e1 e2,fun p hp=>?_,?_⟩
   · obtain ⟨⟨l2, e2'⟩, _⟩ := own' ⟨l', e1⟩
     exact o.fresh j l2 b e2' e2
   · obtain ⟨u, eu⟩ := o.dom b hb.1
     exact ⟨u,ne (fun z=>hb.2 (by rw [z]; exact ma)) eu⟩
   · by_cases hj : j = i
     · subst hj
       rw [List.getElem?_set_self hl] at es
       cases es
       rw [h1]
       exact jN (.ins cc (fun z=>z.2 m0) (ne a0a h0') ek0 (by rw [hv0]; exact .cons (.dcf (fun z=>z.2 ma) upd_same ek rv) .nil))
     · rw [List.getElem?_set_ne (Ne.symm hj)] at es
       cases s with
       | no=>exact qU
       | ob r t=>exact jV
       | exc t =>
         obtain ⟨a',C',ob',u',q1,q2,q3,q4⟩:=o.readX es
         rw [q1]
         exact ⟨C',ob',u',q2,ne (fun z=>by rw [z,hb] at q3; cases q3) q3,q4⟩
       | fr l' =>
         obtain ⟨a',xs',q1,q2,q0,q3,q4⟩:=o.readF es
         rw [q1]
         exact ⟨fun z=>q2 (sub _ z),q0,xs',kp _ _ q2 q3,(q4.keep kp).less sub⟩
       | v d =>
         obtain ⟨v,q1,q2⟩:=o.read es
         rw [q1]
         exact jN ((q2.keep kp).less sub)
       | own l' =>
         obtain ⟨b,ys,q1,q2,q3,q4⟩:=o.readO es
         rw [q1]
         have z:=nown ⟨l',es⟩ q1
         exact ⟨⟨q2,z⟩,ys,ne (fun y=>z (by rw [y]; exact ma)) q3,(q4.keep kp).less sub⟩
   · have := o.hold p hp
     cases p with
     | rep v d=>exact (Rep.keep kp this).less sub
     | base B=>exact fun b hb=>⟨⟨(this b hb).1,fun z=>(this b hb).2 (h5 b z).1⟩,(this b hb).2⟩
     | root k a=>exact True.intro
     | fz a' o' kvs' l'=>exact ⟨fun z=>this.1 (sub _ z),kp _ _ this.1 this.2.1,(Reps.keep kp this.2.2).less sub⟩
   · refine ⟨F, fun j r' t' ej => ?_⟩
     obtain ⟨ej,hj⟩:=yZ (fun r t=>by intro z; cases z) ej
     obtain ⟨w,g1,g2,g3,g4,g5⟩:=hF j r' t' ej
     have na:∀ b∈a0::(a::fs++[]),b ∉ F j:=fun b hb z=>(h5 b hb).2.1 j r' t' hj ej z
     refine ⟨w,g1,(g2.keep kp fun b hb u eb=>ne (fun z=>na a ma (by rw [<- z]; exact hb)) eb).less sub fun b hb=>⟨(g2.owns b hb).1,fun z=>na b z hb⟩,g3,g4,fun b hb=>⟨(g5 b hb).1,fun m r2 t2 hm em=>(g5 b hb).2.1 m r2 t2 hm (yZ (fun r t=>by intro z; cases z) em).1,fun m om em=>(g5 b hb).2.2 m (own' om).1 em⟩⟩
end
section
variable {X:Cx}
theorem kF (i:Nat) {e:Expr} {c:FT} (h:PTv X e c):PTv X e (relTV i c):=by
 obtain ⟨t,ht,hf⟩:=h
 refine ⟨_,pt_thw ht,fun H₀ H O σ ds hd b Q o e q=>?_⟩
 unfold relTV at e
 obtain ⟨d,h1,e⟩:=bnd e
 cases hs:ds[i]? with
 | none=>rw [hs] at h1; cases h1
 | some s =>
   rw [hs] at h1
   unfold insV at h1
   split at h1
   · rename_i r t ks ts hh
     cases hh
     cases h1
     obtain ⟨a,kvs,ha,hO⟩:=o.frzV hs
     refine ⟨a,kvs,ha,fun ob=>?_⟩
     obtain ⟨O',o'⟩:=hO ob
     refine hf H₀ _ O' σ _ hd b _ o' e fun H' s'=>⟨s' _ _ upd_same,q _ fun x u eu=>?_⟩
     by_cases hx:x=a
     · rw [hx,upd_same]; rw [hx,ha] at eu; exact eu
     · rw [upd_ne hx]
       exact s' _ _ (by rw [upd_ne hx]; exact eu)
   · cases h1
end
section
variable {X:Cx} {scope:Scope} {NY:List Str} {mp:List (Option Nat)} {tg iter elt:Expr} {ifs:List Expr} {pos:Pos} {fi:FA} {ga:D->List Sl->Option (List Sl)} {tt:FT} {fe:FE}
theorem pvf_compD (S:CompScope X scope NY mp) (hc:X.calm=true) (hi:PId X tg iter fi) (hg:∀ c,PGv (qT X scope NY c) tg ga) (ht:∀ c,PFv (qT X scope NY c) ifs tt) (he:∀ c,PV (qT X scope NY c) elt fe)
  (hs:∀ x,foldedSetIterable iter X.env x=pure x:=by intro _; rfl):PVf X (.ListComp elt [⟨tg,iter,ifs,0⟩] scope pos) (compG fi mp ga tt fe):=by
 obtain ⟨wi,pi,hi⟩:=hi
 refine ⟨_,pe_comp S hc pi (fun c=>(Classical.choose_spec (hg c)).1) (fun c=>(Classical.choose_spec (ht c)).1) (fun c=>(Classical.choose_spec (he c)).1) hs,fun H₀ H O σ ds hd l Q o e q=>?_⟩
 exact comp_semD hi (fun c=>(Classical.choose_spec (hg c)).2) (fun c=>(Classical.choose_spec (ht c)).2) (fun c=>(Classical.choose_spec (he c)).2) H₀ H O σ ds hd l Q o e fun a xs H' s hn he r=>q a xs H' s hn he r
end
section
variable {X:Cx} {m:Str} {k n j:Nat} {cs:List Nat} {F:Nat->OT->List D->Option OT} {f:FP} {oe e:Expr} {es:List Expr} {apos pos:Pos} {g:FA}
end
end FL
namespace L2
open PySem PySem.Spec PyProof.Rows
section
variable {X:Cx}
def eThw (t:TE):TE:=fun σ H Q=>∃ a kvs,H a=some (.dK kvs)/\∀ o,t σ (upd H a (.frz o (.dK kvs))) fun v H'=>H' a=some (.frz o (.dK kvs))/\Q v (upd H' a (.dK kvs))
theorem pe_thw {e:Expr} {t:TE} (h:PE X e t):PE X e (eThw t):=by
 intro pins s σ H Q I ⟨a,kvs,h2,h3⟩
 have hn:∀ q u,X.H₀ a≠some (.frz q u):=fun q u z=>by
  have:=I.base.frzs a q u z
  rw [h2] at this; cases this
 obtain ⟨o,I'⟩:=I.freezeD h2
 obtain ⟨ho,z,hd,vs,rel,o',en,ep,e1,exd,dat,r⟩:=I'.hok a _ upd_same
 rw [ho] at e1
 cases e1
 refine thn (h pins s σ _ _ I' (h3 o)) fun v s' hq=>?_
 obtain ⟨x,H',I2,rx,e2,q⟩:=hq
 exact ⟨x,_,I2.thawD e2 dat hn,rx,q⟩
end
end L2
namespace FL
open PySem PySem.Spec PyProof.Rows L2
section
variable {K:Frag} {H H':Hp} {O O':Addr->Prop}
mutual
theorem Rep.flatF (ho:∀ a,O a->∀ xs,¬ Rd H a (.tup xs)):∀ {v:V} {d:D},Rep K H O' v d->flat d=true->Rep K H O v d
 | _,_,.non=>fun _=>.non
 | _,_,.bl b=>fun _=>.bl b
 | _,_,.int i=>fun _=>.int i
 | _,_,.str x=>fun _=>.str x
 | _,_,.tup n h r=>fun f=>.tup (fun z=>ho _ z _ h) h (Reps.flatF ho r (by simpa [flat] using f))
 | _,_,.tupK h r=>fun f=>.tupK h (Reps.flatF ho r (by simpa [flat] using f))
 | _,_,.lst _ _ _=>fun f=>by simp [flat] at f
 | _,_,.lstK _ _=>fun f=>by simp [flat] at f
 | _,_,.dct _ _ _ _=>fun f=>by simp [flat] at f
 | _,_,.dcf _ _ _ _=>fun f=>by simp [flat] at f
 | _,_,.ins _ _ _ _ _=>fun f=>by simp [flat] at f
 | _,_,.clo _ _ _ _ _ _=>fun f=>by simp [flat] at f
 | _,_,.fnK _=>fun f=>by simp [flat] at f
theorem Reps.flatF (ho:∀ a,O a->∀ xs,¬ Rd H a (.tup xs)):∀ {vs:List V} {ds:List D},Reps K H O' vs ds->flats ds=true->Reps K H O vs ds
 | _,_,.nil=>fun _=>.nil
 | _, _, .cons h t => fun f => by
   simp only [flats,Bool.and_eq_true] at f
   exact .cons (Rep.flatF ho h f.1) (Reps.flatF ho t f.2)
end
mutual
theorem RepO.flatF (ho:∀ a,O a->∀ xs,¬ Rd H a (.tup xs)):∀ {v:V} {t:OT} {fs:List Addr},RepO K H O' v t fs->flatO t=true->(∀ b∈fs,O b)->RepO K H O v t fs
 | _,_,_,.val r=>fun f _=>.val (r.flatF ho (by simpa [flatO] using f))
 | _,_,_,.lst n h r=>fun f hb=>.lst (hb _ (.head _)) h (RepsO.flatF ho r (by simpa [flatO] using f) fun b z=>hb b (.tail _ z))
 | _,_,_,.dct n h e r=>fun f hb=>.dct (hb _ (.head _)) h e (RepsO.flatF ho r (by simpa [flatO] using f) fun b z=>hb b (.tail _ z))
 | _,_,_,.ins c n h e r=>fun f hb=>.ins c (hb _ (.head _)) h e (RepsO.flatF ho r (by simpa [flatO] using f) fun b z=>hb b (.tail _ z))
 | _,_,_,.tup n h r=>fun f hb=>.tup (fun z=>ho _ z _ h) h (RepsO.flatF ho r (by simpa [flatO] using f) hb)
theorem RepsO.flatF (ho:∀ a,O a->∀ xs,¬ Rd H a (.tup xs)):∀ {v:List V} {t:List OT} {fs:List Addr},RepsO K H O' v t fs->flatOs t=true->(∀ b∈fs,O b)->RepsO K H O v t fs
 | _,_,_,.nil=>fun _ _=>.nil
 | _, _, _, .cons h r => fun f hb => by
   simp only [flatOs,Bool.and_eq_true] at f
   exact .cons (RepO.flatF ho h f.1 fun b z=>hb b (List.mem_append_left _ z)) (RepsO.flatF ho r f.2 fun b z=>hb b (List.mem_append_right _ z))
end
theorem no_tup {b:Addr} {u:MutHO} (e:H b=some u.1) (xs:List V) : ¬ Rd H b (.tup xs):=fun h=>by
 obtain ⟨u,m⟩:=u
 rcases h with h | ⟨o,h⟩
 · rw [e] at h; cases h; cases m
 · rw [e] at h; cases h; cases m
end
section
variable {X:Cx}
theorem pvo_relV (i:Nat) {e:Expr} {f:FO} (h:PVo X e f):PVo X e (relGV i f):=by
 obtain ⟨t,ht,hf⟩:=h
 refine ⟨_,pe_thw ht,fun H₀ H O σ ds hd T Q ok ex q=>?_⟩
 unfold relGV at ex
 obtain ⟨d,h1,ex⟩:=bnd ex
 obtain ⟨T',h2,ex⟩:=bnd ex
 split at ex
 · rename_i hfl
   cases ex
   cases hs:ds[i]? with
   | none=>rw [hs] at h1; cases h1
   | some s =>
     rw [hs] at h1
     unfold insV at h1
     split at h1
     · rename_i r t ks ts hh
       cases hh
       cases h1
       obtain ⟨a,kvs,ha,hO⟩:=ok.frzV hs
       refine ⟨a,kvs,ha,fun ob=>?_⟩
       obtain ⟨O',o'⟩:=hO ob
       refine hf H₀ _ O' σ _ hd _ _ o' h2 fun v H' fs s' r nd nw=>⟨s' _ _ upd_same,?_⟩
       have ha':H' a=some (.frz ob (.dK kvs)):=s' _ _ upd_same
       have af:a ∉ fs:=fun z=>by have:=nw a z; rw [upd_same] at this; cases this
       have sm:Same H (upd H' a (.dK kvs)):=fun x u eu=>by
        by_cases hx:x=a
        · rw [hx,upd_same]; rw [hx,ha] at eu; exact eu
        · rw [upd_ne hx]
          exact s' _ _ (by rw [upd_ne hx]; exact eu)
       have r1:RepO X.K H' (orL fs (fun b=>b=a)) v T fs:=r.flatF (fun b z xs hr=>by
        rcases z with z | z
        · obtain ⟨_, u, eu⟩ := r.owns b z
          exact no_tup eu xs hr
        · subst z
          rcases hr with hr | ⟨o,hr⟩
          · rw [ha'] at hr; cases hr
          · rw [ha'] at hr; cases hr) hfl fun b hb=>.inl hb
       have r2:RepO X.K (upd H' a (.dK kvs)) (orL fs (fun b=>b=a)) v T fs:=r1.keep (fun b u nb eb=>by rw [upd_ne (fun z=>nb (.inr z))]; exact eb) fun b hb u eb=>by rw [upd_ne (fun z=>af (by rw [<- z]; exact hb))]; exact eb
       refine q v _ fs sm (r2.flatF (fun b z xs hr=>?_) hfl fun b hb=>.inl hb) nd fun b hb=>?_
       · rcases z with z | z
         · obtain ⟨_, u, eu⟩ := r2.owns b z
           exact no_tup eu xs hr
         · obtain ⟨u, eu⟩ := ok.dom b z
           exact no_tup (sm _ _ eu) xs hr
       · have := nw b hb
         rwa [upd_ne (fun z=>af (by rw [<- z]; exact hb))] at this
     · cases h1
 · cases ex
end
section
variable {X:Cx} {E:XK} {C:Addr} {k j n:Nat} {F:List D->Option Ret} {x:Str} {p pos:Pos} {e:Expr} {es:List Expr} {g:FA} {y:List Sl->Bool}
theorem psy_dput {oe ke:Expr} {pos':Pos} {fo fk:FE} (hr:Room j X.A) (ho:PV X oe fo) (hk:PV X ke fk) (he:PEy X E C e y) (hs:swapsWith e (some (.Subscript oe ke pos')) pos.line X.env=pure false:=by rfl) :
  PSy X E C (.Assign [.Subscript oe ke pos'] e pos) y:=by
 obtain ⟨tp,hp,_⟩:=ho
 obtain ⟨tk,pk,_⟩:=hk
 obtain ⟨te,pe,hg⟩:=he
 exact ⟨_,ps_dput (Nat.lt_of_le_of_lt (by omega) (hu100 hr)) hp pk pe hs,fun H₀ H O σ ds hd D o ex _ q=>hg H₀ H O σ ds hd _ o ex q⟩
theorem pey_callA (Ca:Cal X.prog X.w X.K X.mg X.base x k n F) (hr:Room j X.A) (hy:PEy X E C e y) (ha:PAn X es g) (hj:k<=j:=by decide) (hg:Gl X x:=by rfl) (hdb:(x == ("__debug__" : Str))=false:=by decide)
  (he:starEach (e::es) X.env=(false,eval e X.env)::starEach es X.env:=by rfl) (hpl:(backTo pos (starEach es X.env)).any (·.1)=false:=by rfl):PEy X E C (.Call (.Name x p) (e::es) [] pos) y:=by
 obtain ⟨f,fd,ps,Fn,hb,hk,hm⟩:=Ca.ex
 obtain ⟨te,pe,hf⟩:=hy
 obtain ⟨ta,pa,_⟩:=ha
 exact ⟨_,wV (CX:=CX0) (E:=E0) Fn (hr.mono hj) hg hm hk hb .nil pass0 (qK pe pa he) hdb he hpl,fun H₀ H O σ ds hd Q o ex q=>hf H₀ H O σ ds hd _ o ex q⟩
end
noncomputable def oi:Option Int->D
 | none=>.non
 | some i=>.int i
@[simp] theorem oi_none:oi none = .non:=rfl
@[simp] theorem oi_some (i:Int):oi (some i) = .int i:=rfl
noncomputable def andK (r:Option D):D->Option D:=fun d=>match d with | .bl true=>r | .bl false=>some (.bl false) | _=>none
noncomputable def orK (r:Option D):D->Option D:=fun d=>match d with | .bl true=>some (.bl true) | .bl false=>r | _=>none
@[simp] theorem andK_bl (r:Option D) (b:Bool):andK r (.bl b)=if b=true then r else some (.bl false):=by cases b <;> rfl
@[simp] theorem orK_bl (r:Option D) (b:Bool):orK r (.bl b)=if b=true then some (.bl true) else r:=by cases b <;> rfl
@[simp] theorem ite_andD (b c:Bool):(if b=true then some (D.bl c) else some (D.bl false))=some (.bl (b && c)):=by cases b <;> rfl
@[simp] theorem ite_orD (b c:Bool):(if b=true then some (D.bl true) else some (D.bl c))=some (.bl (b || c)):=by cases b <;> rfl
@[simp] theorem ite_andB (b c:Bool):(if b=true then some c else some false)=some (b && c):=by cases b <;> rfl
@[simp] theorem ite_orB (b c:Bool):(if b=true then some true else some c)=some (b || c):=by cases b <;> rfl
@[simp] theorem ite_andD' (p:Prop) [Decidable p] (c:Bool):(if p then some (D.bl c) else some (D.bl false))=some (.bl (decide p && c)):=by by_cases h:p <;> simp [h]
@[simp] theorem ite_andB' (p:Prop) [Decidable p] (c:Bool):(if p then some c else some false)=some (decide p && c):=by by_cases h:p <;> simp [h]
@[simp] theorem ite_orB' (p:Prop) [Decidable p] (c:Bool):(if p then some true else some c)=some (decide p || c):=by by_cases h:p <;> simp [h]
@[simp] theorem szl:sizeLine=16777216:=sizeLine_eq
section
variable (ds:List Sl)
@[simp] theorem getV_eq (i:Nat):qF i ds=match ds[i]? with | some (.v d)=>some d | _=>none:=rfl
@[simp] theorem getW_eq (i:Nat):zI i ds=match ds[i]? with | some (.v d)=>some d | some (.own l)=>some (.lst l) | _=>none:=rfl
@[simp] theorem konst_eq (d:D):zA d ds=some d:=rfl
@[simp] theorem bin2_eq (op:D->D->Option D) (fa fb:FE):zJ op fa fb ds=(fa ds).bind fun x=>(fb ds).bind fun y=>op x y:=rfl
@[simp] theorem un1_eq (op:D->Option D) (f:FE):un1 op f ds=(f ds).bind op:=rfl
@[simp] theorem callB_eq (F:List D->Option D) (g:FA):callB F g ds=(g ds).bind F:=rfl
@[simp] theorem callV_eq (n:Nat) (F:List D->Option Ret) (g:FA):qQ n F g ds=(g ds).bind fun l=>if l.length=n then (F l).bind retV else none:=rfl
@[simp] theorem callF_eq (n:Nat) (F:List D->Option Ret) (g:FA):vI n F g ds=(g ds).bind fun l=>if l.length=n then (F l).bind retF else none:=rfl
@[simp] theorem retV_val (d:D):retV (.val d)=some d:=rfl
@[simp] theorem retV_fresh (l:List D):retV (.fresh l)=some (.lst l):=rfl
@[simp] theorem retF_val (d:D):retF (.val d)=none:=rfl
@[simp] theorem retF_fresh (l:List D):retF (.fresh l)=some l:=rfl
@[simp] theorem consA_eq (f:FE) (g:FA):zB f g ds=(f ds).bind fun x=>(g ds).map fun r=>x::r:=rfl
@[simp] theorem nilA_eq:zR ds=some []:=rfl
@[simp] theorem sized_eq (f:FA):zZ f ds=(f ds).bind fun l=>if l.length<=sizeLine then some l else none:=rfl
@[simp] theorem mkL_eq (f:FA):mkL f ds=(f ds).map D.lst:=rfl
@[simp] theorem mkT_eq (f:FA):mkT f ds=(f ds).map D.tup:=rfl
@[simp] theorem testB_eq (f:FE):zP f ds=(f ds).bind isB:=rfl
@[simp] theorem testT_eq (f:FE):testT f ds=(f ds).bind truD:=rfl
@[simp] theorem isB_bl (b:Bool):isB (.bl b)=some b:=rfl
@[simp] theorem andT_eq (c d:FT):andT c d ds=(c ds).bind fun b=>if b=true then d ds else some false:=rfl
@[simp] theorem orT_eq (c d:FT):orT c d ds=(c ds).bind fun b=>if b=true then some true else d ds:=rfl
@[simp] theorem notT_eq (c:FT):notT c ds=(c ds).map not:=rfl
@[simp] theorem andV_eq (f g:FE):andV f g ds=(f ds).bind (andK (g ds)):=rfl
@[simp] theorem orV_eq (f g:FE):orV f g ds=(f ds).bind (orK (g ds)):=rfl
@[simp] theorem notV_eq (f:FE):notV f ds=(f ds).bind fun d=>match d with | .bl b=>some (.bl (!b)) | _=>none:=rfl
@[simp] theorem ifV_eq (c:FT) (f g:FE):ifV c f g ds=(c ds).bind fun b=>if b=true then f ds else g ds:=rfl
@[simp] theorem seqG_eq (f g:FS):qJ f g ds=(f ds).bind fun o=>match o with | .nx ds'=>g ds' | o=>some o:=rfl
@[simp] theorem ifG_eq (c:FT) (f g:FS):ifG c f g ds=(c ds).bind fun b=>if b=true then f ds else g ds:=rfl
@[simp] theorem setG_eq (i:Nat) (f:FE):xG i f ds=(f ds).map fun d=>.nx (ds.set i (.v d)):=rfl
@[simp] theorem setOG_eq (i:Nat) (f:FA):setOG i f ds=(f ds).map fun l=>.nx (ds.set i (.own l)):=rfl
@[simp] theorem retG_eq (f:FE):retG f ds=(f ds).bind flatR:=rfl
@[simp] theorem retOG_eq (f:FA):retOG f ds=(f ds).bind flatF:=rfl
@[simp] theorem retXG_eq (i:Nat):retXG i ds=match ds[i]? with | some (.own l)=>flatF l | _=>none:=rfl
@[simp] theorem nextG_eq:qB ds=some (.nx ds):=rfl
@[simp] theorem appG_eq (i:Nat) (fe:FE):appG i fe ds=match ds[i]? with
 | some (.own l)=>(fe ds).bind fun d=>if l.length < sizeLine then some (.nx (ds.set i (.own (l++[d])))) else none
 | _=>none:=rfl
@[simp] theorem extG_eq (i:Nat) (fe:FA):extG i fe ds=match ds[i]? with
 | some (.own l)=>(fe ds).bind fun d=>if l.length+d.length<=sizeLine then some (.nx (ds.set i (.own (l++d)))) else none
 | _=>none:=rfl
@[simp] theorem putG_eq (i:Nat) (fk fe:FE):putG i fk fe ds=match ds[i]? with
 | some (.own l) => (fe ds).bind fun d => (fk ds).bind fun k => match k with
   | .int n=>(ixN l.length n).map fun j=>.nx (ds.set i (.own (l.set j d)))
   | _=>none
 | _=>none:=rfl
@[simp] theorem clrG_eq (i:Nat):clrG i ds=match ds[i]? with
 | some (.own l)=>some (.nx (ds.set i (.own [])))
 | _=>none:=rfl
@[simp] theorem asgG_eq (ga:D->List Sl->Option (List Sl)) (f:FE):asgG ga f ds=(f ds).bind fun d=>(ga d ds).map .nx:=rfl
@[simp] theorem relS_eq (i:Nat):relS i ds=match ds[i]? with | some (.own l)=>ds.set i (.v (.lst l)) | _=>ds:=rfl
@[simp] theorem viaA_eq (f:FE) (k:D->Option (List D)):viaA f k ds=(f ds).bind k:=rfl
@[simp] theorem asLT_lst (l:List D):asLT (.lst l)=some l:=rfl
@[simp] theorem asLT_tup (l:List D):asLT (.tup l)=some l:=rfl
@[simp] theorem catA_eq (fa fb:FE):catA fa fb ds=(fa ds).bind fun x=>(fb ds).bind fun y=>match x,y with
 | .lst a,.lst b=>if a.length+b.length<=sizeLine then some (a++b) else none
 | _,_=>none:=rfl
@[simp] theorem sliA_eq (f:FE) (lo hi:List Sl->Option (Option Int)):sliA f lo hi ds=(f ds).bind fun d=>(lo ds).bind fun a=>(hi ds).bind fun b=>match d with
 | .lst l=>some (cutD l a b)
 | _=>none:=rfl
@[simp] theorem lisA_eq (f:FE):lisA f ds=(f ds).bind asLT:=rfl
@[simp] theorem noP_eq:noP ds=some none:=rfl
@[simp] theorem soP_eq (f:FE):soP f ds=(f ds).bind fun d=>match d with | .int i=>some (some i) | _=>none:=rfl
@[simp] theorem xQ (fi:FA) (ga:D->List Sl->Option (List Sl)) (body:FS):forG fi ga body ds=(fi ds).bind fun items=>jM ga body items ds:=rfl
@[simp] theorem nameG_eq (i:Nat) (d:D):qA i d ds=some (ds.set i (.v d)):=rfl
@[simp] theorem tupG_eq (n:Nat) (h:List D->List Sl->Option (List Sl)) (l:List D):tupG n h (.tup l) ds=if l.length=n then h l ds else none:=rfl
@[simp] theorem tgCons_eq (g:D->List Sl->Option (List Sl)) (h:List D->List Sl->Option (List Sl)) (d:D) (r:List D):jC g h (d::r) ds=(g d ds).bind fun ds'=>h r ds':=rfl
@[simp] theorem tgNil_eq:tgNil [] ds=some ds:=rfl
@[simp] theorem isiG_eq (T:String) (f:FE):isiG T f ds=(f ds).bind (isiD T):=rfl
@[simp] theorem chain_eq (op op':D->D->Option D) (fa fb fc:FE):chain op op' fa fb fc ds=(fa ds).bind fun x=>(fb ds).bind fun y=>(op x y).bind fun z=>match z with
 | .bl true=>(fc ds).bind fun w=>op' y w
 | .bl false=>some (.bl false)
 | _=>none:=rfl
end
@[simp] theorem addD_int (i j:Int):yG (.int i) (.int j)=some (.int (i+j)):=rfl
@[simp] theorem subD_int (i j:Int):subD (.int i) (.int j)=some (.int (i - j)):=rfl
@[simp] theorem negD_int (i:Int):negD (.int i)=some (.int (-i)):=rfl
@[simp] theorem ltD_int (i j:Int):ltD (.int i) (.int j)=some (.bl (decide (i < j))):=rfl
@[simp] theorem leD_int (i j:Int):leD (.int i) (.int j)=some (.bl (decide (i<=j))):=rfl
@[simp] theorem gtD_int (i j:Int):gtD (.int i) (.int j)=some (.bl (decide (j < i))):=rfl
@[simp] theorem geD_int (i j:Int):geD (.int i) (.int j)=some (.bl (decide (j<=i))):=rfl
@[simp] theorem xJ {j:Int} (i:Int) (h:0 < j):jO (.int i) (.int j)=some (.int (i % j)):=if_pos h
theorem divOk_small {j:Int} (h:0 < j) (h2:j < 1000000000):divOk j:=⟨h,by
 have h3:j.natAbs < 2 ^ 30:=by
  have:(2:Nat) ^ 30=1073741824:=by decide
  omega
 have h4:j.natAbs≠0:=by omega
 have:=(Nat.log2_lt h4).mpr h3
 omega⟩
@[simp] theorem fdivD_small {j:Int} (i:Int) (h:0 < j) (h2:j < 1000000000):qL (.int i) (.int j)=some (.int (i / j)):=if_pos (divOk_small h h2)
theorem mulD_ok {i j:Int} (h:IntMulOk i j):mulD (.int i) (.int j)=some (.int (i * j)):=if_pos h
@[simp] theorem mxD_int (i j:Int):mxD [.int i,.int j]=some (.int (max i j)):=by
 show some (D.int (if j > i then j else i))=_
 congr 2
 split <;> omega
@[simp] theorem mnD_int (i j:Int):mnD [.int i,.int j]=some (.int (min i j)):=by
 show some (D.int (if j < i then j else i))=_
 congr 2
 split <;> omega
@[simp] theorem lenD_lst (l:List D):lenD [.lst l]=some (.int l.length):=rfl
@[simp] theorem lenD_tup (l:List D):lenD [.tup l]=some (.int l.length):=rfl
@[simp] theorem isD_non:isD .non .non=some (.bl true):=rfl
@[simp] theorem isD_int (i:Int):isD (.int i) .non=some (.bl false):=rfl
@[simp] theorem isD_bl (i:Bool):isD (.bl i) .non=some (.bl false):=rfl
@[simp] theorem isD_tup (i:List D):isD (.tup i) .non=some (.bl false):=rfl
@[simp] theorem isD_lst (i:List D):isD (.lst i) .non=some (.bl false):=rfl
@[simp] theorem isD_oi (o:Option Int):isD (oi o) .non=some (.bl o.isNone):=by cases o <;> rfl
@[simp] theorem notD_non:notD .non .non=some (.bl false):=rfl
@[simp] theorem notD_int (i:Int):notD (.int i) .non=some (.bl true):=rfl
@[simp] theorem notD_bl (i:Bool):notD (.bl i) .non=some (.bl true):=rfl
@[simp] theorem notD_tup (i:List D):notD (.tup i) .non=some (.bl true):=rfl
@[simp] theorem notD_lst (i:List D):notD (.lst i) .non=some (.bl true):=rfl
@[simp] theorem notD_oi (o:Option Int):notD (oi o) .non=some (.bl o.isSome):=by cases o <;> rfl
@[simp] theorem truD_bl (b:Bool):truD (.bl b)=some b:=rfl
@[simp] theorem truD_non:truD .non=some false:=rfl
@[simp] theorem truD_lst (l:List D):truD (.lst l)=some (!l.isEmpty):=rfl
@[simp] theorem truD_tup (l:List D):truD (.tup l)=some (!l.isEmpty):=rfl
theorem vP {n:Nat} {i:Int} (h:0<=i) (h2:i < n):ixN n i=some i.toNat:=by
 unfold ixN
 rw [if_pos h,if_pos h2]
theorem yJ (l:List D) {i:Int} (h:0<=i) (h2:i < l.length):ixD (.lst l) (.int i)=l[i.toNat]?:=by
 show atI l i=_
 unfold atI
 rw [vP h h2]
 rfl
theorem ixT_pos (l:List D) {i:Int} (h:0<=i) (h2:i < l.length):ixD (.tup l) (.int i)=l[i.toNat]?:=by
 show atI l i=_
 unfold atI
 rw [vP h h2]
 rfl
@[simp] theorem ixT0 (a:D) (l:List D):ixD (.tup (a::l)) (.int 0)=some a:=by
 rw [ixT_pos _ (by decide) (by rw [List.length_cons]; omega)]
 rfl
@[simp] theorem ixT1 (a b:D) (l:List D):ixD (.tup (a::b::l)) (.int 1)=some b:=by
 rw [ixT_pos _ (by decide) (by rw [List.length_cons,List.length_cons]; omega)]
 rfl
@[simp] theorem ixT2 (a b c:D) (l:List D):ixD (.tup (a::b::c::l)) (.int 2)=some c:=by
 rw [ixT_pos _ (by decide) (by rw [List.length_cons,List.length_cons,List.length_cons]; omega)]
 rfl
@[simp] theorem ixL0 (a:D) (l:List D):ixD (.lst (a::l)) (.int 0)=some a:=by
 rw [yJ _ (by decide) (by rw [List.length_cons]; omega)]
 rfl
@[simp] theorem ixL1 (a b:D) (l:List D):ixD (.lst (a::b::l)) (.int 1)=some b:=by
 rw [yJ _ (by decide) (by rw [List.length_cons,List.length_cons]; omega)]
 rfl
theorem ixL_last (l:List D) (a:D):ixD (.lst (l++[a])) (.int (-1))=some a:=by
 show atI (l++[a]) (-1)=_
 unfold atI ixN
 rw [if_neg (by decide),if_pos (by rw [List.length_append,List.length_singleton]; omega),List.length_append,List.length_singleton]
 have e:(-1+((l.length+1:Nat):Int)).toNat=l.length:=by omega
 rw [e]
 simp
@[simp] theorem flat_non:flat .non=true:=by simp [flat]
@[simp] theorem flat_bl (b:Bool):flat (.bl b)=true:=by simp [flat]
@[simp] theorem flat_int (i:Int):flat (.int i)=true:=by simp [flat]
@[simp] theorem flat_str (i:Str):flat (.str i)=true:=by simp [flat]
@[simp] theorem flat_tup (l:List D):flat (.tup l)=flats l:=by simp [flat]
@[simp] theorem flats_nil:flats []=true:=by simp [flats]
@[simp] theorem flats_cons (d:D) (l:List D):flats (d::l)=(flat d && flats l):=by simp [flats]
@[simp] theorem flat_oi (o:Option Int):flat (oi o)=true:=by cases o <;> simp
theorem yP {d:D} (h:flat d=true):flatR d=some (.rt (.val d)):=if_pos h
@[simp] theorem flatR_non:flatR .non=some (.rt (.val .non)):=yP (by simp)
@[simp] theorem flatR_bl (b:Bool):flatR (.bl b)=some (.rt (.val (.bl b))):=yP (by simp)
@[simp] theorem flatR_int (i:Int):flatR (.int i)=some (.rt (.val (.int i))):=yP (by simp)
@[simp] theorem flatR_str (i:Str):flatR (.str i)=some (.rt (.val (.str i))):=yP (by simp)
@[simp] theorem flatR_oi (o:Option Int):flatR (oi o)=some (.rt (.val (oi o))):=yP (by simp)
@[simp] theorem flatR_tup (l:List D) (h:flats l=true):flatR (.tup l)=some (.rt (.val (.tup l))):=yP (by simpa using h)
@[simp] theorem flatF_of (l:List D) (h:flats l=true):flatF l=some (.rt (.fresh l)):=if_pos h
@[simp] theorem shal_int (n:Nat) (i:Int):shal n (.int i)=true:=by simp [shal]
@[simp] theorem shal_non (n:Nat):shal n .non=true:=by simp [shal]
@[simp] theorem shal_oi (n:Nat) (o:Option Int):shal n (oi o)=true:=by cases o <;> simp
@[simp] theorem shal_tup (n:Nat) (l:List D):shal n (.tup l)=shals n l:=by simp [shal]
@[simp] theorem shal_lst (n:Nat) (l:List D):shal n (.lst l)=shals n l:=by simp [shal]
@[simp] theorem shals_nil (n:Nat):shals n []=true:=by cases n <;> simp [shals]
@[simp] theorem shals_cons (n:Nat) (d:D) (l:List D):shals (n+1) (d::l)=(shal n d && shals (n+1) l):=by simp [shals]
theorem wZ {n:Nat} {l:List D} (h:∀ d∈l,shal n d=true):shals (n+1) l=true:=by
 induction l with
 | nil=>simp
 | cons d r ih =>
   rw [shals_cons,h d List.mem_cons_self,ih fun x hx=>h x (List.mem_cons_of_mem _ hx)]
   rfl
theorem eqD_ok {x y:D} (h:shal 40 x=true) (h2:shal 40 y=true):eqD x y=some (.bl (eqvD x y)):=if_pos ⟨h,h2⟩
theorem neD_ok {x y:D} (h:shal 40 x=true) (h2:shal 40 y=true):neD x y=some (.bl (!eqvD x y)):=if_pos ⟨h,h2⟩
@[simp] theorem eqvD_int (i j:Int):eqvD (.int i) (.int j)=decide (i=j):=by
 show (i == j)=_
 rw [Bool.eq_iff_iff]; simp
@[simp] theorem eqvD_non:eqvD .non .non=true:=rfl
@[simp] theorem eqvD_non_int (j:Int):eqvD .non (.int j)=false:=rfl
@[simp] theorem eqvD_int_non (j:Int):eqvD (.int j) .non=false:=rfl
@[simp] theorem eqvD_oi (o p:Option Int):eqvD (oi o) (oi p)=decide (o=p):=by cases o <;> cases p <;> simp
@[simp] theorem eqvD_tup (a b:List D):eqvD (.tup a) (.tup b)=eqvs a b:=by simp [eqvD,eqvs,toPy,PyData.eqv]
@[simp] theorem eqvD_lst (a b:List D):eqvD (.lst a) (.lst b)=eqvs a b:=by simp [eqvD,eqvs,toPy,PyData.eqv]
@[simp] theorem eqvs_nil:eqvs [] []=true:=by simp [eqvs,toPys,PyData.eqvAll]
@[simp] theorem wT (x y:D) (a b:List D):eqvs (x::a) (y::b)=(eqvD x y && eqvs a b):=by simp [eqvs,eqvD,toPys,PyData.eqvAll]
@[simp] theorem eqvs_nil_cons (y:D) (b:List D):eqvs [] (y::b)=false:=by simp [eqvs,toPys,PyData.eqvAll]
@[simp] theorem eqvs_cons_nil (y:D) (b:List D):eqvs (y::b) []=false:=by simp [eqvs,toPys,PyData.eqvAll]
@[simp] theorem eqD_int (i j:Int):eqD (.int i) (.int j)=some (.bl (decide (i=j))):=by rw [eqD_ok (by simp) (by simp)]; simp
@[simp] theorem eqD_oi (i j:Option Int):eqD (oi i) (oi j)=some (.bl (decide (i=j))):=by rw [eqD_ok (by simp) (by simp)]; simp
@[simp] theorem bind_ite {α β : Type} {c:Prop} [Decidable c] (a b:Option α) (f : α->Option β):(if c then a else b).bind f=if c then a.bind f else b.bind f:=by split <;> rfl
@[simp] theorem map_ite {α β : Type} {c:Prop} [Decidable c] (a b:Option α) (f : α->β):(if c then a else b).map f=if c then a.map f else b.map f:=by split <;> rfl
theorem yS {fi:FA} {mp:List (Option Nat)} {ga:D->List Sl->Option (List Sl)} {tt:FT} {fe:FE} {ds:List Sl} {items l:List D} (h:fi ds=some items) (hl:items.length<=sizeLine) (hc:compL ga tt fe (qY mp ds) items=some l):compG fi mp ga tt fe ds=some l:=by
 unfold compG
 rw [h]
 show (if items.length<=sizeLine then compL ga tt fe (qY mp ds) items else none)=_
 rw [if_pos hl]
 exact hc
theorem blsD_map:∀ bs:List Bool,blsD (bs.map D.bl)=some bs
 | []=>rfl
 | b::r=>by simp [blsD,blsD_map r]
@[simp] theorem wM (bs:List Bool):allD [.lst (bs.map D.bl)]=some (.bl (bs.all id)):=by simp [allD,blsD_map]
@[simp] theorem ixL2 (a b c:D) (l:List D):ixD (.lst (a::b::c::l)) (.int 2)=some c:=by
 rw [yJ _ (by decide) (by rw [List.length_cons,List.length_cons,List.length_cons]; omega)]
 rfl
@[simp] theorem ixL3 (a b c d:D) (l:List D):ixD (.lst (a::b::c::d::l)) (.int 3)=some d:=by
 rw [yJ _ (by decide) (by rw [List.length_cons,List.length_cons,List.length_cons,List.length_cons]; omega)]
 rfl
@[simp] theorem rng3_eq (fa fb fc:FE) (ds:List Sl):rng3 fa fb fc ds=(fa ds).bind fun x=>(fb ds).bind fun y=>(fc ds).bind fun z=>match x,y,z with
 | .int i,.int j,.int c=>if okR3 i j c then some (range3D i c (steps3 i j c)) else none
 | _,_,_=>none:=rfl
@[simp] theorem rng2_eq (fa fb:FE) (ds:List Sl):rng2 fa fb ds=(fa ds).bind fun x=>(fb ds).bind fun y=>match x,y with
 | .int i,.int j=>if okR i/\okR j then some (rangeD i (j - i).toNat) else none
 | _,_=>none:=rfl
@[simp] theorem rng1_eq (f:FE) (ds:List Sl):rng1 f ds=(f ds).bind fun d=>match d with | .int j=>if okR j then some (rangeD 0 j.toNat) else none | _=>none:=rfl
theorem vC {j:Int} (h : -1000000000<=j) (h2:j<=1000000000):okR j:=⟨Int.le_trans (by decide) h,Int.lt_of_le_of_lt h2 (by decide)⟩
@[simp] theorem absD_int (i:Int):absD [.int i]=some (.int (if i < 0 then -i else i)):=rfl
@[simp] theorem int1D_int (i:Int):int1D [.int i]=some (.int i):=rfl
@[simp] theorem int1D_bl (b:Bool):int1D [.bl b]=some (.int (if b then 1 else 0)):=rfl
@[simp] theorem augA_eq (i:Nat) (f:FE) (ds:List Sl):augA i f ds=(qF i ds).bind fun x=>(f ds).bind fun y=>match x,y with
 | .int a,.int b=>some (.nx (ds.set i (.v (.int (a+b)))))
 | _,_=>none:=rfl
@[simp] theorem parG_eq (i j:Nat) (f:FA) (ds:List Sl):parG i j f ds=(f ds).bind fun l=>match l with
 | [a,b]=>some (.nx ((ds.set i (.v a)).set j (.v b)))
 | _=>none:=rfl
@[simp] theorem revA_eq (f:FE) (ds:List Sl):revA f ds=(f ds).bind fun d=>match d with
 | .lst l=>some l.reverse
 | _=>none:=rfl
theorem zQ {f g:FS} {ds ds':List Sl} (h:f ds=some (.nx ds')):qJ f g ds=g ds':=by simp [h]
theorem vH {f g:FS} {ds:List Sl} {r:Ret} (h:f ds=some (.rt r)):qJ f g ds=some (.rt r):=by simp [h]
theorem jL {g:FS} {n:Nat} {ds:List D} {r:Ret} (h:g (args n ds)=some (.rt r)):runG g n ds=some r:=by unfold runG; rw [h]
end FL
section
open PySem PyProof.Rows L2 FL
noncomputable def GP.ends_ahead.g:FS:=(retG (andV (zJ notD (zI 0) (zA .non)) (andV (zJ notD (zI 1) (zA .non)) (zJ leD (zI 0) (zI 1)))))
noncomputable def GP.ends_ahead.f:List D->Option Ret:=runG GP.ends_ahead.g 2
noncomputable def GP.has.g:FS:=(retG (andV (orV (zJ isD (zJ ixD (zI 0) (zA (.int 0))) (zA .non)) (zJ leD (zJ ixD (zI 0) (zA (.int 0))) (zI 1))) (orV (zJ isD (zJ ixD (zI 0) (zA (.int 1))) (zA .non)) (zJ ltD (zI 1) (zJ ixD (zI 0) (zA (.int 1)))))))
noncomputable def GP.has.f:List D->Option Ret:=runG GP.has.g 2
noncomputable def GP.length.g:FS:=(qJ (ifG (orT (zP (zJ isD (zJ ixD (zI 0) (zA (.int 0))) (zA .non))) (zP (zJ isD (zJ ixD (zI 0) (zA (.int 1))) (zA .non)))) (retG (zA .non)) qB)
 (retG (zJ subD (zJ ixD (zI 0) (zA (.int 1))) (zJ ixD (zI 0) (zA (.int 0))))))
noncomputable def GP.length.f:List D->Option Ret:=runG GP.length.g 1
noncomputable def GP.later_low.g:FS:=(qJ (ifG (zP (zJ isD (zI 0) (zA .non))) (retG (zI 1)) qB)
 (qJ (ifG (zP (zJ isD (zI 1) (zA .non))) (retG (zI 0)) qB)
 (retG (callB mxD (zB (zI 0) (zB (zI 1) zR))))))
noncomputable def GP.later_low.f:List D->Option Ret:=runG GP.later_low.g 2
noncomputable def GP.earlier_behind.g:FS:=(qJ (ifG (zP (zJ isD (zI 0) (zA .non))) (retG (zI 1)) qB)
 (qJ (ifG (zP (zJ isD (zI 1) (zA .non))) (retG (zI 0)) qB)
 (retG (callB mnD (zB (zI 0) (zB (zI 1) zR))))))
noncomputable def GP.earlier_behind.f:List D->Option Ret:=runG GP.earlier_behind.g 2
noncomputable def GP.meet.g:FS:=(qJ (xG 2 (qQ 2 GP.later_low.f (zB (zJ ixD (zI 0) (zA (.int 0))) (zB (zJ ixD (zI 1) (zA (.int 0))) zR))))
 (qJ (xG 3 (qQ 2 GP.earlier_behind.f (zB (zJ ixD (zI 0) (zA (.int 1))) (zB (zJ ixD (zI 1) (zA (.int 1))) zR))))
 (qJ (ifG (testT (qQ 2 GP.ends_ahead.f (zB (zI 3) (zB (zI 2) zR)))) (retG (zA .non)) qB)
 (retG (mkT (zZ (zB (qF 2) (zB (qF 3) zR))))))))
noncomputable def GP.meet.f:List D->Option Ret:=runG GP.meet.g 4
noncomputable def GP.is_name.g:FS:=(qJ (ifG (notT (testT (isiG "str" (zI 0)))) (retG (zA (.bl false))) qB)
 (qJ (ifG (orT (zP (zJ ltD (callB lenD (zB (zI 0) zR)) (zA (.int 1)))) (zP (zJ gtD (callB lenD (zB (zI 0) zR)) (zA (.int 8))))) (retG (zA (.bl false))) qB)
 (retG (callB allD (zB (mkL (compG (viaA (qF 0) asS) [none] (qA 0) (fun _=>some true) (zJ inS (zI 0) (zA (.str "abcdefghijklmnopqrstuvwxyz"))))) zR)))))
noncomputable def GP.is_name.f:List D->Option Ret:=runG GP.is_name.g 1
noncomputable def GP.knit.b1:FS:=(qJ (ifG (zP (zJ isD (zI 4) (zA .non))) (fun ds=>some (.ct ds)) qB)
 (ifG (andT (testT (zI 1)) (andT (zP (zJ eqD (zJ ixD (zJ ixD (zI 1) (un1 negD (zA (.int 1)))) (zA (.int 1))) (zI 2))) (zP (zJ eqD (zJ ixD (zJ ixD (zI 1) (un1 negD (zA (.int 1)))) (zA (.int 2))) (zI 4))))) (putG 1 (un1 negD (zA (.int 1))) (mkT (zZ (zB (zJ ixD (zJ ixD (zI 1) (un1 negD (zA (.int 1)))) (zA (.int 0))) (zB (qF 3) (zB (qF 4) zR)))))) (appG 1 (mkT (zZ (zB (qF 2) (zB (qF 3) (zB (qF 4) zR))))))))
noncomputable def GP.knit.g:FS:=(qJ (setOG 1 (zZ zR))
 (qJ (forG (viaA (qF 0) asLT) (tupG 3 (jC (qA 2) (jC (qA 3) (jC (qA 4) tgNil)))) GP.knit.b1)
 (retXG 1)))
noncomputable def GP.knit.f:List D->Option Ret:=runG GP.knit.g 5
noncomputable def GP.value_at.b1:FS:=(ifG (testT (qQ 2 GP.has.f (zB (mkT (zZ (zB (qF 2) (zB (qF 3) zR)))) (zB (zI 1) zR)))) (retG (zI 4)) qB)
noncomputable def GP.value_at.g:FS:=(qJ (forG (viaA (qF 0) asLT) (tupG 3 (jC (qA 2) (jC (qA 3) (jC (qA 4) tgNil)))) GP.value_at.b1)
 (retG (zA .non)))
noncomputable def GP.value_at.f:List D->Option Ret:=runG GP.value_at.g 5
noncomputable def GP.parts_in.b1:FS:=(qJ (xG 6 (qQ 2 GP.meet.f (zB (mkT (zZ (zB (qF 3) (zB (qF 4) zR)))) (zB (zI 1) zR))))
 (ifG (zP (zJ notD (zI 6) (zA .non))) (appG 2 (mkT (zZ (zB (zJ ixD (zI 6) (zA (.int 0))) (zB (zJ ixD (zI 6) (zA (.int 1))) (zB (qF 5) zR)))))) qB))
noncomputable def GP.parts_in.g:FS:=(qJ (setOG 2 (zZ zR))
 (qJ (forG (viaA (qF 0) asLT) (tupG 3 (jC (qA 3) (jC (qA 4) (jC (qA 5) tgNil)))) GP.parts_in.b1)
 (retXG 2)))
noncomputable def GP.parts_in.f:List D->Option Ret:=runG GP.parts_in.g 7
noncomputable def GP.rows_over.g:FS:=(qJ (setOG 3 (zZ zR))
 (qJ (ifG (zP (zJ notD (zJ ixD (zI 1) (zA (.int 0))) (zA .non))) (extG 3 (vI 2 GP.parts_in.f (zB (zI 0) (zB (mkT (zZ (zB (zA .non) (zB (zJ ixD (zI 1) (zA (.int 0))) zR)))) zR)))) qB)
 (qJ (appG 3 (mkT (zZ (zB (zJ ixD (zI 1) (zA (.int 0))) (zB (zJ ixD (zI 1) (zA (.int 1))) (zB (qF 2) zR))))))
 (qJ (ifG (zP (zJ notD (zJ ixD (zI 1) (zA (.int 1))) (zA .non))) (extG 3 (vI 2 GP.parts_in.f (zB (zI 0) (zB (mkT (zZ (zB (zJ ixD (zI 1) (zA (.int 1))) (zB (zA .non) zR)))) zR)))) qB)
 (retXG 3)))))
noncomputable def GP.rows_over.f:List D->Option Ret:=runG GP.rows_over.g 4
noncomputable def GP.some_place.g:FS:=(qJ (ifG (zP (zJ notD (zJ ixD (zI 0) (zA (.int 0))) (zA .non))) (retG (zJ ixD (zI 0) (zA (.int 0)))) qB)
 (qJ (ifG (zP (zJ notD (zJ ixD (zI 0) (zA (.int 1))) (zA .non))) (retG (zJ subD (zJ ixD (zI 0) (zA (.int 1))) (zA (.int 1)))) qB)
 (retG (zA (.int 0)))))
noncomputable def GP.some_place.f:List D->Option Ret:=runG GP.some_place.g 1
noncomputable def GP.put.g:FS:=(retOG (vI 1 GP.knit.f (zB (qQ 3 GP.rows_over.f (zB (zI 0) (zB (zI 1) (zB (zI 2) zR)))) zR)))
noncomputable def GP.put.f:List D->Option Ret:=runG GP.put.g 3
noncomputable def GP.check_names.g:FS:=(qJ (ifG (orT (zP (zJ ltD (callB lenD (zB (zI 0) zR)) (zA (.int 1)))) (zP (zJ gtD (callB lenD (zB (zI 0) zR)) (zA (.int 60))))) (fun _=>none) qB)
 (qJ (ifG (notT (testT (callB allD (zB (mkL (compG (viaA (qF 0) asLT) [none] (qA 0) (fun _=>some true) (qQ 1 GP.is_name.f (zB (zI 0) zR)))) zR)))) (fun _=>none) qB)
 (ifG (zP (zJ ltD (lsetE (zI 0)) (callB lenD (zB (zI 0) zR)))) (fun _=>none) qB)))
noncomputable def GP.check_names.f:List D->Option Ret:=runG GP.check_names.g 1
noncomputable def GP.Bundle___init__.b1:FS:=(dputN (atP [(12,0)] (varP 0)) (qF 2) (sO nilO))
noncomputable def GP.Bundle___init__.g:FS:=(qJ (dropG (qQ 1 GP.check_names.f (zB (zI 1) zR)))
 (qJ (setNw 24 12 (varP 0) dO0)
 (forG (viaA (mkL (srtTA (zI 1))) asLT) (qA 2) GP.Bundle___init__.b1)))
noncomputable def GP.Bundle___init__.f:OT->List D->Option OT:=lentF GP.Bundle___init__.g 3
noncomputable def GP.Bundle_only.g:FS:=(qJ (ifG (orT (notT (testT (qQ 1 GP.is_name.f (zB (zI 1) zR)))) (dnotG (zI 1) (fldG [(12,0)] (qF 0)))) (fun _=>none) qB)
 (retOG (lisA (dgetG (fldG [(12,0)] (qF 0)) (qF 1)))))
noncomputable def GP.Bundle_only.f:List D->Option Ret:=runG GP.Bundle_only.g 2
noncomputable def GP.M_only_cc8d83:Nat->List D->Option Ret
 | 12=>GP.Bundle_only.f
 | _=>fun _=>none
noncomputable def GP.Bundle_lay.g:FS:=(dputG (atP [(12,0)] (varP 0)) (qF 1) (ofO (relGO 0 (lO (vI 3 GP.put.f (zB (methV 1 [12] GP.M_only_cc8d83 (qF 0) (zB (zI 1) zR)) (zB (zI 2) (zB (zA (.int 1)) zR))))))))
noncomputable def GP.Bundle_lay.f:OT->List D->Option OT:=lentF GP.Bundle_lay.g 3
noncomputable def GP.Bundle_lift.g:FS:=(dputG (atP [(12,0)] (varP 0)) (qF 1) (ofO (relGO 0 (lO (vI 3 GP.put.f (zB (methV 1 [12] GP.M_only_cc8d83 (qF 0) (zB (zI 1) zR)) (zB (zI 2) (zB (zA .non) zR))))))))
noncomputable def GP.Bundle_lift.f:OT->List D->Option OT:=lentF GP.Bundle_lift.g 3
noncomputable def GP.Bundle_names_at.g:FS:=(retOG (compG (keysA (fldG [(12,0)] (qF 0)))  [none,some 1,some 0] (qA 0) (zP (zJ notD (qQ 2 GP.value_at.f (zB (dgetG (fldG [(12,0)] (qF 2)) (qF 0)) (zB (zI 1) zR))) (zA .non))) (qF 0)))
noncomputable def GP.Bundle_names_at.f:List D->Option Ret:=runG GP.Bundle_names_at.g 2
noncomputable def GP.M_names_at_db16e3:Nat->List D->Option Ret
 | 12=>GP.Bundle_names_at.f
 | _=>fun _=>none
noncomputable def GL.cell_at.g:FS:=(qJ (ifG (zP (zJ ltD (zI 1) (callB lenD (zB (zI 0) zR)))) (retG (zJ ixD (zI 0) (zI 1))) qB)
 (retG (zA (.int 0))))
noncomputable def GL.cell_at.f:List D->Option Ret:=runG GL.cell_at.g 2
end
namespace FL
open PySem PySem.Spec PyProof.Rows L2
abbrev Spn:=Option Int×Option Int
noncomputable def spD (s:Spn):D:=.tup [oi s.1,oi s.2]
noncomputable def oS:Option Spn->D
 | none=>.non
 | some s=>spD s
noncomputable def hasS (s:Spn) (p:Int):Bool:=(match s.1 with | none=>true | some a=>decide (a<=p)) && (match s.2 with | none=>true | some b=>decide (p < b))
def okS (s:Spn):Prop:=∀ a b,s.1=some a->s.2=some b->a < b
@[simp] theorem spD_0 (s:Spn):ixD (spD s) (.int 0)=some (oi s.1):=ixT0 _ _
@[simp] theorem spD_1 (s:Spn):ixD (spD s) (.int 1)=some (oi s.2):=ixT1 _ _ _
@[simp] theorem spD_isD (s:Spn):isD (spD s) .non=some (.bl false):=rfl
@[simp] theorem spD_notD (s:Spn):notD (spD s) .non=some (.bl true):=rfl
@[simp] theorem spD_asLT (s:Spn):asLT (spD s)=some [oi s.1,oi s.2]:=rfl
@[simp] theorem oS_isD (o:Option Spn):isD (oS o) .non=some (.bl o.isNone):=by cases o <;> rfl
@[simp] theorem oS_notD (o:Option Spn):notD (oS o) .non=some (.bl o.isSome):=by cases o <;> rfl
theorem has_eq (s:Spn) (p:Int):GP.has.f [spD s,.int p]=some (.val (.bl (hasS s p))):=by
 obtain ⟨a,b⟩:=s
 unfold GP.has.f runG GP.has.g
 cases a <;> cases b <;> simp [args,hasS]
theorem length_eq (s:Spn):GP.length.f [spD s]=some (.val (oi (match s.1,s.2 with | some a,some b=>some (b - a) | _,_=>none))):=by
 obtain ⟨a,b⟩:=s
 unfold GP.length.f runG GP.length.g
 cases a <;> cases b <;> simp [args]
noncomputable def lateL:Option Int->Option Int->Option Int
 | none,b=>b
 | a,none=>a
 | some a,some b=>some (max a b)
noncomputable def xV:Option Int->Option Int->Option Int
 | none,b=>b
 | a,none=>a
 | some a,some b=>some (min a b)
noncomputable def aheadE:Option Int->Option Int->Bool
 | some b,some l=>decide (b<=l)
 | _,_=>false
theorem lateL_eq (a b:Option Int):GP.later_low.f [oi a,oi b]=some (.val (oi (lateL a b))):=by
 unfold GP.later_low.f runG GP.later_low.g
 cases a <;> cases b <;> simp [args,lateL]
theorem earlB_eq (a b:Option Int):GP.earlier_behind.f [oi a,oi b]=some (.val (oi (xV a b))):=by
 unfold GP.earlier_behind.f runG GP.earlier_behind.g
 cases a <;> cases b <;> simp [args,xV]
theorem aheadE_eq (a b:Option Int):GP.ends_ahead.f [oi a,oi b]=some (.val (.bl (aheadE a b))):=by
 unfold GP.ends_ahead.f runG GP.ends_ahead.g
 cases a <;> cases b <;> simp [args,aheadE]
noncomputable def meetS (s t:Spn):Option Spn:=if aheadE (xV s.2 t.2) (lateL s.1 t.1)=true then none else some (lateL s.1 t.1,xV s.2 t.2)
theorem meet_eq (s t:Spn):GP.meet.f [spD s,spD t]=some (.val (oS (meetS s t))):=by
 unfold GP.meet.f runG GP.meet.g
 cases h:aheadE (xV s.2 t.2) (lateL s.1 t.1) <;> simp [args,lateL_eq,earlB_eq,aheadE_eq,h,meetS,oS,spD]
def HasS (s:Spn) (p:Int):Prop:=(∀ a,s.1=some a->a<=p)/\(∀ b,s.2=some b->p < b)
theorem yO (s:Spn) (p:Int):hasS s p=true↔HasS s p:=by
 obtain ⟨a,b⟩:=s
 cases a <;> cases b <;> simp [hasS,HasS]
theorem lateL_le {a c:Option Int} {p:Int} : (∀ x,lateL a c=some x->x<=p)↔(∀ x,a=some x->x<=p)/\(∀ x,c=some x->x<=p):=by
 cases a <;> cases c <;> simp [lateL]
 omega
theorem earlB_lt {a c:Option Int} {p:Int} : (∀ x,xV a c=some x->p < x)↔(∀ x,a=some x->p < x)/\(∀ x,c=some x->p < x):=by
 cases a <;> cases c <;> simp [xV]
 omega
theorem aheadE_no {b l:Option Int} {p:Int} (h:aheadE b l=true) (h1:∀ x,l=some x->x<=p) (h2:∀ x,b=some x->p < x):False:=by
 cases b <;> cases l <;> simp [aheadE] at h
 have:=h1 _ rfl
 have:=h2 _ rfl
 omega
noncomputable def hasO (o:Option Spn) (p:Int):Bool:=match o with
 | none=>false
 | some u=>hasS u p
theorem hasO_meet (s t:Spn) (p:Int):hasO (meetS s t) p=(hasS s p && hasS t p):=by
 rw [Bool.eq_iff_iff,Bool.and_eq_true,yO,yO]
 unfold meetS
 by_cases h:aheadE (xV s.2 t.2) (lateL s.1 t.1)=true
 · rw [if_pos h]
   refine ⟨fun z=>by simp [hasO] at z,fun z=>(aheadE_no h (lateL_le.mpr ⟨z.1.1,z.2.1⟩) (earlB_lt.mpr ⟨z.1.2,z.2.2⟩)).elim⟩
 · rw [if_neg h]
   show hasS _ p=true↔_
   rw [yO]
   show (∀ x,lateL s.1 t.1=some x->x<=p)/\(∀ x,xV s.2 t.2=some x->p < x)↔_
   rw [lateL_le,earlB_lt]
   exact ⟨fun ⟨⟨a,b⟩,c,d⟩=>⟨⟨a,c⟩,b,d⟩,fun ⟨⟨a,c⟩,b,d⟩=>⟨⟨a,b⟩,c,d⟩⟩
theorem meetS_ok {s t u:Spn} (h:meetS s t=some u):okS u:=by
 unfold meetS at h
 split at h
 · cases h
 · rename_i hn
   cases h
   intro a b h1 h2
   simp only at h1 h2
   rw [h1,h2] at hn
   simp [aheadE] at hn
   omega
open Builtin.Int (intBits)
noncomputable def cel (ns:List Int) (k:Nat):Int:=ns.getD k 0
theorem cell_eq0 (ns:List Int) {k:Int} (h:0<=k):GL.cell_at.f [.lst (ns.map D.int),.int k]=some (.val (.int (ns.getD k.toNat 0))):=by
 unfold GL.cell_at.f runG GL.cell_at.g
 by_cases hk:k < (ns.length:Int)
 · have hl : k < ((ns.map D.int).length : Int) := by simpa using hk
   have e:(ns.map D.int)[k.toNat]? = some (.int (ns.getD k.toNat 0)):=by
    have:k.toNat < ns.length:=by omega
    simp [this,List.getD]
   simp [args,hk,yJ _ h hl,e]
 · have:ns.getD k.toNat 0=0:=by
    have:ns.length<=k.toNat:=by omega
    simp [List.getD,List.getElem?_eq_none this]
   rw [this]
   simp [args,hk]
theorem vM (ns:List Int) (k:Nat):GL.cell_at.f [.lst (ns.map D.int),.int (k:Int)]=some (.val (.int (cel ns k))):=cell_eq0 ns (k:=(k:Int)) (by omega)
theorem wS {a:Int} {m:Nat} (h:a.natAbs < 2 ^ m):intBits a<=m:=intBits_le_iff.mpr h
@[simp] theorem eqS_put_put:eqD (.str "put") (.str "put")=some (.bl true):=by kernel_rfl
@[simp] theorem neS_put_put:neD (.str "put") (.str "put")=some (.bl false):=by kernel_rfl
@[simp] theorem eqS_put_widen:eqD (.str "put") (.str "widen")=some (.bl false):=by kernel_rfl
@[simp] theorem neS_put_widen:neD (.str "put") (.str "widen")=some (.bl true):=by kernel_rfl
@[simp] theorem eqS_put_narrow:eqD (.str "put") (.str "narrow")=some (.bl false):=by kernel_rfl
@[simp] theorem neS_put_narrow:neD (.str "put") (.str "narrow")=some (.bl true):=by kernel_rfl
@[simp] theorem eqS_put_move:eqD (.str "put") (.str "move")=some (.bl false):=by kernel_rfl
@[simp] theorem neS_put_move:neD (.str "put") (.str "move")=some (.bl true):=by kernel_rfl
@[simp] theorem eqS_put_stretch:eqD (.str "put") (.str "stretch")=some (.bl false):=by kernel_rfl
@[simp] theorem neS_put_stretch:neD (.str "put") (.str "stretch")=some (.bl true):=by kernel_rfl
@[simp] theorem eqS_put_mirror:eqD (.str "put") (.str "mirror")=some (.bl false):=by kernel_rfl
@[simp] theorem neS_put_mirror:neD (.str "put") (.str "mirror")=some (.bl true):=by kernel_rfl
@[simp] theorem eqS_widen_put:eqD (.str "widen") (.str "put")=some (.bl false):=by kernel_rfl
@[simp] theorem neS_widen_put:neD (.str "widen") (.str "put")=some (.bl true):=by kernel_rfl
@[simp] theorem eqS_widen_widen:eqD (.str "widen") (.str "widen")=some (.bl true):=by kernel_rfl
@[simp] theorem neS_widen_widen:neD (.str "widen") (.str "widen")=some (.bl false):=by kernel_rfl
@[simp] theorem eqS_widen_narrow:eqD (.str "widen") (.str "narrow")=some (.bl false):=by kernel_rfl
@[simp] theorem neS_widen_narrow:neD (.str "widen") (.str "narrow")=some (.bl true):=by kernel_rfl
@[simp] theorem eqS_widen_move:eqD (.str "widen") (.str "move")=some (.bl false):=by kernel_rfl
@[simp] theorem neS_widen_move:neD (.str "widen") (.str "move")=some (.bl true):=by kernel_rfl
@[simp] theorem eqS_widen_stretch:eqD (.str "widen") (.str "stretch")=some (.bl false):=by kernel_rfl
@[simp] theorem neS_widen_stretch:neD (.str "widen") (.str "stretch")=some (.bl true):=by kernel_rfl
@[simp] theorem eqS_widen_mirror:eqD (.str "widen") (.str "mirror")=some (.bl false):=by kernel_rfl
@[simp] theorem neS_widen_mirror:neD (.str "widen") (.str "mirror")=some (.bl true):=by kernel_rfl
@[simp] theorem eqS_narrow_put:eqD (.str "narrow") (.str "put")=some (.bl false):=by kernel_rfl
@[simp] theorem neS_narrow_put:neD (.str "narrow") (.str "put")=some (.bl true):=by kernel_rfl
@[simp] theorem eqS_narrow_widen:eqD (.str "narrow") (.str "widen")=some (.bl false):=by kernel_rfl
@[simp] theorem neS_narrow_widen:neD (.str "narrow") (.str "widen")=some (.bl true):=by kernel_rfl
@[simp] theorem eqS_narrow_narrow:eqD (.str "narrow") (.str "narrow")=some (.bl true):=by kernel_rfl
@[simp] theorem neS_narrow_narrow:neD (.str "narrow") (.str "narrow")=some (.bl false):=by kernel_rfl
@[simp] theorem eqS_narrow_move:eqD (.str "narrow") (.str "move")=some (.bl false):=by kernel_rfl
@[simp] theorem neS_narrow_move:neD (.str "narrow") (.str "move")=some (.bl true):=by kernel_rfl
@[simp] theorem eqS_narrow_stretch:eqD (.str "narrow") (.str "stretch")=some (.bl false):=by kernel_rfl
@[simp] theorem neS_narrow_stretch:neD (.str "narrow") (.str "stretch")=some (.bl true):=by kernel_rfl
@[simp] theorem eqS_narrow_mirror:eqD (.str "narrow") (.str "mirror")=some (.bl false):=by kernel_rfl
@[simp] theorem neS_narrow_mirror:neD (.str "narrow") (.str "mirror")=some (.bl true):=by kernel_rfl
@[simp] theorem eqS_move_put:eqD (.str "move") (.str "put")=some (.bl false):=by kernel_rfl
@[simp] theorem neS_move_put:neD (.str "move") (.str "put")=some (.bl true):=by kernel_rfl
@[simp] theorem eqS_move_widen:eqD (.str "move") (.str "widen")=some (.bl false):=by kernel_rfl
@[simp] theorem neS_move_widen:neD (.str "move") (.str "widen")=some (.bl true):=by kernel_rfl
@[simp] theorem eqS_move_narrow:eqD (.str "move") (.str "narrow")=some (.bl false):=by kernel_rfl
@[simp] theorem neS_move_narrow:neD (.str "move") (.str "narrow")=some (.bl true):=by kernel_rfl
@[simp] theorem eqS_move_move:eqD (.str "move") (.str "move")=some (.bl true):=by kernel_rfl
@[simp] theorem neS_move_move:neD (.str "move") (.str "move")=some (.bl false):=by kernel_rfl
@[simp] theorem eqS_move_stretch:eqD (.str "move") (.str "stretch")=some (.bl false):=by kernel_rfl
@[simp] theorem neS_move_stretch:neD (.str "move") (.str "stretch")=some (.bl true):=by kernel_rfl
@[simp] theorem eqS_move_mirror:eqD (.str "move") (.str "mirror")=some (.bl false):=by kernel_rfl
@[simp] theorem neS_move_mirror:neD (.str "move") (.str "mirror")=some (.bl true):=by kernel_rfl
@[simp] theorem eqS_stretch_put:eqD (.str "stretch") (.str "put")=some (.bl false):=by kernel_rfl
@[simp] theorem neS_stretch_put:neD (.str "stretch") (.str "put")=some (.bl true):=by kernel_rfl
@[simp] theorem eqS_stretch_widen:eqD (.str "stretch") (.str "widen")=some (.bl false):=by kernel_rfl
@[simp] theorem neS_stretch_widen:neD (.str "stretch") (.str "widen")=some (.bl true):=by kernel_rfl
@[simp] theorem eqS_stretch_narrow:eqD (.str "stretch") (.str "narrow")=some (.bl false):=by kernel_rfl
@[simp] theorem neS_stretch_narrow:neD (.str "stretch") (.str "narrow")=some (.bl true):=by kernel_rfl
@[simp] theorem eqS_stretch_move:eqD (.str "stretch") (.str "move")=some (.bl false):=by kernel_rfl
@[simp] theorem neS_stretch_move:neD (.str "stretch") (.str "move")=some (.bl true):=by kernel_rfl
@[simp] theorem eqS_stretch_stretch:eqD (.str "stretch") (.str "stretch")=some (.bl true):=by kernel_rfl
@[simp] theorem neS_stretch_stretch:neD (.str "stretch") (.str "stretch")=some (.bl false):=by kernel_rfl
@[simp] theorem eqS_stretch_mirror:eqD (.str "stretch") (.str "mirror")=some (.bl false):=by kernel_rfl
@[simp] theorem neS_stretch_mirror:neD (.str "stretch") (.str "mirror")=some (.bl true):=by kernel_rfl
@[simp] theorem eqS_mirror_put:eqD (.str "mirror") (.str "put")=some (.bl false):=by kernel_rfl
@[simp] theorem neS_mirror_put:neD (.str "mirror") (.str "put")=some (.bl true):=by kernel_rfl
@[simp] theorem eqS_mirror_widen:eqD (.str "mirror") (.str "widen")=some (.bl false):=by kernel_rfl
@[simp] theorem neS_mirror_widen:neD (.str "mirror") (.str "widen")=some (.bl true):=by kernel_rfl
@[simp] theorem eqS_mirror_narrow:eqD (.str "mirror") (.str "narrow")=some (.bl false):=by kernel_rfl
@[simp] theorem neS_mirror_narrow:neD (.str "mirror") (.str "narrow")=some (.bl true):=by kernel_rfl
@[simp] theorem eqS_mirror_move:eqD (.str "mirror") (.str "move")=some (.bl false):=by kernel_rfl
@[simp] theorem neS_mirror_move:neD (.str "mirror") (.str "move")=some (.bl true):=by kernel_rfl
@[simp] theorem eqS_mirror_stretch:eqD (.str "mirror") (.str "stretch")=some (.bl false):=by kernel_rfl
@[simp] theorem neS_mirror_stretch:neD (.str "mirror") (.str "stretch")=some (.bl true):=by kernel_rfl
@[simp] theorem eqS_mirror_mirror:eqD (.str "mirror") (.str "mirror")=some (.bl true):=by kernel_rfl
@[simp] theorem neS_mirror_mirror:neD (.str "mirror") (.str "mirror")=some (.bl false):=by kernel_rfl
@[simp] theorem fldG_eq (ix:List (Nat×Nat)) (f:FE) (ds:List Sl):fldG ix f ds=(f ds).bind (fldD ix):=rfl
@[simp] theorem fldD_ins (ix:List (Nat×Nat)) (t:Nat) (es:List D):fldD ix (.ins t es)=(ix.lookup t).bind fun i=>es[i]?:=rfl
@[simp] theorem methV_eq (n:Nat) (cs:List Nat) (F:Nat->List D->Option Ret) (fo:FE) (g:FA) (ds:List Sl):methV n cs F fo g ds=(fo ds).bind fun o=>(g ds).bind fun l=>(methR n cs F o l).bind retV:=rfl
@[simp] theorem methF_eq (n:Nat) (cs:List Nat) (F:Nat->List D->Option Ret) (fo:FE) (g:FA) (ds:List Sl):methF n cs F fo g ds=(fo ds).bind fun o=>(g ds).bind fun l=>(methR n cs F o l).bind retF:=rfl
@[simp] theorem makeG_eq (t n:Nat) (G:List D->Option (List D)) (g:FA) (ds:List Sl):makeG t n G g ds=(g ds).bind fun l=>if l.length=n/\flats l=true then (G l).map (D.ins t) else none:=rfl
@[simp] theorem retDG_eq (f:FE) (ds:List Sl):retDG f ds=(f ds).map fun d=>.rt (.val d):=rfl
end FL
namespace FL
open PySem PySem.Spec PyProof.Rows L2
abbrev Rw:=Option Int×Option Int×Option Int
noncomputable def rwD (r:Rw):D:=.tup [oi r.1,oi r.2.1,oi r.2.2]
noncomputable def has3 (r:Rw) (p:Int):Bool:=hasS (r.1,r.2.1) p
def ok3 (r:Rw):Prop:=okS (r.1,r.2.1)
@[simp] theorem rwD_0 (r:Rw):ixD (rwD r) (.int 0)=some (oi r.1):=ixT0 _ _
@[simp] theorem rwD_1 (r:Rw):ixD (rwD r) (.int 1)=some (oi r.2.1):=ixT1 _ _ _
@[simp] theorem rwD_2 (r:Rw):ixD (rwD r) (.int 2)=some (oi r.2.2):=ixT2 _ _ _ _
@[simp] theorem rwD_flat (r:Rw):flat (rwD r)=true:=by simp [rwD]
@[simp] theorem rwD_shal (r:Rw) (n:Nat):shal (n+1) (rwD r)=true:=by simp [rwD]
@[simp] theorem rwD_tupG (h:List D->List Sl->Option (List Sl)) (r:Rw) (ds:List Sl):tupG 3 h (rwD r) ds=h [oi r.1,oi r.2.1,oi r.2.2] ds:=by simp [rwD]
@[simp] theorem rwD_eqv (r t:Rw):eqvD (rwD r) (rwD t)=decide (r=t):=by
 obtain ⟨a,b,c⟩:=r
 obtain ⟨x,y,z⟩:=t
 rw [Bool.eq_iff_iff]
 simp [rwD]
theorem yQ (l:List Rw):flats (l.map rwD)=true:=by
 induction l with
 | nil=>simp
 | cons a r ih=>simp [ih]
theorem shals_rw (n:Nat) (l:List Rw):shals (n+2) (l.map rwD)=true:=wZ fun d hd=>by obtain ⟨r,_,rfl⟩:=List.mem_map.mp hd; simp
theorem eqvs_rw:∀ a b:List Rw,eqvs (a.map rwD) (b.map rwD)=decide (a=b)
 | [],[]=>by simp
 | [],y::b=>by simp
 | x::a,[]=>by simp
 | x :: a, y :: b => by
   simp only [List.map_cons,wT,rwD_eqv,eqvs_rw a b]
   rw [Bool.eq_iff_iff]
   simp
theorem neD_rw (a b:List Rw):neD (.lst (a.map rwD)) (.lst (b.map rwD))=some (.bl (!decide (a=b))):=by rw [neD_ok (by simpa using shals_rw 38 a) (by simpa using shals_rw 38 b),eqvD_lst,eqvs_rw]
theorem ixN_last {n:Nat} (h:0 < n):ixN n (-1)=some (n - 1):=by
 unfold ixN
 rw [if_neg (by decide),if_pos (by omega)]
 congr 1
 omega
def ahead (a b:Rw):Prop:=∃ x y,a.2.1=some x/\b.1=some y/\x<=y
structure Ord (rows:List Rw):Prop where
 ok:∀ r∈rows,ok3 r
 pw:rows.Pairwise ahead
def Tel (rows:List Rw) (p v:Int):Prop:=∃ r∈rows,has3 r p=true/\r.2.2=some v
noncomputable def knit1 (acc:List Rw) (r:Rw):List Rw:=match r.2.2 with
 | none=>acc
 | some v => match acc with
   | []=>[r]
   | q::t=>if q.2.1=r.1/\q.2.2=some v then (q.1,r.2.1,some v)::t else r::q::t
noncomputable def knitF (rows:List Rw):List Rw:=(rows.foldl knit1 []).reverse
theorem knit_turn (acc:List Rw) (r:Rw) (R a b c:Sl) (hl:acc.length < 16777216) :
  GP.knit.b1 [R,.own (acc.map rwD).reverse,.v (oi r.1),.v (oi r.2.1),.v (oi r.2.2)]=some (.nx [R,.own ((knit1 acc r).map rwD).reverse,.v (oi r.1),.v (oi r.2.1),.v (oi r.2.2)]) ∨
  GP.knit.b1 [R,.own (acc.map rwD).reverse,.v (oi r.1),.v (oi r.2.1),.v (oi r.2.2)]=some (.ct [R,.own ((knit1 acc r).map rwD).reverse,.v (oi r.1),.v (oi r.2.1),.v (oi r.2.2)]):=by
 obtain ⟨lo,bh,v⟩:=r
 unfold GP.knit.b1
 cases v with
 | none=>right; simp [knit1]
 | some v =>
   left
   cases acc with
   | nil =>
     have e:D.tup [oi lo,oi bh,.int v]=rwD (lo,bh,some v):=rfl
     simp [knit1,e]
   | cons q t =>
     have last:ixD (.lst ((t.map rwD).reverse++[rwD q])) (.int (-1))=some (rwD q):=ixL_last _ _
     have le:ixN (t.length+1) (-1)=some t.length:=by rw [ixN_last (by omega)]; rfl
     have hl':t.length+1 < 16777216:=by simpa using hl
     have e2:∀ x:Option Int,eqD (oi x) (D.int v)=some (.bl (decide (x=some v))):=fun x=>eqD_oi x (some v)
     by_cases h1:q.2.1=lo
     · by_cases h2 : q.2.2 = some v
       · have e : D.tup [oi q.1, oi bh, .int v] = rwD (q.1, bh, some v) := rfl
         simp [knit1,h1,h2,last,le,e2,e]
       · have e : D.tup [oi lo, oi bh, .int v] = rwD (lo, bh, some v) := rfl
         simp [knit1,h1,h2,last,le,e2,hl',e]
     · have e : D.tup [oi lo, oi bh, .int v] = rwD (lo, bh, some v) := rfl
       simp [knit1,h1,last,le,hl',e]
theorem knit1_len (acc:List Rw) (r:Rw):(knit1 acc r).length<=acc.length+1:=by
 unfold knit1
 split
 · omega
 · split
   · simp
   · split <;> simp
theorem knit_loop (R:Sl):∀ (rows acc:List Rw) (a b c:Sl),acc.length+rows.length < 16777216 →
  ∃ a' b' c',jM (tupG 3 (jC (qA 2) (jC (qA 3) (jC (qA 4) tgNil)))) GP.knit.b1 (rows.map rwD) [R,.own (acc.map rwD).reverse,a,b,c]=some (.nx [R,.own ((rows.foldl knit1 acc).map rwD).reverse,a',b',c'])
 | [],acc,a,b,c,_=>⟨a,b,c,rfl⟩
 | r :: rows, acc, a, b, c, h => by
   simp only [List.length_cons] at h
   have hl:=knit1_len acc r
   obtain ⟨a',b',c',ih⟩:=knit_loop R rows (knit1 acc r) (.v (oi r.1)) (.v (oi r.2.1)) (.v (oi r.2.2)) (by omega)
   refine ⟨a',b',c',?_⟩
   rcases knit_turn acc r R a b c (by omega) with e | e <;> simp [jM,e,ih]
theorem knit_eq (rows:List Rw) (h:rows.length < 16777216):GP.knit.f [.lst (rows.map rwD)]=some (.fresh ((knitF rows).map rwD)):=by
 obtain ⟨a,b,c,e⟩:=knit_loop (.v (.lst (rows.map rwD))) rows [] .no .no .no (by simpa using h)
 simp only [List.reverse_nil,List.map_nil] at e
 unfold GP.knit.f runG GP.knit.g
 have fl:=yQ (knitF rows)
 unfold knitF at fl ⊢
 rw [List.map_reverse] at fl ⊢
 simp [args,e,fl]
theorem knitF_len (rows:List Rw):(knitF rows).length<=rows.length:=by
 unfold knitF
 rw [List.length_reverse]
 have:∀ (rows acc:List Rw),(rows.foldl knit1 acc).length<=acc.length+rows.length:=by
  intro rows
  induction rows with
  | nil=>intro acc; simp
  | cons r t ih =>
    intro acc
    have:=ih (knit1 acc r)
    have:=knit1_len acc r
    simp only [List.foldl_cons,List.length_cons]
    omega
 have:=this rows []
 simpa using this
noncomputable def adjOk:List Rw->Prop
 | b::a::t=>¬ (a.2.1=b.1/\a.2.2=b.2.2)/\adjOk (a::t)
 | _=>True
structure KI (acc:List Rw):Prop where
 ok:∀ r∈acc,ok3 r
 pw:acc.Pairwise fun b a=>ahead a b
 val:∀ r∈acc,r.2.2≠none
 adj:adjOk acc
theorem KI.nil:KI []:=⟨(fun _ h=>nomatch h),List.Pairwise.nil,(fun _ h=>nomatch h),trivial⟩
theorem wH (r:Rw) (p:Int):has3 r p=true↔(∀ a,r.1=some a->a<=p)/\(∀ b,r.2.1=some b->p < b):=yO _ _
theorem knit1_step {acc:List Rw} {r:Rw} (k:KI acc) (ho:ok3 r) (ha:∀ a∈acc,ahead a r) :
  KI (knit1 acc r)/\(∀ r',ahead r r'->(∀ a∈acc,ahead a r')->∀ a∈knit1 acc r,ahead a r')/\∀ p v,Tel (knit1 acc r) p v↔Tel acc p v \/ (has3 r p=true/\r.2.2=some v):=by
 obtain ⟨lo,bh,w⟩:=r
 cases w with
 | none =>
   refine ⟨k,fun r' _ h=>h,fun p v=>⟨.inl,fun h=>h.elim id fun z=>by simp at z⟩⟩
 | some w =>
   cases acc with
   | nil =>
     refine ⟨⟨?_,?_,?_,trivial⟩,?_,?_⟩
     · intro x hx; simp [knit1] at hx; subst hx; exact ho
     · simp [knit1]
     · intro x hx; simp [knit1] at hx; subst hx; simp
     · intro r' h1 _ a h; simp [knit1] at h; subst h; exact h1
     · intro p v; simp [knit1,Tel]
   | cons q t =>
     obtain ⟨x,y,hx,hy,hxy⟩:=ha q List.mem_cons_self
     simp only at hy
     have pw:=List.pairwise_cons.mp k.pw
     by_cases hm:q.2.1=lo/\q.2.2=some w
     · have e : knit1 (q :: t) (lo, bh, some w) = (q.1, bh, some w) :: t := by simp [knit1, hm.1, hm.2]
       rw [e]
       have exy:x=y:=by
        have:=hm.1
        rw [hx,hy] at this
        exact Option.some.inj this
       have hn:∀ p,has3 (q.1,bh,some w) p=true↔has3 q p=true \/ has3 (lo,bh,some w) p=true:=by
        intro p
        rw [wH,wH,wH]
        simp only
        constructor
        · rintro ⟨h1, h2⟩
          by_cases hp:p < x
          · exact .inl ⟨h1,fun b hb=>by rw [hx] at hb; cases hb; exact hp⟩
          · exact .inr ⟨fun a h=>by rw [hy] at h; cases h; omega,h2⟩
        · rintro (⟨h1, h2⟩ | ⟨h1, h2⟩)
          · refine ⟨h1, fun b hb => ?_⟩
            have:=h2 x hx
            have:=ho y b hy hb
            omega
          · refine ⟨fun a h => ?_, h2⟩
            have:=k.ok q List.mem_cons_self a x h hx
            have:=h1 y hy
            omega
       refine ⟨⟨?_,?_,?_,?_⟩,?_,?_⟩
       · intro z hz
         rcases List.mem_cons.mp hz with rfl | hz
         · intro a b h1 h2
           have:=k.ok q List.mem_cons_self a x h1 hx
           have:=ho y b hy h2
           omega
         · exact k.ok z (List.mem_cons_of_mem _ hz)
       · refine List.pairwise_cons.mpr ⟨fun a h => ?_, pw.2⟩
         exact pw.1 a h
       · intro z hz
         rcases List.mem_cons.mp hz with rfl | hz
         · simp
         · exact k.val z (List.mem_cons_of_mem _ hz)
       · have ka := k.adj
         cases t with
         | nil=>trivial
         | cons a t =>
           refine ⟨fun h=>ka.1 ⟨h.1,?_⟩,ka.2⟩
           rw [hm.2]
           exact h.2
       · intro r' h1 h2 a h
         rcases List.mem_cons.mp h with rfl | h
         · exact h1
         · exact h2 a (List.mem_cons_of_mem _ h)
       · intro p v
         constructor
         · rintro ⟨z, hz, h1, h2⟩
           rcases List.mem_cons.mp hz with rfl | hz
           · rcases (hn p).mp h1 with h3 | h3
             · exact .inl ⟨q,List.mem_cons_self,h3,hm.2.trans h2⟩
             · exact .inr ⟨h3,h2⟩
           · exact .inl ⟨z,List.mem_cons_of_mem _ hz,h1,h2⟩
         · rintro (⟨z, hz, h1, h2⟩ | ⟨h1, h2⟩)
           · rcases List.mem_cons.mp hz with rfl | hz
             · exact ⟨_,List.mem_cons_self,(hn p).mpr (.inl h1),by rw [hm.2] at h2; exact h2⟩
             · exact ⟨z,List.mem_cons_of_mem _ hz,h1,h2⟩
           · exact ⟨_,List.mem_cons_self,(hn p).mpr (.inr h1),h2⟩
     · have e : knit1 (q :: t) (lo, bh, some w) = (lo, bh, some w) :: q :: t := by simp only [knit1]; rw [if_neg hm]
       rw [e]
       refine ⟨⟨?_,List.pairwise_cons.mpr ⟨ha,k.pw⟩,?_,hm,k.adj⟩,?_,?_⟩
       · intro z hz
         rcases List.mem_cons.mp hz with rfl | hz
         · exact ho
         · exact k.ok z hz
       · intro z hz
         rcases List.mem_cons.mp hz with rfl | hz
         · simp
         · exact k.val z hz
       · intro r' h1 h2 a h
         rcases List.mem_cons.mp h with rfl | h
         · exact h1
         · exact h2 a h
       · intro p v
         constructor
         · rintro ⟨z, hz, h1, h2⟩
           rcases List.mem_cons.mp hz with rfl | hz
           · exact .inr ⟨h1,h2⟩
           · exact .inl ⟨z,hz,h1,h2⟩
         · rintro (⟨z, hz, h1, h2⟩ | ⟨h1, h2⟩)
           · exact ⟨z,List.mem_cons_of_mem _ hz,h1,h2⟩
           · exact ⟨_,List.mem_cons_self,h1,h2⟩
theorem wX:∀ (rows acc:List Rw),KI acc->Ord rows->(∀ a∈acc,∀ r∈rows,ahead a r)->KI (rows.foldl knit1 acc)/\∀ p v,Tel (rows.foldl knit1 acc) p v↔Tel acc p v \/ Tel rows p v
 | [],acc,k,_,_=>⟨k,fun p v=>⟨.inl,fun h=>h.elim id fun ⟨r,hr,_⟩=>nomatch hr⟩⟩
 | r :: rows, acc, k, o, h => by
   have pw:=List.pairwise_cons.mp o.pw
   obtain ⟨k1,h1,t1⟩:=knit1_step k (o.ok r List.mem_cons_self) fun a ha=>h a ha r List.mem_cons_self
   obtain ⟨k2,t2⟩:=wX rows (knit1 acc r) k1 ⟨fun z hz=>o.ok z (List.mem_cons_of_mem _ hz),pw.2⟩ fun a ha r' hr'=>h1 r' (pw.1 r' hr') (fun b hb=>h b hb r' (List.mem_cons_of_mem _ hr')) a ha
   refine ⟨k2,fun p v=>?_⟩
   show Tel (rows.foldl knit1 (knit1 acc r)) p v↔_
   rw [t2,t1]
   constructor
   · rintro ((h | ⟨h, e⟩) | ⟨z, hz, h⟩)
     · exact .inl h
     · exact .inr ⟨r,List.mem_cons_self,h,e⟩
     · exact .inr ⟨z,List.mem_cons_of_mem _ hz,h⟩
   · rintro (h' | ⟨z, hz, h'⟩)
     · exact .inl (.inl h')
     · rcases List.mem_cons.mp hz with rfl | hz
       · exact .inl (.inr h')
       · exact .inr ⟨z,hz,h'⟩
structure MapF (ps:List Rw):Prop where
 ord:Ord ps
 val:∀ r∈ps,r.2.2≠none
 adj:∀ (i:Nat) (a b:Rw),ps[i]? = some a->ps[i+1]? = some b->¬ (a.2.1=b.1/\a.2.2=b.2.2)
theorem adjOk_get:∀ {l:List Rw},adjOk l->∀ (i:Nat) (b a:Rw),l[i]? = some b->l[i+1]? = some a->¬ (a.2.1=b.1/\a.2.2=b.2.2)
 | [],_,i,b,a,e,_=>by simp at e
 | [x],_,i,b,a,e,e2=>by simp at e2
 | x :: y :: t, h, 0, b, a, e, e2 => by
   simp at e e2
   subst e e2
   exact h.1
 | x::y::t,h,i+1,b,a,e,e2=>adjOk_get h.2 i b a (by simpa using e) (by simpa using e2)
theorem KI.map {acc:List Rw} (k:KI acc):MapF acc.reverse:=by
 refine ⟨⟨fun r hr=>k.ok r (List.mem_reverse.mp hr),List.pairwise_reverse.mpr k.pw⟩,fun r hr=>k.val r (List.mem_reverse.mp hr),fun i a b h1 h2=>?_⟩
 have l2:=(List.getElem?_eq_some_iff.mp h2).1
 rw [List.length_reverse] at l2
 rw [List.getElem?_reverse (by omega)] at h1 h2
 refine adjOk_get k.adj (acc.length - 1 - (i+1)) b a h2 ?_
 rw [<- h1]
 congr 1
 omega
theorem tel_reverse {l:List Rw} {p v:Int} : Tel l.reverse p v↔Tel l p v:=⟨fun ⟨r,h,q⟩=>⟨r,List.mem_reverse.mp h,q⟩,fun ⟨r,h,q⟩=>⟨r,List.mem_reverse.mpr h,q⟩⟩
theorem knitF_map {rows:List Rw} (o:Ord rows):MapF (knitF rows):=(wX rows [] KI.nil o (fun _ h=>nomatch h)).1.map
theorem knitF_tel {rows:List Rw} (o:Ord rows) (p v:Int):Tel (knitF rows) p v↔Tel rows p v:=by
 unfold knitF
 rw [tel_reverse,(wX rows [] KI.nil o (fun _ h=>nomatch h)).2]
 exact ⟨fun h=>h.elim (fun ⟨r,hr,_⟩=>nomatch hr) id,.inr⟩
noncomputable def valL (rows:List Rw) (p:Int):Option Int:=rows.foldl (fun t r=>if has3 r p=true then r.2.2 else t) none
theorem xK {a b:Rw} {p:Int} (h:ahead a b) (h1:has3 a p=true) (h2:has3 b p=true):False:=by
 obtain ⟨x,y,hx,hy,hxy⟩:=h
 rw [wH] at h1 h2
 have:=h1.2 x hx
 have:=h2.1 y hy
 omega
theorem valL_none {rows:List Rw} {p:Int} (h:∀ r∈rows,has3 r p=false) (t:Option Int):rows.foldl (fun t r=>if has3 r p=true then r.2.2 else t) t=t:=by
 induction rows generalizing t with
 | nil=>rfl
 | cons r rows ih =>
   rw [List.foldl_cons,h r List.mem_cons_self]
   exact ih (fun z hz=>h z (List.mem_cons_of_mem _ hz)) _
theorem yF {rows:List Rw} (o:Ord rows) (p v:Int):valL rows p=some v↔Tel rows p v:=by
 have key:∀ (rows:List Rw),Ord rows->∀ t:Option Int,rows.foldl (fun t r=>if has3 r p=true then r.2.2 else t) t=(match rows.find? (fun r=>has3 r p) with | some r=>r.2.2 | none=>t):=by
  intro rows
  induction rows with
  | nil=>intro _ t; rfl
  | cons r rows ih =>
    intro o t
    have pw:=List.pairwise_cons.mp o.pw
    rw [List.foldl_cons]
    cases h:has3 r p with
    | true =>
      rw [List.find?_cons_of_pos (by exact h)]
      simp only [if_true]
      exact valL_none (fun z hz=>by
       cases hz':has3 z p with
       | false=>rfl
       | true=>exact (xK (pw.1 z hz) h hz').elim) _
    | false =>
      rw [List.find?_cons_of_neg (by simpa using h)]
      simp only [Bool.false_eq_true,if_false]
      exact ih ⟨fun z hz=>o.ok z (List.mem_cons_of_mem _ hz),pw.2⟩ t
 unfold valL
 rw [key rows o none]
 constructor
 · intro h
   cases hf:rows.find? (fun r=>has3 r p) with
   | none=>rw [hf] at h; cases h
   | some r =>
     rw [hf] at h
     exact ⟨r,List.mem_of_find?_eq_some hf,by simpa using List.find?_some hf,h⟩
 · rintro ⟨r, hr, h1, h2⟩
   cases hf:rows.find? (fun r=>has3 r p) with
   | none =>
     have:=List.find?_eq_none.mp hf r hr
     exact (this h1).elim
   | some r' =>
     have h3:has3 r' p=true:=by simpa using List.find?_some hf
     have hm:=List.mem_of_find?_eq_some hf
     have:r'=r:=by
      by_cases e:r'=r
      · exact e
      · exfalso
        have pw:=o.pw
        rcases List.mem_iff_getElem.mp hr with ⟨i,hi,rfl⟩
        rcases List.mem_iff_getElem.mp hm with ⟨j,hj,rfl⟩
        rcases Nat.lt_trichotomy i j with hlt | hlt | hlt
        · exact xK (List.pairwise_iff_getElem.mp pw i j hi hj hlt) h1 h3
        · subst hlt; exact e rfl
        · exact xK (List.pairwise_iff_getElem.mp pw j i hj hi hlt) h3 h1
     rw [this]
     exact h2
open Builtin.Int (intBits)
structure Drawn (rows:List Rw) (s:Int):Prop where
 ord:Ord rows
 fin:∀ r∈rows,∃ lo bh,r.1=some lo/\r.2.1=some bh/\bh<=s
@[simp] theorem methR_ins (n:Nat) (cs:List Nat) (F:Nat->List D->Option Ret) (t:Nat) (es l:List D):methR n cs F (.ins t es) l=if t∈cs/\l.length=n then F t (.ins t es::l) else none:=rfl
end FL
namespace FL
open PySem PyProof.Rows L2 Builtin.Str
noncomputable def txS (cs:List Nat):Str:=⟨cs.toArray⟩
@[simp] theorem list_txS (cs:List Nat):(txS cs).cps.toList=cs:=rfl
@[simp] theorem jT (cs:List Nat):(txS cs).length=cs.length:=by simp [txS,Str.length]
theorem txS_inj {a b:List Nat} : txS a=txS b↔a=b:=⟨fun h=>by have:=congrArg (fun x:Str=>x.cps.toList) h; simpa using this,fun h=>by rw [h]⟩
@[simp] theorem txS_app (a b:List Nat):txS a++txS b=txS (a++b):=Str.ext' (by rw [Str.cps_append]; simp [txS])
theorem jP (x:Str) (l u:Option Int):Txt.slice x l u=StrLaws.sliceText x l u:=rfl
theorem slice_nat (cs:List Nat) {a b:Nat} (hab:a<=b) (hb:b<=cs.length):Txt.slice (txS cs) (some (a:Int)) (some (b:Int))=txS ((cs.drop a).take (b - a)):=by
 rw [jP,StrLaws.sliceText_nat _ hab (by simpa using hb)]
 rfl
theorem wR (cs:List Nat) {b:Nat} (hb:b<=cs.length):Txt.slice (txS cs) none (some (b:Int))=txS (cs.take b):=by
 have e:Txt.slice (txS cs) none (some (b:Int))=Txt.slice (txS cs) (some ((0:Nat):Int)) (some (b:Int)):=by
  rw [jP,jP]; unfold StrLaws.sliceText; rw [StrLaws.sliceIdx_none_lo]; rfl
 rw [e,slice_nat cs (Nat.zero_le _) hb]
 simp
theorem xT (cs:List Nat) (a:Nat):Txt.slice (txS cs) (some (a:Int)) none=txS (cs.drop a):=by
 have key:∀ a:Nat,a<=cs.length->Txt.slice (txS cs) (some (a:Int)) none=txS (cs.drop a):=by
  intro a ha
  have e:Txt.slice (txS cs) (some (a:Int)) none=Txt.slice (txS cs) (some (a:Int)) (some (cs.length:Int)):=by
   rw [jP,jP]; unfold StrLaws.sliceText; rw [StrLaws.sliceIdx_none_hi]; simp
  rw [e,slice_nat cs ha (Nat.le_refl _)]
  congr 1
  exact List.take_of_length_le (by simp)
 by_cases ha:a<=cs.length
 · exact key a ha
 · have e:Txt.slice (txS cs) (some (a:Int)) none=Txt.slice (txS cs) (some (cs.length:Int)) none:=by
    have:strSliceIndices (some (a:Int)) none 1 (txS cs).length=strSliceIndices (some (cs.length:Int)) none 1 (txS cs).length:=by
     have h1 : ¬ ((a:Int) < 0):=by omega
     have h2 : ¬ ((cs.length:Int) < 0):=by omega
     have e1:max (0:Int) (min (a:Int) (cs.length:Int))=cs.length:=by omega
     have e2:max (0:Int) (min (cs.length:Int) (cs.length:Int))=cs.length:=by omega
     simp only [strSliceIndices,jT,h1,h2,if_false,e1,e2,show ((1:Int) > 0)=True from by simp,if_true]
    rw [jP,jP]; unfold StrLaws.sliceText; rw [this]
   rw [e,key _ (Nat.le_refl _),List.drop_of_length_le (by omega),List.drop_of_length_le (by omega)]
theorem in_one (cs:List Nat) (c:Nat):inS (.str (txS [c])) (.str (txS cs))=some (.bl (decide (c∈cs))):=by
 have e3:txS [c]=(⟨#[c]⟩:Str):=rfl
 have e:=StrLaws.found_one (txS cs) c
 rw [list_txS] at e
 rw [e3]
 show some (D.bl _)=_
 rw [e]
theorem len_tx (cs:List Nat) (h:cs.length<=16777216):lenD [.str (txS cs)]=some (.int cs.length):=by
 simp [lenD,h]
theorem vV (a b:List Nat) (h:a.length+b.length<=16777216):yG (.str (txS a)) (.str (txS b))=some (.str (txS (a++b))):=by
 simp [yG,h]
def Asc (cs:List Nat):Prop:=∀ c∈cs,c < 1000
theorem shal_tx {cs:List Nat} (h:Asc cs) (n:Nat):shal n (.str (txS cs))=true:=by
 have:PyData.strOk (txS cs)=true:=by
  unfold PyData.strOk
  rw [<- Array.all_toList,list_txS,List.all_eq_true]
  intro c hc
  have:=h c hc
  simp
  omega
 simp [shal,this]
end FL
namespace FL
open PySem PySem.Spec PyProof.Rows L2
open Builtin.Int (intBits)
end FL
namespace FL
open PySem PySem.Spec PyProof.Rows L2
theorem yM {α : Type} {ga:D->List Sl->Option (List Sl)} {fe:FE} {s0:List Sl} (f h : α->D):∀ (xs:List α),(∀ x∈xs,∃ ds1,ga (f x) s0=some ds1/\fe ds1=some (h x))->compL ga (fun _=>some true) fe s0 (xs.map f)=some (xs.map h)
 | [],_=>rfl
 | x :: xs, H => by
   obtain ⟨ds1,e1,e2⟩:=H x List.mem_cons_self
   have ih:=yM (ga:=ga) (fe:=fe) (s0:=s0) f h xs fun y hy=>H y (List.mem_cons_of_mem _ hy)
   simp only [List.map_cons,compL,e1,e2,ih,Option.bind_some,if_true,Option.map_some]
theorem valL_find {rows:List Rw} (o:Ord rows) (p:Int):valL rows p=(match rows.find? (fun r=>has3 r p) with | some r=>r.2.2 | none=>none):=by
 cases hf:rows.find? (fun r=>has3 r p) with
 | none =>
   cases hv:valL rows p with
   | none=>rfl
   | some v =>
     obtain ⟨r,hr,h1,_⟩:=(yF o p v).mp hv
     exact (List.find?_eq_none.mp hf r hr h1).elim
 | some r =>
   have hm:=List.mem_of_find?_eq_some hf
   have h3:has3 r p=true:=by simpa using List.find?_some hf
   cases hw:r.2.2 with
   | some v=>exact ((yF o p v).mpr ⟨r,hm,h3,hw⟩).trans hw.symm
   | none =>
     cases hv:valL rows p with
     | none=>exact hw.symm
     | some v =>
       obtain ⟨r',hr',h1,h2⟩:=(yF o p v).mp hv
       have:r'=r:=by
        by_cases e:r'=r
        · exact e
        · exfalso
          rcases List.mem_iff_getElem.mp hr' with ⟨i,hi,rfl⟩
          rcases List.mem_iff_getElem.mp hm with ⟨j,hj,rfl⟩
          rcases Nat.lt_trichotomy i j with hlt | hlt | hlt
          · exact xK (List.pairwise_iff_getElem.mp o.pw i j hi hj hlt) h1 h3
          · subst hlt; exact e rfl
          · exact xK (List.pairwise_iff_getElem.mp o.pw j i hj hi hlt) h3 h1
       rw [this,hw] at h2
       cases h2
theorem value_at_raw (ps:List Rw) (p:Int):GP.value_at.f [.lst (ps.map rwD),.int p]=some (.val (oi (match ps.find? (fun r=>has3 r p) with | some r=>r.2.2 | none=>none))):=by
 have lp:∀ (R:Sl) (ps:List Rw) (a b c:Sl),∃ a' b' c',jM (tupG 3 (jC (qA 2) (jC (qA 3) (jC (qA 4) tgNil)))) GP.value_at.b1 (ps.map rwD) [R,.v (.int p),a,b,c] =
   (match ps.find? (fun r=>has3 r p) with | some r=>some (.rt (.val (oi r.2.2))) | none=>some (.nx [R,.v (.int p),a',b',c'])):=by
  intro R ps
  induction ps with
  | nil=>exact fun a b c=>⟨a,b,c,rfl⟩
  | cons r ps ih =>
    intro a b c
    obtain ⟨a',b',c',e⟩:=ih (.v (oi r.1)) (.v (oi r.2.1)) (.v (oi r.2.2))
    refine ⟨a',b',c',?_⟩
    have hh:GP.has.f [.tup [oi r.1,oi r.2.1],.int p]=some (.val (.bl (has3 r p))):=has_eq (r.1,r.2.1) p
    cases h:has3 r p with
    | true =>
      rw [h] at hh
      have turn:GP.value_at.b1 [R,.v (.int p),.v (oi r.1),.v (oi r.2.1),.v (oi r.2.2)]=some (.rt (.val (oi r.2.2))):=by simp [GP.value_at.b1,hh]
      simp [jM,turn,h]
    | false =>
      rw [h] at hh
      have turn:GP.value_at.b1 [R,.v (.int p),.v (oi r.1),.v (oi r.2.1),.v (oi r.2.2)]=some (.nx [R,.v (.int p),.v (oi r.1),.v (oi r.2.1),.v (oi r.2.2)]):=by simp [GP.value_at.b1,hh]
      simp [jM,turn,h,e]
 obtain ⟨a,b,c,e⟩:=lp (.v (.lst (ps.map rwD))) ps .no .no .no
 unfold GP.value_at.f runG GP.value_at.g
 cases hf:ps.find? (fun r=>has3 r p) with
 | none=>rw [hf] at e; simp [args,e]
 | some r=>rw [hf] at e; simp [args,e]
theorem value_at_eq {ps:List Rw} (o:Ord ps) (p:Int):GP.value_at.f [.lst (ps.map rwD),.int p]=some (.val (oi (valL ps p))):=by rw [value_at_raw,valL_find o]
noncomputable def part1 (s:Spn) (r:Rw):Option Rw:=(meetS (r.1,r.2.1) s).map fun u=>(u.1,u.2,r.2.2)
noncomputable def zT (ps:List Rw) (s:Spn):List Rw:=ps.filterMap (part1 s)
theorem xO (R:Sl) (s:Spn):∀ (ps acc:List Rw) (a b c d:Sl),acc.length+ps.length < 16777216->∃ a' b' c' d',jM (tupG 3 (jC (qA 3) (jC (qA 4) (jC (qA 5) tgNil)))) GP.parts_in.b1 (ps.map rwD) [R,.v (spD s),.own (acc.map rwD),a,b,c,d]=some (.nx [R,.v (spD s),.own ((acc++zT ps s).map rwD),a',b',c',d'])
 | [],acc,a,b,c,d,_=>⟨a,b,c,d,by simp [zT,jM]⟩
 | r :: ps, acc, a, b, c, d, h => by
   simp only [List.length_cons] at h
   have me:GP.meet.f [.tup [oi r.1,oi r.2.1],spD s]=some (.val (oS (meetS (r.1,r.2.1) s))):=meet_eq (r.1,r.2.1) s
   cases hm:meetS (r.1,r.2.1) s with
   | none =>
     rw [hm] at me
     obtain ⟨a',b',c',d',ih⟩:=xO R s ps acc (.v (oi r.1)) (.v (oi r.2.1)) (.v (oi r.2.2)) (.v .non) (by omega)
     refine ⟨a',b',c',d',?_⟩
     have turn:GP.parts_in.b1 [R,.v (spD s),.own (acc.map rwD),.v (oi r.1),.v (oi r.2.1),.v (oi r.2.2),d]=some (.nx [R,.v (spD s),.own (acc.map rwD),.v (oi r.1),.v (oi r.2.1),.v (oi r.2.2),.v .non]):=by simp [GP.parts_in.b1,me,oS]
     have e:zT (r::ps) s=zT ps s:=by simp [zT,part1,hm]
     rw [e]
     simp [jM,turn,ih]
   | some u =>
     rw [hm] at me
     obtain ⟨a',b',c',d',ih⟩:=xO R s ps (acc++[(u.1,u.2,r.2.2)]) (.v (oi r.1)) (.v (oi r.2.1)) (.v (oi r.2.2)) (.v (spD u)) (by simp; omega)
     refine ⟨a',b',c',d',?_⟩
     have z:acc.length < 16777216:=by omega
     have e0:D.tup [oi u.1,oi u.2,oi r.2.2]=rwD (u.1,u.2,r.2.2):=rfl
     have turn:GP.parts_in.b1 [R,.v (spD s),.own (acc.map rwD),.v (oi r.1),.v (oi r.2.1),.v (oi r.2.2),d]=some (.nx [R,.v (spD s),.own (acc.map rwD++[rwD (u.1,u.2,r.2.2)]),.v (oi r.1),.v (oi r.2.1),.v (oi r.2.2),.v (spD u)]):=by simp [GP.parts_in.b1,me,oS,z,e0]
     have e:zT (r::ps) s=(u.1,u.2,r.2.2)::zT ps s:=by simp [zT,part1,hm]
     rw [e]
     simp only [List.map_append,List.map_cons,List.map_nil,List.append_assoc,List.cons_append,List.nil_append] at ih ⊢
     simp [jM,turn,ih]
theorem jZ (ps:List Rw) (s:Spn):(zT ps s).length<=ps.length:=List.length_filterMap_le _ _
theorem parts_eq (ps:List Rw) (s:Spn) (h:ps.length < 16777216):GP.parts_in.f [.lst (ps.map rwD),spD s]=some (.fresh ((zT ps s).map rwD)):=by
 obtain ⟨a,b,c,d,e⟩:=xO (.v (.lst (ps.map rwD))) s ps [] .no .no .no .no (by simpa using h)
 simp only [List.map_nil,List.nil_append] at e
 unfold GP.parts_in.f runG GP.parts_in.g
 simp [args,e,yQ]
theorem qM {s:Spn} {r r':Rw} (h:part1 s r=some r'):ok3 r'/\r'.2.2=r.2.2/\(∀ p,has3 r' p=(has3 r p && hasS s p))/\(∀ x,r.2.1=some x->∃ x',r'.2.1=some x'/\x'<=x)/\(∀ y,r.1=some y->∃ y',r'.1=some y'/\y<=y')/\(∀ x,s.2=some x->∃ x',r'.2.1=some x'/\x'<=x)/\(∀ y,s.1=some y->∃ y',r'.1=some y'/\y<=y'):=by
 unfold part1 at h
 cases hm:meetS (r.1,r.2.1) s with
 | none=>rw [hm] at h; cases h
 | some u =>
   rw [hm] at h
   cases h
   have hp:=fun p=>hasO_meet (r.1,r.2.1) s p
   rw [hm] at hp
   refine ⟨meetS_ok hm,rfl,fun p=>hp p,?_,?_,?_,?_⟩
   all_goals (unfold meetS at hm; split at hm; (· cases hm); cases hm)
   · intro x hx
     show ∃ x',xV r.2.1 s.2=some x'/\x'<=x
     rw [hx]
     cases s.2 <;> simp [xV]
     omega
   · intro y hy
     show ∃ y',lateL r.1 s.1=some y'/\y<=y'
     rw [hy]
     cases s.1 <;> simp [lateL]
     omega
   · intro x hx
     show ∃ x',xV r.2.1 s.2=some x'/\x'<=x
     rw [hx]
     cases r.2.1 <;> simp [xV]
     omega
   · intro y hy
     show ∃ y',lateL r.1 s.1=some y'/\y<=y'
     rw [hy]
     cases r.1 <;> simp [lateL]
     omega
theorem part1_none {s:Spn} {r:Rw} (h:part1 s r=none) (p:Int):(has3 r p && hasS s p)=false:=by
 unfold part1 at h
 have hp:=hasO_meet (r.1,r.2.1) s p
 cases hm:meetS (r.1,r.2.1) s with
 | none=>rw [hm] at hp; exact hp.symm
 | some u=>rw [hm] at h; cases h
theorem mem_parts {ps:List Rw} {s:Spn} {r':Rw} : r'∈zT ps s↔∃ r∈ps,part1 s r=some r':=List.mem_filterMap
theorem parts_ord {ps:List Rw} (o:Ord ps) (s:Spn):Ord (zT ps s):=by
 refine ⟨fun r' h=>?_,?_⟩
 · obtain ⟨r, _, h⟩ := mem_parts.mp h
   exact (qM h).1
 · unfold zT
   rw [List.pairwise_filterMap]
   refine o.pw.imp fun {a b} hab a' ha b' hb=>?_
   obtain ⟨x,y,hx,hy,hxy⟩:=hab
   obtain ⟨x',e1,h1⟩:=(qM ha).2.2.2.1 x hx
   obtain ⟨y',e2,h2⟩:=(qM hb).2.2.2.2.1 y hy
   exact ⟨x',y',e1,e2,by omega⟩
theorem parts_tel {ps:List Rw} {s:Spn} {p v:Int} : Tel (zT ps s) p v↔hasS s p=true/\Tel ps p v:=by
 constructor
 · rintro ⟨r', h, h1, h2⟩
   obtain ⟨r,hr,h⟩:=mem_parts.mp h
   obtain ⟨_,e,hh,_⟩:=qM h
   rw [hh p,Bool.and_eq_true] at h1
   exact ⟨h1.2,r,hr,h1.1,e ▸ h2⟩
 · rintro ⟨hs, r, hr, h1, h2⟩
   cases h:part1 s r with
   | none =>
     have:=part1_none h p
     rw [h1,hs] at this
     cases this
   | some r' =>
     obtain ⟨_,e,hh,_⟩:=qM h
     exact ⟨r',mem_parts.mpr ⟨r,hr,h⟩,by rw [hh p,h1,hs]; rfl,e.trans h2⟩
noncomputable def loP (ps:List Rw):Option Int->List Rw
 | none=>[]
 | some a=>zT ps (none,some a)
noncomputable def hiP (ps:List Rw):Option Int->List Rw
 | none=>[]
 | some b=>zT ps (some b,none)
noncomputable def overF (ps:List Rw) (s:Spn) (v:Option Int):List Rw:=loP ps s.1++(s.1,s.2,v)::hiP ps s.2
theorem parts_two {ps:List Rw} (o:Ord ps) {a b:Int} (h:a < b):(zT ps (none,some a)).length+(zT ps (some b,none)).length<=ps.length+1:=by
 induction ps with
 | nil=>simp [zT]
 | cons r t ih =>
   have pw:=List.pairwise_cons.mp o.pw
   have ot:Ord t:=⟨fun z hz=>o.ok z (List.mem_cons_of_mem _ hz),pw.2⟩
   have ih:=ih ot
   cases h1:part1 (none,some a) r with
   | none =>
     have e1:zT (r::t) (none,some a)=zT t (none,some a):=by simp [zT,h1]
     rw [e1]
     have:(zT (r::t) (some b,none)).length<=(zT t (some b,none)).length+1:=by
      unfold zT
      rw [List.filterMap_cons]
      split <;> simp
     simp only [List.length_cons]
     omega
   | some r1 =>
     have e1:zT (r::t) (none,some a)=r1::zT t (none,some a):=by simp [zT,h1]
     rw [e1]
     cases h2:part1 (some b,none) r with
     | none =>
       have e2:zT (r::t) (some b,none)=zT t (some b,none):=by simp [zT,h2]
       rw [e2]
       simp only [List.length_cons]
       omega
     | some r2 =>
       have e2:zT (r::t) (some b,none)=r2::zT t (some b,none):=by simp [zT,h2]
       have e3:zT t (none,some a)=[]:=by
        unfold zT
        rw [List.filterMap_eq_nil_iff]
        intro z hz
        cases hz':part1 (none,some a) z with
        | none=>rfl
        | some z' =>
          exfalso
          obtain ⟨x,y,hx,hy,hxy⟩:=pw.1 z hz
          have k2:=qM h2
          have kz:=qM hz'
          obtain ⟨x2,ex2,hx2⟩:=k2.2.2.2.1 x hx
          obtain ⟨y2,ey2,hy2⟩:=k2.2.2.2.2.2.2 b rfl
          have:=k2.1 y2 x2 ey2 ex2
          obtain ⟨y3,ey3,hy3⟩:=kz.2.2.2.2.1 y hy
          obtain ⟨x3,ex3,hx3⟩:=kz.2.2.2.2.2.1 a rfl
          have:=kz.1 y3 x3 ey3 ex3
          omega
       rw [e2,e3]
       have:=jZ t (some b,none)
       simp only [List.length_cons,List.length_nil]
       omega
theorem over_len {ps:List Rw} (o:Ord ps) (s:Spn) (hs:okS s) (v:Option Int):(overF ps s v).length<=ps.length+2:=by
 obtain ⟨lo,bh⟩:=s
 unfold overF loP hiP
 cases lo with
 | none =>
   cases bh with
   | none=>simp
   | some b =>
     have:=jZ ps (some b,none)
     simp
     omega
 | some a =>
   cases bh with
   | none =>
     have:=jZ ps (none,some a)
     simp
     omega
   | some b =>
     have:=parts_two o (hs a b rfl rfl)
     simp
     omega
theorem over_ord {ps:List Rw} (o:Ord ps) (s:Spn) (hs:okS s) (v:Option Int):Ord (overF ps s v):=by
 obtain ⟨lo,bh⟩:=s
 unfold overF
 have l1:∀ r∈(loP ps lo),ok3 r/\∃ a x,lo=some a/\r.2.1=some x/\x<=a:=by
  cases lo with
  | none=>intro r h; cases h
  | some a =>
    intro r h
    obtain ⟨q,_,h⟩:=mem_parts.mp h
    obtain ⟨x,e,hx⟩:=(qM h).2.2.2.2.2.1 a rfl
    exact ⟨(qM h).1,a,x,rfl,e,hx⟩
 have l2:∀ r∈(hiP ps bh),ok3 r/\∃ b y,bh=some b/\r.1=some y/\b<=y:=by
  cases bh with
  | none=>intro r h; cases h
  | some b =>
    intro r h
    obtain ⟨q,_,h⟩:=mem_parts.mp h
    obtain ⟨y,e,hy⟩:=(qM h).2.2.2.2.2.2 b rfl
    exact ⟨(qM h).1,b,y,rfl,e,hy⟩
 have o1:Ord (loP ps lo):=by
  cases lo with
  | none=>exact ⟨(fun _ h=>nomatch h),List.Pairwise.nil⟩
  | some a=>exact parts_ord o _
 have o2:Ord (hiP ps bh):=by
  cases bh with
  | none=>exact ⟨(fun _ h=>nomatch h),List.Pairwise.nil⟩
  | some b=>exact parts_ord o _
 refine ⟨fun r h=>?_,?_⟩
 · rcases List.mem_append.mp h with h | h
   · exact (l1 r h).1
   · rcases List.mem_cons.mp h with rfl | h
     · exact hs
     · exact (l2 r h).1
 · refine List.pairwise_append.mpr ⟨o1.pw, List.pairwise_cons.mpr ⟨fun r h => ?_, o2.pw⟩, fun a ha b hb => ?_⟩
   · obtain ⟨_, b, y, e, e2, hy⟩ := l2 r h
     exact ⟨b,y,e,e2,hy⟩
   · obtain ⟨_, x, x', e, e2, hx⟩ := l1 a ha
     rcases List.mem_cons.mp hb with rfl | hb
     · exact ⟨x',x,e2,e,hx⟩
     · obtain ⟨_, y, y', e3, e4, hy⟩ := l2 b hb
       have:=hs x y e e3
       exact ⟨x',y',e2,e4,by omega⟩
theorem over_tel {ps:List Rw} (s:Spn) (hs:okS s) (v:Option Int) (p w:Int):Tel (overF ps s v) p w↔if hasS s p=true then v=some w else Tel ps p w:=by
 obtain ⟨lo,bh⟩:=s
 have h1:Tel (loP ps lo) p w↔(∃ a,lo=some a/\p < a)/\Tel ps p w:=by
  cases lo with
  | none=>exact ⟨(fun ⟨r,h,_⟩=>nomatch h),(fun ⟨⟨a,e,_⟩,_⟩=>by cases e)⟩
  | some a =>
    show Tel (zT ps (none,some a)) p w↔_
    rw [parts_tel]
    simp [hasS]
 have h2:Tel (hiP ps bh) p w↔(∃ b,bh=some b/\b<=p)/\Tel ps p w:=by
  cases bh with
  | none=>exact ⟨(fun ⟨r,h,_⟩=>nomatch h),(fun ⟨⟨a,e,_⟩,_⟩=>by cases e)⟩
  | some b =>
    show Tel (zT ps (some b,none)) p w↔_
    rw [parts_tel]
    simp [hasS]
 have h3:Tel (overF ps (lo,bh) v) p w↔Tel (loP ps lo) p w \/ (hasS (lo,bh) p=true/\v=some w) \/ Tel (hiP ps bh) p w:=by
  unfold overF
  constructor
  · rintro ⟨r, h, e1, e2⟩
    rcases List.mem_append.mp h with h | h
    · exact .inl ⟨r,h,e1,e2⟩
    · rcases List.mem_cons.mp h with rfl | h
      · exact .inr (.inl ⟨e1,e2⟩)
      · exact .inr (.inr ⟨r,h,e1,e2⟩)
  · rintro (⟨r, h, e1, e2⟩ | ⟨e1, e2⟩ | ⟨r, h, e1, e2⟩)
    · exact ⟨r,List.mem_append_left _ h,e1,e2⟩
    · exact ⟨_,List.mem_append_right _ List.mem_cons_self,e1,e2⟩
    · exact ⟨r,List.mem_append_right _ (List.mem_cons_of_mem _ h),e1,e2⟩
 rw [h3,h1,h2]
 by_cases hp:hasS (lo,bh) p=true
 · rw [if_pos hp]
   have hq:=(yO _ _).mp hp
   constructor
   · rintro (⟨⟨a, e, hlt⟩, _⟩ | ⟨_, e⟩ | ⟨⟨b, e, hle⟩, _⟩)
     · have:=hq.1 a e; omega
     · exact e
     · have:=hq.2 b e; omega
   · exact fun e=>.inr (.inl ⟨hp,e⟩)
 · rw [if_neg hp]
   constructor
   · rintro (⟨_, h⟩ | ⟨e, _⟩ | ⟨_, h⟩)
     · exact h
     · exact (hp e).elim
     · exact h
   · intro h
     by_cases hl:∃ a,lo=some a/\p < a
     · exact .inl ⟨hl,h⟩
     · by_cases hb : ∃ b, bh = some b /\ b <= p
       · exact .inr (.inr ⟨hb,h⟩)
       · exfalso
         apply hp
         rw [yO]
         refine ⟨fun a e=>?_,fun b e=>?_⟩
         · exact Int.not_lt.mp fun z=>hl ⟨a,e,z⟩
         · exact Int.not_le.mp fun z=>hb ⟨b,e,z⟩
theorem over_eq {ps:List Rw} (s:Spn) (v:Option Int) (h:ps.length<=1000000):GP.rows_over.f [.lst (ps.map rwD),spD s,oi v]=some (.fresh ((overF ps s v).map rwD)):=by
 obtain ⟨lo,bh⟩:=s
 have p1:∀ a:Int,GP.parts_in.f [.lst (ps.map rwD),.tup [.non,.int a]]=some (.fresh ((zT ps (none,some a)).map rwD)):=fun a=>parts_eq ps (none,some a) (by omega)
 have p2:∀ a:Int,GP.parts_in.f [.lst (ps.map rwD),.tup [.int a,.non]]=some (.fresh ((zT ps (some a,none)).map rwD)):=fun a=>parts_eq ps (some a,none) (by omega)
 have e0:D.tup [oi lo,oi bh,oi v]=rwD (lo,bh,v):=rfl
 have fl:=yQ (overF ps (lo,bh) v)
 unfold overF loP hiP at fl ⊢
 unfold GP.rows_over.f runG GP.rows_over.g
 cases lo with
 | none =>
   cases bh with
   | none=>simp at fl e0; simp [args,e0]
   | some b =>
     have z:=jZ ps (some b,none)
     have z1:1+(zT ps (some b,none)).length<=16777216:=by omega
     simp at fl e0
     simp [args,p2,e0,z1,fl]
 | some a =>
   have z:=jZ ps (none,some a)
   have z0:(zT ps (none,some a)).length<=16777216:=by omega
   have z1:(zT ps (none,some a)).length < 16777216:=by omega
   cases bh with
   | none =>
     simp at fl e0
     simp [args,p1,e0,z0,z1,fl]
   | some b =>
     have z':=jZ ps (some b,none)
     have z2:(zT ps (none,some a)).length+1+(zT ps (some b,none)).length<=16777216:=by omega
     simp at fl e0
     simp [args,p1,p2,e0,z0,z1,z2,fl]
abbrev Rv:=Spn×Option Int
noncomputable def put1 (ps:List Rw) (r:Rv):List Rw:=knitF (overF ps r.1 r.2)
theorem put1_map {ps:List Rw} (m:MapF ps) {r:Rv} (h:okS r.1):MapF (put1 ps r):=knitF_map (over_ord m.ord r.1 h r.2)
theorem put1_len {ps:List Rw} (m:MapF ps) {r:Rv} (h:okS r.1):(put1 ps r).length<=ps.length+2:=Nat.le_trans (knitF_len _) (over_len m.ord r.1 h r.2)
theorem put1_tel {ps:List Rw} (m:MapF ps) {r:Rv} (h:okS r.1) (p w:Int):Tel (put1 ps r) p w↔if hasS r.1 p=true then r.2=some w else Tel ps p w:=by
 unfold put1
 rw [knitF_tel (over_ord m.ord r.1 h r.2),over_tel r.1 h r.2]
theorem put1_eq {ps:List Rw} (m:MapF ps) (hl:ps.length<=100000) {s:Spn} {v:Option Int} (h:okS s):(GP.rows_over.f [.lst (ps.map rwD),spD s,oi v]=some (.fresh ((overF ps s v).map rwD)))/\GP.knit.f [.lst ((overF ps s v).map rwD)]=some (.fresh ((put1 ps (s,v)).map rwD)) :=
 ⟨over_eq s v (by omega),knit_eq _ (by have:=over_len m.ord s h v; omega)⟩
theorem MapF.nil:MapF []:=⟨⟨(fun _ h=>nomatch h),List.Pairwise.nil⟩,(fun _ h=>nomatch h),(fun i a b h _=>by simp at h)⟩
theorem compL_filt {α : Type} {ga:D->List Sl->Option (List Sl)} {tt:FT} {fe:FE} {s0:List Sl} (f : α->D) (p : α->Bool) (h : α->D):∀ (xs:List α),(∀ x∈xs,∃ ds1,ga (f x) s0=some ds1/\tt ds1=some (p x)/\(p x=true->fe ds1=some (h x)))->compL ga tt fe s0 (xs.map f)=some ((xs.filter p).map h)
 | [],_=>rfl
 | x :: xs, H => by
   obtain ⟨ds1,e1,e2,e3⟩:=H x List.mem_cons_self
   have ih:=compL_filt (ga:=ga) (tt:=tt) (fe:=fe) (s0:=s0) f p h xs fun y hy=>H y (List.mem_cons_of_mem _ hy)
   cases hp:p x with
   | true=>simp [compL,e1,e2,e3 hp,ih,hp]
   | false=>simp [compL,e1,e2,ih,hp]
theorem some_place_ex (s:Spn) (h:okS s):∃ p,hasS s p=true/\GP.some_place.f [spD s]=some (.val (.int p)):=by
 obtain ⟨a,b⟩:=s
 unfold GP.some_place.f runG GP.some_place.g
 cases a with
 | some x =>
   refine ⟨x,?_,by simp [args]⟩
   cases b with
   | none=>simp [hasS]
   | some y=>have:=h x y rfl rfl; simp [hasS,this]
 | none =>
   cases b with
   | some y=>exact ⟨y - 1,by simp [hasS]; omega,by simp [args]⟩
   | none=>exact ⟨0,by simp [hasS],by simp [args]⟩
theorem wD {r:Rw} {t:List Rw} (m:MapF (r::t)):MapF t :=
 ⟨⟨fun z hz=>m.ord.ok z (List.mem_cons_of_mem _ hz),(List.pairwise_cons.mp m.ord.pw).2⟩,fun z hz=>m.val z (List.mem_cons_of_mem _ hz),fun i a b h1 h2=>m.adj (i+1) a b (by simpa using h1) (by simpa using h2)⟩
theorem has_place (r:Rw) (h:ok3 r):∃ p,has3 r p=true:=by
 obtain ⟨p,hp,_⟩:=some_place_ex (r.1,r.2.1) h
 exact ⟨p,hp⟩
theorem later {r z:Rw} {t:List Rw} (o:Ord (r::t)) (hz:z∈t) {p:Int} (hp:has3 z p=true):∃ x y,r.2.1=some x/\z.1=some y/\x<=y/\y<=p:=by
 obtain ⟨x,y,h1,h2,h3⟩:=(List.pairwise_cons.mp o.pw).1 z hz
 refine ⟨x,y,h1,h2,h3,?_⟩
 unfold has3 hasS at hp
 simp only [h2,Bool.and_eq_true,decide_eq_true_eq] at hp
 exact hp.1
theorem qR (r:Rw) (p:Int):has3 r p=true↔(∀ x,r.1=some x->x<=p)/\∀ y,r.2.1=some y->p < y:=by
 obtain ⟨a,b,v⟩:=r
 unfold has3 hasS
 cases a <;> cases b <;> simp
theorem low_le {r s:Rw} {t u:List Rw} (m:MapF (r::t)) (k:MapF (s::u)) (h:∀ p v,Tel (r::t) p v->Tel (s::u) p v):∀ b,s.1=some b->∃ a,r.1=some a/\b<=a:=by
 intro b hb
 obtain ⟨v,hv⟩:∃ v,r.2.2=some v:=by
  cases hv:r.2.2 with
  | none=>exact (m.val r List.mem_cons_self hv).elim
  | some v=>exact ⟨v,rfl⟩
 have ge:∀ p,has3 r p=true->b<=p:=by
  intro p hp
  obtain ⟨z,hz,hzp,_⟩:=h p v ⟨r,List.mem_cons_self,hp,hv⟩
  rcases List.mem_cons.mp hz with rfl | hz
  · exact ((qR _ p).mp hzp).1 b hb
  · obtain ⟨x, y, h1, h2, h3, h4⟩ := later k.ord hz hzp
    have:=k.ord.ok s List.mem_cons_self b x hb h1
    omega
 cases ha:r.1 with
 | some a =>
   refine ⟨a,rfl,ge a ((qR r a).mpr ⟨fun x e=>by rw [ha] at e; cases e; omega,fun y e=>m.ord.ok r List.mem_cons_self a y ha e⟩)⟩
 | none =>
   exfalso
   cases hy:r.2.1 with
   | none =>
     have:=ge (b - 1) ((qR r _).mpr ⟨(fun x e=>by rw [ha] at e; cases e),fun y e=>by rw [hy] at e; cases e⟩)
     omega
   | some y =>
     have:=ge (min (b - 1) (y - 1)) ((qR r _).mpr ⟨(fun x e=>by rw [ha] at e; cases e),fun y' e=>by rw [hy] at e; cases e; omega⟩)
     omega
theorem beh_le {r s:Rw} {t u:List Rw} (m:MapF (r::t)) (k:MapF (s::u)) (h:∀ p v,Tel (s::u) p v->Tel (r::t) p v) (hl:r.1=s.1) (hv:r.2.2=s.2.2):∀ x,r.2.1=some x->∃ y,s.2.1=some y/\y<=x:=by
 intro x hx
 obtain ⟨v,hv'⟩:∃ v,r.2.2=some v:=by
  cases hv:r.2.2 with
  | none=>exact (m.val r List.mem_cons_self hv).elim
  | some v=>exact ⟨v,rfl⟩
 have key:has3 s x=true->False:=by
  intro hs
  obtain ⟨z,hz,hzp,hzv⟩:=h x v ⟨s,List.mem_cons_self,hs,by rw [<- hv]; exact hv'⟩
  rcases List.mem_cons.mp hz with rfl | hz
  · have := ((qR _ x).mp hzp).2 x hx
    omega
  · cases t with
    | nil=>cases hz
    | cons r' t' =>
      obtain ⟨x',y,h1,h2,h3,h4⟩:=later m.ord hz hzp
      rw [hx] at h1
      cases h1
      have hz':z=r':=by
       rcases List.mem_cons.mp hz with rfl | hz
       · rfl
       · exfalso
         obtain ⟨x2,y2,k1,k2,k3,k4⟩:=later (wD m).ord hz hzp
         obtain ⟨x3,y3,j1,j2,j3⟩:=(List.pairwise_cons.mp m.ord.pw).1 r' List.mem_cons_self
         rw [hx] at j1
         cases j1
         have:=(wD m).ord.ok r' List.mem_cons_self y3 x2 j2 k1
         omega
      subst hz'
      have:y=x:=by omega
      subst this
      exact m.adj 0 r z rfl rfl ⟨by rw [hx,h2],by rw [hv',hzv]⟩
 have lowx:∀ a,s.1=some a->a<=x:=by
  intro a ha
  have:=m.ord.ok r List.mem_cons_self a x (by show r.1=some a; rw [hl,ha]) hx
  omega
 cases hy:s.2.1 with
 | none=>exact (key ((qR s x).mpr ⟨lowx,fun y e=>by rw [hy] at e; cases e⟩)).elim
 | some y =>
   refine ⟨y,rfl,?_⟩
   rcases Int.lt_or_le x y with hlt | hle
   · exact (key ((qR s x).mpr ⟨lowx,fun y' e=>by rw [hy] at e; cases e; exact hlt⟩)).elim
   · exact hle
theorem map_one:∀ {ps qs:List Rw},MapF ps->MapF qs->(∀ p v,Tel ps p v↔Tel qs p v)->ps=qs
 | [],[],_,_,_=>rfl
 | [], s :: u, _, k, h => by
   obtain ⟨p,hp⟩:=has_place s (k.ord.ok s List.mem_cons_self)
   cases hv:s.2.2 with
   | none=>exact (k.val s List.mem_cons_self hv).elim
   | some v =>
     obtain ⟨z,hz,_⟩:=(h p v).mpr ⟨s,List.mem_cons_self,hp,hv⟩
     cases hz
 | s :: u, [], k, _, h => by
   obtain ⟨p,hp⟩:=has_place s (k.ord.ok s List.mem_cons_self)
   cases hv:s.2.2 with
   | none=>exact (k.val s List.mem_cons_self hv).elim
   | some v =>
     obtain ⟨z,hz,_⟩:=(h p v).mp ⟨s,List.mem_cons_self,hp,hv⟩
     cases hz
 | r :: t, s :: u, m, k, h => by
   have l1:=low_le m k fun p v=>(h p v).mp
   have l2:=low_le k m fun p v=>(h p v).mpr
   have hl:r.1=s.1:=by
    cases h1:r.1 with
    | none =>
      cases h2:s.1 with
      | none=>rfl
      | some b=>obtain ⟨a,ha,_⟩:=l1 b h2; rw [h1] at ha; cases ha
    | some a =>
      obtain ⟨b,hb,hab⟩:=l2 a h1
      obtain ⟨a',ha',hba⟩:=l1 b hb
      rw [h1] at ha'
      cases ha'
      rw [hb]
      congr 1
      omega
   have hv:r.2.2=s.2.2:=by
    obtain ⟨p,hp1,hp2⟩:∃ p,has3 r p=true/\has3 s p=true:=by
     have okr:=m.ord.ok r List.mem_cons_self
     have oks:=k.ord.ok s List.mem_cons_self
     cases h1:r.1 with
     | some a =>
       have h2:s.1=some a:=by rw [<- hl,h1]
       exact ⟨a,(qR r a).mpr ⟨fun x e=>by rw [h1] at e; cases e; omega,fun y e=>okr a y h1 e⟩,(qR s a).mpr ⟨fun x e=>by rw [h2] at e; cases e; omega,fun y e=>oks a y h2 e⟩⟩
     | none =>
       have h2:s.1=none:=by rw [<- hl,h1]
       have lowp:∃ p:Int,(∀ y,r.2.1=some y->p < y)/\∀ y,s.2.1=some y->p < y:=by
        cases r.2.1 with
        | none =>
          cases s.2.1 with
          | none=>exact ⟨0,(fun _ e=>nomatch e),(fun _ e=>nomatch e)⟩
          | some y=>exact ⟨y - 1,(fun _ e=>nomatch e),fun z e=>by cases e; omega⟩
        | some x =>
          cases s.2.1 with
          | none=>exact ⟨x - 1,fun z e=>by cases e; omega,(fun _ e=>nomatch e)⟩
          | some y=>exact ⟨min x y - 1,fun z e=>by cases e; omega,fun z e=>by cases e; omega⟩
       obtain ⟨p,q1,q2⟩:=lowp
       exact ⟨p,(qR r p).mpr ⟨(fun x e=>by rw [h1] at e; cases e),q1⟩,(qR s p).mpr ⟨(fun x e=>by rw [h2] at e; cases e),q2⟩⟩
    cases hv:r.2.2 with
    | none=>exact (m.val r List.mem_cons_self hv).elim
    | some v =>
      obtain ⟨z,hz,hzp,hzv⟩:=(h p v).mp ⟨r,List.mem_cons_self,hp1,hv⟩
      rcases List.mem_cons.mp hz with rfl | hz
      · exact hzv.symm
      · exfalso
        obtain ⟨x,y,e1,e2,e3,e4⟩:=later k.ord hz hzp
        have:=((qR s p).mp hp2).2 x e1
        omega
   have b1:=beh_le m k (fun p v=>(h p v).mpr) hl hv
   have b2:=beh_le k m (fun p v=>(h p v).mp) hl.symm hv.symm
   have hb:r.2.1=s.2.1:=by
    cases h1:r.2.1 with
    | none =>
      cases h2:s.2.1 with
      | none=>rfl
      | some y=>obtain ⟨x,hx,_⟩:=b2 y h2; rw [h1] at hx; cases hx
    | some x =>
      obtain ⟨y,hy,hyx⟩:=b1 x h1
      obtain ⟨x',hx',hxy⟩:=b2 y hy
      rw [h1] at hx'
      cases hx'
      rw [hy]
      congr 1
      omega
   have hrs:r=s:=by
    obtain ⟨a,b,c⟩:=r
    obtain ⟨a',b',c'⟩:=s
    simp only at hl hb hv
    rw [hl,hb,hv]
   subst hrs
   have tl:∀ {t':List Rw},MapF (r::t')->∀ p v,Tel t' p v↔Tel (r::t') p v/\¬ has3 r p=true:=by
    intro t' m' p v
    constructor
    · rintro ⟨z, hz, hzp, hzv⟩
      refine ⟨⟨z,List.mem_cons_of_mem _ hz,hzp,hzv⟩,fun hr=>?_⟩
      obtain ⟨x,y,e1,e2,e3,e4⟩:=later m'.ord hz hzp
      have:=((qR r p).mp hr).2 x e1
      omega
    · rintro ⟨⟨z, hz, hzp, hzv⟩, hr⟩
      rcases List.mem_cons.mp hz with rfl | hz
      · exact (hr hzp).elim
      · exact ⟨z,hz,hzp,hzv⟩
   rw [map_one (wD m) (wD k) fun p v=>by rw [tl m,tl k,h]]
theorem put_eq {ps:List Rw} (m:MapF ps) (hl:ps.length<=100000) {s:Spn} {v:Option Int} (h:okS s):GP.put.f [.lst (ps.map rwD),spD s,oi v]=some (.fresh ((put1 ps (s,v)).map rwD)):=by
 obtain ⟨e1,e2⟩:=put1_eq m hl (v:=v) h
 have fl:=yQ (put1 ps (s,v))
 unfold GP.put.f runG GP.put.g
 generalize (overF ps s v).map rwD=A at *
 generalize (put1 ps (s,v)).map rwD=B at *
 simp [args,e1,e2,fl]
open Builtin.Int (intBits)
structure DrawM (rows:List Rw) (s:Int):Prop where
 map:MapF rows
 fin:∀ r∈rows,∃ lo bh,r.1=some lo/\r.2.1=some bh/\bh<=s
 last:∀ r,rows.getLast? = some r->r.2.1=some s
theorem DrawM.nil (s:Int):DrawM [] s:=⟨MapF.nil,(fun _ h=>nomatch h),fun r h=>by simp at h⟩
theorem yR {ga:D->List Sl->Option (List Sl)} {body:FS} (P:Nat->List Sl->Prop) (N:Nat) (H:∀ k,k < N->∀ ds,P k ds->∃ ds1 ds2,ga (.int (k:Int)) ds=some ds1/\body ds1=some (.nx ds2)/\P (k+1) ds2) :
  ∀ n k ds,k+n=N->P k ds->∃ ds',jM ga body ((List.range' k n).map fun (j:Nat)=>D.int (0+(j:Int))) ds=some (.nx ds')/\P N ds'
 | 0, k, ds, h, hp => ⟨ds, rfl, by have : k = N := by omega
                                   subst this; exact hp⟩
 | n + 1, k, ds, h, hp => by
   obtain ⟨ds1,ds2,e1,e2,h2⟩:=H k (by omega) ds hp
   obtain ⟨ds',e,h'⟩:=yR P N H n (k+1) ds2 (by omega) h2
   refine ⟨ds',?_,h'⟩
   rw [List.range'_succ,List.map_cons,jM]
   have:(0+(k:Int))=(k:Int):=by omega
   rw [this,e1,Option.bind_some,e2,Option.bind_some]
   exact e
theorem rangeD_range' (n:Nat):rangeD 0 n=(List.range' 0 n).map fun (j:Nat)=>D.int (0+(j:Int)):=by rw [rangeD,List.range_eq_range']
@[simp] theorem notD_rw (r:Rw):notD (rwD r) .non=some (.bl true):=rfl
end FL
namespace FL
open PySem PySem.Spec PyProof.Rows L2
end FL
namespace FL
open PySem PyProof.Rows L2 NumText
theorem kitS:kitF "str" "str" = some true/\kitF "int" "str" = some false/\kitF "NoneType" "str" = some false/\kitF "tuple" "str" = some false/\kitF "list" "str" = some false/\kitF "str" "tuple" = some false/\kitF "str" "bool" = some false:=by
 refine ⟨?_,?_,?_,?_,?_,?_,?_⟩ <;> decide +kernel
@[simp] theorem isi_str_str (x:Str):isiD "str" (.str x)=some (.bl true):=by simp [isiD,tyD,kitS.1]
@[simp] theorem isi_str_int (i:Int):isiD "str" (.int i)=some (.bl false):=by simp [isiD,tyD,kitS.2.1]
@[simp] theorem isi_str_non:isiD "str" .non=some (.bl false):=by simp [isiD,tyD,kitS.2.2.1]
@[simp] theorem isi_str_lst (l:List D):isiD "str" (.lst l)=some (.bl false):=by simp [isiD,tyD,kitS.2.2.2.2.1]
theorem t_empty:Str.ofString "" = txS []:=by decide
end FL
namespace FL
open PySem PySem.Spec PyProof.Rows L2
def Ltr (cs:List Nat):Prop:=∀ c∈cs,97<=c/\c<=122
def Nm (cs:List Nat):Prop:=1<=cs.length/\cs.length<=8/\Ltr cs
noncomputable def abcL:List Nat:=[97,98,99,100,101,102,103,104,105,106,107,108,109,110,111,112,113,114,115,116,117,118,119,120,121,122]
theorem t_abc:Str.ofString "abcdefghijklmnopqrstuvwxyz" = txS abcL:=by decide
theorem mem_abc {c:Nat} (h:97<=c/\c<=122):c∈abcL:=by
 have:abcL=List.range' 97 26:=by decide
 rw [this,List.mem_range'_1]
 omega
theorem Ltr.asc {cs:List Nat} (h:Ltr cs):Asc cs:=fun c hc=>by have:=h c hc; omega
theorem Ltr.take {a:List Nat} (h:Ltr a) (n:Nat):Ltr (a.take n):=fun c hc=>h c (List.mem_of_mem_take hc)
theorem Ltr.drop {a:List Nat} (h:Ltr a) (n:Nat):Ltr (a.drop n):=fun c hc=>h c (List.mem_of_mem_drop hc)
theorem is_name_eq {cs:List Nat} (h:Nm cs):GP.is_name.f [.str (txS cs)]=some (.val (.bl true)):=by
 obtain ⟨h1,h8,hL⟩:=h
 have lf:=len_tx cs (by omega)
 have comp:compG (viaA (qF 0) asS) [none] (qA 0) (fun _=>some true) (zJ inS (zI 0) (zA (.str (Str.ofString "abcdefghijklmnopqrstuvwxyz")))) [.v (.str (txS cs))]=some (cs.map fun _=>D.bl true):=by
  rw [t_abc]
  refine yS (items:=cs.map fun c=>D.str (txS [c])) (by simp; rfl) (by simp; omega) ?_
  rw [yM (fun c=>D.str (txS [c])) (fun c=>D.bl true) cs]
  intro c hc
  have:=in_one abcL c
  rw [decide_eq_true (mem_abc (hL c hc))] at this
  exact ⟨_,rfl,by simp [qY,this]⟩
 have al:allD [.lst (cs.map fun _=>D.bl true)]=some (.bl true):=by
  have e:(cs.map fun _=>D.bl true)=(cs.map fun _=>true).map D.bl:=by simp
  rw [e,wM]
  simp
 refine jL ?_
 unfold GP.is_name.g
 have ar:args 1 [.str (txS cs)]=[.v (.str (txS cs))]:=by simp [args]
 have k1 : ¬ ((cs.length:Int) < 1):=by omega
 have k2 : ¬ ((8:Int) < (cs.length:Int)):=by omega
 rw [ar,zQ (ds':=[.v (.str (txS cs))]) (by simp),zQ (ds':=[.v (.str (txS cs))]) (by simp [lf,k1,k2])]
 simp only [retG_eq,callB_eq,consA_eq,nilA_eq,mkL_eq,comp,Option.map_some,Option.bind_some,al,flatR]
 simp
end FL
section
open PySem PyProof.Rows L2 FL
end
namespace FL
open PySem PySem.Spec PyProof.Rows L2
open Builtin.Int (intBits)
@[simp] theorem sltW_eq (f:FE) (lo hi:List Sl->Option (Option Int)) (ds:List Sl):sltW f lo hi ds=(f ds).bind fun d=>(lo ds).bind fun a=>(hi ds).bind fun b=>match d with
 | .tup l=>some (.tup (cutD l a b))
 | _=>none:=rfl
theorem opt_ext {a b:Option Int} (h:∀ w,a=some w↔b=some w):a=b:=by
 cases a with
 | none =>
   cases b with
   | none=>rfl
   | some w=>exact ((h w).mpr rfl)
 | some v=>exact ((h v).mp rfl).symm
theorem put1_val {ps:List Rw} (m:MapF ps) {r:Rv} (h:okS r.1) (p:Int):valL (put1 ps r) p=if hasS r.1 p=true then r.2 else valL ps p:=by
 refine opt_ext fun w=>?_
 rw [yF (put1_map m h).ord,put1_tel m h]
 split
 · exact Iff.rfl
 · rw [yF m.ord]
end FL
namespace FL
open PySem PyProof.Rows L2
open Builtin.Int (intBits)
noncomputable def oT (es:List Int):OT:=.lst ((es.map D.int).map OT.val)
end FL
namespace FL
open PySem PySem.Spec PyProof.Rows L2
open Builtin.Int (intBits)
end FL
namespace FL
open PySem PySem.Spec PyProof.Rows L2
noncomputable def putDs (k:Key) (d:D):List Key->List D->List D
 | k'::ks,x::xs=>(if k'=k then d else x)::putDs k d ks xs
 | _,xs=>xs
theorem hasK_no {k:Key} : ∀ {ks:List Key},k ∉ ks->hasK k ks=false
 | [],_=>rfl
 | k' :: ks, h => by
   have h1:k'≠k:=fun z=>h (by rw [z]; exact .head _)
   have:=hasK_no (k:=k) (ks:=ks) fun z=>h (.tail _ z)
   unfold hasK at this ⊢
   simp [h1,this]
theorem hasK_yes {k:Key} {ks:List Key} (h:k∈ks):hasK k ks=true:=by
 unfold hasK
 rw [List.any_eq_true]
 exact ⟨k,h,by simp⟩
open Builtin.Int (intBits)
end FL
namespace FL
open PySem PySem.Spec PyProof.Rows L2
abbrev Mks:=List (List Nat×Option Int)
noncomputable def mkN (mk:Mks):List Str:=mk.map fun p=>txS p.1
noncomputable def mkV (mk:Mks):List D:=mk.map fun p=>oi p.2
noncomputable def mkD (mk:Mks):D:=.dcf ((mkN mk).map Sum.inr) (mkV mk)
noncomputable def stM (ps:List Rw) (mk:Mks):OT:=.val (.tup [.lst (ps.map rwD),mkD mk])
noncomputable def putM (n:List Nat) (v:Option Int) (mk:Mks):Mks:=if n∈mk.map (·.1) then mk.map fun p=>if p.1=n then (p.1,v) else p else mk++[(n,v)]
structure MkOk (mk:Mks):Prop where
 nd:(mk.map (·.1)).Nodup
 nm:∀ p∈mk,Nm p.1
theorem MkOk.nil:MkOk []:=⟨List.nodup_nil,fun _ h=>nomatch h⟩
theorem MkOk.put {mk:Mks} (h:MkOk mk) {n:List Nat} (hn:Nm n) (v:Option Int):MkOk (putM n v mk):=by
 unfold putM
 split
 · have e:(mk.map fun p=>if p.1=n then (p.1,v) else p).map (·.1)=mk.map (·.1):=by
    rw [List.map_map]
    refine List.map_congr_left fun p _=>?_
    simp only [Function.comp]
    split <;> rfl
   refine ⟨by rw [e]; exact h.nd,fun p hp=>?_⟩
   have:p.1∈(mk.map fun p=>if p.1=n then (p.1,v) else p).map (·.1):=List.mem_map_of_mem hp
   rw [e] at this
   obtain ⟨q,hq,e⟩:=List.mem_map.mp this
   rw [<- e]
   exact h.nm q hq
 · rename_i hne
   refine ⟨?_,fun p hp=>?_⟩
   · rw [List.map_append, List.nodup_append]
     refine ⟨h.nd,by simp,fun a ha b hb=>?_⟩
     have:b=n:=by simpa using hb
     subst this
     exact fun z=>hne (z ▸ ha)
   · rcases List.mem_append.mp hp with hp | hp
     · exact h.nm p hp
     · rw [List.mem_singleton.mp hp]; exact hn
theorem strs_shal {l:List Str} (h:∀ x∈l,PyData.strOk x=true):shals 40 (l.map D.str)=true:=by
 induction l with
 | nil=>simp [shals]
 | cons a r ih =>
   simp only [List.map_cons,shals,Bool.and_eq_true]
   exact ⟨by simp [shal,h a (.head _)],ih fun x hx=>h x (.tail _ hx)⟩
theorem strs_eqv (l:List Str):eqvD (.lst (l.map D.str)) (.lst (l.map D.str))=true:=by
 rw [eqvD_lst]
 induction l with
 | nil=>rfl
 | cons a r ih =>
   have:eqvD (.str a) (.str a)=true:=by simp [eqvD,toPy,PyData.eqv]
   rw [List.map_cons,wT,this,ih]; rfl
theorem eqD_strs {l:List Str} (h:∀ x∈l,PyData.strOk x=true):eqD (.lst (l.map D.str)) (.lst (l.map D.str))=some (.bl true):=by
 have hs:shal 40 (.lst (l.map D.str))=true:=by simpa using strs_shal h
 rw [eqD_ok hs hs,strs_eqv]
end FL
namespace FL
open PySem PyProof.Rows L2
open Builtin.Int (intBits)
abbrev Bs:=List (Str×List Rw)
noncomputable def bkN (b:Bs):List Key:=b.map fun q=>.inr q.1
noncomputable def bkV (b:Bs):List D:=b.map fun q=>.lst (q.2.map rwD)
def BT (T:OT) (b:Bs):Prop:=∃ ts,T = .ins 12 [.dct (bkN b) ts]/\otDs ts=bkV b
def NmS (x:Str):Prop:=∃ cs,Nm cs/\x=txS cs
structure BOk (b:Bs) (m:Nat):Prop where
 nd:(b.map (·.1)).Nodup
 nm:∀ q∈b,NmS q.1
 mp:∀ q∈b,MapF q.2
 ln:∀ q∈b,q.2.length<=m
theorem isName {x:Str} (h:NmS x):GP.is_name.f [.str x]=some (.val (.bl true)):=by
 obtain ⟨cs,h,rfl⟩:=h
 exact is_name_eq h
theorem jS:∀ l:List Str,strsD (l.map D.str)=some l
 | []=>rfl
 | x::r=>by simp [strsD,jS r]
theorem check_eq {ns:List Str} (h1:1<=ns.length) (h60:ns.length<=60) (hn:∀ x∈ns,NmS x) (nd:ns.Nodup):GP.check_names.f [.lst (ns.map D.str)]=some (.val .non):=by
 have k1 : ¬ ((ns.length:Int) < 1):=by omega
 have k2 : ¬ ((60:Int) < (ns.length:Int)):=by omega
 have comp:compG (viaA (qF 0) asLT) [none] (qA 0) (fun _=>some true) (qQ 1 GP.is_name.f (zB (zI 0) zR)) [.v (.lst (ns.map D.str))]=some (ns.map fun _=>D.bl true):=by
  refine yS (items:=ns.map D.str) (by simp) (by simp; omega) ?_
  rw [yM D.str (fun _=>D.bl true) ns]
  intro x hx
  exact ⟨_,rfl,by simp [qY,isName (hn x hx)]⟩
 have al:allD [.lst (ns.map fun _=>D.bl true)]=some (.bl true):=by
  have e:(ns.map fun _=>D.bl true)=(ns.map fun _=>true).map D.bl:=by simp
  rw [e,wM]
  simp
 have ls:lsetE (zI 0) [.v (.lst (ns.map D.str))]=some (.int (ns.length:Nat)):=by
  have z:ns.length < 1000:=by omega
  have c:=cntT_nodup ns.reverse (List.pairwise_reverse.mpr (nd.imp fun h=>Ne.symm h))
  rw [List.length_reverse] at c
  unfold lsetE
  simp [jS,z,c]
 have ar:args 1 [.lst (ns.map D.str)]=[.v (.lst (ns.map D.str))]:=by simp [args]
 unfold GP.check_names.f runG GP.check_names.g
 generalize hc:compG (viaA (qF 0) asLT) [none] (qA 0) (fun _=>some true) (qQ 1 GP.is_name.f (zB (zI 0) zR))=C at *
 generalize hL:lsetE (zI 0)=L at *
 rw [ar,zQ (ds':=[.v (.lst (ns.map D.str))]) (by simp [k1,k2]),zQ (ds':=[.v (.lst (ns.map D.str))]) (by simp [comp,al])]
 simp [ls]
theorem keyInr {k:Str} {l:List Str} (h:k ∉ l):hasK (.inr k) (l.map Sum.inr)=false:=hasK_no fun z=>by
 obtain ⟨x,hx,e⟩:=List.mem_map.mp z
 cases e
 exact h hx
theorem init_loop (N:Sl):∀ (rest done:List Str) (x:Sl),(done++rest).Nodup->done.length+rest.length<=1000->∃ x',jM (qA 2) GP.Bundle___init__.b1 (rest.map D.str) [.ob (some 0) (.ins 12 [.dct (done.map Sum.inr) (done.map fun _=>.lst [])]),N,x]=some (.nx [.ob (some 0) (.ins 12 [.dct ((done++rest).map Sum.inr) ((done++rest).map fun _=>.lst [])]),N,x'])
 | [],done,x,_,_=>⟨x,by simp [jM]⟩
 | k :: rest, done, x, nd, hl => by
   simp only [List.length_cons] at hl
   have nd':(done++[k]++rest).Nodup:=by simpa using nd
   obtain ⟨x',e⟩:=init_loop N rest (done++[k]) (.v (.str k)) nd' (by simp; omega)
   refine ⟨x',?_⟩
   have hk:hasK (.inr k) (done.map Sum.inr)=false:=keyInr fun z=>by
    have:=(List.nodup_append.mp nd).2.2 k z k (.head _)
    exact this rfl
   have z:done.length < 16777216:=by omega
   have z0:(0:Nat)<=sizeLine:=Nat.zero_le _
   have turn:GP.Bundle___init__.b1 [.ob (some 0) (.ins 12 [.dct (done.map Sum.inr) (done.map fun _=>.lst [])]),N,.v (.str k)]=some (.nx [.ob (some 0) (.ins 12 [.dct ((done++[k]).map Sum.inr) ((done++[k]).map fun _=>.lst [])]),N,.v (.str k)]):=by
    simp [GP.Bundle___init__.b1,dputN,sO,nilO,atP,varP,List.lookup,keyD,hk,z,z0,putP,putO,List.modify]
   simp only [List.map_cons,jM,qA,Option.bind_some,List.set_cons_succ,List.set_cons_zero,turn]
   rw [show done++k::rest=done++[k]++rest by simp]
   exact e
theorem binit_eq {ns:List Str} (h1:1<=ns.length) (h60:ns.length<=60) (hn:∀ x∈ns,NmS x) (nd:ns.Nodup):GP.Bundle___init__.f (.ins 24 []) [.lst (ns.map D.str)]=some (.ins 12 [.dct ((srtT ns).map Sum.inr) ((srtT ns).map fun _=>.lst [])]):=by
 have hp:=srtT_perm ns
 have ck:=check_eq h1 h60 hn nd
 obtain ⟨x',e⟩:=init_loop (.v (.lst (ns.map D.str))) (srtT ns) [] .no (by rw [List.nil_append]; exact hp.nodup_iff.mpr nd) (by rw [hp.length_eq]; simp; omega)
 have st:srtTA (zI 1) [.ob (some 0) (.ins 12 [.dct [] []]),.v (.lst (ns.map D.str)),.no]=some ((srtT ns).map D.str):=by
  have z:ns.length < 64:=by omega
  unfold srtTA
  simp [jS,z]
 have e0:∀ T l,GP.Bundle___init__.f T l=match GP.Bundle___init__.g (argsL 3 T l) with | some (.nx ds)=>ob0 ds[0]? | _=>none:=fun _ _=>rfl
 rw [e0]
 unfold GP.Bundle___init__.g
 have ar:argsL 3 (.ins 24 []) [.lst (ns.map D.str)]=[.ob (some 0) (.ins 24 []),.v (.lst (ns.map D.str)),.no]:=by simp [argsL,args]
 rw [ar,zQ (ds':=[.ob (some 0) (.ins 24 []),.v (.lst (ns.map D.str)),.no]) (by simp [dropG,ck]),zQ (ds':=[.ob (some 0) (.ins 12 [.dct [] []]),.v (.lst (ns.map D.str)),.no]) (by simp [setNw,varP,dO0,putP,putO])]
 simp only [List.map_nil,List.nil_append] at e
 have e1:forG (viaA (mkL (srtTA (zI 1))) asLT) (qA 2) GP.Bundle___init__.b1 [.ob (some 0) (.ins 12 [.dct [] []]),.v (.lst (ns.map D.str)),.no]=some (.nx [.ob (some 0) (.ins 12 [.dct ((srtT ns).map Sum.inr) ((srtT ns).map fun _=>.lst [])]),.v (.lst (ns.map D.str)),x']):=by
  rw [xQ]
  simp [st,e]
 rw [e1]
 rfl
theorem bt_new (l:List Str):BT (.ins 12 [.dct (l.map Sum.inr) (l.map fun _=>.lst [])]) (l.map fun x=>(x,[])):=by
 refine ⟨l.map fun _=>.lst [],by simp [bkN],?_⟩
 induction l with
 | nil=>simp [otDs,bkV]
 | cons x r ih=>simp only [List.map_cons,otDs,otD,ih,bkV]; rfl
theorem getKD_b {x:Str} {ps:List Rw} : ∀ {b:Bs},(b.map (·.1)).Nodup->(x,ps)∈b->getKD (.inr x) (bkN b) (bkV b)=some (.lst (ps.map rwD))
 | [],_,h=>nomatch h
 | q :: b, nd, h => by
   rw [List.map_cons,List.nodup_cons] at nd
   simp only [bkN,bkV,List.map_cons,getKD]
   rcases List.mem_cons.mp h with e | h
   · rw [<- e]; simp
   · have ne : q.1 ≠ x := fun z => nd.1 (z ▸ List.mem_map.mpr ⟨(x, ps), h, rfl⟩)
     rw [if_neg (fun z=>ne (by cases z; rfl))]
     exact getKD_b nd.2 h
theorem hasK_b {x:Str} {ps:List Rw} {b:Bs} (h:(x,ps)∈b):hasK (.inr x) (bkN b)=true:=hasK_yes (List.mem_map.mpr ⟨(x,ps),h,rfl⟩)
theorem only_eq {b:Bs} {m:Nat} (ok:BOk b m) {x:Str} {ps:List Rw} (h:(x,ps)∈b) {M:D} (hM:kdD M=some (bkN b,bkV b)):GP.Bundle_only.f [.ins 12 [M],.str x]=some (.fresh (ps.map rwD)):=by
 have nm:=isName (ok.nm _ h)
 have g:=getKD_b ok.nd h
 have hk:=hasK_b h
 have fl:=yQ ps
 unfold GP.Bundle_only.f runG GP.Bundle_only.g
 have ar:args 2 [.ins 12 [M],.str x]=[.v (.ins 12 [M]),.v (.str x)]:=by simp [args]
 have f1:∀ ds:List Sl,ds[0]? = some (.v (.ins 12 [M]))->fldG [(12,0)] (qF 0) ds=some M:=fun ds hd=>by simp [fldG,qF,hd,fldD,List.lookup]
 rw [ar,zQ (ds':=[.v (.ins 12 [M]),.v (.str x)]) (by simp [nm,dnotG,dinG,f1,keyD,hM,hk])]
 simp [lisA,dgetG,f1,keyD,hM,g,asLT,fl]
noncomputable def updB (x:Str) (f:List Rw->List Rw) (b:Bs):Bs:=b.map fun q=>if q.1=x then (q.1,f q.2) else q
theorem bkN_upd (x:Str) (f:List Rw->List Rw) (b:Bs):bkN (updB x f b)=bkN b:=by
 unfold bkN updB
 rw [List.map_map]
 refine List.map_congr_left fun q _=>?_
 simp only [Function.comp_apply]
 split <;> rfl
theorem otDs_putTs (k:Key) (d:D):∀ (ks:List Key) (ts:List OT),otDs (putTs k (.val d) ks ts)=putDs k d ks (otDs ts)
 | [],ts=>by cases ts <;> simp [putTs,putDs]
 | _::_,[]=>by simp [putTs,putDs,otDs]
 | k' :: ks, t :: ts => by
   simp only [putTs,putDs,otDs,otDs_putTs k d ks ts]
   split <;> simp [otD]
theorem putDs_b {x:Str} {ps:List Rw} (f:List Rw->List Rw):∀ {b:Bs},(b.map (·.1)).Nodup->(x,ps)∈b->putDs (.inr x) (.lst ((f ps).map rwD)) (bkN b) (bkV b)=bkV (updB x f b)
 | [],_,h=>nomatch h
 | q :: b, nd, h => by
   rw [List.map_cons,List.nodup_cons] at nd
   have key:∀ {b:Bs},x ∉ b.map (·.1)->putDs (.inr x) (.lst ((f ps).map rwD)) (bkN b) (bkV b)=bkV (updB x f b):=by
    intro b
    induction b with
    | nil=>intro _; rfl
    | cons r b ih =>
      intro hx
      simp only [List.map_cons,List.mem_cons,not_or] at hx
      simp only [bkN,bkV,updB,List.map_cons,putDs]
      rw [if_neg (fun z=>hx.1 (by cases z; rfl)),if_neg (fun z=>hx.1 z.symm)]
      congr 1
      exact ih hx.2
   rcases List.mem_cons.mp h with e | h
   · subst e
     have:=key nd.1
     simp only [bkN,bkV,updB,List.map_cons,putDs,if_true]
     congr 1
   · have ne : q.1 ≠ x := fun z => nd.1 (z ▸ List.mem_map.mpr ⟨(x, ps), h, rfl⟩)
     have:=putDs_b f nd.2 h
     simp only [bkN,bkV,updB,List.map_cons,putDs]
     rw [if_neg (fun z=>ne (by cases z; rfl)),if_neg ne]
     congr 1
theorem put_b {b:Bs} {m:Nat} (ok:BOk b m) (hm:m<=1000) (hb:b.length<=1000) {T:OT} (hT:BT T b) {x:Str} {ps:List Rw} (h:(x,ps)∈b) {s:Spn} (hs:okS s) (v:Option Int) :
  ∃ T',BT T' (updB x (fun ps=>put1 ps (s,v)) b)/\dputG (atP [(12,0)] (varP 0)) (qF 1) (ofO (relGO 0 (lO (vI 3 GP.put.f (zB (methV 1 [12] GP.M_only_cc8d83 (qF 0) (zB (zI 1) zR)) (zB (zI 2) (zB (zA (oi v)) zR))))))) [.ob (some 0) T,.v (.str x),.v (spD s)]=some (.nx [.ob (some 0) T',.v (.str x),.v (spD s)]):=by
 obtain ⟨ts,rfl,ht⟩:=hT
 have hp:=put_eq (ok.mp _ h) (Nat.le_trans (ok.ln _ h) (by omega)) (v:=v) hs
 have on:=only_eq ok h (M:=.dct (bkN b) (bkV b)) rfl
 have hk:=hasK_b h
 have pd:=putDs_b (fun ps=>put1 ps (s,v)) ok.nd h
 have fl:=yQ (put1 ps (s,v))
 have z:(bkN b).length < 16777216:=by simp [bkN]; omega
 have oe:otD (.ins 12 [.dct (bkN b) ts]) = .ins 12 [.dct (bkN b) (bkV b)]:=by simp [otD,otDs,ht]
 have e1:(ofO (relGO 0 (lO (vI 3 GP.put.f (zB (methV 1 [12] GP.M_only_cc8d83 (qF 0) (zB (zI 1) zR)) (zB (zI 2) (zB (zA (oi v)) zR))))))) [.ob (some 0) (.ins 12 [.dct (bkN b) ts]),.v (.str x),.v (spD s)]=some (.lst ((put1 ps (s,v)).map rwD)):=by
  generalize hq:(put1 ps (s,v)).map rwD=q at *
  have on':GP.M_only_cc8d83 12 [.ins 12 [.dct (bkN b) (bkV b)],.str x]=some (.fresh (ps.map rwD)):=on
  unfold ofO relGO relO
  simp only [List.getElem?_cons_zero,oe,List.set_cons_zero]
  simp [methV,methR,on',hp,flatO,xB,fl,otD,vD]
 refine ⟨.ins 12 [.dct (bkN b) (putTs (.inr x) (.val (.lst ((put1 ps (s,v)).map rwD))) (bkN b) ts)],⟨_,by rw [bkN_upd],by rw [otDs_putTs,ht,pd]⟩,?_⟩
 unfold dputG
 rw [e1]
 simp [atP,varP,List.lookup,keyD,z,putP,putO,putKT,hk,List.modify]
theorem lay_eq {b:Bs} {m:Nat} (ok:BOk b m) (hm:m<=1000) (hb:b.length<=1000) {T:OT} (hT:BT T b) {x:Str} {ps:List Rw} (h:(x,ps)∈b) {s:Spn} (hs:okS s):∃ T',BT T' (updB x (fun ps=>put1 ps (s,some 1)) b)/\GP.Bundle_lay.f T [.str x,spD s]=some T':=by
 obtain ⟨T',h1,h2⟩:=put_b ok hm hb hT h hs (some 1)
 refine ⟨T',h1,?_⟩
 have e0:∀ T l,GP.Bundle_lay.f T l=match GP.Bundle_lay.g (argsL 3 T l) with | some (.nx ds)=>ob0 ds[0]? | _=>none:=fun _ _=>rfl
 have ar:argsL 3 T [.str x,spD s]=[.ob (some 0) T,.v (.str x),.v (spD s)]:=by simp [argsL,args]
 rw [e0,ar]
 unfold GP.Bundle_lay.g
 rw [show (D.int 1)=oi (some 1) from rfl,h2]
 rfl
noncomputable def hereB (b:Bs) (p:Int):List Str:=(b.filter fun q=>(valL q.2 p).isSome).map (·.1)
theorem xC {b:Bs} {m:Nat} (ok:BOk b m) (hb:b.length<=1000) (p:Int):GP.M_names_at_db16e3 12 [.ins 12 [.dcf (bkN b) (bkV b)],.int p]=some (.fresh ((hereB b p).map D.str)):=by
 show GP.Bundle_names_at.f _=_
 have fl:flats ((hereB b p).map D.str)=true:=by
  generalize hereB b p=l
  induction l with
  | nil=>simp
  | cons a r ih=>simp [ih,flat]
 have ar:args 2 [.ins 12 [.dcf (bkN b) (bkV b)],.int p]=[.v (.ins 12 [.dcf (bkN b) (bkV b)]),.v (.int p)]:=by simp [args]
 have comp:compG (keysA (fldG [(12,0)] (qF 0))) [none,some 1,some 0] (qA 0) (zP (zJ notD (qQ 2 GP.value_at.f (zB (dgetG (fldG [(12,0)] (qF 2)) (qF 0)) (zB (zI 1) zR))) (zA .non))) (qF 0) [.v (.ins 12 [.dcf (bkN b) (bkV b)]),.v (.int p)]=some ((hereB b p).map D.str):=by
  refine yS (items:=b.map fun q=>D.str q.1) (by simp [keysA,fldG,fldD,List.lookup,bkN,keyDD]) (by simp; omega) ?_
  rw [compL_filt (fun q:Str×List Rw=>D.str q.1) (fun q=>(valL q.2 p).isSome) (fun q=>D.str q.1)]
  · simp [hereB]
  · intro q hq
    have g:=getKD_b ok.nd (x:=q.1) (ps:=q.2) hq
    have va:=value_at_eq (ok.mp q hq).ord p
    refine ⟨_,rfl,?_,fun _=>by simp [qY]⟩
    simp only [qY]
    cases hv:valL q.2 p with
    | none=>rw [hv] at va; simp [dgetG,fldG,fldD,List.lookup,keyD,kdD,g,va,notD]
    | some v=>rw [hv] at va; simp [dgetG,fldG,fldD,List.lookup,keyD,kdD,g,va,notD]
 refine jL ?_
 rw [ar]
 unfold GP.Bundle_names_at.g retOG
 rw [comp]
 simp [flatF,fl]
theorem join_no:∀ ps:List (List Nat),Str.join (txS []) (ps.map txS)=txS ps.flatten
 | []=>rfl
 | [p]=>by simp [Str.join]
 | p :: q :: r => by
   have ih:=join_no (q::r)
   show txS p++txS []++Str.join (txS []) ((q::r).map txS)=_
   rw [ih,txS_app,txS_app]
   simp
theorem join_ltrs (cs:List Nat) (hl:cs.length<=1000):joinD (.str (Str.ofString "")) (.lst (cs.map fun c=>.str (txS [c])))=some (.str (txS cs)):=by
 have st:strsD (cs.map fun c=>D.str (txS [c]))=some (cs.map fun c=>txS [c]):=by
  have:=jS (cs.map fun c=>txS [c])
  rwa [List.map_map] at this
 have sm:((cs.map fun c=>txS [c]).map (·.length)).sum=cs.length:=by
  clear hl st
  induction cs with
  | nil=>rfl
  | cons c r ih=>simp only [List.map_cons,List.sum_cons,ih,jT,List.length_cons,List.length_nil]; omega
 unfold joinD
 simp only [st,Option.bind_some]
 rw [if_pos ⟨by decide,by rw [sm,List.length_map]; omega⟩]
 have:Txt.join (Str.ofString "") (cs.map fun c=>txS [c])=Str.join (txS []) ((cs.map fun c=>[c]).map txS):=by
  show Builtin.Str.glued _ _=_
  rw [StrLaws.glued_eq_join,t_empty,List.map_map]
  rfl
 rw [this,join_no]
 congr 3
 clear hl st sm this
 induction cs with
 | nil=>rfl
 | cons c r ih=>simp [ih]
noncomputable def stepN (d core r:Int):Int:=if r=0 then core else if r=1 then core / d else 0
theorem step_at (d core r:Int) (h:0<=r):ixD (.lst [.int core,.int (core / d),.int 0]) (.int (if 2 < r then 2 else r))=some (.int (stepN d core r)):=by
 unfold stepN
 rcases (by omega:r=0 \/ r=1 \/ r=2 \/ 2 < r) with e | e | e | e
 · subst e; rfl
 · subst e; rfl
 · subst e; rfl
 · rw [if_pos e,if_neg (by omega),if_neg (by omega)]; rfl
theorem pos_of (e:Int) {size:Nat} (h:0 < size) (r:Nat) (hr:r < size):∃ j,j < size/\((j:Int)+e) % (size:Int)=r:=by
 refine ⟨(((r:Int) - e) % (size:Int)).toNat,?_,?_⟩
 · have := Int.emod_lt_of_pos ((r : Int) - e) (show 0 < (size : Int) by omega)
   have:=Int.emod_nonneg ((r:Int) - e) (show (size:Int)≠0 by omega)
   omega
 · have := Int.emod_nonneg ((r : Int) - e) (show (size : Int) ≠ 0 by omega)
   rw [Int.toNat_of_nonneg this,Int.emod_add_emod,show (r:Int) - e+e=r by omega]
   exact Int.emod_eq_of_lt (by omega) (by omega)
theorem nmS_ok {x:Str} (h:NmS x):PyData.strOk x=true:=by
 obtain ⟨cs,h,rfl⟩:=h
 simpa [shal] using shal_tx h.2.2.asc 40
end FL
namespace FL
open PySem PySem.Spec PyProof.Rows L2
open Builtin.Int (intBits)
section
variable (W:Option Int->Option Int->Option Int) {ps qs:List Rw}
end
end FL
namespace FL
open PySem PyProof.Rows L2
open Builtin.Int (intBits)
abbrev Dvs:=List (Str×Rv)
noncomputable def mstep (y:Str) (ps:List Rw) (d:Str×Rv):List Rw:=if d.1=y then put1 ps d.2 else ps
noncomputable def mapOf (ds:Dvs) (y:Str):List Rw:=ds.foldl (mstep y) []
noncomputable def vstep (y:Str) (p:Int) (b:Option Int) (d:Str×Rv):Option Int:=if d.1=y/\hasS d.2.1 p=true then d.2.2 else b
noncomputable def vF (ds:Dvs) (y:Str) (p:Int):Option Int:=ds.foldl (vstep y p) none
theorem kM (y:Str):∀ (ds:Dvs) (m:List Rw),MapF m->(∀ d∈ds,okS d.2.1)->MapF (ds.foldl (mstep y) m)/\(ds.foldl (mstep y) m).length<=m.length+2 * ds.length/\∀ p,valL (ds.foldl (mstep y) m) p=ds.foldl (vstep y p) (valL m p)
 | [],m,hm,_=>⟨hm,by simp,fun p=>rfl⟩
 | d :: ds, m, hm, ho => by
   have h1:MapF (mstep y m d)/\(mstep y m d).length<=m.length+2/\∀ p,valL (mstep y m d) p=vstep y p (valL m p) d:=by
    have hd:=ho d (.head _)
    unfold mstep vstep
    by_cases h:d.1=y
    · rw [if_pos h]
      refine ⟨put1_map hm hd,put1_len hm hd,fun p=>?_⟩
      rw [put1_val hm hd]
      simp [h]
    · rw [if_neg h]
      exact ⟨hm,by omega,fun p=>by rw [if_neg (fun z=>h z.1)]⟩
   obtain ⟨a,b,c⟩:=kM y ds (mstep y m d) h1.1 fun e he=>ho e (.tail _ he)
   rw [List.foldl_cons,List.length_cons]
   refine ⟨a,by omega,fun p=>?_⟩
   rw [c p,h1.2.2 p,List.foldl_cons]
theorem mapOf_map {ds:Dvs} (ho:∀ d∈ds,okS d.2.1) (y:Str):MapF (mapOf ds y):=(kM y ds [] MapF.nil ho).1
theorem mapOf_len {ds:Dvs} (ho:∀ d∈ds,okS d.2.1) (y:Str):(mapOf ds y).length<=2 * ds.length:=by
 have:=(kM y ds [] MapF.nil ho).2.1
 rw [List.length_nil,Nat.zero_add] at this
 exact this
theorem mapOf_val {ds:Dvs} (ho:∀ d∈ds,okS d.2.1) (y:Str) (p:Int):valL (mapOf ds y) p=vF ds y p:=(kM y ds [] MapF.nil ho).2.2 p
theorem mapOf_snoc (ds:Dvs) (d:Str×Rv) (y:Str):mapOf (ds++[d]) y=mstep y (mapOf ds y) d:=by simp [mapOf]
noncomputable def bOf (ns:List Str) (ds:Dvs):Bs:=(srtT ns).map fun x=>(x,mapOf ds x)
theorem kJ (ns:List Str) (ds:Dvs):(bOf ns ds).map (·.1)=srtT ns:=by unfold bOf; rw [List.map_map]; exact List.map_id _
theorem bOf_upd (ns:List Str) (ds:Dvs) (x:Str) (r:Rv):updB x (fun ps=>put1 ps r) (bOf ns ds)=bOf ns (ds++[(x,r)]):=by
 unfold updB bOf
 rw [List.map_map]
 refine List.map_congr_left fun y _=>?_
 simp only [Function.comp_apply,mapOf_snoc,mstep]
 by_cases h:y=x
 · subst h; simp
 · rw [if_neg h,if_neg (fun z=>h z.symm)]
theorem vR {ns:List Str} (hn:∀ x∈ns,NmS x) (nd:ns.Nodup) {ds:Dvs} (ho:∀ d∈ds,okS d.2.1):BOk (bOf ns ds) (2 * ds.length):=by
 have hp:=srtT_perm ns
 refine ⟨by rw [kJ]; exact hp.nodup_iff.mpr nd,fun q hq=>?_,fun q hq=>?_,fun q hq=>?_⟩
 all_goals obtain ⟨x,hx,rfl⟩:=List.mem_map.mp hq
 · exact hn x (hp.mem_iff.mp hx)
 · exact mapOf_map ho x
 · exact mapOf_len ho x
theorem xP (ns:List Str) (ds:Dvs):(bOf ns ds).length=ns.length:=by
 have:=congrArg List.length (kJ ns ds)
 rw [List.length_map,(srtT_perm ns).length_eq] at this
 exact this
theorem bOf_mem {ns:List Str} {x:Str} (h:x∈ns) (ds:Dvs):(x,mapOf ds x)∈bOf ns ds:=List.mem_map.mpr ⟨x,(srtT_perm ns).mem_iff.mpr h,rfl⟩
end FL
section
open PySem PyProof.Rows L2 FL
noncomputable def K76.X_check_names_6.x:List Sl->Bool:=(orX (ifX (orT (zP (zJ ltD (callB lenD (zB (zI 0) zR)) (zA (.int 1)))) (zP (zJ gtD (callB lenD (zB (zI 0) zR)) (zA (.int 60))))) alwaysX neverX)
 (seqX (ifG (orT (zP (zJ ltD (callB lenD (zB (zI 0) zR)) (zA (.int 1)))) (zP (zJ gtD (callB lenD (zB (zI 0) zR)) (zA (.int 60))))) (fun _=>none) qB)
 (orX (ifX (notT (testT (callB allD (zB (mkL (compG (viaA (qF 0) asLT) [none] (qA 0) (fun _=>some true) (qQ 1 GP.is_name.f (zB (zI 0) zR)))) zR)))) alwaysX neverX)
 (seqX (ifG (notT (testT (callB allD (zB (mkL (compG (viaA (qF 0) asLT) [none] (qA 0) (fun _=>some true) (qQ 1 GP.is_name.f (zB (zI 0) zR)))) zR)))) (fun _=>none) qB)
 (ifX (zP (zJ ltD (lsetE (zI 0)) (callB lenD (zB (zI 0) zR)))) alwaysX neverX)))))
noncomputable def K76.X_check_names_6.f:List D->Bool:=runX K76.X_check_names_6.x 1
noncomputable def K76.X_Bundle___init___6.x:List Sl->Bool:=(callX 1 K76.X_check_names_6.f (zB (zI 1) zR))
noncomputable def K76.X_Bundle___init___6.f:List D->Bool:=runXN K76.X_Bundle___init___6.x 3
noncomputable def K76.X_Bundle_only_6.x:List Sl->Bool:=(ifX (orT (notT (testT (qQ 1 GP.is_name.f (zB (zI 1) zR)))) (dnotG (zI 1) (fldG [(12,0)] (qF 0)))) alwaysX neverX)
noncomputable def K76.X_Bundle_only_6.f:List D->Bool:=runX K76.X_Bundle_only_6.x 2
noncomputable def K76.X_Bundle_lay_6.x:List Sl->Bool:=(methX 12 1 K76.X_Bundle_only_6.f (qF 0) (zB (zI 1) zR))
noncomputable def K76.X_Bundle_lay_6.f:List D->Bool:=runX K76.X_Bundle_lay_6.x 3
noncomputable def K76.X_Bundle_lift_6.x:List Sl->Bool:=(methX 12 1 K76.X_Bundle_only_6.f (qF 0) (zB (zI 1) zR))
noncomputable def K76.X_Bundle_lift_6.f:List D->Bool:=runX K76.X_Bundle_lift_6.x 3
noncomputable def K76.L_names.b1:FS:=(qJ (xG 8 (zJ ixD (mkL (zZ (zB (qF 5) (zB (zJ qL (zI 5) (zA (.int 25))) (zB (zA (.int 0)) zR))))) (callB mnD (zB (zJ jO (zJ yG (zI 7) (zJ qL (zI 1) (zA (.int 7)))) (zI 3)) (zB (zA (.int 2)) zR)))))
 (appG 6 (zJ ixD (zI 2) (zJ jO (zJ yG (zJ yG (zJ qL (zI 1) (zJ yG (zI 7) (zA (.int 2)))) (zJ mulD (zJ mulD (zI 7) (zI 7)) (zA (.int 5)))) (zI 8)) (zA (.int 25))))))
noncomputable def K76.L_names.b2:FS:=(qJ (setOG 6 (zZ zR))
 (qJ (forG (rng1 (qF 3)) (qA 7) K76.L_names.b1)
 (appG 4 (zJ joinD (zA (.str "")) (zI 6)))))
noncomputable def K76.L_names.g:FS:=(qJ (xG 2 (zA (.str "abcdefghijklmnopqrstuvwxy")))
 (qJ (xG 3 (zJ yG (zA (.int 2)) (zJ jO (zI 1) (zA (.int 7)))))
 (qJ (setOG 4 (zZ zR))
 (qJ (forG (rng1 (qF 0)) (qA 5) K76.L_names.b2)
 (retXG 4)))))
noncomputable def K76.L_names.f:List D->Option Ret:=runG K76.L_names.g 9
noncomputable def K76.L_spoilt.g:FS:=(qJ (xG 2 (zJ ixD (zA (.str "ABMXYZ0189 .,-_/{~\x40[")) (zJ jO (zJ qL (zI 1) (zA (.int 4))) (zA (.int 20)))))
 (qJ (xG 3 (zJ jO (zJ qL (zI 1) (zA (.int 80))) (callB lenD (zB (zI 0) zR))))
 (qJ (ifG (zP (zJ eqD (zJ jO (zI 1) (zA (.int 4))) (zA (.int 0)))) (retG (zJ yG (zJ yG (slsS (zI 0) noP (soP (zI 3))) (zI 2)) (slsS (zI 0) (soP (zJ yG (zI 3) (zA (.int 1)))) noP))) qB)
 (qJ (ifG (andT (zP (zJ eqD (zJ jO (zI 1) (zA (.int 4))) (zA (.int 1)))) (zP (zJ ltD (callB lenD (zB (zI 0) zR)) (zA (.int 8))))) (retG (zJ yG (zJ yG (slsS (zI 0) noP (soP (zI 3))) (zI 2)) (slsS (zI 0) (soP (zI 3)) noP))) qB)
 (qJ (ifG (zP (zJ eqD (zJ jO (zI 1) (zA (.int 4))) (zA (.int 2)))) (retG (slsS (zJ yG (zI 0) (zA (.str "abcdefgh"))) noP (soP (zA (.int 9))))) qB)
 (retG (zA (.str ""))))))))
noncomputable def K76.L_spoilt.f:List D->Option Ret:=runG K76.L_spoilt.g 4
noncomputable def K76.L_odd_list.g:FS:=(qJ (setOG 2 (lisA (zI 0)))
 (qJ (xG 3 (zJ jO (zJ qL (zI 1) (zA (.int 4))) (callB lenD (zB (zI 0) zR))))
 (qJ (ifG (zP (zJ eqD (zJ jO (zI 1) (zA (.int 4))) (zA (.int 0)))) (retAG (mkL (zZ zR))) qB)
 (qJ (ifG (zP (zJ eqD (zJ jO (zI 1) (zA (.int 4))) (zA (.int 1)))) (retAG (qQ 2 K76.L_names.f (zB (zJ yG (zA (.int 61)) (zJ jO (zJ qL (zI 1) (zA (.int 4))) (zA (.int 100)))) (zB (zJ qL (zI 1) (zA (.int 4))) zR)))) qB)
 (qJ (ifG (zP (zJ eqD (zJ jO (zI 1) (zA (.int 4))) (zA (.int 2)))) (qJ (insG 2 (zJ jO (zJ qL (zJ qL (zI 1) (zA (.int 4))) (zA (.int 61))) (zJ yG (callB lenD (zB (zI 0) zR)) (zA (.int 1)))) (zJ ixD (zI 0) (zI 3)))
 (fun ds=>(retAG (qF 2)) (relS 2 ds))) qB)
 (qJ (putG 2 (qF 3) (qQ 2 K76.L_spoilt.f (zB (zJ ixD (zI 0) (zI 3)) (zB (zJ qL (zJ qL (zI 1) (zA (.int 4))) (zA (.int 61))) zR))))
 (qJ (ifG (zP (zJ eqD (zJ jO (zJ qL (zJ qL (zI 1) (zA (.int 4))) (zA (.int 61))) (zA (.int 8))) (zA (.int 5)))) (putG 2 (qF 3) (zJ ixD (mkL (zZ (zB (zA .non) (zB (zA (.int 7)) (zB (mkL (zZ (zB (zJ ixD (zI 0) (zI 3)) zR))) zR))))) (zJ jO (zJ qL (zJ qL (zI 1) (zA (.int 4))) (zA (.int 488))) (zA (.int 3))))) qB)
 (fun ds=>(retAG (qF 2)) (relS 2 ds)))))))))
noncomputable def K76.L_odd_list.f:List D->Option Ret:=runG K76.L_odd_list.g 4
noncomputable def K76.L_asked.g:FS:=(qJ (ifG (zP (zJ eqD (zI 0) (zA (.int 0)))) (fun _=>none) qB)
 (qJ (ifG (zP (zJ eqD (zI 0) (zA (.int 1)))) (fun _=>none) qB)
 (qJ (ifG (zP (zJ eqD (zI 0) (zA (.int 2)))) (fun _=>none) qB)
 (fun _=>none))))
noncomputable def K76.L_asked.f:List D->Option Ret:=runG K76.L_asked.g 3
noncomputable def K76.X__law_asked_6.x:List Sl->Bool:=(orX (ifX (zP (zJ eqD (zI 0) (zA (.int 0)))) (callX 1 K76.X_Bundle___init___6.f (zB (zI 2) zR)) neverX)
 (seqX (ifG (zP (zJ eqD (zI 0) (zA (.int 0)))) (fun _=>none) qB)
 (orX (ifX (zP (zJ eqD (zI 0) (zA (.int 1)))) (methX 12 2 K76.X_Bundle_lay_6.f (qF 1) (zB (zJ ixD (zI 2) (zA (.int 0))) (zB (mkT (zZ (zB (zA (.int 3)) (zB (zA (.int 9)) zR)))) zR))) neverX)
 (seqX (ifG (zP (zJ eqD (zI 0) (zA (.int 1)))) (fun _=>none) qB)
 (orX (ifX (zP (zJ eqD (zI 0) (zA (.int 2)))) (methX 12 2 K76.X_Bundle_lift_6.f (qF 1) (zB (zJ ixD (zI 2) (zA (.int 0))) (zB (mkT (zZ (zB (zA .non) (zB (zA .non) zR)))) zR))) neverX)
 (seqX (ifG (zP (zJ eqD (zI 0) (zA (.int 2)))) (fun _=>none) qB)
 (methX 12 1 K76.X_Bundle_only_6.f (qF 1) (zB (zJ ixD (zI 2) (zA (.int 0))) zR))))))))
noncomputable def K76.X__law_asked_6.f:List D->Bool:=runX K76.X__law_asked_6.x 3
noncomputable def K76.L_refused.g:FS:=(qJ (tryG 3 6 (dropG (callA 3 K76.L_asked.f (zB (qF 0) (zB (qF 1) (zB (qF 2) zR))))) (callX 3 K76.X__law_asked_6.f (zB (zI 0) (zB (zI 1) (zB (zI 2) zR))))
 (qJ (xG 4 (isxG 3 [(6,false)]))
 (retG (andV (isxG 3 [(6,true)]) (andV (isxG 3 [(6,true)]) (notV (qF 4)))))))
 (retG (zA (.bl false))))
noncomputable def K76.L_refused.f:List D->Option Ret:=runG K76.L_refused.g 5
noncomputable def K76.L_lies.b1:FS:=(ifG (zP (zJ neD (methV 1 [12] GP.M_only_cc8d83 (qF 0) (zB (zI 4) zR)) (mkL (repF (zZ (zB (mkT (zZ (zB (zA (.int 0)) (zB (zA (.int 5)) (zB (zA (.int 1)) zR))))) zR)) (callB int1D (zB (zJ (inD false) (zI 4) (zI 2)) zR)))))) (retG (zA (.bl false))) qB)
noncomputable def K76.L_lies.g:FS:=(qJ (xG 3 (mkL (compG (viaA (mkL (zZ (zB (un1 negD (zA (.int 5))) (zB (zA (.int 0)) (zB (zA (.int 5)) zR))))) asLT) [none,some 0] (qA 0) (fun _=>some true) (methV 1 [12] GP.M_names_at_db16e3 (qF 1) (zB (zI 0) zR)))))
 (qJ (ifG (zP (zJ neD (zI 3) (mkL (zZ (zB (mkL (zZ zR)) (zB (mkL (srtTA (zI 2))) (zB (mkL (zZ zR)) zR))))))) (retG (zA (.bl false))) qB)
 (qJ (forG (viaA (mkL (sliA (zI 1) noP (soP (zA (.int 4))))) asLT) (qA 4) K76.L_lies.b1)
 (retG (zA (.bl true))))))
noncomputable def K76.L_lies.f:List D->Option Ret:=runG K76.L_lies.g 5
noncomputable def K76.law.b1:FS:=(ifG (zP (zJ eqD (zJ jO (qQ 2 GL.cell_at.f (zB (zI 0) (zB (zJ yG (zA (.int 4)) (zI 6)) zR))) (zA (.int 2))) (zA (.int 0)))) (qJ (appG 5 (zJ ixD (zI 1) (zI 6)))
 (lentG 2 [12] (fun _=>GP.Bundle_lay.f) (varP 4) (zB (zJ ixD (zI 1) (zI 6)) (zB (mkT (zZ (zB (zA (.int 0)) (zB (zA (.int 5)) zR)))) zR)))) qB)
noncomputable def K76.law.b2:FS:=(ifG (relTV 4 (notT (testT (qQ 3 K76.L_refused.f (zB (zI 11) (zB (zI 4) (zB (mkL (zZ (zB (qF 9) zR))) zR))))))) (retG (zA (.bl false))) qB)
noncomputable def K76.law.g:FS:=(qJ (xG 1 (qQ 2 K76.L_names.f (zB (zJ yG (zA (.int 1)) (zJ jO (qQ 2 GL.cell_at.f (zB (zI 0) (zB (zA (.int 0)) zR))) (zA (.int 59)))) (zB (qQ 2 GL.cell_at.f (zB (zI 0) (zB (zA (.int 1)) zR))) zR))))
 (qJ (xG 2 (callA 2 K76.L_odd_list.f (zB (qF 1) (zB (qQ 2 GL.cell_at.f (zB (zI 0) (zB (zA (.int 2)) zR))) zR))))
 (qJ (xG 3 (mkL (lisA (zI 2))))
 (qJ (ifG (orT (notT (testT (qQ 3 K76.L_refused.f (zB (zA (.int 0)) (zB (zA .non) (zB (zI 3) zR)))))) (zP (zJ neD (zI 3) (zI 2)))) (retG (zA (.bl false))) qB)
 (qJ (setB 4 (makeO 24 1 0 GP.Bundle___init__.f (zB (mkL (lisA (zI 1))) zR)))
 (qJ (setOG 5 (zZ zR))
 (qJ (forG (rng1 (callB lenD (zB (zI 1) zR))) (qA 6) K76.law.b1)
 (qJ (xG 7 (qQ 2 GL.cell_at.f (zB (zI 0) (zB (zA (.int 3)) zR))))
 (qJ (xG 8 (zJ jO (zJ qL (zI 7) (zA (.int 7))) (callB lenD (zB (zI 1) zR))))
 (qJ (xG 9 (qQ 2 K76.L_spoilt.f (zB (zJ ixD (zI 1) (zI 8)) (zB (zJ qL (zI 7) (zA (.int 7))) zR))))
 (qJ (ifG (zP (zJ gtD (zJ jO (zI 7) (zA (.int 7))) (zA (.int 3)))) (qJ (xG 10 (zJ jO (zJ qL (zI 7) (zA (.int 7))) (zA (.int 7))))
 (xG 9 (slsS (zJ yG (zJ yG (slsS (zJ ixD (zI 1) (zI 8)) noP (soP (zI 10))) (zA (.str "z"))) (slsS (zJ ixD (zI 1) (zI 8)) (soP (zJ yG (zI 10) (zA (.int 1)))) noP)) noP (soP (zA (.int 8)))))) qB)
 (qJ (forG (viaA (zJ ixD (mkL (zZ (zB (mkL (zZ (zB (zA (.int 1)) (zB (zA (.int 2)) (zB (zA (.int 3)) zR))))) (zB (mkL (zZ (zB (zA (.int 3)) (zB (zA (.int 1)) (zB (zA (.int 2)) zR))))) (zB (mkL (zZ (zB (zA (.int 2)) (zB (zA (.int 3)) (zB (zA (.int 1)) zR))))) zR))))) (zJ jO (zJ qL (zI 7) (zA (.int 49))) (zA (.int 3)))) asLT) (qA 11) K76.law.b2)
 (qJ (ifG (relTV 4 (notT (testT (qQ 3 K76.L_lies.f (zB (zI 4) (zB (zI 1) (zB (zI 5) zR))))))) (retG (zA (.bl false))) qB)
 (qJ (ifG (zP (zJ gtD (zJ jO (zI 7) (zA (.int 7))) (zA (.int 3)))) (qJ (setB 12 (makeO 24 1 0 GP.Bundle___init__.f (zB (mkL (catA (mkL (sliA (zI 1) noP (soP (zA (.int 59))))) (mkL (zZ (zB (qF 9) zR))))) zR)))
 (qJ (lentG 2 [12] (fun _=>GP.Bundle_lay.f) (varP 12) (zB (qF 9) (zB (mkT (zZ (zB (zA (.int 0)) (zB (zA (.int 5)) zR)))) zR)))
 (ifG (relTV 12 (zP (zJ neD (methV 1 [12] GP.M_names_at_db16e3 (qF 12) (zB (zA (.int 4)) zR)) (mkL (zZ (zB (qF 9) zR)))))) (retG (zA (.bl false))) qB))) qB)
 (qJ (lentG 2 [12] (fun _=>GP.Bundle_lay.f) (varP 4) (zB (zJ ixD (zI 1) (zI 8)) (zB (mkT (zZ (zB (zA (.int 5)) (zB (zA (.int 7)) zR)))) zR)))
 (retG (andV (zJ eqD (ofO (relGV 4 (lO (methF 1 [12] GP.M_names_at_db16e3 (qF 4) (zB (zA (.int 6)) zR))))) (mkL (zZ (zB (zJ ixD (zI 1) (zI 8)) zR)))) (zJ eqD (ofO (relGV 4 (lO (methF 1 [12] GP.M_names_at_db16e3 (qF 4) (zB (zA (.int 4)) zR))))) (mkL (srtTA (zI 5)))))))))))))))))))))
noncomputable def K76.law.f:List D->Option Ret:=runG K76.law.g 13
end
namespace K76
open PySem PyProof.Rows L2 FL
noncomputable def top (i:Nat):Stmt:=PySem.Challenge.pw_spanmap_k76_refused_bundles.main.body.getD i (.Pass ⟨0,0,0,0⟩)
structure Glb (K:Frag) (mg:Str->Option Value):Prop where
 b_ValueError:mg "ValueError" = none
 b_all:mg "all" = none
 b_int:mg "int" = none
 b_isinstance:mg "isinstance" = none
 b_len:mg "len" = none
 b_list:mg "list" = none
 b_max:mg "max" = none
 b_min:mg "min" = none
 b_range:mg "range" = none
 b_set:mg "set" = none
 b_sorted:mg "sorted" = none
 b_str:mg "str" = none
 c_LETTERS:∃ t,mg "LETTERS" = some (.str "abcdefghijklmnopqrstuvwxyz" t)
 c_MOST_LETTERS:∃ t,mg "MOST_LETTERS" = some (.int 8 t)
 c_MOST_NAMES:∃ t,mg "MOST_NAMES" = some (.int 60 t)
 fl_lying:FldOk K "lying" [(12,0)]
 nw_lying:∀ C,PySem.W.nsIn K mainGlobals (clsName 24)=some (some (.ref C))->Cls K C/\NoAttr K C "lying"
 isx_NoName_6:∃ D,mg "NoName" = some (.ref D)/\IsxOk K (.ref D) [(6,true)]
 isxB_ValueError_6:IsxOk K (.type "ValueError") [(6,true)]
 isxT_0:∃ D3 D1 D4 D8 D2 D7 D12 D9 D5 D11 D10:Addr,mg "Clash" = some (.ref D3)/\mg "Empty" = some (.ref D1)/\mg "NoCount" = some (.ref D4)/\mg "NoDeed" = some (.ref D8)/\mg "NoEnd" = some (.ref D2)/\mg "NoMark" = some (.ref D7)/\mg "NoRow" = some (.ref D12)/\mg "NoRule" = some (.ref D9)/\mg "NoShare" = some (.ref D5)/\mg "NoText" = some (.ref D11)/\mg "TooMuch" = some (.ref D10)/\IsxOkT K [.ref D3,.ref D1,.ref D4,.ref D8,.ref D2,.ref D7,.ref D12,.ref D9,.ref D5,.ref D11,.ref D10] [(6,false)]
theorem pwI {X:Cx} {i:Int} {k:Nat} {p:Pos} : PVw X (.Constant (.int i) k p) (zA (.int i)):=PV.w qI
theorem pnI {X:Cx} {i:Int} {k:Nat} {p:Pos} : PVn X (.Constant (.int i) k p) (zA (.int i)):=PV.n qI
theorem pnV {X:Cx} (i:Nat) {x:Str} {pos:Pos} (hN:X.N[i]? = some x:=by rfl) (hv:Vis X.env.scope x:=by first | exact Or.inl rfl | exact Or.inr (Or.inl rfl) | exact Or.inr (Or.inr rfl)) (hd:(x == ("__debug__" : Str))=false:=by decide) (hcd:(x == ("__classdict__" : Str))=false:=by decide):PVn X (.Name x pos) (zI i):=(zE i hN hv hd hcd).n
section
variable {P:Program} {w:World} {K:Frag} {mg:Str->Option Value} {base:Heap}
theorem sc_has:FnScope ["one","place"] ["one","place"] (zH (top 16)):={}
theorem fok_has {f:Addr} {fd:FuncData} (Fn:Fun K "has" "has" (top 16) f fd) (T:Glb K mg)  : FnOk P w K mg base CX0 1 f fd ["one","place"] (spF K 2 GP.has.f):=by
 have nd:=sc_has.nd
 refine jD (k:=0) (g:=GP.has.g) Fn sc_has (fun cdv A outer s H E hr=>?_) (fun ds r hl e=>zY e)
 exact (zG (zW (PV.w (vT (pv_or (pv_is (PV.n (qP (zE 0) pwI)) (PV.n jA)) (vY (pv_le (PV.w (qP (zE 0) pwI)) (zE 1)))) (vY (pv_or (pv_is (PV.n (qP (zE 0) pwI)) (PV.n jA)) (vY (pv_lt (zE 1) (PV.w (qP (zE 0) pwI))))))))))
theorem sc_later_low:FnScope ["one","other"] ["one","other"] (zH (top 19)):={}
theorem fok_later_low {f:Addr} {fd:FuncData} (Fn:Fun K "later_low" "later_low" (top 19) f fd) (T:Glb K mg)  : FnOk P w K mg base CX0 1 f fd ["one","other"] (spF K 2 GP.later_low.f):=by
 have nd:=sc_later_low.nd
 refine jD (k:=0) (g:=GP.later_low.g) Fn sc_later_low (fun cdv A outer s H E hr=>?_) (fun ds r hl e=>zY e)
 exact (zC (zV (pt_is (pnV 0) (PV.n jA)) (zG (zW (zE 1))) zK)
  (zC (zV (pt_is (pnV 1) (PV.n jA)) (zG (zW (zE 0))) zK)
  (zG (zW (PV.w (pv_max2 rfl T.b_max (zS (zE 0) (zS (zE 1) qD))))))))
theorem sc_earlier_behind:FnScope ["one","other"] ["one","other"] (zH (top 20)):={}
theorem fok_earlier_behind {f:Addr} {fd:FuncData} (Fn:Fun K "earlier_behind" "earlier_behind" (top 20) f fd) (T:Glb K mg)  : FnOk P w K mg base CX0 1 f fd ["one","other"] (spF K 2 GP.earlier_behind.f):=by
 have nd:=sc_earlier_behind.nd
 refine jD (k:=0) (g:=GP.earlier_behind.g) Fn sc_earlier_behind (fun cdv A outer s H E hr=>?_) (fun ds r hl e=>zY e)
 exact (zC (zV (pt_is (pnV 0) (PV.n jA)) (zG (zW (zE 1))) zK)
  (zC (zV (pt_is (pnV 1) (PV.n jA)) (zG (zW (zE 0))) zK)
  (zG (zW (PV.w (pv_min2 rfl T.b_min (zS (zE 0) (zS (zE 1) qD))))))))
theorem sc_ends_ahead:FnScope ["behind","low"] ["behind","low"] (zH (top 18)):={}
theorem fok_ends_ahead {f:Addr} {fd:FuncData} (Fn:Fun K "ends_ahead" "ends_ahead" (top 18) f fd) (T:Glb K mg)  : FnOk P w K mg base CX0 1 f fd ["behind","low"] (spF K 2 GP.ends_ahead.f):=by
 have nd:=sc_ends_ahead.nd
 refine jD (k:=0) (g:=GP.ends_ahead.g) Fn sc_ends_ahead (fun cdv A outer s H E hr=>?_) (fun ds r hl e=>zY e)
 exact (zG (zW (PV.w (vT (pv_isnot (pnV 0) (PV.n jA)) (vT (pv_isnot (pnV 1) (PV.n jA)) (vY (pv_le (zE 0) (zE 1))))))))
theorem sc_meet:FnScope ["one","other","low","behind"] ["one","other"] (zH (top 17)):={}
theorem fok_meet {f:Addr} {fd:FuncData} (Fn:Fun K "meet" "meet" (top 17) f fd) (T:Glb K mg) (C_later_low:Cal P w K mg base "later_low" 1 2 GP.later_low.f) (C_earlier_behind:Cal P w K mg base "earlier_behind" 1 2 GP.earlier_behind.f) (C_ends_ahead:Cal P w K mg base "ends_ahead" 1 2 GP.ends_ahead.f):FnOk P w K mg base CX0 2 f fd ["one","other"] (spF K 2 GP.meet.f):=by
 have nd:=sc_meet.nd
 refine jD (k:=1) (g:=GP.meet.g) Fn sc_meet (fun cdv A outer s H E hr=>?_) (fun ds r hl e=>zY e)
 exact (zC (qW (i:=2) nd (zU C_later_low hr (zD (PV.n (qP (zE 0) pwI)) (zD (PV.n (qP (zE 1) pwI)) zL))))
  (zC (qW (i:=3) nd (zU C_earlier_behind hr (zD (PV.n (qP (zE 0) pwI)) (zD (PV.n (qP (zE 1) pwI)) zL))))
  (zC (zV (PVn.t (PV.n (zU C_ends_ahead hr (zD (pnV 3) (zD (pnV 2) zL))))) (zG (zW (PV.w jA))) zK)
  (zG (zW (PV.w (jR (zF (zM 2) (zF (zM 3) zO)))))))))
theorem sc_knit:FnScope ["rows","pieces","low","behind","value"] ["rows"] (zH (top 22)):={}
theorem fok_knit {f:Addr} {fd:FuncData} (Fn:Fun K "knit" "knit" (top 22) f fd) (T:Glb K mg)  : FnOk P w K mg base CX0 1 f fd ["rows"] (spF K 1 GP.knit.f):=by
 have nd:=sc_knit.nd
 refine jD (k:=0) (g:=GP.knit.g) Fn sc_knit (fun cdv A outer s H E hr=>?_) (fun ds r hl e=>zY e)
 exact (zC (yC (i:=1) nd (qH zO))
  (zC (yA PassesOwn.never rfl (jW (zM 0)) (pgv_tup (n:=3) rfl (jF (qC (i:=2) nd) (jF (qC (i:=3) nd) (jF (qC (i:=4) nd) pgsv_nil)))) (zC (zV (pt_is (pnV 4) (PV.n jA)) (zG psv_continue) zK)
  (zG (zV (PWv.t (pwv_and (PVn.t (pnV 1)) (pwv_and (yB hr (PV.n (qP (PV.w (qP (zE 1) (PV.w (pv_neg qI)))) pwI)) (pnV 2)) (pwv_and1 (yB hr (PV.n (qP (PV.w (qP (zE 1) (PV.w (pv_neg qI)))) pwI)) (pnV 4)))))) (zG (psv_put (i:=1) (jR (zF (qP (PV.w (qP (zE 1) (PV.w (pv_neg qI)))) pwI) (zF (zM 3) (zF (zM 4) zO)))) (pv_neg qI))) (zG (xX (i:=1) (jR (zF (zM 2) (zF (zM 3) (zF (zM 4) zO))))))))))
  (zG (wI 1))))
theorem sc_parts_in:FnScope ["pieces","within","parts","low","behind","value","common"] ["pieces","within"] (zH (top 23)):={}
theorem fok_parts_in {f:Addr} {fd:FuncData} (Fn:Fun K "parts_in" "parts_in" (top 23) f fd) (T:Glb K mg) (C_meet:Cal P w K mg base "meet" 2 2 GP.meet.f):FnOk P w K mg base CX0 3 f fd ["pieces","within"] (spF K 2 GP.parts_in.f):=by
 have nd:=sc_parts_in.nd
 refine jD (k:=2) (g:=GP.parts_in.g) Fn sc_parts_in (fun cdv A outer s H E hr=>?_) (fun ds r hl e=>zY e)
 exact (zC (yC (i:=2) nd (qH zO))
  (zC (yA PassesOwn.never rfl (jW (zM 0)) (pgv_tup (n:=3) rfl (jF (qC (i:=3) nd) (jF (qC (i:=4) nd) (jF (qC (i:=5) nd) pgsv_nil)))) (zC (qW (i:=6) nd (zU C_meet hr (zD (PV.n (jR (zF (zM 3) (zF (zM 4) zO)))) (zD (pnV 1) zL))))
  (zG (zV (wE (pnV 6) (PV.n jA)) (zG (xX (i:=2) (jR (zF (qP (zE 6) pwI) (zF (qP (zE 6) pwI) (zF (zM 5) zO)))))) zK))))
  (zG (wI 2))))
theorem sc_rows_over:FnScope ["pieces","over","value","rows"] ["pieces","over","value"] (zH (top 24)):={}
theorem fok_rows_over {f:Addr} {fd:FuncData} (Fn:Fun K "rows_over" "rows_over" (top 24) f fd) (T:Glb K mg) (C_parts_in:Cal P w K mg base "parts_in" 3 2 GP.parts_in.f):FnOk P w K mg base CX0 4 f fd ["pieces","over","value"] (spF K 3 GP.rows_over.f):=by
 have nd:=sc_rows_over.nd
 refine jD (k:=3) (g:=GP.rows_over.g) Fn sc_rows_over (fun cdv A outer s H E hr=>?_) (fun ds r hl e=>zY e)
 exact (zC (yC (i:=3) nd (qH zO))
  (zC (zV (wE (PV.n (qP (zE 1) pwI)) (PV.n jA)) (zG (psv_ext (i:=3) (yK C_parts_in hr (zD (pnV 0) (zD (PV.n (jR (zF jA (zF (qP (zE 1) pwI) zO)))) zL))))) zK)
  (zC (xX (i:=3) (jR (zF (qP (zE 1) pwI) (zF (qP (zE 1) pwI) (zF (zM 2) zO)))))
  (zC (zV (wE (PV.n (qP (zE 1) pwI)) (PV.n jA)) (zG (psv_ext (i:=3) (yK C_parts_in hr (zD (pnV 0) (zD (PV.n (jR (zF (qP (zE 1) pwI) (zF jA zO)))) zL))))) zK)
  (zG (wI 3))))))
theorem sc_value_at:FnScope ["pieces","place","low","behind","value"] ["pieces","place"] (zH (top 26)):={}
theorem fok_value_at {f:Addr} {fd:FuncData} (Fn:Fun K "value_at" "value_at" (top 26) f fd) (T:Glb K mg) (C_has:Cal P w K mg base "has" 1 2 GP.has.f):FnOk P w K mg base CX0 2 f fd ["pieces","place"] (spF K 2 GP.value_at.f):=by
 have nd:=sc_value_at.nd
 refine jD (k:=1) (g:=GP.value_at.g) Fn sc_value_at (fun cdv A outer s H E hr=>?_) (fun ds r hl e=>zY e)
 exact (zC (yA PassesOwn.never rfl (jW (zM 0)) (pgv_tup (n:=3) rfl (jF (qC (i:=2) nd) (jF (qC (i:=3) nd) (jF (qC (i:=4) nd) pgsv_nil)))) (zG (zV (PVn.t (PV.n (zU C_has hr (zD (PV.n (jR (zF (zM 2) (zF (zM 3) zO)))) (zD (pnV 1) zL))))) (zG (zW (zE 4))) zK)))
  (zG (zW (PV.w jA))))
theorem sc_is_name:FnScope ["thing"] ["thing"] (zH (top 30)):={}
theorem fok_is_name {f:Addr} {fd:FuncData} (Fn:Fun K "is_name" "is_name" (top 30) f fd) (T:Glb K mg)  : FnOk P w K mg base CX0 1 f fd ["thing"] (spF K 1 GP.is_name.f):=by
 have nd:=sc_is_name.nd
 have nI0:(["sign"]:List Str).Nodup:=by decide +kernel
 refine jD (k:=0) (g:=GP.is_name.g) Fn sc_is_name (fun cdv A outer s H E hr=>?_) (fun ds r hl e=>zY e)
 exact (zC (zV (yD (PVn.t (PV.n (pv_isi T.b_isinstance T.b_str (by decide +kernel) (zE 0))))) (zG (zW (PV.w vQ))) zK)
  (zC (zV (PWv.t (vN (pt_lt (PV.w (jJ T.b_len (zS (zE 0) qD))) pwI) (xD (pt_gt (PV.w (jJ T.b_len (zS (zE 0) qD))) (PV.w (wP T.c_MOST_LETTERS)))))) (zG (zW (PV.w vQ))) zK)
  (zG (zW (PV.w (pv_all rfl T.b_all (zS (PV.w (PVf.s (wO (NY:=["sign"]) (mp:=[none]) (jQ (by kernel_rfl)) rfl (piv_str (zM 0)) (fun c=>(qC (i:=0) nI0)) (fun c=>vB) (fun c=>(pv_cmp op_in_str os_inS (zE 0) (PV.w (pv_globS T.c_LETTERS)) rfl))))) qD)))))))
theorem sc_put:FnScope ["pieces","span","value"] ["pieces","span","value"] (zH (top 32)):={}
theorem fok_put {f:Addr} {fd:FuncData} (Fn:Fun K "put" "put" (top 32) f fd) (T:Glb K mg) (C_knit:Cal P w K mg base "knit" 1 1 GP.knit.f) (C_rows_over:Cal P w K mg base "rows_over" 4 3 GP.rows_over.f):FnOk P w K mg base CX0 5 f fd ["pieces","span","value"] (spF K 3 GP.put.f):=by
 have nd:=sc_put.nd
 refine jD (k:=4) (g:=GP.put.g) Fn sc_put (fun cdv A outer s H E hr=>?_) (fun ds r hl e=>zY e)
 exact (zG (kC (yK C_knit hr (zD (PV.n (zU C_rows_over hr (zD (pnV 0) (zD (pnV 1) (zD (pnV 2) zL))))) zL))))
theorem sc_check_names:FnScope ["names"] ["names"] (zH (top 36)):={}
theorem fok_check_names {f:Addr} {fd:FuncData} (Fn:Fun K "check_names" "check_names" (top 36) f fd) (T:Glb K mg) (C_is_name:Cal P w K mg base "is_name" 1 1 GP.is_name.f):FnOk P w K mg base CX0 2 f fd ["names"] (spF K 1 GP.check_names.f):=by
 have nd:=sc_check_names.nd
 have nI0:(["name"]:List Str).Nodup:=by decide +kernel
 refine jD (k:=1) (g:=GP.check_names.g) Fn sc_check_names (fun cdv A outer s H E hr=>?_) (fun ds r hl e=>zY e)
 exact (zC (zV (PWv.t (vN (pt_lt (PV.w (jJ T.b_len (zS (zE 0) qD))) pwI) (xD (pt_gt (PV.w (jJ T.b_len (zS (zE 0) qD))) (PV.w (wP T.c_MOST_NAMES)))))) (zG jY) zK)
  (zC (zV (yD (PVn.t (PV.n (pv_all rfl T.b_all (zS (PV.w (PVf.s (wO (NY:=["name"]) (mp:=[none]) (jQ (by kernel_rfl)) rfl (jW (zM 0)) (fun c=>(qC (i:=0) nI0)) (fun c=>vB) (fun c=>(zU C_is_name hr (zD (pnV 0) zL)))))) qD))))) (zG jY) zK)
  (zG (zV (pt_lt (PV.w (pv_lset rfl T.b_len T.b_set (zE 0))) (PV.w (jJ T.b_len (zS (zE 0) qD)))) (zG jY) zK))))
theorem body_check_names_6 {f XC:Addr} (T:Glb K mg) (C_is_name:Cal P w K mg base "is_name" 1 1 GP.is_name.f) (R:XR K mg 6 XC) (cdv:Value) (A:Around) (outer:List Env) (s:Shared) (H:Hp) (E:XK) (hr:Room 1 (A.deeper (envOfC "check_names" (zH (top 36)) s.heap.objs.size f cdv))) :
  PSsy (cxOf (CXM P w) P w K mg base ["names"] "check_names" (zH (top 36)) f cdv A outer s H E) E XC (qE (top 36)) K76.X_check_names_6.x:=by
 have nd:(["names"]:List Str).Nodup:=sc_check_names.nd
 have nI0:(["name"]:List Str).Nodup:=by decide +kernel
 have nI1:(["name"]:List Str).Nodup:=by decide +kernel
 exact (yL (wY (PWv.t (vN (pt_lt (PV.w (jJ T.b_len (zS (zE 0) qD))) pwI) (xD (pt_gt (PV.w (jJ T.b_len (zS (zE 0) qD))) (PV.w (wP T.c_MOST_NAMES)))))) (qO (PSx.y (xI R.cls R.gl))
  qS) (jH qS))
  (zV (PWv.t (vN (pt_lt (PV.w (jJ T.b_len (zS (zE 0) qD))) pwI) (xD (pt_gt (PV.w (jJ T.b_len (zS (zE 0) qD))) (PV.w (wP T.c_MOST_NAMES)))))) (zG jY) zK)
  (yL (wY (yD (PVn.t (PV.n (pv_all rfl T.b_all (zS (PV.w (PVf.s (wO (NY:=["name"]) (mp:=[none]) (jQ (by kernel_rfl)) rfl (jW (zM 0)) (fun c=>(qC (i:=0) nI0)) (fun c=>vB) (fun c=>(zU C_is_name hr (zD (pnV 0) zL)))))) qD))))) (qO (PSx.y (xI R.cls R.gl))
  qS) (jH qS))
  (zV (yD (PVn.t (PV.n (pv_all rfl T.b_all (zS (PV.w (PVf.s (wO (NY:=["name"]) (mp:=[none]) (jQ (by kernel_rfl)) rfl (jW (zM 0)) (fun c=>(qC (i:=0) nI1)) (fun c=>vB) (fun c=>(zU C_is_name hr (zD (pnV 0) zL)))))) qD))))) (zG jY) zK)
  (qO (wY (pt_lt (PV.w (pv_lset rfl T.b_len T.b_set (zE 0))) (PV.w (jJ T.b_len (zS (zE 0) qD)))) (qO (PSx.y (xI R.cls R.gl))
  qS) (jH qS))
  qS)))
theorem fokx_check_names_6 {f XC:Addr} {fd:FuncData} (Fn:Fun K "check_names" "check_names" (top 36) f fd) (T:Glb K mg) (C_is_name:Cal P w K mg base "is_name" 1 1 GP.is_name.f) (R:XR K mg 6 XC):FnOk P w K mg base (CXM P w) 2 f fd ["names"] (spX K 1 K76.X_check_names_6.f XC) :=
 wW (k:=1) (g:=K76.X_check_names_6.x) Fn sc_check_names (fun cdv A outer s H E hr=>body_check_names_6 T C_is_name R cdv A outer s H E hr) (fun ds hl e=>e)
theorem sc_Bundle___init__:FnScope ["self","names","name"] ["self","names"] (zH (inClass (top 35) 0)):={}
theorem fok_Bundle___init__ {f:Addr} {fd:FuncData} (Fn:Fun K "__init__" "Bundle.__init__" (inClass (top 35) 0) f fd) (T:Glb K mg) (C_check_names:Cal P w K mg base "check_names" 2 1 GP.check_names.f):FnOk P w K mg base CX0 3 f fd ["self","names"] (spL K 1 GP.Bundle___init__.f):=by
 have nd:=sc_Bundle___init__.nd
 refine fun_okL (k:=2) (n:=1) (g:=GP.Bundle___init__.g) Fn sc_Bundle___init__ (fun cdv A outer s H E hr=>?_) (fun _ _ _ _ e=>e)
 exact (zC (psv_drop (zU C_check_names hr (zD (pnV 1) zL)))
  (zC (psv_setNew T.nw_lying (xF 0) pvo_dnew)
  (zG (yA PassesOwn.never rfl (jW (PVf.s (xA T.b_sorted (zE 1)))) (qC (i:=2) nd) (zG (psv_dputN hr (pvp_at T.fl_lying (xF 0)) (zM 2) (pvo_s pao_nil)))))))
theorem body_Bundle___init___6 {f XC:Addr} (T:Glb K mg) (C_check_names:Cal P w K mg base "check_names" 2 1 GP.check_names.f) (CX_check_names_6:CalX P w K mg base "check_names" 2 1 K76.X_check_names_6.f XC) (cdv:Value) (A:Around) (outer:List Env) (s:Shared) (H:Hp) (E:XK) (hr:Room 2 (A.deeper (envOfC "Bundle.__init__" (zH (inClass (top 35) 0)) s.heap.objs.size f cdv))) :
  PSsy (cxOf (CXM P w) P w K mg base ["self","names","name"] "Bundle.__init__" (zH (inClass (top 35) 0)) f cdv A outer s H E) E XC (qE (inClass (top 35) 0)) K76.X_Bundle___init___6.x:=by
 have nd:(["self","names","name"]:List Str).Nodup:=sc_Bundle___init__.nd
 exact (qO (psy_expr (pey_call xE CX_check_names_6 hr (zD (pnV 1) zL)))
  qS)
theorem fokx_Bundle___init___6 {f XC:Addr} {fd:FuncData} (Fn:Fun K "__init__" "Bundle.__init__" (inClass (top 35) 0) f fd) (T:Glb K mg) (C_check_names:Cal P w K mg base "check_names" 2 1 GP.check_names.f) (CX_check_names_6:CalX P w K mg base "check_names" 2 1 K76.X_check_names_6.f XC):FnOk P w K mg base (CXM P w) 3 f fd ["self","names"] (spXN K 1 K76.X_Bundle___init___6.f XC) :=
 init_okY (k:=2) (n:=1) (g:=K76.X_Bundle___init___6.x) Fn sc_Bundle___init__ (fun cdv A outer s H E hr=>body_Bundle___init___6 T C_check_names CX_check_names_6 cdv A outer s H E hr) rfl
theorem sc_Bundle_only:FnScope ["self","name"] ["self","name"] (zH (inClass (top 35) 4)):={}
theorem fok_Bundle_only {f:Addr} {fd:FuncData} (Fn:Fun K "only" "Bundle.only" (inClass (top 35) 4) f fd) (T:Glb K mg) (C_is_name:Cal P w K mg base "is_name" 1 1 GP.is_name.f):FnOk P w K mg base CX0 2 f fd ["self","name"] (spF K 2 GP.Bundle_only.f):=by
 have nd:=sc_Bundle_only.nd
 refine jD (k:=1) (g:=GP.Bundle_only.g) Fn sc_Bundle_only (fun cdv A outer s H E hr=>?_) (fun ds r hl e=>zY e)
 exact (zC (zV (PWv.t (vN (yD (PVn.t (PV.n (zU C_is_name hr (zD (pnV 1) zL))))) (xD (ptv_dnot hr (pnV 1) (PV.n (wU T.fl_lying (zM 0))))))) (zG jY) zK)
  (zG (kC (wF T.b_list (PV.w (pv_dget hr (wU T.fl_lying (zM 0)) (zM 1)))))))
theorem body_Bundle_only_6 {f XC:Addr} (T:Glb K mg) (C_is_name:Cal P w K mg base "is_name" 1 1 GP.is_name.f) (R:XR K mg 6 XC) (cdv:Value) (A:Around) (outer:List Env) (s:Shared) (H:Hp) (E:XK) (hr:Room 1 (A.deeper (envOfC "Bundle.only" (zH (inClass (top 35) 4)) s.heap.objs.size f cdv))) :
  PSsy (cxOf (CXM P w) P w K mg base ["self","name"] "Bundle.only" (zH (inClass (top 35) 4)) f cdv A outer s H E) E XC (qE (inClass (top 35) 4)) K76.X_Bundle_only_6.x:=by
 have nd:(["self","name"]:List Str).Nodup:=sc_Bundle_only.nd
 exact (qO (wY (PWv.t (vN (yD (PVn.t (PV.n (zU C_is_name hr (zD (pnV 1) zL))))) (xD (ptv_dnot hr (pnV 1) (PV.n (wU T.fl_lying (zM 0))))))) (qO (PSx.y (xI R.cls R.gl))
  qS) (jH qS))
  qS)
theorem fokx_Bundle_only_6 {f XC:Addr} {fd:FuncData} (Fn:Fun K "only" "Bundle.only" (inClass (top 35) 4) f fd) (T:Glb K mg) (C_is_name:Cal P w K mg base "is_name" 1 1 GP.is_name.f) (R:XR K mg 6 XC):FnOk P w K mg base (CXM P w) 2 f fd ["self","name"] (spX K 2 K76.X_Bundle_only_6.f XC) :=
 wW (k:=1) (g:=K76.X_Bundle_only_6.x) Fn sc_Bundle_only (fun cdv A outer s H E hr=>body_Bundle_only_6 T C_is_name R cdv A outer s H E hr) (fun ds hl e=>e)
theorem sc_Bundle_lay:FnScope ["self","name","span"] ["self","name","span"] (zH (inClass (top 35) 1)):={}
theorem fok_Bundle_lay {f:Addr} {fd:FuncData} (Fn:Fun K "lay" "Bundle.lay" (inClass (top 35) 1) f fd) (T:Glb K mg) (C_put:Cal P w K mg base "put" 5 3 GP.put.f) (M_only:MCal P w K mg base "only" 2 1 [12] GP.M_only_cc8d83):FnOk P w K mg base CX0 6 f fd ["self","name","span"] (spL K 2 GP.Bundle_lay.f):=by
 have nd:=sc_Bundle_lay.nd
 refine fun_okL (k:=5) (n:=2) (g:=GP.Bundle_lay.g) Fn sc_Bundle_lay (fun cdv A outer s H E hr=>?_) (fun _ _ _ _ e=>e)
 exact (zG (psv_dput hr (pvp_at T.fl_lying (xF 0)) (zM 1) (pv_ofO (pvo_relO 0 (pvo_l (yK C_put hr (zD (PV.n (vL M_only hr (zM 0) (zD (pnV 1) zL))) (zD (pnV 2) (zD pnI zL)))))))))
theorem body_Bundle_lay_6 {f XC:Addr} (T:Glb K mg) (C_put:Cal P w K mg base "put" 5 3 GP.put.f) (M_only:MCal P w K mg base "only" 2 1 [12] GP.M_only_cc8d83) (MX_only_6:MCalX P w K mg base "only" 12 2 1 K76.X_Bundle_only_6.f XC) (cdv:Value) (A:Around) (outer:List Env) (s:Shared) (H:Hp) (E:XK) (hr:Room 5 (A.deeper (envOfC "Bundle.lay" (zH (inClass (top 35) 1)) s.heap.objs.size f cdv))) :
  PSsy (cxOf (CXM P w) P w K mg base ["self","name","span"] "Bundle.lay" (zH (inClass (top 35) 1)) f cdv A outer s H E) E XC (qE (inClass (top 35) 1)) K76.X_Bundle_lay_6.x:=by
 have nd:(["self","name","span"]:List Str).Nodup:=sc_Bundle_lay.nd
 exact (qO (psy_dput hr (wU T.fl_lying (zM 0)) (zM 1) (pey_callA C_put hr (xN xE MX_only_6 hr (zM 0) (zD (pnV 1) zL)) (zD (pnV 2) (zD pnI zL))))
  qS)
theorem fokx_Bundle_lay_6 {f XC:Addr} {fd:FuncData} (Fn:Fun K "lay" "Bundle.lay" (inClass (top 35) 1) f fd) (T:Glb K mg) (C_put:Cal P w K mg base "put" 5 3 GP.put.f) (M_only:MCal P w K mg base "only" 2 1 [12] GP.M_only_cc8d83) (MX_only_6:MCalX P w K mg base "only" 12 2 1 K76.X_Bundle_only_6.f XC):FnOk P w K mg base (CXM P w) 6 f fd ["self","name","span"] (spX K 3 K76.X_Bundle_lay_6.f XC) :=
 wW (k:=5) (g:=K76.X_Bundle_lay_6.x) Fn sc_Bundle_lay (fun cdv A outer s H E hr=>body_Bundle_lay_6 T C_put M_only MX_only_6 cdv A outer s H E hr) (fun ds hl e=>e)
theorem sc_Bundle_lift:FnScope ["self","name","span"] ["self","name","span"] (zH (inClass (top 35) 2)):={}
theorem fok_Bundle_lift {f:Addr} {fd:FuncData} (Fn:Fun K "lift" "Bundle.lift" (inClass (top 35) 2) f fd) (T:Glb K mg) (C_put:Cal P w K mg base "put" 5 3 GP.put.f) (M_only:MCal P w K mg base "only" 2 1 [12] GP.M_only_cc8d83):FnOk P w K mg base CX0 6 f fd ["self","name","span"] (spL K 2 GP.Bundle_lift.f):=by
 have nd:=sc_Bundle_lift.nd
 refine fun_okL (k:=5) (n:=2) (g:=GP.Bundle_lift.g) Fn sc_Bundle_lift (fun cdv A outer s H E hr=>?_) (fun _ _ _ _ e=>e)
 exact (zG (psv_dput hr (pvp_at T.fl_lying (xF 0)) (zM 1) (pv_ofO (pvo_relO 0 (pvo_l (yK C_put hr (zD (PV.n (vL M_only hr (zM 0) (zD (pnV 1) zL))) (zD (pnV 2) (zD (PV.n jA) zL)))))))))
theorem body_Bundle_lift_6 {f XC:Addr} (T:Glb K mg) (C_put:Cal P w K mg base "put" 5 3 GP.put.f) (M_only:MCal P w K mg base "only" 2 1 [12] GP.M_only_cc8d83) (MX_only_6:MCalX P w K mg base "only" 12 2 1 K76.X_Bundle_only_6.f XC) (cdv:Value) (A:Around) (outer:List Env) (s:Shared) (H:Hp) (E:XK) (hr:Room 5 (A.deeper (envOfC "Bundle.lift" (zH (inClass (top 35) 2)) s.heap.objs.size f cdv))) :
  PSsy (cxOf (CXM P w) P w K mg base ["self","name","span"] "Bundle.lift" (zH (inClass (top 35) 2)) f cdv A outer s H E) E XC (qE (inClass (top 35) 2)) K76.X_Bundle_lift_6.x:=by
 have nd:(["self","name","span"]:List Str).Nodup:=sc_Bundle_lift.nd
 exact (qO (psy_dput hr (wU T.fl_lying (zM 0)) (zM 1) (pey_callA C_put hr (xN xE MX_only_6 hr (zM 0) (zD (pnV 1) zL)) (zD (pnV 2) (zD (PV.n jA) zL))))
  qS)
theorem fokx_Bundle_lift_6 {f XC:Addr} {fd:FuncData} (Fn:Fun K "lift" "Bundle.lift" (inClass (top 35) 2) f fd) (T:Glb K mg) (C_put:Cal P w K mg base "put" 5 3 GP.put.f) (M_only:MCal P w K mg base "only" 2 1 [12] GP.M_only_cc8d83) (MX_only_6:MCalX P w K mg base "only" 12 2 1 K76.X_Bundle_only_6.f XC):FnOk P w K mg base (CXM P w) 6 f fd ["self","name","span"] (spX K 3 K76.X_Bundle_lift_6.f XC) :=
 wW (k:=5) (g:=K76.X_Bundle_lift_6.x) Fn sc_Bundle_lift (fun cdv A outer s H E hr=>body_Bundle_lift_6 T C_put M_only MX_only_6 cdv A outer s H E hr) (fun ds hl e=>e)
theorem sc_Bundle_names_at:FnScope ["self","place"] ["self","place"] (zH (inClass (top 35) 3)):={}
theorem fok_Bundle_names_at {f:Addr} {fd:FuncData} (Fn:Fun K "names_at" "Bundle.names_at" (inClass (top 35) 3) f fd) (T:Glb K mg) (C_value_at:Cal P w K mg base "value_at" 2 2 GP.value_at.f):FnOk P w K mg base CX0 3 f fd ["self","place"] (spF K 2 GP.Bundle_names_at.f):=by
 have nd:=sc_Bundle_names_at.nd
 have nI0:(["name","place","self"]:List Str).Nodup:=by decide +kernel
 refine jD (k:=2) (g:=GP.Bundle_names_at.g) Fn sc_Bundle_names_at (fun cdv A outer s H E hr=>?_) (fun ds r hl e=>zY e)
 exact (zG (kC (pvf_compD (NY:=["name","place","self"]) (mp:=[none,some 1,some 0]) (jQ (by kernel_rfl)) rfl (pid_keys (wU T.fl_lying (zM 0))) (fun c=>(qC (i:=0) nI0)) (fun c=>(pfv_one (wE (PV.n (zU C_value_at hr (zD (PV.n (pv_dget hr (wU T.fl_lying (zM 2)) (zM 0))) (zD (pnV 1) zL)))) (PV.n jA)))) (fun c=>(zM 0)))))
theorem sc__law_cell_at:FnScope ["_law_script","_law_k"] ["_law_script","_law_k"] (zH (top 38)):={}
theorem fok__law_cell_at {f:Addr} {fd:FuncData} (Fn:Fun K "_law_cell_at" "_law_cell_at" (top 38) f fd) (T:Glb K mg)  : FnOk P w K mg base CX0 1 f fd ["_law_script","_law_k"] (spF K 2 GL.cell_at.f):=by
 have nd:=sc__law_cell_at.nd
 refine jD (k:=0) (g:=GL.cell_at.g) Fn sc__law_cell_at (fun cdv A outer s H E hr=>?_) (fun ds r hl e=>zY e)
 exact (zC (zV (pt_lt (zE 1) (PV.w (jJ T.b_len (zS (zE 0) qD)))) (zG (zW (PV.w (qP (zE 0) (zE 1))))) zK)
  (zG (zW pwI)))
theorem sc__law_names:FnScope ["_law_many","_law_cell","_law_letters","_law_size","_law_names_here","_law_k","_law_signs","_law_j","_law_step"] ["_law_many","_law_cell"] (zH (top 39)):={}
theorem fok__law_names {f:Addr} {fd:FuncData} (Fn:Fun K "_law_names" "_law_names" (top 39) f fd) (T:Glb K mg)  : FnOk P w K mg base CX0 1 f fd ["_law_many","_law_cell"] (spF K 2 K76.L_names.f):=by
 have nd:=sc__law_names.nd
 refine jD (k:=0) (g:=K76.L_names.g) Fn sc__law_names (fun cdv A outer s H E hr=>?_) (fun ds r hl e=>zY e)
 exact (zC (qW (i:=2) nd vX)
  (zC (qW (i:=3) nd (qX pwI (PV.w (qG (zE 1) pwI))))
  (zC (yC (i:=4) nd (qH zO))
  (zC (yA PassesOwn.never rfl (xR T.b_range (zM 0)) (qC (i:=5) nd) (zC (yC (i:=6) nd (qH zO))
  (zC (yA PassesOwn.never rfl (xR T.b_range (zM 3)) (qC (i:=7) nd) (zC (qW (i:=8) nd (qP (PV.w (PVf.s (qH (zF (zM 5) (zF (qN (zE 5) pwI) (zF qI zO)))))) (PV.w (pv_min2 rfl T.b_min (zS (PV.w (qG (PV.w (qX (zE 7) (PV.w (qN (zE 1) pwI)))) (zE 3))) (zS pwI qD))))))
  (zG (xX (i:=6) (qP (zE 2) (PV.w (qG (PV.w (qX (PV.w (qX (PV.w (qN (zE 1) (PV.w (qX (zE 7) pwI)))) (PV.w (pv_mulI (PV.w (pv_mulI (zE 7) (zE 7))) pwI)))) (zE 8))) pwI)))))))
  (zG (xX (i:=4) (pv_join (PV.w vX) (zE 6)))))))
  (zG (wI 4))))))
theorem sc__law_spoilt:FnScope ["_law_name","_law_cell","_law_sign","_law_at"] ["_law_name","_law_cell"] (zH (top 40)):={}
theorem fok__law_spoilt {f:Addr} {fd:FuncData} (Fn:Fun K "_law_spoilt" "_law_spoilt" (top 40) f fd) (T:Glb K mg)  : FnOk P w K mg base CX0 1 f fd ["_law_name","_law_cell"] (spF K 2 K76.L_spoilt.f):=by
 have nd:=sc__law_spoilt.nd
 refine jD (k:=0) (g:=K76.L_spoilt.g) Fn sc__law_spoilt (fun cdv A outer s H E hr=>?_) (fun ds r hl e=>zY e)
 exact (zC (qW (i:=2) nd (qP (PV.w vX) (PV.w (qG (PV.w (qN (zE 1) pwI)) pwI))))
  (zC (qW (i:=3) nd (qG (PV.w (qN (zE 1) pwI)) (PV.w (jJ T.b_len (zS (zE 0) qD)))))
  (zC (zV (yB hr (PV.n (qG (zE 1) pwI)) pnI) (zG (zW (PV.w (qX (PV.w (qX (PV.w (wA (zE 0) yW (yY (zE 3)))) (zE 2))) (PV.w (wA (zE 0) (yY (PV.w (qX (zE 3) pwI))) yW)))))) zK)
  (zC (zV (PWv.t (pwv_and (yB hr (PV.n (qG (zE 1) pwI)) pnI) (pwv_and1 (pt_lt (PV.w (jJ T.b_len (zS (zE 0) qD))) pwI)))) (zG (zW (PV.w (qX (PV.w (qX (PV.w (wA (zE 0) yW (yY (zE 3)))) (zE 2))) (PV.w (wA (zE 0) (yY (zE 3)) yW)))))) zK)
  (zC (zV (yB hr (PV.n (qG (zE 1) pwI)) pnI) (zG (zW (PV.w (wA (PV.w (qX (zE 0) (PV.w vX))) yW (yY pwI))))) zK)
  (zG (zW (PV.w vX))))))))
theorem sc__law_odd_list:FnScope ["_law_names_here","_law_cell","_law_some","_law_at"] ["_law_names_here","_law_cell"] (zH (top 41)):={}
theorem fok__law_odd_list {f:Addr} {fd:FuncData} (Fn:Fun K "_law_odd_list" "_law_odd_list" (top 41) f fd) (T:Glb K mg) (C__law_spoilt:Cal P w K mg base "_law_spoilt" 1 2 K76.L_spoilt.f) (C__law_names:Cal P w K mg base "_law_names" 1 2 K76.L_names.f):FnOk P w K mg base CX0 2 f fd ["_law_names_here","_law_cell"] (spA K 2 K76.L_odd_list.f):=by
 have nd:=sc__law_odd_list.nd
 refine fun_okA (k:=1) (n:=2) (F:=K76.L_odd_list.f) (g:=K76.L_odd_list.g) Fn sc__law_odd_list (fun cdv A outer s H E hr=>?_) rfl (fun ds r hl e=>zY e)
 exact (zC (yC (i:=2) nd (wF T.b_list (zE 0)))
  (zC (qW (i:=3) nd (qG (PV.w (qN (zE 1) pwI)) (PV.w (jJ T.b_len (zS (zE 0) qD)))))
  (zC (zV (yB hr (PV.n (qG (zE 1) pwI)) pnI) (zG (wJ (PVf.s (qH zO)))) zK)
  (zC (zV (yB hr (PV.n (qG (zE 1) pwI)) pnI) (zG (wJ (zU C__law_names hr (zD (PV.n (qX pwI (PV.w (qG (PV.w (qN (zE 1) pwI)) pwI)))) (zD (PV.n (qN (zE 1) pwI)) zL))))) zK)
  (zC (zV (yB hr (PV.n (qG (zE 1) pwI)) pnI) (zC (psv_ins (i:=2) (qG (PV.w (qN (PV.w (qN (zE 1) pwI)) pwI)) (PV.w (qX (PV.w (jJ T.b_len (zS (zE 0) qD))) pwI))) (qP (zE 0) (zE 3)))
  (zG (psv_rel 2 (wJ (zM 2))))) zK)
  (zC (psv_put (i:=2) (zU C__law_spoilt hr (zD (PV.n (qP (zE 0) (zE 3))) (zD (PV.n (qN (PV.w (qN (zE 1) pwI)) pwI)) zL))) (zM 3))
  (zC (zV (yB hr (PV.n (qG (PV.w (qN (PV.w (qN (zE 1) pwI)) pwI)) pwI)) pnI) (zG (psv_put (i:=2) (qP (PV.w (PVf.s (qH (zF jA (zF qI (zF (PVf.s (qH (zF (qP (zE 0) (zE 3)) zO))) zO)))))) (PV.w (qG (PV.w (qN (PV.w (qN (zE 1) pwI)) pwI)) pwI))) (zM 3))) zK)
  (zG (psv_rel 2 (wJ (zM 2)))))))))))
theorem sc__law_asked:FnScope ["_law_which","_law_bundle","_law_names_here"] ["_law_which","_law_bundle","_law_names_here"] (zH (top 42)):={}
theorem fok__law_asked {f:Addr} {fd:FuncData} (Fn:Fun K "_law_asked" "_law_asked" (top 42) f fd) (T:Glb K mg) (M_only:MCal P w K mg base "only" 2 1 [12] GP.M_only_cc8d83) (M_lay:LCal P w K mg base "lay" 6 2 [12] (fun _=>GP.Bundle_lay.f)) (M_lift:LCal P w K mg base "lift" 6 2 [12] (fun _=>GP.Bundle_lift.f)) (Mk_Bundle_0:LMk P w K mg base 24 3 1 0 GP.Bundle___init__.f):FnOk P w K mg base CX0 7 f fd ["_law_which","_law_bundle","_law_names_here"] (spA K 3 K76.L_asked.f):=by
 have nd:=sc__law_asked.nd
 refine fun_okA (k:=6) (n:=3) (F:=K76.L_asked.f) (g:=K76.L_asked.g) Fn sc__law_asked (fun cdv A outer s H E hr=>?_) rfl (fun ds r hl e=>zY e)
 exact (zC (zV (yB hr (pnV 0) pnI) (zG yE) zK)
  (zC (zV (yB hr (pnV 0) pnI) (zG yE) zK)
  (zC (zV (yB hr (pnV 0) pnI) (zG yE) zK)
  (zG yE))))
theorem body__law_asked_6 {f XC:Addr} (T:Glb K mg) (M_only:MCal P w K mg base "only" 2 1 [12] GP.M_only_cc8d83) (M_lay:LCal P w K mg base "lay" 6 2 [12] (fun _=>GP.Bundle_lay.f)) (M_lift:LCal P w K mg base "lift" 6 2 [12] (fun _=>GP.Bundle_lift.f)) (Mk_Bundle_0:LMk P w K mg base 24 3 1 0 GP.Bundle___init__.f) (MX_Bundle_6:MkX P w K mg base 12 3 1 K76.X_Bundle___init___6.f XC) (MX_only_6:MCalX P w K mg base "only" 12 2 1 K76.X_Bundle_only_6.f XC) (MX_lay_6:MCalX P w K mg base "lay" 12 6 2 K76.X_Bundle_lay_6.f XC) (MX_lift_6:MCalX P w K mg base "lift" 12 6 2 K76.X_Bundle_lift_6.f XC) (cdv:Value) (A:Around) (outer:List Env) (s:Shared) (H:Hp) (E:XK) (hr:Room 6 (A.deeper (envOfC "_law_asked" (zH (top 42)) s.heap.objs.size f cdv))) :
  PSsy (cxOf (CXM P w) P w K mg base ["_law_which","_law_bundle","_law_names_here"] "_law_asked" (zH (top 42)) f cdv A outer s H E) E XC (qE (top 42)) K76.X__law_asked_6.x:=by
 have nd:(["_law_which","_law_bundle","_law_names_here"]:List Str).Nodup:=sc__law_asked.nd
 exact (yL (wY (yB hr (pnV 0) pnI) (qO (psy_ret (pey_make xE MX_Bundle_6 hr (zD (pnV 2) zL)))
  qS) (jH qS))
  (zV (yB hr (pnV 0) pnI) (zG yE) zK)
  (yL (wY (yB hr (pnV 0) pnI) (qO (psy_ret (xN xE MX_lay_6 hr (zM 1) (zD (PV.n (qP (zE 2) pwI)) (zD (PV.n (jR (zF qI (zF qI zO)))) zL))))
  qS) (jH qS))
  (zV (yB hr (pnV 0) pnI) (zG yE) zK)
  (yL (wY (yB hr (pnV 0) pnI) (qO (psy_ret (xN xE MX_lift_6 hr (zM 1) (zD (PV.n (qP (zE 2) pwI)) (zD (PV.n (jR (zF jA (zF jA zO)))) zL))))
  qS) (jH qS))
  (zV (yB hr (pnV 0) pnI) (zG yE) zK)
  (qO (psy_ret (xN xE MX_only_6 hr (zM 1) (zD (PV.n (qP (zE 2) pwI)) zL)))
  qS))))
theorem fokx__law_asked_6 {f XC:Addr} {fd:FuncData} (Fn:Fun K "_law_asked" "_law_asked" (top 42) f fd) (T:Glb K mg) (M_only:MCal P w K mg base "only" 2 1 [12] GP.M_only_cc8d83) (M_lay:LCal P w K mg base "lay" 6 2 [12] (fun _=>GP.Bundle_lay.f)) (M_lift:LCal P w K mg base "lift" 6 2 [12] (fun _=>GP.Bundle_lift.f)) (Mk_Bundle_0:LMk P w K mg base 24 3 1 0 GP.Bundle___init__.f) (MX_Bundle_6:MkX P w K mg base 12 3 1 K76.X_Bundle___init___6.f XC) (MX_only_6:MCalX P w K mg base "only" 12 2 1 K76.X_Bundle_only_6.f XC) (MX_lay_6:MCalX P w K mg base "lay" 12 6 2 K76.X_Bundle_lay_6.f XC) (MX_lift_6:MCalX P w K mg base "lift" 12 6 2 K76.X_Bundle_lift_6.f XC):FnOk P w K mg base (CXM P w) 7 f fd ["_law_which","_law_bundle","_law_names_here"] (spX K 3 K76.X__law_asked_6.f XC) :=
 wW (k:=6) (g:=K76.X__law_asked_6.x) Fn sc__law_asked (fun cdv A outer s H E hr=>body__law_asked_6 T M_only M_lay M_lift Mk_Bundle_0 MX_Bundle_6 MX_only_6 MX_lay_6 MX_lift_6 cdv A outer s H E hr) (fun ds hl e=>e)
theorem sc__law_refused:FnScope ["_law_which","_law_bundle","_law_names_here","e","_law_other"] ["_law_which","_law_bundle","_law_names_here"] (zH (top 43)):={}
theorem fok__law_refused {f:Addr} {fd:FuncData} (Fn:Fun K "_law_refused" "_law_refused" (top 43) f fd) (T:Glb K mg) (C__law_asked:CalA P w K mg base "_law_asked" 7 3 K76.L_asked.f) {XS0:Addr} {XC6:Addr} (XT_6:XT K mg 6 "SpanError" XC6 XS0) (CX__law_asked_6:CalX P w K mg base "_law_asked" 7 3 K76.X__law_asked_6.f XC6):FnOk P w K mg base CX0 8 f fd ["_law_which","_law_bundle","_law_names_here"] (spF K 3 K76.L_refused.f):=by
 have nd:=sc__law_refused.nd
 obtain ⟨D0_3,D0_1,D0_4,D0_8,D0_2,D0_7,D0_12,D0_9,D0_5,D0_11,D0_10,m0_3,m0_1,m0_4,m0_8,m0_2,m0_7,m0_12,m0_9,m0_5,m0_11,m0_10,it0⟩:=T.isxT_0
 refine jD (k:=7) (g:=K76.L_refused.g) Fn sc__law_refused (fun cdv A outer s H E hr=>?_) (fun ds r hl e=>zY e)
 exact (zC (psv_try (i:=3) (t:=6) nd XT_6.gl XT_6.cat XT_6.nm (fun W=>(psv_drop (pv_callA C__law_asked hr (zF (zM 0) (zF (zM 1) (zF (zM 2) zO))))))
  (fun W=>thr_expr CX__law_asked_6 hr (zD (pnV 0) (zD (pnV 1) (zD (pnV 2) zL))))
  (fun ea oe xe hH=>(zC (qW (i:=4) nd (pv_isxT (i:=3) T.b_isinstance (jG m0_3 (jG m0_1 (jG m0_4 (jG m0_8 (jG m0_2 (jG m0_7 (jG m0_12 (jG m0_9 (jG m0_5 (jG m0_11 (jG m0_10 pac_nil))))))))))) it0))
  (zG (zW (PV.w (vT (pv_isx (i:=3) T.b_isinstance T.isx_NoName_6) (vT (pv_isxB (i:=3) T.b_isinstance T.b_ValueError T.isxB_ValueError_6) (vY (pv_not (zM 4)))))))))))
  (zG (zW (PV.w vQ))))
theorem sc__law_lies:FnScope ["_law_bundle","_law_names_here","_law_laid_names","_law_at","_law_name"] ["_law_bundle","_law_names_here","_law_laid_names"] (zH (top 44)):={}
theorem fok__law_lies {f:Addr} {fd:FuncData} (Fn:Fun K "_law_lies" "_law_lies" (top 44) f fd) (T:Glb K mg) (M_names_at:MCal P w K mg base "names_at" 3 1 [12] GP.M_names_at_db16e3) (M_only:MCal P w K mg base "only" 2 1 [12] GP.M_only_cc8d83):FnOk P w K mg base CX0 4 f fd ["_law_bundle","_law_names_here","_law_laid_names"] (spF K 3 K76.L_lies.f):=by
 have nd:=sc__law_lies.nd
 have nI0:(["_law_place","_law_bundle"]:List Str).Nodup:=by decide +kernel
 refine jD (k:=3) (g:=K76.L_lies.g) Fn sc__law_lies (fun cdv A outer s H E hr=>?_) (fun ds r hl e=>zY e)
 exact (zC (psv_compV (i:=3) nd (NY:=["_law_place","_law_bundle"]) (mp:=[none,some 0]) (jQ (by kernel_rfl)) rfl (jW (PVf.s (qH (zF (pv_neg qI) (zF qI (zF qI zO)))))) (fun c=>(qC (i:=0) nI0)) (fun c=>vB) (fun c=>(vL M_names_at hr (zM 1) (zD (pnV 0) zL))))
  (zC (zV (pt_ne hr (pnV 3) (PV.n (PVf.s (qH (zF (PVf.s (qH zO)) (zF (PVf.s (xA T.b_sorted (zE 2))) (zF (PVf.s (qH zO)) zO))))))) (zG (zW (PV.w vQ))) zK)
  (zC (yA PassesOwn.never rfl (jW (PVf.s (pvf_slice (zE 1) yW (yY pwI)))) (qC (i:=4) nd) (zG (zV (pt_ne hr (PV.n (vL M_only hr (zM 0) (zD (pnV 4) zL))) (PV.n (PVf.s (pvf_repF (qH (zF (jR (zF qI (zF qI (zF qI zO)))) zO)) (PV.w (pv_int1 T.b_int (zS (PV.w (pv_in (pnV 4) (pnV 2))) qD))))))) (zG (zW (PV.w vQ))) zK)))
  (zG (zW (PV.w vQ))))))
theorem sc_law:FnScope ["_law_script","_law_names_here","_law_odd","_law_handed","_law_bundle","_law_laid_names","_law_k","_law_cell","_law_at","_law_strange","_law_cut_at","_law_which","_law_more"] ["_law_script"] (zH (top 45)):={}
theorem fok_law {f:Addr} {fd:FuncData} (Fn:Fun K "law" "law" (top 45) f fd) (T:Glb K mg) (C__law_names:Cal P w K mg base "_law_names" 1 2 K76.L_names.f) (C__law_odd_list:CalA P w K mg base "_law_odd_list" 2 2 K76.L_odd_list.f) (C__law_cell_at:Cal P w K mg base "_law_cell_at" 1 2 GL.cell_at.f) (C__law_spoilt:Cal P w K mg base "_law_spoilt" 1 2 K76.L_spoilt.f) (C__law_lies:Cal P w K mg base "_law_lies" 4 3 K76.L_lies.f) (C__law_refused:Cal P w K mg base "_law_refused" 8 3 K76.L_refused.f) (M_lay:LCal P w K mg base "lay" 6 2 [12] (fun _=>GP.Bundle_lay.f)) (M_names_at:MCal P w K mg base "names_at" 3 1 [12] GP.M_names_at_db16e3) (Mk_Bundle_0:LMk P w K mg base 24 3 1 0 GP.Bundle___init__.f):FnOk P w K mg base CX0 9 f fd ["_law_script"] (spF K 1 K76.law.f):=by
 have nd:=sc_law.nd
 refine jD (k:=8) (g:=K76.law.g) Fn sc_law (fun cdv A outer s H E hr=>?_) (fun ds r hl e=>zY e)
 exact (zC (qW (i:=1) nd (zU C__law_names hr (zD (PV.n (qX pwI (PV.w (qG (PV.w (zU C__law_cell_at hr (zD (pnV 0) (zD pnI zL)))) pwI)))) (zD (PV.n (zU C__law_cell_at hr (zD (pnV 0) (zD pnI zL)))) zL))))
  (zC (qW (i:=2) nd (pv_callA C__law_odd_list hr (zF (zM 1) (zF (zU C__law_cell_at hr (zD (pnV 0) (zD pnI zL))) zO))))
  (zC (qW (i:=3) nd (PVf.s (wF T.b_list (zE 2))))
  (zC (zV (PWv.t (vN (yD (PVn.t (PV.n (zU C__law_refused hr (zD pnI (zD (PV.n jA) (zD (pnV 3) zL))))))) (xD (pt_ne hr (pnV 3) (pnV 2))))) (zG (zW (PV.w vQ))) zK)
  (zC (psv_setB (i:=4) nd (pvo_make Mk_Bundle_0 hr (zF (PVf.s (wF T.b_list (zE 1))) zO)))
  (zC (yC (i:=5) nd (qH zO))
  (zC (yA PassesOwn.never rfl (xR T.b_range (jJ T.b_len (zS (zE 1) qD))) (qC (i:=6) nd) (zG (zV (yB hr (PV.n (qG (PV.w (zU C__law_cell_at hr (zD (pnV 0) (zD (PV.n (qX pwI (zE 6))) zL)))) pwI)) pnI) (zC (xX (i:=5) (qP (zE 1) (zE 6)))
  (zG (psv_lent M_lay hr (xF 4) (zF (qP (zE 1) (zE 6)) (zF (jR (zF qI (zF qI zO))) zO))))) zK)))
  (zC (qW (i:=7) nd (zU C__law_cell_at hr (zD (pnV 0) (zD pnI zL))))
  (zC (qW (i:=8) nd (qG (PV.w (qN (zE 7) pwI)) (PV.w (jJ T.b_len (zS (zE 1) qD)))))
  (zC (qW (i:=9) nd (zU C__law_spoilt hr (zD (PV.n (qP (zE 1) (zE 8))) (zD (PV.n (qN (zE 7) pwI)) zL))))
  (zC (zV (pt_gt (PV.w (qG (zE 7) pwI)) pwI) (zC (qW (i:=10) nd (qG (PV.w (qN (zE 7) pwI)) pwI))
  (zG (qW (i:=9) nd (wA (PV.w (qX (PV.w (qX (PV.w (wA (PV.w (qP (zE 1) (zE 8))) yW (yY (zE 10)))) (PV.w vX))) (PV.w (wA (PV.w (qP (zE 1) (zE 8))) (yY (PV.w (qX (zE 10) pwI))) yW)))) yW (yY pwI))))) zK)
  (zC (yA PassesOwn.never rfl (jW (qP (PV.w (PVf.s (qH (zF (PVf.s (qH (zF qI (zF qI (zF qI zO))))) (zF (PVf.s (qH (zF qI (zF qI (zF qI zO))))) (zF (PVf.s (qH (zF qI (zF qI (zF qI zO))))) zO)))))) (PV.w (qG (PV.w (qN (zE 7) pwI)) pwI)))) (qC (i:=11) nd) (zG (zV (kF 4 (yD (PVn.t (PV.n (zU C__law_refused hr (zD (pnV 11) (zD (pnV 4) (zD (PV.n (PVf.s (qH (zF (zM 9) zO)))) zL)))))))) (zG (zW (PV.w vQ))) zK)))
  (zC (zV (kF 4 (yD (PVn.t (PV.n (zU C__law_lies hr (zD (pnV 4) (zD (pnV 1) (zD (pnV 5) zL)))))))) (zG (zW (PV.w vQ))) zK)
  (zC (zV (pt_gt (PV.w (qG (zE 7) pwI)) pwI) (zC (psv_setB (i:=12) nd (pvo_make Mk_Bundle_0 hr (zF (PVf.s (pvf_cat (PV.w (PVf.s (pvf_slice (zE 1) yW (yY pwI)))) (PV.w (PVf.s (qH (zF (zM 9) zO)))))) zO)))
  (zC (psv_lent M_lay hr (xF 12) (zF (zM 9) (zF (jR (zF qI (zF qI zO))) zO)))
  (zG (zV (kF 12 (pt_ne hr (PV.n (vL M_names_at hr (zM 12) (zD pnI zL))) (PV.n (PVf.s (qH (zF (zM 9) zO)))))) (zG (zW (PV.w vQ))) zK)))) zK)
  (zC (psv_lent M_lay hr (xF 4) (zF (qP (zE 1) (zE 8)) (zF (jR (zF qI (zF qI zO))) zO)))
  (zG (zW (PV.w (vT (pv_eq hr (PV.n (pv_ofO (pvo_relV 4 (pvo_l (pvf_meth M_names_at hr (zM 4) (zD pnI zL)))))) (PV.n (PVf.s (qH (zF (qP (zE 1) (zE 8)) zO))))) (vY (pv_eq hr (PV.n (pv_ofO (pvo_relV 4 (pvo_l (pvf_meth M_names_at hr (zM 4) (zD pnI zL)))))) (PV.n (PVf.s (xA T.b_sorted (zE 5)))))))))))))))))))))))))
end
end K76
namespace K76
open PySem PyProof.Rows L2 FL
open Builtin.Int (intBits)
noncomputable def lt5 (n:Int):Nat:=(97+n % 25).toNat
theorem lt5_ok (n:Int):97<=lt5 n/\lt5 n<=121:=by unfold lt5; omega
theorem lt5_eq {a b:Int} (h:lt5 a=lt5 b):a % 25=b % 25:=by unfold lt5 at h; omega
noncomputable def abyL:List Nat:=[97,98,99,100,101,102,103,104,105,106,107,108,109,110,111,112,113,114,115,116,117,118,119,120,121]
theorem t_aby:Str.ofString "abcdefghijklmnopqrstuvwxy" = txS abyL:=by decide
theorem aby_at (n:Int):ixD (.str (Str.ofString "abcdefghijklmnopqrstuvwxy")) (.int (n % 25))=some (.str (txS [lt5 n])):=by
 have h0:=Int.emod_nonneg n (show (25:Int)≠0 by decide)
 have h1:=Int.emod_lt_of_pos n (show (0:Int) < 25 by decide)
 unfold lt5
 generalize n % 25=i at *
 have e:ixD (.str (txS abyL)) (.int i)=(abyL[i.toNat]?).map fun c=>D.str (txS [c]):=by
  show (if (txS abyL).length<=sizeLine then (atI abyL i).map fun c=>D.str ⟨#[c]⟩ else none)=_
  rw [jT,if_pos (by decide)]
  unfold atI
  rw [vP h0 (by show i < 25; exact h1)]
  rfl
 have e2:abyL=List.range' 97 25:=by decide
 have e3:abyL[i.toNat]? = some (97+i.toNat):=by
  rw [e2,List.getElem?_range' (by omega)]; simp
 rw [t_aby,e,e3,show (97+i).toNat=97+i.toNat by omega]
 rfl
noncomputable def An (c:Int) (j:Nat):Int:=c / ((j:Int)+2)+(j:Int) * (j:Int) * 5
noncomputable def b25 (c:Int) (size:Nat) (core:Int):List Nat:=(List.range size).map fun j=>lt5 (An c j+stepN 25 core (((j:Int)+c / 7) % (size:Int)))
theorem b25_len (c:Int) (size:Nat) (core:Int):(b25 c size core).length=size:=by simp [b25]
theorem b25_ltr (c:Int) (size:Nat) (core:Int):∀ q∈b25 c size core,97<=q/\q<=121:=fun q hq=>by
 obtain ⟨j,_,rfl⟩:=List.mem_map.mp hq
 exact lt5_ok _
theorem b25_inj {c:Int} {size:Nat} (h2:2<=size) {a b:Int} (ha:0<=a/\a < 625) (hb:0<=b/\b < 625) (h:b25 c size a=b25 c size b):a=b:=by
 have at':∀ j,j < size->lt5 (An c j+stepN 25 a (((j:Int)+c / 7) % (size:Int)))=lt5 (An c j+stepN 25 b (((j:Int)+c / 7) % (size:Int))):=fun j hj=>by
  have:=congrArg (fun l=>l[j]?) h
  simpa [b25,hj] using this
 obtain ⟨j0,l0,e0⟩:=pos_of (c / 7) (size:=size) (by omega) 0 (by omega)
 have q0:=lt5_eq (at' j0 l0)
 rw [e0] at q0
 simp only [stepN,Int.natCast_zero,if_true] at q0
 obtain ⟨j1,l1,e1⟩:=pos_of (c / 7) (size:=size) (by omega) 1 (by omega)
 have q1:=lt5_eq (at' j1 l1)
 rw [e1] at q1
 simp only [stepN] at q1
 have n1 : ¬ ((1:Nat):Int)=0:=by decide
 have n2:((1:Nat):Int)=1:=rfl
 rw [if_neg n1,if_neg n1,if_pos n2,if_pos n2] at q1
 omega
theorem innerK (c core:Int) (sz:Nat) (h1:1<=sz) (h8:sz<=8) (x0 x4 x7 x8:Sl):∃ y7 y8:Sl,forG (rng1 (qF 3)) (qA 7) K76.L_names.b1 [x0,.v (.int c),.v (.str (Str.ofString "abcdefghijklmnopqrstuvwxy")),.v (.int (sz:Int)),x4,.v (.int core),.own [],x7,x8] =
  some (.nx [x0,.v (.int c),.v (.str (Str.ofString "abcdefghijklmnopqrstuvwxy")),.v (.int (sz:Int)),x4,.v (.int core),.own ((b25 c sz core).map fun q=>.str (txS [q])),y7,y8]):=by
 have H:∀ k,k < sz->∀ ds,(fun (j:Nat) (ds:List Sl)=>∃ y7 y8:Sl,ds=[x0,.v (.int c),.v (.str (Str.ofString "abcdefghijklmnopqrstuvwxy")),.v (.int (sz:Int)),x4,.v (.int core),.own (((List.range j).map fun j:Nat=>lt5 (An c j+stepN 25 core (((j:Int)+c / 7) % (sz:Int)))).map fun q=>.str (txS [q])),y7,y8]) k ds->∃ ds1 ds2,qA 7 (.int (k:Int)) ds=some ds1/\K76.L_names.b1 ds1=some (.nx ds2)/\(fun (j:Nat) (ds:List Sl)=>∃ y7 y8:Sl,ds=[x0,.v (.int c),.v (.str (Str.ofString "abcdefghijklmnopqrstuvwxy")),.v (.int (sz:Int)),x4,.v (.int core),.own (((List.range j).map fun j:Nat=>lt5 (An c j+stepN 25 core (((j:Int)+c / 7) % (sz:Int)))).map fun q=>.str (txS [q])),y7,y8]) (k+1) ds2:=by
  intro k hk ds hP
  obtain ⟨y7,y8,rfl⟩:=hP
  have kk:IntMulOk (k:Int) (k:Int):=mulOk_of_bits (wS (m:=64) (by omega)) (wS (m:=64) (by omega)) (by decide)
  have kb:(0:Int)<=(k:Int) * k/\(k:Int) * k<=64:=⟨Int.mul_nonneg (by omega) (by omega),Int.le_trans (Int.mul_le_mul (show (k:Int)<=8 by omega) (show (k:Int)<=8 by omega) (by omega) (by omega)) (by decide)⟩
  have k5:IntMulOk ((k:Int) * k) 5:=mulOk_of_bits (wS (m:=64) (by omega)) (wS (m:=64) (by decide)) (by decide)
  have r1:=xJ ((k:Int)+c / 7) (show 0 < (sz:Int) by omega)
  have r0:=Int.emod_nonneg ((k:Int)+c / 7) (show (sz:Int)≠0 by omega)
  have st:=step_at 25 core (((k:Int)+c / 7) % (sz:Int)) r0
  have f1:=fdivD_small c (show 0 < (k:Int)+2 by omega) (by omega)
  have ab:=aby_at (An c k+stepN 25 core (((k:Int)+c / 7) % (sz:Int)))
  generalize hst:stepN 25 core (((k:Int)+c / 7) % (sz:Int))=sv at *
  generalize hr:((k:Int)+c / 7) % (sz:Int)=r at *
  refine ⟨_,_,rfl,?_,.v (.int (k:Int)),.v (.int sv),rfl⟩
  have z:k < 16777216:=by omega
  unfold An at ab
  rw [List.range_succ,List.map_append,List.map_append]
  simp only [List.map_cons,List.map_nil,hr,hst]
  generalize hR:(List.map (fun q=>D.str (txS [q])) (List.map (fun j:Nat=>lt5 (An c j+stepN 25 core (((j:Int)+c / 7) % (sz:Int)))) (List.range k)))=R
  have lR:R.length=k:=by rw [<- hR]; simp
  unfold An
  generalize hL:D.str (Str.ofString "abcdefghijklmnopqrstuvwxy")=L at *
  unfold K76.L_names.b1
  rw [zQ (ds':=[x0,.v (.int c),.v L,.v (.int (sz:Int)),x4,.v (.int core),.own R,.v (.int (k:Int)),.v (.int sv)]) (by simp [r1,mnD,st])]
  simp [f1,mulD_ok kk,mulD_ok k5,ab,lR,z]
 obtain ⟨ds',e,y7,y8,hP⟩:=yR (ga:=qA 7) (body:=K76.L_names.b1) _ sz H sz 0 _ (by omega) ⟨x7,x8,rfl⟩
 subst hP
 refine ⟨y7,y8,?_⟩
 rw [<- rangeD_range'] at e
 have ok:okR (sz:Int):=vC (by omega) (by omega)
 rw [xQ]
 simp only [List.range_zero,List.map_nil] at e
 simp [ok,e,b25]
noncomputable def szN (c:Int):Nat:=(2+c % 7).toNat
theorem szN_ok (c:Int):2+c % 7=(szN c:Int)/\2<=szN c/\szN c<=8:=by unfold szN; omega
noncomputable def nmsK (c:Int) (m:Nat):List Str:=(List.range m).map fun i:Nat=>txS (b25 c (szN c) (i:Int))
theorem names_eq (c:Int) (m:Nat) (hm:m<=1000):K76.L_names.f [.int (m:Int),.int c]=some (.fresh ((nmsK c m).map D.str)):=by
 obtain ⟨hs,h2,h8⟩:=szN_ok c
 generalize hsz:szN c=sz at *
 have H:∀ k,k < m->∀ ds,(fun (j:Nat) (ds:List Sl)=>∃ y5 y6 y7 y8:Sl,ds=[.v (.int (m:Int)),.v (.int c),.v (.str (Str.ofString "abcdefghijklmnopqrstuvwxy")),.v (.int (sz:Int)),.own (((List.range j).map fun i:Nat=>txS (b25 c sz (i:Int))).map D.str),y5,y6,y7,y8]) k ds->∃ ds1 ds2,qA 5 (.int (k:Int)) ds=some ds1/\K76.L_names.b2 ds1=some (.nx ds2)/\(fun (j:Nat) (ds:List Sl)=>∃ y5 y6 y7 y8:Sl,ds=[.v (.int (m:Int)),.v (.int c),.v (.str (Str.ofString "abcdefghijklmnopqrstuvwxy")),.v (.int (sz:Int)),.own (((List.range j).map fun i:Nat=>txS (b25 c sz (i:Int))).map D.str),y5,y6,y7,y8]) (k+1) ds2:=by
  intro k hk ds hP
  obtain ⟨y5,y6,y7,y8,rfl⟩:=hP
  dsimp only
  rw [List.range_succ,List.map_append,List.map_append]
  simp only [List.map_cons,List.map_nil]
  generalize hR:(List.map D.str (List.map (fun i:Nat=>txS (b25 c sz (i:Int))) (List.range k)))=R
  have lR:R.length=k:=by rw [<- hR]; simp
  have z:k < 16777216:=by omega
  obtain ⟨z7,z8,ei⟩:=innerK c (k:Int) sz (by omega) h8 (.v (.int (m:Int))) (.own R) y7 y8
  have jn:=join_ltrs (b25 c sz (k:Int)) (by rw [b25_len]; omega)
  generalize b25 c sz (k:Int)=B at *
  refine ⟨_,[.v (.int (m:Int)),.v (.int c),.v (.str (Str.ofString "abcdefghijklmnopqrstuvwxy")),.v (.int (sz:Int)),.own (R++[D.str (txS B)]),.v (.int (k:Int)),.own (B.map fun q=>.str (txS [q])),z7,z8],rfl,?_,_,_,_,_,rfl⟩
  simp only [List.set_cons_succ,List.set_cons_zero]
  unfold K76.L_names.b2
  generalize hL:D.str (Str.ofString "abcdefghijklmnopqrstuvwxy")=L at *
  rw [zQ (ds':=[.v (.int (m:Int)),.v (.int c),.v L,.v (.int (sz:Int)),.own R,.v (.int (k:Int)),.own [],y7,y8]) (by simp),zQ ei]
  simp [jn,lR,z]
 obtain ⟨ds',e,y5,y6,y7,y8,hP⟩:=yR (ga:=qA 5) (body:=K76.L_names.b2) _ m H m 0 _ (by omega) ⟨.no,.no,.no,.no,rfl⟩
 subst hP
 rw [<- rangeD_range'] at e
 have ok:okR (m:Int):=vC (by omega) (by omega)
 have fl:flats (((List.range m).map fun i:Nat=>txS (b25 c sz (i:Int))).map D.str)=true:=by
  generalize (List.range m).map (fun i:Nat=>txS (b25 c sz (i:Int)))=l
  induction l with
  | nil=>simp
  | cons a r ih=>simp [ih,flat]
 refine jL ?_
 unfold K76.L_names.g nmsK
 rw [hsz]
 simp only [List.range_zero,List.map_nil] at e
 generalize hL:D.str (Str.ofString "abcdefghijklmnopqrstuvwxy")=L at *
 generalize hR:((List.range m).map fun i:Nat=>txS (b25 c sz (i:Int))).map D.str=R at *
 rw [zQ (ds':=[.v (.int (m:Int)),.v (.int c),.v L,.no,.no,.no,.no,.no,.no]) (by simp [args,hL]),
  zQ (ds':=[.v (.int (m:Int)),.v (.int c),.v L,.v (.int (sz:Int)),.no,.no,.no,.no,.no]) (by simp [hs]),
  zQ (ds':=[.v (.int (m:Int)),.v (.int c),.v L,.v (.int (sz:Int)),.own [],.no,.no,.no,.no]) (by simp),
  zQ (ds':=[.v (.int (m:Int)),.v (.int c),.v L,.v (.int (sz:Int)),.own R,y5,y6,y7,y8]) (by rw [xQ]; simp [ok,e])]
 simp [retXG,flatF,fl]
theorem nms_len (c:Int) (m:Nat):(nmsK c m).length=m:=by simp [nmsK]
def NmY (x:Str):Prop:=∃ cs:List Nat,2<=cs.length/\cs.length<=8/\(∀ q∈cs,97<=q/\q<=121)/\x=txS cs
theorem NmY.nm {x:Str} (h:NmY x):NmS x:=by
 obtain ⟨cs,h2,h8,hl,rfl⟩:=h
 exact ⟨cs,⟨by omega,h8,fun q hq=>by have:=hl q hq; omega⟩,rfl⟩
theorem nms_ok (c:Int) (m:Nat):∀ x∈nmsK c m,NmY x:=fun x hx=>by
 obtain ⟨i,_,rfl⟩:=List.mem_map.mp hx
 obtain ⟨_,h2,h8⟩:=szN_ok c
 exact ⟨_,by rw [b25_len]; exact h2,by rw [b25_len]; exact h8,b25_ltr _ _ _,rfl⟩
theorem nms_nd (c:Int) (m:Nat) (hm:m<=600):(nmsK c m).Nodup:=by
 unfold nmsK
 rw [List.Nodup,List.pairwise_map]
 refine List.Pairwise.imp_of_mem ?_ List.nodup_range
 intro i j hi hj hne e
 rw [List.mem_range] at hi hj
 have:=b25_inj (szN_ok c).2.1 (a:=(i:Int)) (b:=(j:Int)) (by omega) (by omega) (txS_inj.mp e)
 omega
theorem noK_len {cs:List Nat} (h:cs.length=0 \/ 8 < cs.length) (hl:cs.length<=1000):GP.is_name.f [.str (txS cs)]=some (.val (.bl false)):=by
 have lf:=len_tx cs (by omega)
 refine jL ?_
 unfold GP.is_name.g
 have ar:args 1 [.str (txS cs)]=[.v (.str (txS cs))]:=by simp [args]
 rw [ar,zQ (ds':=[.v (.str (txS cs))]) (by simp)]
 rcases h with h | h
 · have k1 : (cs.length : Int) < 1 := by omega
   exact vH (by simp [lf,k1])
 · have k1 : ¬ ((cs.length : Int) < 1) := by omega
   have k2:(8:Int) < (cs.length:Int):=by omega
   exact vH (by simp [lf,k1,k2])
theorem noK_char {cs:List Nat} {c:Nat} (hc:c∈cs) (hn:c ∉ abcL) (h1:1<=cs.length) (h8:cs.length<=8):GP.is_name.f [.str (txS cs)]=some (.val (.bl false)):=by
 have lf:=len_tx cs (by omega)
 have comp:compG (viaA (qF 0) asS) [none] (qA 0) (fun _=>some true) (zJ inS (zI 0) (zA (.str (Str.ofString "abcdefghijklmnopqrstuvwxyz")))) [.v (.str (txS cs))]=some (cs.map fun c=>D.bl (decide (c∈abcL))):=by
  rw [t_abc]
  refine yS (items:=cs.map fun c=>D.str (txS [c])) (by simp; rfl) (by simp; omega) ?_
  rw [yM (fun c=>D.str (txS [c])) (fun c=>D.bl (decide (c∈abcL))) cs]
  intro c hc
  have:=in_one abcL c
  exact ⟨_,rfl,by simp [qY,this]⟩
 have al:allD [.lst (cs.map fun c=>D.bl (decide (c∈abcL)))]=some (.bl false):=by
  have e:(cs.map fun c=>D.bl (decide (c∈abcL)))=(cs.map fun c=>decide (c∈abcL)).map D.bl:=by simp
  rw [e,wM]
  have:(cs.map fun c=>decide (c∈abcL)).all id=false:=by
   rw [Bool.eq_false_iff]
   intro z
   have:=List.all_eq_true.mp z (decide (c∈abcL)) (List.mem_map.mpr ⟨c,hc,rfl⟩)
   simp [hn] at this
  rw [this]
 refine jL ?_
 unfold GP.is_name.g
 have ar:args 1 [.str (txS cs)]=[.v (.str (txS cs))]:=by simp [args]
 have k1 : ¬ ((cs.length:Int) < 1):=by omega
 have k2 : ¬ ((8:Int) < (cs.length:Int)):=by omega
 rw [ar,zQ (ds':=[.v (.str (txS cs))]) (by simp),zQ (ds':=[.v (.str (txS cs))]) (by simp [lf,k1,k2])]
 simp only [retG_eq,callB_eq,consA_eq,nilA_eq,mkL_eq,comp,Option.map_some,Option.bind_some,al,flatR]
 simp
theorem noK_non:GP.is_name.f [.non]=some (.val (.bl false)):=by unfold GP.is_name.f runG GP.is_name.g; simp [args]
theorem noK_int (n:Int):GP.is_name.f [.int n]=some (.val (.bl false)):=by unfold GP.is_name.f runG GP.is_name.g; simp [args]
theorem noK_lst (l:List D):GP.is_name.f [.lst l]=some (.val (.bl false)):=by unfold GP.is_name.f runG GP.is_name.g; simp [args]
noncomputable def sgL:List Nat:=[65,66,77,88,89,90,48,49,56,57,32,46,44,45,95,47,123,126,64,91]
theorem t_sg:Str.ofString "ABMXYZ0189 .,-_/{~\x40[" = txS sgL:=by decide
theorem sg_at (n:Int):∃ q,q∈sgL/\ixD (.str (Str.ofString "ABMXYZ0189 .,-_/{~\x40[")) (.int (n % 20))=some (.str (txS [q])):=by
 have h0:=Int.emod_nonneg n (show (20:Int)≠0 by decide)
 have h1:=Int.emod_lt_of_pos n (show (0:Int) < 20 by decide)
 generalize n % 20=i at *
 have e:ixD (.str (txS sgL)) (.int i)=(sgL[i.toNat]?).map fun c=>D.str (txS [c]):=by
  show (if (txS sgL).length<=sizeLine then (atI sgL i).map fun c=>D.str ⟨#[c]⟩ else none)=_
  rw [jT,if_pos (by decide)]
  unfold atI
  rw [vP h0 (by show i < 20; exact h1)]
  rfl
 have hl:i.toNat < sgL.length:=by show i.toNat < 20; omega
 rw [t_sg,e,List.getElem?_eq_getElem hl]
 exact ⟨_,List.getElem_mem hl,rfl⟩
theorem sg_no {q:Nat} (h:q∈sgL):q ∉ abcL/\q < 128:=by
 have:∀ q∈sgL,q ∉ abcL/\q < 128:=by decide
 exact this q h
def Bad (x:Str):Prop:=∃ cs:List Nat,Asc cs/\x=txS cs/\GP.is_name.f [.str x]=some (.val (.bl false))
theorem t_ah:Str.ofString "abcdefgh" = txS [97,98,99,100,101,102,103,104]:=by decide
theorem spoilt_ex {x:Str} (h:NmY x) (c:Int):∃ y,Bad y/\K76.L_spoilt.f [.str x,.int c]=some (.val (.str y)):=by
 obtain ⟨cs,h2,h8,hl,rfl⟩:=h
 obtain ⟨q,hq,eq⟩:=sg_at (c / 4)
 obtain ⟨nq,aq⟩:=sg_no hq
 have asc:Asc cs:=fun z hz=>by have:=hl z hz; omega
 have lf:=len_tx cs (by omega)
 have m0:=Int.emod_nonneg (c / 80) (show (cs.length:Int)≠0 by omega)
 have m1:=Int.emod_lt_of_pos (c / 80) (show 0 < (cs.length:Int) by omega)
 have r1:=xJ (c / 80) (show 0 < (cs.length:Int) by omega)
 obtain ⟨a,ha⟩:∃ a:Nat,c / 80 % (cs.length:Int)=(a:Int):=⟨(c / 80 % (cs.length:Int)).toNat,by omega⟩
 rw [ha] at r1 m1
 have ha':a < cs.length:=by omega
 have s1:=wR cs (b:=a) (by omega)
 have s2:=xT cs (a+1)
 have s3:=xT cs a
 have hnn:((a+1:Nat):Int)=(a:Int)+1:=by omega
 rw [hnn] at s2
 have a1:=vV (cs.take a) [q] (by simp; omega)
 have a2:=vV (cs.take a++[q]) (cs.drop (a+1)) (by simp; omega)
 have a3:=vV (cs.take a++[q]) (cs.drop a) (by simp; omega)
 have a4:=vV cs [97,98,99,100,101,102,103,104] (by simp; omega)
 have s4:=wR (cs++[97,98,99,100,101,102,103,104]) (b:=9) (by simp; omega)
 have l9:(cs++[97,98,99,100,101,102,103,104]).length<=16777216:=by simp; omega
 have lc:cs.length<=16777216:=by omega
 have ascT:∀ {m:Nat},Asc (cs.take m):=fun z hz=>asc z (List.mem_of_mem_take hz)
 have ascD:∀ {m:Nat},Asc (cs.drop m):=fun z hz=>asc z (List.mem_of_mem_drop hz)
 have app:∀ {u v:List Nat},Asc u->Asc v->Asc (u++v):=fun hu hv z hz=>(List.mem_append.mp hz).elim (hu z) (hv z)
 have one:Asc [q]:=fun z hz=>by rw [List.mem_singleton.mp hz]; omega
 have pre:∀ f:FS,qJ (xG 2 (zJ ixD (zA (.str "ABMXYZ0189 .,-_/{~\x40[")) (zJ jO (zJ qL (zI 1) (zA (.int 4))) (zA (.int 20))))) (qJ (xG 3 (zJ jO (zJ qL (zI 1) (zA (.int 80))) (callB lenD (zB (zI 0) zR)))) f) (args 4 [.str (txS cs),.int c])=f [.v (.str (txS cs)),.v (.int c),.v (.str (txS [q])),.v (.int (a:Int))]:=fun f=>by
  rw [zQ (ds':=[.v (.str (txS cs)),.v (.int c),.v (.str (txS [q])),.no]) (by simp [args,eq]),zQ (ds':=[.v (.str (txS cs)),.v (.int c),.v (.str (txS [q])),.v (.int (a:Int))]) (by simp [lf,r1])]
 rcases (by omega:c % 4=0 \/ c % 4=1 \/ c % 4=2 \/ c % 4=3) with h | h | h | h
 · refine ⟨txS (cs.take a ++ [q] ++ cs.drop (a + 1)), ⟨_, app (app ascT one) ascD, rfl, noK_char (c := q) (by simp) nq (by simp; omega) (by simp; omega)⟩, jL ?_⟩
   unfold K76.L_spoilt.g
   rw [pre]
   exact vH (by simp [h,slsS,soP,noP,jT,lc,s1,s2,a1,a2])
 · by_cases h9 : (cs.length : Int) < 8
   · refine ⟨txS (cs.take a ++ [q] ++ cs.drop a), ⟨_, app (app ascT one) ascD, rfl, noK_char (c := q) (by simp) nq (by simp; omega) (by simp; omega)⟩, jL ?_⟩
     unfold K76.L_spoilt.g
     rw [pre,zQ (ds':=[.v (.str (txS cs)),.v (.int c),.v (.str (txS [q])),.v (.int (a:Int))]) (by simp [h])]
     exact vH (by simp [h,lf,h9,slsS,soP,noP,jT,lc,s1,s3,a1,a3])
   · refine ⟨txS [], ⟨[], (fun _ hz => nomatch hz), rfl, noK_len (.inl rfl) (by simp)⟩, jL ?_⟩
     unfold K76.L_spoilt.g
     rw [pre,zQ (ds':=[.v (.str (txS cs)),.v (.int c),.v (.str (txS [q])),.v (.int (a:Int))]) (by simp [h]),zQ (ds':=[.v (.str (txS cs)),.v (.int c),.v (.str (txS [q])),.v (.int (a:Int))]) (by simp [h,lf,h9]),zQ (ds':=[.v (.str (txS cs)),.v (.int c),.v (.str (txS [q])),.v (.int (a:Int))]) (by simp [h]),<- t_empty]
     simp
 · have l8 : ((cs ++ [97, 98, 99, 100, 101, 102, 103, 104]).take 9).length = 9 := by simp; omega
   refine ⟨txS ((cs++[97,98,99,100,101,102,103,104]).take 9),⟨_,(fun z hz=>app asc (fun w hw=>by simp at hw; omega) z (List.mem_of_mem_take hz)),rfl,noK_len (.inr (by omega)) (by omega)⟩,jL ?_⟩
   unfold K76.L_spoilt.g
   rw [pre,zQ (ds':=[.v (.str (txS cs)),.v (.int c),.v (.str (txS [q])),.v (.int (a:Int))]) (by simp [h]),zQ (ds':=[.v (.str (txS cs)),.v (.int c),.v (.str (txS [q])),.v (.int (a:Int))]) (by simp [h]),t_ah]
   have s4':Txt.slice (txS (cs++[97,98,99,100,101,102,103,104])) none (some 9)=txS ((cs++[97,98,99,100,101,102,103,104]).take 9):=s4
   generalize cs++[97,98,99,100,101,102,103,104]=C at *
   exact vH (by simp [h,slsS,soP,noP,a4,jT,l9,s4'])
 · refine ⟨txS [], ⟨[], (fun _ hz => nomatch hz), rfl, noK_len (.inl rfl) (by simp)⟩, jL ?_⟩
   unfold K76.L_spoilt.g
   rw [pre,zQ (ds':=[.v (.str (txS cs)),.v (.int c),.v (.str (txS [q])),.v (.int (a:Int))]) (by simp [h]),zQ (ds':=[.v (.str (txS cs)),.v (.int c),.v (.str (txS [q])),.v (.int (a:Int))]) (by simp [h]),zQ (ds':=[.v (.str (txS cs)),.v (.int c),.v (.str (txS [q])),.v (.int (a:Int))]) (by simp [h]),<- t_empty]
   simp
noncomputable abbrev tLen:FT:=orT (zP (zJ ltD (callB lenD (zB (zI 0) zR)) (zA (.int 1)))) (zP (zJ gtD (callB lenD (zB (zI 0) zR)) (zA (.int 60))))
noncomputable abbrev cNm:FA:=compG (viaA (qF 0) asLT) [none] (qA 0) (fun _=>some true) (qQ 1 GP.is_name.f (zB (zI 0) zR))
theorem len_yes {L:List D} (h:L.length=0 \/ 60 < L.length):tLen [.v (.lst L)]=some true:=by
 unfold tLen
 rcases h with h | h
 · have k1 : (L.length : Int) < 1 := by omega
   simp [k1]
 · have k1 : ¬ ((L.length : Int) < 1) := by omega
   have k2:(60:Int) < (L.length:Int):=by omega
   simp [k1,k2]
theorem len_no {L:List D} (h1:1<=L.length) (h:L.length<=60):tLen [.v (.lst L)]=some false:=by
 have k1 : ¬ ((L.length:Int) < 1):=by omega
 have k2 : ¬ ((60:Int) < (L.length:Int)):=by omega
 unfold tLen
 simp [k1,k2]
theorem nm_comp {L:List D} (h:L.length<=60) (B:D->Bool) (hB:∀ d∈L,GP.is_name.f [d]=some (.val (.bl (B d)))):(notT (testT (callB allD (zB (mkL cNm) zR)))) [.v (.lst L)]=some (!(L.all B)):=by
 have comp:cNm [.v (.lst L)]=some ((L.map B).map D.bl):=by
  refine yS (items:=L) (by simp) (by show L.length<=16777216; omega) ?_
  have:=yM (ga:=qA 0) (fe:=qQ 1 GP.is_name.f (zB (zI 0) zR)) (s0:=qY [none] [.v (.lst L)]) (fun d:D=>d) (fun d=>D.bl (B d)) L fun d hd=>⟨_,rfl,by simp [qY,hB d hd]⟩
  rw [List.map_id'] at this
  rw [this,List.map_map]
  rfl
 have al:=wM (L.map B)
 have e:(L.map B).all id=L.all B:=by rw [List.all_map]; rfl
 rw [e] at al
 generalize cNm=C at *
 generalize (L.map B).map D.bl=Q at *
 simp [comp,al]
theorem xc_len {L:List D} (h:L.length=0 \/ 60 < L.length):K76.X_check_names_6.f [.lst L]=true:=by
 have:=len_yes h
 unfold K76.X_check_names_6.f runX K76.X_check_names_6.x orX ifX
 have ar:args 1 [.lst L]=[.v (.lst L)]:=by simp [args]
 unfold tLen at this
 rw [ar,this]
 simp [alwaysX]
noncomputable def isNm (d:D):Bool:=match GP.is_name.f [d] with | some (.val (.bl b))=>b | _=>false
theorem xc_bad {L:List D} (h1:1<=L.length) (h:L.length<=60) (hB:∀ d∈L,GP.is_name.f [d]=some (.val (.bl true)) \/ GP.is_name.f [d]=some (.val (.bl false))) (hx:∃ d∈L,GP.is_name.f [d]=some (.val (.bl false))):K76.X_check_names_6.f [.lst L]=true:=by
 have l0:=len_no h1 h
 have cp:=nm_comp h isNm fun d hd=>by
  unfold isNm
  rcases hB d hd with e | e <;> rw [e]
 have al:L.all isNm=false:=by
  obtain ⟨d,hd,e⟩:=hx
  rw [Bool.eq_false_iff]
  intro z
  have:=List.all_eq_true.mp z d hd
  unfold isNm at this
  rw [e] at this
  simp at this
 rw [al] at cp
 have ar:args 1 [.lst L]=[.v (.lst L)]:=by simp [args]
 unfold tLen at l0
 unfold cNm at cp
 unfold K76.X_check_names_6.f runX K76.X_check_names_6.x
 rw [ar]
 unfold orX
 rw [Bool.or_eq_true]
 refine .inr ?_
 unfold seqX
 have n1:ifG (orT (zP (zJ ltD (callB lenD (zB (zI 0) zR)) (zA (.int 1)))) (zP (zJ gtD (callB lenD (zB (zI 0) zR)) (zA (.int 60))))) (fun _=>none) qB [.v (.lst L)]=some (.nx [.v (.lst L)]):=by
  unfold ifG; rw [l0]; rfl
 rw [n1]
 simp only
 rw [Bool.or_eq_true]
 refine .inl ?_
 unfold ifX
 rw [cp]
 rfl
theorem cnt_lt:∀ l:List Str,¬ l.Nodup->cntT l < l.length
 | [],h=>absurd List.nodup_nil h
 | x :: r, h => by
   unfold cntT
   have le:=cntT_le r
   by_cases hx:x∈r
   · rw [if_pos hx]; simp; omega
   · rw [if_neg hx]
     have:=cnt_lt r fun z=>h (List.nodup_cons.mpr ⟨hx,z⟩)
     simp; omega
theorem xc_dup {ts:List Str} (h1:1<=ts.length) (h:ts.length<=60) (hn:∀ x∈ts,NmS x) (nd : ¬ ts.Nodup):K76.X_check_names_6.f [.lst (ts.map D.str)]=true:=by
 have l0:=len_no (L:=ts.map D.str) (by simpa using h1) (by simpa using h)
 have cp:=nm_comp (L:=ts.map D.str) (by simpa using h) (fun _=>true) fun d hd=>by
  obtain ⟨x,hx,rfl⟩:=List.mem_map.mp hd
  exact isName (hn x hx)
 have al:(ts.map D.str).all (fun _=>true)=true:=List.all_eq_true.mpr fun _ _=>rfl
 rw [al] at cp
 have ls:lsetE (zI 0) [.v (.lst (ts.map D.str))]=some (.int (cntT ts.reverse:Nat)):=by
  have z:ts.length < 1000:=by omega
  unfold lsetE
  simp [jS,z]
 have lt:=cnt_lt ts.reverse fun z=>nd (by
  have:=List.pairwise_reverse.mp z
  exact this.imp fun h=>Ne.symm h)
 rw [List.length_reverse] at lt
 have ll:(zP (zJ ltD (lsetE (zI 0)) (callB lenD (zB (zI 0) zR)))) [.v (.lst (ts.map D.str))]=some true:=by
  have:(cntT ts.reverse:Int) < (ts.length:Int):=by omega
  generalize lsetE (zI 0)=Q at *
  simp [ls,this]
 have ar:args 1 [.lst (ts.map D.str)]=[.v (.lst (ts.map D.str))]:=by simp [args]
 unfold tLen at l0
 unfold cNm at cp
 unfold K76.X_check_names_6.f runX K76.X_check_names_6.x
 rw [ar]
 unfold orX
 rw [Bool.or_eq_true]
 refine .inr ?_
 unfold seqX
 have n1:ifG (orT (zP (zJ ltD (callB lenD (zB (zI 0) zR)) (zA (.int 1)))) (zP (zJ gtD (callB lenD (zB (zI 0) zR)) (zA (.int 60))))) (fun _=>none) qB [.v (.lst (ts.map D.str))]=some (.nx [.v (.lst (ts.map D.str))]):=by
  unfold ifG; rw [l0]; rfl
 rw [n1]
 simp only
 rw [Bool.or_eq_true]
 refine .inr ?_
 have n2:ifG (notT (testT (callB allD (zB (mkL (compG (viaA (qF 0) asLT) [none] (qA 0) (fun _=>some true) (qQ 1 GP.is_name.f (zB (zI 0) zR)))) zR)))) (fun _=>none) qB [.v (.lst (ts.map D.str))]=some (.nx [.v (.lst (ts.map D.str))]):=by
  unfold ifG; rw [cp]; rfl
 rw [n2]
 simp only
 unfold ifX
 rw [ll]
 rfl
def Rfl (d:D):Prop:=shal 39 d=true/\eqvD d d=true
theorem kH {l:List D} (h:∀ d∈l,Rfl d):neD (.lst l) (.lst l)=some (.bl false)/\eqD (.lst l) (.lst l)=some (.bl true):=by
 have sh:shals 40 l=true:=wZ fun d hd=>(h d hd).1
 have ev:eqvs l l=true:=by
  clear sh
  induction l with
  | nil=>simp
  | cons a r ih=>rw [wT,(h a (.head _)).2,ih fun d hd=>h d (.tail _ hd)]; rfl
 have hs:shal 40 (.lst l)=true:=by simpa using sh
 rw [neD_ok hs hs,eqD_ok hs hs,eqvD_lst,ev]
 exact ⟨rfl,rfl⟩
theorem rfl_str {x:Str} {cs:List Nat} (h:Asc cs) (e:x=txS cs):Rfl (.str x):=by
 subst e
 exact ⟨shal_tx h 39,by simp [eqvD,toPy,PyData.eqv]⟩
theorem vU {x:Str} (h:NmS x):Rfl (.str x):=by
 obtain ⟨cs,h,e⟩:=h
 exact rfl_str h.2.2.asc e
theorem rfl_non:Rfl .non:=⟨by simp,by simp [eqvD,toPy,PyData.eqv]⟩
theorem rfl_int (i:Int):Rfl (.int i):=⟨by simp,by simp⟩
theorem rfl_one {d:D} (h:shal 38 d=true) (h2:eqvD d d=true):Rfl (.lst [d]):=⟨by simp [shals,h],by simp [h2]⟩
theorem odd_ex {ns:List Str} (h1:1<=ns.length) (h59:ns.length<=59) (hn:∀ x∈ns,NmY x) (c:Int):∃ L:List D,K76.L_odd_list.f [.lst (ns.map D.str),.int c]=some (.any (.lst L))/\K76.X_check_names_6.f [.lst L]=true/\∀ d∈L,Rfl d:=by
 have a0:=Int.emod_nonneg (c / 4) (show (ns.length:Int)≠0 by omega)
 have a1:=Int.emod_lt_of_pos (c / 4) (show 0 < (ns.length:Int) by omega)
 have r1:=xJ (c / 4) (show 0 < (ns.length:Int) by omega)
 obtain ⟨a,ha⟩:∃ a:Nat,c / 4 % (ns.length:Int)=(a:Int):=⟨(c / 4 % (ns.length:Int)).toNat,by omega⟩
 rw [ha] at r1 a1
 have hlt:a < ns.length:=by omega
 have ix:ixD (.lst (ns.map D.str)) (.int (a:Int))=some (.str ns[a]):=by
  rw [yJ _ (by omega) (by simpa using a1)]
  simp [hlt]
 have hm:=List.getElem_mem hlt
 have lN:(ns.map D.str).length=ns.length:=by simp
 have rs:∀ d∈ns.map D.str,Rfl d:=fun d hd=>by
  obtain ⟨x,hx,rfl⟩:=List.mem_map.mp hd
  exact vU (hn x hx).nm
 have pre:∀ f:FS,qJ (setOG 2 (lisA (zI 0))) (qJ (xG 3 (zJ jO (zJ qL (zI 1) (zA (.int 4))) (callB lenD (zB (zI 0) zR)))) f) (args 4 [.lst (ns.map D.str),.int c])=f [.v (.lst (ns.map D.str)),.v (.int c),.own (ns.map D.str),.v (.int (a:Int))]:=fun f=>by
  generalize ns.map D.str=NS at *
  rw [zQ (ds':=[.v (.lst NS),.v (.int c),.own NS,.no]) (by simp [args,lisA]),zQ (ds':=[.v (.lst NS),.v (.int c),.own NS,.v (.int (a:Int))]) (by simp [lN,r1])]
 have sk:∀ (k:Int) (g f:FS),¬ c % 4=k->qJ (ifG (zP (zJ eqD (zJ jO (zI 1) (zA (.int 4))) (zA (.int k)))) g qB) f [.v (.lst (ns.map D.str)),.v (.int c),.own (ns.map D.str),.v (.int (a:Int))]=f [.v (.lst (ns.map D.str)),.v (.int c),.own (ns.map D.str),.v (.int (a:Int))]:=fun k g f hk=>by
  rw [zQ (ds':=[.v (.lst (ns.map D.str)),.v (.int c),.own (ns.map D.str),.v (.int (a:Int))]) (by
   have t:(zP (zJ eqD (zJ jO (zI 1) (zA (.int 4))) (zA (.int k)))) [.v (.lst (ns.map D.str)),.v (.int c),.own (ns.map D.str),.v (.int (a:Int))]=some false:=by simp [hk]
   unfold ifG; rw [t]; rfl)]
 have go:∀ (k:Int) (g f:FS) (r:Out),c % 4=k->(∃ q,r = .rt q)->g [.v (.lst (ns.map D.str)),.v (.int c),.own (ns.map D.str),.v (.int (a:Int))]=some r->qJ (ifG (zP (zJ eqD (zJ jO (zI 1) (zA (.int 4))) (zA (.int k)))) g qB) f [.v (.lst (ns.map D.str)),.v (.int c),.own (ns.map D.str),.v (.int (a:Int))]=some r:=fun k g f r hk hr hg=>by
  obtain ⟨q,rfl⟩:=hr
  refine vH ?_
  have t:(zP (zJ eqD (zJ jO (zI 1) (zA (.int 4))) (zA (.int k)))) [.v (.lst (ns.map D.str)),.v (.int c),.own (ns.map D.str),.v (.int (a:Int))]=some true:=by simp [hk]
  unfold ifG
  rw [t]
  simp only [Option.bind_some,if_true]
  exact hg
 unfold K76.L_odd_list.f
 rcases (by omega:c % 4=0 \/ c % 4=1 \/ c % 4=2 \/ c % 4=3) with h | h | h | h
 · refine ⟨[], jL ?_, xc_len (.inl rfl), (fun _ hd => nomatch hd)⟩
   unfold K76.L_odd_list.g
   rw [pre]
   exact go 0 _ _ _ h ⟨_,rfl⟩ (by unfold retAG; simp)
 · obtain ⟨m, hmm⟩ : ∃ m : Nat, 61 + c / 4 % 100 = (m : Int) := ⟨(61 + c / 4 % 100).toNat, by omega⟩
   have nm:=names_eq (c / 4) m (by omega)
   have ln:=nms_len (c / 4) m
   refine ⟨(nmsK (c / 4) m).map D.str,jL ?_,xc_len (.inr (by simp [ln]; omega)),fun d hd=>?_⟩
   · unfold K76.L_odd_list.g
     rw [pre,sk 0 _ _ (by omega)]
     exact go 1 _ _ _ h ⟨_,rfl⟩ (by
      generalize (nmsK (c / 4) m).map D.str=Q at *
      unfold retAG
      simp [hmm,nm])
   · obtain ⟨x, hx, rfl⟩ := List.mem_map.mp hd
     exact vU (nms_ok _ _ x hx).nm
 · have i0 := Int.emod_nonneg (c / 4 / 61) (show ((ns.length : Int) + 1) ≠ 0 by omega)
   have i1:=Int.emod_lt_of_pos (c / 4 / 61) (show 0 < (ns.length:Int)+1 by omega)
   have r2:=xJ (c / 4 / 61) (show 0 < (ns.length:Int)+1 by omega)
   obtain ⟨b,hb⟩:∃ b:Nat,c / 4 / 61 % ((ns.length:Int)+1)=(b:Int):=⟨(c / 4 / 61 % ((ns.length:Int)+1)).toNat,by omega⟩
   rw [hb] at r2 i1
   have hbl:b<=ns.length:=by omega
   have eL:((ns.take b++ns[a]::ns.drop b).map D.str)=(ns.map D.str).take b++.str ns[a]::(ns.map D.str).drop b:=by simp
   have ms:∀ x∈ns.take b++ns[a]::ns.drop b,x∈ns:=fun x hx=>by
    rcases List.mem_append.mp hx with z | z
    · exact List.mem_of_mem_take z
    · rcases List.mem_cons.mp z with z | z
      · rw [z]; exact hm
      · exact List.mem_of_mem_drop z
   have ll:(ns.take b++ns[a]::ns.drop b).length=ns.length+1:=by simp; omega
   refine ⟨(ns.take b++ns[a]::ns.drop b).map D.str,jL ?_,xc_dup (by omega) (by omega) (fun x hx=>(hn x (ms x hx)).nm) ?_,fun d hd=>?_⟩
   · rw [eL]
     unfold K76.L_odd_list.g
     rw [pre,sk 0 _ _ (by omega),sk 1 _ _ (by omega)]
     refine go 2 _ _ _ h ⟨_,rfl⟩ ?_
     have z:ns.length < 16777216:=by omega
     generalize hNS:ns.map D.str=NS at *
     have hbN:((b:Int))<=((NS.length:Nat):Int):=by rw [lN]; omega
     have zN:NS.length < 16777216:=by rw [lN]; omega
     rw [zQ (ds':=[.v (.lst NS),.v (.int c),.own (NS.take b++.str ns[a]::NS.drop b),.v (.int (a:Int))]) (by
      unfold insG
      simp [lN,r2,ix,hbl,z])]
     simp [relS,retAG]
   · intro z
     have z2:=List.nodup_append.mp z
     have z3:=List.nodup_cons.mp z2.2.1
     have:ns[a]∈ns.take b++ns.drop b:=by rw [List.take_append_drop]; exact hm
     rcases List.mem_append.mp this with y | y
     · exact z2.2.2 _ y _ (.head _) rfl
     · exact z3.1 y
   · obtain ⟨x, hx, rfl⟩ := List.mem_map.mp hd
     exact vU (hn x (ms x hx)).nm
 · obtain ⟨y, ⟨cs, asc, ey, by0⟩, es⟩ := spoilt_ex (hn _ hm) (c / 4 / 61)
   obtain ⟨d,hd1,hd2,hd3⟩:∃ d:D,GP.is_name.f [d]=some (.val (.bl false))/\Rfl d/\∀ f:FS,qJ (putG 2 (qF 3) (qQ 2 K76.L_spoilt.f (zB (zJ ixD (zI 0) (zI 3)) (zB (zJ qL (zJ qL (zI 1) (zA (.int 4))) (zA (.int 61))) zR)))) (qJ (ifG (zP (zJ eqD (zJ jO (zJ qL (zJ qL (zI 1) (zA (.int 4))) (zA (.int 61))) (zA (.int 8))) (zA (.int 5)))) (putG 2 (qF 3) (zJ ixD (mkL (zZ (zB (zA .non) (zB (zA (.int 7)) (zB (mkL (zZ (zB (zJ ixD (zI 0) (zI 3)) zR))) zR))))) (zJ jO (zJ qL (zJ qL (zI 1) (zA (.int 4))) (zA (.int 488))) (zA (.int 3))))) qB) f) [.v (.lst (ns.map D.str)),.v (.int c),.own (ns.map D.str),.v (.int (a:Int))]=f [.v (.lst (ns.map D.str)),.v (.int c),.own ((ns.map D.str).set a d),.v (.int (a:Int))]:=by
    have px:ixN (ns.map D.str).length (a:Int)=some a:=by rw [vP (by omega) (by rw [lN]; omega)]; simp
    have s1:∀ f:FS,qJ (putG 2 (qF 3) (qQ 2 K76.L_spoilt.f (zB (zJ ixD (zI 0) (zI 3)) (zB (zJ qL (zJ qL (zI 1) (zA (.int 4))) (zA (.int 61))) zR)))) f [.v (.lst (ns.map D.str)),.v (.int c),.own (ns.map D.str),.v (.int (a:Int))]=f [.v (.lst (ns.map D.str)),.v (.int c),.own ((ns.map D.str).set a (.str y)),.v (.int (a:Int))]:=fun f=>by
     generalize ns.map D.str=NS at *
     rw [zQ (ds':=[.v (.lst NS),.v (.int c),.own (NS.set a (.str y)),.v (.int (a:Int))]) (by
      unfold putG
      simp [ix,es,px])]
    by_cases h5:c / 4 / 61 % 8=5
    · obtain ⟨e,he1,he2,he3⟩:∃ e:D,GP.is_name.f [e]=some (.val (.bl false))/\Rfl e/\ixD (.lst [.non,.int 7,.lst [.str ns[a]]]) (.int (c / 4 / 488 % 3))=some e:=by
       rcases (by omega:c / 4 / 488 % 3=0 \/ c / 4 / 488 % 3=1 \/ c / 4 / 488 % 3=2) with q | q | q <;> rw [q]
       · exact ⟨.non,noK_non,rfl_non,rfl⟩
       · exact ⟨.int 7,noK_int 7,rfl_int 7,rfl⟩
       · obtain ⟨q1, q2⟩ := vU (hn _ hm).nm
         refine ⟨.lst [.str ns[a]],noK_lst _,rfl_one ?_ q2,rfl⟩
         simpa [shal] using q1
      refine ⟨e,he1,he2,fun f=>?_⟩
      rw [s1]
      have px2:ixN ((ns.map D.str).set a (.str y)).length (a:Int)=some a:=by rw [List.length_set]; exact px
      have ss:((ns.map D.str).set a (.str y)).set a e=(ns.map D.str).set a e:=List.set_set ..
      generalize ns.map D.str=NS at *
      rw [zQ (ds':=[.v (.lst NS),.v (.int c),.own ((NS.set a (.str y)).set a e),.v (.int (a:Int))]) (by
       have t:(zP (zJ eqD (zJ jO (zJ qL (zJ qL (zI 1) (zA (.int 4))) (zA (.int 61))) (zA (.int 8))) (zA (.int 5)))) [.v (.lst NS),.v (.int c),.own (NS.set a (.str y)),.v (.int (a:Int))]=some true:=by simp [h5]
       unfold ifG
       rw [t]
       simp only [Option.bind_some,if_true]
       unfold putG
       simp [ix,he3,px2,px]),ss]
    · refine ⟨.str y, by rw [ey] at by0 ⊢; exact by0, rfl_str asc ey, fun f => ?_⟩
      rw [s1]
      rw [zQ (ds':=[.v (.lst (ns.map D.str)),.v (.int c),.own ((ns.map D.str).set a (.str y)),.v (.int (a:Int))]) (by
       have t:(zP (zJ eqD (zJ jO (zJ qL (zJ qL (zI 1) (zA (.int 4))) (zA (.int 61))) (zA (.int 8))) (zA (.int 5)))) [.v (.lst (ns.map D.str)),.v (.int c),.own ((ns.map D.str).set a (.str y)),.v (.int (a:Int))]=some false:=by simp [h5]
       unfold ifG
       rw [t]; rfl)]
   have mem:∀ e∈(ns.map D.str).set a d,e∈ns.map D.str \/ e=d:=fun e he=>List.mem_or_eq_of_mem_set he
   refine ⟨(ns.map D.str).set a d,jL ?_,xc_bad (by simp; omega) (by simp; omega) (fun e he=>?_) ⟨d,List.mem_set (by simpa using hlt) _,hd1⟩,fun e he=>?_⟩
   · unfold K76.L_odd_list.g
     rw [pre,sk 0 _ _ (by omega),sk 1 _ _ (by omega),sk 2 _ _ (by omega),hd3]
     simp [relS,retAG]
   · rcases mem e he with z | z
     · obtain ⟨x, hx, rfl⟩ := List.mem_map.mp z
       exact .inl (isName (hn x hx).nm)
     · rw [z]; exact .inr hd1
   · rcases mem e he with z | z
     · exact rs e z
     · rw [z]; exact hd2
theorem refused_of {a b c:D} (h:K76.X__law_asked_6.f [a,b,c]=true):K76.L_refused.f [a,b,c]=some (.val (.bl true)):=by
 refine jL ?_
 unfold K76.L_refused.g
 refine vH ?_
 unfold tryG callX
 simp [args,h,isxG,List.lookup,goneO]
theorem refused0 {L:List D} (h:K76.X_check_names_6.f [.lst L]=true):K76.L_refused.f [.int 0,.non,.lst L]=some (.val (.bl true)):=by
 refine refused_of ?_
 have hi:K76.X_Bundle___init___6.f [.lst L]=true:=by
  unfold K76.X_Bundle___init___6.f runXN K76.X_Bundle___init___6.x callX
  simp [argsN,args,h]
 unfold K76.X__law_asked_6.f runX K76.X__law_asked_6.x orX ifX callX
 simp [args,hi]
def Str' (b:Bs) (y:Str):Prop:=GP.is_name.f [.str y]=some (.val (.bl false)) \/ (GP.is_name.f [.str y]=some (.val (.bl true))/\y ∉ b.map (·.1))
theorem x_only {b:Bs} {y:Str} (h:Str' b y):K76.X_Bundle_only_6.f [.ins 12 [.dcf (bkN b) (bkV b)],.str y]=true:=by
 unfold K76.X_Bundle_only_6.f runX K76.X_Bundle_only_6.x ifX
 rcases h with h | ⟨h,hy⟩
 · simp [args,h,alwaysX]
 · have hk:hasK (.inr y) (bkN b)=false:=by
    have:=keyInr hy
    rwa [List.map_map] at this
   have f1:∀ ds:List Sl,ds[0]? = some (.v (.ins 12 [.dcf (bkN b) (bkV b)]))->fldG [(12,0)] (qF 0) ds=some (.dcf (bkN b) (bkV b)):=fun ds hd=>by simp [fldG,qF,hd,fldD,List.lookup]
   simp [args,h,dnotG,dinG,f1,keyD,kdD,hk,alwaysX]
theorem refusedB {b:Bs} {y:Str} (h:Str' b y) {w:Int} (hw:w=1 \/ w=2 \/ w=3):K76.L_refused.f [.int w,.ins 12 [.dcf (bkN b) (bkV b)],.lst [.str y]]=some (.val (.bl true)):=by
 refine refused_of ?_
 have xo:=x_only h
 generalize D.dcf (bkN b) (bkV b)=M at *
 have xl:∀ s:D,K76.X_Bundle_lay_6.f [.ins 12 [M],.str y,s]=true:=fun s=>by
  unfold K76.X_Bundle_lay_6.f runX K76.X_Bundle_lay_6.x methX
  simp [args,isT,xo]
 have xf:∀ s:D,K76.X_Bundle_lift_6.f [.ins 12 [M],.str y,s]=true:=fun s=>by
  unfold K76.X_Bundle_lift_6.f runX K76.X_Bundle_lift_6.x methX
  simp [args,isT,xo]
 have i0:ixD (.lst [.str y]) (.int 0)=some (.str y):=rfl
 unfold K76.X__law_asked_6.f runX K76.X__law_asked_6.x
 rcases hw with rfl | rfl | rfl
 · simp [args,orX,ifX,seqX,neverX,methX,isT,i0,xl]
 · simp [args,orX,ifX,seqX,neverX,methX,isT,i0,xf]
 · simp [args,orX,ifX,seqX,neverX,methX,isT,i0,xo]
noncomputable def dsL (s:Spn) (l:List Str):Dvs:=l.map fun x=>(x,(s,some 1))
theorem xZ {s:Spn} (hs:okS s) (l:List Str):∀ d∈dsL s l,okS d.2.1:=fun d hd=>by
 obtain ⟨x,_,rfl⟩:=List.mem_map.mp hd
 exact hs
theorem vE (s:Spn) (y:Str) (p:Int):∀ (l:List Str) (b:Option Int),(b=some 1 \/ b=none)->(dsL s l).foldl (vstep y p) b=if y∈l/\hasS s p=true then some 1 else b
 | [],b,_=>by simp [dsL]
 | x :: l, b, hb => by
   have ih:=vE s y p l (vstep y p b (x,(s,some 1))) (by
    unfold vstep
    split
    · exact .inl rfl
    · exact hb)
   show (dsL s l).foldl (vstep y p) (vstep y p b (x,(s,some 1)))=_
   rw [ih]
   unfold vstep
   by_cases hx:x=y
   · subst hx
     by_cases hh:hasS s p=true
     · simp [hh]
     · simp [hh]
   · have : ¬ y = x := fun z => hx z.symm
     simp [hx,this]
theorem yV {ns:List Str} {ds:Dvs} (ho:∀ d∈ds,okS d.2.1) (p:Int):hereB (bOf ns ds) p=(srtT ns).filter fun x=>(vF ds x p).isSome:=by
 unfold hereB bOf
 rw [List.filter_map,List.map_map]
 have:(fun q:Str×List Rw=>q.1) ∘ (fun x=>(x,mapOf ds x))=id:=rfl
 rw [this,List.map_id]
 refine List.filter_congr fun x _=>?_
 simp only [Function.comp_apply]
 rw [mapOf_val ho]
theorem srt_filter (P:Str->Bool) (ns:List Str):(srtT ns).filter P=srtT (ns.filter P) :=
 leT_unique _ _ (((srtT_perm ns).filter P).trans (srtT_perm _).symm) ((srtT_le ns).filter P) (srtT_le _)
theorem one_of {l:List Str} (nd:l.Nodup) {x:Str} (hx:x∈l):l.filter (fun y=>decide (y=x))=[x]:=by
 induction l with
 | nil=>cases hx
 | cons a r ih =>
   rw [List.nodup_cons] at nd
   rw [List.filter_cons]
   by_cases h:a=x
   · subst h
     have:r.filter (fun y=>decide (y=a))=[]:=List.filter_eq_nil_iff.mpr fun y hy=>by
      have:y≠a:=fun z=>nd.1 (z ▸ hy)
      simp [this]
     simp [this]
   · have hx' : x ∈ r := (List.mem_cons.mp hx).elim (fun z => absurd z.symm h) id
     simp [h,ih nd.2 hx']
theorem map_once {s:Spn} (hs:okS s) {l:List Str} (x:Str) (h:s=(some 0,some 5)):mapOf (dsL s l) x=if x∈l then [(some 0,some 5,some 1)] else []:=by
 subst h
 have ho:=xZ hs l
 have v:=fun p=>mapOf_val ho x p
 have vv:∀ p,vF (dsL (some 0,some 5) l) x p=if x∈l/\hasS (some 0,some 5) p=true then some 1 else none:=fun p=>vE _ x p l none (.inr rfl)
 have m1:MapF [((some 0,some 5,some 1):Rw)]:=⟨⟨(fun r hr=>by cases List.mem_singleton.mp hr; exact hs),List.pairwise_singleton _ _⟩,(fun r hr=>by cases List.mem_singleton.mp hr; exact (fun z=>nomatch z)),(fun i a b h1 h2=>by simp at h2)⟩
 have mm:=mapOf_map ho x
 by_cases hx:x∈l
 · rw [if_pos hx]
   refine map_one mm m1 fun p w=>?_
   rw [<- yF mm.ord,v p,vv p]
   simp only [hx,true_and,Tel,List.mem_singleton]
   constructor
   · intro e
     by_cases hh:hasS (some 0,some 5) p=true
     · rw [if_pos hh] at e; cases e
       exact ⟨_,rfl,hh,rfl⟩
     · rw [if_neg hh] at e; cases e
   · rintro ⟨r, rfl, hh, e⟩
     have hh':hasS (some 0,some 5) p=true:=hh
     rw [if_pos hh']; exact e
 · rw [if_neg hx]
   refine map_one mm MapF.nil fun p w=>?_
   rw [<- yF mm.ord,v p,vv p]
   simp [hx,Tel]
theorem in_strs (x:Str) (l:List Str):inD false (.str x) (.lst (l.map D.str))=some (.bl (decide (x∈l))):=by
 unfold inD
 have sc:(l.map D.str).all sclD=true:=List.all_eq_true.mpr fun d hd=>by
  obtain ⟨y,_,rfl⟩:=List.mem_map.mp hd
  rfl
 have an:(l.map D.str).any (fun z=>eqvD z (.str x))=decide (x∈l):=by
  clear sc
  induction l with
  | nil=>simp
  | cons a r ih =>
    rw [List.map_cons,List.any_cons,ih]
    have:eqvD (.str a) (.str x)=decide (a=x):=by
     simp only [eqvD,toPy,PyData.eqv]
     rw [Bool.eq_iff_iff,beq_iff_eq,decide_eq_true_eq]
    rw [this,Bool.eq_iff_iff,Bool.or_eq_true,decide_eq_true_eq,decide_eq_true_eq,decide_eq_true_eq,List.mem_cons]
    exact ⟨fun z=>z.elim (fun z=>.inl z.symm) .inr,fun z=>z.elim (fun z=>.inl z.symm) .inr⟩
 simp [asLT,sc,sclD,an]
noncomputable def s05:Spn:=(some 0,some 5)
theorem yX:okS s05:=fun a b e1 e2=>by cases e1; cases e2; decide
theorem rfl_strs {l:List Str} (h:∀ x∈l,NmS x):Rfl (.lst (l.map D.str)):=by
 refine ⟨?_,?_⟩
 · have:shals (38+1) (l.map D.str)=true:=wZ fun d hd=>by
    obtain ⟨x,hx,rfl⟩:=List.mem_map.mp hd
    obtain ⟨cs,hc,rfl⟩:=h x hx
    exact shal_tx hc.2.2.asc 38
   simpa using this
 · exact strs_eqv l
theorem mem_P {ns:List Str} (P:Str->Bool) {x:Str} (hx:x∈ns):decide (x∈ns.filter P)=P x:=by
 rw [Bool.eq_iff_iff,decide_eq_true_eq,List.mem_filter]
 exact ⟨fun z=>z.2,fun z=>⟨hx,z⟩⟩
theorem at_in {ns:List Str} (P:Str->Bool) {p:Int} (h:hasS s05 p=true):hereB (bOf ns (dsL s05 (ns.filter P))) p=srtT (ns.filter P):=by
 rw [yV (xZ yX _),<- srt_filter]
 refine List.filter_congr fun x hx=>?_
 have hx':x∈ns:=(srtT_perm ns).mem_iff.mp hx
 have:=vE s05 x p (ns.filter P) none (.inr rfl)
 unfold vF
 rw [this,<- mem_P P hx']
 by_cases hm:x∈ns.filter P <;> simp [hm,h]
theorem at_out {ns:List Str} (P:Str->Bool) {p:Int} (h:hasS s05 p=false):hereB (bOf ns (dsL s05 (ns.filter P))) p=[]:=by
 rw [yV (xZ yX _)]
 refine List.filter_eq_nil_iff.mpr fun x _=>?_
 have:=vE s05 x p (ns.filter P) none (.inr rfl)
 unfold vF
 rw [this]
 simp [h]
theorem lies_eq {ns:List Str} (h1:1<=ns.length) (h59:ns.length<=59) (hn:∀ x∈ns,NmS x) (nd:ns.Nodup) (P:Str->Bool) :
  K76.L_lies.f [.ins 12 [.dcf (bkN (bOf ns (dsL s05 (ns.filter P)))) (bkV (bOf ns (dsL s05 (ns.filter P))))],.lst (ns.map D.str),.lst ((ns.filter P).map D.str)]=some (.val (.bl true)):=by
 have ok:=vR hn nd (xZ yX (ns.filter P))
 have lb:=xP ns (dsL s05 (ns.filter P))
 have na:=fun p=>xC ok (by omega) p
 have n1:=na (-5)
 have n2:=na 0
 have n3:=na 5
 rw [at_out P (by rfl)] at n1 n3
 rw [at_in P (by rfl)] at n2
 have lf:(ns.filter P).length < 64:=by have:=List.length_filter_le P ns; omega
 have on:∀ x∈ns,GP.M_only_cc8d83 12 [.ins 12 [.dcf (bkN (bOf ns (dsL s05 (ns.filter P)))) (bkV (bOf ns (dsL s05 (ns.filter P))))],.str x]=some (.fresh ((mapOf (dsL s05 (ns.filter P)) x).map rwD)):=fun x hx=>only_eq ok (bOf_mem hx _) rfl
 generalize D.dcf (bkN (bOf ns (dsL s05 (ns.filter P)))) (bkV (bOf ns (dsL s05 (ns.filter P))))=M at *
 have comp:compG (viaA (mkL (zZ (zB (un1 negD (zA (.int 5))) (zB (zA (.int 0)) (zB (zA (.int 5)) zR))))) asLT) [none,some 0] (qA 0) (fun _=>some true) (methV 1 [12] GP.M_names_at_db16e3 (qF 1) (zB (zI 0) zR)) [.v (.ins 12 [M]),.v (.lst (ns.map D.str)),.v (.lst ((ns.filter P).map D.str)),.no,.no]=some [.lst [],.lst ((srtT (ns.filter P)).map D.str),.lst []]:=by
  refine yS (items:=[.int (-5),.int 0,.int 5]) (by simp) (by simp) ?_
  simp only [List.map_nil] at n1 n3
  generalize (srtT (ns.filter P)).map D.str=Q at *
  simp [compL,qY,methV,methR,n1,n2,n3]
 have st:srtTA (zI 2) [.v (.ins 12 [M]),.v (.lst (ns.map D.str)),.v (.lst ((ns.filter P).map D.str)),.v (.lst [.lst [],.lst ((srtT (ns.filter P)).map D.str),.lst []]),.no]=some ((srtT (ns.filter P)).map D.str):=by
  unfold srtTA
  simp [jS,lf]
 have ne:=(kH (l:=[.lst [],.lst ((srtT (ns.filter P)).map D.str),.lst []]) fun d hd=>by
  have r0:Rfl (.lst []):=rfl_strs (l:=[]) (fun _ hz=>nomatch hz)
  have r1:=rfl_strs (l:=srtT (ns.filter P)) fun x hx=>hn x (List.mem_filter.mp ((srtT_perm _).mem_iff.mp hx)).1
  rcases List.mem_cons.mp hd with z | z
  · rw [z]; exact r0
  · rcases List.mem_cons.mp z with z | z
    · rw [z]; exact r1
    · rw [List.mem_singleton.mp z]; exact r0).1
 obtain ⟨l4,m4,e4⟩:∃ l4:List Str,(∀ x∈l4,x∈ns)/\cutD (ns.map D.str) none (some 4)=l4.map D.str:=by
  unfold FL.cutD
  rw [<- List.map_drop,<- List.map_take]
  exact ⟨_,fun x hx=>List.mem_of_mem_drop (List.mem_of_mem_take hx),rfl⟩
 have lp:∀ (l:List Str) (x3 x4:Sl),(∀ x∈l,x∈ns)->∃ y,jM (qA 4) K76.L_lies.b1 (l.map D.str) [.v (.ins 12 [M]),.v (.lst (ns.map D.str)),.v (.lst ((ns.filter P).map D.str)),x3,x4]=some (.nx [.v (.ins 12 [M]),.v (.lst (ns.map D.str)),.v (.lst ((ns.filter P).map D.str)),x3,y]):=by
  intro l
  induction l with
  | nil=>intro x3 x4 _; exact ⟨x4,rfl⟩
  | cons x l ih =>
    intro x3 x4 hm
    obtain ⟨y,e⟩:=ih x3 (.v (.str x)) fun z hz=>hm z (.tail _ hz)
    refine ⟨y,?_⟩
    have o1:=on x (hm x (.head _))
    have mo:=map_once (l:=ns.filter P) yX x rfl
    have ii:=in_strs x (ns.filter P)
    have turn:K76.L_lies.b1 [.v (.ins 12 [M]),.v (.lst (ns.map D.str)),.v (.lst ((ns.filter P).map D.str)),x3,.v (.str x)]=some (.nx [.v (.ins 12 [M]),.v (.lst (ns.map D.str)),.v (.lst ((ns.filter P).map D.str)),x3,.v (.str x)]):=by
     have nr:=neD_rw (mapOf (dsL s05 (ns.filter P)) x) (mapOf (dsL s05 (ns.filter P)) x)
     rw [mo] at nr o1
     generalize (ns.filter P).map D.str=FF at *
     unfold K76.L_lies.b1
     by_cases hx:x∈ns.filter P
     · rw [if_pos hx] at nr o1
       rw [decide_eq_true hx] at ii
       simp only [List.map_cons,List.map_nil,rwD,oi] at nr o1
       simp [methV,methR,o1,ii,int1D,repF,nr]
     · rw [if_neg hx] at nr o1
       rw [decide_eq_false hx] at ii
       simp only [List.map_nil] at nr o1
       simp [methV,methR,o1,ii,int1D,repF,nr]
    simp only [List.map_cons,jM,qA,Option.bind_some,List.set_cons_succ,List.set_cons_zero,turn]
    exact e
 obtain ⟨y,el⟩:=lp l4 (.v (.lst [.lst [],.lst ((srtT (ns.filter P)).map D.str),.lst []])) .no m4
 refine jL ?_
 unfold K76.L_lies.g
 generalize hQ:(srtT (ns.filter P)).map D.str=Q at *
 generalize hF:(ns.filter P).map D.str=FF at *
 generalize hN:ns.map D.str=NS at *
 rw [zQ (ds':=[.v (.ins 12 [M]),.v (.lst NS),.v (.lst FF),.v (.lst [.lst [],.lst Q,.lst []]),.no]) (by
   generalize compG (viaA (mkL (zZ (zB (un1 negD (zA (.int 5))) (zB (zA (.int 0)) (zB (zA (.int 5)) zR))))) asLT) [none,some 0] (qA 0) (fun _=>some true) (methV 1 [12] GP.M_names_at_db16e3 (qF 1) (zB (zI 0) zR))=C at *
   simp [args,comp]),
  zQ (ds':=[.v (.ins 12 [M]),.v (.lst NS),.v (.lst FF),.v (.lst [.lst [],.lst Q,.lst []]),.no]) (by
   generalize srtTA (zI 2)=S at *
   simp [st,ne]),
  zQ (ds':=[.v (.ins 12 [M]),.v (.lst NS),.v (.lst FF),.v (.lst [.lst [],.lst Q,.lst []]),y]) (by
   rw [xQ]
   simp [e4,el])]
 simp
theorem slice_any (cs:List Nat) (b:Nat):Txt.slice (txS cs) none (some (b:Int))=txS (cs.take b):=by
 by_cases hl:b<=cs.length
 · exact wR cs hl
 · rw [List.take_of_length_le (by omega)]
   have hc:Txt.slice (txS cs) none (some (b:Int))=Txt.slice (txS cs) none (some (cs.length:Int)):=by
    rw [jP,jP]
    unfold StrLaws.sliceText
    have:Builtin.Str.strSliceIndices none (some (b:Int)) 1 (txS cs).length=Builtin.Str.strSliceIndices none (some (cs.length:Int)) 1 (txS cs).length:=by
     rw [jT]
     generalize cs.length=m at *
     have h1 : ¬ ((b:Int) < 0):=by omega
     have h2 : ¬ ((m:Int) < 0):=by omega
     have e1:max (0:Int) (min (b:Int) (m:Int))=m:=by omega
     have e2:max (0:Int) (min (m:Int) (m:Int))=m:=by omega
     simp only [Builtin.Str.strSliceIndices,h1,h2,if_false,e1,e2,show ((1:Int) > 0)=True from by simp,if_true]
    rw [this]
   rw [hc,wR cs (Nat.le_refl _),List.take_length]
theorem t_z:Str.ofString "z" = txS [122]:=by decide
theorem zname_ex {x:Str} (h:NmY x) (t:Nat) (ht:t<=6):∃ y:Str,NmS y/\¬ NmY y/\∀ (f:FE) (S:List Sl),f S=some (.str x)->S[10]? = some (.v (.int (t:Int))) →
  (slsS (zJ yG (zJ yG (slsS f noP (soP (zI 10))) (zA (.str "z"))) (slsS f (soP (zJ yG (zI 10) (zA (.int 1)))) noP)) noP (soP (zA (.int 8)))) S=some (.str y):=by
 obtain ⟨cs,h2,h8,hl,rfl⟩:=h
 have s1:=slice_any cs t
 have s2:=xT cs (t+1)
 have hnn:((t+1:Nat):Int)=(t:Int)+1:=by omega
 rw [hnn] at s2
 have a1:=vV (cs.take t) [122] (by simp; omega)
 have a2:=vV (cs.take t++[122]) (cs.drop (t+1)) (by simp; omega)
 have ll:(cs.take t++[122]++cs.drop (t+1)).length<=8:=by simp; omega
 have s3:=slice_any (cs.take t++[122]++cs.drop (t+1)) 8
 rw [List.take_of_length_le ll] at s3
 have s3':Txt.slice (txS (cs.take t++[122]++cs.drop (t+1))) none (some 8)=txS (cs.take t++[122]++cs.drop (t+1)):=s3
 refine ⟨txS (cs.take t++[122]++cs.drop (t+1)),⟨_,⟨by simp; omega,ll,fun q hq=>?_⟩,rfl⟩,fun ⟨cs',_,_,hl',e⟩=>?_,fun f S hf hS=>?_⟩
 · rcases List.mem_append.mp hq with z | z
   · rcases List.mem_append.mp z with z | z
     · have:=hl q (List.mem_of_mem_take z); omega
     · rw [List.mem_singleton.mp z]; omega
   · have:=hl q (List.mem_of_mem_drop z); omega
 · have e := txS_inj.mp e
   have:(122:Nat)∈cs':=by rw [<- e]; simp
   have:=hl' _ this
   omega
 · have lc : cs.length <= 16777216 := by omega
   have l2:(cs.take t++[122]++cs.drop (t+1)).length<=16777216:=by omega
   have gw:zI 10 S=some (.int (t:Int)):=by simp [zI,hS]
   have e1:slsS f noP (soP (zI 10)) S=some (.str (txS (cs.take t))):=by
    unfold slsS soP noP
    simp only [hf,gw,Option.bind_some,jT]
    rw [if_pos (show cs.length<=sizeLine from lc),s1]
   have e2:slsS f (soP (zJ yG (zI 10) (zA (.int 1)))) noP S=some (.str (txS (cs.drop (t+1)))):=by
    unfold slsS soP noP
    simp only [hf,zJ,gw,zA,Option.bind_some,addD_int,jT]
    rw [if_pos (show cs.length<=sizeLine from lc),s2]
   generalize slsS f noP (soP (zI 10))=F1 at *
   generalize slsS f (soP (zJ yG (zI 10) (zA (.int 1)))) noP=F2 at *
   generalize hA:cs.take t++[122]++cs.drop (t+1)=A at *
   have l3:A.length<=sizeLine:=l2
   unfold slsS soP noP
   simp only [zJ,zA,e1,e2,Option.bind_some,t_z,a1,a2,jT,l3,if_true,s3']
open Classical in
noncomputable def PP (ns:List Str) (zs:List Int) (x:Str):Bool:=decide (∃ k,∃ h:k < ns.length,ns[k]=x/\cel zs (4+k) % 2=0)
theorem PP_at {ns:List Str} (nd:ns.Nodup) (zs:List Int) {k:Nat} (h:k < ns.length):PP ns zs ns[k]=decide (cel zs (4+k) % 2=0):=by
 unfold PP
 rw [Bool.eq_iff_iff,decide_eq_true_eq,decide_eq_true_eq]
 refine ⟨fun ⟨j,hj,e,q⟩=>?_,fun q=>⟨k,h,rfl,q⟩⟩
 have:j=k:=by
  rcases Nat.lt_trichotomy j k with lt | e' | gt
  · exact absurd e (List.pairwise_iff_getElem.mp nd j k hj h lt)
  · exact e'
  · exact absurd e.symm (List.pairwise_iff_getElem.mp nd k j h hj gt)
 rw [<- this]; exact q
noncomputable def sp (s:Spn):D:=spD s
theorem lay_loop {ns:List Str} (h59:ns.length<=59) (hn:∀ x∈ns,NmS x) (nd:ns.Nodup) (zs:List Int) {T:OT} (hT:BT T (bOf ns [])) (O Hd:Sl):∃ (T':OT) (y:Sl),BT T' (bOf ns (dsL s05 (ns.filter (PP ns zs)))) ∧
  forG (rng1 (callB lenD (zB (zI 1) zR))) (qA 6) K76.law.b1 [.v (.lst (zs.map D.int)),.v (.lst (ns.map D.str)),O,Hd,.ob none T,.own [],.no,.no,.no,.no,.no,.no,.no] =
   some (.nx [.v (.lst (zs.map D.int)),.v (.lst (ns.map D.str)),O,Hd,.ob none T',.own ((ns.filter (PP ns zs)).map D.str),y,.no,.no,.no,.no,.no,.no]):=by
 have H:∀ k,k < ns.length->∀ ds,(fun (j:Nat) (ds:List Sl)=>∃ (T':OT) (y:Sl),BT T' (bOf ns (dsL s05 ((ns.take j).filter (PP ns zs))))/\ds=[.v (.lst (zs.map D.int)),.v (.lst (ns.map D.str)),O,Hd,.ob none T',.own (((ns.take j).filter (PP ns zs)).map D.str),y,.no,.no,.no,.no,.no,.no]) k ds->∃ ds1 ds2,qA 6 (.int (k:Int)) ds=some ds1/\K76.law.b1 ds1=some (.nx ds2)/\(fun (j:Nat) (ds:List Sl)=>∃ (T':OT) (y:Sl),BT T' (bOf ns (dsL s05 ((ns.take j).filter (PP ns zs))))/\ds=[.v (.lst (zs.map D.int)),.v (.lst (ns.map D.str)),O,Hd,.ob none T',.own (((ns.take j).filter (PP ns zs)).map D.str),y,.no,.no,.no,.no,.no,.no]) (k+1) ds2:=by
  intro k hk ds hP
  obtain ⟨T1,y,h1,rfl⟩:=hP
  have tk:ns.take (k+1)=ns.take k++[ns[k]]:=by rw [List.take_succ,List.getElem?_eq_getElem hk]; rfl
  have pa:=PP_at nd zs hk
  have ce:=vM zs (4+k)
  have c4:((4+k:Nat):Int)=4+(k:Int):=by omega
  rw [c4] at ce
  have ix:ixD (.lst (ns.map D.str)) (.int (k:Int))=some (.str ns[k]):=by
   rw [yJ _ (by omega) (by simpa using hk)]
   simp [hk]
  by_cases hq:cel zs (4+k) % 2=0
  · have fe:(ns.take (k+1)).filter (PP ns zs)=(ns.take k).filter (PP ns zs)++[ns[k]]:=by
     rw [tk,List.filter_append]
     simp [pa,hq]
    have lf:((ns.take k).filter (PP ns zs)).length<=59:=by
     have:=List.length_filter_le (PP ns zs) (ns.take k)
     rw [List.length_take] at this
     omega
    have ld:(dsL s05 ((ns.take k).filter (PP ns zs))).length<=59:=by simpa [dsL] using lf
    have lb:=xP ns (dsL s05 ((ns.take k).filter (PP ns zs)))
    obtain ⟨T2,h2,e2⟩:=lay_eq (vR hn nd (xZ yX _)) (by omega) (by omega) h1 (bOf_mem (List.getElem_mem hk) _) yX
    rw [bOf_upd] at h2
    have dsE:dsL s05 ((ns.take k).filter (PP ns zs))++[(ns[k],(s05,some 1))]=dsL s05 ((ns.take (k+1)).filter (PP ns zs)):=by rw [fe]; simp [dsL]
    rw [dsE] at h2
    refine ⟨_,[.v (.lst (zs.map D.int)),.v (.lst (ns.map D.str)),O,Hd,.ob none T2,.own (((ns.take (k+1)).filter (PP ns zs)).map D.str),.v (.int (k:Int)),.no,.no,.no,.no,.no,.no],rfl,?_,T2,_,h2,rfl⟩
    rw [fe,List.map_append]
    have e2':GP.Bundle_lay.f T1 [.str ns[k],.tup [.int 0,.int 5]]=some T2:=e2
    obtain ⟨ts,rfl,_⟩:=h1
    have z:(((ns.take k).filter (PP ns zs)).map D.str).length < 16777216:=by simp; omega
    generalize ((ns.take k).filter (PP ns zs)).map D.str=FF at *
    generalize ns.map D.str=NS at *
    generalize zs.map D.int=ZZ at *
    simp only [List.set_cons_succ,List.set_cons_zero,List.map_cons,List.map_nil]
    unfold K76.law.b1
    have t:(zP (zJ eqD (zJ jO (qQ 2 GL.cell_at.f (zB (zI 0) (zB (zJ yG (zA (.int 4)) (zI 6)) zR))) (zA (.int 2))) (zA (.int 0)))) [.v (.lst ZZ),.v (.lst NS),O,Hd,.ob none (.ins 12 [.dct (bkN (bOf ns (dsL s05 ((ns.take k).filter (PP ns zs))))) ts]),.own FF,.v (.int (k:Int)),.no,.no,.no,.no,.no,.no]=some true:=by simp [ce,hq]
    unfold ifG
    rw [t]
    simp only [Option.bind_some,if_true]
    rw [zQ (ds':=[.v (.lst ZZ),.v (.lst NS),O,Hd,.ob none (.ins 12 [.dct (bkN (bOf ns (dsL s05 ((ns.take k).filter (PP ns zs))))) ts]),.own (FF++[.str ns[k]]),.v (.int (k:Int)),.no,.no,.no,.no,.no,.no]) (by simp [ix,z])]
    simp [lentG,varP,ix,e2',putP,putO]
  · have fe:(ns.take (k+1)).filter (PP ns zs)=(ns.take k).filter (PP ns zs):=by
     rw [tk,List.filter_append]
     simp [pa,hq]
    refine ⟨_,[.v (.lst (zs.map D.int)),.v (.lst (ns.map D.str)),O,Hd,.ob none T1,.own (((ns.take k).filter (PP ns zs)).map D.str),.v (.int (k:Int)),.no,.no,.no,.no,.no,.no],rfl,?_,T1,.v (.int (k:Int)),by rw [fe]; exact h1,by rw [fe]⟩
    generalize ((ns.take k).filter (PP ns zs)).map D.str=FF at *
    generalize ns.map D.str=NS at *
    generalize zs.map D.int=ZZ at *
    simp only [List.set_cons_succ,List.set_cons_zero]
    unfold K76.law.b1
    have t:(zP (zJ eqD (zJ jO (qQ 2 GL.cell_at.f (zB (zI 0) (zB (zJ yG (zA (.int 4)) (zI 6)) zR))) (zA (.int 2))) (zA (.int 0)))) [.v (.lst ZZ),.v (.lst NS),O,Hd,.ob none T1,.own FF,.v (.int (k:Int)),.no,.no,.no,.no,.no,.no]=some false:=by simp [ce,hq]
    unfold ifG
    rw [t]
    rfl
 obtain ⟨ds',e,T',y,h',hP⟩:=yR (ga:=qA 6) (body:=K76.law.b1) _ ns.length H ns.length 0 _ (by omega) ⟨T,.no,hT,rfl⟩
 subst hP
 refine ⟨T',y,by rw [List.take_length] at h'; exact h',?_⟩
 rw [<- rangeD_range'] at e
 have ok:okR (ns.length:Int):=vC (by omega) (by omega)
 rw [xQ]
 rw [List.take_length] at e
 simp only [List.take_zero,List.filter_nil,List.map_nil] at e
 have lN:(ns.map D.str).length=ns.length:=by simp
 generalize ns.map D.str=NS at *
 simp [lN,ok,e]
noncomputable def s57:Spn:=(some 5,some 7)
theorem s57_ok:okS s57:=fun a b e1 e2=>by cases e1; cases e2; decide
theorem sees {ns:List Str} (hn:∀ x∈ns,NmS x) (nd:ns.Nodup) (h60:ns.length<=60) {ds:Dvs} (ho:∀ d∈ds,okS d.2.1) {T:OT} (hT:BT T (bOf ns ds)) (p:Int) {S:List Sl} {i:Nat} (hS:S[i]? = some (.ob none T)) (hi:i < S.length) :
  ofO (relGV i (lO (methF 1 [12] GP.M_names_at_db16e3 (qF i) (zB (zA (.int p)) zR)))) S=some (.lst ((hereB (bOf ns ds) p).map D.str)):=by
 obtain ⟨ts,rfl,ht⟩:=hT
 have lb:=xP ns ds
 have na:=xC (vR hn nd ho) (by omega) p
 have fl:flats ((hereB (bOf ns ds) p).map D.str)=true:=by
  generalize hereB (bOf ns ds) p=l
  induction l with
  | nil=>simp
  | cons a r ih=>simp [ih,flat]
 generalize (hereB (bOf ns ds) p).map D.str=R at *
 unfold ofO relGV insV
 rw [hS]
 simp only [Option.bind_some,ht]
 have:methF 1 [12] GP.M_names_at_db16e3 (qF i) (zB (zA (.int p)) zR) (S.set i (.v (.ins 12 [.dcf (bkN (bOf ns ds)) (bkV (bOf ns ds))])))=some R:=by
  simp [methF,methR,hi,na]
 unfold lO
 rw [this]
 simp [flatO,xB,fl,otD,vD]
theorem run_law (zs:List Int) (hl:zs.length<=63) (hb:∀ c∈zs,intBits c<=1048576):K76.law.f [.lst (zs.map D.int)]=some (.val (.bl true)):=by
 have c0:=vM zs 0
 have c1:=vM zs 1
 have c2:=vM zs 2
 have c3:=vM zs 3
 simp only [Int.natCast_zero,Int.natCast_one] at c0 c1
 have c2:GL.cell_at.f [.lst (zs.map D.int),.int 2]=some (.val (.int (cel zs 2))):=c2
 have c3:GL.cell_at.f [.lst (zs.map D.int),.int 3]=some (.val (.int (cel zs 3))):=c3
 obtain ⟨m,hm⟩:∃ m:Nat,1+cel zs 0 % 59=(m:Int):=⟨(1+cel zs 0 % 59).toNat,by omega⟩
 have en:=names_eq (cel zs 1) m (by omega)
 have ln:=nms_len (cel zs 1) m
 have hy:=nms_ok (cel zs 1) m
 have nd:=nms_nd (cel zs 1) m (by omega)
 generalize nmsK (cel zs 1) m=ns at *
 have h1:1<=ns.length:=by omega
 have h59:ns.length<=59:=by omega
 have hn:∀ x∈ns,NmS x:=fun x hx=>(hy x hx).nm
 obtain ⟨L,eL,xL,rL⟩:=odd_ex h1 h59 hy (cel zs 2)
 have rf:=refused0 xL
 have neL:=(kH rL).1
 have bi:=binit_eq h1 (by omega) hn nd
 have t0:=bt_new (srtT ns)
 have tb:((srtT ns).map fun x=>(x,([]:List Rw)))=bOf ns []:=rfl
 rw [tb] at t0
 generalize OT.ins 12 [.dct ((srtT ns).map Sum.inr) ((srtT ns).map fun _=>.lst [])]=T0 at *
 obtain ⟨T,y6,hT,lp⟩:=lay_loop h59 hn nd zs t0 (.v (.lst L)) (.v (.lst L))
 generalize hP:PP ns zs=P at *
 have lf:(ns.filter P).length<=59:=by have:=List.length_filter_le P ns; omega
 have doo:=xZ yX (ns.filter P)
 generalize hc:cel zs 3=c at *
 have a0:=Int.emod_nonneg (c / 7) (show (ns.length:Int)≠0 by omega)
 have a1:=Int.emod_lt_of_pos (c / 7) (show 0 < (ns.length:Int) by omega)
 have r1:=xJ (c / 7) (show 0 < (ns.length:Int) by omega)
 obtain ⟨a,ha⟩:∃ a:Nat,c / 7 % (ns.length:Int)=(a:Int):=⟨(c / 7 % (ns.length:Int)).toNat,by omega⟩
 rw [ha] at r1 a1
 have hlt:a < ns.length:=by omega
 have ix:ixD (.lst (ns.map D.str)) (.int (a:Int))=some (.str ns[a]):=by
  rw [yJ _ (by omega) (by simpa using a1)]
  simp [hlt]
 have xm:=List.getElem_mem hlt
 obtain ⟨y0,⟨cs0,asc0,ey0,by0⟩,es0⟩:=spoilt_ex (hy _ xm) (c / 7)
 obtain ⟨t7,ht7,ht6⟩:∃ t:Nat,c / 7 % 7=(t:Int)/\t<=6:=⟨(c / 7 % 7).toNat,by omega,by omega⟩
 obtain ⟨y1,ny1,zy1,ez1⟩:=zname_ex (hy _ xm) t7 ht6
 obtain ⟨y,cut,hyS,ryy,hyz,eyy⟩:∃ (y:Str) (cut:Sl),Str' (bOf ns (dsL s05 (ns.filter P))) y/\Rfl (.str y)/\(3 < c % 7->NmS y/\y ∉ ns)/\∀ (x2 x3 x4 x5 x6:Sl),
   (ifG (zP (zJ gtD (zJ jO (zI 7) (zA (.int 7))) (zA (.int 3)))) (qJ (xG 10 (zJ jO (zJ qL (zI 7) (zA (.int 7))) (zA (.int 7))))
     (xG 9 (slsS (zJ yG (zJ yG (slsS (zJ ixD (zI 1) (zI 8)) noP (soP (zI 10))) (zA (.str "z"))) (slsS (zJ ixD (zI 1) (zI 8)) (soP (zJ yG (zI 10) (zA (.int 1)))) noP)) noP (soP (zA (.int 8)))))) qB)
     [.v (.lst (zs.map D.int)),.v (.lst (ns.map D.str)),x2,x3,x4,x5,x6,.v (.int c),.v (.int (a:Int)),.v (.str y0),.no,.no,.no]=some (.nx [.v (.lst (zs.map D.int)),.v (.lst (ns.map D.str)),x2,x3,x4,x5,x6,.v (.int c),.v (.int (a:Int)),.v (.str y),cut,.no,.no]):=by
  by_cases hq:3 < c % 7
  · have yn : y1 ∉ ns := fun z => zy1 (hy y1 z)
    refine ⟨y1,.v (.int (t7:Int)),.inr ⟨isName ny1,by rw [kJ]; exact fun z=>yn ((srtT_perm ns).mem_iff.mp z)⟩,vU ny1,fun _=>⟨ny1,yn⟩,fun x2 x3 x4 x5 x6=>?_⟩
    generalize zs.map D.int=ZZ at *
    generalize ns.map D.str=NS at *
    have e:=ez1 (zJ ixD (zI 1) (zI 8)) [.v (.lst ZZ),.v (.lst NS),x2,x3,x4,x5,x6,.v (.int c),.v (.int (a:Int)),.v (.str y0),.v (.int (t7:Int)),.no,.no] (by simp [ix]) rfl
    generalize slsS (zJ yG (zJ yG (slsS (zJ ixD (zI 1) (zI 8)) noP (soP (zI 10))) (zA (.str "z"))) (slsS (zJ ixD (zI 1) (zI 8)) (soP (zJ yG (zI 10) (zA (.int 1)))) noP)) noP (soP (zA (.int 8)))=Q at *
    have t:(zP (zJ gtD (zJ jO (zI 7) (zA (.int 7))) (zA (.int 3)))) [.v (.lst ZZ),.v (.lst NS),x2,x3,x4,x5,x6,.v (.int c),.v (.int (a:Int)),.v (.str y0),.no,.no,.no]=some true:=by simp [hq]
    unfold ifG
    rw [t]
    simp only [Option.bind_some,if_true]
    rw [zQ (ds':=[.v (.lst ZZ),.v (.lst NS),x2,x3,x4,x5,x6,.v (.int c),.v (.int (a:Int)),.v (.str y0),.v (.int (t7:Int)),.no,.no]) (by simp [ht7])]
    simp [e]
  · refine ⟨y0, .no, .inl by0, rfl_str asc0 ey0, fun z => absurd z hq, fun x2 x3 x4 x5 x6 => ?_⟩
    have t:(zP (zJ gtD (zJ jO (zI 7) (zA (.int 7))) (zA (.int 3)))) [.v (.lst (zs.map D.int)),.v (.lst (ns.map D.str)),x2,x3,x4,x5,x6,.v (.int c),.v (.int (a:Int)),.v (.str y0),.no,.no,.no]=some false:=by simp [hq]
    unfold ifG
    rw [t]
    rfl
 obtain ⟨w1,w2,w3,hw1,hw2,hw3,ew⟩:∃ w1 w2 w3:Int,(w1=1 \/ w1=2 \/ w1=3)/\(w2=1 \/ w2=2 \/ w2=3)/\(w3=1 \/ w3=2 \/ w3=3)/\ixD (.lst [.lst [.int 1,.int 2,.int 3],.lst [.int 3,.int 1,.int 2],.lst [.int 2,.int 3,.int 1]]) (.int (c / 49 % 3))=some (.lst [.int w1,.int w2,.int w3]):=by
  rcases (by omega:c / 49 % 3=0 \/ c / 49 % 3=1 \/ c / 49 % 3=2) with q | q | q <;> rw [q]
  · exact ⟨1,2,3,by omega,by omega,by omega,rfl⟩
  · exact ⟨3,1,2,by omega,by omega,by omega,rfl⟩
  · exact ⟨2,3,1,by omega,by omega,by omega,rfl⟩
 obtain ⟨ts,hTe,htT⟩:=id hT
 have b2:∀ (w:Int) (x11:Sl),(w=1 \/ w=2 \/ w=3)->K76.law.b2 [.v (.lst (zs.map D.int)),.v (.lst (ns.map D.str)),.v (.lst L),.v (.lst L),.ob none T,.own ((ns.filter P).map D.str),y6,.v (.int c),.v (.int (a:Int)),.v (.str y),cut,.v (.int w),.no]=some (.nx [.v (.lst (zs.map D.int)),.v (.lst (ns.map D.str)),.v (.lst L),.v (.lst L),.ob none T,.own ((ns.filter P).map D.str),y6,.v (.int c),.v (.int (a:Int)),.v (.str y),cut,.v (.int w),.no]):=fun w x11 hw=>by
  have rb:=refusedB hyS hw
  rw [hTe]
  generalize (ns.filter P).map D.str=FF at *
  generalize ns.map D.str=NS at *
  unfold K76.law.b2
  have t:(relTV 4 (notT (testT (qQ 3 K76.L_refused.f (zB (zI 11) (zB (zI 4) (zB (mkL (zZ (zB (qF 9) zR))) zR))))))) [.v (.lst (zs.map D.int)),.v (.lst NS),.v (.lst L),.v (.lst L),.ob none (.ins 12 [.dct (bkN (bOf ns (dsL s05 (ns.filter P)))) ts]),.own FF,y6,.v (.int c),.v (.int (a:Int)),.v (.str y),cut,.v (.int w),.no]=some false:=by
   unfold relTV insV
   simp [htT,rb]
  unfold ifG
  rw [t]
  rfl
 have li:=lies_eq h1 h59 hn nd P
 have tl:(relTV 4 (notT (testT (qQ 3 K76.L_lies.f (zB (zI 4) (zB (zI 1) (zB (zI 5) zR))))))) [.v (.lst (zs.map D.int)),.v (.lst (ns.map D.str)),.v (.lst L),.v (.lst L),.ob none T,.own ((ns.filter P).map D.str),y6,.v (.int c),.v (.int (a:Int)),.v (.str y),cut,.v (.int w3),.no]=some false:=by
  rw [hTe]
  generalize (ns.filter P).map D.str=FF at *
  generalize ns.map D.str=NS at *
  unfold relTV insV
  simp [htT,li]
 obtain ⟨x12,e12⟩:∃ x12:Sl,(ifG (zP (zJ gtD (zJ jO (zI 7) (zA (.int 7))) (zA (.int 3)))) (qJ (setB 12 (makeO 24 1 0 GP.Bundle___init__.f (zB (mkL (catA (mkL (sliA (zI 1) noP (soP (zA (.int 59))))) (mkL (zZ (zB (qF 9) zR))))) zR)))
   (qJ (lentG 2 [12] (fun _=>GP.Bundle_lay.f) (varP 12) (zB (qF 9) (zB (mkT (zZ (zB (zA (.int 0)) (zB (zA (.int 5)) zR)))) zR)))
   (ifG (relTV 12 (zP (zJ neD (methV 1 [12] GP.M_names_at_db16e3 (qF 12) (zB (zA (.int 4)) zR)) (mkL (zZ (zB (qF 9) zR)))))) (retG (zA (.bl false))) qB))) qB)
   [.v (.lst (zs.map D.int)),.v (.lst (ns.map D.str)),.v (.lst L),.v (.lst L),.ob none T,.own ((ns.filter P).map D.str),y6,.v (.int c),.v (.int (a:Int)),.v (.str y),cut,.v (.int w3),.no]=some (.nx [.v (.lst (zs.map D.int)),.v (.lst (ns.map D.str)),.v (.lst L),.v (.lst L),.ob none T,.own ((ns.filter P).map D.str),y6,.v (.int c),.v (.int (a:Int)),.v (.str y),cut,.v (.int w3),x12]):=by
  by_cases hq:3 < c % 7
  · obtain ⟨nmy, nyn⟩ := hyz hq
    have nd2:(ns++[y]).Nodup:=List.nodup_append.mpr ⟨nd,by simp,fun u hu v hv e=>nyn (by rw [List.mem_singleton.mp hv] at e; rw [<- e]; exact hu)⟩
    have hn2:∀ x∈ns++[y],NmS x:=fun x hx=>(List.mem_append.mp hx).elim (hn x) fun z=>by rw [List.mem_singleton.mp z]; exact nmy
    have bi2:=binit_eq (ns:=ns++[y]) (by simp) (by simp; omega) hn2 nd2
    have tb0:=bt_new (srtT (ns++[y]))
    have tb2:((srtT (ns++[y])).map fun x=>(x,([]:List Rw)))=bOf (ns++[y]) []:=rfl
    rw [tb2] at tb0
    generalize OT.ins 12 [.dct ((srtT (ns++[y])).map Sum.inr) ((srtT (ns++[y])).map fun _=>.lst [])]=U0 at *
    have lb2:=xP (ns++[y]) []
    rw [List.length_append,List.length_singleton] at lb2
    obtain ⟨U,hU,eU⟩:=lay_eq (vR hn2 nd2 (ds:=[]) (fun _ hz=>nomatch hz)) (by simp) (by omega) tb0 (bOf_mem (x:=y) (by simp) []) yX
    rw [bOf_upd] at hU
    have dE:([]:Dvs)++[(y,(s05,some 1))]=dsL s05 [y]:=rfl
    rw [dE] at hU
    have here4:hereB (bOf (ns++[y]) (dsL s05 [y])) 4=[y]:=by
     refine (yV (xZ yX _) 4).trans ((List.filter_congr fun x _=>?_).trans (one_of (l:=srtT (ns++[y])) ((srtT_perm _).nodup_iff.mpr nd2) (x:=y) ((srtT_perm _).mem_iff.mpr (by simp))))
     have:=vE s05 x 4 [y] none (.inr rfl)
     unfold vF
     rw [this]
     have h4:hasS s05 4=true:=rfl
     by_cases hx:x=y <;> simp [hx,h4]
    have lb3:=xP (ns++[y]) (dsL s05 [y])
    rw [List.length_append,List.length_singleton] at lb3
    have na:=xC (vR hn2 nd2 (xZ yX [y])) (by omega) 4
    rw [here4] at na
    have ney:=(kH (l:=[.str y]) fun d hd=>by rw [List.mem_singleton.mp hd]; exact ryy).1
    have eU':GP.Bundle_lay.f U0 [.str y,.tup [.int 0,.int 5]]=some U:=eU
    obtain ⟨u0,hU0,_⟩:=tb0
    obtain ⟨us,hUe,hut⟩:=hU
    have cu:cutD (ns.map D.str) none (some 59)=ns.map D.str:=by
     have e1:∀ n:Nat,HT.sIx n 0 none=0:=fun _=>rfl
     have e2:∀ n:Nat,HT.sIx n n (some 59)=min 59 n:=fun n=>by simp [HT.sIx]
     unfold FL.cutD
     rw [e1,e2,List.drop_zero,Nat.sub_zero,List.take_of_length_le (by simp; omega)]
    have ap:(ns++[y]).map D.str=ns.map D.str++[.str y]:=by simp
    rw [ap] at bi2
    have lN:(ns.map D.str).length+1<=16777216:=by simp; omega
    refine ⟨.ob none U,?_⟩
    generalize (ns.filter P).map D.str=FF at *
    generalize ns.map D.str=NS at *
    generalize zs.map D.int=ZZ at *
    have t:(zP (zJ gtD (zJ jO (zI 7) (zA (.int 7))) (zA (.int 3)))) [.v (.lst ZZ),.v (.lst NS),.v (.lst L),.v (.lst L),.ob none T,.own FF,y6,.v (.int c),.v (.int (a:Int)),.v (.str y),cut,.v (.int w3),.no]=some true:=by simp [hq]
    unfold ifG
    rw [t]
    simp only [Option.bind_some,if_true]
    rw [zQ (ds':=[.v (.lst ZZ),.v (.lst NS),.v (.lst L),.v (.lst L),.ob none T,.own FF,y6,.v (.int c),.v (.int (a:Int)),.v (.str y),cut,.v (.int w3),.ob none U0]) (by
      simp only [setB_eq]
      unfold makeO
      simp [cu,lN,bi2]),
     zQ (ds':=[.v (.lst ZZ),.v (.lst NS),.v (.lst L),.v (.lst L),.ob none T,.own FF,y6,.v (.int c),.v (.int (a:Int)),.v (.str y),cut,.v (.int w3),.ob none U]) (by
      rw [hU0] at eU' ⊢
      simp [lentG,varP,eU',putP,putO])]
    have t2:(relTV 12 (zP (zJ neD (methV 1 [12] GP.M_names_at_db16e3 (qF 12) (zB (zA (.int 4)) zR)) (mkL (zZ (zB (qF 9) zR)))))) [.v (.lst ZZ),.v (.lst NS),.v (.lst L),.v (.lst L),.ob none T,.own FF,y6,.v (.int c),.v (.int (a:Int)),.v (.str y),cut,.v (.int w3),.ob none U]=some false:=by
     rw [hUe]
     simp only [List.map_cons,List.map_nil] at na
     unfold relTV insV
     simp [hut,methV,methR,na,ney]
    rw [t2]
    rfl
  · refine ⟨.no, ?_⟩
    have t:(zP (zJ gtD (zJ jO (zI 7) (zA (.int 7))) (zA (.int 3)))) [.v (.lst (zs.map D.int)),.v (.lst (ns.map D.str)),.v (.lst L),.v (.lst L),.ob none T,.own ((ns.filter P).map D.str),y6,.v (.int c),.v (.int (a:Int)),.v (.str y),cut,.v (.int w3),.no]=some false:=by simp [hq]
    unfold ifG
    rw [t]
    rfl
 have lb:=xP ns (dsL s05 (ns.filter P))
 have lds:(dsL s05 (ns.filter P)).length<=59:=by simpa [dsL] using lf
 obtain ⟨V,hV,eV⟩:=lay_eq (vR hn nd doo) (by omega) (by omega) hT (bOf_mem xm _) s57_ok
 rw [bOf_upd] at hV
 have oV:∀ d∈dsL s05 (ns.filter P)++[(ns[a],(s57,some 1))],okS d.2.1:=fun d hd=>(List.mem_append.mp hd).elim (doo d) fun z=>by rw [List.mem_singleton.mp z]; exact s57_ok
 have vS:∀ x p,vF (dsL s05 (ns.filter P)++[(ns[a],(s57,some 1))]) x p=vstep x p (if x∈ns.filter P/\hasS s05 p=true then some 1 else none) (ns[a],(s57,some 1)):=fun x p=>by
  have:=vE s05 x p (ns.filter P) none (.inr rfl)
  unfold vF
  rw [List.foldl_append,this]
  rfl
 have at6:hereB (bOf ns (dsL s05 (ns.filter P)++[(ns[a],(s57,some 1))])) 6=[ns[a]]:=by
  rw [yV oV,<- one_of (l:=srtT ns) ((srtT_perm ns).nodup_iff.mpr nd) (x:=ns[a]) ((srtT_perm ns).mem_iff.mpr xm)]
  refine List.filter_congr fun x _=>?_
  rw [vS]
  have h6:hasS s57 6=true:=rfl
  have h6':hasS s05 6=false:=rfl
  unfold vstep
  by_cases hx:x=ns[a]
  · subst hx; simp [h6]
  · have : ¬ ns[a] = x := fun z => hx z.symm
    simp [this,hx,h6']
 have at4:hereB (bOf ns (dsL s05 (ns.filter P)++[(ns[a],(s57,some 1))])) 4=srtT (ns.filter P):=by
  rw [<- at_in P (p:=4) rfl,yV oV,yV doo]
  refine List.filter_congr fun x _=>?_
  rw [vS]
  have h4:hasS s57 4=false:=rfl
  have e:=vE s05 x 4 (ns.filter P) none (.inr rfl)
  unfold vF
  rw [e]
  unfold vstep
  simp [h4]
 have eq1:=(kH (l:=[.str ns[a]]) fun d hd=>by rw [List.mem_singleton.mp hd]; exact vU (hn _ xm)).2
 have eq2:=eqD_strs (l:=srtT (ns.filter P)) fun x hx=>nmS_ok (hn x (List.mem_filter.mp ((srtT_perm _).mem_iff.mp hx)).1)
 have lf64:(ns.filter P).length < 64:=by omega
 have stM:=jS (ns.filter P)
 have eV':GP.Bundle_lay.f T [.str ns[a],.tup [.int 5,.int 7]]=some V:=eV
 refine jL ?_
 unfold K76.law.g
 have sV6:=fun (x0 x2 x3 x5 x6 x7 x8 x9 x10 x11 x12:Sl)=>sees hn nd (by omega) oV hV 6 (S:=[x0,.v (.lst (ns.map D.str)),x2,x3,.ob none V,x5,x6,x7,x8,x9,x10,x11,x12]) (i:=4) rfl (by simp)
 have sV4:=fun (x0 x2 x3 x5 x6 x7 x8 x9 x10 x11 x12:Sl)=>sees hn nd (by omega) oV hV 4 (S:=[x0,.v (.lst (ns.map D.str)),x2,x3,.ob none V,x5,x6,x7,x8,x9,x10,x11,x12]) (i:=4) rfl (by simp)
 rw [at6] at sV6
 rw [at4] at sV4
 simp only [List.map_cons,List.map_nil] at sV6
 have lN:(ns.map D.str).length=ns.length:=by simp
 generalize hFF:(ns.filter P).map D.str=FF at *
 generalize hSF:(srtT (ns.filter P)).map D.str=SF at *
 generalize hNS:ns.map D.str=NS at *
 generalize hZZ:zs.map D.int=ZZ at *
 rw [zQ (ds':=[.v (.lst ZZ),.v (.lst NS),.no,.no,.no,.no,.no,.no,.no,.no,.no,.no,.no]) (by simp [args,c0,c1,hm,en]),
  zQ (ds':=[.v (.lst ZZ),.v (.lst NS),.v (.lst L),.no,.no,.no,.no,.no,.no,.no,.no,.no,.no]) (by
   unfold xG callA
   simp [c2,eL,retA]),
  zQ (ds':=[.v (.lst ZZ),.v (.lst NS),.v (.lst L),.v (.lst L),.no,.no,.no,.no,.no,.no,.no,.no,.no]) (by simp [lisA]),
  zQ (ds':=[.v (.lst ZZ),.v (.lst NS),.v (.lst L),.v (.lst L),.no,.no,.no,.no,.no,.no,.no,.no,.no]) (by simp [rf,neL]),
  zQ (ds':=[.v (.lst ZZ),.v (.lst NS),.v (.lst L),.v (.lst L),.ob none T0,.no,.no,.no,.no,.no,.no,.no,.no]) (by
   simp only [setB_eq]
   unfold makeO
   simp [lisA,bi]),
  zQ (ds':=[.v (.lst ZZ),.v (.lst NS),.v (.lst L),.v (.lst L),.ob none T0,.own [],.no,.no,.no,.no,.no,.no,.no]) (by simp),
  zQ lp,
  zQ (ds':=[.v (.lst ZZ),.v (.lst NS),.v (.lst L),.v (.lst L),.ob none T,.own FF,y6,.v (.int c),.no,.no,.no,.no,.no]) (by simp [c3]),
  zQ (ds':=[.v (.lst ZZ),.v (.lst NS),.v (.lst L),.v (.lst L),.ob none T,.own FF,y6,.v (.int c),.v (.int (a:Int)),.no,.no,.no,.no]) (by simp [lN,r1]),
  zQ (ds':=[.v (.lst ZZ),.v (.lst NS),.v (.lst L),.v (.lst L),.ob none T,.own FF,y6,.v (.int c),.v (.int (a:Int)),.v (.str y0),.no,.no,.no]) (by simp [ix,es0]),
  zQ (eyy _ _ _ _ _),
  zQ (ds':=[.v (.lst ZZ),.v (.lst NS),.v (.lst L),.v (.lst L),.ob none T,.own FF,y6,.v (.int c),.v (.int (a:Int)),.v (.str y),cut,.v (.int w3),.no]) (by
   rw [xQ]
   have it:(viaA (zJ ixD (mkL (zZ (zB (mkL (zZ (zB (zA (.int 1)) (zB (zA (.int 2)) (zB (zA (.int 3)) zR))))) (zB (mkL (zZ (zB (zA (.int 3)) (zB (zA (.int 1)) (zB (zA (.int 2)) zR))))) (zB (mkL (zZ (zB (zA (.int 2)) (zB (zA (.int 3)) (zB (zA (.int 1)) zR))))) zR))))) (zJ jO (zJ qL (zI 7) (zA (.int 49))) (zA (.int 3)))) asLT) [.v (.lst ZZ),.v (.lst NS),.v (.lst L),.v (.lst L),.ob none T,.own FF,y6,.v (.int c),.v (.int (a:Int)),.v (.str y),cut,.no,.no]=some [.int w1,.int w2,.int w3]:=by simp [ew]
   rw [it]
   simp only [Option.bind_some,jM,qA,List.set_cons_succ,List.set_cons_zero,b2 w1 .no hw1,b2 w2 .no hw2,b2 w3 .no hw3]),
  zQ (ds':=[.v (.lst ZZ),.v (.lst NS),.v (.lst L),.v (.lst L),.ob none T,.own FF,y6,.v (.int c),.v (.int (a:Int)),.v (.str y),cut,.v (.int w3),.no]) (by unfold ifG; rw [tl]; rfl),
  zQ e12,
  zQ (ds':=[.v (.lst ZZ),.v (.lst NS),.v (.lst L),.v (.lst L),.ob none V,.own FF,y6,.v (.int c),.v (.int (a:Int)),.v (.str y),cut,.v (.int w3),x12]) (by
   rw [hTe] at eV' ⊢
   simp [lentG,varP,ix,eV',putP,putO])]
 have s6:=sV6 (.v (.lst ZZ)) (.v (.lst L)) (.v (.lst L)) (.own FF) y6 (.v (.int c)) (.v (.int (a:Int))) (.v (.str y)) cut (.v (.int w3)) x12
 have s4:=sV4 (.v (.lst ZZ)) (.v (.lst L)) (.v (.lst L)) (.own FF) y6 (.v (.int c)) (.v (.int (a:Int))) (.v (.str y)) cut (.v (.int w3)) x12
 have st:srtTA (zI 5) [.v (.lst ZZ),.v (.lst NS),.v (.lst L),.v (.lst L),.ob none V,.own FF,y6,.v (.int c),.v (.int (a:Int)),.v (.str y),cut,.v (.int w3),x12]=some SF:=by
  unfold srtTA
  simp [stM,lf64,hSF]
 generalize ofO (relGV 4 (lO (methF 1 [12] GP.M_names_at_db16e3 (qF 4) (zB (zA (.int 6)) zR))))=G6 at *
 generalize ofO (relGV 4 (lO (methF 1 [12] GP.M_names_at_db16e3 (qF 4) (zB (zA (.int 4)) zR))))=G4 at *
 generalize srtTA (zI 5)=G5 at *
 simp [s6,s4,st,ix,eq1,eq2]
end K76
namespace K76
open PySem PyProof.Rows L2 FL
set_option maxHeartbeats 0 in
theorem all_mk {l:PySem.W.OpenLaw} {w:World} {K:PySem.W.Frag} {h:Heap} {mg:Str->Option Value} {fa:Addr} (X:K.In h) (G:h.Ns mainGlobals mg) (hfa:mg "law" = some (.ref fa))
  {K12 f0 f1 f2 f3 f4 f5 f6 f7 f8 f9 f10 f11 f12 f13 f14 f15 f16 f17 f18 f19 f20 f21 f22 f23 E0 E1 E2 E3 E4 E5 E6 E7 E8 E9 E10 E11 E12:Addr}
  {t0 t1 t2:Tok}
  {f24:Addr} {od24 an24:Option Addr} {sl24:Array (Option Value)} {oc24 kV24 dc24 pm24 cd24 ct24:Value}
  (q12:CN K "Bundle" K12)
  (na12_lying:NoAttr K K12 "lying")
  (d0:DefM K "has" (top 16) f0)
  (d1:DefM K "later_low" (top 19) f1)
  (d2:DefM K "earlier_behind" (top 20) f2)
  (d3:DefM K "ends_ahead" (top 18) f3)
  (d4:DefM K "meet" (top 17) f4)
  (d5:DefM K "knit" (top 22) f5)
  (d6:DefM K "parts_in" (top 23) f6)
  (d7:DefM K "rows_over" (top 24) f7)
  (d8:DefM K "value_at" (top 26) f8)
  (d9:DefM K "is_name" (top 30) f9)
  (d10:DefM K "put" (top 32) f10)
  (d11:DefM K "check_names" (top 36) f11)
  (d12:DefC K K12 "__init__" "Bundle.__init__" (inClass (top 35) 0) f12)
  (d13:DefC K K12 "only" "Bundle.only" (inClass (top 35) 4) f13)
  (d14:DefC K K12 "lay" "Bundle.lay" (inClass (top 35) 1) f14)
  (d15:DefC K K12 "lift" "Bundle.lift" (inClass (top 35) 2) f15)
  (d16:DefC K K12 "names_at" "Bundle.names_at" (inClass (top 35) 3) f16)
  (d17:DefM K "_law_cell_at" (top 38) f17)
  (d18:DefM K "_law_names" (top 39) f18)
  (d19:DefM K "_law_spoilt" (top 40) f19)
  (d20:DefM K "_law_odd_list" (top 41) f20)
  (d21:DefM K "_law_asked" (top 42) f21)
  (d22:DefM K "_law_refused" (top 43) f22)
  (d23:DefM K "_law_lies" (top 44) f23)
  (a24:PySem.W.nsIn K mainGlobals "law" = some (some (.ref f24))) (l24:LkF K f24 oc24 od24 "law" "law" (top 45) .none kV24 dc24 pm24 an24 cd24 ct24 sl24) (c24:PySem.W.codeIn K cd24 "law" = true) (k24:PySem.W.keepIn K (.ref f24)=true)
  (mk12:PySem.W.makesIn K K12=true) (kc12:PySem.W.keepIn K (.ref K12)=true)
  (xn0:PySem.W.nsIn K mainGlobals "SpanError" = some (some (.ref E0)))
  (xn1:PySem.W.nsIn K mainGlobals "Empty" = some (some (.ref E1)))
  (xn2:PySem.W.nsIn K mainGlobals "NoEnd" = some (some (.ref E2)))
  (xn3:PySem.W.nsIn K mainGlobals "Clash" = some (some (.ref E3)))
  (xn4:PySem.W.nsIn K mainGlobals "NoCount" = some (some (.ref E4)))
  (xn5:PySem.W.nsIn K mainGlobals "NoShare" = some (some (.ref E5)))
  (y6:XI K "NoName" E6)
  (xn7:PySem.W.nsIn K mainGlobals "NoMark" = some (some (.ref E7)))
  (xn8:PySem.W.nsIn K mainGlobals "NoDeed" = some (some (.ref E8)))
  (xn9:PySem.W.nsIn K mainGlobals "NoRule" = some (some (.ref E9)))
  (xn10:PySem.W.nsIn K mainGlobals "TooMuch" = some (some (.ref E10)))
  (xn11:PySem.W.nsIn K mainGlobals "NoText" = some (some (.ref E11)))
  (xn12:PySem.W.nsIn K mainGlobals "NoRow" = some (some (.ref E12)))
  (xe6:PySem.W.excIn K E6 [.type "ValueError",.type "Exception",.type "BaseException",.type "object"] "ValueError.__new__" = true)
  (xb0:PySem.W.mroIn K E0 (.type "BaseException")=some true)
  (xu0:PySem.W.isClsIn K E0=true) (xy0:PySem.W.typeIn K (.ref E0)=some (.type "type"))
  (xs6_0:PySem.W.subIn K (.ref E6) (.ref E0)=some true)
  (x6_1:XN K E6 E1)
  (x6_2:XN K E6 E2)
  (x6_3:XN K E6 E3)
  (x6_4:XN K E6 E4)
  (x6_5:XN K E6 E5)
  (x6_7:XN K E6 E7)
  (x6_8:XN K E6 E8)
  (x6_9:XN K E6 E9)
  (x6_10:XN K E6 E10)
  (x6_11:XN K E6 E11)
  (x6_12:XN K E6 E12)
  (xs6_ValueError:PySem.W.subIn K (.ref E6) (.type "ValueError")=some true)
  (z0:PySem.W.nsIn K mainGlobals "ValueError" = some none)
  (z1:PySem.W.nsIn K mainGlobals "all" = some none)
  (z2:PySem.W.nsIn K mainGlobals "int" = some none)
  (z3:PySem.W.nsIn K mainGlobals "isinstance" = some none)
  (z4:PySem.W.nsIn K mainGlobals "len" = some none)
  (z5:PySem.W.nsIn K mainGlobals "list" = some none)
  (z6:PySem.W.nsIn K mainGlobals "max" = some none)
  (z7:PySem.W.nsIn K mainGlobals "min" = some none)
  (z8:PySem.W.nsIn K mainGlobals "range" = some none)
  (z9:PySem.W.nsIn K mainGlobals "set" = some none)
  (z10:PySem.W.nsIn K mainGlobals "sorted" = some none)
  (z11:PySem.W.nsIn K mainGlobals "str" = some none)
  (v0:PySem.W.nsIn K mainGlobals "LETTERS" = some (some (.str "abcdefghijklmnopqrstuvwxyz" t0)))
  (v1:PySem.W.nsIn K mainGlobals "MOST_LETTERS" = some (some (.int 8 t1)))
  (v2:PySem.W.nsIn K mainGlobals "MOST_NAMES" = some (some (.int 60 t2))) :
  ∃ fd:FuncData,(∀ (s:Shared) (v:Value),BindsTo s fd ⟨[v],[]⟩ [("_law_script",v)])/\∀ base:Heap,K.In base->base.Ns mainGlobals mg->FnOk l.prog w K mg base CX0 9 fa fd ["_law_script"] (spLawB K 63):=by
 have e:=hfa.symm.trans (PySem.W.mg_of X G a24)
 cases e
 obtain ⟨n12,cl12⟩:=q12.get
 have y6:XI K (xName 6) E6:=y6
 have T:Glb K mg:=⟨PySem.W.mg_none_of X G z0,PySem.W.mg_none_of X G z1,PySem.W.mg_none_of X G z2,PySem.W.mg_none_of X G z3,PySem.W.mg_none_of X G z4,PySem.W.mg_none_of X G z5,PySem.W.mg_none_of X G z6,PySem.W.mg_none_of X G z7,PySem.W.mg_none_of X G z8,PySem.W.mg_none_of X G z9,PySem.W.mg_none_of X G z10,PySem.W.mg_none_of X G z11,⟨_,PySem.W.mg_of X G v0⟩,⟨_,PySem.W.mg_of X G v1⟩,⟨_,PySem.W.mg_of X G v2⟩,(fldOk_c n12 cl12 na12_lying fldOk_nil),(newOk (t:=24) (by exact n12) cl12 na12_lying),⟨E6,PySem.W.mg_of X G y6.1,(isx_c y6 (kit_self E6) isx_nil)⟩,(isx_c y6 (kitB_yes (by decide +kernel) xs6_ValueError) isx_nil),⟨E3,E1,E4,E8,E2,E7,E12,E9,E5,E11,E10,PySem.W.mg_of X G xn3,PySem.W.mg_of X G xn1,PySem.W.mg_of X G xn4,PySem.W.mg_of X G xn8,PySem.W.mg_of X G xn2,PySem.W.mg_of X G xn7,PySem.W.mg_of X G xn12,PySem.W.mg_of X G xn9,PySem.W.mg_of X G xn5,PySem.W.mg_of X G xn11,PySem.W.mg_of X G xn10,(isx_oneT (t:=6) (by exact y6.1) y6.i (jB x6_3.k (jB x6_1.k (jB x6_4.k (jB x6_8.k (jB x6_2.k (jB x6_7.k (jB x6_12.k (jB x6_9.k (jB x6_5.k (jB x6_11.k (jB x6_10.k kitAny_nil))))))))))) )⟩⟩
 have XR_6:XR K mg 6 E6:=⟨by exact y6.1,by exact PySem.W.mg_of X G y6.1,⟨xe6,y6.i⟩⟩
 have XT_6:XT K mg 6 "SpanError" E6 E0:=⟨by exact y6.1,PySem.W.mg_of X G xn0,⟨kitCls_yes xu0 xy0 xs6_0,xb0⟩⟩
 obtain ⟨_,F11,a11,k11⟩:=d11.get
 have b11:=F11.binds (ps:=["names"]) fun _ _ _ _ _ _=>len1 fun _=>rfl
 obtain ⟨_,F12,a12,k12,i12⟩:=d12.get
 have b12:=F12.binds (ps:=["self","names"]) fun _ _ _ _ _ _=>len2 fun _ _=>rfl
 obtain ⟨_,F13,a13,k13,i13⟩:=d13.get
 have b13:=F13.binds (ps:=["self","name"]) fun _ _ _ _ _ _=>len2 fun _ _=>rfl
 obtain ⟨_,F14,a14,k14,i14⟩:=d14.get
 have b14:=F14.binds (ps:=["self","name","span"]) fun _ _ _ _ _ _=>len3 fun _ _ _=>rfl
 obtain ⟨_,F15,a15,k15,i15⟩:=d15.get
 have b15:=F15.binds (ps:=["self","name","span"]) fun _ _ _ _ _ _=>len3 fun _ _ _=>rfl
 obtain ⟨_,F20,a20,k20⟩:=d20.get
 have b20:=F20.binds (ps:=["_law_names_here","_law_cell"]) fun _ _ _ _ _ _=>len2 fun _ _=>rfl
 obtain ⟨_,F21,a21,k21⟩:=d21.get
 have b21:=F21.binds (ps:=["_law_which","_law_bundle","_law_names_here"]) fun _ _ _ _ _ _=>len3 fun _ _ _=>rfl
 have F24:=fun_mk (st:=(top 45)) l24 c24 k24
 refine ⟨PySem.W.fnOf "law" "law" (jU (top 45)) (qE (top 45)) (zH (top 45)) .none kV24 dc24 pm24 an24 cd24 ct24,fun s v=>.of_eq rfl,fun base _ _=>?_⟩
 have S:SysAt l.prog w base K mg:=⟨h,X,G⟩
 have C_has:=d0.cal S fun F=>fok_has F T
 have C_later_low:=d1.cal S fun F=>fok_later_low F T
 have C_earlier_behind:=d2.cal S fun F=>fok_earlier_behind F T
 have C_ends_ahead:=d3.cal S fun F=>fok_ends_ahead F T
 have C_meet:=d4.cal S fun F=>fok_meet F T C_later_low C_earlier_behind C_ends_ahead
 have C_knit:=d5.cal S fun F=>fok_knit F T
 have C_parts_in:=d6.cal S fun F=>fok_parts_in F T C_meet
 have C_rows_over:=d7.cal S fun F=>fok_rows_over F T C_parts_in
 have C_value_at:=d8.cal S fun F=>fok_value_at F T C_has
 have C_is_name:=d9.cal S fun F=>fok_is_name F T
 have C_put:=d10.cal S fun F=>fok_put F T C_knit C_rows_over
 have GX11_6:=fokx_check_names_6 (P:=l.prog) (w:=w) (base:=base) F11 T C_is_name XR_6
 have CX_check_names_6:CalX l.prog w K mg base "check_names" 2 1 K76.X_check_names_6.f E6:=⟨f11,_,_,GX11_6,b11,k11,PySem.W.mg_of X G a11⟩
 have G11:=fok_check_names F11 T C_is_name
 have C_check_names:=cal_mk G11 b11 k11 (PySem.W.mg_of X G a11)
 have GX12_6:=fokx_Bundle___init___6 (P:=l.prog) (w:=w) (base:=base) F12 T C_check_names CX_check_names_6
 have MX_Bundle_6:MkX l.prog w K mg base 12 3 1 K76.X_Bundle___init___6.f E6:=⟨K12,f12,_,_,PySem.W.mg_of X G n12,⟨mk12,a12,i12,kc12⟩,GX12_6,b12⟩
 have G12:=fok_Bundle___init__ F12 T C_check_names
 have GX13_6:=fokx_Bundle_only_6 (P:=l.prog) (w:=w) (base:=base) F13 T C_is_name XR_6
 have MX_only_6:MCalX l.prog w K mg base "only" 12 2 1 K76.X_Bundle_only_6.f E6:=⟨by decide +kernel,K12,f13,_,_,n12,cl12,⟨a13,i13,k13⟩,GX13_6,b13⟩
 have G13:=fok_Bundle_only F13 T C_is_name
 have M_only:MCal l.prog w K mg base "only" 2 1 [12] GP.M_only_cc8d83:=(mcal_cons n12 cl12 ⟨a13,i13,k13⟩ G13 (by decide) b13 (by decide +kernel) mcal_nil)
 have GX14_6:=fokx_Bundle_lay_6 (P:=l.prog) (w:=w) (base:=base) F14 T C_put M_only MX_only_6
 have MX_lay_6:MCalX l.prog w K mg base "lay" 12 6 2 K76.X_Bundle_lay_6.f E6:=⟨by decide +kernel,K12,f14,_,_,n12,cl12,⟨a14,i14,k14⟩,GX14_6,b14⟩
 have G14:=fok_Bundle_lay F14 T C_put M_only
 have GX15_6:=fokx_Bundle_lift_6 (P:=l.prog) (w:=w) (base:=base) F15 T C_put M_only MX_only_6
 have MX_lift_6:MCalX l.prog w K mg base "lift" 12 6 2 K76.X_Bundle_lift_6.f E6:=⟨by decide +kernel,K12,f15,_,_,n12,cl12,⟨a15,i15,k15⟩,GX15_6,b15⟩
 have G15:=fok_Bundle_lift F15 T C_put M_only
 have C__law_cell_at:=d17.cal S fun F=>fok__law_cell_at F T
 have C__law_names:=d18.cal S fun F=>fok__law_names F T
 have C__law_spoilt:=d19.cal S fun F=>fok__law_spoilt F T
 have G20:=fok__law_odd_list F20 T C__law_spoilt C__law_names
 have C__law_odd_list:CalA l.prog w K mg base "_law_odd_list" 2 2 K76.L_odd_list.f:=⟨f20,_,_,G20,b20,k20,PySem.W.mg_of X G a20⟩
 have M_lay:LCal l.prog w K mg base "lay" 6 2 [12] (fun _=>GP.Bundle_lay.f):=(lcal_cons n12 cl12 ⟨a14,i14,k14⟩ G14 (by decide) b14 (by decide +kernel) lcal_nil)
 have M_lift:LCal l.prog w K mg base "lift" 6 2 [12] (fun _=>GP.Bundle_lift.f):=(lcal_cons n12 cl12 ⟨a15,i15,k15⟩ G15 (by decide) b15 (by decide +kernel) lcal_nil)
 have Mk_Bundle_0:LMk l.prog w K mg base 24 3 1 0 GP.Bundle___init__.f:=⟨⟨K12,f12,_,_,by exact n12,PySem.W.mg_of X G n12,⟨mk12,a12,i12,kc12⟩,G12,b12⟩⟩
 have GX21_6:=fokx__law_asked_6 (P:=l.prog) (w:=w) (base:=base) F21 T M_only M_lay M_lift Mk_Bundle_0 MX_Bundle_6 MX_only_6 MX_lay_6 MX_lift_6
 have CX__law_asked_6:CalX l.prog w K mg base "_law_asked" 7 3 K76.X__law_asked_6.f E6:=⟨f21,_,_,GX21_6,b21,k21,PySem.W.mg_of X G a21⟩
 have G21:=fok__law_asked (P:=l.prog) (w:=w) (base:=base) F21 T M_only M_lay M_lift Mk_Bundle_0
 have C__law_asked:CalA l.prog w K mg base "_law_asked" 7 3 K76.L_asked.f:=⟨f21,_,_,G21,b21,k21,PySem.W.mg_of X G a21⟩
 have C__law_refused:=d22.cal S fun F=>fok__law_refused F T C__law_asked XT_6 CX__law_asked_6
 have M_names_at:MCal l.prog w K mg base "names_at" 3 1 [12] GP.M_names_at_db16e3:=(d16.mc n12 cl12 (fun F=>fok_Bundle_names_at F T C_value_at) mcal_nil)
 have C__law_lies:=d23.cal S fun F=>fok__law_lies F T M_names_at M_only
 exact law_ofB (F:=K76.law.f) (fok_law F24 T C__law_names C__law_odd_list C__law_cell_at C__law_spoilt C__law_lies C__law_refused M_lay M_names_at Mk_Bundle_0) run_law
end K76
namespace PySem.W.Fast
def tw8934820429695348718:=0
def tw7970119316303826637:=0
def tw3498548212643447330:=0
def tw5861446915981097545:=0
def tw7191294337190367683:=0
def tw15555210381226003971:=0
def tw13508837879532944585:=0
def tw3071401164927825278:=0
def tw2778644378685626800:=0
def tw3443206661637469186:=0
def tw17495547088856390342:=0
def tw7967668882149588448:=0
def tw5917709834023616728:=0
def tw18048500601806742017:=0
def tw1364949636211595546:=0
def tw6151109444698969669:=0
def tw12409154110951222918:=0
def tw17175207594575159704:=0
def tw354869846928918401:=0
def tw9239148968711061585:=0
def tw9087837367590777332:=0
def tw13891296953698874155:=0
def tw1508365442463224952:=0
def tw3163783901462238428:=0
def tw111786494015649025:=0
def tw10020697534380983913:=0
def tw11473668108766659556:=0
def tw8545233829038394282:=0
def tw738852361374290635:=0
def tw16522702075392544688:=0
def tw11732350300780820023:=0
def tw14163017225848070623:=0
def tw16529018025557924471:=0
def tw8911753510375541145:=0
def tw8176528127310405662:=0
def tw10749336446396865226:=0
def tw10186363137871064104:=0
def tw10272477291068215525:=0
def tw14552562882519732899:=0
def tw133186631146745472:=0
def tw15240349515042130322:=0
def tw2189911544331887793:=0
def tw14886613065136735419:=0
def tw1291992445444910665:=0
def tw6952996185070771029:=0
def tw17797814118721343856:=0
def tw1846872831027789069:=0
def tw18441966558583903070:=0
def tw2826095471458823302:=0
def tw5603842277102231784:=0
def tw11104102205120321544:=0
def tw7007691647976368335:=0
def tw7503741706753139199:=0
def tw14358510970067275594:=0
def tw8012351547956407786:=0
def tw15891823566514012711:=0
def tw16700905732793838345:=0
def tw13221971239487357468:=0
def tw11445539531454118456:=0
def tw15007537201799701682:=0
def tw15447157206406774190:=0
def tw6128584501615654354:=0
def tw4060855833650373365:=0
def tw1093344298298095193:=0
def tw14633678550317103392:=0
def tw7576688348365010571:=0
def tw2748848160000576289:=0
def tw12572934011367181495:=0
def tw11085500152141643961:=0
def tw2732957481848501827:=0
def tw11631857554063570513:=0
def tw16674771116997051794:=0
def tw5422874807010924289:=0
def tw2516026430385356225:=0
def tw14820584821362327072:=0
def tw13600210602716559743:=0
def tw17824538210864539654:=0
def tw12408543853079746930:=0
def tw4233856516876561040:=0
def tw1418463564396880210:=0
def tw8158681836602853305:=0
def tw295709111681058655:=0
def tw8122272261809255266:=0
def tw14026386607660433359:=0
def tw17689304280889145393:=0
def tw4721436389426935832:=0
def tw17465185391440244770:=0
def tw6987393267114080080:=0
def tw6163488908854032213:=0
def tw14602948171838494586:=0
def tw7571954121512708151:=0
def tw6573508045265828204:=0
def tw2758483485429644180:=0
def tw711788744874027898:=0
def tw1197090528920673529:=0
def tw15438848639240605977:=0
def tw15840222434489814802:=0
def tw18128018660616758336:=0
def tw16126484876660883448:=0
def tw14404146322951103540:=0
def tw14270534238573173556:=0
def tw2504236614533419213:=0
def tw15880712197931112535:=0
def tw17443090373017971724:=0
def tw5418430174192678800:=0
def tw775268253897319341:=0
def tw6622458975473770789:=0
def tw6176266037746805205:=0
def tw8289321904397561437:=0
def tw9421367136129460174:=0
def tw190495834491496068:=0
def tw4652885821419941664:=0
def tw5880450904173972804:=0
def tw5432494007174995613:=0
def tw15724864757210904734:=0
def tw699258668192654963:=0
def tw12460581370591322426:=0
def tw16505580849516972071:=0
def tw17165536851981641955:=0
def tw2226976392412369472:=0
def tw3767266061601505886:=0
def tw5204322586855735719:=0
def tw9038201335198400782:=0
def tw14283462002693293375:=0
def tw16654601130327423415:=0
def tw14850609398683507017:=0
def tw9041544252264105797:=0
def tw8687232487012947923:=0
def tw15926451552453197459:=0
def tw17996940268130863048:=0
def tw18347785707631251486:=0
def tw17141856394767306800:=0
def tw16442177543057827015:=0
def tw11354870148427816176:=0
def tw6123291043337631939:=0
def tw12463004563023940067:=0
def tw11557910327832671544:=0
def tw14039279885535336134:=0
def tw10709216749949903184:=0
def tw8645086917155334528:=0
def tw3598257970959563365:=0
def tw17191177975839136262:=0
def tw6618941330922519961:=0
def tw8966754042816933164:=0
def tw5651178972747316560:=0
def tw7731248976893294507:=0
def tw13587733355201288024:=0
def tw4789533712067552489:=0
def tw12389313676452527801:=0
def tw4019735509509981649:=0
def tw9529685586909965349:=0
def tw11139069356340396424:=0
def tw8685212900455010926:=0
def tw6595876566366574194:=0
def tw4604575393708752447:=0
def tw4078311721141669561:=0
def tw17354910457678938505:=0
def tw17887108435540484076:=0
def tw12863959548688238073:=0
def tw13894899536465145130:=0
def tw165561709427790823:=0
def tw3153187127701542823:=0
def tw5374338884448167547:=0
def tw10705864323989259906:=0
def tw18428741227071196611:=0
def tw9106996235865980575:=0
def tw9968380967787191975:=0
def tw15161039200522803267:=0
def tw3365848314791311844:=0
def tw10376268344749696775:=0
def tw5078421515691448326:=0
def tw9901163994763879644:=0
def tw4308647788841845837:=0
def tw7429933387539458096:=0
def tw16209168111522420061:=0
def tw6473557350538977445:=0
def tw13786098392102524903:=0
def tw7819059715822403103:=0
def tw13414098100887383890:=0
def tw166585370729504800:=0
def tw17916302811133657944:=0
def tw3941694413448769789:=0
def tw14231836842110999368:=0
def tw12504840121860811689:=0
def tw7221930290734016057:=0
def tw457228957052237064:=0
def tw7513831751543905648:=0
def tw8117785080406883620:=0
end PySem.W.Fast
def PySem.W.Fast.tw4413687814945677559:Unit:=()
def PySem.W.Fast.tw5271100115129766617:Unit:=()
def PySem.W.Fast.tw7357685740224694084:Unit:=()
def PySem.W.Fast.tw2124211805889676058:Unit:=()
def PySem.W.Fast.tw8318072125343093487:Unit:=()
def PySem.W.Fast.tw2396649791892116111:Unit:=()
def PySem.W.Fast.tw12223805108402276205:Unit:=()
def PySem.W.Fast.tw9526877629950559159:Unit:=()
def PySem.W.Fast.tw1994363158559806789:Unit:=()
def PySem.W.Fast.tw11185107911721237808:Unit:=()
def PySem.W.Fast.tw12750835971984739705:Unit:=()
def PySem.W.Fast.tw12685965745426626781:Unit:=()
def PySem.W.Fast.tw12644693594389605526:Unit:=()
def PySem.W.Fast.tw5465344968050295717:Unit:=()
def PySem.W.Fast.tw17990537462416374169:Unit:=()
def PySem.W.Fast.tw4604097698059765599:Unit:=()
def PySem.W.Fast.tw11483038598413095109:Unit:=()
def PySem.W.Fast.tw7278929753995816063:Unit:=()
def PySem.W.Fast.tw3093647264294279779:Unit:=()
def PySem.W.Fast.tw12346014208210249813:Unit:=()
def PySem.W.Fast.tw3769385978802579832:Unit:=()
def PySem.W.Fast.tw8413838751725292729:Unit:=()
def PySem.W.Fast.tw5599941126089642936:Unit:=()
open PySem PySem.W PyProof.Rows
set_option maxRecDepth 100000 in
set_option maxHeartbeats 0 in
theorem PySem.Challenge.cw_spanmap_k76_refused_bundles_holds : PySem.Challenge.rw_spanmap_k76_refused_bundles.Holds := by
 w_on; o_law; k_head; (case hw=>w_witness2)
 k_fill
 refine' FL.walkB (l:=PySem.Challenge.rw_spanmap_k76_refused_bundles) (k:=9) rfl rfl ⟨rfl,by decide,by decide⟩ (fun w h Y=>PySem.W.kIn_of Y) (fun w=>by kernel_rfl) ?T ?F
 case T =>
  intro w
  dsimp only [L2.makers]
  repeat (first
   | exact FL.TabL.nil
   | (apply FL.tabL_no; k_is)
   | (apply FL.tabL_yes; k_is; k_is; exact rfl; k_is; exact rfl; kernel_rfl))
  all_goals decide
 case F =>
  intro w mg fa h KX G hmg
  refine' K76.all_mk KX G hmg ..
  all_goals first | ((first | unfold FL.DefM | unfold FL.DefC); iterate 9 (apply Exists.intro); repeat' (first | (unfold FL.LkF; k_is) | k_is | apply And.intro)) | ((first | unfold FL.CN | unfold FL.XN | unfold FL.XI); repeat' (first | k_is | apply And.intro | decide)) | (unfold L2.NoAttr; k_is) | (unfold FL.LkF; k_is) | k_is | k_exc | decide | exact rfl | skip
#print axioms PySem.Challenge.cw_spanmap_k76_refused_bundles_holds
