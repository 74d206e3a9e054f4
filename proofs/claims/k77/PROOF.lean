import PyProof.Rows.All
import Wide.All
import OpenK.AllK
import Wide.FinOn
import Lean
import PyProof.EqAt
import PyProof.DictItems
import PyProof.DictWalks
import PyProof.Rows.SortStr
import PyProof.Rows.SortShellK
import PyProof.Rows.SortWalk
import KE.KRevIter
import KE.KDictList
import PyProof.CollectIter
import PyProof.DictValues
import KE.KDictSum
import PyProof.EqKinds
import PyProof.TupleCall
import PyProof.ListRange
import PyProof.P3In
import PyProof.NeData
import PyProof.NsDelKeeps
import PyProof.SliceList
import KE.KLam
import KE.KIntText
import PySem.Challenge.RW_spanmap_k77_fewest
set_option compiler.extract_closed false
set_option bootstrap.genMatcherCode false
set_option Elab.async false
set_option linter.all false
set_option maxRecDepth 100000
namespace HT
noncomputable def sIx (n d:Nat):Option Int->Nat
 | none=>d
 | some v=>if v < 0 then (v+(n:Int)).toNat else min v.toNat n
end HT
namespace L2
open PySem
abbrev Key:=Sum (Option Int) Str
noncomputable def ixN (n:Nat) (i:Int):Option Nat:=if 0<=i then (if i < n then some i.toNat else none) else if -(n:Int)<=i then some (i+n).toNat else none
noncomputable def atI {α : Type} (xs:List α) (i:Int):Option α:=(ixN xs.length i).bind fun j=>xs[j]?
end L2
namespace FL
open PySem PySem.Spec PyProof.Rows L2
theorem bnd {α β : Type} {o:Option α} {f : α->Option β} {b : β} (h:o.bind f=some b):∃ a,o=some a/\f a=some b:=Option.bind_eq_some_iff.mp h
theorem mpd {α β : Type} {o:Option α} {f : α->β} {b : β} (h:o.map f=some b):∃ a,o=some a/\f a=b:=Option.map_eq_some_iff.mp h
noncomputable def clsName:Nat->Str
 | 0=>"Put" | 1=>"Widen" | 2=>"Narrow" | 3=>"Move" | 4=>"Stretch" | 5=>"Mirror" | 6=>"Deed" | 7=>"Shut" | 8=>"Open" | 9=>"Endless" | 10=>"End" | 11=>"Line" | 12=>"Bundle" | 13=>"Desk"
 | 20=>"Line" | 21=>"Line" | 22=>"Line" | 23=>"Line" | 24=>"Bundle" | 25=>"Desk" | _=>""
noncomputable def clsFlds:Nat->List Str
 | 0=>["span","fill"] | 1=>["fill","at","many"] | 2=>["fill","at","many"] | 3=>["fill","far"] | 4=>["fill","top","bottom"] | 5=>["fill"] | 6=>["fill"] | 7=>["place"] | 8=>["place"] | 11=>["pieces","places","earlier","later"] | 12=>["lying"] | 13=>["lines"]
 | 21=>["pieces"] | 22=>["pieces","places"] | 23=>["pieces","places","earlier"] | _=>[]
noncomputable def fnName:Nat->Str
 | 0=>"either" | 1=>"if_both" | 2=>"if_alone" | 3=>"summed" | 4=>"_law_first" | 5=>"_law_both" | 6=>"_law_left" | 7=>"_law_sum" | 8=>"_law_none" | _=>""
inductive D where
 | non | bl (b:Bool) | int (i:Int) | str (x:Str) | tup (ds:List D) | lst (ds:List D)
 | dct (ks:List Key) (ds:List D) | ins (t:Nat) (ds:List D) | clo (m n:Nat) (ds:List D)
 | dcf (ks:List Key) (ds:List D) | dtt (ks:List (List Key)) (ds:List D)
mutual
noncomputable def flat:D->Bool
 | .non | .bl _ | .int _ | .str _=>true
 | .tup ds=>flats ds
 | _=>false
noncomputable def flats:List D->Bool
 | []=>true
 | d::r=>flat d && flats r
end
noncomputable def xName:Nat->Str
 | 0=>"SpanError" | 1=>"Empty" | 2=>"NoEnd" | 3=>"Clash" | 4=>"NoCount" | 5=>"NoShare" | 6=>"NoName" | 7=>"NoMark" | 8=>"NoDeed" | 9=>"NoRule" | 10=>"TooMuch" | 11=>"NoText" | _=>"NoRow"
inductive OT where
 | val (d:D) | lst (l:List OT) | tup (l:List OT) | dct (ks:List Key) (l:List OT) | ins (t:Nat) (l:List OT)
mutual
noncomputable def otD:OT->D
 | .val d=>d
 | .lst l=>.lst (otDs l)
 | .tup l=>.tup (otDs l)
 | .dct ks l=>.dct ks (otDs l)
 | .ins t l=>.ins t (otDs l)
noncomputable def otDs:List OT->List D
 | []=>[]
 | t::r=>otD t::otDs r
end
inductive Sl where
 | no | v (d:D) | own (l:List D) | exc (t:Nat) | exf (t:Nat) (fs:List (Str×Int)) | fr (l:List D) | ob (r:Option Nat) (t:OT)
abbrev FE:=List Sl->Option D
abbrev FT:=List Sl->Option Bool
abbrev FA:=List Sl->Option (List D)
noncomputable def mkL (f:FA):FE:=fun ds=>(f ds).map D.lst
noncomputable def zZ (i:Nat):FE:=fun ds=>match ds[i]? with | some (.v d)=>some d | _=>none
noncomputable def zF (i:Nat):FE:=fun ds=>match ds[i]? with | some (.v d)=>some d | some (.own l)=>some (.lst l) | _=>none
noncomputable def zA (d:D):FE:=fun _=>some d
noncomputable def zE (op:D->D->Option D) (fa fb:FE):FE:=fun ds=>(fa ds).bind fun x=>(fb ds).bind fun y=>op x y
noncomputable def isB:D->Option Bool
 | .bl b=>some b
 | _=>none
noncomputable def zT (f:FE):FT:=fun ds=>(f ds).bind isB
noncomputable def jD:D->D->Option D
 | .int i,.int j=>some (.int (i+j))
 | .str x,.str y=>if x.length+y.length<=sizeLine then some (.str (x++y)) else none
 | _,_=>none
noncomputable def subD:D->D->Option D
 | .int i,.int j=>some (.int (i - j))
 | _,_=>none
def divOk (j:Int):Prop:=0 < j/\j.natAbs.log2 < 9000
noncomputable instance divOkD (j:Int):Decidable (divOk j):=Classical.propDecidable _
noncomputable def jK:D->D->Option D
 | .int i,.int j=>if divOk j then some (.int (i / j)) else none
 | _,_=>none
noncomputable def yB:D->D->Option D
 | .int i,.int j=>if 0 < j then some (.int (i % j)) else none
 | _,_=>none
noncomputable def cmpI (p:Int->Int->Bool):D->D->Option D
 | .int i,.int j=>some (.bl (p i j))
 | _,_=>none
noncomputable def andT (c d:FT):FT:=fun ds=>(c ds).bind fun b=>if b=true then d ds else some false
noncomputable def orT (c d:FT):FT:=fun ds=>(c ds).bind fun b=>if b=true then some true else d ds
noncomputable def notT (c:FT):FT:=fun ds=>(c ds).map not
noncomputable def andV (f g:FE):FE:=fun ds=>(f ds).bind fun d=>match d with | .bl true=>g ds | .bl false=>some (.bl false) | _=>none
noncomputable def orV (f g:FE):FE:=fun ds=>(f ds).bind fun d=>match d with | .bl true=>some (.bl true) | .bl false=>g ds | _=>none
noncomputable def notV (f:FE):FE:=fun ds=>(f ds).bind fun d=>match d with | .bl b=>some (.bl (!b)) | _=>none
noncomputable def ifV (c:FT) (f g:FE):FE:=fun ds=>(c ds).bind fun b=>if b=true then f ds else g ds
noncomputable def chain (op op':D->D->Option D) (fa fb fc:FE):FE:=fun ds=>(fa ds).bind fun x=>(fb ds).bind fun y=>(op x y).bind fun z=>match z with
 | .bl true=>(fc ds).bind fun w=>op' y w
 | .bl false=>some (.bl false)
 | _=>none
noncomputable def zB (f:FE) (g:FA):FA:=fun ds=>(f ds).bind fun x=>(g ds).map fun r=>x::r
noncomputable def zP:FA:=fun _=>some []
noncomputable def zU (f:FA):FA:=fun ds=>(f ds).bind fun l=>if l.length<=sizeLine then some l else none
noncomputable def mkT (f:FA):FE:=fun ds=>(f ds).map D.tup
noncomputable def ixD:D->D->Option D
 | .lst l,.int i=>atI l i
 | .tup l,.int i=>atI l i
 | .str x,.int i=>if x.length<=sizeLine then (atI x.cps.toList i).map fun c=>.str ⟨#[c]⟩ else none
 | _,_=>none
inductive Ret where
 | val (d:D) | fresh (l:List D) | any (d:D) | obj (t:OT)
noncomputable def retV:Ret->Option D
 | .val d=>some d
 | .fresh l=>some (.lst l)
 | .any _=>none
 | .obj t=>some (otD t)
noncomputable def retF:Ret->Option (List D)
 | .fresh l=>some l
 | _=>none
noncomputable def qF (n:Nat) (F:List D->Option Ret) (g:FA):FE:=fun ds=>(g ds).bind fun l=>if l.length=n then (F l).bind retV else none
noncomputable def callF (n:Nat) (F:List D->Option Ret) (g:FA):FA:=fun ds=>(g ds).bind fun l=>if l.length=n then (F l).bind retF else none
noncomputable def callB (F:List D->Option D) (g:FA):FE:=fun ds=>(g ds).bind F
noncomputable def lenD:List D->Option D
 | [.lst l]=>some (.int l.length)
 | [.tup l]=>some (.int l.length)
 | [.str x]=>if x.length<=sizeLine then some (.int x.length) else none
 | _=>none
inductive Out where
 | nx (ds:List Sl) | rt (r:Ret) | bk (ds:List Sl) | ct (ds:List Sl)
abbrev FS:=List Sl->Option Out
noncomputable def jS:FS:=fun ds=>some (.nx ds)
noncomputable def qH (f g:FS):FS:=fun ds=>(f ds).bind fun o=>match o with | .nx ds'=>g ds' | o=>some o
noncomputable def ifG (c:FT) (f g:FS):FS:=fun ds=>(c ds).bind fun b=>if b=true then f ds else g ds
noncomputable def yK (i:Nat) (f:FE):FS:=fun ds=>(f ds).map fun d=>.nx (ds.set i (.v d))
noncomputable def setOG (i:Nat) (f:FA):FS:=fun ds=>(f ds).map fun l=>.nx (ds.set i (.own l))
noncomputable def flatR (d:D):Option Out:=if flat d=true then some (.rt (.val d)) else none
noncomputable def retG (f:FE):FS:=fun ds=>(f ds).bind flatR
noncomputable def flatF (l:List D):Option Out:=if flats l=true then some (.rt (.fresh l)) else none
noncomputable def retOG (f:FA):FS:=fun ds=>(f ds).bind flatF
noncomputable def retXG (i:Nat):FS:=fun ds=>match ds[i]? with | some (.own l)=>flatF l | _=>none
noncomputable def putG (i:Nat) (fk fe:FE):FS:=fun ds=>match ds[i]? with
 | some (.own l) => (fe ds).bind fun d => (fk ds).bind fun k => match k with
   | .int n=>(ixN l.length n).map fun j=>.nx (ds.set i (.own (l.set j d)))
   | _=>none
 | _=>none
noncomputable def appG (i:Nat) (fe:FE):FS:=fun ds=>match ds[i]? with
 | some (.own l)=>(fe ds).bind fun d=>if l.length < sizeLine then some (.nx (ds.set i (.own (l++[d])))) else none
 | _=>none
noncomputable def args (n:Nat) (ds:List D):List Sl:=ds.map Sl.v++List.replicate (n - ds.length) Sl.no
noncomputable def viaA (f:FE) (k:D->Option (List D)):FA:=fun ds=>(f ds).bind k
noncomputable def rangeD (lo:Int) (n:Nat):List D:=(List.range n).map fun (k:Nat)=>D.int (lo+(k:Int))
def okR (j:Int):Prop:=-(2 ^ 62)<=j/\j < 2 ^ 62
noncomputable instance okRD (j:Int):Decidable (okR j):=Classical.propDecidable _
noncomputable def rng1 (f:FE):FA:=fun ds=>(f ds).bind fun d=>match d with | .int j=>if okR j then some (rangeD 0 j.toNat) else none | _=>none
noncomputable def zL (i:Nat):D->List Sl->Option (List Sl):=fun d ds=>some (ds.set i (.v d))
noncomputable def tgNil:List D->List Sl->Option (List Sl)
 | [],ds=>some ds
 | _,_=>none
noncomputable def zO (g:D->List Sl->Option (List Sl)) (h:List D->List Sl->Option (List Sl)):List D->List Sl->Option (List Sl)
 | d::r,ds=>(g d ds).bind fun ds'=>h r ds'
 | _,_=>none
noncomputable def tupG (n:Nat) (h:List D->List Sl->Option (List Sl)):D->List Sl->Option (List Sl)
 | .tup l,ds=>if l.length=n then h l ds else none
 | _,_=>none
noncomputable def qN (ga:D->List Sl->Option (List Sl)) (body:FS):List D->List Sl->Option Out
 | [],ds=>some (.nx ds)
 | d :: r, ds => (ga d ds).bind fun ds1 => (body ds1).bind fun o => match o with
   | .nx ds2=>qN ga body r ds2
   | .ct ds2=>qN ga body r ds2
   | .bk ds2=>some (.nx ds2)
   | .rt r=>some (.rt r)
noncomputable def forG (fi:FA) (ga:D->List Sl->Option (List Sl)) (body:FS):FS:=fun ds=>(fi ds).bind fun items=>qN ga body items ds
noncomputable def compL (ga:D->List Sl->Option (List Sl)) (tt:FT) (fe:FE) (s0:List Sl):List D->Option (List D)
 | []=>some []
 | d::r=>(ga d s0).bind fun ds1=>(tt ds1).bind fun b=>if b=true then (fe ds1).bind fun y=>(compL ga tt fe s0 r).map fun ys=>y::ys else compL ga tt fe s0 r
noncomputable def jA (mp:List (Option Nat)) (ds:List Sl):List Sl:=mp.map fun o=>match o with
 | some j=>(match ds[j]? with | some (.v d)=>.v d | _=>.no)
 | none=>.no
noncomputable def compG (fi:FA) (mp:List (Option Nat)) (ga:D->List Sl->Option (List Sl)) (tt:FT) (fe:FE):FA:=fun ds=>(fi ds).bind fun items=>if items.length<=sizeLine then compL ga tt fe (jA mp ds) items else none
noncomputable def tyD:D->Option String
 | .non=>some "NoneType"
 | .bl _=>some "bool"
 | .int _=>some "int"
 | .str _=>some "str"
 | .tup _=>some "tuple"
 | .lst _=>some "list"
 | .dct _ _=>some "dict"
 | .ins _ _=>none
 | .clo _ _ _=>none
 | .dcf _ _=>none
 | .dtt _ _=>none
noncomputable def kitN:List String:=["NoneType","bool","int","str","tuple","list","dict"]
noncomputable def kitT:List String:=["bool","int","str","tuple","list","dict"]
noncomputable def kitF (t T:String):Option Bool:=if t∈kitN/\T∈kitT then some (t == T || (t == "bool" && T == "int")) else none
noncomputable def isiD (T:String) (d:D):Option D:=(tyD d).bind fun t=>(kitF t T).map D.bl
noncomputable def isiG (T:String) (f:FE):FE:=fun ds=>(f ds).bind (isiD T)
noncomputable def blsD:List D->Option (List Bool)
 | []=>some []
 | .bl b::r=>(blsD r).map fun bs=>b::bs
 | _=>none
noncomputable def allD:List D->Option D
 | [.lst l]=>(blsD l).map fun bs=>.bl (bs.all id)
 | _=>none
noncomputable def negD:D->Option D
 | .int i=>some (.int (-i))
 | _=>none
noncomputable def un1 (op:D->Option D) (f:FE):FE:=fun ds=>(f ds).bind op
noncomputable def retDG (f:FE):FS:=fun ds=>(f ds).map fun d=>.rt (.val d)
noncomputable def runG (g:FS) (n:Nat):List D->Option Ret:=fun ds=>match g (args n ds) with
 | some (.rt r)=>some r
 | some (.nx _)=>some (.val .non)
 | _=>none
def CPowB (i j:Int):Prop:=0<=j/\(Builtin.Int.intBits i:Int) * j<=2 ^ 27
mutual
noncomputable def toPy:D->PyData
 | .non=>.none
 | .bl b=>.bool b
 | .int i=>.int i
 | .str x=>.str x
 | .tup ds=>.tuple (toPys ds)
 | .lst ds=>.list (toPys ds)
 | .dct _ _=>.none
 | .ins _ _=>.none
 | .clo _ _ _=>.none
 | .dcf _ _=>.none
 | .dtt _ _=>.none
noncomputable def toPys:List D->List PyData
 | []=>[]
 | d::r=>toPy d::toPys r
end
mutual
noncomputable def shal:Nat->D->Bool
 | _,.non=>true
 | _,.bl _=>true
 | _,.int _=>true
 | _,.str x=>PyData.strOk x
 | n,.tup ds=>shals n ds
 | n,.lst ds=>shals n ds
 | _,.dct _ _=>false
 | _,.ins _ _=>false
 | _,.clo _ _ _=>false
 | _,.dcf _ _=>false
 | _,.dtt _ _=>false
noncomputable def shals:Nat->List D->Bool
 | _,[]=>true
 | 0,_::_=>false
 | n+1,d::r=>shal n d && shals (n+1) r
end
noncomputable def eqvD (x y:D):Bool:=PyData.eqv (toPy x) (toPy y)
noncomputable def eqvs (x y:List D):Bool:=PyData.eqvAll (toPys x) (toPys y)
noncomputable def eqD (x y:D):Option D:=if shal 40 x=true/\shal 40 y=true then some (.bl (eqvD x y)) else none
noncomputable def neD (x y:D):Option D:=if shal 40 x=true/\shal 40 y=true then some (.bl (!eqvD x y)) else none
noncomputable def isD:D->D->Option D
 | .non,.non=>some (.bl true)
 | _,.non=>some (.bl false)
 | _,_=>none
noncomputable def notD:D->D->Option D
 | .non,.non=>some (.bl false)
 | _,.non=>some (.bl true)
 | _,_=>none
noncomputable def asLT:D->Option (List D)
 | .lst l=>some l
 | .tup l=>some l
 | _=>none
noncomputable instance mulOkD (i j:Int):Decidable (IntMulOk i j):=Classical.propDecidable _
noncomputable instance powOkD (i j:Int):Decidable (CPowB i j):=Classical.propDecidable _
noncomputable def jL:D->D->Option D
 | .int i,.int j=>if IntMulOk i j then some (.int (i * j)) else none
 | _,_=>none
noncomputable def powD:D->D->Option D
 | .int i,.int j=>if CPowB i j then some (.int (i ^ j.toNat)) else none
 | _,_=>none
noncomputable def catA (fa fb:FE):FA:=fun ds=>(fa ds).bind fun x=>(fb ds).bind fun y=>match x,y with
 | .lst a,.lst b=>if a.length+b.length<=sizeLine then some (a++b) else none
 | _,_=>none
noncomputable def noP:List Sl->Option (Option Int):=fun _=>some none
noncomputable def soP (f:FE):List Sl->Option (Option Int):=fun ds=>(f ds).bind fun d=>match d with | .int i=>some (some i) | _=>none
noncomputable def cutD (l:List D) (lo hi:Option Int):List D:=(l.drop (HT.sIx l.length 0 lo)).take (HT.sIx l.length l.length hi - HT.sIx l.length 0 lo)
noncomputable def sliA (f:FE) (lo hi:List Sl->Option (Option Int)):FA:=fun ds=>(f ds).bind fun d=>(lo ds).bind fun a=>(hi ds).bind fun b=>match d with
 | .lst l=>some (cutD l a b)
 | _=>none
noncomputable def lisA (f:FE):FA:=fun ds=>(f ds).bind asLT
noncomputable def absD:List D->Option D
 | [.int i]=>some (.int (if i < 0 then -i else i))
 | _=>none
noncomputable def truD:D->Option Bool
 | .non=>some false
 | .bl b=>some b
 | .int i=>some (i != 0)
 | .str x=>if x.length<=sizeLine then some ((x.length:Int) != 0) else none
 | .tup l=>some (!l.isEmpty)
 | .lst l=>some (!l.isEmpty)
 | _=>none
noncomputable def testT (f:FE):FT:=fun ds=>(f ds).bind truD
noncomputable def relS (i:Nat) (ds:List Sl):List Sl:=match ds[i]? with | some (.own l)=>ds.set i (.v (.lst l)) | _=>ds
noncomputable def whileN (c:FT) (b:FS):Nat->FS
 | 0,_=>none
 | n + 1, ds => (c ds).bind fun k => if k = true then (b ds).bind fun o => match o with
   | .nx ds2=>whileN c b n ds2
   | .ct ds2=>whileN c b n ds2
   | .bk ds2=>some (.nx ds2)
   | .rt r=>some (.rt r) else some (.nx ds)
noncomputable def asgG (ga:D->List Sl->Option (List Sl)) (f:FE):FS:=fun ds=>(f ds).bind fun d=>(ga d ds).map .nx
noncomputable def extG (i:Nat) (fe:FA):FS:=fun ds=>match ds[i]? with
 | some (.own l)=>(fe ds).bind fun d=>if l.length+d.length<=sizeLine then some (.nx (ds.set i (.own (l++d)))) else none
 | _=>none
noncomputable def clrG (i:Nat):FS:=fun ds=>match ds[i]? with
 | some (.own l)=>some (.nx (ds.set i (.own [])))
 | _=>none
noncomputable def anyD:List D->Option D
 | [.lst l]=>(blsD l).map fun bs=>.bl (bs.any id)
 | _=>none
noncomputable def ltD:D->D->Option D:=cmpI fun i j=>decide (i < j)
noncomputable def leD:D->D->Option D:=cmpI fun i j=>decide (i<=j)
noncomputable def gtD:D->D->Option D:=cmpI fun i j=>decide (j < i)
noncomputable def geD:D->D->Option D:=cmpI fun i j=>decide (j<=i)
noncomputable def rng2 (fa fb:FE):FA:=fun ds=>(fa ds).bind fun x=>(fb ds).bind fun y=>match x,y with
 | .int i,.int j=>if okR i/\okR j then some (rangeD i (j - i).toNat) else none
 | _,_=>none
noncomputable def range3D (lo c:Int) (n:Nat):List D:=(List.range n).map fun (k:Nat)=>D.int (lo+(k:Int) * c)
noncomputable def steps3 (i j c:Int):Nat:=if i < j then ((j - i - 1) / c+1).toNat else 0
def okR3 (i j c:Int):Prop:=-(2 ^ 61)<=i/\i < 2 ^ 61/\-(2 ^ 61)<=j/\j < 2 ^ 61/\0 < c/\c < 1000000
noncomputable instance okR3D (i j c:Int):Decidable (okR3 i j c):=Classical.propDecidable _
noncomputable def rng3 (fa fb fc:FE):FA:=fun ds=>(fa ds).bind fun x=>(fb ds).bind fun y=>(fc ds).bind fun z=>match x,y,z with
 | .int i,.int j,.int c=>if okR3 i j c then some (range3D i c (steps3 i j c)) else none
 | _,_,_=>none
noncomputable def revA (f:FE):FA:=fun ds=>(f ds).bind fun d=>match d with
 | .lst l=>some l.reverse
 | _=>none
noncomputable def augA (i:Nat) (f:FE):FS:=fun ds=>(zZ i ds).bind fun x=>(f ds).bind fun y=>match x,y with
 | .int a,.int b=>some (.nx (ds.set i (.v (.int (a+b)))))
 | _,_=>none
noncomputable def parG (i j:Nat) (f:FA):FS:=fun ds=>(f ds).bind fun l=>match l with
 | [a,b]=>some (.nx ((ds.set i (.v a)).set j (.v b)))
 | _=>none
noncomputable def int1D:List D->Option D
 | [.int i]=>some (.int i)
 | [.bl b]=>some (.int (if b then 1 else 0))
 | _=>none
noncomputable def intsD:List D->Option (List Int)
 | []=>some []
 | .int b::r=>(intsD r).map fun bs=>b::bs
 | _=>none
end FL
namespace FL
open PySem PyProof.Rows L2
noncomputable def inE (neg:Bool) (x y:D):Option D:=match y with
 | .lst l=>if shal 40 x=true/\shals 40 l=true then some (.bl (if neg=true then !l.any (fun z=>eqvD z x) else l.any fun z=>eqvD z x)) else none
 | _=>none
noncomputable def sumD:List D->Option D
 | [.lst l]=>(intsD l).map fun ns=>.int ns.sum
 | _=>none
noncomputable def fldD (ix:List (Nat×Nat)):D->Option D
 | .ins t ds=>(ix.lookup t).bind fun i=>ds[i]?
 | _=>none
noncomputable def fldG (ix:List (Nat×Nat)) (f:FE):FE:=fun ds=>(f ds).bind (fldD ix)
noncomputable def methR (n:Nat) (cs:List Nat) (F:Nat->List D->Option Ret) (o:D) (l:List D):Option Ret:=match o with
 | .ins t es=>if t∈cs/\l.length=n then F t (.ins t es::l) else none
 | _=>none
noncomputable def methV (n:Nat) (cs:List Nat) (F:Nat->List D->Option Ret) (fo:FE) (g:FA):FE:=fun ds=>(fo ds).bind fun o=>(g ds).bind fun l=>(methR n cs F o l).bind retV
noncomputable def methF (n:Nat) (cs:List Nat) (F:Nat->List D->Option Ret) (fo:FE) (g:FA):FA:=fun ds=>(fo ds).bind fun o=>(g ds).bind fun l=>(methR n cs F o l).bind retF
noncomputable def makeG (t n:Nat) (G:List D->Option (List D)) (g:FA):FE:=fun ds=>(g ds).bind fun l=>if l.length=n/\flats l=true then (G l).map (D.ins t) else none
end FL
namespace FL
open PySem
noncomputable def ifX (c:FT) (a b:List Sl->Bool):List Sl->Bool:=fun ds=>match c ds with
 | some true=>a ds
 | some false=>b ds
 | none=>false
noncomputable def neverX:List Sl->Bool:=fun _=>false
noncomputable def alwaysX:List Sl->Bool:=fun _=>true
noncomputable def seqX (f:FS) (x:List Sl->Bool):List Sl->Bool:=fun ds=>match f ds with
 | some (.nx ds')=>x ds'
 | _=>false
noncomputable def callX (n:Nat) (R:List D->Bool) (g:FA):List Sl->Bool:=fun ds=>match g ds with
 | some l=>decide (l.length=n) && R l
 | none=>false
noncomputable def runX (x:List Sl->Bool) (n:Nat):List D->Bool:=fun ds=>x (args n ds)
noncomputable def dropG (f:FE):FS:=fun ds=>(f ds).map fun _=>.nx ds
noncomputable def goneO (i:Nat):Out->Out
 | .nx ds=>.nx (ds.set i .no)
 | .bk ds=>.bk (ds.set i .no)
 | .ct ds=>.ct (ds.set i .no)
 | .rt r=>.rt r
noncomputable def isxG (i:Nat) (tb:List (Nat×Bool)):FE:=fun ds=>match ds[i]? with
 | some (.exc t)=>(tb.lookup t).map D.bl
 | _=>none
noncomputable def enumD (l:List D):List D:=l.mapIdx fun i d=>.tup [.int (i:Int),d]
noncomputable def enuA (f:FE):FA:=fun ds=>(f ds).bind fun d=>match d with
 | .lst l=>some (enumD l)
 | _=>none
noncomputable def tryG2 (i t u:Nat) (g:FS) (x y:List Sl->Bool) (h:FS):FS:=fun ds=>if x ds=true then (h (ds.set i (.exc t))).map (goneO i) else if y ds=true then (h (ds.set i (.exc u))).map (goneO i) else g ds
def okRB (i j:Int):Prop:=-(2 ^ 61)<=i/\i < 2 ^ 61/\-(2 ^ 61)<=j/\j < 2 ^ 61
noncomputable instance okRBD (i j:Int):Decidable (okRB i j):=Classical.propDecidable _
end FL
namespace FL
noncomputable def insI (k:Int):List Int->List Int
 | []=>[k]
 | a::l=>if k<=a then k::a::l else a::insI k l
noncomputable def srtI (ns:List Int):List Int:=ns.foldr insI []
theorem wE k:∀ l,(insI k l).Perm (k::l)
 | []=>List.Perm.refl _
 | a :: l => by
   unfold insI
   split
   · exact List.Perm.refl _
   · exact (List.Perm.cons a (wE k l)).trans (List.Perm.swap _ _ _)
theorem srtI_perm:∀ ns,(srtI ns).Perm ns
 | []=>List.Perm.refl _
 | k::ns=>(wE k _).trans (List.Perm.cons k (srtI_perm ns))
theorem insI_le k:∀ l,l.Pairwise (·<=·)->(insI k l).Pairwise (·<=·)
 | [],_=>List.pairwise_singleton _ _
 | a :: l, h => by
   obtain ⟨h1,h2⟩:=List.pairwise_cons.mp h
   unfold insI
   split
   · rename_i hk
     refine List.pairwise_cons.mpr ⟨fun b hb=>?_,h⟩
     rcases List.mem_cons.mp hb with e | hb
     · rw [e]; exact hk
     · exact Int.le_trans hk (h1 b hb)
   · rename_i hk
     refine List.pairwise_cons.mpr ⟨fun b hb=>?_,insI_le k l h2⟩
     rcases List.mem_cons.mp ((wE k l).mem_iff.mp hb) with e | hb
     · rw [e]; omega
     · exact h1 b hb
theorem srtI_le:∀ ns,(srtI ns).Pairwise (·<=·)
 | []=>List.Pairwise.nil
 | k::ns=>insI_le k _ (srtI_le ns)
theorem le_unique:∀ (l m:List Int),l.Perm m->l.Pairwise (·<=·)->m.Pairwise (·<=·)->l=m
 | [],m,h,_,_=>h.nil_eq
 | a::l,[],h,_,_=>by have:=h.length_eq; simp at this
 | a :: l, b :: m, h, h1, h2 => by
   obtain ⟨p1,p2⟩:=List.pairwise_cons.mp h1
   obtain ⟨q1,q2⟩:=List.pairwise_cons.mp h2
   have ha:a<=b:=by
    rcases List.mem_cons.mp (h.mem_iff.mpr (.head _)) with e | e
    · rw [e]; exact Int.le_refl _
    · exact p1 b e
   have hb:b<=a:=by
    rcases List.mem_cons.mp (h.mem_iff.mp (.head _)) with e | e
    · rw [e]; exact Int.le_refl _
    · exact q1 a e
   have e:a=b:=Int.le_antisymm ha hb
   subst e
   rw [le_unique l m h.cons_inv p2 q2]
end FL
namespace FL
open PySem PyProof.Rows L2
noncomputable def rngL (fa fb:FE):FA:=fun ds=>(fa ds).bind fun x=>(fb ds).bind fun y=>match x,y with
 | .int i,.int j=>some (rangeD i (j - i).toNat)
 | _,_=>none
@[simp] theorem rngL_eq (fa fb:FE) (ds:List Sl):rngL fa fb ds=(fa ds).bind fun x=>(fb ds).bind fun y=>match x,y with
 | .int i,.int j=>some (rangeD i (j - i).toNat)
 | _,_=>none:=rfl
noncomputable instance mulOkSD (x:Str) (n:Int):Decidable (MulOk x n):=Classical.propDecidable _
abbrev FO:=List Sl->Option OT
abbrev FOs:=List Sl->Option (List OT)
noncomputable def getN (i:Nat):FE:=fun ds=>match ds[i]? with
 | some (.v d)=>some d
 | some (.own l)=>some (.lst l)
 | some (.ob _ t)=>some (otD t)
 | _=>none
noncomputable def vO (f:FE):FO:=fun ds=>(f ds).map OT.val
noncomputable def lO (f:FA):FO:=fun ds=>(f ds).map fun l=>.lst (l.map OT.val)
noncomputable def nilO:FOs:=fun _=>some []
noncomputable def consO (f:FO) (g:FOs):FOs:=fun ds=>(f ds).bind fun x=>(g ds).map fun r=>x::r
noncomputable def tO (f:FOs):FO:=fun ds=>(f ds).bind fun l=>if l.length<=sizeLine then some (.tup l) else none
noncomputable def setB (i:Nat) (f:FO):FS:=fun ds=>(f ds).map fun t=>.nx (ds.set i (.ob none t))
mutual
noncomputable def flatO:OT->Bool
 | .val d=>flat d
 | .lst l=>flatOs l
 | .tup l=>flatOs l
 | .dct _ l=>flatOs l
 | .ins _ l=>flatOs l
noncomputable def flatOs:List OT->Bool
 | []=>true
 | t::r=>flatO t && flatOs r
end
noncomputable def subO:List Nat->OT->Option OT
 | [],t=>some t
 | k::p,.tup l=>(l[k]?).bind (subO p)
 | k::p,.lst l=>(l[k]?).bind (subO p)
 | k::p,.dct _ l=>(l[k]?).bind (subO p)
 | k::p,.ins _ l=>(l[k]?).bind (subO p)
 | _::_,.val _=>none
noncomputable def putO (u:OT):List Nat->OT->OT
 | [],_=>u
 | k::p,.tup l=>.tup (l.modify k (putO u p))
 | k::p,.lst l=>.lst (l.modify k (putO u p))
 | k::p,.dct ks l=>.dct ks (l.modify k (putO u p))
 | k::p,.ins t l=>.ins t (l.modify k (putO u p))
 | _::_,.val d=>.val d
abbrev FP:=List Sl->Option (Nat×List Nat×OT)
noncomputable def varP (i:Nat):FP:=fun ds=>match ds[i]? with
 | some (.ob _ t)=>some (i,[],t)
 | _=>none
noncomputable def putP (q:Nat×List Nat×OT) (u:OT) (ds:List Sl):List Sl:=match ds[q.1]? with
 | some (.ob r t)=>ds.set q.1 (.ob r (putO u q.2.1 t))
 | _=>ds
@[simp] theorem getN_eq (i:Nat) (ds:List Sl):getN i ds=match ds[i]? with
 | some (.v d)=>some d
 | some (.own l)=>some (.lst l)
 | some (.ob _ t)=>some (otD t)
 | _=>none:=rfl
@[simp] theorem vO_eq f ds:vO f ds=(f ds).map OT.val:=rfl
@[simp] theorem lO_eq f ds:lO f ds=(f ds).map fun l=>.lst (l.map OT.val):=rfl
@[simp] theorem nilO_eq ds:nilO ds=some []:=rfl
@[simp] theorem consO_eq f g ds:consO f g ds=(f ds).bind fun x=>(g ds).map fun r=>x::r:=rfl
@[simp] theorem tO_eq f ds:tO f ds=(f ds).bind fun l=>if l.length<=sizeLine then some (.tup l) else none:=rfl
@[simp] theorem setB_eq i f ds:setB i f ds=(f ds).map fun t=>.nx (ds.set i (.ob none t)):=rfl
noncomputable def keyD:D->Option Key
 | .int i=>some (.inl (some i))
 | .non=>some (.inl none)
 | .str x=>some (.inr x)
 | _=>none
noncomputable def putTs (k:Key) (T:OT):List Key->List OT->List OT
 | k'::ks,t::ts=>(if k'=k then T else t)::putTs k T ks ts
 | _,ts=>ts
noncomputable def hasK (k:Key) (ks:List Key):Bool:=ks.any fun k'=>decide (k'=k)
noncomputable def putKT (k:Key) (T:OT) (ks:List Key) (ts:List OT):OT:=if hasK k ks=true then .dct ks (putTs k T ks ts) else .dct (ks++[k]) (ts++[T])
noncomputable def getKD (k:Key):List Key->List D->Option D
 | k'::ks,d::ds=>if k'=k then some d else getKD k ks ds
 | _,_=>none
noncomputable def kdD:D->Option (List Key×List D)
 | .dct ks l=>some (ks,l)
 | .dcf ks l=>some (ks,l)
 | _=>none
noncomputable def dO0:FO:=fun _=>some (.dct [] [])
noncomputable def dputG (f:FP) (fk fv:FE):FS:=fun ds=>(fv ds).bind fun d=>(f ds).bind fun q=>(fk ds).bind fun y=>(keyD y).bind fun k=>match q.2.2 with
 | .dct ks ts=>if ks.length < sizeLine then some (.nx (putP q (putKT k (.val d) ks ts) ds)) else none
 | _=>none
noncomputable def dgetG (fd fk:FE):FE:=fun ds=>(fd ds).bind fun x=>(fk ds).bind fun y=>(keyD y).bind fun k=>(kdD x).bind fun p=>getKD k p.1 p.2
noncomputable def dinG (fk fd:FE):FT:=fun ds=>(fk ds).bind fun y=>(keyD y).bind fun k=>(fd ds).bind fun x=>(kdD x).map fun p=>hasK k p.1
noncomputable def dnotG (fk fd:FE):FT:=fun ds=>(dinG fk fd ds).map fun b=>!b
noncomputable def dcopyG (fd:FE):FO:=fun ds=>(fd ds).bind fun x=>(kdD x).map fun p=>.dct p.1 (p.2.map OT.val)
noncomputable def valsO:List OT->Option (List D)
 | []=>some []
 | .val d::r=>(valsO r).map fun l=>d::l
 | _::_=>none
noncomputable def relO (i:Nat) (ds:List Sl):List Sl:=match ds[i]? with | some (.ob _ T)=>ds.set i (.v (otD T)) | _=>ds
noncomputable def flV' (d:D):Option D:=if flat d=true then some d else none
noncomputable def relVO (i:Nat) (f:FE):FE:=fun ds=>(f (relO i ds)).bind flV'
noncomputable def relTO (i:Nat) (c:FT):FT:=fun ds=>c (relO i ds)
noncomputable def relFO (i:Nat) (f:FA):FA:=fun ds=>(f (relO i ds)).bind fun l=>if flats l=true then some l else none
noncomputable def seeO (f:FO):FE:=fun ds=>(f ds).map otD
noncomputable def isT (t:Nat):D->Bool
 | .ins c _=>decide (c=t)
 | _=>false
noncomputable def relGO (i:Nat) (f:FO):FO:=fun ds=>(f (relO i ds)).bind fun T=>if flatO T=true then some T else none
end FL
namespace FL
open PySem
end FL
namespace FL
open PySem L2
end FL
namespace FL
open PySem PyProof.Rows L2
abbrev Fls:=List (Str×Int)
noncomputable def lvalA (f:FE):FA:=fun ds=>(f ds).bind fun d=>(kdD d).map fun p=>p.2
end FL
namespace FL
open PySem L2
noncomputable def orD:D->D->Option D
 | .int i,.int j=>if 0<=i/\0<=j then some (.int ((i.toNat ||| j.toNat:Nat):Int)) else none
 | _,_=>none
@[simp] theorem orD_nat (i j:Nat):orD (.int i) (.int j)=some (.int ((i ||| j:Nat):Int)):=by
 simp [orD]
noncomputable def key3:D->Option (List Key)
 | .tup [.int i,.int j,.int k]=>some [.inl (some i),.inl (some j),.inl (some k)]
 | _=>none
noncomputable def getT (k:List Key):List (List Key)->List D->Option D
 | k'::ks,d::ds=>if k'=k then some d else getT k ks ds
 | _,_=>none
noncomputable def dttD:D->Option (List (List Key)×List D)
 | .dtt ks l=>some (ks,l)
 | _=>none
noncomputable def tgetG (fd fk:FE):FE:=fun ds=>(fd ds).bind fun x=>(fk ds).bind fun y=>(key3 y).bind fun k=>(dttD x).bind fun p=>getT k p.1 p.2
noncomputable def tinG (fk fd:FE):FT:=fun ds=>(fk ds).bind fun y=>(key3 y).bind fun k=>(fd ds).bind fun x=>(dttD x).map fun p=>p.1.any fun k'=>decide (k'=k)
noncomputable def bitsD (ks:List (List Key)):List D:=ks.zipIdx.map fun q=>.int (2 ^ q.2)
noncomputable def bitsG:FS:=fun ds=>match ds with
 | [.v (.lst l),.no,.no,.no]=>(l.mapM key3).bind fun ks=>if ks.Nodup/\ks.length<=60 then some (.rt (.val (.dtt ks (bitsD ks)))) else none
 | _=>none
noncomputable def sumTG (fd:FE):FE:=fun ds=>(fd ds).bind fun x=>(dttD x).bind fun p=>sumD [.lst p.2]
noncomputable def dputO (f:FP) (fk:FE) (g:FO):FS:=fun ds=>(g ds).bind fun T=>(f ds).bind fun q=>(fk ds).bind fun y=>(keyD y).bind fun k=>match q.2.2 with
 | .dct ks ts=>if ks.length < sizeLine/\ks.Nodup then some (.nx (putP q (putKT k T ks ts) ds)) else none
 | _=>none
noncomputable def dO1N (fk:FE) (g:FO):FO:=fun ds=>(fk ds).bind fun y=>(keyD y).bind fun k=>(g ds).map fun T=>.dct [k] [T]
noncomputable def getKT (k:Key):List Key->List OT->Option OT
 | k'::ks,d::ds=>if k'=k then some d else getKT k ks ds
 | _,_=>none
noncomputable def retDP (i:Nat) (fk:FE):FS:=fun ds=>match ds[i]? with
 | some (.ob none (.dct ks ts)) => (fk ds).bind fun y => (keyD y).bind fun k => (getKT k ks ts).bind fun T => match T with
   | .lst l=>(valsO l).bind flatF
   | _=>none
 | _=>none
noncomputable def getOT (i:Nat):FE:=fun ds=>match ds[i]? with
 | some (.ob none T)=>if flatO T=true then some (otD T) else none
 | _=>none
noncomputable def keysI:List Key->Option (List Int)
 | []=>some []
 | .inl (some x)::r=>(keysI r).map fun l=>x::l
 | _::_=>none
theorem keysI_some:∀ {ks:List Key} {l:List Int},keysI ks=some l->ks=l.map fun i=>Sum.inl (some i)
 | [],_,e=>by cases e; rfl
 | .inl (some x) :: r, l, e => by
   unfold keysI at e
   obtain ⟨m,h,rfl⟩:=mpd e
   rw [keysI_some h]; rfl
 | .inl none::r,l,e=>by cases e
 | .inr x::r,l,e=>by cases e
theorem keysI_map (l:List Int):keysI (l.map fun i=>Sum.inl (some i))=some l:=by
 induction l with
 | nil=>rfl
 | cons a r ih=>rw [List.map_cons,keysI,ih]; rfl
noncomputable def srtDI (f:FE):FA:=fun ds=>(f ds).bind fun d=>(kdD d).bind fun p=>(keysI p.1).bind fun l=>some ((srtI l).map D.int)
noncomputable def mvT (i j:Nat):FS:=fun ds=>match ds[j]? with
 | some (.ob none T)=>if i≠j/\i < ds.length then some (.nx ((ds.set j .no).set i (.ob none T))) else none
 | _=>none
end FL
namespace L2
open PySem PySem.Spec PyProof.Rows
noncomputable def isN0:Value->Bool
 | .none=>true
 | _=>false
noncomputable def keyIs:Key->Value->Bool:=fun k v=>match k with
 | .inl (some n)=>Value.isInt n v
 | .inl none=>isN0 v
 | .inr x=>Value.isStrOf x v
noncomputable def keyH (w:World):Key->Int:=fun k=>match k with
 | .inl (some n)=>hashInt n
 | .inl none=>4238894112
 | .inr x=>hashStr w x
theorem qR (h:keyIs k v=true):(∃ i t,k=Sum.inl (some i)/\v=Value.int i t) \/ (∃ x t,k=Sum.inr x/\v=Value.str x t) \/ (k=Sum.inl none/\v=Value.none):=by
 rcases k with (_ | i) | x
 · refine .inr (.inr ⟨rfl, ?_⟩)
   cases v <;> first | rfl | cases h
 · obtain ⟨t, e⟩ := Value.isInt_shape h
   exact .inl ⟨i,t,rfl,e⟩
 · obtain ⟨t, e⟩ := Value.isStrOf_shape h
   exact .inr (.inl ⟨x,t,rfl,e⟩)
theorem hash_none (h:Q 4238894112 { s with toks:=s.toks+1 }):wpAny (model prog w) A (PySem.pyHash .none) Q E s:=by
 have ht:s.TypeIs .none "NoneType":=rfl
 have hv:[Value.none].any Value.onHeap=false:=rfl
 refine wpAny_bind ?_
 refine wpAny_pure ?_
 refine wpAny_bind (wpAny_specialOf ht PySem.F.slot_NoneType_hash.lookup ?_)
 refine wpAny_bind (wpAny_specialOf ht PySem.F.slot_NoneType_hash.lookup ?_)
 refine wpAny_bind (wpAny_callSpecialIfBoundUnlessNone?_slot ht PySem.F.slot_NoneType_hash
  (wpAny_call_entry PySem.F.slot_NoneType_hash ht PySem.F.entry_NoneType_hash
    (wpAny_ret_mkInt ?_) (PySem.F.args_NoneType_hash_1 _)))
 exact wpAny_pure h
noncomputable def mixKind (prog:Program) (w:World):PySem.KeyKind prog w Key where
 is:=keyIs
 hash:=keyH w
 inj:=fun v a b ha hb=>by
  rcases qR ha with ⟨i,t,rfl,rfl⟩ | ⟨x,t,rfl,rfl⟩ | ⟨rfl,rfl⟩ <;> rcases qR hb with ⟨j,u,rfl,e⟩ | ⟨y,u,rfl,e⟩ | ⟨rfl,e⟩ <;> cases e <;> rfl
 byValue:=fun k v h=>by rcases qR h with ⟨i,t,rfl,rfl⟩ | ⟨x,t,rfl,rfl⟩ | ⟨rfl,rfl⟩ <;> rfl
 pyHash:=fun hv h=>by
  rcases qR hv with ⟨i,t,rfl,rfl⟩ | ⟨x,t,rfl,rfl⟩ | ⟨rfl,rfl⟩
  · exact wpAny_pyHash_int h
  · exact wpAny_pyHash_str h
  · exact hash_none h
 eqBool:=fun hu hv h=>by
  rcases qR hu with ⟨i,t,rfl,rfl⟩ | ⟨x,t,rfl,rfl⟩ | ⟨rfl,rfl⟩ <;> rcases qR hv with ⟨j,u,rfl,rfl⟩ | ⟨y,u,rfl,rfl⟩ | ⟨rfl,rfl⟩
  · exact wpAny_eqBool_int (by simp only [Sum.inl.injEq,Option.some.injEq] at h; exact h)
  · exact SeqAt.EqAt.int_str i t y u _ _ _ _ (by simpa using h)
  · exact SeqAt.EqAt.int_none i t _ _ _ _ (by simpa using h)
  · exact SeqAt.EqAt.str_int x t j u _ _ _ _ (by simpa using h)
  · exact wpAny_eqBool_str (by simpa using h)
  · exact SeqAt.EqAt.str_none x t _ _ _ _ (by simpa using h)
  · exact SeqAt.EqAt.none_int j u _ _ _ _ (by simpa using h)
  · exact SeqAt.EqAt.none_str y u _ _ _ _ (by simpa using h)
  · exact SeqAt.EqAt.same .none _ _ _ _ (by simpa using h)
 «strs»:=fun k x t v h=>by
  rcases qR h with ⟨i,u,rfl,e⟩ | ⟨y,u,rfl,e⟩ | ⟨rfl,e⟩ <;> cases e
  cases v <;> rfl
inductive V where
 | non | bl (b:Bool) | int (i:Int) | str (x:Str) | byt (b:Array UInt8) | flt (b:UInt64) | ref (a:Addr) | ty (n:String)
 deriving DecidableEq
noncomputable def RelV:V->Value->Prop
 | .non,u=>u=Value.none
 | .bl b,u=>u=Value.bool b
 | .int i,u=>∃ t,u=Value.int i t
 | .str x,u=>∃ t,u=Value.str x t
 | .byt b,u=>∃ t,u=Value.bytes b t
 | .flt b,u=>∃ t,u=Value.float b t
 | .ref a,u=>u=Value.ref a
 | .ty n,u=>u=Value.type n
abbrev Vals:List V->List Value->Prop:=Paired RelV
theorem Vals.length (r:Vals xs us):xs.length=us.length:=Paired.length r
theorem Vals.get:∀ {xs:List V} {us:List Value} {i:Nat} {x:V},Vals xs us->xs[i]? = some x->∃ u,us[i]? = some u/\RelV x u
 | _,_,_,_,.nil,e=>by simp at e
 | _,_,0,_,.cons r _,e=>by simp at e; subst e; exact ⟨_,rfl,r⟩
 | _, _, i + 1, x, .cons _ t, e => by
   obtain ⟨u,h1,h2⟩:=Vals.get (i:=i) (x:=x) t (by simpa using e)
   exact ⟨u,by simpa using h1,h2⟩
theorem Vals.set (r:RelV x u):∀ {xs:List V} {us:List Value} (i:Nat),Vals xs us->Vals (xs.set i x) (us.set i u)
 | _,_,_,.nil=>.nil
 | _,_,0,.cons _ t=>.cons r t
 | _,_,i+1,.cons q t=>.cons q (Vals.set r i t)
theorem Vals.append {xs ys:List V} {us ws:List Value} (h:Vals xs us) (s:Vals ys ws):Vals (xs++ys) (us++ws):=h.rec (motive:=fun xs us _=>Vals (xs++ys) (us++ws)) s fun r _=>.cons r
theorem Vals.take:∀ {xs:List V} {us:List Value} (n:Nat),Vals xs us->Vals (xs.take n) (us.take n)
 | _,_,0,_=>.nil
 | _,_,_+1,.nil=>.nil
 | _,_,n+1,.cons r t=>.cons r (Vals.take n t)
theorem Vals.drop:∀ {xs:List V} {us:List Value} (n:Nat),Vals xs us->Vals (xs.drop n) (us.drop n)
 | _,_,0,r=>r
 | _,_,_+1,.nil=>.nil
 | _,_,n+1,.cons _ t=>Vals.drop n t
noncomputable def RelO:Option V->Option Value->Prop
 | some v,some u=>RelV v u
 | none,none=>True
 | _,_=>False
def KV {κ : Type} : List (κ×V)->List (κ×Value)->Prop:=Paired fun (p : κ×V) (q : κ×Value)=>p.1=q.1/\RelV p.2 q.2
noncomputable def kV:Key->V:=fun k=>match k with
 | .inl (some n)=>.int n
 | .inl none=>.non
 | .inr x=>.str x
inductive HO where
 | lst (xs:List V)
 | tup (xs:List V)
 | dK (kvs:List (Key×V)) | dT (kvs:List (List Key×V))
 | set (S:Int->Bool) (n:Nat)
 | ins (C dx:Addr) (fs:List (Str×V))
 | own (x:Addr)
 | xd (fs:List (Str×V))
 | met (f x:Addr)
 | rng (lo hi:Int)
 | frz (o:Obj) (u:HO)
 | tbl (q:Nat->Nat->Str)
 | ext (φ : Heap->Prop)
abbrev Hp:=Addr->Option HO
noncomputable def upd (H:Hp) (a:Addr) (o:HO):Hp:=fun b=>if b=a then some o else H b
theorem upd_same:upd H a o a=some o:=by unfold upd; rw [if_pos rfl]
theorem upd_ne (h:b≠a):upd H a o b=H b:=by unfold upd; rw [if_neg h]
theorem upd_upd:upd (upd H a o) a u=upd H a u:=by
 funext b; unfold upd; split <;> rfl
theorem ne_of {H:Hp} (h:H a=some o) (h':H b=some u) (d:o≠u):a≠b:=by
 intro e; subst e; rw [h] at h'; exact d (Option.some.inj h')
theorem jO {H:Hp} (h:H a=some o) (h':H b=none):a≠b:=by
 intro e; subst e; rw [h] at h'; cases h'
def TblOk (H:Hp) (q:Nat->Nat->Str) (ps:Array Value):Prop:=TriplesOk ps.toList/\∀ pos v,codeAmong pos ps.toList=some v->∃ c o u vs t,v = .ref c/\H c=some (.frz o u)/\o.data = .fields vs/\vs[1]? = some (.str (q pos.line pos.col) t)
def Rd (H:Hp) (a:Addr) (u:HO):Prop:=H a=some u \/ ∃ o,H a=some (.frz o u)
noncomputable def Fixed:HO->Prop
 | .tup _=>True
 | .frz o u=>(∃ vs,o.data = .fields vs) \/ ∃ xs,u = .tup xs
 | _=>False
noncomputable def Fx:={ u:HO // Fixed u }
section
variable (P:Program) (w:World)
noncomputable def ObjOk (H:Hp) (h:Heap) (a:Addr):HO->Prop
 | .lst xs=>xs.length<=sizeLine/\∃ (its:List Value) (n:Nat),Vals xs its/\h.get? a=some { cls:=.type "list",data:=.seq its.toArray n }
 | .tup xs=>xs.length<=sizeLine/\∃ its:List Value,Vals xs its/\IsTup h a its.toArray
 | .dK kvs=>kvs.length<=sizeLine/\(a == sysModules)=false/\∃ vs,KV kvs vs/\h.DictOf (mixKind P w) a vs
 | .dT kvs=>kvs.length<=sizeLine/\(a == sysModules)=false/\∃ xs:List (List Key×Addr×Value),
    Paired (fun (p:List Key×V) (q:List Key×Addr×Value)=>p.1=q.1/\Rd H q.2.1 (.tup (p.1.map kV))/\RelV p.2 q.2.2) kvs xs ∧
    ∃ o es ep,h.get? a=some o/\o.ExactDict/\o.data = .dict es ep/\es.toList=xs.map (entryOfKey (tupleKind (mixKind P w)))/\(xs.map (·.1)).Nodup
 | .set S n=>h.SetOf (intKind P w) a S n
 | .ins C dx fs=>H dx=some (.own a)/\fs.length<=1000/\dx≠a/\h.get? a=some (PySem.W.instObj C dx) ∧
    ∃ mA,h.Ns1 dx mA/\(∀ f,RelO (fs.lookup f) (mA f))/\PySem.Within mA (fs.map (·.1))
 | .own _=>∃ o,h.get? a=some o
 | .xd fs=>∃ mA,h.Ns1 a mA/\∀ f,RelO (fs.lookup f) (mA f)
 | .rng lo hi=>∃ t u v,h.get? a=some { cls:=.type "range",data:=.fields #[.int lo t,.int hi u,.int 1 v] }
 | .frz o u=>h.get? a=some o/\ObjOk H h a u
 | .tbl q=>∃ ps,h.get? a=some (PySem.W.tabObj ps)/\TblOk H q ps
 | .met f x=>h.get? a=some (PySem.W.methodObj (.ref f) (.ref x))
 | .ext φ=>φ h/\(∃ o,h.get? a=some o)/\∀ h1 h2:Heap,φ h1->(∀ o,h1.get? a=some o->h2.get? a=some o)->φ h2
def HOk (H:Hp) (h:Heap):Prop:=∀ a o,H a=some o->ObjOk P w H h a o
end
section
theorem ObjOk.lt (x:ObjOk P w H h a o):a < h.objs.size:=by
 cases o with
 | lst xs=>obtain ⟨_,_,_,_,e⟩:=x; exact Heap.lt_size e
 | tup xs=>obtain ⟨_,_,_,p⟩:=x; exact p.lt
 | dK kvs=>obtain ⟨_,_,_,_,o,_,_,e,_⟩:=x; exact Heap.lt_size e
 | dT kvs=>obtain ⟨_,_,_,_,o,_,_,e,_⟩:=x; exact Heap.lt_size e
 | set S n=>obtain ⟨o,_,_,_,e,_⟩:=x; exact Heap.lt_size e
 | ins C dx fs=>obtain ⟨_,_,_,e,_⟩:=x; exact Heap.lt_size e
 | own y=>obtain ⟨_,e⟩:=x; exact Heap.lt_size e
 | xd fs=>obtain ⟨_,⟨_,_,_,e,_⟩,_⟩:=x; exact Heap.lt_size e
 | rng lo hi=>obtain ⟨_,_,_,e⟩:=x; exact Heap.lt_size e
 | frz ob u=>obtain ⟨e,_⟩:=x; exact Heap.lt_size e
 | tbl q=>obtain ⟨_,e,_⟩:=x; exact Heap.lt_size e
 | met f y=>exact Heap.lt_size (show h.get? a=some _ from x)
 | ext φ=>obtain ⟨_,⟨_,e⟩,_⟩:=x; exact Heap.lt_size e
theorem Paired.mapP {l₁ : List α} {l₂ : List β} (h:Paired F l₁ l₂) (f:∀ a b,F a b->G a b):Paired G l₁ l₂:=h.rec .nil fun r _=>.cons (f _ _ r)
theorem ObjOk.stay (x:ObjOk P w H h a o) (k:∀ b u,(b=a \/ H b=some (.own a))->h.get? b=some u->h'.get? b=some u)
  (ho:∀ b,H b=some (.own a)->H' b=some (.own a)) (ht:∀ b (xs:Fx),H b=some xs.1->H' b=some xs.1):ObjOk P w H' h' a o:=by
 induction o with
 | lst xs=>obtain ⟨z,its,n,r,e⟩:=x; exact ⟨z,its,n,r,k _ _ (.inl rfl) e⟩
 | tup xs=>obtain ⟨z,its,r,ob,e,c⟩:=x; exact ⟨z,its,r,ob,k _ _ (.inl rfl) e,c⟩
 | dK kvs=>obtain ⟨z,y,vs,r,ob,es,ep,e,c⟩:=x; exact ⟨z,y,vs,r,ob,es,ep,k _ _ (.inl rfl) e,c⟩
 | dT kvs =>
   obtain ⟨z,y,xs,r,ob,es,ep,e,c⟩:=x
   exact ⟨z,y,xs,Paired.mapP r fun p q z=>⟨z.1,z.2.1.imp (ht _ ⟨.tup _,trivial⟩) fun ⟨o,e⟩=>⟨o,ht _ ⟨.frz o (.tup _),.inr ⟨_,rfl⟩⟩ e⟩,z.2.2⟩,ob,es,ep,k _ _ (.inl rfl) e,c⟩
 | set S n=>obtain ⟨ob,es,ep,t,e,c⟩:=x; exact ⟨ob,es,ep,t,k _ _ (.inl rfl) e,c⟩
 | ins C dx fs =>
   obtain ⟨d,z,ne,e,mA,⟨od,es,ep,e2,c⟩,r⟩:=x
   exact ⟨ho _ d,z,ne,k _ _ (.inl rfl) e,mA,⟨od,es,ep,k _ _ (.inr d) e2,c⟩,r⟩
 | own y=>obtain ⟨ob,e⟩:=x; exact ⟨ob,k _ _ (.inl rfl) e⟩
 | xd fs=>obtain ⟨mA,⟨od,es,ep,e,c⟩,r⟩:=x; exact ⟨mA,⟨od,es,ep,k _ _ (.inl rfl) e,c⟩,r⟩
 | rng lo hi=>obtain ⟨t,u,v,e⟩:=x; exact ⟨t,u,v,k _ _ (.inl rfl) e⟩
 | frz ob u ih=>obtain ⟨e,q⟩:=x; exact ⟨k _ _ (.inl rfl) e,ih q⟩
 | tbl q =>
   obtain ⟨ps,e,t1,t2⟩:=x
   refine ⟨ps,k a _ (.inl rfl) e,t1,fun pos v z=>?_⟩
   obtain ⟨c,o,u,vs,t,h1,h2,h3,h4⟩:=t2 pos v z
   exact ⟨c,o,u,vs,t,h1,ht c ⟨.frz o u,.inl ⟨vs,h3⟩⟩ h2,h3,h4⟩
 | met f y =>
   have e:=x
   exact k a _ (.inl rfl) e
 | ext φ=>obtain ⟨p,⟨o,e⟩,st⟩:=x; exact ⟨st _ _ p fun o q=>k _ _ (.inl rfl) q,⟨o,k _ _ (.inl rfl) e⟩,st⟩
theorem HOk.lt (x:HOk P w H h) (e:H a=some o):a < h.objs.size:=(x a o e).lt
theorem HOk.fresh (x:HOk P w H h) (e:h.objs.size<=a):H a=none:=by
 cases q:H a with
 | none=>rfl
 | some u=>exact absurd (Nat.lt_of_lt_of_le (x.lt q) e) (Nat.lt_irrefl _)
theorem HOk.kept (x:HOk P w H h) (k:∀ b u,h.get? b=some u->h'.get? b=some u):HOk P w H h':=fun a o e =>
 (x a o e).stay (fun b u _ q=>k b u q) (fun _ q=>q) fun _ _ q=>q
theorem HOk.laid (x:HOk P w H h) (k:∀ b u,h.get? b=some u->h'.get? b=some u) (hp:h.objs.size<=a) (new:ObjOk P w (upd H a o) h' a o):HOk P w (upd H a o) h':=fun b u e=>by
 have hn:=x.fresh hp
 by_cases hb:b=a
 · subst hb; rw [upd_same] at e; cases e; exact new
 · rw [upd_ne hb] at e
   exact (x b u e).stay (fun c v _ q=>k c v q) (fun c q=>by rw [upd_ne (jO q hn)]; exact q) fun c xs q=>by rw [upd_ne (jO q hn)]; exact q
end
theorem Rd.of (h:H a=some u):Rd H a u:=.inl h
theorem Rd.ok (r:Rd H a u) (x:HOk P w H h):ObjOk P w H h a u:=by
 rcases r with r | ⟨o,r⟩
 · exact x a u r
 · obtain ⟨_, q⟩ := x a _ r
   exact q
noncomputable def Mut:Option HO->Prop
 | some (.lst _)=>True
 | some (.dK _)=>True
 | some (.dT _)=>True
 | some (.set _ _)=>True
 | some (.ins _ _ _)=>True
 | some (.ext _)=>True
 | _=>False
section
theorem HOk.write (ok:HOk P w H h) (mu:Mut (H x)) (he:e=x \/ H e=some (.own x)) (k:∀ b u,b≠e->h.get? b=some u->h'.get? b=some u) (heo:∃ u,h'.get? e=some u)
  (new:ObjOk P w (upd H x o') h' x o'):HOk P w (upd H x o') h':=fun b u q=>by
 have nown:∀ c y,H c=some (.own y)->c≠x:=fun c y r z=>by subst z; rw [r] at mu; exact mu
 have ntup:∀ c (xs:Fx),H c=some xs.1->c≠x:=fun c xs r z=>by
  subst z; rw [r] at mu; obtain ⟨u,hu⟩:=xs
  cases u <;> first | exact False.elim mu | exact False.elim hu
 by_cases hb:b=x
 · subst hb; rw [upd_same] at q; cases q; exact new
 · rw [upd_ne hb] at q
   by_cases hbe:b=e
   · have q':H b=some (.own x):=by
      rcases he with z | z
      · exact absurd (hbe.trans z) hb
      · rw [hbe]; exact z
     rw [q] at q'; cases q'
     obtain ⟨v,hv⟩:=heo
     exact ⟨v,by rw [hbe]; exact hv⟩
   · refine (ok b u q).stay (fun c v hc r => k c v ?_ r) (fun c r => by rw [upd_ne (nown c b r)]; exact r) fun c xs r => by rw [upd_ne (ntup c xs r)]; exact r
     rcases hc with rfl | hc
     · exact hbe
     · rintro rfl
       rcases he with z | z
       · exact nown c b hc z
       · rw [hc] at z; cases z; exact hb rfl
end
structure Un (fs ex:List Addr) (H H':Hp) (h h':Heap):Prop where
 keep:∀ b o,h.get? b=some o->H b=none->b ∉ fs->b ∉ ex->h'.get? b=some o
 slot:∀ b o,h.get? b=some o->H b=none->b∈fs->b ∉ ex->∃ sl,h'.get? b=some { o with slots:=sl }
 free:∀ b o,h.get? b=some o->H b=none->b ∉ ex->H' b=none
 there:∀ b o,h.get? b=some o->b ∉ ex->∃ o',h'.get? b=some o'
 tups:∀ b xs,H b=some (.tup xs)->H' b=some (.tup xs)
 frzs:∀ b o u,H b=some (.frz o u)->H' b=some (.frz o u)
 tbls:∀ b ps,H b=some (.tbl ps)->H' b=some (.tbl ps)
section
variable {fs fs' ex ex':List Addr} {H H1 H2:Hp} {h h1 h2 h':Heap} {a x e:Addr} {o:HO}
theorem Un.any (u:Un fs ex H H1 h h1) (q:h.get? b=some ob) (n:H b=none) (hx:b ∉ ex):∃ sl,h1.get? b=some { ob with slots:=sl }:=by
 by_cases hb:b∈fs
 · exact u.slot b ob q n hb hx
 · exact ⟨ob.slots,u.keep b ob q n hb hx⟩
theorem Un.trans (a:Un fs ex H H1 h h1) (b:Un fs ex H1 H2 h1 h2):Un fs ex H H2 h h2 where
 keep:=fun c ob q n hc hx=>b.keep c ob (a.keep c ob q n hc hx) (a.free c ob q n hx) hc hx
 slot:=fun c ob q n hc hx=>by
  obtain ⟨sl,e1⟩:=a.slot c ob q n hc hx
  obtain ⟨sl',e2⟩:=b.slot c _ e1 (a.free c ob q n hx) hc hx
  exact ⟨sl',e2⟩
 free:=fun c ob q n hx=>by
  obtain ⟨o',e1⟩:=a.there c ob q hx
  exact b.free c o' e1 (a.free c ob q n hx) hx
 there:=fun c ob q hx=>by
  obtain ⟨o',e1⟩:=a.there c ob q hx
  exact b.there c o' e1 hx
 tups:=fun c xs q=>b.tups c xs (a.tups c xs q)
 frzs:=fun c ob xs q=>b.frzs c ob xs (a.frzs c ob xs q)
 tbls:=fun c ps q=>b.tbls c ps (a.tbls c ps q)
theorem Un.kept (k:∀ b u,h.get? b=some u->h'.get? b=some u):Un fs ex H H h h' :=
 ⟨fun b ob q _ _ _=>k b ob q,fun b ob q _ _ _=>⟨ob.slots,k b ob q⟩,fun _ _ _ n _=>n,fun b ob q _=>⟨ob,k b ob q⟩,fun _ _ q=>q,fun _ _ _ q=>q,fun _ _ q=>q⟩
theorem Un.refl:Un fs ex H H h h:=Un.kept fun _ _ q=>q
theorem Un.laid (k:∀ b u,h.get? b=some u->h'.get? b=some u) (hp:h.objs.size<=a) (hn:H a=none):Un fs ex H (upd H a o) h h' where
 keep:=fun b u q _ _ _=>k b u q
 slot:=fun b u q _ _ _=>⟨u.slots,k b u q⟩
 free:=fun b u q n _=>by rw [upd_ne (Nat.ne_of_lt (Nat.lt_of_lt_of_le (Heap.lt_size q) hp))]; exact n
 there:=fun b u q _=>⟨u,k b u q⟩
 tups:=fun b xs q=>by rw [upd_ne (jO q hn)]; exact q
 frzs:=fun b u xs q=>by rw [upd_ne (jO q hn)]; exact q
 tbls:=fun b ps q=>by rw [upd_ne (jO q hn)]; exact q
theorem Un.write (mu:Mut (H x)) (he:e=x \/ H e=some (.own x)) (k:∀ b u,b≠e->h.get? b=some u->h'.get? b=some u) (heo:∃ u,h'.get? e=some u):Un fs ex H (upd H x o) h h':=by
 have hx:∀ b,H b=none->b≠x:=fun b n z=>by subst z; rw [n] at mu; exact mu
 have hb:∀ b,H b=none->b≠e:=fun b n z=>by
  subst z
  rcases he with r | r
  · exact hx b n r
  · rw [n] at r; cases r
 have hm:∀ b u,H b=some u->¬ Mut (some u)->b≠x:=fun b u q nm z=>by subst z; rw [q] at mu; exact nm mu
 refine ⟨fun b u q n _ _=>k b u (hb b n) q,fun b u q n _ _=>⟨u.slots,k b u (hb b n) q⟩,fun b u q n _=>by rw [upd_ne (hx b n)]; exact n,fun b u q _=>?_,
  fun b xs q=>by rw [upd_ne (hm b _ q fun z=>z)]; exact q,fun b u xs q=>by rw [upd_ne (hm b _ q fun z=>z)]; exact q,fun b ps q=>by rw [upd_ne (hm b _ q fun z=>z)]; exact q⟩
 by_cases hbe:b=e
 · subst hbe; exact heo
 · exact ⟨u,k b u hbe q⟩
end
noncomputable def trk (h:Heap) (H:Hp):List Addr:=(List.range h.objs.size).filter fun a=>(H a).isSome
noncomputable def hidT (h:Heap) (H:Hp):Heap:=PySem.W.hideAll h (trk h H)
theorem hidT_size h H:(hidT h H).objs.size=h.objs.size:=PySem.W.hideAll_size _ _
theorem hidT_get (e:h.get? b=some o) (n:H b=none):(hidT h H).get? b=some o :=
 PySem.W.hideAll_get _ e fun hm=>by
  have q:=(List.mem_filter.mp hm).2
  rw [n] at q; simp at q
theorem of_hidT (e:(hidT h H).get? b=some o):h.get? b=some o/\H b=none:=by
 have e':=PySem.W.of_hideAll (trk h H) e
 refine ⟨e',?_⟩
 cases q:H b with
 | none=>rfl
 | some x =>
   have hm:b∈trk h H:=List.mem_filter.mpr ⟨List.mem_range.mpr (Heap.lt_size e'),by simp [q]⟩
   have z:(hidT h H).get? b=none:=PySem.W.hideAll_none (trk h H) hm
   rw [z] at e; cases e
noncomputable def allNews (g h:Heap) (L:Addr):List (Addr×Obj):=(List.range h.objs.size).filterMap fun a=>if a=L \/ (g.get? a).isSome=true then none else (h.get? a).map fun o=>(a,o)
noncomputable def rest (g h:Heap) (L d:Addr):List (Addr×Obj):=(allNews g h L).filter fun p=>decide (p.1≠d)
structure Mod (K:PySem.W.Frag) (mg:Str->Option Value) (base:Heap):Prop where
 kin:K.In base
 glob:base.Ns mainGlobals mg
 blt:∃ mb,base.Ns builtinsNs mb/\∀ x:Str,x≠"__name__"->mb x=bootBuiltins x
 nolimit:base.NoLimit
structure Cx where
 prog:Program
 w:World
 K:PySem.W.Frag
 mg:Str->Option Value
 base:Heap
 A:Around
 N:List Str
 s₀ : Shared
 H₀ : Hp
 env:Env
 outer:List Env
 stack:List Env
 ex:List Addr
 fn:Str->Bool
 calm:Bool
 pn:List (Addr×Obj)
 xe:Value->Shared->Prop
noncomputable def frs (l:List Env):List Addr:=l.filterMap (·.frame)
noncomputable abbrev Cx.fs (X:Cx):List Addr:=frs X.outer
def Vis (sc:Scope) (x:Str):Prop:=sc.names.lookup x=some .local \/ sc.names.lookup x=some .cell \/ sc.names.lookup x=some .free
def Loc (sc:Scope) (x:Str):Prop:=sc.names.lookup x=some .local \/ sc.names.lookup x=some .cell
def Look (env:Env) (h:Heap) (m:Str->Option Value) (x:Str) (u:Value):Prop :=
 (env.kindOf x=some .local/\m x=some u) \/ ((env.kindOf x=some .cell \/ env.kindOf x=some .free)/\∃ c,env.cells.lookup x=some c/\h.IsCell c (some u))
noncomputable def makers:List Str:=["law","_law_with_itself","_law_ways","_law_way","holding","_law_any_test","_law_test","_law_turned","_law_right","wheel_run","answer_run","Bundle.crowd"]
noncomputable def innerN:List Stmt->Nat->Nat->Str
 | [],_,_=>"<lambda>"
 | .FunctionDef n _ _ _ _ _ _ _ _ pos::r,l,c=>if pos.line=l/\pos.col=c then n else innerN r l c
 | _::r,l,c=>innerN r l c
noncomputable def meths:List (Str×Str×Str):=[("Bundle.crowd","Bundle","crowd")]
noncomputable def fnAt (K:PySem.W.Frag) (x:Str):Option (Option Value):=match meths.lookup x with
 | none=>PySem.W.nsIn K mainGlobals x
 | some (C, m) => (match PySem.W.nsIn K mainGlobals C with
   | some (some v)=>PySem.W.findIn K v m
   | some none=>some none
   | none=>none)
noncomputable def tabM (K:PySem.W.Frag) (x:Str):Option (Addr×Addr):=match fnAt K x with
 | some (some (.ref f)) => (match K.lookup f with
   | some ⟨_, _, .func fd, _⟩ => (match fd.code with
     | .ref c => (match K.lookup c with
       | some ⟨_, _, .fields vs, _⟩ => (match (vs[11]? : Option Value) with
         | some (.ref P)=>some (c,P)
         | _=>none)
       | _=>none)
     | _=>none)
   | _=>none)
 | _=>none
theorem tabM_is {K:PySem.W.Frag} {x:Str} (h:meths.lookup x=none):tabM K x=PySem.W.tabIn K x:=by unfold tabM fnAt PySem.W.tabIn; rw [h]; rfl
noncomputable def innerQ (K:PySem.W.Frag) (x:Str) (l c:Nat):Str:=match fnAt K x with
 | some (some (.ref f)) => (match K.lookup f with
   | some ⟨_, _, .func fd, _⟩ => (match fd.body with
     | .stmts b=>x++".<locals>."++innerN b l c
     | _=>x)
   | _=>x)
 | _=>x
structure TabsK (K:PySem.W.Frag) (mg:Str->Option Value) (base:Heap) (H:Hp):Prop where
 bm:∃ bm ob,mg "__builtins__" = some (.ref bm)/\bm≠builtinsNs/\base.get? bm=some ob/\ob.cls = .type "module"/\ob.dict=some builtinsNs/\ob.data = .plain
 tab:∀ x c P,x∈makers->tabM K x=some (c,P)->PySem.W.CodeHd base c P/\H P=some (.tbl (innerQ K x))
def Bsz (K:PySem.W.Frag) (mg:Str->Option Value) (base h:Heap) (H:Hp):Prop:=base.objs.size<=h.objs.size/\TabsK K mg base H
def FreeC (X:Cx) (H:Hp) (x:Str) (c:Addr):Prop:=H c=none \/ (X.fn x=false/\∃ o u,H c=some (.frz o u))
theorem FreeC.now (h:FreeC X H x c) (hf:X.fn x=true):H c=none:=h.elim id fun z=>by rw [hf] at z; cases z.1
structure Cx.Ok (X:Cx):Prop where
 mod:Mod X.K X.mg X.base
 kind:X.env.scope.kind = .function
 glob:X.env.globals=mainGlobals
 blt:X.env.builtins=builtinsNs
 above:X.s₀.heap.objs.size<=X.env.locals
 inj:∀ x y c,X.env.cells.lookup x=some c->X.env.cells.lookup y=some c->x=y
 has:∀ x,(X.env.kindOf x=some .cell \/ X.env.kindOf x=some .free)->∃ c,X.env.cells.lookup x=some c
 cab:∀ x c,X.fn x=true->X.env.cells.lookup x=some c->X.s₀.heap.objs.size<=c
 hd:X.calm=true->X.A.handled=none
 frames:X.A.frames=some X.stack
 stk:X.stack=X.outer \/ (X.stack=X.env::X.outer/\X.env.frame=some X.env.locals)
 exf:∀ b∈X.ex,b≠X.env.locals/\∀ x c,X.env.cells.lookup x=some c->c≠b
 bs:∀ b o,X.base.get? b=some o->X.s₀.heap.get? b=some o/\X.H₀ b=none
 bsz:Bsz X.K X.mg X.base X.s₀.heap X.H₀
 noex:∀ b o,X.base.get? b=some o->b ∉ X.ex
 exfs:∀ b∈X.ex,b ∉ X.fs
 funs:X.s₀.heap.FunFrames X.base X.outer
 frf:∀ b∈X.fs,X.H₀ b=none
structure Inv (X:Cx) (pins:List (Addr×Obj)) (σ : List (Option V)) (H:Hp) (s:Shared):Prop where
 ok:X.Ok
 os:s.os=X.s₀.os
 bare:AllBare s.gens
 base:Un X.fs X.ex X.H₀ H X.s₀.heap s.heap
 loc:∃ m,s.heap.Ns X.env.locals m/\∀ (i:Nat) (x:Str) (v:V),X.N[i]? = some x->σ[i]? = some (some v)->Vis X.env.scope x->∃ u,RelV v u/\Look X.env s.heap m x u
 cell:∀ x c,X.env.cells.lookup x=some c->∃ v,s.heap.IsCell c v
 free:H X.env.locals=none
 freeC:∀ x c,X.env.cells.lookup x=some c->FreeC X H x c
 pin:∀ p∈X.pn++pins,s.heap.get? p.1=some p.2/\H p.1=none/\p.1≠X.env.locals/\p.1 ∉ X.fs/\∀ v,p.2.data≠.cell v
 hok:HOk X.prog X.w H s.heap
 len : σ.length=X.N.length
section
variable {X:Cx}
theorem Cx.Ok.nofr (ok:X.Ok) (e:X.base.get? b=some o):b ∉ X.fs:=fun hb=>by
 have:=(ok.funs.mem hb).1
 rw [e] at this; cases this
theorem Inv.bs (I:Inv X pins σ H s):∀ b o,X.base.get? b=some o->s.heap.get? b=some o/\H b=none:=fun b o e =>
 ⟨I.base.keep b o (I.ok.bs b o e).1 (I.ok.bs b o e).2 (I.ok.nofr e) (I.ok.noex b o e),I.base.free b o (I.ok.bs b o e).1 (I.ok.bs b o e).2 (I.ok.noex b o e)⟩
theorem Inv.bk (I:Inv X pins σ H s):∀ b o,X.base.get? b=some o->s.heap.get? b=some o:=fun b o e=>(I.bs b o e).1
theorem Inv.mod (I:Inv X pins σ H s):Mod X.K X.mg X.base:=I.ok.mod
theorem Inv.kIn (I:Inv X pins σ H s):X.K.In s.heap:=I.ok.mod.kin.keeps I.bk
theorem Inv.lt (I:Inv X pins σ H s):X.env.locals < s.heap.objs.size:=let ⟨_,hn,_⟩:=I.loc; hn.lt
theorem Inv.sz (I:Inv X pins σ H s):X.s₀.heap.objs.size<=s.heap.objs.size:=Nat.le_trans I.ok.above (Nat.le_of_lt I.lt)
theorem Inv.nofs (I:Inv X pins σ H s) (h:s.heap.objs.size<=a):a ∉ X.fs:=fun hb=>by
 obtain ⟨_,o,ho,_⟩:=I.ok.funs.mem hb
 exact absurd (Nat.lt_of_lt_of_le (Heap.lt_size ho) (Nat.le_trans I.sz h)) (Nat.lt_irrefl _)
theorem Inv.cne (I:Inv X pins σ H s):∀ x c,X.env.cells.lookup x=some c->c≠X.env.locals:=fun x c e z=>by
 obtain ⟨v,o,ho,hd⟩:=I.cell x c e
 obtain ⟨m,⟨o',es,ep,ho',hd',_⟩,_⟩:=I.loc
 rw [z,ho'] at ho; cases ho; rw [hd'] at hd; cases hd
theorem Inv.funs (I:Inv X pins σ H s):s.heap.FunFrames X.base X.outer:=by
 have all:∀ (l:List Env),(∀ b∈frs l,b∈X.fs)->X.s₀.heap.FunFrames X.base l->s.heap.FunFrames X.base l:=by
  intro l
  induction l with
  | nil=>intro _ _; trivial
  | cons env r ih =>
    intro hs hl
    obtain ⟨hk,⟨L,o,hf,hn,ho,hd⟩,hr⟩:=hl
    have hL:L∈X.fs:=hs L (by unfold frs; rw [List.filterMap_cons,hf]; exact List.mem_cons_self)
    obtain ⟨sl,e⟩:=I.base.slot L o ho (I.ok.frf L hL) hL fun z=>I.ok.exfs L z hL
    exact ⟨hk,⟨L,_,hf,hn,e,hd⟩,ih (fun b hb=>hs b (by unfold frs; rw [List.filterMap_cons,hf]; exact List.mem_cons_of_mem _ hb)) hr⟩
 exact all X.outer (fun _ hb=>hb) I.ok.funs
theorem Inv.stack (I:Inv X pins σ H s):s.heap.FunFrames X.base X.stack:=by
 rcases I.ok.stk with e | ⟨e,hf⟩
 · rw [e]; exact I.funs
 · rw [e]
   obtain ⟨m,hn,_⟩:=I.loc
   refine .cons (by rw [I.ok.kind]; decide) hf hn ?_ I.funs
   exact Heap.get?_none_of_le (Nat.le_trans I.ok.bsz.1 I.ok.above)
theorem Inv.stkSub (I:Inv X pins σ H s):∀ b∈frs X.stack,b∈X.env.locals::X.fs:=fun b hb=>by
 rcases I.ok.stk with e | ⟨e,hf⟩
 · rw [e] at hb; exact List.mem_cons_of_mem _ hb
 · rw [e] at hb
   unfold frs at hb
   rw [List.filterMap_cons,hf] at hb
   exact hb
theorem Inv.stkFree (I:Inv X pins σ H s):∀ b∈frs X.stack,H b=none:=fun b hb=>by
 rcases List.mem_cons.mp (I.stkSub b hb) with e | hb
 · rw [e]; exact I.free
 · obtain ⟨_, o, ho, _⟩ := I.ok.funs.mem hb
   exact I.base.free b o ho (I.ok.frf b hb) fun z=>I.ok.exfs b z hb
theorem Inv.step {ch:List Addr} (I:Inv X pins σ H s)
  (hch:∀ b∈ch,(b∈X.ex \/ X.s₀.heap.objs.size<=b)/\b≠X.env.locals/\(∀ x c,X.env.cells.lookup x=some c->c≠b)/\∀ p∈X.pn++pins,p.1≠b)
  (keep:∀ b o,b≠X.env.locals->b ∉ X.fs->b ∉ ch->s.heap.get? b=some o->H b=none->h'.get? b=some o)
  (slot:∀ b o,b≠X.env.locals->b∈X.fs->b ∉ ch->s.heap.get? b=some o->H b=none->∃ sl,h'.get? b=some { o with slots:=sl }) (free:∀ b o,b ∉ ch->s.heap.get? b=some o->H b=none->H' b=none)
  (there:∀ b o,b ∉ ch->s.heap.get? b=some o->∃ o',h'.get? b=some o')
  (tups:∀ b xs,H b=some (.tup xs)->H' b=some (.tup xs)) (frzs:∀ b o u,H b=some (.frz o u)->H' b=some (.frz o u)) (tbls:∀ b ps,H b=some (.tbl ps)->H' b=some (.tbl ps))
  (ns:∀ m,s.heap.Ns X.env.locals m->h'.Ns X.env.locals m) (hok:HOk X.prog X.w H' h') (hg:AllBare g') :
  Inv X pins σ H' { s with heap:=h',gens:=g',drawn:=d',toks:=t' }:=by
 have neL:∀ b o,X.s₀.heap.get? b=some o->b≠X.env.locals:=fun b o e=>Nat.ne_of_lt (Nat.lt_of_lt_of_le (Heap.lt_size e) I.ok.above)
 have neC:∀ b o,X.s₀.heap.get? b=some o->b ∉ X.ex->b ∉ ch:=fun b o e hx hb=>by
  rcases (hch b hb).1 with z | z
  · exact hx z
  · exact absurd (Nat.lt_of_lt_of_le (Heap.lt_size e) z) (Nat.lt_irrefl _)
 have cellK:∀ x c,X.env.cells.lookup x=some c->∀ v,s.heap.IsCell c v->h'.IsCell c v:=fun x c e v ⟨o,ho,hd⟩=>by
  have nch:=fun z=>(hch c z).2.2.1 x c e rfl
  rcases I.freeC x c e with fr | ⟨_,of,uf,fr⟩
  · by_cases hc : c ∈ X.fs
    · obtain ⟨sl, q⟩ := slot c o (I.cne x c e) hc nch ho fr
      exact ⟨_,q,hd⟩
    · exact ⟨o,keep c o (I.cne x c e) hc nch ho fr,hd⟩
  · obtain ⟨e1, _⟩ := I.hok c _ fr
    obtain ⟨e2,_⟩:=hok c _ (frzs c of uf fr)
    rw [ho] at e1; cases e1
    exact ⟨o,e2,hd⟩
 refine ⟨I.ok,I.os,hg,⟨fun b o e n hb hx=>?_,fun b o e n hb hx=>?_,fun b o e n hx=>?_,fun b o e hx=>?_,fun b xs e=>tups b xs (I.base.tups b xs e),fun b o xs e=>frzs b o xs (I.base.frzs b o xs e),fun b ps e=>?_⟩,?_,fun x c e=>?_,?_,fun x c e=>?_,fun p hp=>?_,hok,I.len⟩
 · exact keep b o (neL b o e) hb (neC b o e hx) (I.base.keep b o e n hb hx) (I.base.free b o e n hx)
 · obtain ⟨sl, e1⟩ := I.base.slot b o e n hb hx
   obtain ⟨sl',e2⟩:=slot b _ (neL b o e) hb (neC b o e hx) e1 (I.base.free b o e n hx)
   exact ⟨sl',e2⟩
 · obtain ⟨o', e1⟩ := I.base.there b o e hx
   exact free b o' (neC b o e hx) e1 (I.base.free b o e n hx)
 · obtain ⟨o', e1⟩ := I.base.there b o e hx
   exact there b o' (neC b o e hx) e1
 · exact tbls b ps (I.base.tbls b ps e)
 · obtain ⟨m, hn, hl⟩ := I.loc
   refine ⟨m,ns m hn,fun i x v e1 e2 e3=>?_⟩
   obtain ⟨u,r,l⟩:=hl i x v e1 e2 e3
   refine ⟨u,r,?_⟩
   rcases l with l | ⟨k,c,e,z⟩
   · exact .inl l
   · exact .inr ⟨k,c,e,cellK x c e _ z⟩
 · obtain ⟨v, z⟩ := I.cell x c e
   exact ⟨v,cellK x c e v z⟩
 · obtain ⟨m, ⟨o, _, _, ho, _⟩, _⟩ := I.loc
   exact free _ o (fun z=>(hch _ z).2.1 rfl) ho I.free
 · obtain ⟨v, o, ho, hd⟩ := I.cell x c e
   exact (I.freeC x c e).elim (fun fr=>.inl (free c o (fun z=>(hch c z).2.2.1 x c e rfl) ho fr)) fun ⟨h1,of,uf,fr⟩=>.inr ⟨h1,of,uf,frzs c of uf fr⟩
 · obtain ⟨e, n, ne, nf, d⟩ := I.pin p hp
   have nch:=fun z=>(hch p.1 z).2.2.2 p hp rfl
   exact ⟨keep p.1 p.2 ne nf nch e n,free p.1 p.2 nch e n,ne,nf,d⟩
theorem Inv.un (I:Inv X pins σ H s) (u:Un X.fs [] H H' s.heap h') (hok:HOk X.prog X.w H' h'):Inv X pins σ H' { s with heap:=h',toks:=t' }:=by
 obtain ⟨m,⟨o,es,ep,ho,r⟩,_⟩:=id I.loc
 obtain ⟨sl,hL⟩:=u.any ho I.free (by simp)
 exact I.step (ch:=[]) (fun _ z=>nomatch z) (fun b o _ hb _ e n=>u.keep b o e n hb (by simp)) (fun b o _ hb _ e n=>u.slot b o e n hb (by simp)) (fun b o _ e n=>u.free b o e n (by simp)) (fun b o _ e=>u.there b o e (by simp)) u.tups u.frzs u.tbls (fun m' hm=>by
  obtain ⟨o',es',ep',ho',r'⟩:=hm
  rw [ho] at ho'; cases ho'
  exact ⟨_,es',ep',hL,r'⟩) hok I.bare
theorem Inv.call (I:Inv X pins σ H s) (u:Un (frs X.stack) ch H H' s.heap h') (hok:HOk X.prog X.w H' h') (hg:AllBare g')
  (hch:∀ b∈ch,(b∈X.ex \/ X.s₀.heap.objs.size<=b)/\b≠X.env.locals/\(∀ x c,X.env.cells.lookup x=some c->c≠b)/\∀ p∈X.pn++pins,p.1≠b) :
  Inv X pins σ H' { s with heap:=h',gens:=g',drawn:=d',toks:=t' }:=by
 obtain ⟨m,⟨o,es,ep,ho,r⟩,_⟩:=id I.loc
 obtain ⟨sl,hL⟩:=u.any ho I.free fun z=>(hch _ z).2.1 rfl
 exact I.step hch (fun b o hL hb hc e n=>u.keep b o e n (fun z=>(List.mem_cons.mp (I.stkSub b z)).elim hL hb) hc) (fun b o _ _ hc e n=>u.any e n hc) (fun b o hc e n=>u.free b o e n hc) (fun b o hc e=>u.there b o e hc) u.tups u.frzs u.tbls (fun m' hm=>by
  obtain ⟨o',es',ep',ho',r'⟩:=hm
  rw [ho] at ho'; cases ho'
  exact ⟨_,es',ep',hL,r'⟩) hok hg
theorem Inv.turned (I:Inv X pins σ H s) (k:∀ b o,b≠it->s.heap.get? b=some o->h'.get? b=some o) (hn:H it=none) (hL:it≠X.env.locals)
  (h1:it∈X.ex \/ X.s₀.heap.objs.size<=it) (h2:∀ x c,X.env.cells.lookup x=some c->c≠it) (h3:∀ p∈X.pn++pins,p.1≠it):Inv X pins σ H { s with heap:=h',toks:=t' }:=by
 have nit:∀ b u,H b=some u->b≠it:=fun b u e z=>by rw [z,hn] at e; cases e
 refine I.step (ch:=[it]) (fun b hb=>?_) (fun b o _ _ hc e _=>k b o (fun z=>hc (by simp [z])) e) (fun b o _ _ hc e _=>⟨o.slots,k b o (fun z=>hc (by simp [z])) e⟩) (fun _ _ _ _ n=>n)
  (fun b o hc e=>⟨o,k b o (fun z=>hc (by simp [z])) e⟩) (fun _ _ e=>e) (fun _ _ _ e=>e) (fun _ _ e=>e) (fun m hm=>?_) (fun b u e=>?_) I.bare
 · have e : b = it := by simpa using hb
   subst e
   exact ⟨h1,hL,h2,h3⟩
 · obtain ⟨o, es, ep, ho, r⟩ := hm
   exact ⟨o,es,ep,k _ o (Ne.symm hL) ho,r⟩
 · refine (I.hok b u e).stay (fun c v hc q => k c v ?_ q) (fun _ q => q) fun _ _ q => q
   rcases hc with z | z
   · rw [z]; exact nit b u e
   · exact nit c _ z
theorem Inv.tok (I:Inv X pins σ H s) t:Inv X pins σ H { s with toks:=t }:=I.un (h':=s.heap) (t':=t) Un.refl I.hok
theorem Inv.kept (I:Inv X pins σ H s) (k:∀ b u,s.heap.get? b=some u->h'.get? b=some u):Inv X pins σ H { s with heap:=h',toks:=t' }:=I.un (Un.kept k) (I.hok.kept k)
theorem Inv.laid (I:Inv X pins σ H s) (k:∀ b u,s.heap.get? b=some u->h'.get? b=some u) (hp:s.heap.objs.size<=a) (new:ObjOk X.prog X.w (upd H a o) h' a o) :
  Inv X pins σ (upd H a o) { s with heap:=h',toks:=t' }:=I.un (Un.laid k hp (I.hok.fresh hp)) (I.hok.laid k hp new)
theorem Inv.write (I:Inv X pins σ H s) (mu:Mut (H x)) (he:e=x \/ H e=some (.own x)) (k:∀ b u,b≠e->s.heap.get? b=some u->h'.get? b=some u) (heo:∃ u,h'.get? e=some u)
  (new:ObjOk X.prog X.w (upd H x o) h' x o):Inv X pins σ (upd H x o) { s with heap:=h',toks:=t' }:=I.un (Un.write mu he k heo) (I.hok.write mu he k heo new)
theorem Inv.pins_of (I:Inv X pins σ H s) (h:∀ p∈pins',s.heap.get? p.1=some p.2/\H p.1=none/\p.1≠X.env.locals/\p.1 ∉ X.fs/\∀ v,p.2.data≠.cell v):Inv X pins' σ H s :=
 ⟨I.ok,I.os,I.bare,I.base,I.loc,I.cell,I.free,I.freeC,fun p hp=>(List.mem_append.mp hp).elim (fun z=>I.pin p (List.mem_append_left _ z)) (h p),I.hok,I.len⟩
theorem wY {N:List Str} (hN:N.Nodup) {i j:Nat} (a:N[i]? = some x) (b:N[j]? = some x):i=j:=by
 obtain ⟨h1,e1⟩:=List.getElem?_eq_some_iff.mp a
 obtain ⟨h2,e2⟩:=List.getElem?_eq_some_iff.mp b
 exact (List.getElem_inj hN).mp (e1.trans e2.symm)
theorem store_ok2 (I:Inv X pins σ H s) (hN:X.N.Nodup) (hi:X.N[i]? = some x) (hx:Loc X.env.scope x) (r:RelV v u)
  (h:∀ s',Inv X pins (σ.set i (some v)) H s'->(∃ a,Heap.SameBut a s.heap s'.heap/\(a=X.env.locals \/ X.env.cells.lookup x=some a))->Q () s') (hf:X.fn x=true \/ X.env.scope.names.lookup x=some .local:=by first | exact .inl rfl | exact .inr rfl | assumption):wpAny M A (storeName X.env x u) Q E s:=by
 obtain ⟨m,hn,hl⟩:=id I.loc
 have hcls:(X.env.scope.kind == .class || (X.env.scope.kind == .module && X.env.locals != X.env.globals))=false:=by rw [I.ok.kind]; rfl
 have hiσ : i < σ.length:=by rw [I.len]; exact (List.getElem?_eq_some_iff.mp hi).1
 have cne:=I.cne
 have tracked:∀ {a:Addr} {h':Heap},(∃ o,s.heap.get? a=some o/\H a=none)->Heap.SameBut a s.heap h'->HOk X.prog X.w H h':=fun {a h'} ha hs b ob e=>by
  obtain ⟨_,_,hfree⟩:=ha
  refine (I.hok b ob e).stay (fun c w' hc q=>(hs.2 c ?_).trans q) (fun _ q=>q) fun _ _ q=>q
  rintro rfl
  rcases hc with rfl | hc
  · rw [hfree] at e; cases e
  · rw [hfree] at hc; cases hc
 rcases hx with hk | hk
 · refine wpAny_storeName_local hk hn (fun h' hn' hs => ?_) hcls
   obtain ⟨oL,_,_,hoL,_⟩:=id hn
   refine h _ ⟨I.ok,I.os,I.bare,⟨fun b o e n hb hx=>?_,fun b o e n hb hx=>?_,I.base.free,fun b o e hx=>?_,I.base.tups,I.base.frzs,I.base.tbls⟩,⟨_,hn',fun j y v' e1 e2 e3=>?_⟩,fun y c e=>?_,I.free,I.freeC,fun p hp=>?_,tracked ⟨oL,hoL,I.free⟩ hs,by simpa using I.len⟩ ⟨_,hs,.inl rfl⟩
   · exact (hs.2 b (Nat.ne_of_lt (Nat.lt_of_lt_of_le (Heap.lt_size e) I.ok.above))).trans (I.base.keep b o e n hb hx)
   · obtain ⟨sl, e1⟩ := I.base.slot b o e n hb hx
     exact ⟨sl,(hs.2 b (Nat.ne_of_lt (Nat.lt_of_lt_of_le (Heap.lt_size e) I.ok.above))).trans e1⟩
   · obtain ⟨o', e1⟩ := I.base.there b o e hx
     exact ⟨o',(hs.2 b (Nat.ne_of_lt (Nat.lt_of_lt_of_le (Heap.lt_size e) I.ok.above))).trans e1⟩
   · by_cases hj : j = i
     · subst hj
       rw [hi] at e1; cases e1
       rw [List.getElem?_set_self hiσ] at e2
       cases e2
       exact ⟨u,r,.inl ⟨hk,by simp⟩⟩
     · rw [List.getElem?_set_ne (Ne.symm hj)] at e2
       obtain ⟨u',r',q⟩:=hl j y v' e1 e2 e3
       refine ⟨u',r',?_⟩
       rcases q with ⟨k,e⟩ | ⟨k,c,e,z⟩
       · refine .inl ⟨k, ?_⟩
         have:y≠x:=fun e=>hj (wY hN e1 (e ▸ hi))
         simp [this,e]
       · exact .inr ⟨k,c,e,z.sameBut hs (cne y c e)⟩
   · obtain ⟨w', z⟩ := I.cell y c e
     exact ⟨w',z.sameBut hs (cne y c e)⟩
   · obtain ⟨e, n, ne, nf, d⟩ := I.pin p hp
     exact ⟨(hs.2 p.1 ne).trans e,n,ne,nf,d⟩
 · have hfn:X.fn x=true:=by
    rcases hf with z | z
    · exact z
    · rw [z] at hk; cases hk
   obtain ⟨c,hc⟩:=I.ok.has x (.inl hk)
   obtain ⟨w',z⟩:=I.cell x c hc
   refine wpAny_storeName_cell I.ok.kind hk hc z (fun h' hc' hs=>?_)
   obtain ⟨oc,hoc,hocd⟩:=id z
   refine h { s with heap:=h' } ⟨I.ok,I.os,I.bare,⟨fun b o e n hb hx=>?_,fun b o e n hb hx=>?_,I.base.free,fun b o e hx=>?_,I.base.tups,I.base.frzs,I.base.tbls⟩,⟨m,hn.sameBut hs (Ne.symm (cne x c hc)),fun j y v' e1 e2 e3=>?_⟩,fun y c' e=>?_,I.free,I.freeC,fun p hp=>?_,tracked ⟨oc,hoc,(I.freeC x c hc).now hfn⟩ hs,by simpa using I.len⟩ ⟨c,hs,.inr hc⟩
   · exact (hs.2 b (Nat.ne_of_lt (Nat.lt_of_lt_of_le (Heap.lt_size e) (I.ok.cab x c hfn hc)))).trans (I.base.keep b o e n hb hx)
   · obtain ⟨sl, e1⟩ := I.base.slot b o e n hb hx
     exact ⟨sl,(hs.2 b (Nat.ne_of_lt (Nat.lt_of_lt_of_le (Heap.lt_size e) (I.ok.cab x c hfn hc)))).trans e1⟩
   · obtain ⟨o', e1⟩ := I.base.there b o e hx
     exact ⟨o',(hs.2 b (Nat.ne_of_lt (Nat.lt_of_lt_of_le (Heap.lt_size e) (I.ok.cab x c hfn hc)))).trans e1⟩
   · by_cases hj : j = i
     · subst hj
       rw [hi] at e1; cases e1
       rw [List.getElem?_set_self hiσ] at e2
       cases e2
       exact ⟨u,r,.inr ⟨.inl hk,c,hc,hc'⟩⟩
     · rw [List.getElem?_set_ne (Ne.symm hj)] at e2
       obtain ⟨u',r',q⟩:=hl j y v' e1 e2 e3
       refine ⟨u',r',?_⟩
       rcases q with q | ⟨k,c',e,z'⟩
       · exact .inl q
       · refine .inr ⟨k, c', e, z'.sameBut hs ?_⟩
         rintro rfl
         exact hj (wY hN e1 (I.ok.inj _ _ _ e hc ▸ hi))
   · by_cases hcc : c' = c
     · subst hcc; exact ⟨_,hc'⟩
     · obtain ⟨w2, z2⟩ := I.cell y c' e
       exact ⟨w2,z2.sameBut hs hcc⟩
   · obtain ⟨e, n, ne, nf, d⟩ := I.pin p hp
     refine ⟨(hs.2 p.1 ?_).trans e,n,ne,nf,d⟩
     intro q
     rw [q,hoc] at e
     have q':=Option.some.inj e
     exact d w' (by rw [<- q']; exact hocd)
theorem xW (I:Inv X pins σ H s) (hN:X.N.Nodup) (hi:X.N[i]? = some x) (hx:Loc X.env.scope x) (r:RelV v u)
  (h:∀ s',Inv X pins (σ.set i (some v)) H s'->Q () s') (hf:X.fn x=true \/ X.env.scope.names.lookup x=some .local:=by first | exact .inl rfl | exact .inr rfl | assumption):wpAny M A (storeName X.env x u) Q E s :=
 store_ok2 I hN hi hx r (fun s' I' _=>h s' I') hf
theorem Inv.call' (I:Inv X pins σ H s) (ho:s'.os=s.os) (u:Un (frs X.stack) ch H H' s.heap s'.heap) (hok:HOk X.prog X.w H' s'.heap) (hg:AllBare s'.gens)
  (hch:∀ b∈ch,(b∈X.ex \/ X.s₀.heap.objs.size<=b)/\b≠X.env.locals/\(∀ x c,X.env.cells.lookup x=some c->c≠b)/\∀ p∈X.pn++pins,p.1≠b):Inv X pins σ H' s':=by
 obtain ⟨h',g',d',t',o'⟩:=s'
 have e:=ho
 subst e
 exact I.call u hok hg hch
end
abbrev XK:=Value->Option Addr->Hp->Prop
abbrev St:=List (Option V)
abbrev VK:=V->Hp->Prop
abbrev TE:=St->Hp->VK->Prop
abbrev TT:=St->Hp->(Bool->Hp->Prop)->Prop
abbrev TA:=St->Hp->(List V->Hp->Prop)->Prop
structure Ends where
 nx:St->Hp->Prop
 rt:VK
 bk:St->Hp->Prop:=fun _ _=>False
 ct:St->Hp->Prop:=fun _ _=>False
abbrev TS:=Ends->St->Hp->Prop
def EP (X:Cx) (pins:List (Addr×Obj)) (σ : St) (Q:VK) (u:Value) (s':Shared):Prop:=∃ v H',Inv X pins σ H' s'/\RelV v u/\Q v H'
def TP (X:Cx) (pins:List (Addr×Obj)) (σ : St) (Q:Bool->Hp->Prop) (b:Bool) (s':Shared):Prop:=∃ H',Inv X pins σ H' s'/\Q b H'
def AP (X:Cx) (pins:List (Addr×Obj)) (σ : St) (Q:List V->Hp->Prop) (us:List Value) (s':Shared):Prop:=∃ vs H',Inv X pins σ H' s'/\Vals vs us/\Q vs H'
def SP (X:Cx) (pins:List (Addr×Obj)) (D:Ends) (f:Flow) (s':Shared):Prop :=
 match f with
 | .next=>∃ σ' H',Inv X pins σ' H' s'/\D.nx σ' H'
 | .brk=>∃ σ' H',Inv X pins σ' H' s'/\D.bk σ' H'
 | .cont=>∃ σ' H',Inv X pins σ' H' s'/\D.ct σ' H'
 | .ret u=>∃ v σ' H',Inv X pins σ' H' s'/\RelV v u/\D.rt v H'
def PE (X:Cx) (e:Expr) (t:TE):Prop :=
 ∀ (pins:List (Addr×Obj)) (s:Shared) (σ : St) (H:Hp) (Q:VK),Inv X pins σ H s->t σ H Q->wpAny (model X.prog X.w) X.A (eval e X.env) (EP X pins σ Q) X.xe s
def PT (X:Cx) (e:Expr) (t:TT):Prop :=
 ∀ (pins:List (Addr×Obj)) (s:Shared) (σ : St) (H:Hp) (Q:Bool->Hp->Prop),Inv X pins σ H s->t σ H Q->wpAny (model X.prog X.w) X.A (isTrue e X.env (eval e X.env)) (TP X pins σ Q) X.xe s
def PW (X:Cx) (e:Expr) (t:TT):Prop :=
 ∀ (whole:Sem Value) (pins:List (Addr×Obj)) (s:Shared) (σ : St) (H:Hp) (Q:Bool->Hp->Prop),Inv X pins σ H s->t σ H Q->wpAny (model X.prog X.w) X.A (isTrue e X.env whole) (TP X pins σ Q) X.xe s
theorem PW.pt (h:PW X e t):PT X e t:=h _
def PA (X:Cx) (es:List Expr) (t:TA):Prop :=
 ∀ (pos:Pos) (pins:List (Addr×Obj)) (s:Shared) (σ : St) (H:Hp) (Q:List V->Hp->Prop),Inv X pins σ H s->t σ H Q->wpAny (model X.prog X.w) X.A (spliced (backTo pos (starEach es X.env))) (AP X pins σ Q) X.xe s
def PS (X:Cx) (st:Stmt) (t:TS):Prop :=
 ∀ (pins:List (Addr×Obj)) (s:Shared) (σ : St) (H:Hp) (D:Ends),Inv X pins σ H s->t D σ H->wpAny (model X.prog X.w) X.A (exec st X.env) (SP X pins D) X.xe s
def PSs (X:Cx) (st:List Stmt) (t:TS):Prop :=
 ∀ (pins:List (Addr×Obj)) (s:Shared) (σ : St) (H:Hp) (D:Ends),Inv X pins σ H s->t D σ H->wpAny (model X.prog X.w) X.A (execs st X.env) (SP X pins D) X.xe s
theorem thn (h:wpAny M A t Q E s) (hQ:∀ a s,Q a s->Q' a s):wpAny M A t Q' E s:=wpAny_mono h hQ fun _ _ x=>x
section
variable {X:Cx}
theorem bin (ha:PE X a ta) (hb:PE X b tb) {R:V->V->Hp->Prop} (I:Inv X pins σ H s) (h:ta σ H fun x H1=>tb σ H1 fun y H2=>R x y H2)
  {Q : α->Shared->Prop} {f:Value->Value->Sem α}
  (hf:∀ v u s2 x y H2,Inv X pins σ H2 s2->RelV x v->RelV y u->R x y H2->wpAny (model X.prog X.w) X.A (f v u) Q X.xe s2) :
  wpAny (model X.prog X.w) X.A (eval a X.env) (fun v s₁=>wpAny (model X.prog X.w) X.A (eval b X.env) (fun u s₂=>wpAny (model X.prog X.w) X.A (f v u) Q X.xe s₂) X.xe s₁) X.xe s:=by
 refine thn (ha pins s σ H _ I h) fun v s1 zq=>?_
 obtain ⟨x,H1,I1,r1,q1⟩:=zq
 refine thn (hb pins s1 σ H1 _ I1 q1) fun u s2 zq=>?_
 obtain ⟨y,H2,I2,r2,q2⟩:=zq
 exact hf v u s2 x y H2 I2 r1 r2 q2
def tVar (i:Nat):TE:=fun σ H Q=>∃ v,σ[i]? = some (some v)/\Q v H
def tC (v:V):TE:=fun _ H Q=>Q v H
theorem jG (hN:X.N[i]? = some x) (hv:Vis X.env.scope x) (hd:(x == ("__debug__" : Str))=false:=by decide) (hcd:(x == ("__classdict__" : Str))=false:=by decide):PE X (.Name x pos) (tVar i):=by
 intro pins s σ H Q I h
 obtain ⟨v,e,h⟩:=h
 obtain ⟨m,hn,hl⟩:=I.loc
 obtain ⟨u,r,l⟩:=hl i x v hN e hv
 have fin:EP X pins σ Q u s:=⟨v,H,I,r,h⟩
 rcases l with ⟨hk,hm⟩ | ⟨hk,c,hc,hcell⟩
 · exact wpAny_Name (wpAny_loadName_local I.ok.kind hk hn hm fin) hd
 · rcases hk with hk | hk
   · exact wpAny_Name (wpAny_loadName_cell I.ok.kind hk hc hcell fin) hd
   · exact wpAny_Name (wpAny_loadName_free I.ok.kind hk hc hcell fin hcd) hd
theorem pe_int {i j pos} : PE X (.Constant (.int i) j pos) (tC (.int i)):=fun _ _ _ H _ I h=>wpAny_Constant_int ⟨.int i,H,I.tok _,⟨_,rfl⟩,h⟩
theorem pe_bl {b j pos} : PE X (.Constant (.bool b) j pos) (tC (.bl b)):=fun _ _ _ H _ I h=>Constant_bool ⟨.bl b,H,I,rfl,h⟩
theorem pe_non {j pos} : PE X (.Constant .none j pos) (tC .non):=fun _ _ _ H _ I h=>Constant_none ⟨.non,H,I,rfl,h⟩
def Gl (X:Cx) (x:Str):Prop:=X.env.kindOf x=some .globalImplicit
theorem wD (I:Inv X pins σ H s) (hg:Gl X x) (hm:X.mg x=some u) (h:Q u s)
  (hd:(x == ("__debug__" : Str))=false:=by decide):wpAny (model X.prog X.w) X.A (eval (.Name x pos) X.env) Q E s :=
 Calls.Name_function_global I.ok.kind hg (Calls.loadGlobal_global (by rw [I.ok.glob]; exact I.mod.glob.keeps I.bk) hm h) hd
theorem kC (I:Inv X pins σ H s) (hg:Gl X x) (hm:X.mg x=none) (hv:bootBuiltins x=some u) (h:Q u s)
  (hn:x≠"__name__":=by decide) (hd:(x == ("__debug__" : Str))=false:=by decide):wpAny (model X.prog X.w) X.A (eval (.Name x pos) X.env) Q E s:=by
 obtain ⟨mb,h1,h2⟩:=I.mod.blt
 exact Calls.Name_function_global I.ok.kind hg (Calls.loadGlobal_builtin (by rw [I.ok.glob]; exact I.mod.glob.keeps I.bk) hm (by rw [I.ok.blt]; exact h1.keeps I.bk) ((h2 x hn).trans hv) h) hd
theorem pe_glob (hg:Gl X x) (hm:X.mg x=some u) (r:RelV v u) (hd:(x == ("__debug__" : Str))=false:=by decide):PE X (.Name x pos) (tC v) :=
 fun _ _ _ H _ I h=>wD I hg hm ⟨v,H,I,r,h⟩ hd
theorem pe_bltn (hg:Gl X x) (hm:X.mg x=none) (hv:bootBuiltins x=some u) (r:RelV v u) (hn:x≠"__name__":=by decide) (hd:(x == ("__debug__" : Str))=false:=by decide):PE X (.Name x pos) (tC v) :=
 fun _ _ _ H _ I h=>kC I hg hm hv ⟨v,H,I,r,h⟩ hn hd
def t2I (ta tb:TE) (k:Int->Int->Hp->Prop):St->Hp->Prop:=fun σ H=>ta σ H fun x H1=>tb σ H1 fun y H2=>∃ i j,x = .int i/\y = .int j/\k i j H2
def tMul (ta tb:TE):TE:=fun σ H Q=>t2I ta tb (fun i j H2=>(-(2 ^ 64) < i/\i < 2 ^ 64)/\Q (.int (i * j)) H2) σ H
variable {a b:Expr} {ta tb:TE}
theorem pe_mul (ha:PE X a ta) (hb:PE X b tb):PE X (.BinOp a .Mult b pos) (tMul ta tb):=by
 intro pins s σ H Q I h
 refine wpAny_BinOp (bin ha hb I h fun v u s2 x y H2 I2 rx ry q=>?_)
 obtain ⟨i,j,rfl,rfl,⟨q1,q2⟩,q⟩:=q
 obtain ⟨t,rfl⟩:=rx
 obtain ⟨t',rfl⟩:=ry
 exact mul_int ⟨.int _,H2,I2.tok _,⟨_,rfl⟩,q⟩ (.of_left (intBits_le_64 q1 q2))
def PC (X:Cx) (op:CmpOp) (a b:Expr) (t:TE):Prop :=
 ∀ (pins:List (Addr×Obj)) (s:Shared) (σ : St) (H:Hp) (Q:VK),Inv X pins σ H s->t σ H Q →
  wpAny (model X.prog X.w) X.A (eval a X.env) (fun v s₁=>wpAny (model X.prog X.w) X.A (eval b X.env) (fun u s₂=>wpAny (model X.prog X.w) X.A (compareOp op v u) (EP X pins σ Q) X.xe s₂) X.xe s₁) X.xe s
theorem nobehind b (h:op≠.In) (h2:op≠.NotIn):behindInMarks op b=false:=by
 have e1:(op == CmpOp.In)=false:=by cases op <;> first | rfl | exact absurd rfl h
 have e2:(op == CmpOp.NotIn)=false:=by cases op <;> first | rfl | exact absurd rfl h2
 cases b <;> simp [behindInMarks,e1,e2]
def tB (t:TE):TT:=fun σ H Q=>t σ H fun x H1=>∃ c,x = .bl c/\Q c H1
theorem pt_cmp (h:PC X op a b t) (h1:behindInMarks op b=false:=by first | exact nobehind _ (by decide) (by decide) | rfl):PT X (.Compare a [op] [b] pos) (tB t):=by
 intro pins s σ H Q I hw
 refine wpAny_isTrue_Compare1 (thn (h pins s σ H _ I hw) fun v s1 h1=>thn h1 fun u s2 h2=>thn h2 fun c s3 zq=>?_) h1
 obtain ⟨x,H1,I1,r1,q1⟩:=zq
 obtain ⟨d,rfl,q⟩:=q1
 cases r1
 exact wpAny_truthy_bool ⟨H1,I1,q⟩
theorem pt_val (h:PE X e t) (he:∀ whole,isTrue e X.env whole=(do let v <- whole; standAt e.pos; holding [v] (truthy v)):=by intro _; rfl):PT X e (tB t):=by
 intro pins s σ H Q I hw
 refine isTrue_plain (thn (h pins s σ H _ I hw) fun v s1 zq=>?_) (he _)
 obtain ⟨x,H1,I1,r1,q1⟩:=zq
 obtain ⟨d,rfl,q⟩:=q1
 cases r1
 exact wpAny_truthy_bool ⟨H1,I1,q⟩
variable {rest:List Expr}
def tAnd (t u:TT):TT:=fun σ H Q=>t σ H fun c H1=>if c=true then u σ H1 Q else Q false H1
def tOr (t u:TT):TT:=fun σ H Q=>t σ H fun c H1=>if c=true then Q true H1 else u σ H1 Q
def tNot (t:TT):TT:=fun σ H Q=>t σ H fun c H1=>Q (!c) H1
theorem pw_and1 (ha:PT X a tA):PW X (.BoolOp .And [a] pos) tA:=by
 intro wh pins s σ H Q I h
 refine isTrue_and (thn (ha pins s σ H Q I h) fun c s1 e=>?_)
 cases c with
 | true=>exact isTrue_and_nil e
 | false=>exact e
theorem pw_or1 (ha:PT X a tA):PW X (.BoolOp .Or [a] pos) tA:=by
 intro wh pins s σ H Q I h
 refine isTrue_or (thn (ha pins s σ H Q I h) fun c s1 e=>?_)
 cases c with
 | false=>exact isTrue_or_nil e
 | true=>exact e
theorem pw_and (ha:PT X a tA) (hb:PW X (.BoolOp .And (b::rest) pos) tB'):PW X (.BoolOp .And (a::b::rest) pos) (tAnd tA tB'):=by
 intro wh pins s σ H Q I h
 refine isTrue_and (thn (ha pins s σ H _ I h) fun c s1 zq=>?_)
 obtain ⟨H1,I1,q1⟩:=zq
 cases c with
 | true=>exact hb wh pins s1 σ H1 Q I1 q1
 | false=>exact ⟨H1,I1,q1⟩
theorem pw_or (ha:PT X a tA) (hb:PW X (.BoolOp .Or (b::rest) pos) tB'):PW X (.BoolOp .Or (a::b::rest) pos) (tOr tA tB'):=by
 intro wh pins s σ H Q I h
 refine isTrue_or (thn (ha pins s σ H _ I h) fun c s1 zq=>?_)
 obtain ⟨H1,I1,q1⟩:=zq
 cases c with
 | true=>exact ⟨H1,I1,q1⟩
 | false=>exact hb wh pins s1 σ H1 Q I1 q1
theorem pt_not (ha:PT X a tA):PT X (.UnaryOp .Not a pos) (tNot tA):=by
 intro pins s σ H Q I h
 exact isTrue_not (ha pins s σ H (fun c H1=>Q (!c) H1) I h)
def tAndV (ta tb:TE):TE:=fun σ H Q=>ta σ H fun x H1=>∃ c,x = .bl c/\if c=true then tb σ H1 Q else Q (.bl false) H1
def tOrV (ta tb:TE):TE:=fun σ H Q=>ta σ H fun x H1=>∃ c,x = .bl c/\if c=true then Q (.bl true) H1 else tb σ H1 Q
def tNotV (ta:TE):TE:=fun σ H Q=>ta σ H fun x H1=>∃ c,x = .bl c/\Q (.bl (!c)) H1
theorem pe_one {op} (h:PE X a t):PE X (.BoolOp op [a] pos) t:=fun pins s σ H Q I hw=>BoolOp_one (h pins s σ H Q I hw)
theorem pe_and (ha:PE X a ta) (hb:PE X (.BoolOp .And (b::rest) pos) tb):PE X (.BoolOp .And (a::b::rest) pos) (tAndV ta tb):=by
 intro pins s σ H Q I h
 refine BoolOp_and (thn (ha pins s σ H _ I h) fun v s1 zq=>?_)
 obtain ⟨x,H1,I1,r1,q1⟩:=zq
 obtain ⟨c,rfl,q1⟩:=q1
 cases r1
 refine wpAny_truthy_bool ?_
 cases c with
 | true=>exact hb pins s1 σ H1 Q I1 q1
 | false=>exact ⟨.bl false,H1,I1,rfl,q1⟩
theorem pe_or (ha:PE X a ta) (hb:PE X (.BoolOp .Or (b::rest) pos) tb):PE X (.BoolOp .Or (a::b::rest) pos) (tOrV ta tb):=by
 intro pins s σ H Q I h
 refine BoolOp_or (thn (ha pins s σ H _ I h) fun v s1 zq=>?_)
 obtain ⟨x,H1,I1,r1,q1⟩:=zq
 obtain ⟨c,rfl,q1⟩:=q1
 cases r1
 refine wpAny_truthy_bool ?_
 cases c with
 | false=>exact hb pins s1 σ H1 Q I1 q1
 | true=>exact ⟨.bl true,H1,I1,rfl,q1⟩
theorem pe_not (ha:PE X a ta):PE X (.UnaryOp .Not a pos) (tNotV ta):=by
 intro pins s σ H Q I h
 refine UnaryOp_ (thn (ha pins s σ H _ I h) fun v s1 zq=>?_)
 obtain ⟨x,H1,I1,r1,q1⟩:=zq
 obtain ⟨c,rfl,q1⟩:=q1
 cases r1
 exact not_of (wpAny_truthy_bool ⟨.bl (!c),H1,I1,rfl,q1⟩)
def tIf (t:TT) (ta tb:TE):TE:=fun σ H Q=>t σ H fun c H1=>if c=true then ta σ H1 Q else tb σ H1 Q
theorem pe_ifExp (hc:PT X c tA) (ha:PE X a ta) (hb:PE X b tb):PE X (.IfExp c a b pos) (tIf tA ta tb):=by
 intro pins s σ H Q I h
 refine wpAny_IfExp (thn (hc pins s σ H _ I h) fun d s1 zq=>?_)
 obtain ⟨H1,I1,q1⟩:=zq
 cases d with
 | true=>exact ha pins s1 σ H1 Q I1 q1
 | false=>exact hb pins s1 σ H1 Q I1 q1
end
def SqL (K:PySem.W.Frag) (H:Hp) (a:Addr) (xs:List V):Prop :=
 Rd H a (.lst xs) ∨
  ∃ (o:Obj) (its:Array Value) (n:Nat),K.lookup a=some o/\o.cls = .type "list"/\o.dict=none/\o.data = .seq its n/\its.size<=sizeLine/\Vals xs its.toList
def SqT (K:PySem.W.Frag) (H:Hp) (a:Addr) (xs:List V):Prop :=
 Rd H a (.tup xs) ∨
  ∃ (o:Obj) (its:Array Value) (n:Nat),K.lookup a=some o/\o.cls = .type "tuple"/\o.data = .seq its n/\its.size<=sizeLine/\Vals xs its.toList
noncomputable def absV:Value->Option V
 | .none=>some .non
 | .bool b=>some (.bl b)
 | .int i _=>some (.int i)
 | .str x _=>some (.str x)
 | .bytes b _=>some (.byt b)
 | .float b _=>some (.flt b)
 | .ref a=>some (.ref a)
 | .type n=>some (.ty n)
 | _=>none
theorem RelV.abs (r:RelV x u):absV u=some x:=by
 cases x with
 | non=>cases r; rfl
 | bl _=>cases r; rfl
 | int _=>obtain ⟨t,rfl⟩:=r; rfl
 | str _=>obtain ⟨t,rfl⟩:=r; rfl
 | byt _=>obtain ⟨t,rfl⟩:=r; rfl
 | flt _=>obtain ⟨t,rfl⟩:=r; rfl
 | ref _=>cases r; rfl
 | ty _=>cases r; rfl
theorem RelV.inj (r:RelV x u) (q:RelV y u):x=y:=Option.some.inj (r.abs.symm.trans q.abs)
theorem Vals.inj {xs ys:List V} {us:List Value} (h:Vals xs us):Vals ys us->xs=ys :=
 h.rec (motive:=fun xs us _=>∀ ys,Vals ys us->xs=ys) (fun _ q=>by cases q; rfl) (fun r _ i _ q=>by cases q with | cons r' t'=>rw [r.inj r',i _ t']) ys
section
theorem SqL.of {K:PySem.W.Frag} (h:H a=some (.lst xs)):SqL K H a xs:=.inl (.inl h)
theorem SqT.of {K:PySem.W.Frag} (h:H a=some (.tup xs)):SqT K H a xs:=.inl (.inl h)
theorem Inv.list (I:Inv X pins σ H s) (h:SqL X.K H a xs):∃ its:List Value,Vals xs its/\PlainL s.heap a its.toArray/\xs.length<=sizeLine:=by
 rcases h with h | ⟨o,its,n,hk,hc,hd,hs,hz,r⟩
 · obtain ⟨z, its, n, r, e⟩ := h.ok I.hok
   exact ⟨its,r,⟨_,n,e,rfl,rfl,rfl⟩,z⟩
 · refine ⟨its.toList, r, ⟨o, n, I.kIn a o hk, hc, hd, by simpa using hs⟩, ?_⟩
   have e:=r.length
   simp [Array.length_toList] at e
   lia
theorem Inv.tuple (I:Inv X pins σ H s) (h:SqT X.K H a xs):∃ its,Vals xs its/\IsTup s.heap a its.toArray/\xs.length<=sizeLine:=by
 rcases h with h | ⟨o,its,n,hk,hc,hs,hz,r⟩
 · obtain ⟨z, its, r, p⟩ := h.ok I.hok
   exact ⟨its,r,p,z⟩
 · refine ⟨its.toList, r, ⟨o, I.kIn a o hk, hc, n, by simpa using hs⟩, ?_⟩
   have e:=r.length
   simp [Array.length_toList] at e
   lia
theorem Inv.list_inj (I:Inv X pins σ H s) (h:SqL X.K H a xs) (h':SqL X.K H a ys):xs=ys:=by
 obtain ⟨its,r,⟨o,n,e,_,_,d⟩,_⟩:=I.list h
 obtain ⟨its',r',⟨o',n',e',_,_,d'⟩,_⟩:=I.list h'
 rw [e] at e'; cases e'
 rw [d] at d'
 injection d' with d1 _
 have:its=its':=by simpa using congrArg Array.toList d1
 subst this
 exact r.inj r'
theorem Inv.tuple_inj (I:Inv X pins σ H s) (h:SqT X.K H a xs) (h':SqT X.K H a ys):xs=ys:=by
 obtain ⟨its,r,⟨o,e,_,n,d⟩,_⟩:=I.tuple h
 obtain ⟨its',r',⟨o',e',_,n',d'⟩,_⟩:=I.tuple h'
 rw [e] at e'; cases e'
 rw [d] at d'
 injection d' with d1 _
 have:its=its':=by simpa using congrArg Array.toList d1
 subst this
 exact r.inj r'
end
noncomputable abbrev Cx.wish (X:Cx) (E:Value->Shared->Prop):Cx:={ X with xe:=E }
noncomputable abbrev Cx.nox (X:Cx):Cx:=X.wish fun _ _=>False
theorem Cx.Ok.wish {X:Cx} (ok:X.Ok) E:(X.wish E).Ok :=
 ⟨ok.mod,ok.kind,ok.glob,ok.blt,ok.above,ok.inj,ok.has,ok.cab,ok.hd,ok.frames,ok.stk,ok.exf,ok.bs,ok.bsz,ok.noex,ok.exfs,ok.funs,ok.frf⟩
theorem Cx.Ok.unwish {X:Cx} (ok:(X.wish E).Ok):X.Ok :=
 ⟨ok.mod,ok.kind,ok.glob,ok.blt,ok.above,ok.inj,ok.has,ok.cab,ok.hd,ok.frames,ok.stk,ok.exf,ok.bs,ok.bsz,ok.noex,ok.exfs,ok.funs,ok.frf⟩
section
theorem Inv.wish (I:Inv X pins σ H s) E:Inv (X.wish E) pins σ H s:=⟨I.ok.wish E,I.os,I.bare,I.base,I.loc,I.cell,I.free,I.freeC,I.pin,I.hok,I.len⟩
theorem Inv.unwish (I:Inv (X.wish E) pins σ H s):Inv X pins σ H s:=⟨I.ok.unwish,I.os,I.bare,I.base,I.loc,I.cell,I.free,I.freeC,I.pin,I.hok,I.len⟩
theorem SP.unwish (h:SP (X.wish E) pins D f s'):SP X pins D f s':=by
 cases f with
 | next=>obtain ⟨σ',H',I,q⟩:=h; exact ⟨σ',H',I.unwish,q⟩
 | brk=>obtain ⟨σ',H',I,q⟩:=h; exact ⟨σ',H',I.unwish,q⟩
 | cont=>obtain ⟨σ',H',I,q⟩:=h; exact ⟨σ',H',I.unwish,q⟩
 | ret u=>obtain ⟨v,σ',H',I,r,q⟩:=h; exact ⟨v,σ',H',I.unwish,r,q⟩
theorem PSs.nox {st:List Stmt} (h:PSs X.nox st t):PSs X st t:=fun pins s σ H D I hw =>
 wpAny_mono (h pins s σ H D (I.wish _) hw) (fun _ _ q=>q.unwish) fun _ _ z=>False.elim z
end
section
variable {st:Stmt} {rest:List Stmt} {t u:TS} {te:TE}
def tNext:TS:=fun D σ H=>D.nx σ H
def tSeq (t u:TS):TS:=fun D σ H=>t { D with nx:=u D } σ H
theorem pss_nil:PSs X [] tNext:=fun _ _ σ H _ I h=>wpAny_execs_nil ⟨σ,H,I,h⟩
theorem yG (h1:PS X st t) (h2:PSs X rest u):PSs X (st::rest) (tSeq t u):=by
 intro pins s σ H D I h
 refine wpAny_execs_cons (thn (h1 pins s σ H { D with nx:=u D } I h) fun f s1 q=>?_)
 cases f with
 | next =>
   obtain ⟨σ',H',I',q⟩:=q
   exact h2 pins s1 σ' H' D I' q
 | ret v=>exact q
 | brk=>exact q
 | cont=>exact q
theorem kG (h1:PS X st t):PSs X [st] t:=by
 intro pins s σ H D I h
 refine wpAny_execs_cons (thn (h1 pins s σ H D I h) fun f s1 q=>?_)
 cases f with
 | next=>exact wpAny_execs_nil q
 | ret v=>exact q
 | brk=>exact q
 | cont=>exact q
theorem Inv.quiet (I:Inv X pins σ H s):interactive X.env=false:=by simp [interactive,I.ok.kind]
def tDrop (te:TE):TS:=fun D σ H=>te σ H fun _ H1=>D.nx σ H1
theorem ps_expr (he:PE X e te) (hs:swapsWith e none pos.line X.env=pure false:=by rfl):PS X (.Expr e pos) (tDrop te):=by
 intro pins s σ H D I h
 exact wpAny_Expr_any (thn (he pins s σ H _ I h) fun v s1 ⟨x,H1,I1,r1,q1⟩=>⟨σ,H1,I1,q1⟩) I.quiet hs
def tRet (te:TE):TS:=fun D σ H=>te σ H D.rt
theorem wR (he:PE X e te):PS X (.Return (some e) pos) (tRet te):=by
 intro pins s σ H D I h
 exact wpAny_Return_some (thn (he pins s σ H _ I h) fun v s1 ⟨x,H1,I1,r1,q1⟩=>⟨x,σ,H1,I1,r1,q1⟩)
def tIfS (c:TT) (t u:TS):TS:=fun D σ H=>c σ H fun b H1=>if b=true then t D σ H1 else u D σ H1
theorem ps_if (hc:PT X c tc) (ha:PSs X a t) (hb:PSs X b u):PS X (.If c a b pos) (tIfS tc t u):=by
 intro pins s σ H D I h
 refine wpAny_If (thn (hc pins s σ H _ I h) fun d s1 zq=>?_)
 obtain ⟨H1,I1,q1⟩:=zq
 cases d with
 | true=>exact ha pins s1 σ H1 D I1 q1
 | false=>exact hb pins s1 σ H1 D I1 q1
def tNever:TS:=fun _ _ _=>False
theorem ps_never:PS X st tNever:=fun _ _ _ _ _ _ h=>h.elim
theorem pss_never:PSs X sts tNever:=fun _ _ _ _ _ _ h=>h.elim
end
abbrev TG:=V->St->Hp->(St->Hp->Prop)->Prop
abbrev TGs:=List V->St->Hp->(St->Hp->Prop)->Prop
def PG (X:Cx) (target:Expr) (t:TG):Prop :=
 ∀ (pins:List (Addr×Obj)) (s:Shared) (σ : St) (H:Hp) (v:V) (u:Value) (Q:St->Hp->Prop),Inv X pins σ H s->RelV v u->t v σ H Q →
  wpAny (model X.prog X.w) X.A (assign target X.env u) (fun _ s'=>∃ σ' H',Inv X pins σ' H' s'/\Q σ' H') X.xe s
def PGs (X:Cx) (ts:List Expr) (t:TGs):Prop :=
 ∀ (pins:List (Addr×Obj)) (s:Shared) (σ : St) (H:Hp) (vs:List V) (us:List Value) (Q:St->Hp->Prop),Inv X pins σ H s->Vals vs us->t vs σ H Q →
  wpAny (model X.prog X.w) X.A (assignInOrder ((assignEach ts X.env).map (·.2)) us) (fun _ s'=>∃ σ' H',Inv X pins σ' H' s'/\Q σ' H') X.xe s
abbrev TSet:=V->V->V->Hp->(Hp->Prop)->Prop
def PSet (X:Cx) (t:TSet):Prop :=
 ∀ (pins:List (Addr×Obj)) (s:Shared) (σ : St) (H:Hp) (o i v:V) (ov iv u:Value) (Q:Hp->Prop),Inv X pins σ H s->RelV o ov->RelV i iv->RelV v u->t o i v H Q →
  wpAny (model X.prog X.w) X.A (setItem ov iv u) (fun _ s'=>∃ H',Inv X pins σ H' s'/\Q H') X.xe s
abbrev TIp:=V->V->Hp->VK->Prop
def PIp (X:Cx) (op:Operator) (t:TIp):Prop :=
 ∀ (pins:List (Addr×Obj)) (s:Shared) (σ : St) (H:Hp) (x y:V) (v u:Value) (Q:VK),Inv X pins σ H s->RelV x v->RelV y u->t x y H Q →
  wpAny (model X.prog X.w) X.A (inplaceOp op v u) (EP X pins σ Q) X.xe s
section
variable {X:Cx}
def gName (i:Nat):TG:=fun v σ H Q=>Q (σ.set i (some v)) H
theorem pg_name (hN:X.N.Nodup) (hi:X.N[i]? = some x) (hx:Loc X.env.scope x) (hf:X.fn x=true \/ X.env.scope.names.lookup x=some .local:=by first | exact .inl rfl | exact .inr rfl | assumption):PG X (.Name x pos) (gName i):=by
 intro pins s σ H v u Q I r h
 exact wpAny_assign_Name (xW I hN hi hx r (fun s' I'=>⟨_,H,I',h⟩) hf)
def gNil:TGs:=fun vs σ H Q=>vs=[]/\Q σ H
def gCons (t:TG) (u:TGs):TGs:=fun vs σ H Q=>∃ v r,vs=v::r/\t v σ H fun σ' H'=>u r σ' H' Q
theorem pgs_nil:PGs X [] gNil:=by
 intro pins s σ H vs us Q I r h
 obtain ⟨e,h⟩:=h
 subst e
 exact assignInOrder_nil ⟨σ,H,I,h⟩
theorem pgs_cons (h1:PG X e t) (h2:PGs X es u)
  (hs:(assignEach (e::es) X.env).map (·.2)=assign e X.env::(assignEach es X.env).map (·.2):=by rfl):PGs X (e::es) (gCons t u):=by
 intro pins s σ H vs us Q I r h
 obtain ⟨v,vr,e1,h⟩:=h
 subst e1
 cases r with
 | cons r rr =>
   rw [hs]
   refine assignInOrder_cons (thn (h1 pins s σ H _ _ _ I r h) fun _ s1 zq=>?_)
   obtain ⟨σ1,H1,I1,q1⟩:=zq
   exact h2 pins s1 σ1 H1 _ _ Q I1 rr q1
def gTup (K:PySem.W.Frag) (n:Nat) (t:TGs):TG:=fun v σ H Q=>∃ a xs,v = .ref a/\SqT K H a xs/\xs.length=n/\t xs σ H Q
theorem pg_tup (hc:X.calm=true) (h:PGs X es t)
  (hn:(assignEach es X.env).length=n:=by rfl) (hst:(assignEach es X.env).findIdx? (·.1)=none:=by rfl):PG X (.Tuple es k pos) (gTup X.K n t):=by
 intro pins s σ H v u Q I r hw
 obtain ⟨a,xs,e1,hq,hl,hw⟩:=hw
 subst e1
 cases r
 obtain ⟨its,rv,ht,hz⟩:=I.tuple hq
 refine assign_Tuple_tuple (I.ok.hd hc) ht (by simp [hn,<- hl,rv.length]) hst fun h' hx=>?_
 have I1:=I.kept (t':=s.toks) fun b o e=>hx b o (Nat.ne_of_lt (Heap.lt_size e)) e
 exact h pins _ σ H xs _ Q I1 (by simpa using rv) hw
def gSub (to ti:TE) (t:TSet):TG:=fun v σ H Q=>to σ H fun o H1=>ti σ H1 fun i H2=>t o i v H2 fun H3=>Q σ H3
theorem pg_sub (ho:PE X o to) (hi:PE X i ti) (hs:PSet X t)
  (ha:∀ v,assign (.Subscript o i pos) X.env v=(do
    let ov <- holding [v] (eval o X.env)
    let iv <- holding [v,ov] (eval i X.env)
    standAt pos
    holding [v,ov,iv] (setItem ov iv v)
    release [v,ov,iv] []):=by intro _; rfl):PG X (.Subscript o i pos) (gSub to ti t):=by
 intro pins s σ H v u Q I r h
 refine wpAny_bind (wpAny_holding (thn (ho pins s σ H _ I h) fun ov s1 zq=>?_))
 obtain ⟨x,H1,I1,r1,q1⟩:=zq
 refine wpAny_bind (wpAny_holding (thn (hi pins s1 σ H1 _ I1 q1) fun iv s2 zq=>?_))
 obtain ⟨y,H2,I2,r2,q2⟩:=zq
 refine wpAny_bind (wpAny_standAt (wpAny_bind (wpAny_holding (thn (hs pins s2 σ H2 x y v ov iv u _ I2 r1 r2 r q2) fun _ s3 zq=>?_))))
 obtain ⟨H3,I3,q3⟩:=zq
 exact wpAny_release ⟨σ,H3,I3,q3⟩
def tAsg (te:TE) (g:TG):TS:=fun D σ H=>te σ H fun x H1=>g x σ H1 D.nx
theorem ps_asg (he:PE X e te) (hg:PG X tg g) (hs:swapsWithSole [tg] e pos.line X.env=pure false:=by rfl) (hw:swappedStores [tg] e X.env=pure none:=by rfl)
  (h1:(assignEach [tg] X.env).map (·.2)=[assign tg X.env]:=by rfl):PS X (.Assign [tg] e pos) (tAsg te g):=by
 intro pins s σ H D I h
 refine wpAny_Assign_stores (thn (he pins s σ H _ I h) fun v s1 zq=>?_) hs hw
 obtain ⟨x,H1,I1,r1,q1⟩:=zq
 rw [h1]
 exact thn (hg pins s1 σ H1 x v _ I1 r1 q1) fun _ s2 q=>q
theorem wP (hN:X.N.Nodup) (hi:X.N[i]? = some x) (hx:Loc X.env.scope x) (he:PE X e te) (hs:swapsWith e (some (.Name x pos')) pos.line X.env=pure false:=by rfl) (hf:X.fn x=true \/ X.env.scope.names.lookup x=some .local:=by first | exact .inl rfl | exact .inr rfl | assumption) :
  PS X (.Assign [.Name x pos'] e pos) (tAsg te (gName i)):=by
 intro pins s σ H D I h
 refine wpAny_Assign_Name (thn (he pins s σ H _ I h) fun v s1 zq=>?_) hs
 obtain ⟨y,H1,I1,r1,q1⟩:=zq
 exact xW I1 hN hi hx r1 (fun s2 I2=>⟨_,H1,I2,q1⟩) hf
def tAug (i:Nat) (te:TE) (ti:TIp):TS:=fun D σ H=>∃ x,σ[i]? = some (some x)/\te σ H fun y H1=>ti x y H1 fun z H2=>D.nx (σ.set i (some z)) H2
theorem ps_aug (hN:X.N.Nodup) (hi:X.N[i]? = some x) (hx:Loc X.env.scope x) (he:PE X e te) (ho:PIp X op ti) (hf:X.fn x=true \/ X.env.scope.names.lookup x=some .local:=by first | exact .inl rfl | exact .inr rfl | assumption) :
  PS X (.AugAssign (.Name x pos') op e pos) (tAug i te ti):=by
 intro pins s σ H D I h
 obtain ⟨v,e1,h⟩:=h
 obtain ⟨m,hn,hl⟩:=I.loc
 have vis:Vis X.env.scope x:=by rcases hx with k | k; exact .inl k; exact .inr (.inl k)
 obtain ⟨u,r,l⟩:=hl i x v hi e1 vis
 refine wpAny_AugAssign_Name ?_
 have go:wpAny (model X.prog X.w) X.A (eval e X.env) (fun w s₂=>wpAny (model X.prog X.w) X.A (inplaceOp op u w) (fun r s₃=>wpAny (model X.prog X.w) X.A (storeName X.env x r) (fun _=>SP X pins D .next) X.xe s₃) X.xe s₂) X.xe s:=by
  refine thn (he pins s σ H _ I h) fun w s1 zq=>?_
  obtain ⟨y,H1,I1,r1,q1⟩:=zq
  refine thn (ho pins s1 σ H1 v y u w _ I1 r r1 q1) fun z s2 zq=>?_
  obtain ⟨zv,H2,I2,r2,q2⟩:=zq
  exact xW I2 hN hi hx r2 (fun s3 I3=>⟨_,H2,I3,q2⟩) hf
 rcases l with ⟨hk,hm⟩ | ⟨hk,c,hc,hcell⟩
 · exact wpAny_loadName_local I.ok.kind hk hn hm go
 · rcases hk with hk | hk
   · exact wpAny_loadName_cell I.ok.kind hk hc hcell go
   · rcases hx with k | k
     · have : X.env.scope.names.lookup x = some .free := hk
       rw [k] at this; cases this
     · have : X.env.scope.names.lookup x = some .free := hk
       rw [k] at this; cases this
def ipI (f:Int->Int->Int):TIp:=fun x y H Q=>∃ i j,x = .int i/\y = .int j/\Q (.int (f i j)) H
theorem ip_add:PIp X .Add (ipI fun i j=>i+j):=by
 intro pins s σ H x y v u Q I r1 r2 h
 obtain ⟨i,j,e1,e2,q⟩:=h
 subst e1; subst e2
 obtain ⟨t,rfl⟩:=r1
 obtain ⟨t',rfl⟩:=r2
 exact iadd_int ⟨.int _,H,I.tok _,⟨_,rfl⟩,q⟩
end
section
def tWhile (c:TT) (tb:TS):TS:=fun D σ H=>∃ W:Nat->St->Hp->Prop,(∃ m,W m σ H)/\∀ m σ H,W m σ H →
 c σ H fun b H1=>if b=true then ∃ N:St->Hp->Prop,(∀ σ' H',N σ' H'->∃ m',m' < m/\W m' σ' H')/\tb { D with nx:=N,ct:=N,bk:=D.nx } σ H1 else D.nx σ H1
theorem ps_while (hp:PassesOwn (model X.prog X.w) X.A X.env X.xe) (hc:PT X c tc) (hb:PSs X body tb):PS X (.While c body [] pos) (tWhile tc tb):=by
 intro pins s σ H D I h
 obtain ⟨W,⟨m0,w0⟩,turn⟩:=h
 refine wpAny_While (codeAny_whileLoop (fun n s'=>∃ σ' H',Inv X pins σ' H' s'/\W n σ' H') ?_ m0 ⟨σ,H,I,w0⟩)
 rintro n s1 ⟨σ1,H1,I1,w1⟩
 refine wpAny_passesOwn hp (thn (hc pins s1 σ1 H1 _ I1 (turn n σ1 H1 w1)) fun b s2 zq=>?_)
 obtain ⟨H2,I2,q2⟩:=zq
 cases b with
 | true =>
   obtain ⟨N,hN,q2⟩:=q2
   refine wpAny_passesOwn hp (thn (hb pins s2 σ1 H2 _ I2 q2) fun f s3 q3=>?_)
   cases f with
   | next =>
     obtain ⟨σ3,H3,I3,n3⟩:=q3
     obtain ⟨m',hm,w3⟩:=hN σ3 H3 n3
     exact ⟨m',hm,σ3,H3,I3,w3⟩
   | cont =>
     obtain ⟨σ3,H3,I3,n3⟩:=q3
     obtain ⟨m',hm,w3⟩:=hN σ3 H3 n3
     exact ⟨m',hm,σ3,H3,I3,w3⟩
   | brk=>exact q3
   | ret v=>exact q3
 | false =>
   exact wpAny_execs_nil ⟨σ1,H2,I2,q2⟩
end
structure It where
 go:Nat->Hp->Prop
 yld:Nat->Hp->V->Hp->Prop
 stop:Nat->Hp->Prop
def FpOk (X:Cx) (pins:List (Addr×Obj)) (H:Hp) (b:Addr):Prop :=
 H b=none/\b≠X.env.locals/\b ∉ X.fs/\(b∈X.ex \/ X.s₀.heap.objs.size<=b)/\(∀ x c,X.env.cells.lookup x=some c->c≠b)/\∀ p∈X.pn++pins,p.1≠b
theorem Inv.fpOk (I:Inv X pins σ H s) (hb:s.heap.objs.size<=b) (hn:H' b=none):FpOk X pins H' b:=by
 refine ⟨hn,Nat.ne_of_gt (Nat.lt_of_lt_of_le I.lt hb),I.nofs hb,.inr (Nat.le_trans I.sz hb),fun x c e z=>?_,fun p hp z=>?_⟩
 · obtain ⟨v, q⟩ := I.cell x c e
   exact absurd (Nat.lt_of_lt_of_le q.lt (by rw [z]; exact hb)) (Nat.lt_irrefl _)
 · exact absurd (Nat.lt_of_lt_of_le (Heap.lt_size (I.pin p hp).1) (by rw [z]; exact hb)) (Nat.lt_irrefl _)
structure Turn (P:Program) (w:World) (K:PySem.W.Frag) (tg:Expr) (J:It) (fp:List Addr) (it:Addr) (tn:Nat->Heap->Prop) (cm:Cx->Prop:=fun X=>X.calm=true):Prop where
 mem:it∈fp
 obj:∀ i h,tn i h->∀ b∈fp,∃ o,h.get? b=some o/\∀ v,o.data≠.cell v
 keep:∀ i h h',tn i h->(∀ b∈fp,∀ o,h.get? b=some o->h'.get? b=some o)->tn i h'
 item:∀ (X:Cx),X.prog=P->X.w=w->X.K=K->cm X->∀ (i:Nat) (pins:List (Addr×Obj)) (s:Shared) (σ : St) (H:Hp) (E:Value->Shared->Prop),Inv X pins σ H s->(∀ b∈fp,FpOk X pins H b)->tn i s.heap->J.go i H →
  wpAny (model P w) X.A (pyNext (.ref it)) (fun r s1=>∃ u,r=some u ∧
   wpAny (model P w) X.A (letOwnedTupleGo tg (.ref it) u) (fun _ s2=>∃ x H',Inv X pins σ H' s2/\RelV x u/\J.yld i H x H'/\tn (i+1) s2.heap/\∀ b∈fp,H' b=none) E s1) E s
 done:∀ (X:Cx),X.prog=P->X.w=w->X.K=K->cm X->∀ (i:Nat) (pins:List (Addr×Obj)) (s:Shared) (σ : St) (H:Hp) (E:Value->Shared->Prop),Inv X pins σ H s->(∀ b∈fp,FpOk X pins H b)->tn i s.heap->J.stop i H →
  wpAny (model P w) X.A (pyNext (.ref it)) (fun r s1=>r=none/\Inv X pins σ H s1) E s
 self:∀ (A:Around) (i:Nat) (s:Shared) (Q:Value->Shared->Prop) (E:Value->Shared->Prop),tn i s.heap->Q (.ref it) s->wpAny (model P w) A (pyIter (.ref it)) Q E s
abbrev TI:=St->Hp->(It->Hp->Prop)->Prop
def PIE (X:Cx) (pins:List (Addr×Obj)) (σ : St) (tg:Expr) (R:It->Hp->Prop) (cm:Cx->Prop:=fun X=>X.calm=true) (itv:Value) (s2:Shared):Prop :=
 ∃ (it:Addr) (fp:List Addr) (tn:Nat->Heap->Prop) (J:It) (H':Hp),itv = .ref it/\Inv X pins σ H' s2/\Turn X.prog X.w X.K tg J fp it tn cm/\tn 0 s2.heap/\(∀ b∈fp,FpOk X pins H' b)/\R J H'
def PI (X:Cx) (tg iter:Expr) (wi:TI) (cm:Cx->Prop:=fun X=>X.calm=true):Prop :=
 ∀ (pins:List (Addr×Obj)) (s:Shared) (σ : St) (H:Hp) (R:It->Hp->Prop),Inv X pins σ H s->wi σ H R →
  wpAny (model X.prog X.w) X.A (eval iter X.env) (fun v s1=>wpAny (model X.prog X.w) X.A (pyIter v) (PIE X pins σ tg R cm) X.xe s1) X.xe s
theorem go_of (ho:s.heap.get? it=some o) (hc:o.cls = .type n) (hd:o.data = .fields vs)
  (hn:["enumerate","zip","dict_itemiterator","dict_reverseitemiterator","odict_iterator","itertools.zip_longest","itertools.pairwise"].contains n=false) (hQ:Q () s):wpAny M A (letOwnedTupleGo tg (.ref it) u) Q E s:=by
 cases tg <;> first
  | exact wpAny_pure hQ
  | (cases u <;> first
      | exact wpAny_pure hQ
      | (refine wpAny_bind (wpAny_load ho ?_)
         rw [hc,hd]
         show wpAny M A (if (["enumerate","zip","dict_itemiterator","dict_reverseitemiterator","odict_iterator","itertools.zip_longest","itertools.pairwise"].contains n && vs[0]? == some (rawInt _))=true then _ else _) Q E s
         rw [if_neg (by intro h; rw [hn,Bool.false_and] at h; cases h)]
         exact wpAny_pure hQ))
noncomputable def Itl (K:PySem.W.Frag) (a:Addr):It :=
 ⟨fun i H=>∃ xs x,SqL K H a xs/\xs[i]? = some x,fun i H x H'=>H'=H/\∀ xs,SqL K H a xs->xs[i]? = some x,fun i H=>∃ xs,SqL K H a xs/\xs.length<=i⟩
noncomputable def Itt (K:PySem.W.Frag) (a:Addr):It :=
 ⟨fun i H=>∃ xs x,SqT K H a xs/\xs[i]? = some x,fun i H x H'=>H'=H/\∀ xs,SqT K H a xs->xs[i]? = some x,fun i H=>∃ xs,SqT K H a xs/\xs.length<=i⟩
noncomputable def Itr (lo:Int) (n:Nat):It:=⟨fun i _=>i < n,fun i H x H'=>H'=H/\x = .int (lo+i),fun i _=>n<=i⟩
theorem turn_list {P:Program} {w:World} {K:PySem.W.Frag} {tg:Expr} (a it:Addr):Turn P w K tg (Itl K a) [it] it (fun i h=>h.IsListIter it a i) where
 mem:=by simp
 obj:=fun i h st b hb=>by
  have e:b=it:=by simpa using hb
  subst e
  obtain ⟨o,e,c,d⟩:=st
  exact ⟨o,e,fun v z=>by rw [d] at z; cases z⟩
 keep:=fun i h h' st k=>st.at fun o e=>k it (by simp) o e
 item:=by
  intro X hP hw hK hc i pins s σ H E I hf st hg
  subst hP hw hK
  obtain ⟨xs,x,hq,hx⟩:=hg
  obtain ⟨its,rv,p,hz⟩:=I.list hq
  obtain ⟨u,hu,ru⟩:=rv.get hx
  obtain ⟨f0,f1,f2,f3,f4,f5⟩:=hf it (by simp)
  refine wpAny_pyNext_list_item st p.isList (by simpa using hu) fun h' st' sb=>?_
  have I1:=I.turned (t':=s.toks) (fun b o hb e=>(sb.2 b hb).trans e) f0 f1 f3 f4 f5
  obtain ⟨o,e,c,d⟩:=id st'
  exact ⟨u,rfl,go_of e c d (by decide) ⟨x,H,I1,ru,⟨rfl,fun ys hy=>by rw [I.list_inj hy hq]; exact hx⟩,st',fun b hb=>(hf b hb).1⟩⟩
 done:=by
  intro X hP hw hK hc i pins s σ H E I hf st hg
  subst hP hw hK
  obtain ⟨xs,hq,hx⟩:=hg
  obtain ⟨its,rv,p,hz⟩:=I.list hq
  obtain ⟨f0,f1,f2,f3,f4,f5⟩:=hf it (by simp)
  have hl:=rv.length
  exact wpAny_pyNext_list_end (I.ok.hd hc) st p.isList (by simp; lia) fun h' eb=>⟨rfl,I.turned (fun b o hb e=>eb b o hb e) f0 f1 f3 f4 f5⟩
 self:=fun _ _ _ _ _ st h=>wpAny_pyIter_listiter st h
theorem turn_tuple {P:Program} {w:World} {K:PySem.W.Frag} {tg:Expr} (a it:Addr):Turn P w K tg (Itt K a) [it] it (fun i h=>h.IsTupleIter it a i) where
 mem:=by simp
 obj:=fun i h st b hb=>by
  have e:b=it:=by simpa using hb
  subst e
  obtain ⟨o,e,c,d⟩:=st
  exact ⟨o,e,fun v z=>by rw [d] at z; cases z⟩
 keep:=fun i h h' st k=>st.at fun o e=>k it (by simp) o e
 item:=by
  intro X hP hw hK hc i pins s σ H E I hf st hg
  subst hP hw hK
  obtain ⟨xs,x,hq,hx⟩:=hg
  obtain ⟨its,rv,p,hz⟩:=I.tuple hq
  obtain ⟨u,hu,ru⟩:=rv.get hx
  obtain ⟨f0,f1,f2,f3,f4,f5⟩:=hf it (by simp)
  refine wpAny_pyNext_tuple_item st (p) (by simpa using hu) fun h' st' sb=>?_
  have I1:=I.turned (t':=s.toks) (fun b o hb e=>(sb.2 b hb).trans e) f0 f1 f3 f4 f5
  obtain ⟨o,e,c,d⟩:=id st'
  exact ⟨u,rfl,go_of e c d (by decide) ⟨x,H,I1,ru,⟨rfl,fun ys hy=>by rw [I.tuple_inj hy hq]; exact hx⟩,st',fun b hb=>(hf b hb).1⟩⟩
 done:=by
  intro X hP hw hK hc i pins s σ H E I hf st hg
  subst hP hw hK
  obtain ⟨xs,hq,hx⟩:=hg
  obtain ⟨its,rv,p,hz⟩:=I.tuple hq
  obtain ⟨f0,f1,f2,f3,f4,f5⟩:=hf it (by simp)
  have hl:=rv.length
  exact wpAny_pyNext_tuple_end (I.ok.hd hc) st (p) (by simp; lia) fun h' eb=>⟨rfl,I.turned (fun b o hb e=>eb b o hb e) f0 f1 f3 f4 f5⟩
 self:=fun _ _ _ _ _ st h=>wpAny_pyIter_tupleiter st h
theorem turn_range {P:Program} {w:World} {K:PySem.W.Frag} {tg:Expr} (it:Addr) (lo:Int) (n:Nat):Turn P w K tg (Itr lo n) [it] it (fun i h=>IsRangeIter h it (lo+(i:Nat) * 1) ((n:Int) - (i:Nat)) 1) where
 mem:=by simp
 obj:=fun i h st b hb=>by
  have e:b=it:=by simpa using hb
  subst e
  exact ⟨_,st,fun v z=>by
   have z':=z
   cases z'⟩
 keep:=fun i h h' st k=>k it (by simp) _ st
 item:=by
  intro X hP hw hK hc i pins s σ H E I hf st hg
  subst hP hw hK
  obtain ⟨f0,f1,f2,f3,f4,f5⟩:=hf it (by simp)
  have W:=Walks.range (prog:=X.prog) (w:=X.w) (I.ok.hd hc) it lo 1 n
  refine W.item i s _ _ hg st fun v h' tk hv st' kk=>?_
  obtain ⟨t,rfl⟩:=hv
  have I1:Inv X pins σ H { s with heap:=h',toks:=tk }:=I.turned (fun b o hb e=>kk b o (by simpa using hb) e) f0 f1 f3 f4 f5
  refine ⟨_,rfl,go_of st' rfl rfl (by decide) ⟨.int (lo+i),H,I1,⟨t,?_⟩,⟨rfl,rfl⟩,st',fun b hb=>(hf b hb).1⟩⟩
  rw [Int.mul_one]
 done:=by
  intro X hP hw hK hc i pins s σ H E I hf st hg
  obtain ⟨f0,f1,f2,f3,f4,f5⟩:=hf it (by simp)
  exact wpAny_pyNext_range_end (I.ok.hd hc) st (by have:n<=i:=hg; lia) fun h' eb=>⟨rfl,I.turned (fun b o hb e=>eb b o hb e) f0 f1 f3 f4 f5⟩
 self:=fun _ _ _ _ _ st h=>wpAny_pyIter_rangeiter st h
section
def iList (K:PySem.W.Frag) (tl:TE):TI:=fun σ H R=>tl σ H fun x H1=>∃ a,x = .ref a/\(∃ xs,SqL K H1 a xs)/\R (Itl K a) H1
def iTup (K:PySem.W.Frag) (tl:TE):TI:=fun σ H R=>tl σ H fun x H1=>∃ a,x = .ref a/\(∃ xs,SqT K H1 a xs)/\R (Itt K a) H1
theorem pi_list (hl:PE X l tl):PI X tg l (iList X.K tl):=by
 intro pins s σ H R I h
 refine thn (hl pins s σ H _ I h) fun v s1 zq=>?_
 obtain ⟨x,H1,I1,r1,q1⟩:=zq
 obtain ⟨a,e,⟨xs,hq⟩,q⟩:=q1
 subst e
 cases r1
 obtain ⟨its,rv,p,hz⟩:=I1.list hq
 refine wpAny_pyIter_list p.isList ?_
 refine ⟨s1.heap.objs.size,[s1.heap.objs.size],_,_,H1,rfl,I1.kept fun b o e=>Heap.get?_push_of_some _ e,turn_list a _,⟨_,Heap.get?_push_size _ rfl,rfl,rfl⟩,fun b hb=>?_,q⟩
 have e:b=s1.heap.objs.size:=by simpa using hb
 subst e
 exact I1.fpOk (Nat.le_refl _) (I1.hok.fresh (Nat.le_refl _))
theorem pi_tup (hl:PE X l tl):PI X tg l (iTup X.K tl):=by
 intro pins s σ H R I h
 refine thn (hl pins s σ H _ I h) fun v s1 zq=>?_
 obtain ⟨x,H1,I1,r1,q1⟩:=zq
 obtain ⟨a,e,⟨xs,hq⟩,q⟩:=q1
 subst e
 cases r1
 obtain ⟨its,rv,p,hz⟩:=I1.tuple hq
 refine wpAny_pyIter_tuple (p) ?_
 refine ⟨s1.heap.objs.size,[s1.heap.objs.size],_,_,H1,rfl,I1.kept fun b o e=>Heap.get?_push_of_some _ e,turn_tuple a _,⟨_,Heap.get?_push_size _ rfl,rfl,rfl⟩,fun b hb=>?_,q⟩
 have e:b=s1.heap.objs.size:=by simpa using hb
 subst e
 exact I1.fpOk (Nat.le_refl _) (I1.hok.fresh (Nat.le_refl _))
theorem range_it {lo hi:Int} (I:Inv X pins σ H s) (h1 : -(2 ^ 62)<=lo) (h2:lo < 2 ^ 62) (h3 : -(2 ^ 62)<=hi) (h4:hi < 2 ^ 62)
  (q:R (Itr lo (hi - lo).toNat) H):wpAny (model X.prog X.w) X.A (pyIter (.ref s.heap.objs.size)) (PIE X pins σ tg R) E { s with heap:=s.heap.push { cls:=.type "range",data:=.fields #[.int lo t,.int hi u,.int 1 v] },toks:=tk }:=by
 refine wpAny_pyIter_range (IsRange.new ..) (small_one h1 h2 h3 h4) ?_
 have I1:Inv X pins σ H { s with heap:=s.heap.push { cls:=.type "range",data:=.fields #[.int lo t,.int hi u,.int 1 v] },toks:=tk }:=I.kept fun b o e=>Heap.get?_push_of_some _ e
 refine ⟨(s.heap.push { cls:=.type "range",data:=.fields #[.int lo t,.int hi u,.int 1 v] }).objs.size,[(s.heap.push { cls:=.type "range",data:=.fields #[.int lo t,.int hi u,.int 1 v] }).objs.size],_,_,H,rfl,
  I1.kept fun b o e=>Heap.get?_push_of_some _ e,turn_range _ lo (hi - lo).toNat,?_,fun b hb=>?_,q⟩
 · have e1 : lo + ((0 : Nat) : Int) * 1 = lo := by simp
   have e2:(((hi - lo).toNat:Nat):Int) - ((0:Nat):Int)=Builtin.Range.rangeSize lo hi 1:=by rw [rangeSize_one]; split <;> lia
   rw [e1,e2]
   exact Heap.get?_push_size _ rfl
 · have e : b = (s.heap.push { cls := .type "range", data := .fields #[.int lo t, .int hi u, .int 1 v] }).objs.size := by simpa using hb
   subst e
   exact I1.fpOk (Nat.le_refl _) (I1.hok.fresh (Nat.le_refl _))
def iRng1 (ta:TA):TI:=fun σ H R=>ta σ H fun vs H1=>∃ j:Int,vs=[.int j]/\-(2 ^ 62)<=j/\j < 2 ^ 62/\R (Itr 0 j.toNat) H1
theorem pi_range1 (hg:Gl X "range") (hm:X.mg "range" = none) (ha:PA X [a] ta) (hs:starEach [a] X.env=[(false,eval a X.env)]:=by rfl):PI X tg (.Call (.Name "range" p) [a] [] pos) (iRng1 ta):=by
 intro pins s σ H R I h
 refine Call_ (kC I hg hm boot_range (PyProof.Rows.callWith_type1 (thn (ha pos pins s σ H _ I h) fun us s1 zq=>?_) hs rfl))
 obtain ⟨vs,H1,I1,r1,q1⟩:=zq
 obtain ⟨j,e,q1,q2,q⟩:=q1
 subst e
 cases r1 with
 | cons r rr =>
   cases rr
   obtain ⟨t,rfl⟩:=r
   exact call_range_1 (range_it I1 (by lia) (by lia) q1 q2 (by simpa using q))
def tFor (wi:TI) (g:TG) (tb:TS):TS:=fun D σ H=>wi σ H fun J H1=>∃ W:Nat->Nat->St->Hp->Prop,(∃ m,W 0 m σ H1)/\∀ i m σ H,W i m σ H →
 (J.stop i H/\D.nx σ H) \/ (J.go i H/\∃ N:St->Hp->Prop,(∀ σ' H',N σ' H'->∃ m',m' < m/\W (i+1) m' σ' H')/\∀ x H',J.yld i H x H'->g x σ H' fun σ2 H2=>tb { D with nx:=N,ct:=N,bk:=D.nx } σ2 H2)
noncomputable def pinsAt (fp:List Addr) (h:Heap):List (Addr×Obj):=fp.filterMap fun b=>(h.get? b).map fun o=>(b,o)
theorem yP (hb:b∈fp) (e:h.get? b=some o):(b,o)∈pinsAt fp h:=List.mem_filterMap.mpr ⟨b,hb,by rw [e]; rfl⟩
theorem of_pinsAt (hp:p∈pinsAt fp h):p.1∈fp/\h.get? p.1=some p.2:=by
 obtain ⟨b,hb,e⟩:=List.mem_filterMap.mp hp
 cases q:h.get? b with
 | none=>rw [q] at e; cases e
 | some o =>
   rw [q] at e
   have e':=Option.some.inj e
   subst e'
   exact ⟨hb,q⟩
theorem Inv.pinned (I:Inv X pins σ H s) (hf:∀ b∈fp,FpOk X pins H b) (ho:∀ b∈fp,∃ o,s.heap.get? b=some o/\∀ v,o.data≠.cell v):Inv X (pins++pinsAt fp s.heap) σ H s :=
 I.pins_of fun p hp=>(List.mem_append.mp hp).elim (fun z=>I.pin p (List.mem_append_right _ z)) fun z=>by
  obtain ⟨hb,e⟩:=of_pinsAt z
  obtain ⟨f0,f1,f2,_⟩:=hf p.1 hb
  obtain ⟨o,e',d⟩:=ho p.1 hb
  rw [e] at e'; cases e'
  exact ⟨e,f0,f1,f2,d⟩
theorem Inv.unpinned (I:Inv X (pins++pl) σ H s):Inv X pins σ H s:=I.pins_of fun p hp=>I.pin p (List.mem_append_right _ (List.mem_append_left _ hp))
theorem ps_for {iter:Expr} (hp:PassesOwn (model X.prog X.w) X.A X.env X.xe) (hc:X.calm=true) (hi:PI X tg iter wi) (hg:PG X tg g) (hb:PSs X body tb)
  (hs:∀ x,foldedSetIterable iter X.env x=pure x:=by intro _; rfl):PS X (.For tg iter body [] pos) (tFor wi g tb):=by
 intro pins s σ H D I h
 refine wpAny_For (thn (hi pins s σ H _ I h) fun v s1 h1=>thn h1 fun itv s2 h2=>?_) hs
 obtain ⟨it,fp,tn,J,H2,e,I2,T,st2,f2,W,⟨m0,w0⟩,turn⟩:=h2
 subst e
 have stat:∀ {H':Hp},(∀ b∈fp,H' b=none)->∀ b∈fp,FpOk X pins H' b:=fun hn b hb=>⟨hn b hb,(f2 b hb).2⟩
 refine codeAny_forLoop_any (fun n s'=>∃ i σ' H',Inv X pins σ' H' s'/\tn i s'.heap/\(∀ b∈fp,H' b=none)/\W i n σ' H') ?_ m0 ⟨0,σ,H2,I2,st2,fun b hb=>(f2 b hb).1,w0⟩
 rintro n s3 ⟨i,σ3,H3,I3,st3,fr3,w3⟩
 rcases turn i n σ3 H3 w3 with ⟨stop,qn⟩ | ⟨go,N,hN,step⟩
 · refine wpAny_passesOwn hp (thn (T.done X rfl rfl rfl hc i pins s3 σ3 H3 X.xe I3 (stat fr3) st3 stop) fun r s4 zq => ?_)
   obtain ⟨hr,I4⟩:=zq
   subst hr
   exact wpAny_execs_nil ⟨σ3,H3,I4,qn⟩
 · refine wpAny_passesOwn hp (thn (T.item X rfl rfl rfl hc i pins s3 σ3 H3 X.xe I3 (stat fr3) st3 go) fun r s4 zq => ?_)
   obtain ⟨u,hr,h4⟩:=zq
   subst hr
   refine wpAny_passesOwn hp (thn h4 fun _ s5 zq=>?_)
   obtain ⟨x,H5,I5,r5,y5,st5,fr5⟩:=zq
   have I5':=I5.pinned (stat fr5) (T.obj _ _ st5)
   refine wpAny_passesOwn hp (thn (hg _ s5 σ3 H5 x u _ I5' r5 (step x H5 y5)) fun _ s6 zq=>?_)
   obtain ⟨σ6,H6,I6,q6⟩:=zq
   refine wpAny_passesOwn hp (thn (hb _ s6 σ6 H6 _ I6 q6) fun f s7 q7=>?_)
   have again:∀ {σ7:St} {H7:Hp},Inv X (pins++pinsAt fp s5.heap) σ7 H7 s7->N σ7 H7->∃ m,m < n/\∃ i σ' H',Inv X pins σ' H' s7/\tn i s7.heap/\(∀ b∈fp,H' b=none)/\W i m σ' H':=fun {σ7 H7} I7 n7=>by
    obtain ⟨m',hm,w7⟩:=hN σ7 H7 n7
    refine ⟨m',hm,i+1,σ7,H7,I7.unpinned,T.keep _ _ _ st5 fun b hb o e=>(I7.pin (b,o) (List.mem_append_right _ (List.mem_append_right _ (yP hb e)))).1,fun b hb=>?_,w7⟩
    obtain ⟨o,e,d⟩:=T.obj _ _ st5 b hb
    exact (I7.pin (b,o) (List.mem_append_right _ (List.mem_append_right _ (yP hb e)))).2.1
   cases f with
   | next=>obtain ⟨σ7,H7,I7,n7⟩:=q7; exact again I7 n7
   | cont=>obtain ⟨σ7,H7,I7,n7⟩:=q7; exact again I7 n7
   | brk=>obtain ⟨σ7,H7,I7,q7⟩:=q7; exact ⟨σ7,H7,I7.unpinned,q7⟩
   | ret v=>obtain ⟨x7,σ7,H7,I7,r7,q7⟩:=q7; exact ⟨x7,σ7,H7,I7.unpinned,r7,q7⟩
end
abbrev R2:=V->V->Hp->VK->Prop
def OpR (X:Cx) (f:Value->Value->Sem Value) (r:R2):Prop :=
 ∀ (pins:List (Addr×Obj)) (s:Shared) (σ : St) (H:Hp) (x y:V) (v u:Value) (Q:VK),Inv X pins σ H s->RelV x v->RelV y u->r x y H Q →
  wpAny (model X.prog X.w) X.A (f v u) (EP X pins σ Q) X.xe s
def UnR (X:Cx) (f:Value->Sem Value) (r:V->Hp->VK->Prop):Prop :=
 ∀ (pins:List (Addr×Obj)) (s:Shared) (σ : St) (H:Hp) (x:V) (v:Value) (Q:VK),Inv X pins σ H s->RelV x v->r x H Q →
  wpAny (model X.prog X.w) X.A (f v) (EP X pins σ Q) X.xe s
def CallR (X:Cx) (f:Value) (r:List V->Hp->VK->Prop):Prop :=
 ∀ (pins:List (Addr×Obj)) (s:Shared) (σ : St) (H:Hp) (xs:List V) (us:List Value) (Q:VK),Inv X pins σ H s->Vals xs us->r xs H Q →
  wpAny (model X.prog X.w) X.A (call f us) (EP X pins σ Q) X.xe s
def TruR (X:Cx) (r:V->Hp->(Bool->Hp->Prop)->Prop):Prop :=
 ∀ (pins:List (Addr×Obj)) (s:Shared) (σ : St) (H:Hp) (x:V) (v:Value) (Q:Bool->Hp->Prop),Inv X pins σ H s->RelV x v->r x H Q →
  wpAny (model X.prog X.w) X.A (truthy v) (TP X pins σ Q) X.xe s
def tOp (r:R2) (ta tb:TE):TE:=fun σ H Q=>ta σ H fun x H1=>tb σ H1 fun y H2=>r x y H2 Q
def tUn (r:V->Hp->VK->Prop) (ta:TE):TE:=fun σ H Q=>ta σ H fun x H1=>r x H1 Q
noncomputable def rI (C:Int->Int->Prop) (g:Int->Int->V):R2:=fun x y H Q=>∃ i j,x = .int i/\y = .int j/\C i j/\Q (g i j) H
noncomputable def rI0 (g:Int->Int->V):R2:=fun x y H Q=>∃ i j,x = .int i/\y = .int j/\Q (g i j) H
def rU (g:Int->V):V->Hp->VK->Prop:=fun x H Q=>∃ i,x = .int i/\Q (g i) H
section
theorem binT (ha:PE X a ta) (hb:PE X b tb) {R:V->V->Hp->Prop} (I:Inv X pins σ H s)
  (h:ta σ H fun x H1=>tb σ H1 fun y H2=>R x y H2) {f:Value->Value->Sem Value}
  (hf:∀ v u s2 x y H2,Inv X pins σ H2 s2->RelV x v->RelV y u->R x y H2->wpAny (model X.prog X.w) X.A (f v u) Q X.xe s2) :
  wpAny (model X.prog X.w) X.A (eval a X.env) (fun v s₁=>wpAny (model X.prog X.w) X.A (eval b X.env) (fun u s₂=>wpAny (model X.prog X.w) X.A (f v u) Q X.xe s₂) X.xe s₁) X.xe s:=by
 refine thn (ha pins s σ H _ I h) fun v s1 zq=>?_
 obtain ⟨x,H1,I1,r1,q1⟩:=zq
 refine thn (hb pins s1 σ H1 _ I1 q1) fun u s2 zq=>?_
 obtain ⟨y,H2,I2,r2,q2⟩:=zq
 exact hf v u s2 x y H2 I2 r1 r2 q2
theorem pe_op (ho:OpR X (binaryOp op) r) (ha:PE X a ta) (hb:PE X b tb):PE X (.BinOp a op b pos) (tOp r ta tb):=by
 intro pins s σ H Q I h
 exact wpAny_BinOp (binT ha hb I h fun v u s2 x y H2 I2 rx ry q=>ho pins s2 σ H2 x y v u Q I2 rx ry q)
theorem pe_un (ho:UnR X (unaryOp op) r) (ha:PE X a ta):PE X (.UnaryOp op a pos) (tUn r ta):=by
 intro pins s σ H Q I h
 exact UnaryOp_ (thn (ha pins s σ H _ I h) fun v s1 ⟨x,H1,I1,r1,q1⟩=>ho pins s1 σ H1 x v Q I1 r1 q1)
theorem opI {g:Int->Int->Int}
  (rule:∀ i j t u s Q E,C i j->Q (.int (g i j) s.toks) { s with toks:=s.toks+1 }->wpAny (model X.prog X.w) X.A (f (.int i t) (.int j u)) Q E s) :
  OpR X f (rI C fun i j=>.int (g i j)):=by
 intro pins s σ H x y v u Q I rx ry h
 obtain ⟨i,j,rfl,rfl,hc,q⟩:=h
 obtain ⟨t,rfl⟩:=rx
 obtain ⟨t',rfl⟩:=ry
 exact rule i j t t' s _ _ hc ⟨.int (g i j),H,I.tok _,⟨_,rfl⟩,q⟩
theorem opI0 {g:Int->Int->Int}
  (rule:∀ i j t u s Q E,Q (.int (g i j) s.toks) { s with toks:=s.toks+1 }->wpAny (model X.prog X.w) X.A (f (.int i t) (.int j u)) Q E s) :
  OpR X f (rI0 fun i j=>.int (g i j)):=by
 intro pins s σ H x y v u Q I rx ry h
 obtain ⟨i,j,rfl,rfl,q⟩:=h
 obtain ⟨t,rfl⟩:=rx
 obtain ⟨t',rfl⟩:=ry
 exact rule i j t t' s _ _ ⟨.int (g i j),H,I.tok _,⟨_,rfl⟩,q⟩
theorem opB0 {g:Int->Int->Bool}
  (rule:∀ i j t u s Q E,Q (.bool (g i j)) s->wpAny (model X.prog X.w) X.A (f (.int i t) (.int j u)) Q E s) :
  OpR X f (rI0 fun i j=>.bl (g i j)):=by
 intro pins s σ H x y v u Q I rx ry h
 obtain ⟨i,j,rfl,rfl,q⟩:=h
 obtain ⟨t,rfl⟩:=rx
 obtain ⟨t',rfl⟩:=ry
 exact rule i j t t' s _ _ ⟨.bl (g i j),H,I,rfl,q⟩
def CMul (i j:Int):Prop:=(-(2 ^ 64) < i/\i < 2 ^ 64) \/ (-(2 ^ 64) < j/\j < 2 ^ 64)
theorem CMul.ok (h:CMul i j):IntMulOk i j:=by
 rcases h with ⟨h1,h2⟩ | ⟨h1,h2⟩
 · exact .of_left (intBits_le_64 h1 h2)
 · exact .of_right (intBits_le_64 h1 h2)
theorem op_add:OpR X (binaryOp .Add) (rI0 fun i j=>.int (i+j)):=opI0 fun _ _ _ _ _ _ _ q=>add_int q
theorem op_sub:OpR X (binaryOp .Sub) (rI0 fun i j=>.int (i - j)):=opI0 fun _ _ _ _ _ _ _ q=>sub_int q
theorem op_mod:OpR X (binaryOp .Mod) (rI (fun _ j=>0 < j) fun i j=>.int (i % j)):=opI fun i j _ _ _ _ _ hc q=>by
 exact mod_int' (by lia) (by rw [Int.fmod_eq_emod_of_nonneg i (by lia)]; exact q)
theorem op_or:OpR X (binaryOp .BitOr) (rI0 fun i j=>.int (Builtin.bitOr i j)):=opI0 fun _ _ _ _ _ _ _ q=>or_int q
theorem unI {g:Int->Int}
  (rule:∀ i t s Q E,Q (.int (g i) s.toks) { s with toks:=s.toks+1 }->wpAny (model X.prog X.w) X.A (f (.int i t)) Q E s) :
  UnR X f (rU fun i=>.int (g i)):=by
 intro pins s σ H x v Q I rx h
 obtain ⟨i,rfl,q⟩:=h
 obtain ⟨t,rfl⟩:=rx
 exact rule i t s _ _ ⟨.int (g i),H,I.tok _,⟨_,rfl⟩,q⟩
theorem un_neg:UnR X (unaryOp .USub) (rU fun i=>.int (-i)):=unI fun _ _ _ _ _ q=>neg_int q
end
section
variable {a b c:Expr} {ta tb tc:TE}
theorem fin_bl (I:Inv X pins σ H s) (q:Q (.bl k) H) (e:k=k'):EP X pins σ Q (.bool k') s:=by
 subst e
 exact ⟨.bl k,H,I,rfl,q⟩
theorem op_lt:OpR X (compareOp .Lt) (rI0 fun i j=>.bl (decide (i < j))):=opB0 fun _ _ _ _ _ _ _ q=>lt_int q
theorem op_le:OpR X (compareOp .LtE) (rI0 fun i j=>.bl (decide (i<=j))):=opB0 fun _ _ _ _ _ _ _ q=>le_int q
theorem op_gt:OpR X (compareOp .Gt) (rI0 fun i j=>.bl (decide (j < i))):=opB0 fun _ _ _ _ _ _ _ q=>gt_int q
theorem op_ge:OpR X (compareOp .GtE) (rI0 fun i j=>.bl (decide (j<=i))):=opB0 fun _ _ _ _ _ _ _ q=>ge_int q
theorem op_isN:OpR X (compareOp .Is) (fun x y H Q=>y = .non/\Q (.bl (decide (x = .non))) H):=by
 intro pins s σ H x y v u Q I rx ry h
 obtain ⟨rfl,q⟩:=h
 cases ry
 refine is_none_gen (fin_bl I q ?_)
 cases x <;> first
  | (cases rx; rfl)
  | (obtain ⟨t,rfl⟩:=rx; rfl)
theorem OpR.or (h:OpR X f r) (h':OpR X f r'):OpR X f (fun x y H Q=>r x y H Q \/ r' x y H Q):=by
 intro pins s σ H x y v u Q I rx ry q
 rcases q with q | q
 · exact h pins s σ H x y v u Q I rx ry q
 · exact h' pins s σ H x y v u Q I rx ry q
theorem nomark b (h:op≠.In:=by decide) (h2:op≠.NotIn:=by decide):behindInMarks op b=false:=by
 have e1:(op == CmpOp.In)=false:=by cases op <;> first | rfl | exact absurd rfl h
 have e2:(op == CmpOp.NotIn)=false:=by cases op <;> first | rfl | exact absurd rfl h2
 cases b <;> simp [behindInMarks,e1,e2]
theorem pe_cmpR (ho:OpR X (compareOp op) r) (ha:PE X a ta) (hb:PE X b tb) (hm:behindInMarks op b=false):PE X (.Compare a [op] [b] pos) (tOp r ta tb):=by
 intro pins s σ H Q I h
 exact wpAny_Compare1 (binT ha hb I h fun v u s2 x y H2 I2 rx ry q=>ho pins s2 σ H2 x y v u Q I2 rx ry q) hm
def tTest (t:TE):TT:=fun σ H Q=>t σ H fun x H'=>∃ k,x = .bl k/\Q k H'
theorem pt_cmpR (ho:OpR X (compareOp op) r) (ha:PE X a ta) (hb:PE X b tb) (hm:behindInMarks op b=false):PT X (.Compare a [op] [b] pos) (tTest (tOp r ta tb)):=by
 intro pins s σ H Q I h
 refine wpAny_isTrue_Compare1 (thn (ha pins s σ H _ I h) fun v s1 ⟨x,H1,I1,r1,q1⟩=>thn (hb pins s1 σ H1 _ I1 q1) fun u s2 ⟨y,H2,I2,r2,q2⟩ =>
  thn (ho pins s2 σ H2 x y v u _ I2 r1 r2 q2) fun c s3 ⟨z,H3,I3,r3,k,e,q3⟩=>?_) hm
 subst e
 cases r3
 exact wpAny_truthy_bool ⟨H3,I3,q3⟩
def TruV (K:PySem.W.Frag) (x:V) (H:Hp) (k:Bool):Prop :=
 match x with
 | .non=>k=false
 | .bl b=>k=b
 | .int i=>k=(i != 0)
 | .str y=>y.length<=sizeLine/\k=((y.length:Int) != 0)
 | .byt y=>y.size<=sizeLine/\k=((y.size:Int) != 0)
 | .ref p=>(∃ xs,SqL K H p xs/\k = !xs.isEmpty) \/ (∃ xs,SqT K H p xs/\k = !xs.isEmpty) \/ ∃ kvs,H p=some (.dK kvs)/\k = !kvs.isEmpty
 | _=>False
theorem isEmpty_kv (r:KV kvs vs):(!vs.isEmpty) = !kvs.isEmpty:=by
 cases r <;> rfl
theorem isEmpty_of (r:Vals xs its):(!its.toArray.isEmpty) = !xs.isEmpty:=by
 cases r <;> simp
theorem line63:(sizeLine:Nat) < 2 ^ 63:=by rw [sizeLine_eq]; decide
theorem tru_ok:TruR X (fun x H Q=>∃ k,TruV X.K x H k/\Q k H):=by
 intro pins s σ H x v Q I rx h
 obtain ⟨k,e,q⟩:=h
 have hs:=sizeLine_eq
 cases x with
 | non =>
   cases rx
   have e':=e
   subst e'
   exact truthy_none ⟨H,I,q⟩
 | bl b =>
   cases rx
   have e':=e
   subst e'
   exact wpAny_truthy_bool ⟨H,I,q⟩
 | int i =>
   obtain ⟨t,rfl⟩:=rx
   have e':=e
   subst e'
   exact PySem.P.truthy_int ⟨H,I,q⟩
 | str y =>
   obtain ⟨t,rfl⟩:=rx
   obtain ⟨hy,e'⟩:=e
   subst e'
   exact PySem.P.truthy_str (by lia) ⟨H,I.tok _,q⟩
 | byt y =>
   obtain ⟨t,rfl⟩:=rx
   obtain ⟨hy,e'⟩:=e
   subst e'
   exact PySem.W.truthy_bytes (by lia) ⟨H,I.tok _,q⟩
 | ref p =>
   cases rx
   have e':=e
   rcases e' with ⟨xs,hx,e'⟩ | ⟨xs,hx,e'⟩ | ⟨kvs,hx,e'⟩
   · subst e'
     obtain ⟨its,r,pl,hz⟩:=I.list hx
     have hlen:=r.length
     exact wpAny_truthy_list pl.isList (by simp [List.size_toArray]; lia) ⟨H,I.tok _,by rw [isEmpty_of r]; exact q⟩
   · subst e'
     obtain ⟨its,r,pl,hz⟩:=I.tuple hx
     have hlen:=r.length
     exact truthy_tuple pl (by simp [List.size_toArray]; lia) ⟨H,I.tok _,by rw [isEmpty_of r]; exact q⟩
   · subst e'
     obtain ⟨hz,hS,vs,r,m⟩:=I.hok p _ hx
     have hlen:=Paired.length r
     exact wpAny_truthy_dict hS m (by lia) ⟨H,I.tok _,by rw [isEmpty_kv r]; exact q⟩
 | _=>exact (e).elim
theorem pt_truth (ha:PE X a ta) (he:∀ whole,isTrue a X.env whole=(do let v <- whole; standAt a.pos; holding [v] (truthy v))) :
  PT X a (fun σ H Q=>ta σ H fun x H'=>∃ k,TruV X.K x H' k/\Q k H'):=by
 intro pins s σ H Q I h
 exact isTrue_plain (thn (ha pins s σ H _ I h) fun v s1 ⟨x,H1,I1,r1,q1⟩=>tru_ok pins s1 σ H1 x v Q I1 r1 q1) (he _)
theorem op_add_str:OpR X (binaryOp .Add) (fun x y H Q=>∃ i j,x = .str i/\y = .str j/\i.length+j.length<=sizeLine/\Q (.str (i++j)) H):=by
 intro pins s σ H x y v u Q I rx ry h
 obtain ⟨i,j,rfl,rfl,hz,q⟩:=h
 obtain ⟨t,rfl⟩:=rx
 obtain ⟨t',rfl⟩:=ry
 exact add_str (fun t' tk=>⟨.str (i++j),H,I.tok _,⟨_,rfl⟩,q⟩) hz
theorem vals1 (r:Vals [x] us):∃ u,us=[u]/\RelV x u:=by
 cases r with
 | cons r1 r2=>cases r2; exact ⟨_,rfl,r1⟩
theorem vals2 (r:Vals [x,y] us):∃ u w',us=[u,w']/\RelV x u/\RelV y w':=by
 cases r with
 | cons r1 r2 =>
   cases r2 with
   | cons r3 r4=>cases r4; exact ⟨_,_,rfl,r1,r3⟩
end
structure ObjM (h:Heap) (x dx C:Addr) (mA:Str->Option Value):Prop where
 obj:h.get? x=some (PySem.W.instObj C dx)
 ns:h.Ns1 dx mA
 ne:dx≠x
theorem lookIn_ns {h:Heap} (n:h.Ns1 dx mA):∃ od,h.get? dx=some od/\∀ name,PySem.W.lookIn name od=some (mA name):=by
 obtain ⟨o,es,ep,ho,hd,hk,_,hm⟩:=n
 refine ⟨o,ho,fun name=>?_⟩
 have e:=hm name
 unfold nsFind findBy at e
 rw [<- Array.find?_toList] at e
 unfold PySem.W.lookIn
 rw [hd]
 dsimp only
 split
 · rename_i y q
   rw [q] at e
   exact congrArg some e
 · rename_i q
   rw [q] at e
   have a:es.toList.any (·.refKey)=false:=by
    rw [List.any_eq_false]
    intro y hy
    obtain ⟨z,t,hkey⟩:=hk y (Array.mem_toList_iff.mp hy)
    simp [DictEntry.refKey,hkey]
   have a' : ¬ es.toList.any (·.refKey)=true:=by rw [a]; exact Bool.false_ne_true
   rw [if_neg a']
   exact congrArg some e
theorem ObjM.look (I:ObjM h x dx C mA):∃ od,PySem.W.InstAt h x (PySem.W.instObj C dx) C (some od)/\∀ name,PySem.W.lookIn name od=some (mA name) :=
 let ⟨od,ho,hl⟩:=lookIn_ns I.ns
 ⟨od,⟨I.obj,rfl,rfl,ho⟩,hl⟩
section
variable {K:PySem.W.Frag}
end
theorem RelO.some_of (r:RelO (some v) o):∃ u,o=some u/\RelV v u:=by
 cases o with
 | none=>exact (r).elim
 | some u=>exact ⟨u,rfl,r⟩
section
theorem ins_get (hok:HOk P w H h) (e:H a=some (.ins C dx fs)):∃ mA,ObjM h a dx C mA/\(∀ f,RelO (fs.lookup f) (mA f))/\PySem.Within mA (fs.map (·.1))/\fs.length<=1000/\H dx=some (.own a):=by
 obtain ⟨d,z,ne,ob,mA,n,r,q⟩:=(hok a _ e)
 exact ⟨mA,⟨ob,n,ne⟩,r,q,z,d⟩
end
structure Cls (K:PySem.W.Frag) (C:Addr):Prop where
 pg:PySem.W.plainGet K C Str.empty=true
 hd:PySem.W.hasDictIn K C=true
 po:PySem.W.plainOver K C=true
 sa:PySem.W.findIn K (.ref C) "__setattr__" = some (some (.builtin "object.__setattr__"))
theorem Cls.get {K:PySem.W.Frag} (c:Cls K C) f:PySem.W.plainGet K C f=true:=c.pg
def NoAttr (K:PySem.W.Frag) (C:Addr) (f:Str):Prop:=PySem.W.findIn K (.ref C) f=some none
section
end
section
end
section
variable {H:Hp}
inductive TyOf (K:PySem.W.Frag) (H:Hp):V->Value->Prop where
 | non:TyOf K H .non (.type "NoneType")
 | bl (x:Bool):TyOf K H (.bl x) (.type "bool")
 | int (i:Int):TyOf K H (.int i) (.type "int")
 | str (x:Str):TyOf K H (.str x) (.type "str")
 | flt (x:UInt64):TyOf K H (.flt x) (.type "float")
 | lst {a:Addr} {xs:List V} (e:H a=some (.lst xs)):TyOf K H (.ref a) (.type "list")
 | frz {a:Addr} {o:Obj} {xs:List V} (e:H a=some (.frz o (.lst xs))):TyOf K H (.ref a) (.type "list")
 | tup {a:Addr} {xs:List V} (e:H a=some (.tup xs)):TyOf K H (.ref a) (.type "tuple")
 | dK {a:Addr} {kvs:List (Key×V)} (e:H a=some (.dK kvs)):TyOf K H (.ref a) (.type "dict")
 | dT {a:Addr} {kvs:List (List Key×V)} (e:H a=some (.dT kvs)):TyOf K H (.ref a) (.type "dict")
 | ins {a C dx:Addr} {fs:List (Str×V)} (e:H a=some (.ins C dx fs)) (cl:Cls K C) (ha:PySem.W.findIn K (.ref C) "__class__" = some (some (.builtin "object.__class__")))
    (hn:PySem.W.specialIn K (.builtin "object.__class__") "__get__" = some (some (.builtin "getset_descriptor.__get__"))) (htk:PySem.W.takesIn K (.builtin "object.__class__")=some true)
    (hm:PySem.W.mroIn K C (.type "object")=some true):TyOf K H (.ref a) (.ref C)
theorem isinst_ok (I:Inv X pins σ H s) (rx:RelV x u) (ty:TyOf X.K H x t) (e:PySem.W.kitOne X.K t c=some b) (h:∀ tk,Q (.bool b) { s with toks:=tk }) :
  wpAny (model X.prog X.w) A (call (.builtin "isinstance") [u,c]) Q E s:=by
 cases ty with
 | non=>cases (rx); exact PySem.W.kia_one PySem.W.kitx_none I.kIn True.intro e (fun z=>nomatch z) h
 | bl y=>cases (rx); exact PySem.W.kia_one PySem.W.kitx_bool I.kIn True.intro e (fun z=>nomatch z) h
 | int i=>obtain ⟨t,q⟩:=(rx); cases q; exact PySem.W.kia_one PySem.W.kitx_int I.kIn True.intro e (fun z=>nomatch z) h
 | str y=>obtain ⟨t,q⟩:=(rx); cases q; exact PySem.W.kia_one PySem.W.kitx_str I.kIn True.intro e (fun z=>nomatch z) h
 | flt y=>obtain ⟨t,q⟩:=(rx); cases q; exact PySem.W.kia_one PySem.W.kitx_float I.kIn True.intro e (fun z=>nomatch z) h
 | @lst a xs ea =>
   cases (rx)
   obtain ⟨_,_,n,_,h1⟩:=(I.hok a _ ea)
   exact PySem.W.kia_one PySem.W.kitx_list I.kIn ⟨_,h1,rfl⟩ e (fun z=>nomatch z) h
 | @frz a ob xs ea =>
   cases (rx)
   obtain ⟨_,_,_,n,_,h1⟩:=(I.hok a _ ea)
   exact PySem.W.kia_one PySem.W.kitx_list I.kIn ⟨_,h1,rfl⟩ e (fun z=>nomatch z) h
 | @tup a xs ea =>
   cases (rx)
   obtain ⟨_,_,_,p⟩:=(I.hok a _ ea)
   obtain ⟨o,h1,h2,_⟩:=p
   exact PySem.W.kia_one PySem.W.kitx_tuple I.kIn ⟨o,h1,h2⟩ e (fun z=>nomatch z) h
 | @dK a kvs ea =>
   cases (rx)
   obtain ⟨_,_,vs,_,p⟩:=(I.hok a _ ea)
   obtain ⟨o,es,ep,h1,h2,_⟩:=p
   exact PySem.W.kia_one PySem.W.kitx_dict I.kIn ⟨o,h1,h2.1⟩ e (fun z=>nomatch z) h
 | @dT a kvs ea =>
   cases (rx)
   obtain ⟨_,_,xs,_,o,es,ep,h1,h2,_⟩:=(I.hok a _ ea)
   exact PySem.W.kia_one PySem.W.kitx_dict I.kIn ⟨o,h1,h2.1⟩ e (fun z=>nomatch z) h
 | @ins a C dx fs ea cl ha hn htk hm =>
   cases (rx)
   obtain ⟨mA,O,_⟩:=ins_get I.hok ea
   obtain ⟨od,J,_⟩:=O.look
   exact PySem.W.kia_one (PySem.W.kitx_own (cl.get _) cl.hd ha hn htk hm) I.kIn J e (fun z=>nomatch z) h
end
structure Room (k:Nat) (A:Around):Prop where
 hd:A.handled=none
 dp:A.depth+3 * k+5 < recursionLimit
 un:A.units+16 * k+200 < cLine
theorem Room.mono (r:Room k A) (h:j<=k):Room j A:=⟨r.hd,by have:=r.dp; lia,by have:=r.un; lia⟩
theorem Room.deeper (r:Room (k+1) A) env:Room k (A.deeper env) :=
 ⟨r.hd,by have:=r.dp; show A.depth+1+3 * k+5 < _; omega,by have:=r.un; show A.units+3+16 * k+200 < _; omega⟩
theorem Room.depth (r:Room k A):A.depth < recursionLimit:=by have:=r.dp; lia
theorem Room.units (r:Room k A):A.units+64 < cLine:=by have:=r.un; lia
def tNil:TA:=fun _ H Q=>Q [] H
def tCons (ta:TE) (tr:TA):TA:=fun σ H Q=>ta σ H fun x H1=>tr σ H1 fun xs H2=>Q (x::xs) H2
section
variable {t:TA}
theorem jW:PA X [] tNil:=fun _ _ _ _ H Q I h=>Calls.spliced_nil ⟨[],H,I,.nil,h⟩
theorem qO (ha:PE X e te) (hr:PA X es t) (hs:starEach (e::es) X.env=(false,eval e X.env)::starEach es X.env:=by rfl):PA X (e::es) (tCons te t):=by
 intro pos pins s σ H Q I h
 rw [hs]
 refine Calls.spliced_cons (thn (ha pins s σ H _ I h) fun u s1 zq=>?_)
 obtain ⟨x,H1,I1,r1,q1⟩:=zq
 exact thn (hr pos pins s1 σ H1 _ I1 q1) fun us s2 ⟨xs,H2,I2,r2,q2⟩=>⟨x::xs,H2,I2,.cons r1 r2,q2⟩
def tTup (t:TA):TE:=fun σ H Q=>t σ H fun xs H1=>xs.length<=sizeLine/\∀ p,H1 p=none->Q (.ref p) (upd H1 p (.tup xs))
def tLst (t:TA):TE:=fun σ H Q=>t σ H fun xs H1=>xs.length<=sizeLine/\∀ p,H1 p=none->Q (.ref p) (upd H1 p (.lst xs))
theorem pe_tup {x1} (h:PA X es t):PE X (.Tuple es x1 pos) (tTup t):=by
 intro pins s σ H Q I hq
 refine wpAny_Tuple_spliced (thn (h pos pins s σ H _ I hq) fun us s1 ⟨xs,H1,I1,r,z,q⟩=>⟨by rw [<- r.length]; exact z,?_⟩)
 have hf:=I1.hok.fresh (Nat.le_refl _)
 refine ⟨.ref s1.heap.objs.size,upd H1 s1.heap.objs.size (.tup xs),I1.laid (fun b u e=>Heap.get?_push_of_some _ e) (Nat.le_refl _) ?_,rfl,q _ hf⟩
 exact ⟨z,us,r,⟨_,Heap.get?_push_size _ rfl,rfl,_,rfl⟩⟩
theorem pe_lst (h:PA X es t):PE X (.List es pos) (tLst t):=by
 intro pins s σ H Q I hq
 refine wpAny_List_spliced (thn (h pos pins s σ H _ I hq) fun us s1 ⟨xs,H1,I1,r,z,q⟩=>⟨by rw [<- r.length]; exact z,?_⟩)
 have hf:=I1.hok.fresh (Nat.le_refl _)
 refine ⟨.ref s1.heap.objs.size,upd H1 s1.heap.objs.size (.lst xs),I1.laid (fun b u e=>Heap.get?_push_of_some _ e) (Nat.le_refl _) ?_,rfl,q _ hf⟩
 exact ⟨z,us,0,r,Heap.get?_push_size _ rfl⟩
end
abbrev Sp:=List V->Hp->VK->XK->Prop
abbrev CXT:=List Env->Hp->Shared->XK->Value->Shared->Prop
structure Env0 (P:Program) (w:World) (K:PySem.W.Frag) (mg:Str->Option Value) (base:Heap) (A:Around) (outer:List Env) (s:Shared) (H:Hp):Prop where
 frames:A.frames=some outer
 mod:Mod K mg base
 bs:∀ b o,base.get? b=some o->s.heap.get? b=some o/\H b=none
 bsz:Bsz K mg base s.heap H
 funs:s.heap.FunFrames base outer
 frf:∀ b∈frs outer,H b=none
 hok:HOk P w H s.heap
 bare:AllBare s.gens
def CE (outer:List Env) (P:Program) (w:World) (H:Hp) (s:Shared) (Q:VK) (u:Value) (s':Shared):Prop :=
 ∃ v H',s'.os=s.os/\AllBare s'.gens/\Un (frs outer) [] H H' s.heap s'.heap/\HOk P w H' s'.heap/\RelV v u/\Q v H'
def CR (CX:CXT) (outer:List Env) (P:Program) (w:World) (H:Hp) (s:Shared) (Q:VK) (E:XK) (r:Result) (s':Shared):Prop :=
 match r with
 | .ok (.ret u)=>CE outer P w H s Q u s'
 | .ok _=>False
 | .error e=>CX outer H s E e s'
structure FnOk (P:Program) (w:World) (K:PySem.W.Frag) (mg:Str->Option Value) (base:Heap) (CX:CXT) (k:Nat) (f:Addr) (fd:FuncData) (ps:List Str) (sp:Sp):Prop where
 len:∀ vs H Q E,sp vs H Q E->vs.length=ps.length
 run:∀ (A:Around) (outer:List Env) (s:Shared) (H:Hp) (args:Args) (us:List Value) (vs:List V) (Q:VK) (E:XK),Room k A->Env0 P w K mg base A outer s H->BindsTo s fd args (ps.zip us)->Vals vs us->sp vs H Q E →
  codeAny (model P w) A (.call (.ref f) args) (CR CX outer P w H s Q E) s
theorem FnOk.imp {K:PySem.W.Frag} (F:FnOk P w K mg base CX k f fd ps sp)
  (h:∀ vs H Q E,sp' vs H Q E->sp vs H Q E):FnOk P w K mg base CX k f fd ps sp' :=
 ⟨fun vs H Q E q=>F.len vs H Q E (h _ _ _ _ q),fun A outer s H args us vs Q E hr he hb hv hs=>F.run A outer s H args us vs Q E hr he hb hv (h _ _ _ _ hs)⟩
section
theorem Inv.tabsH (I:Inv X pins σ H s):TabsK X.K X.mg X.base H:=⟨I.ok.bsz.2.bm,fun x c P hx ht=>⟨(I.ok.bsz.2.tab x c P hx ht).1,I.base.tbls _ _ (I.ok.bsz.2.tab x c P hx ht).2⟩⟩
theorem Inv.env0 (I:Inv X pins σ H s):Env0 X.prog X.w X.K X.mg X.base X.A X.stack s H :=
 ⟨I.ok.frames,I.ok.mod,I.bs,⟨Nat.le_trans I.ok.bsz.1 I.sz,I.tabsH⟩,I.stack,I.stkFree,I.hok,I.bare⟩
theorem Inv.after (I:Inv X pins σ H s) (h:CE X.stack X.prog X.w H s Q u s'):EP X pins σ Q u s':=by
 obtain ⟨v,H',os,bare,un,hok,r,q⟩:=h
 obtain ⟨hh,g,d,t,os'⟩:=s'
 obtain rfl:os'=s.os:=os
 exact ⟨v,H',I.call un hok bare (fun b z=>absurd z (by simp)),r,q⟩
end
def tCall (sp:Sp) (dvs:List V) (E:XK) (t:TA):TE:=fun σ H Q=>t σ H fun vs H1=>sp (vs++dvs) H1 Q E
def Binds (K:PySem.W.Frag) (fd:FuncData) (ps:List Str) (ds:List Value):Prop :=
 ∀ (s:Shared) (us:List Value),K.In s.heap->(us++ds).length=ps.length->BindsTo s fd ⟨us,[]⟩ (ps.zip (us++ds))
theorem Binds.all {K:PySem.W.Frag} (h:∀ us,us.length=ps.length->bindArgs fd ⟨us,[]⟩=pure (ps.zip us)):Binds K fd ps []:=fun s us _ hl=>by
 rw [List.append_nil] at hl ⊢
 exact .of_eq (h us hl)
def Passes (CX:CXT) (X:Cx) (E:XK):Prop:=∀ (pins:List (Addr×Obj)) (σ : St) (H:Hp) (s:Shared) (e:Value) (s':Shared),Inv X pins σ H s->CX X.stack H s E e s'->X.xe e s'
section
variable {f C:Addr}
theorem run_fn (F:FnOk X.prog X.w X.K X.mg X.base CX k f fd ps sp) (hr:Room k X.A) (hb:Binds X.K fd ps ds) (hd:Vals dvs ds) (hx:Passes CX X E)
  (I:Inv X pins σ H s) (r:Vals vs us) (h:sp (vs++dvs) H Q E):wpAny (model X.prog X.w) X.A (call (.ref f) us) (EP X pins σ Q) X.xe s:=by
 have r2:=r.append hd
 have hl:(us++ds).length=ps.length:=by rw [<- r2.length]; exact F.len _ _ _ _ h
 refine wpAny_call (codeAny_mono (F.run X.A X.stack s H ⟨us,[]⟩ (us++ds) (vs++dvs) Q E hr I.env0 (hb s us I.kIn hl) r2 h) fun r s' hq=>?_)
 cases r with
 | error e=>exact hx pins σ H s e s' I hq
 | ok fl =>
   cases fl with
   | ret u=>exact I.after hq
   | next=>exact False.elim hq
   | brk=>exact False.elim hq
   | cont=>exact False.elim hq
theorem pe_call (F:FnOk X.prog X.w X.K X.mg X.base CX k f fd ps sp) (hr:Room k X.A) (hg:Gl X x) (hm:X.mg x=some (.ref f)) (hk:PySem.W.keepIn X.K (.ref f)=true) (hb:Binds X.K fd ps ds) (hd:Vals dvs ds) (hx:Passes CX X E)
  (ha:PA X (e::es) t) (hdb:(x == ("__debug__" : Str))=false:=by decide) (he:starEach (e::es) X.env=(false,eval e X.env)::starEach es X.env:=by rfl) (hpl:(backTo pos (starEach es X.env)).any (·.1)=false:=by rfl) :
  PE X (.Call (.Name x p) (e::es) [] pos) (tCall sp dvs E t):=by
 intro pins s σ H Q I h
 refine wpAny_Call_Name_kw (wD I hg hm ?_ hdb)
 refine PySem.W.callWith_K I.ok.mod.kin hk (thn (ha pos pins s σ H _ I h) fun us s1 ⟨vs,H1,I1,r,q⟩=>⟨I1.kIn,?_⟩) he hpl
 exact run_fn F hr hb hd hx I1 r q
end
section
variable {fd:FuncData} {ps ks:List Str} {sp:Sp} {E:XK} {t tk:TA}
end
structure FnScope (N P:List Str) (sc:Scope):Prop where
 kind:sc.kind = .function:=by rfl
 co:sc.isCoroutine=false:=by rfl
 gen:sc.isGenerator=false:=by rfl
 nd:N.Nodup:=by decide +kernel
 pre:N.take P.length=P:=by rfl
 par:∀ x∈P,sc.names.lookup x=some .local \/ sc.names.lookup x=some .cell:=by decide +kernel
 nofree:∀ y∈sc.names,y.2≠.free:=by decide +kernel
theorem bindL_out {kindOf:Str->Option NameKind} : ∀ {binds:List (Str×Value)} {m:Str->Option Value},(∀ v,(x,v) ∉ binds)->bindL kindOf binds m x=m x
 | [],_,_=>rfl
 | (n, v) :: r, m, h => by
   unfold bindL
   rw [bindL_out fun w hw=>h w (List.mem_cons_of_mem _ hw)]
   split
   · have : x ≠ n := by rintro rfl; exact h v List.mem_cons_self
     simp [this]
   · rfl
theorem bindC_out {kindOf:Str->Option NameKind} : ∀ {binds:List (Str×Value)} {m:Str->Option Value},(∀ v,(x,v) ∉ binds)->bindC kindOf binds m x=m x
 | [],_,_=>rfl
 | (n, v) :: r, m, h => by
   unfold bindC
   rw [bindC_out fun w hw=>h w (List.mem_cons_of_mem _ hw)]
   split
   · rfl
   · have : x ≠ n := by rintro rfl; exact h v List.mem_cons_self
     simp [this]
theorem bindL_get {kindOf:Str->Option NameKind} : ∀ {P:List Str} {vs:List Value} {i:Nat} {m:Str->Option Value},P.Nodup->P[i]? = some x->vs[i]? = some v->kindOf x=some .local →
  bindL kindOf (P.zip vs) m x=some v
 | [],_,_,_,_,h,_,_=>by simp at h
 | _::_,[],_,_,_,_,h,_=>by simp at h
 | p :: P, w :: vs, 0, m, nd, h1, h2, hk => by
   simp at h1 h2; subst h1; subst h2
   show bindL kindOf ((p,w)::P.zip vs) m p=_
   unfold bindL
   rw [bindL_out fun v hv=>(List.nodup_cons.mp nd).1 (List.of_mem_zip hv).1,if_pos hk]
   simp
 | p :: P, w :: vs, i + 1, m, nd, h1, h2, hk => by
   show bindL kindOf ((p,w)::P.zip vs) m x=_
   unfold bindL
   exact bindL_get (i:=i) (List.nodup_cons.mp nd).2 (by simpa using h1) (by simpa using h2) hk
theorem bindC_get {kindOf:Str->Option NameKind} : ∀ {P:List Str} {vs:List Value} {i:Nat} {m:Str->Option Value},P.Nodup->P[i]? = some x->vs[i]? = some v->kindOf x≠some .local →
  bindC kindOf (P.zip vs) m x=some v
 | [],_,_,_,_,h,_,_=>by simp at h
 | _::_,[],_,_,_,_,h,_=>by simp at h
 | p :: P, w :: vs, 0, m, nd, h1, h2, hk => by
   simp at h1 h2; subst h1; subst h2
   show bindC kindOf ((p,w)::P.zip vs) m p=_
   unfold bindC
   rw [bindC_out fun v hv=>(List.nodup_cons.mp nd).1 (List.of_mem_zip hv).1,if_neg hk]
   simp
 | p :: P, w :: vs, i + 1, m, nd, h1, h2, hk => by
   show bindC kindOf ((p,w)::P.zip vs) m x=_
   unfold bindC
   exact bindC_get (i:=i) (List.nodup_cons.mp nd).2 (by simpa using h1) (by simpa using h2) hk
noncomputable def start (N:List Str) (vs:List V):St:=vs.map some++List.replicate (N.length - vs.length) none
noncomputable def cxOf (CX:CXT) (P:Program) (w:World) (K:PySem.W.Frag) (mg:Str->Option Value) (base:Heap) (N:List Str) (qual:Str) (scope:Scope) (f:Addr) (cd:Value) (A:Around) (outer:List Env) (s:Shared) (H:Hp) (E:XK):Cx where
 prog:=P
 w:=w
 K:=K
 mg:=mg
 base:=base
 A:=A.deeper (envOfC qual scope s.heap.objs.size f cd)
 N:=N
 s₀:=s
 H₀:=H
 env:=envOfC qual scope s.heap.objs.size f cd
 outer:=outer
 stack:=envOfC qual scope s.heap.objs.size f cd::outer
 ex:=[]
 calm:=true
 fn:=fun _=>true
 pn:=[]
 xe:=fun e s'=>wpAny (model P w) (A.deeper (envOfC qual scope s.heap.objs.size f cd)) (leaving (envOfC qual scope s.heap.objs.size f cd) e) (fun _ s''=>CX outer H s E e s'') (fun e' s''=>CX outer H s E e' s'') s'
theorem cell_has {sc:Scope} (h:sc.names.lookup x=some .cell):∃ c,(cellsFrom n sc.names []).lookup x=some c:=by
 have q:=PySem.W.cellsFrom_some sc.names n [] (.inl h)
 exact Option.isSome_iff_exists.mp q
theorem inv_start {K:PySem.W.Frag}
  (S:FnScope N ps scope) (hd:A.handled=none) (e0:Env0 P w K mg base A outer s H) (hl:vs.length=ps.length) (r:Vals vs us)
  (x:InCallC s s.heap.objs.size (bindL (envOfC qual scope s.heap.objs.size f cd).kindOf (ps.zip us) fun _=>none) (cellsFrom (s.heap.objs.size+1) scope.names []) (bindC (envOfC qual scope s.heap.objs.size f cd).kindOf (ps.zip us) fun _=>none) s1) :
  Inv (cxOf CX P w K mg base N qual scope f cd A outer s H E) [] (start N vs) H s1:=by
 have hpl:ps.length<=N.length:=by have:=congrArg List.length S.pre; rw [List.length_take] at this; lia
 obtain ⟨h1,tk,rfl,hk⟩:=x.done
 have noA:∀ b:Addr,b ∉ (cxOf CX P w K mg base N qual scope f cd A outer s H E).ex:=fun b z=>absurd (show b∈([]:List Addr) from z) (by simp)
 refine ⟨⟨e0.mod,S.kind,rfl,rfl,Nat.le_refl _,fun y z c h1 h2=>?_,fun y hy=>?_,fun y c _ h=>?_,fun _=>hd,Around.frames_deeper e0.frames,.inr ⟨rfl,rfl⟩,fun b z=>absurd z (noA b),e0.bs,e0.bsz,fun b _ _=>noA b,fun b z=>absurd z (noA b),e0.funs,e0.frf⟩,
  rfl,e0.bare,Un.kept hk,⟨_,x.toInCall.ns,fun i y v h1 h2 h3=>?_⟩,fun y c h=>⟨_,x.cell y c h⟩,e0.hok.fresh (Nat.le_refl _),fun y c h=>?_,fun p hp=>absurd (show p∈([]:List (Addr×Obj)) from hp) (by simp),e0.hok.kept hk,?_⟩
 · exact name_of_addr x.apart (PySem.mem_of_lookup h1) (PySem.mem_of_lookup h2)
 · have hy : scope.names.lookup y = some .cell \/ scope.names.lookup y = some .free := hy
   rcases hy with hy | hy
   · exact cell_has hy
   · exact absurd rfl (S.nofree _ (PySem.mem_of_lookup hy))
 · exact Nat.le_of_lt (x.above y c (PySem.mem_of_lookup h))
 · have hi:i < vs.length:=by
    unfold start at h2
    by_cases hi:i < vs.length
    · exact hi
    · rw [List.getElem?_append_right (by simpa using hi)] at h2
      rw [List.getElem?_replicate] at h2
      split at h2 <;> cases h2
   have ha:vs[i]? = some v:=by
    unfold start at h2
    rw [List.getElem?_append_left (by simpa using hi),List.getElem?_map] at h2
    cases e:vs[i]? with
    | none=>rw [e] at h2; cases h2
    | some a=>rw [e] at h2; cases h2; rfl
   obtain ⟨u,hu,rv⟩:=r.get ha
   have hp:ps[i]? = some y:=by
    rw [<- S.pre,List.getElem?_take_of_lt (by lia)]; exact h1
   have ndP:ps.Nodup:=by rw [<- S.pre]; exact S.nd.sublist (List.take_sublist _ _)
   refine ⟨u,rv,?_⟩
   rcases S.par y (List.mem_of_getElem? hp) with k | k
   · exact .inl ⟨k,bindL_get ndP hp hu k⟩
   · obtain ⟨c, e⟩ := cell_has k
     refine .inr ⟨.inl k,c,e,?_⟩
     have q:=x.cell y c e
     rw [bindC_get ndP hp hu (by show scope.names.lookup y≠_; rw [k]; decide)] at q
     exact q
 · exact .inl (e0.hok.fresh (Nat.le_of_lt (x.above y c (PySem.mem_of_lookup h))))
 · unfold start
   show _=N.length
   rw [List.length_append,List.length_map,List.length_replicate]
   lia
theorem fn_of {K:PySem.W.Frag} {dV kV doc pm cdv ct oc:Value}
  (lk:K.lookup f=some ⟨oc,od,.func (PySem.W.fnOf name qual params body scope dV kV doc pm an cdv ct),osl⟩) (hcd:PySem.W.codeIn K cdv qual=true) (S:FnScope N ps scope)
  (len:∀ vs H Q E,sp vs H Q E->vs.length=ps.length)
  (hbody:∀ A outer s H vs Q E,Room k (A.deeper (envOfC qual scope s.heap.objs.size f cdv))->sp vs H Q E →
    ∃ t,PSs (cxOf CX P w K mg base N qual scope f cdv A outer s H E) body t/\t { nx:=fun _ H'=>Q .non H',rt:=Q } (start N vs) H) :
  FnOk P w K mg base CX (k+1) f (PySem.W.fnOf name qual params body scope dV kV doc pm an cdv ct) ps sp:=by
 refine ⟨len,fun A outer s H args us vs Q E hr e0 hb r hsp=>?_⟩
 have hl:=len _ _ _ _ hsp
 have KX:=e0.mod.kin.keeps fun b o e=>(e0.bs b o e).1
 have lim:=e0.mod.nolimit.keeps fun b o e=>(e0.bs b o e).1
 have hkind:∀ y∈ps.zip us,scope.names.lookup y.1=some .local \/ (scope.names.lookup y.1=some .cell/\((cellsFrom (s.heap.objs.size+1) scope.names []).lookup y.1).isSome=true):=fun ⟨n,v⟩ hy=>by
  rcases S.par n (List.of_mem_zip hy).1 with q | q
  · exact .inl q
  · exact .inr ⟨q,PySem.W.cellsFrom_some _ _ _ (.inl q)⟩
 refine codeAny_call_function hr.depth (KX _ _ lk) rfl S.co S.gen rfl (PySem.W.codeRec_of KX hcd) (hb _ _ _ _ ?_)
 refine wpAny_newFunctionEnv_cells S.kind hkind fun env he s1 x=>?_
 subst he
 refine ⟨lim.keeps x.toInCall.keep,codeAny_func ?_⟩
 obtain ⟨t,ht,hq⟩:=hbody A outer s H vs Q E (hr.deeper _) hsp
 have I:Inv (cxOf CX P w K mg base N qual scope f cdv A outer s H E) [] (start N vs) H s1:=inv_start S hr.hd e0 hl r x
 refine wpAny_mono (ht [] s1 (start N vs) H _ I hq) (fun fl s' hs=>?_) fun e s' hs=>hs
 have fin:∀ {σ':St} {H':Hp} {v:V} {u:Value},Inv (cxOf CX P w K mg base N qual scope f cdv A outer s H E) [] σ' H' s'->RelV v u->Q v H'->CE outer P w H s Q u s' :=
  fun {σ' H' v u} J rv q=>⟨v,H',J.os,J.bare,J.base,J.hok,rv,q⟩
 cases fl with
 | ret u =>
   obtain ⟨v,σ',H',J,rv,q⟩:=hs
   exact fin J rv q
 | next =>
   obtain ⟨σ',H',J,q⟩:=hs
   exact fin (v:=V.non) J rfl q
 | brk =>
   obtain ⟨_,_,_,q⟩:=hs
   exact False.elim q
 | cont =>
   obtain ⟨_,_,_,q⟩:=hs
   exact False.elim q
section
variable {t:TA} {id T:String} {r:List V->Hp->VK->Prop}
def tCB (r:List V->Hp->VK->Prop) (t:TA):TE:=fun σ H Q=>t σ H fun vs H1=>r vs H1 Q
theorem yA (hc:CallR X (.builtin id) r) (hg:Gl X x) (hm:X.mg x=none) (hv:bootBuiltins x=some (.builtin id)) (ha:PA X (e::es) t) (hn:x≠"__name__":=by decide) (hdb:(x == ("__debug__" : Str))=false:=by decide)
  (he:starEach (e::es) X.env=(false,eval e X.env)::starEach es X.env:=by rfl) (hpl:(backTo pos (starEach es X.env)).any (·.1)=false:=by rfl):PE X (.Call (.Name x p) (e::es) [] pos) (tCB r t):=by
 intro pins s σ H Q I h
 refine wpAny_Call_Name_kw (kC I hg hm hv ?_ hn hdb)
 exact PyProof.Rows.callWith_builtin1 (thn (ha pos pins s σ H _ I h) fun us s1 ⟨vs,H1,I1,r1,q1⟩=>hc pins s1 σ H1 vs us Q I1 r1 q1) he hpl
theorem pe_callTy (hc:CallR X (.type T) r) (hg:Gl X x) (hm:X.mg x=none) (hv:bootBuiltins x=some (.type T)) (ha:PA X (e::es) t) (hn:x≠"__name__":=by decide) (hdb:(x == ("__debug__" : Str))=false:=by decide)
  (he:starEach (e::es) X.env=(false,eval e X.env)::starEach es X.env:=by rfl) (hpl:(backTo pos (starEach es X.env)).any (·.1)=false:=by rfl):PE X (.Call (.Name x p) (e::es) [] pos) (tCB r t):=by
 intro pins s σ H Q I h
 refine wpAny_Call_Name_kw (kC I hg hm hv ?_ hn hdb)
 exact PyProof.Rows.callWith_type1 (thn (ha pos pins s σ H _ I h) fun us s1 ⟨vs,H1,I1,r1,q1⟩=>hc pins s1 σ H1 vs us Q I1 r1 q1) he hpl
end
end L2
namespace HT
open PySem PyProof.Rows
section
open PySem.SeqAt
open PySem.AutoSeq1 (wpAny_loadPart')
open PySem.MeetsSeq PySem.MeetsSeq2 PySem.MeetsSeq3
end
section
end
end HT
namespace L2
open PySem PySem.Spec PyProof.Rows
abbrev TO:=St->Hp->(Option Int->Hp->Prop)->Prop
def PO (X:Cx) (e:Option Expr) (t:TO):Prop :=
 ∀ (pins:List (Addr×Obj)) (s:Shared) (σ : St) (H:Hp) (Q:Option Int->Hp->Prop),Inv X pins σ H s->t σ H Q →
  wpAny (model X.prog X.w) X.A (evalPart e X.env) (fun u s'=>∃ o H',Inv X pins σ H' s'/\IsPart u o/\Q o H') X.xe s
def tNoPart:TO:=fun _ H Q=>Q none H
def tPart (t:TE):TO:=fun σ H Q=>t σ H fun x H1=>∃ i,x = .int i/\Q (some i) H1
theorem intsAre_of:∀ {us:List Value},Vals (ns.map V.int) us->IntsAre us ns:=by
 induction ns with
 | nil=>intro us r; rw [List.map_nil] at r; cases r; exact .nil
 | cons n ns ih =>
   intro us r
   cases r with
   | cons r1 r2 =>
     obtain ⟨t,e⟩:=r1
     subst e
     exact .cons n t (ih r2)
section
variable {X:Cx} {te:TE} {lo hi:Option Expr} {tl th:TO}
theorem po_none:PO X none tNoPart:=by
 intro pins s σ H Q I h
 exact wpAny_pure ⟨none,H,I,.none,h⟩
theorem po_some (h:PE X e te):PO X (some e) (tPart te):=by
 intro pins s σ H Q I hw
 refine thn (h pins s σ H _ I hw) fun u s1 zq=>?_
 obtain ⟨x,H1,I1,r1,q1⟩:=zq
 obtain ⟨i,rfl,q⟩:=q1
 obtain ⟨t,rfl⟩:=r1
 exact ⟨some i,H1,I1,.int i t,q⟩
def SlR (X:Cx) (r:V->Option Int->Option Int->Hp->VK->Prop):Prop :=
 ∀ (pins:List (Addr×Obj)) (s:Shared) (σ : St) (H:Hp) (x:V) (v vl vu:Value) (lo hi:Option Int) (sl:Addr) (Q:VK),Inv X pins σ H s->RelV x v->s.heap.IsSliceOf sl vl vu .none->IsPart vl lo->IsPart vu hi->r x lo hi H Q →
  ∃ T id,typeLookup (.type T) "__getitem__" = pure (some (.builtin id))/\s.TypeIs v T/\wpAny (model X.prog X.w) X.A (getItem v (.ref sl)) (EP X pins σ Q) X.xe s
def tSl (r:V->Option Int->Option Int->Hp->VK->Prop) (te:TE) (tl th:TO):TE:=fun σ H Q=>te σ H fun x H1=>tl σ H1 fun l H2=>th σ H2 fun u H3=>r x l u H3 Q
theorem pe_slice (hr:SlR X r) (he:PE X e te) (hl:PO X lo tl) (hu:PO X hi th):PE X (.Subscript e (.Slice lo hi none p2) pos) (tSl r te tl th):=by
 intro pins s σ H Q I h
 refine Subscript_ (thn (he pins s σ H _ I h) fun v s1 zq=>?_)
 obtain ⟨x,H1,I1,r1,q1⟩:=zq
 refine wpAny_Slice (thn (hl pins s1 σ H1 _ I1 q1) fun vl s2 ⟨l,H2,I2,pl,q2⟩=>thn (hu pins s2 σ H2 _ I2 q2) fun vu s3 zq=>?_)
 obtain ⟨u,H3,I3,pu,q3⟩:=zq
 refine wpAny_pure ?_
 have I4:Inv X pins σ H3 { s3 with heap:=s3.heap.push { cls:=.type "slice",data:=.fields #[vl,vu,.none] } }:=I3.kept fun b ob q=>Heap.get?_push_of_some _ q
 obtain ⟨T,id,hT,ht,hg⟩:=hr pins { s3 with heap:=s3.heap.push { cls:=.type "slice",data:=.fields #[vl,vu,.none] } } σ H3 x v vl vu l u s3.heap.objs.size Q I4 r1 (Heap.IsSliceOf.new ..) pl pu q3
 exact tail_any ht hT hg (by with_unfolding_all rfl)
noncomputable def cutV (xs:List V) (lo hi:Option Int):List V:=(xs.drop (HT.sIx xs.length 0 lo)).take (HT.sIx xs.length xs.length hi - HT.sIx xs.length 0 lo)
theorem cutV_length xs lo hi:(cutV xs lo hi).length<=xs.length:=by
 unfold cutV
 rw [List.length_take,List.length_drop]
 lia
end
theorem ixN_seq (h:ixN n i=some j):seqIndex? i n=some j/\j < n/\-(n:Int)<=i/\i < n:=by
 unfold ixN at h
 by_cases h0:0<=i
 · rw [if_pos h0] at h
   by_cases h1:i < n
   · rw [if_pos h1] at h
     have e:=Option.some.inj h
     exact ⟨by rw [seqIndex_of h0 h1,e],by lia,by lia,h1⟩
   · rw [if_neg h1] at h; cases h
 · rw [if_neg h0] at h
   by_cases h1 : -(n:Int)<=i
   · rw [if_pos h1] at h
     have e:=Option.some.inj h
     exact ⟨by rw [seqIndex_neg (by lia) h1,e],by lia,h1,by lia⟩
   · rw [if_neg h1] at h; cases h
theorem kK (h:atI xs i=some v):∃ j,seqIndex? i xs.length=some j/\xs[j]? = some v/\j < xs.length/\-(xs.length:Int)<=i/\i < xs.length:=by
 unfold atI at h
 cases e:ixN xs.length i with
 | none=>rw [e] at h; cases h
 | some j =>
   rw [e] at h
   obtain ⟨h1,h2,h3,h4⟩:=ixN_seq e
   exact ⟨j,h1,h,h2,h3,h4⟩
def PlainIx (b:Expr):Prop:=∀ o i,subscripted b false o i=operate [o,i] (getItem o i)
def IxR (X:Cx) (r:R2):Prop :=
 ∀ (value slice:Expr) (pins:List (Addr×Obj)) (s:Shared) (σ : St) (H:Hp) (x y:V) (v u:Value) (Q:VK),Inv X pins σ H s->RelV x v->RelV y u->r x y H Q →
  subscripted slice false v u=operate [v,u] (getItem v u)->wpAny (model X.prog X.w) X.A (subscriptTail value slice v u) (EP X pins σ Q) X.xe s
def MtR (X:Cx) (id:String) (r:V->List V->Hp->VK->Prop):Prop :=
 ∀ (pins:List (Addr×Obj)) (s:Shared) (σ : St) (H:Hp) (x:V) (xs:List V) (v:Value) (us:List Value) (Q:VK),Inv X pins σ H s->RelV x v->Vals xs us->r x xs H Q →
  wpAny (model X.prog X.w) X.A (call (.builtin id) (v::us)) (EP X pins σ Q) X.xe s
section
variable {a b:Expr}
theorem IxR.or (h:IxR X r) (h':IxR X r'):IxR X (fun x y H Q=>r x y H Q \/ r' x y H Q):=by
 intro value slice pins s σ H x y v u Q I rx ry q hs
 rcases q with q | q
 · exact h value slice pins s σ H x y v u Q I rx ry q hs
 · exact h' value slice pins s σ H x y v u Q I rx ry q hs
theorem pe_ix (hr:IxR X r) (ha:PE X a ta) (hb:PE X b tb) (hs:PlainIx b):PE X (.Subscript a b pos) (tOp r ta tb):=by
 intro pins s σ H Q I h
 exact Subscript_ (binT ha hb I h fun v u s2 x y H2 I2 rx ry q=>hr a b pins s2 σ H2 x y v u Q I2 rx ry q (hs _ _))
noncomputable def rIxL (K:PySem.W.Frag):R2:=fun x y H Q=>∃ p xs i v,x = .ref p/\y = .int i/\SqL K H p xs/\atI xs i=some v/\Q v H
noncomputable def rIxT (K:PySem.W.Frag):R2:=fun x y H Q=>∃ p xs i v,x = .ref p/\y = .int i/\SqT K H p xs/\atI xs i=some v/\Q v H
noncomputable def rIxS:R2:=fun x y H Q=>∃ z i c,x = .str z/\y = .int i/\z.length<=sizeLine/\atI z.cps.toList i=some c/\Q (.str ⟨#[c]⟩) H
theorem ix_list:IxR X (rIxL X.K):=by
 intro value slice pins s σ H x y v u Q I rx ry h hs
 obtain ⟨p,xs,i,z,rfl,rfl,hq,he,q⟩:=h
 cases rx
 obtain ⟨t,rfl⟩:=ry
 obtain ⟨its,r,pl,hz⟩:=I.list hq
 obtain ⟨j,h1,h2,h3,h4,h5⟩:=kK he
 obtain ⟨w,ew,rw'⟩:=r.get h2
 have hl:=r.length
 have hn:=line63
 have fin:EP X pins σ Q w s:=⟨z,H,I,rw',q⟩
 by_cases h0:0<=i
 · have hj:i.toNat=j:=by
    rw [seqIndex_of h0 h5] at h1
    exact Option.some.inj h1
   exact item_listR pl.isList h0 (by lia) (by rw [hj]; simpa using ew) fin hs
 · have hj:(i+(its.toArray.size:Int)).toNat=j:=by
    rw [seqIndex_neg (by lia) h4] at h1
    rw [List.size_toArray,<- hl]
    exact Option.some.inj h1
   exact subscriptTail_builtinR pl.isList.typeIs slot_list_getitem.lookup
    (wpAny_getItem_list_neg pl.isList (by lia) (by rw [List.size_toArray] <;> lia) (by lia) (by rw [hj]; simpa using ew) ⟨rfl,fin⟩) hs
theorem ix_tup:IxR X (rIxT X.K):=by
 intro value slice pins s σ H x y v u Q I rx ry h hs
 obtain ⟨p,xs,i,z,rfl,rfl,hq,he,q⟩:=h
 cases rx
 obtain ⟨t,rfl⟩:=ry
 obtain ⟨its,r,pl,hz⟩:=I.tuple hq
 obtain ⟨j,h1,h2,h3,h4,h5⟩:=kK he
 obtain ⟨w,ew,rw'⟩:=r.get h2
 have hl:=r.length
 have hn:=line63
 have fin:EP X pins σ Q w s:=⟨z,H,I,rw',q⟩
 exact subscriptTail_builtinR pl.typeIs slot_tuple_getitem.lookup
  (getItem_tuple pl (by lia) (by lia) (by rw [List.size_toArray,<- hl]; exact h1) (by simpa using ew) ⟨rfl,fin⟩) hs
theorem ix_str:IxR X rIxS:=by
 intro value slice pins s σ H x y v u Q I rx ry h hs
 obtain ⟨z,i,c,rfl,rfl,hz,he,q⟩:=h
 obtain ⟨t,rfl⟩:=rx
 obtain ⟨t',rfl⟩:=ry
 obtain ⟨j,h1,h2,h3,h4,h5⟩:=kK he
 have hl:z.cps.toList.length=z.length:=by simp [Str.length]
 rw [hl] at h1 h4 h5
 have hn:=line63
 exact tail_any (typeIs_str s z t) slot_str_getitem.lookup (getItem_str (by
  have e1:decide (i < -(2 ^ 63:Int))=false:=decide_eq_false (by lia)
  have e2:decide (i ≥ 2 ^ 63)=false:=decide_eq_false (by lia)
  rw [e1,e2,Bool.or_false]) (by rw [h1]; simpa using h2) ⟨.str ⟨#[c]⟩,H,I.tok _,⟨_,rfl⟩,q⟩) hs
noncomputable def rIx (K:PySem.W.Frag):R2:=fun x y H Q=>rIxL K x y H Q \/ rIxT K x y H Q \/ rIxS x y H Q
theorem ix_seq:IxR X (rIx X.K):=ix_list.or (ix_tup.or ix_str)
theorem mapSeq_set (its:List Value) n j u:Obj.mapSeq (·.setIfInBounds j u) { cls:=.type "list",data:=.seq its.toArray n } = { cls:=.type "list",data:=.seq (its.set j u).toArray n }:=by
 simp [Obj.mapSeq]
theorem Inv.lst {pins:List (Addr×Obj)} {σ : St} {H:Hp} {s:Shared} {p:Addr} {xs:List V} (I:Inv X pins σ H s) (h:H p=some (.lst xs)) :
  ∃ (its:List Value) (n:Nat),Vals xs its/\s.heap.get? p=some { cls:=.type "list",data:=.seq its.toArray n }/\xs.length<=sizeLine:=by
 obtain ⟨z,its,n,r,e⟩:=I.hok p _ h
 exact ⟨its,n,r,e,z⟩
theorem Inv.lstUpd {its its':List Value} (I:Inv X pins σ H s) (h:H p=some (.lst xs))
  (ho:s.heap.get? p=some { cls:=.type "list",data:=.seq its.toArray n }) (hf:f { cls:=.type "list",data:=.seq its.toArray n } = { cls:=.type "list",data:=.seq its'.toArray n' }) (r:Vals ys its') (hz:ys.length<=sizeLine) t :
  Inv X pins σ (upd H p (.lst ys)) { s with heap:=s.heap.update p f,toks:=t }:=by
 have e:(s.heap.update p f).get? p=some { cls:=.type "list",data:=.seq its'.toArray n' }:=by
  rw [Heap.get?_update_self f ho (by rw [hf] <;> rfl),hf]
 refine I.write (x:=p) (e:=p) (by rw [h]; trivial) (.inl rfl) (fun b u hb q=>(Heap.get?_update_other _ _ (Ne.symm hb)).trans q) ⟨_,e⟩ ?_
 exact ⟨hz,its',n',r,e⟩
def rSetL:V->V->V->Hp->(Hp->Prop)->Prop:=fun o i v H Q=>∃ p xs k j,o = .ref p/\i = .int k/\H p=some (.lst xs)/\ixN xs.length k=some j/\Q (upd H p (.lst (xs.set j v)))
theorem set_list:PSet X rSetL:=by
 intro pins s σ H o i v ov iv u Q I ro ri rv h
 obtain ⟨p,xs,k,j,rfl,rfl,hp,hj,q⟩:=h
 cases ro
 obtain ⟨t,rfl⟩:=ri
 obtain ⟨its,n,r,ho,hz⟩:=I.lst hp
 obtain ⟨h1,h2,h3,h4⟩:=ixN_seq hj
 have hl:=r.length
 have hn:=line63
 have I':Inv X pins σ (upd H p (.lst (xs.set j v))) { s with heap:=s.heap.update p (Obj.mapSeq (·.setIfInBounds j u)) } :=
  I.lstUpd hp ho (mapSeq_set its n j u) (r.set rv j) (by rw [List.length_set]; exact hz) s.toks
 by_cases h0:0<=k
 · have hk:k.toNat=j:=by
    rw [seqIndex_of h0 h4] at h1
    exact Option.some.inj h1
   exact PySem.W.ki_setAt ho h0 (by lia) (by rw [List.size_toArray,<- hl]; exact h4) (by rw [hk]; exact ⟨_,I',q⟩)
 · have hk:(k+(its.toArray.size:Int)).toNat=j:=by
    rw [seqIndex_neg (by lia) h3] at h1
    rw [List.size_toArray,<- hl]
    exact Option.some.inj h1
   exact PySem.W.ki_setBack ho (by lia) (by rw [List.size_toArray,<- hl]; exact h3) (by lia) (by rw [hk]; exact ⟨_,I',q⟩)
theorem slice_bounds lo hi n:(sliceBounds lo hi none n).1=((HT.sIx n 0 lo:Nat):Int)/\(sliceBounds lo hi none n).2.1=((HT.sIx n n hi:Nat):Int)/\(sliceBounds lo hi none n).2.2=1:=by
 refine ⟨?_,?_,rfl⟩
 · cases lo with
   | none=>simp [sliceBounds,HT.sIx]
   | some i =>
     simp only [sliceBounds,HT.sIx,Option.getD_none,show (1:Int) > 0 by decide,if_true]
     by_cases h:i < 0
     · simp only [h,if_true] <;> lia
     · simp only [h,if_false] <;> lia
 · cases hi with
   | none=>simp [sliceBounds,HT.sIx]
   | some i =>
     simp only [sliceBounds,HT.sIx,Option.getD_none,show (1:Int) > 0 by decide,if_true]
     by_cases h:i < 0
     · simp only [h,if_true] <;> lia
     · simp only [h,if_false] <;> lia
theorem slicePick_cut (its:List Value) lo hi:slicePick its.toArray lo hi none=((its.drop (HT.sIx its.length 0 lo)).take (HT.sIx its.length its.length hi - HT.sIx its.length 0 lo)).toArray:=by
 obtain ⟨h1,h2,h3⟩:=slice_bounds lo hi its.toArray.size
 unfold slicePick
 rw [h1,h2,h3]
 simp only [sliceRange_one,pick_run,List.size_toArray] <;> rfl
def rSlL (K:PySem.W.Frag):V->Option Int->Option Int->Hp->VK->Prop:=fun x lo hi H Q=>∃ a xs,x = .ref a/\SqL K H a xs/\∀ p,H p=none->Q (.ref p) (upd H p (.lst (cutV xs lo hi)))
theorem sl_list:SlR X (rSlL X.K):=by
 intro pins s σ H x v vl vu lo hi sl Q I rx hs pl pu h
 obtain ⟨a,xs,rfl,hx,q⟩:=h
 cases rx
 obtain ⟨its,r,ht,hz⟩:=I.list hx
 have hlen:=r.length
 refine ⟨"list",_,slot_list_getitem.lookup,ht.isList.typeIs,?_⟩
 refine wpAny_getItem_list_slice ht.isList hs pl pu .none (by simp) ?_ (by rw [List.size_toArray] <;> lia)
 rw [slicePick_cut,<- hlen]
 refine ⟨.ref s.heap.objs.size,_,I.laid (fun b ob q=>Heap.get?_push_of_some _ q) (Nat.le_refl _) ?_,rfl,q _ (I.hok.fresh (Nat.le_refl _))⟩
 exact ⟨Nat.le_trans (cutV_length xs lo hi) hz,_,0,(r.drop (HT.sIx xs.length 0 lo)).take (HT.sIx xs.length xs.length hi - HT.sIx xs.length 0 lo),Heap.get?_push_size _ rfl⟩
theorem call_len_seq:CallR X (.builtin "len") (fun xs H Q=>∃ p ys,xs=[.ref p]/\(SqL X.K H p ys \/ SqT X.K H p ys)/\Q (.int ys.length) H):=by
 intro pins s σ H xs us Q I r h
 obtain ⟨p,ys,rfl,hq,q⟩:=h
 obtain ⟨u,rfl,rx⟩:=vals1 r
 cases rx
 have hn:=line63
 rcases hq with hq | hq
 · obtain ⟨its, r', pl, hz⟩ := I.list hq
   have hlen:=r'.length
   exact Calls.call_len_list pl.isList (by simp [List.size_toArray] <;> lia) ⟨.int ys.length,H,I.tok _,⟨s.toks+1,by rw [List.size_toArray,hlen]⟩,q⟩
 · obtain ⟨its, r', pl, hz⟩ := I.tuple hq
   have hlen:=r'.length
   exact len_tuple pl (by simp [List.size_toArray] <;> lia) ⟨.int ys.length,H,I.tok _,⟨s.toks+1,by rw [List.size_toArray,hlen]⟩,q⟩
theorem call_len_str:CallR X (.builtin "len") (fun xs H Q=>∃ z,xs=[.str z]/\z.length<=sizeLine/\Q (.int z.length) H):=by
 intro pins s σ H xs us Q I r h
 obtain ⟨z,rfl,hz,q⟩:=h
 obtain ⟨u,rfl,t,rfl⟩:=vals1 r
 have hn:=line63
 exact len_str (by lia) ⟨.int z.length,H,I.tok _,⟨_,rfl⟩,q⟩
theorem CallR.or (h:CallR X f r) (h':CallR X f r'):CallR X f (fun xs H Q=>r xs H Q \/ r' xs H Q):=by
 intro pins s σ H xs us Q I rs q
 rcases q with q | q
 · exact h pins s σ H xs us Q I rs q
 · exact h' pins s σ H xs us Q I rs q
theorem call_list_of:CallR X (.type "list") (fun xs H Q=>∃ p ys,xs=[.ref p]/\(SqL X.K H p ys \/ SqT X.K H p ys)/\∀ l,H l=none->Q (.ref l) (upd H l (.lst ys))):=by
 intro pins s σ H xs us Q I r h
 obtain ⟨p,ys,rfl,hq,q⟩:=h
 obtain ⟨u,rfl,rx⟩:=vals1 r
 cases rx
 have fin:∀ (its:List Value),Vals ys its->ys.length<=sizeLine->∀ (h':Heap) (c':Nat),(∀ b o',s.heap.get? b=some o'->h'.get? b=some o') →
   h'.get? s.heap.objs.size=some { cls:=.type "list",dict:=none,data:=.seq its.toArray c',slots:=#[] }->EP X pins σ Q (.ref s.heap.objs.size) { s with heap:=h' }:=fun its r' hz h' c' kp e =>
  ⟨.ref s.heap.objs.size,_,I.laid kp (Nat.le_refl _) (show ObjOk X.prog X.w _ h' _ (.lst ys) from ⟨hz,its,c',r',e⟩),rfl,q _ (I.hok.fresh (Nat.le_refl _))⟩
 rcases hq with hq | hq
 · obtain ⟨its, r', pl, hz⟩ := I.list hq
   have hlen:=r'.length
   obtain ⟨o,ho,hc,n,hd⟩:=pl.isList
   exact call_list_seq p (.inl rfl) ho hc hd (fun h' c' kp e=>fin its r' hz h' c' kp e) (by simp [List.size_toArray] <;> lia)
 · obtain ⟨its, r', pl, hz⟩ := I.tuple hq
   have hlen:=r'.length
   obtain ⟨o,ho,hc,n,hd⟩:=pl
   exact call_list_seq p (.inr rfl) ho hc hd (fun h' c' kp e=>fin its r' hz h' c' kp e) (by simp [List.size_toArray] <;> lia)
def tyV (K:PySem.W.Frag) (T:String) (x:V) (H:Hp):Prop:=match x with
 | .str _=>T = "str"
 | .int _=>T = "int"
 | .ref p=>(T = "list"/\∃ xs,SqL K H p xs) \/ (T = "tuple"/\∃ o,K.lookup p=some o/\o.cls = .type "tuple"/\o.dict=none) ∨
    (T = "dict"/\((∃ kvs,H p=some (.dK kvs)) \/ ∃ kvs,H p=some (.dT kvs))) \/ (T = "set"/\∃ S n,H p=some (.set S n))
 | _=>False
theorem tyV_is (I:Inv X pins σ H s) (r:RelV x v) (ty:tyV X.K T x H) :
  s.TypeIs v T/\∀ a,v = .ref a->∃ ob,s.heap.get? a=some ob/\ob.dict=none:=by
 cases x with
 | str z =>
   obtain ⟨t,rfl⟩:=r
   cases (ty)
   exact ⟨typeIs_str s z t,fun _ e=>nomatch e⟩
 | int i =>
   obtain ⟨t,rfl⟩:=r
   cases (ty)
   exact ⟨typeIs_int s i t,fun _ e=>nomatch e⟩
 | ref p =>
   cases r
   rcases ty with ⟨rfl,xs,hq⟩ | ⟨rfl,o,hk,hc,hd⟩ | ⟨rfl,hk⟩ | ⟨rfl,S,n,hk⟩
   · obtain ⟨its, _, pl, _⟩ := I.list hq
     refine ⟨pl.isList.typeIs,fun a e=>?_⟩
     cases e
     obtain ⟨o,n,e,c,hd,_⟩:=pl
     exact ⟨o,e,hd⟩
   · refine ⟨⟨o, I.kIn p o hk, hc⟩, fun a e => ?_⟩
     cases e
     exact ⟨o,I.kIn _ o hk,hd⟩
   · have z:∃ o,s.heap.get? p=some o/\o.ExactDict:=by
      rcases hk with ⟨kvs,hk⟩ | ⟨kvs,hk⟩
      · obtain ⟨_, _, _, _, o, _, _, e, ex, _⟩ := I.hok p _ hk
        exact ⟨o,e,ex⟩
      · obtain ⟨_, _, _, _, o, _, _, e, ex, _⟩ := I.hok p _ hk
        exact ⟨o,e,ex⟩
     obtain ⟨o,e,ex⟩:=z
     refine ⟨⟨o,e,ex.1⟩,fun a e2=>?_⟩
     cases e2
     exact ⟨o,e,ex.2.1⟩
   · obtain ⟨o, _, _, _, e, ex, _⟩ := I.hok p _ hk
     refine ⟨⟨o,e,ex.1⟩,fun a e2=>?_⟩
     cases e2
     exact ⟨o,e,ex.2.1⟩
 | _=>exact False.elim ty
def tBM0 (K:PySem.W.Frag) (T:String) (r:V->List V->Hp->VK->Prop) (to:TE):TE:=fun σ H Q=>to σ H fun x H1=>tyV K T x H1/\r x [] H1 Q
def tBM (K:PySem.W.Frag) (T:String) (r:V->List V->Hp->VK->Prop) (to:TE) (t:TA):TE:=fun σ H Q=>to σ H fun x H1=>tyV K T x H1/\t σ H1 fun xs H2=>r x xs H2 Q
variable {T id:String}
theorem pe_bm0 (pa:PlainAttrs T) (slot:Slot T name id) (hty:typeOf (.builtin id)=pure (.type "method_descriptor")) (hm:MtR X id r) (ho:PE X o to)
  (hbase:attributeBase o name X.env (eval o X.env)=eval o X.env:=by rfl) (hline:(apos.endLine == cpos.line)=true:=by rfl):PE X (.Call (.Attribute o name apos) [] [] cpos) (tBM0 X.K T r to):=by
 intro pins s σ H Q I h
 refine wpAny_Call_method0_late hbase hline (thn (ho pins s σ H _ I h) fun v s1 zq=>?_)
 obtain ⟨x,H1,I1,r1,ty,q1⟩:=zq
 obtain ⟨h1,h2⟩:=tyV_is I1 r1 ty
 exact ⟨T,id,pa,slot,hty,h1,h2,Calls.callWith_builtin rfl (PySem.evalArgs_none (hm pins s1 σ H1 x [] v [] Q I1 r1 .nil q1))⟩
theorem pe_bm (pa:PlainAttrs T) (slot:Slot T name id) (hty:typeOf (.builtin id)=pure (.type "method_descriptor")) (hm:MtR X id r) (ho:PE X o to) (ha:PA X (e::es) t)
  (hbase:attributeBase o name X.env (eval o X.env)=eval o X.env:=by rfl)
  (hfew:((backTo cpos (starEach (e::es) X.env)).all (fun x=>!x.1) && (backToKw cpos (keywordEach [] X.env)).all (fun x=>x.1.isSome)
    && decide ((e::es).length+([]:List Keyword).length+(if ([]:List Keyword).isEmpty then 0 else 1) < 30))=true:=by rfl)
  (hline:(apos.endLine == cpos.line)=true:=by rfl) (hs:starEach (e::es) X.env=(false,eval e X.env)::starEach es X.env:=by rfl) (hplain:(backTo cpos (starEach es X.env)).any (·.1)=false:=by rfl) :
  PE X (.Call (.Attribute o name apos) (e::es) [] cpos) (tBM X.K T r to t):=by
 intro pins s σ H Q I h
 refine wpAny_Call_method_late hbase hfew hline rfl (thn (ho pins s σ H _ I h) fun v s1 zq=>?_)
 obtain ⟨x,H1,I1,r1,ty,q1⟩:=zq
 obtain ⟨h1,h2⟩:=tyV_is I1 r1 ty
 refine ⟨T,id,pa,slot,hty,h1,h2,?_⟩
 have hA:=ha cpos pins s1 σ H1 _ I1 q1
 rw [hs] at hA ⊢
 refine Calls.callWith_builtin (by show (false || (backTo cpos (starEach es X.env)).any (·.1))=false; rw [hplain] <;> rfl) (Calls.evalArgs_plain ?_)
 exact thn hA fun us s2 ⟨vs,H2,I2,r2,q2⟩=>hm pins s2 σ H2 x vs v us Q I2 r1 r2 q2
/- xs.append(e),list.index on a module's tuple .. are MtR facts of 06m -/
end
def MtM (X:Cx) (id:String) (r:V->List V->Hp->VK->Prop):Prop :=
 ∀ (pins:List (Addr×Obj)) (s:Shared) (σ : St) (H:Hp) (x:V) (xs:List V) (v:Value) (us:List Value) (Q:VK),Inv X pins σ H s->RelV x v->Vals xs us->r x xs H Q →
  wpAny (model X.prog X.w) X.A (call (.builtin id) (v::us)) (EP X pins σ Q) X.xe s
theorem Vals.one {x:V} {us:List Value} (h:Vals [x] us):∃ u,us=[u]/\RelV x u:=by cases h with | cons r t=>cases t; exact ⟨_,rfl,r⟩
theorem Vals.reverse (h:Vals xs us):Vals xs.reverse us.reverse:=by
 induction h with
 | nil=>exact .nil
 | cons r t ih=>rw [List.reverse_cons,List.reverse_cons]; exact Vals.append ih (.cons r .nil)
section
theorem Inv.lset {its its':List Value} (I:Inv X pins σ H s) (hH:H l=some (.lst xs))
  (e:s.heap.get? l=some { cls:=.type "list",data:=.seq its.toArray n }) (hf:f its.toArray=its'.toArray) (hv:Vals ys its') (hz:ys.length<=sizeLine) :
  Inv X pins σ (upd H l (.lst ys)) { s with heap:=s.heap.update l (Obj.mapSeq f),toks:=t' }:=by
 have q:=PySem.IsL.update e f
 rw [hf] at q
 refine I.write (by rw [hH]; exact trivial) (.inl rfl) (fun b' u hb hu=>(Heap.get?_update_other s.heap (Obj.mapSeq f) (Ne.symm hb)).trans hu) ⟨_,q⟩ ?_
 exact ⟨hz,its',_,hv,q⟩
theorem Inv.lnew (I:Inv X pins σ H s) (hv:Vals ys its) (hz:ys.length<=sizeLine) :
  Inv X pins σ (upd H s.heap.objs.size (.lst ys)) { s with heap:=s.heap.push { cls:=.type "list",data:=.seq its.toArray },toks:=t' } :=
 I.laid (fun _ _ q=>Heap.get?_push_of_some _ q) (Nat.le_refl _) ⟨hz,its,0,hv,Heap.get?_push_size _ rfl⟩
theorem Inv.fresh (I:Inv X pins σ H s):H s.heap.objs.size=none:=I.hok.fresh (Nat.le_refl _)
theorem Inv.lstM (I:Inv X pins σ H s) (hH:H l=some (.lst xs)):xs.length<=sizeLine/\∃ its n,Vals xs its/\xs.length=its.length/\s.heap.get? l=some { cls:=.type "list",data:=.seq its.toArray n }:=by
 obtain ⟨z,its,n,r,e⟩:=I.hok l _ hH
 exact ⟨z,its,n,r,r.length,e⟩
end
section
def rAppend:V->List V->Hp->VK->Prop:=fun x vs H Q=>∃ l xs y,x = .ref l/\vs=[y]/\H l=some (.lst xs)/\xs.length < sizeLine/\Q .non (upd H l (.lst (xs++[y])))
theorem mt_append:MtM X "list.append" rAppend:=by
 intro pins s σ H x vs v us Q I rx rv h
 obtain ⟨l,xs,y,rfl,rfl,hH,hz,q⟩:=h
 cases rx
 obtain ⟨u,rfl,ru⟩:=rv.one
 obtain ⟨z,its,n,r,hl,e⟩:=I.lstM hH
 refine call_meets F.slot_list_append ⟨_,e,rfl⟩ F.entry_list_append (F.args_list_append_2 _ _) (PySem.list_append l its.toArray n u (by rw [List.size_toArray]; lia)) ⟨e,?_⟩
 refine ⟨.non,_,I.lset hH e (by simp) (r.append (.cons ru .nil)) ?_,rfl,q⟩
 rw [List.length_append,List.length_singleton]
 lia
end
section
end
section
end
section
variable {κ : Type} [DecidableEq κ]
noncomputable def valV (kvs:List (κ×V)) (k : κ):Option V:=(kvs.find? fun kv=>decide (kv.1=k)).map (·.2)
noncomputable def putK (kvs:List (κ×V)) (k : κ) (v:V):List (κ×V) :=
 if (kvs.any fun kv=>decide (kv.1=k))=true then kvs.map (fun kv=>if kv.1=k then (kv.1,v) else kv) else kvs++[(k,v)]
noncomputable def dropK (kvs:List (κ×V)) (k : κ):List (κ×V):=kvs.filter fun kv=>decide (kv.1≠k)
theorem yR {k : κ} (e:p.1=k):valV (p::r) k=some p.2:=by simp [valV,List.find?_cons,e]
theorem xE {k : κ} (e : ¬ p.1=k):valV (p::r) k=valV r k:=by simp [valV,List.find?_cons,e]
theorem xV (k : κ):∀ kvs,(kvs.any fun kv=>decide (kv.1=k))=(valV kvs k).isSome
 | []=>rfl
 | p :: r => by
   rw [List.any_cons]
   by_cases e:p.1=k
   · simp only [yR e,decide_eq_true e,Bool.true_or,Option.isSome_some]
   · rw [xE e,decide_eq_false e,Bool.false_or]; exact xV k r
theorem yU kvs (k : κ) v:(putK kvs k v).length<=kvs.length+1:=by
 unfold putK
 split
 · rw [List.length_map]; lia
 · rw [List.length_append,List.length_cons,List.length_nil]; lia
theorem xX {k : κ} v (h:valV kvs k=none):putK kvs k v=kvs++[(k,v)]:=by
 unfold putK
 rw [xV,h]
 exact if_neg (by decide)
theorem RelO.isSome_eq (r:RelO o u):o.isSome=u.isSome:=by
 cases o with
 | none => cases u with
   | none=>rfl
   | some _=>exact (r).elim
 | some _ => cases u with
   | none=>exact (r).elim
   | some _=>rfl
theorem RelO.getD (r:RelO o u) (rd:RelV d d'):RelV (o.getD d) (u.getD d'):=by
 cases o with
 | none => cases u with
   | none=>exact rd
   | some _=>exact (r).elim
 | some _ => cases u with
   | none=>exact (r).elim
   | some _=>exact r
theorem KV.val (r:KV kvs vs) (k : κ):RelO (valV kvs k) (valueAt vs k):=by
 induction r with
 | nil=>exact True.intro
 | @cons p q ps qs h t ih =>
   obtain ⟨h1,h2⟩:=h
   by_cases e:p.1=k
   · have e' : q.1 = k := h1.symm.trans e
     have b:valueAt (q::qs) k=some q.2:=by simp [valueAt,List.find?_cons,e']
     rw [yR e,b]; exact h2
   · have e' : ¬ q.1 = k := fun z => e (h1.trans z)
     have b:valueAt (q::qs) k=valueAt qs k:=by simp [valueAt,List.find?_cons,e']
     rw [xE e,b]; exact ih
theorem KV.any (r:KV kvs vs) (k : κ):(kvs.any fun kv=>decide (kv.1=k))=vs.any fun kv=>decide (kv.1=k):=by
 induction r with
 | nil=>rfl
 | cons h t ih=>rw [List.any_cons,List.any_cons,ih,h.1]
theorem KV.repl (r:KV kvs vs) (k : κ) (ry:RelV y u) :
  KV (kvs.map fun kv=>if kv.1=k then (kv.1,y) else kv) (vs.map fun kv=>if kv.1=k then (kv.1,u) else kv):=by
 induction r with
 | nil=>exact .nil
 | @cons p q ps qs h t ih =>
   rw [List.map_cons,List.map_cons]
   refine .cons ?_ ih
   obtain ⟨h1,h2⟩:=h
   by_cases e:p.1=k
   · rw [if_pos e,if_pos (h1.symm.trans e)]; exact ⟨h1,ry⟩
   · rw [if_neg e,if_neg (fun z=>e (h1.trans z))]; exact ⟨h1,h2⟩
theorem KV.put (r:KV kvs vs) (k : κ) (ry:RelV y u):KV (putK kvs k y) (stored vs k u):=by
 unfold putK stored
 rw [r.any k]
 by_cases e:(vs.any fun kv=>decide (kv.1=k))=true
 · rw [if_pos e,if_pos e]; exact r.repl k ry
 · rw [if_neg e,if_neg e]; exact Paired.snoc r ⟨rfl,ry⟩
theorem KV.drop (r:KV kvs vs) (k : κ):KV (dropK kvs k) (without vs k):=by
 unfold dropK without
 induction r with
 | nil=>exact .nil
 | @cons p q ps qs h t ih =>
   obtain ⟨h1,h2⟩:=h
   rw [List.filter_cons,List.filter_cons]
   by_cases e:p.1=k
   · have a : ¬ decide (p.1 ≠ k) = true := by simp [e]
     have b : ¬ decide (q.1≠k)=true:=by simp [h1.symm.trans e]
     rw [if_neg a,if_neg b]; exact ih
   · have e' : ¬ q.1 = k := fun z => e (h1.trans z)
     have a:decide (p.1≠k)=true:=by simp [e]
     have b:decide (q.1≠k)=true:=by simp [e']
     rw [if_pos a,if_pos b]; exact .cons ⟨h1,h2⟩ ih
theorem KV.length {kvs:List (κ×V)} (r:KV kvs vs):kvs.length=vs.length:=Paired.length r
end
theorem kV_is (r:RelV (kV k) u):(mixKind P w).is k u=true:=by
 rcases k with (_ | i) | x
 · cases (r); rfl
 · obtain ⟨t,rfl⟩:=(r); simp [mixKind,keyIs,Value.isInt]
 · obtain ⟨t,rfl⟩:=(r); simp [mixKind,keyIs,Value.isStrOf]
theorem items_are:∀ {ks:List Key} {us:List Value},Vals (ks.map kV) us->ItemsAre (mixKind P w) ks us
 | [],_,r=>by rw [List.map_nil] at r; cases r; exact .nil
 | k :: ks, _, r => by
   rw [List.map_cons] at r
   cases r with
   | cons h t=>exact .cons (kV_is h) (items_are t)
abbrev KT (H:Hp):List (List Key×V)->List (List Key×Addr×Value)->Prop:=Paired fun p q=>p.1=q.1/\Rd H q.2.1 (.tup (p.1.map kV))/\RelV p.2 q.2.2
theorem KT.val (r:KT H kvs xs) k:RelO (valV kvs k) ((atKey xs k).map (·.2)):=by
 induction r with
 | nil=>exact True.intro
 | @cons p q ps qs h t ih =>
   obtain ⟨h1,_,h2⟩:=h
   by_cases e:p.1=k
   · have e' : q.1 = k := h1.symm.trans e
     have b:atKey (q::qs) k=some q.2:=by simp [atKey,List.find?_cons,e']
     rw [yR e,b]; exact h2
   · have e' : ¬ q.1 = k := fun z => e (h1.trans z)
     have b:atKey (q::qs) k=atKey qs k:=by simp [atKey,List.find?_cons,e']
     rw [xE e,b]; exact ih
theorem KT.repl (r:KT H kvs xs) k (ry:RelV y u) :
  KT H (kvs.map fun kv=>if kv.1=k then (kv.1,y) else kv) (xs.map (putAt k u)):=by
 induction r with
 | nil=>exact .nil
 | @cons p q ps qs h t ih =>
   rw [List.map_cons,List.map_cons]
   refine .cons ?_ ih
   obtain ⟨h1,h2,h3⟩:=h
   unfold putAt
   by_cases e:p.1=k
   · rw [if_pos e,if_pos (h1.symm.trans e)]; exact ⟨h1,h2,ry⟩
   · rw [if_neg e,if_neg (fun z=>e (h1.trans z))]; exact ⟨h1,h2,h3⟩
theorem KT.put (r:KT H kvs xs) k (hb:Rd H b (.tup (k.map kV))) (ry:RelV y u) :
  KT H (putK kvs k y) (storedH xs k b u):=by
 have e:(kvs.any fun kv=>decide (kv.1=k))=(atKey xs k).isSome:=by
  rw [xV,(r.val k).isSome_eq,Option.isSome_map]
 unfold putK storedH
 rw [e]
 by_cases q:(atKey xs k).isSome=true
 · rw [if_pos q,if_pos q]; exact r.repl k ry
 · rw [if_neg q,if_neg q]; exact Paired.snoc r ⟨rfl,hb,ry⟩
theorem KT.keeps (r:KT H kvs xs) (ht:∀ b ys,Rd H b (.tup ys)->Rd H' b (.tup ys)):KT H' kvs xs :=
 Paired.mapP r fun _ _ z=>⟨z.1,ht _ _ z.2.1,z.2.2⟩
section
theorem rd_of (ok:HOk P w H h) (e:Rd H a u):ObjOk P w H h a u:=e.ok ok
theorem kB (ok:HOk P w H h) (e:Rd H a (.dK kvs)):kvs.length<=sizeLine/\(a == sysModules)=false/\∃ vs,KV kvs vs/\h.DictOf (mixKind P w) a vs :=
 show ObjOk P w H h a (.dK kvs) from rd_of ok e
theorem dk_of (ok:HOk P w H h) (e:H a=some (.dK kvs)):kvs.length<=sizeLine/\(a == sysModules)=false/\∃ vs,KV kvs vs/\h.DictOf (mixKind P w) a vs:=kB ok (.inl e)
theorem kD (ok:HOk P w H h) (e:Rd H a (.tup (ks.map kV))):(tupleKind (mixKind P w)).is h ks a:=by
 obtain ⟨_,its,r,o,h1,h2,n,h3⟩:=rd_of ok e
 exact ⟨o,its.toArray,n,h1,h2,h3,by simpa using items_are r⟩
theorem dt_rd (ok:HOk P w H h) (e:Rd H a (.dT kvs)):kvs.length<=sizeLine/\(a == sysModules)=false ∧
  ∃ xs,KT H kvs xs/\h.DictOfH (tupleKind (mixKind P w)) a xs:=by
 obtain ⟨z,y,xs,r,o,es,ep,h1,h2,h3,h4,h5⟩:=(rd_of ok e)
 refine ⟨z,y,xs,r,o,es,ep,h1,h2,h3,h4,fun x hx=>?_,h5⟩
 have all:∀ {l:List (List Key×V)} {m:List (List Key×Addr×Value)},KT H l m->∀ x∈m,(tupleKind (mixKind P w)).is h x.1 x.2.1:=by
  intro l m q
  induction q with
  | nil=>intro x hx; exact nomatch hx
  | @cons p q ps qs hq t ih =>
    intro x hx
    rcases List.mem_cons.mp hx with e | hx
    · subst e
      exact kD ok (by rw [<- hq.1]; exact hq.2.1)
    · exact ih x hx
 exact all r x hx
theorem dt_of (ok:HOk P w H h) (e:H a=some (.dT kvs)):kvs.length<=sizeLine/\(a == sysModules)=false ∧
  ∃ xs,KT H kvs xs/\h.DictOfH (tupleKind (mixKind P w)) a xs:=dt_rd ok (.inl e)
end
def DGet (H:Hp) (a:Addr) (y:V) (r:Option V):Prop :=
 (∃ kvs k,Rd H a (.dK kvs)/\y=kV k/\r=valV kvs k) \/ ∃ kvs k b,Rd H a (.dT kvs)/\y = .ref b/\Rd H b (.tup (k.map kV))/\r=valV kvs k
def DPut (H:Hp) (a:Addr) (y v:V) (H':Hp):Prop :=
 (∃ kvs k,H a=some (.dK kvs)/\y=kV k/\kvs.length < sizeLine/\H'=upd H a (.dK (putK kvs k v))) ∨
 ∃ kvs k b,H a=some (.dT kvs)/\y = .ref b/\Rd H b (.tup (k.map kV))/\kvs.length < sizeLine/\H'=upd H a (.dT (putK kvs k v))
theorem DGet.k {k:Key} (e:H a=some (.dK kvs)):DGet H a (kV k) (valV kvs k):=.inl ⟨kvs,k,.inl e,rfl,rfl⟩
theorem DGet.t {k:List Key} (e:H a=some (.dT kvs)) (eb:Rd H b (.tup (k.map kV))):DGet H a (.ref b) (valV kvs k):=.inr ⟨kvs,k,b,.inl e,rfl,eb,rfl⟩
theorem DPut.k {k:Key} (e:H a=some (.dK kvs)) (hl:kvs.length < sizeLine):DPut H a (kV k) v (upd H a (.dK (putK kvs k v))):=.inl ⟨kvs,k,e,rfl,hl,rfl⟩
theorem DPut.t {k:List Key} (e:H a=some (.dT kvs)) (eb:Rd H b (.tup (k.map kV))) (hl:kvs.length < sizeLine) :
  DPut H a (.ref b) v (upd H a (.dT (putK kvs k v))):=.inr ⟨kvs,k,b,e,rfl,eb,hl,rfl⟩
section
theorem Inv.big (I:Inv X pins σ H s):sysModules < s.heap.objs.size:=by
 have h:=(I.mod.glob.keeps I.bk).lt
 exact Nat.lt_trans (by decide) h
theorem d_getItem (hu:A.units+1 < cLine) (I:Inv X pins σ H s) (g:DGet H a y (some v)) (ry:RelV y u) (h:∀ w' s',Inv X pins σ H s'->RelV v w'->Q w' s') :
  wpAny (model X.prog X.w) A (getItem (.ref a) u) Q E s:=by
 rcases g with ⟨kvs,k,e,ey,l⟩ | ⟨kvs,k,b,e,ey,eb,l⟩
 · subst ey
   obtain ⟨z,hd,vs,rel,dd⟩:=kB I.hok e
   obtain ⟨w',hw,rw'⟩:=RelO.some_of (by rw [l]; exact rel.val k)
   exact wpAny_getItem_of (kV_is ry) dd.mapOf hw (h w' _ (I.tok _) rw')
 · subst ey
   cases (ry)
   obtain ⟨z,hd,xs,rel,dd⟩:=dt_rd I.hok e
   obtain ⟨w',hw,rw'⟩:=RelO.some_of (by rw [l]; exact rel.val k)
   obtain ⟨p,hp,hp2⟩:=Option.map_eq_some_iff.mp hw
   refine wpAny_getItem_heap (tupleKind_room_in1 hu) (kD I.hok eb) dd hp ?_
   rw [hp2]
   exact h w' _ (I.tok _) rw'
theorem d_in (hu:A.units+1 < cLine) (I:Inv X pins σ H s) (g:DGet H a y o) (ry:RelV y u) (h:∀ s',Inv X pins σ H s'->Q (.bool o.isSome) s') :
  wpAny (model X.prog X.w) A (compareOp .In u (.ref a)) Q E s:=by
 rcases g with ⟨kvs,k,e,ey,l⟩ | ⟨kvs,k,b,e,ey,eb,l⟩
 · subst ey
   obtain ⟨z,hd,vs,rel,dd⟩:=kB I.hok e
   refine wpAny_in_of (kV_is ry) hd dd.mapOf ?_
   rw [<- (rel.val k).isSome_eq,<- l]
   exact h _ (I.tok _)
 · subst ey
   cases (ry)
   obtain ⟨z,hd,xs,rel,dd⟩:=dt_rd I.hok e
   refine wpAny_in_heap (tupleKind_room_in1 hu) (kD I.hok eb) hd dd ?_
   have q:=(rel.val k).isSome_eq
   rw [Option.isSome_map] at q
   rw [<- q,<- l]
   exact h _ (I.tok _)
theorem d_notIn (hu:A.units+1 < cLine) (I:Inv X pins σ H s) (g:DGet H a y o) (ry:RelV y u) (h:∀ s',Inv X pins σ H s'->Q (.bool (!o.isSome)) s') :
  wpAny (model X.prog X.w) A (compareOp .NotIn u (.ref a)) Q E s:=by
 rcases g with ⟨kvs,k,e,ey,l⟩ | ⟨kvs,k,b,e,ey,eb,l⟩
 · subst ey
   obtain ⟨z,hd,vs,rel,dd⟩:=kB I.hok e
   refine wpAny_notIn_of (kV_is ry) hd dd.mapOf ?_
   rw [<- (rel.val k).isSome_eq,<- l]
   exact h _ (I.tok _)
 · subst ey
   cases (ry)
   obtain ⟨z,hd,xs,rel,dd⟩:=dt_rd I.hok e
   refine wpAny_notIn_heap (tupleKind_room_in1 hu) (kD I.hok eb) hd dd ?_
   have q:=(rel.val k).isSome_eq
   rw [Option.isSome_map] at q
   rw [<- q,<- l]
   exact h _ (I.tok _)
theorem d_write (I:Inv X pins σ H s) (mu:Mut (H a)) (hs:Heap.SameBut a s.heap h') (he:∃ q,h'.get? a=some q) (new:ObjOk X.prog X.w (upd H a ob) h' a ob) :
  Inv X pins σ (upd H a ob) { s with heap:=h',toks:=t' } :=
 I.write mu (.inl rfl) (fun b q hb z=>(hs.2 b hb).trans z) he new
theorem dk_new (z:kvs.length<=sizeLine) (hd:(a == sysModules)=false) (rel:KV kvs vs) (dd:h'.DictOf (mixKind P w) a vs) :
  ObjOk P w H' h' a (.dK kvs):=⟨z,hd,vs,rel,dd⟩
theorem d_setItem (hu:A.units+1 < cLine) (I:Inv X pins σ H s) (g:DPut H a y v H') (ry:RelV y u) (rv:RelV v r) (h:∀ s',Inv X pins σ H' s'->Q () s') :
  wpAny (model X.prog X.w) A (setItem (.ref a) u r) Q E s:=by
 rcases g with ⟨kvs,k,e,ey,l,eH⟩ | ⟨kvs,k,b,e,ey,eb,l,eH⟩
 · subst ey eH
   obtain ⟨z,hd,vs,rel,dd⟩:=dk_of I.hok e
   have hz:vs.length<=sizeLine:=by rw [<- rel.length]; exact z
   have hl:(putK kvs k v).length<=sizeLine:=by have:=yU kvs k v; lia
   refine wpAny_setItem_pairs (kV_is ry) dd fun h' dd' hs=>h _ ?_
   have he:∃ q,h'.get? a=some q:=let ⟨q,_,_,hq,_⟩:=dd'; ⟨q,hq⟩
   exact d_write I (by rw [e]; exact True.intro) hs he (dk_new hl hd (rel.put k rv) dd')
 · subst ey eH
   cases (ry)
   obtain ⟨z,hd,xs,rel,dd⟩:=dt_of I.hok e
   have hz:xs.length<=sizeLine:=by rw [<- Paired.length rel]; exact z
   have hl:(putK kvs k v).length<=sizeLine:=by have:=yU kvs k v; lia
   refine wpAny_setItem_heap (tupleKind_room_in1 hu) (kD I.hok eb) dd fun h' dd' hs=>h _ ?_
   obtain ⟨q,es,ep,hq,h2,h3,h4,_,h5⟩:=dd'
   refine d_write I (by rw [e]; exact True.intro) hs ⟨q,hq⟩ ⟨hl,hd,_,(rel.put k eb rv).keeps fun c ys ec=>?_,q,es,ep,hq,h2,h3,h4,h5⟩
   exact ec.imp (fun q=>by rw [upd_ne (ne_of q e (fun z=>nomatch z))]; exact q) fun ⟨o,q⟩=>⟨o,by rw [upd_ne (ne_of q e (fun z=>nomatch z))]; exact q⟩
end
section
end
def NoSl (i:Expr):Prop:=∀ ov iv,subscripted i false ov iv=operate [ov,iv] (getItem ov iv)
theorem subD_of {T id:String}
  (hl:typeLookup (.type T) "__getitem__" = pure (some (.builtin id))) (hs:NoSl slice)
  (h:wpAny (model prog w) A (eval value env) (fun o s₁=>wpAny (model prog w) A (eval slice env) (fun i s₂=>s₂.TypeIs o T/\wpAny (model prog w) A (getItem o i) Q E s₂) E s₁) E s) :
  wpAny (model prog w) A (eval (.Subscript value slice pos) env) Q E s:=by
 refine Subscript_ (wpAny_mono h (fun o s₁ h₁=>wpAny_mono h₁ (fun i s₂ h₂=>?_) fun _ _ x=>x) fun _ _ x=>x)
 obtain ⟨hT,h₂⟩:=h₂
 refine wpAny_bind ?_
 refine wpAny_bind (wpAny_specialOf hT hl ?_)
 have fin:wpAny (model prog w) A (subscripted slice false o i) (fun r s₃=>wpAny (model prog w) A (letTemporaryGo value o r >>= fun _=>pure r) Q E s₃) E s₂:=by
  rw [hs o i]
  exact wpAny_operating (wpAny_mono h₂ (fun r s₃ h₃=>wpAny_bind (wpAny_letTemporaryGo (wpAny_pure h₃))) fun _ _ x=>x)
 first
  | exact wpAny_pure (wpAny_bind fin)
  | exact wpAny_bind (wpAny_pure (wpAny_bind fin))
  | exact wpAny_bind fin
theorem dict_typeIs (I:Inv X pins σ H s) (g:DGet H a y o):s.TypeIs (.ref a) "dict":=by
 rcases g with ⟨kvs,k,e,_,_⟩ | ⟨kvs,k,b,e,_,_,_⟩
 · obtain ⟨_, _, vs, _, dd⟩ := kB I.hok e
   exact dd.typeIs
 · obtain ⟨_, _, xs, _, dd⟩ := dt_rd I.hok e
   exact dd.typeIs
def tDGet (td ty:TE):TE:=fun σ H Q=>td σ H fun x H1=>ty σ H1 fun y H2=>∃ a v,x = .ref a/\DGet H2 a y (some v)/\Q v H2
def tDIn (ty td:TE):TE:=fun σ H Q=>ty σ H fun y H1=>td σ H1 fun x H2=>∃ a o,x = .ref a/\DGet H2 a y o/\Q (.bl o.isSome) H2
def tDNotIn (ty td:TE):TE:=fun σ H Q=>ty σ H fun y H1=>td σ H1 fun x H2=>∃ a o,x = .ref a/\DGet H2 a y o/\Q (.bl (!o.isSome)) H2
def sDPut (td ty tv:TE):TS:=fun D σ H=>tv σ H fun v H1=>td σ H1 fun x H2=>ty σ H2 fun y H3=>∃ a H4,x = .ref a/\DPut H3 a y v H4/\D.nx σ H4
section
theorem kL (hu:X.A.units+1 < cLine) (ho:PE X o td) (hi:PE X i ty) (hs:NoSl i):PE X (.Subscript o i pos) (tDGet td ty):=by
 intro pins s σ H Q I h
 refine subD_of PySem.F.slot_dict_getitem.lookup hs (thn (ho pins s σ H _ I h) fun u s1 ⟨x,H1,I1,rx,q1⟩=>thn (hi pins s1 σ H1 _ I1 q1) fun iv s2 zq=>?_)
 obtain ⟨y,H2,I2,ry,a,v,ex,g,q2⟩:=zq
 subst ex
 obtain rfl:u=Value.ref a:=rx
 exact ⟨dict_typeIs I2 g,d_getItem hu I2 g ry fun w' s3 I3 rw'=>⟨v,H2,I3,rw',q2⟩⟩
theorem pc_din (hu:X.A.units+1 < cLine) (hi:PE X i ty) (ho:PE X o td):PC X .In i o (tDIn ty td):=by
 intro pins s σ H Q I h
 refine thn (hi pins s σ H _ I h) fun iv s1 ⟨y,H1,I1,ry,q1⟩=>thn (ho pins s1 σ H1 _ I1 q1) fun u s2 zq=>?_
 obtain ⟨x,H2,I2,rx,a,ov,ex,g,q2⟩:=zq
 subst ex
 obtain rfl:u=Value.ref a:=rx
 exact d_in hu I2 g ry fun s3 I3=>⟨.bl ov.isSome,H2,I3,rfl,q2⟩
theorem pc_dnotin (hu:X.A.units+1 < cLine) (hi:PE X i ty) (ho:PE X o td):PC X .NotIn i o (tDNotIn ty td):=by
 intro pins s σ H Q I h
 refine thn (hi pins s σ H _ I h) fun iv s1 ⟨y,H1,I1,ry,q1⟩=>thn (ho pins s1 σ H1 _ I1 q1) fun u s2 zq=>?_
 obtain ⟨x,H2,I2,rx,a,ov,ex,g,q2⟩:=zq
 subst ex
 obtain rfl:u=Value.ref a:=rx
 exact d_notIn hu I2 g ry fun s3 I3=>⟨.bl (!ov.isSome),H2,I3,rfl,q2⟩
theorem ps_dput (hu:X.A.units+1 < cLine) (ho:PE X o td) (hi:PE X i ty) (hv:PE X value tv) (hs:swapsWith value (some (.Subscript o i pos')) pos.line X.env=pure false) :
  PS X (.Assign [.Subscript o i pos'] value pos) (sDPut td ty tv):=by
 intro pins s σ H D I h
 refine wpAny_Assign_Subscript (thn (hv pins s σ H _ I h) fun r s1 ⟨v,H1,I1,rv,q1⟩=>thn (ho pins s1 σ H1 _ I1 q1) fun u s2 ⟨x,H2,I2,rx,q2⟩=>thn (hi pins s2 σ H2 _ I2 q2) fun iv s3 zq=>?_) hs
 obtain ⟨y,H3,I3,ry,a,H4,ex,g,q3⟩:=zq
 subst ex
 obtain rfl:u=Value.ref a:=rx
 exact d_setItem hu I3 g ry rv fun s4 I4=>⟨σ,H4,I4,q3⟩
end
theorem dk_empty (h:Heap) (hb:sysModules < h.objs.size):ObjOk P w H (h.push { cls:=.type "dict",data:=.dict #[] }) h.objs.size (.dK []) :=
 ⟨Nat.zero_le _,beq_eq_false_iff_ne.mpr (Ne.symm (Nat.ne_of_lt hb)),[],.nil,Heap.DictOf.new h⟩
theorem dt_empty (h:Heap) (hb:sysModules < h.objs.size):ObjOk P w H (h.push { cls:=.type "dict",data:=.dict #[] }) h.objs.size (.dT []) :=
 ⟨Nat.zero_le _,beq_eq_false_iff_ne.mpr (Ne.symm (Nat.ne_of_lt hb)),[],.nil,_,#[],0,Heap.get?_push_size _ rfl,⟨rfl,rfl,rfl⟩,rfl,rfl,List.nodup_nil⟩
def tDNewK:TE:=fun _ H Q=>∀ p,H p=none->Q (.ref p) (upd H p (.dK []))
def tDNewT:TE:=fun _ H Q=>∀ p,H p=none->Q (.ref p) (upd H p (.dT []))
section
theorem pe_dnewK:PE X (.Dict [] [] pos) tDNewK:=fun pins s σ H Q I h =>
 wpAny_Dict_empty ⟨.ref s.heap.objs.size,_,I.laid (fun _ _ q=>Heap.get?_push_of_some _ q) (Nat.le_refl _) (dk_empty s.heap I.big),rfl,h _ (I.hok.fresh (Nat.le_refl _))⟩
theorem pe_dnewT:PE X (.Dict [] [] pos) tDNewT:=fun pins s σ H Q I h =>
 wpAny_Dict_empty ⟨.ref s.heap.objs.size,_,I.laid (fun _ _ q=>Heap.get?_push_of_some _ q) (Nat.le_refl _) (dt_empty s.heap I.big),rfl,h _ (I.hok.fresh (Nat.le_refl _))⟩
end
noncomputable def tPairs:List (TE×TE)->St->Hp->(List (V×V)->Hp->Prop)->Prop
 | [],_,H,Q=>Q [] H
 | (tk,tv)::r,σ,H,Q=>tk σ H fun x H1=>tv σ H1 fun y H2=>tPairs r σ H2 fun ps H3=>Q ((x,y)::ps) H3
abbrev VV:List (V×V)->List (Value×Value)->Prop:=Paired fun p q=>RelV p.1 q.1/\RelV p.2 q.2
def PPs (X:Cx) (pos:Pos) (keys:List (Option Expr)) (values:List Expr) (trs:List (TE×TE)):Prop :=
 ∀ (pins:List (Addr×Obj)) (s:Shared) (σ : St) (H:Hp) (Q:List (V×V)->Hp->Prop),Inv X pins σ H s->tPairs trs σ H Q →
  wpAny (model X.prog X.w) X.A (evalPairs (pairTrees keys values X.env pos)) (fun vs s'=>∃ ps H',Inv X pins σ H' s'/\VV ps vs/\Q ps H') X.xe s
theorem pps_nil:PPs X pos [] [] []:=fun pins s σ H Q I h=>pairTrees_nil_walk ⟨[],H,I,.nil,h⟩
theorem pps_cons (hk:PE X k tk) (hv:PE X v tv) (hr:PPs X pos ks vs trs) :
  PPs X pos (some k::ks) (v::vs) ((tk,tv)::trs):=fun pins s σ H Q I h =>
 pairTrees_cons_walk (thn (hk pins s σ H _ I h) fun u s1 ⟨x,H1,I1,rx,q1⟩=>thn (hv pins s1 σ H1 _ I1 q1) fun w2 s2 ⟨y,H2,I2,ry,q2⟩ =>
  thn (hr pins s2 σ H2 _ I2 q2) fun ws s3 ⟨ps,H3,I3,rel,q3⟩=>⟨(x,y)::ps,H3,I3,.cons ⟨rx,ry⟩ rel,q3⟩)
noncomputable def mergeK (kvs more:List (Key×V)):List (Key×V):=more.foldl (fun acc kv=>putK acc kv.1 kv.2) kvs
theorem KV.merge:∀ {more:List (Key×V)} {rs:List (Key×Value)} {kvs:List (Key×V)} {vs:List (Key×Value)},KV more rs->KV kvs vs->KV (mergeK kvs more) (merged vs rs):=by
 intro more rs kvs vs r
 induction r generalizing kvs vs with
 | nil=>intro q; exact q
 | @cons p q ps qs h t ih =>
   intro r0
   have e:KV (putK kvs p.1 p.2) (stored vs q.1 q.2):=by
    have:=r0.put p.1 h.2
    rw [<- h.1]; exact this
   exact ih e
theorem length_mergeK:∀ more kvs,(mergeK kvs more).length<=kvs.length+more.length
 | [],kvs=>by show kvs.length<=kvs.length+0; omega
 | p :: r, kvs => by
   have h1:=length_mergeK r (putK kvs p.1 p.2)
   have h2:=yU kvs p.1 p.2
   show (mergeK (putK kvs p.1 p.2) r).length<=_
   rw [List.length_cons]; omega
theorem carries_of:∀ {kvs:List (Key×V)} {ws:List (Value×Value)},VV (kvs.map fun kv=>(kV kv.1,kv.2)) ws->∃ rs,Carries (mixKind P w) ws rs/\KV kvs rs
 | [],_,r=>by rw [List.map_nil] at r; cases r; exact ⟨[],True.intro,.nil⟩
 | p :: kvs, _, r => by
   rw [List.map_cons] at r
   cases r with
   | @cons a b as bs h t =>
     obtain ⟨rs,c,q⟩:=carries_of (P:=P) (w:=w) t
     obtain ⟨b1,b2⟩:=b
     exact ⟨(p.1,b2)::rs,⟨kV_is h.1,rfl,c⟩,.cons ⟨rfl,h.2⟩ q⟩
def tDisp (trs:List (TE×TE)):TE:=fun σ H Q=>∀ p,H p=none->tPairs trs σ (upd H p (.dK [])) fun ps H2=>H2 p=some (.dK [])/\∃ kvs:List (Key×V),ps=kvs.map (fun kv=>(kV kv.1,kv.2))/\kvs.length<=15/\Q (.ref p) (upd H2 p (.dK (mergeK [] kvs)))
theorem pe_disp (h:PPs X pos keys values trs) (hall:keys.all (·.isSome)=true) (hl:keys.length=values.length) (h0:keys≠[])
  (h15:keys.length<=15):PE X (.Dict keys values pos) (tDisp trs):=by
 intro pins s σ H Q I q
 have hn:=I.hok.fresh (Nat.le_refl s.heap.objs.size)
 have I1:=I.laid (t':=s.toks) (fun _ _ q=>Heap.get?_push_of_some _ q) (Nat.le_refl _) (dk_empty s.heap I.big)
 refine wpAny_Dict_walk (knd:=mixKind X.prog X.w) hall hl h0 h15 (thn (h pins _ σ _ _ I1 (q _ hn)) fun ws s2 zq=>?_)
 obtain ⟨ps,H2,I2,rel,e,kvs,ep,lk,q2⟩:=zq
 subst ep
 obtain ⟨rs,c,rk⟩:=carries_of rel
 obtain ⟨z,hd,vs0,r0,dd⟩:=dk_of I2.hok e
 cases r0
 refine ⟨rs,c,dd,fun h' dd' hs=>⟨.ref s.heap.objs.size,_,?_,rfl,q2⟩⟩
 have hz:(mergeK [] kvs).length<=sizeLine:=by
  have h1:=length_mergeK kvs []
  rw [List.length_nil] at h1
  rw [sizeLine_eq]; lia
 have he:∃ q,h'.get? s.heap.objs.size=some q:=let ⟨q,_,_,hq,_⟩:=dd'; ⟨q,hq⟩
 exact d_write I2 (by rw [e]; exact True.intro) hs he (dk_new hz hd (rk.merge .nil) dd')
section
end
section
end
section
theorem d_copyOf (I:Inv X pins σ H s) (e:Rd H a (.dK kvs)) (h:∀ p s',H p=none->Inv X pins σ (upd H p (.dK kvs)) s'->Q (.ref p) s'):wpAny (model X.prog X.w) A (call (.type "dict") [.ref a]) Q E s:=by
 obtain ⟨z,hd,vs,rel,dd⟩:=kB I.hok e
 refine kt_call_dict hd dd (by rw [<- rel.length]; exact z) fun h' dd' hs=>?_
 refine h _ _ (I.hok.fresh (Nat.le_refl _)) (I.laid (fun b q hq=>?_) (Nat.le_refl _) (dk_new z (beq_eq_false_iff_ne.mpr (Ne.symm (Nat.ne_of_lt I.big))) rel dd'))
 exact (hs.2 b (Nat.ne_of_lt (Heap.lt_size hq))).trans (Heap.get?_push_of_some _ hq)
end
section
end
end L2
namespace Att
open PySem PySem.W PySem.Calls PyProof.Rows
theorem ints_of_wellAll:∀ ns vs,WellAll P h vs (ns.map WData.int)->IntsAre vs ns:=by
 intro ns
 induction ns with
 | nil =>
   intro vs w
   cases w
   exact .nil
 | cons n ns ih =>
   intro vs w
   cases w with
   | cons a b =>
     cases a
     exact .cons _ _ (ih _ b)
theorem script_of {l:OpenLaw} (hn:l.most=some n)
  (hpre:l.row.toRowW.claim.pre args=true) (hwl:WellAll P h vals args) :
  ∃ a vs ns,vals=[Value.ref a]/\args=[WData.list (ns.map WData.int)]/\h.get? a=some { cls:=.type "list",data:=.seq vs.toArray }/\IntsAre vs ns/\ns.length<=n:=by
 have hsh:=(pre_splitW hpre).1
 have hc:l.pre.holds [] { args:=args } = true:=(pre_splitW hpre).2
 obtain ⟨d,r,rfl,h1,h2⟩:=hasAllW_cons hsh
 obtain rfl:=hasAllW_nil h2
 obtain ⟨xs,rfl,h3⟩:=hasW_list h1
 obtain ⟨ns,rfl⟩:=items_int h3
 have hlen:ns.length<=n:=by
  have h4:(WTm.not (.lt (.lit (.int (n:Int))) (.len (.arg 0)))).holds [] { args:=[.list (ns.map .int)] } = true:=by
   have h4:=(holds_andW hc).1
   rw [hn] at h4
   exact h4
  have h5:=condW_of h4 (w_not (w_lt w_lit (w_len_list (w_arg rfl))))
  refine Nat.le_of_not_lt fun q=>?_
  first
   | (rw [decide_eq_true q'] at h5; exact absurd h5 (by decide))
   | (simp at h5; lia)
 cases hwl with
 | cons w1 w2 =>
   cases w2
   cases w1 with
   | list ho hall=>exact ⟨_,_,ns,rfl,rfl,ho,ints_of_wellAll ns _ hall,hlen⟩
theorem post_true (l:OpenLaw) args:l.row.toRowW.claim.post args (.bool true) args=true :=
 postW_of (r:=l.row.toRowW) (X:=(true == true))
  (show WShape.has [] (.bool true) .bool=true by first | rfl | decide | simp [WShape.has,WShape.arms,WShape.armsAll])
  (show (WTm.eq .res (.lit (.bool true))).value [] { args:=args,res:=some (.bool true),after:=args } = some (.bool (true == true)) from w_eq_bool (w_res rfl) w_lit) rfl
section
variable {K:Frag}
end
end Att
namespace L2
open PySem PySem.Spec PyProof.Rows
theorem vals_ints {vs:List Value} {ns:List Int} (h:IntsAre vs ns):Vals (ns.map V.int) vs:=h.rec .nil fun _ t _ _ _=>.cons ⟨t,rfl⟩
noncomputable def yJ (s:Stmt):Arguments:=match s with
 | .FunctionDef _ a _ _ _ _ _ _ _ _=>a
 | _=>{ posonlyargs:=[],args:=[],vararg:=none,kwonlyargs:=[],kw_defaults:=[],kwarg:=none,defaults:=[] }
noncomputable def jE (s:Stmt):List Stmt:=match s with
 | .FunctionDef _ _ b _ _ _ _ _ _ _=>b
 | _=>[]
noncomputable def zJ (s:Stmt):Scope:=match s with
 | .FunctionDef _ _ _ _ _ _ sc _ _ _=>sc
 | _=>{ kind:=.function,names:=[],isGenerator:=false,isCoroutine:=false }
abbrev CX0:CXT:=fun _ _ _ _ _ _=>False
abbrev E0:XK:=fun _ _ _=>False
theorem pass0:Passes CX0 X E0:=fun _ _ _ _ _ _ _ h=>h.elim
structure Fun (K:PySem.W.Frag) (x qual:Str) (st:Stmt) (f:Addr) (fd:FuncData):Prop where
 ex:∃ (oc:Value) (od:Option Addr) (kV doc pm:Value) (an:Option Addr) (cdv ct:Value) (osl:Array (Option Value)),
  fd=PySem.W.fnOf x qual (yJ st) (jE st) (zJ st) .none kV doc pm an cdv ct/\K.lookup f=some ⟨oc,od,.func fd,osl⟩/\PySem.W.codeIn K cdv qual=true
 kp:PySem.W.keepIn K (.ref f)=true
section
variable {K:PySem.W.Frag}
theorem Fun.ok {st:Stmt} (F:Fun K x qual st f fd) (S:FnScope N ps (zJ st)) (len:∀ vs H Q E,sp vs H Q E->vs.length=ps.length)
  (hbody:∀ cdv A outer s H vs Q E,Room k (A.deeper (envOfC qual (zJ st) s.heap.objs.size f cdv))->sp vs H Q E →
    ∃ t,PSs (cxOf CX0 P w K mg base N qual (zJ st) f cdv A outer s H E).nox (jE st) t/\t { nx:=fun _ H'=>Q .non H',rt:=Q } (start N vs) H):FnOk P w K mg base CX0 (k+1) f fd ps sp:=by
 obtain ⟨oc,od,kV,doc,pm,an,cdv,ct,osl,rfl,lk,hcd⟩:=F.ex
 refine fn_of lk hcd S len fun A outer s H vs Q E hr hsp=>?_
 obtain ⟨t,h,q⟩:=hbody cdv A outer s H vs Q E hr hsp
 exact ⟨t,h.nox,q⟩
theorem Fun.binds {st:Stmt} (F:Fun K x qual st f fd)
  (h:∀ kV doc pm an cdv ct us,us.length=ps.length->bindArgs (PySem.W.fnOf x qual (yJ st) (jE st) (zJ st) .none kV doc pm an cdv ct) ⟨us,[]⟩=pure (ps.zip us)):Binds K fd ps []:=by
 obtain ⟨oc,od,kV,doc,pm,an,cdv,ct,osl,rfl,lk,hcd⟩:=F.ex
 exact .all (h kV doc pm an cdv ct)
theorem fun_mk {st:Stmt} {kV doc pm cdv ct:Value} (l:K.lookup f=some ⟨oc,od,.func (PySem.W.fnOf x qual (yJ st) (jE st) (zJ st) .none kV doc pm an cdv ct),osl⟩)
  (c:PySem.W.codeIn K cdv qual=true) (k:PySem.W.keepIn K (.ref f)=true):Fun K x qual st f (PySem.W.fnOf x qual (yJ st) (jE st) (zJ st) .none kV doc pm an cdv ct):=⟨⟨oc,od,kV,doc,pm,an,cdv,ct,osl,rfl,l,c⟩,k⟩
end
section
theorem pv i (hN:X.N[i]? = some x:=by rfl) (hv:Vis X.env.scope x:=by first | exact Or.inl rfl | exact Or.inr (Or.inl rfl) | exact Or.inr (Or.inr rfl)) (hd:(x == ("__debug__" : Str))=false:=by decide)
  (hcd:(x == ("__classdict__" : Str))=false:=by decide):PE X (.Name x pos) (tVar i):=jG hN hv hd hcd
end
theorem iteF {A B:Prop} (h:B):if false=true then A else B:=by
 exact h
theorem iteT {A B:Prop} (h:A):if true=true then A else B:=by
 exact h
def Same (H H':Hp):Prop:=∀ b o,H b=some o->H' b=some o
theorem Same.refl H:Same H H:=fun _ _ h=>h
theorem Same.trans (a:Same H H1) (b:Same H1 H2):Same H H2:=fun c o h=>b c o (a c o h)
theorem Same.free (e:Same H H') (h:H' l=Option.none):H l=Option.none:=by
 cases q:H l with
 | none=>rfl
 | some o =>
   rw [e l o q] at h
   cases h
theorem Same.seq {K:PySem.W.Frag} (e:Same H H') (h:SqL K H a xs):SqL K H' a xs:=by
 rcases h with (h | ⟨o,h⟩) | h
 · exact .inl (.inl (e _ _ h))
 · exact .inl (.inr ⟨o,e _ _ h⟩)
 · exact .inr h
section
end
section
variable {κ : Type} [DecidableEq κ]
end
noncomputable def xR (env:Env):List (Str×NameKind)->List (Str×Addr)->List (Str×Addr)
 | [],cs=>cs
 | (n,k)::r,cs=>xR env r (if k == NameKind.free then (match env.cells.lookup n with | some c=>(n,c)::cs | none=>cs) else cs)
theorem closureFor_of (h:∀ y∈scope.names,y.2=NameKind.free->∃ c,env.cells.lookup y.1=some c):closureFor scope env=pure (xR env scope.names []):=by
 simp only [closureFor]
 generalize ([]:List (Str×Addr))=cs
 revert h cs
 generalize scope.names=l
 intro h
 induction l with
 | nil=>intro cs; rfl
 | cons y r ih =>
   intro cs
   obtain ⟨n,k⟩:=y
   have ihr:=ih fun z hz=>h z (List.mem_cons_of_mem _ hz)
   simp only [List.forIn_cons,xR]
   by_cases hk:k=NameKind.free
   · obtain ⟨c, hc⟩ := h (n, k) List.mem_cons_self hk
     have hc':=hc
     have hcell:cellOf env n=pure c:=by unfold cellOf; rw [hc']
     subst hk
     simp [hcell,hc',beq_self_eq_true,if_true,pure_bind,bind_pure_comp,map_pure,bind_assoc]
     first
      | exact ihr _
      | simpa using ihr _
   · have hb : (k == NameKind.free) = false := by simpa using hk
     simp [hb,Bool.false_eq_true,if_false,pure_bind]
     first
      | exact ihr _
      | simpa using ihr _
theorem closL_from:∀ l cs,(∀ x c,cs.lookup x=some c->env.cells.lookup x=some c)->∀ x c,(xR env l cs).lookup x=some c->env.cells.lookup x=some c
 | [],_,h=>h
 | (n, k) :: r, cs, h => by
   unfold xR
   refine closL_from r _ fun x c e=>?_
   split at e
   · cases hc : env.cells.lookup n with
     | none=>rw [hc] at e; exact h x c e
     | some c' =>
       rw [hc] at e
       simp only [List.lookup_cons] at e
       by_cases hx:x == n
       · rw [hx] at e
         cases e
         rw [beq_iff_eq] at hx
         rw [hx]
         exact hc
       · have hx' : (x == n) = false := by simpa using hx
         rw [hx'] at e
         exact h x c e
   · exact h x c e
theorem closL_keep:∀ l cs x,(∃ c,cs.lookup x=some c)->∃ c,(xR env l cs).lookup x=some c
 | [],_,_,h=>h
 | (n, k) :: r, cs, x, h => by
   unfold xR
   refine closL_keep r _ x ?_
   split
   · cases hc : env.cells.lookup n with
     | none=>exact h
     | some c' =>
       simp only [List.lookup_cons]
       by_cases hx:x == n
       · rw [hx]; exact ⟨_,rfl⟩
       · have hx' : (x == n) = false := by simpa using hx
         rw [hx']; exact h
   · exact h
theorem wF:∀ l cs x c,(x,NameKind.free)∈l->env.cells.lookup x=some c->∃ c,(xR env l cs).lookup x=some c
 | [],_,_,_,h,_=>nomatch h
 | (n, k) :: r, cs, x, c, h, hc => by
   unfold xR
   rcases List.mem_cons.mp h with e | e
   · cases e
     refine closL_keep r _ _ ?_
     simp only [beq_self_eq_true,if_true,hc,List.lookup_cons]
     exact ⟨_,rfl⟩
   · exact wF r _ x c e hc
theorem lookup_relabel_free {env:Env} : ∀ {names:List (Str×NameKind)} {x:Str},names.lookup x=some NameKind.free →
  (names.map fun (n,k)=>if (k == NameKind.free && env.scope.kind == .function && env.kindOf n == some .cell) then (n,NameKind.cell) else (n,k)).lookup x=some NameKind.cell ∨
  (names.map fun (n,k)=>if (k == NameKind.free && env.scope.kind == .function && env.kindOf n == some .cell) then (n,NameKind.cell) else (n,k)).lookup x=some NameKind.free
 | [],_,h=>by simp at h
 | (n, k) :: r, x, h => by
   have ih:=@lookup_relabel_free env r x
   simp only [List.map_cons]
   cases hx:x == n with
   | true =>
     simp only [List.lookup_cons,hx] at h
     cases h
     by_cases hc:(NameKind.free == NameKind.free && env.scope.kind == .function && env.kindOf n == some .cell)=true
     · rw [if_pos hc]; left; simp only [List.lookup_cons,hx]
     · rw [if_neg hc]; right; simp only [List.lookup_cons,hx]
   | false =>
     simp only [List.lookup_cons,hx] at h
     by_cases hc:(k == NameKind.free && env.scope.kind == .function && env.kindOf n == some .cell)=true
     · rw [if_pos hc]; simp only [List.lookup_cons,hx]; exact ih h
     · rw [if_neg hc]; simp only [List.lookup_cons,hx]; exact ih h
theorem xI {env:Env} : ∀ {names:List (Str×NameKind)} {x:Str} {k':NameKind},(∀ y∈names,y.2≠NameKind.cell) →
  (names.map fun (n,k)=>if (k == NameKind.free && env.scope.kind == .function && env.kindOf n == some .cell) then (n,NameKind.cell) else (n,k)).lookup x=some k'->(k'=NameKind.cell \/ k'=NameKind.free)->(x,NameKind.free)∈names
 | [],_,_,_,h,_=>by simp at h
 | (n, k) :: r, x, k', hn, h, hk => by
   have ih:=@xI env r x k' fun y hy=>hn y (List.mem_cons_of_mem _ hy)
   simp only [List.map_cons] at h
   cases hx:x == n with
   | true =>
     have ex:x=n:=by simpa using hx
     by_cases hc:(k == NameKind.free && env.scope.kind == .function && env.kindOf n == some .cell)=true
     · have:k=NameKind.free:=by
        simp only [Bool.and_eq_true,beq_iff_eq] at hc
        exact hc.1.1
       subst this; subst ex
       exact List.mem_cons_self
     · rw [if_neg hc] at h
       simp only [List.lookup_cons,hx] at h
       cases h
       rcases hk with hk | hk
       · exact absurd hk (hn (n,k) List.mem_cons_self)
       · subst hk; subst ex; exact List.mem_cons_self
   | false =>
     by_cases hc:(k == NameKind.free && env.scope.kind == .function && env.kindOf n == some .cell)=true
     · rw [if_pos hc] at h; simp only [List.lookup_cons,hx] at h; exact List.mem_cons_of_mem _ (ih h hk)
     · rw [if_neg hc] at h; simp only [List.lookup_cons,hx] at h; exact List.mem_cons_of_mem _ (ih h hk)
section
variable {X:Cx}
structure CI where
 C:Addr
 s:Shared
 H:Hp
 ex:List Addr
noncomputable def qS (X:Cx) (scope:Scope) (NY:List Str) (c:CI):Cx where
 prog:=X.prog
 w:=X.w
 K:=X.K
 mg:=X.mg
 base:=X.base
 A:=X.A
 N:=NY
 s₀:=c.s
 H₀:=c.H
 env:=compEnvC scope (xR X.env scope.names []) c.C X.env
 outer:=X.stack
 stack:=X.stack
 ex:=c.ex
 fn:=fun _=>false
 calm:=X.calm
 pn:=[]
 xe:=fun _ _=>False
theorem Inv.adopt (I:Inv X pins σ H s) (hn:H a=none) (young:X.s₀.heap.objs.size<=a) (hL:a≠X.env.locals)
  (hc:∀ x c,X.env.cells.lookup x=some c->c≠a) (hp:∀ p∈X.pn++pins,p.1≠a) (new:ObjOk X.prog X.w (upd H a o) s.heap a o):Inv X pins σ (upd H a o) s:=by
 have ne:∀ {b:Addr} {u:HO},H b=some u->b≠a:=fun e z=>by rw [z,hn] at e; cases e
 refine ⟨I.ok,I.os,I.bare,⟨I.base.keep,I.base.slot,fun b ob q n hx=>?_,I.base.there,fun b xs q=>?_,fun b ob u q=>?_,fun b ps q=>?_⟩,I.loc,I.cell,?_,fun x c e=>?_,fun p hpm=>?_,fun b u e=>?_,I.len⟩
 · rw [upd_ne (Nat.ne_of_lt (Nat.lt_of_lt_of_le (Heap.lt_size q) young))]
   exact I.base.free b ob q n hx
 · have := I.base.tups b xs q
   rw [upd_ne (ne this)]; exact this
 · have := I.base.frzs b ob u q
   rw [upd_ne (ne this)]; exact this
 · have := I.base.tbls b ps q
   rw [upd_ne (ne this)]; exact this
 · rw [upd_ne (Ne.symm hL)]; exact I.free
 · have := I.freeC x c e
   unfold FreeC at this ⊢
   rw [upd_ne (hc x c e)]; exact this
 · obtain ⟨h1, h2, h3⟩ := I.pin p hpm
   exact ⟨h1,by rw [upd_ne (hp p hpm)]; exact h2,h3⟩
 · by_cases hb : b = a
   · subst hb; rw [upd_same] at e; cases e; exact new
   · rw [upd_ne hb] at e
     exact (I.hok b u e).stay (fun c v _ q=>q) (fun c q=>by rw [upd_ne (ne q)]; exact q) fun c xs q=>by rw [upd_ne (ne q)]; exact q
def PF (X:Cx) (ifs:List Expr) (t:TT):Prop :=
 ∀ (pins:List (Addr×Obj)) (s:Shared) (σ : St) (H:Hp) (Q:Bool->Hp->Prop),Inv X pins σ H s->t σ H Q →
  wpAny (model X.prog X.w) X.A (forIn ifs true fun c r=>if r=true then do let ok <- isTrue c X.env (eval c X.env); pure (ForInStep.yield ok) else pure (ForInStep.yield r)) (TP X pins σ Q) X.xe s
def tNoIf:TT:=fun _ H Q=>Q true H
theorem pf_nil:PF X [] tNoIf:=fun _ _ _ H _ I h=>wpAny_tests_nil ⟨H,I,h⟩
theorem pf_one (h:PT X c t):PF X [c] t:=fun pins s σ H Q I q=>wpAny_tests_one (h pins s σ H Q I q)
noncomputable def slotsY (mp:List (Option Nat)) (σ : St):St:=mp.map fun o=>o.bind fun j=>σ[j]?.join
def tCompK (J:It) (mp:List (Option Nat)) (g:CI->TG) (tt:CI->TT) (te:CI->TE) (σ : St) (H1:Hp) (R:List V->Hp->Prop):Prop :=
 ∀ c:CI,∃ W:Nat->Nat->List V->Hp->Prop,(∃ m,W 0 m [] H1)/\∀ i m ys H,W i m ys H →
  (J.stop i H/\R ys H) ∨
  (J.go i H/\ys.length < sizeLine/\∀ x H',J.yld i H x H'->g c x (slotsY mp σ) H' fun σ2 H2=>tt c σ2 H2 fun b H3 =>
    if b=true then te c σ2 H3 fun y H4=>∃ m',m' < m/\W (i+1) m' (ys++[y]) H4 else ∃ m',m' < m/\W (i+1) m' ys H3)
def tComp (wi:TI) (mp:List (Option Nat)) (g:CI->TG) (tt:CI->TT) (te:CI->TE):TE:=fun σ H Q=>wi σ H fun J H1 =>
 tCompK J mp g tt te σ H1 fun ys H'=>ys.length<=sizeLine/\∀ p,H' p=none->Q (.ref p) (upd H' p (.lst ys))
structure CompScope (X:Cx) (scope:Scope) (NY:List Str) (mp:List (Option Nat)):Prop where
 kind:scope.kind = .function
 nocell:∀ y∈scope.names,y.2≠.cell
 names:∀ y∈scope.names,y.2 = .local->scope.names.lookup y.1=some .local
 free:∀ y∈scope.names,y.2 = .free->(X.env.kindOf y.1=some .cell \/ X.env.kindOf y.1=some .free)
 len:mp.length=NY.length
 map:∀ (i:Nat) (x:Str) (j:Nat),NY[i]? = some x->mp[i]? = some (some j)->X.N[j]? = some x/\scope.names.lookup x=some .free
theorem compLoop_own (hZ:∀ e s,Z e s->notedBy (model prog w) A env (fun x s'=>R (.error x) s') e s) (I:Nat->Shared->Prop)
  (turn:∀ n s,I n s->wpAny (model prog w) A (pyNext it) (fun r s₁=>match r with
    | none=>R (.ok .next) s₁
    | some v=>wpAny (model prog w) A (letOwnedTupleGo target it v) (fun _ s₁'=>wpAny (model prog w) A (assign target env v) (fun _ s₂ =>
       wpAny (model prog w) A (forIn ifs true fun c r=>if r=true then do let ok <- isTrue c env (eval c env); pure (ForInStep.yield ok) else pure (ForInStep.yield r)) (fun ok s₃ =>
        if ok=true then wpAny (model prog w) A (eval elt env) (fun x s₄ =>
         wpAny (model prog w) A (call (.builtin "list.append") [acc,x]) (fun _ s₅=>∃ m,m < n/\I m s₅) (fun _ _=>False) s₄) Z s₃
        else ∃ m,m < n/\I m s₃) (fun _ _=>False) s₂) (fun _ _=>False) s₁') (fun _ _=>False) s₁) (fun _ _=>False) s)
  n (h:I n s) :
  codeAny (model prog w) A (.compLoop (.ListComp elt [⟨target,iter,ifs,0⟩] scope pos) 0 it acc env) R s:=by
 refine codeAny_loop rfl I (fun n s hI=>?_) n h
 show wpAny _ A ((compTurn (.ListComp elt [⟨target,iter,ifs,0⟩] scope pos) 0 it acc env).onRaise (fun x=>do noteFrame x env; theTreesLotGoes x)) _ _ s
 refine wpAny_noted ?_
 rw [compTurn_list]
 refine wpAny_bind (wpAny_standAt (wpAny_bind (wpAny_mono (turn n s hI) (fun r s₁ h₁=>?_) fun _ _ h'=>h'.elim)))
 cases r with
 | none=>exact wpAny_pure h₁
 | some v =>
   refine wpAny_bind (wpAny_mono h₁ (fun _ s₁' h₁'=>?_) fun _ _ h'=>h'.elim)
   refine wpAny_bind (wpAny_mono h₁' (fun _ s₂ h₂=>wpAny_bind (wpAny_mono h₂ (fun ok s₃ h₃=>?_) fun _ _ h'=>h'.elim)) fun _ _ h'=>h'.elim)
   cases ok with
   | false=>exact wpAny_pure ⟨rfl,h₃⟩
   | true =>
     exact wpAny_bind (wpAny_bind (wpAny_mono h₃ (fun x s₄ h₄=>wpAny_bind (wpAny_mono h₄ (fun _ s₅ h₅=>wpAny_pure (wpAny_pure ⟨rfl,h₅⟩)) fun _ _ h'=>h'.elim)) fun e s' h'=>hZ e s' h'))
theorem comp_block {iter:Expr}
  {RR:Value->Addr->Result->Shared->Prop}
  {WW:CI->Value->Shared->Prop} (S:CompScope X scope NY mp) (hc:∀ c,c.H=H->cm (qS X scope NY c)) (I:Inv X pins σ H s₂) (T:Turn X.prog X.w X.K tg J fp it tn cm) (st:tn 0 s₂.heap) (hf:∀ b∈fp,FpOk X pins H b)
  (hg:∀ c,PG (qS X scope NY c) tg (g c)) (ht:∀ c,PF (qS X scope NY c) ifs (tt c)) (he:∀ c,PE ((qS X scope NY c).wish (WW c)) elt (te c))
  (err:∀ c,X.s₀.heap.objs.size<=c.C->c.C ∉ frs X.stack->(∀ pl σ' H' s1,Inv (qS X scope NY c) pl σ' H' s1->Inv X pins σ H' s1)->∀ e s',WW c e s'->notedBy (model X.prog X.w) X.A (qS X scope NY c).env (fun x s''=>RR (.ref s₂.heap.objs.size) c.C (.error x) s'') e s')
  (h:tCompK J mp g tt te σ H R)
  (fin:∀ s' C m ys H',R ys H'->H' s₂.heap.objs.size=none->H' C=none->C≠s₂.heap.objs.size->s'.heap.Ns C m →
    (ys.length<=sizeLine->Inv X pins σ (upd H' s₂.heap.objs.size (.lst ys)) s') →
    (C≠X.env.locals/\X.s₀.heap.objs.size<=C/\(∀ x c,X.env.cells.lookup x=some c->c≠C)/\∀ p∈X.pn++pins,p.1≠C)->RR (.ref s₂.heap.objs.size) C (.ok .next) s') :
  wpAny (model X.prog X.w) X.A (newList []) (fun acc s₃=>wpAny (model X.prog X.w) X.A (newFunctionEnv scope X.env.globals (xR X.env scope.names []) [] X.env.qual none .none (some X.env)) (fun cenv s₄ =>
   codeAny (model X.prog X.w) X.A (.compStart (.ListComp elt [⟨tg,iter,ifs,0⟩] scope pos) 0 (.ref it) acc { cenv with scope:=relabel scope X.env }) (RR acc cenv.locals) s₄) E s₃) E s₂:=by
 refine wpAny_newObj_type (wpAny_newFunctionEnv S.nocell (by intro y hy; simp at hy) (fun h₁ hns₁ hsb₁=>?_) S.kind)
 generalize hH2:s₂.heap.push { cls:=.type "list",dict:=none,data:=.seq ([]:List Value).toArray } = H2 at hns₁ hsb₁ ⊢
 have hC:(H2.objs.size:Nat)=s₂.heap.objs.size+1:=by rw [<- hH2,Heap.size_push]
 generalize hDd:s₂.heap.objs.size=D at fin err hC ⊢
 generalize hCC:H2.objs.size=C at hns₁ hsb₁ hC ⊢
 have hDC:D≠C:=fun z=>absurd (z.trans hC) (Nat.ne_of_lt (Nat.lt_succ_self _))
 have ltC:∀ {b:Addr},b < D->b≠C:=fun {b} h=>Nat.ne_of_lt (Nat.lt_of_lt_of_eq (Nat.lt_succ_of_lt h) hC.symm)
 have ltD:∀ {b:Addr},b < D->b≠D:=fun {b} h=>Nat.ne_of_lt h
 have hlt:∀ {b:Addr} {o:Obj},s₂.heap.get? b=some o->(b:Nat) < D:=fun e=>hDd ▸ Heap.lt_size e
 have k2:∀ b o,s₂.heap.get? b=some o->H2.get? b=some o:=fun b o e=>hH2 ▸ Heap.get?_push_of_some _ e
 have k1:∀ b o,H2.get? b=some o->h₁.get? b=some o:=fun b o e=>by
  have hb:=hCC ▸ Heap.lt_size e
  exact hsb₁.extBut b o (Nat.ne_of_lt hb) (Heap.get?_push_of_some _ e)
 have fr:∀ a,D<=a->H a=none:=fun a ha=>I.hok.fresh (hDd ▸ ha)
 have accP:h₁.PlainList D #[]:=⟨_,k1 _ _ (by rw [<- hH2,<- hDd]; exact Heap.get?_push_size _ rfl)⟩
 have fpo:=fun b hb=>let ⟨o,e,_⟩:=T.obj 0 _ st b hb; hlt e
 have clF:∀ x c,(xR X.env scope.names []).lookup x=some c->X.env.cells.lookup x=some c:=closL_from _ _ fun x c e=>nomatch e
 have cellLt:∀ x c,X.env.cells.lookup x=some c->(c:Nat) < D:=fun x c e=>by
  obtain ⟨v,o,ho,_⟩:=I.cell x c e
  exact hlt ho
 have locLt:=hDd ▸ I.lt
 have stkLt:∀ b∈frs X.stack,(b:Nat) < D:=fun b hb=>by
  obtain ⟨_,o,ho,_⟩:=I.stack.mem hb
  exact hlt ho
 have fpStk:∀ b∈fp,b ∉ frs X.stack:=fun b hb z=>by
  obtain ⟨_,f1,f2,_⟩:=hf b hb
  rcases List.mem_cons.mp (I.stkSub b z) with q | q
  · exact f1 q
  · exact f2 q
 have pinLt:=fun p hp=>hlt (I.pin p hp).1
 let Y:Cx:=qS X scope NY ⟨C,{ s₂ with heap:=H2 },H,D::fp⟩
 obtain ⟨W,⟨m0,w0⟩,turn⟩:=h ⟨C,{ s₂ with heap:=H2 },H,D::fp⟩
 have okY:Y.Ok:=by
  refine ⟨I.ok.mod,S.kind,I.ok.glob,I.ok.blt,Nat.le_of_eq hCC,fun x y c h1 h2=>I.ok.inj x y c (clF _ _ h1) (clF _ _ h2),fun x hx=>?_,fun x c hfn=>absurd hfn (by intro z; cases z),I.ok.hd,I.ok.frames,.inl rfl,fun b hb=>?_,fun b o e=>?_,?_,fun b o e=>?_,fun b hb=>?_,?_,I.stkFree⟩
  · have hx':(x,NameKind.free)∈scope.names:=by
     rcases hx with hx | hx
     · exact xI S.nocell hx (.inl rfl)
     · exact xI S.nocell hx (.inr rfl)
    obtain ⟨c,e⟩:=I.ok.has x (S.free _ hx' rfl)
    exact wF _ _ x c hx' e
  · rcases List.mem_cons.mp hb with z | z
    · subst z
      exact ⟨hDC,fun x c e q=>absurd (cellLt x c (clF x c e)) (by rw [q]; exact Nat.lt_irrefl _)⟩
    · have := fpo b z
      exact ⟨ltC this,fun x c e q=>(hf b z).2.2.2.2.1 x c (clF x c e) q⟩
  · have := I.bs b o e
    exact ⟨k2 b o this.1,this.2⟩
  · refine ⟨?_, I.tabsH⟩
    show (X.base.objs.size:Nat)<=H2.objs.size
    have h1:=Nat.le_trans I.ok.bsz.1 I.sz
    lia
  · have hb := I.bs b o e
    have hb':=hlt hb.1
    intro z
    rcases List.mem_cons.mp z with z | z
    · rw [z] at hb'; exact Nat.lt_irrefl _ hb'
    · rcases (hf b z).2.2.2.1 with q | q
      · exact I.ok.noex b o e q
      · exact absurd (Nat.lt_of_lt_of_le (Heap.lt_size (I.ok.bs b o e).1) q) (Nat.lt_irrefl _)
  · rcases List.mem_cons.mp hb with z | z
    · subst z
      exact fun q=>absurd (stkLt _ q) (Nat.lt_irrefl _)
    · exact fpStk b z
  · exact I.stack.of_keeps fun b o e _=>⟨o,k2 b o e,rfl⟩
 have capt:∀ (i:Nat) (x:Str) (v:V),NY[i]? = some x->(slotsY mp σ)[i]? = some (some v)->∃ u c,RelV v u/\(Y.env.kindOf x=some .cell \/ Y.env.kindOf x=some .free)/\Y.env.cells.lookup x=some c/\H2.IsCell c (some u)/\(H c=none \/ ∃ o u,H c=some (.frz o u))/\c ∉ D::fp:=by
  intro i x v e1 e2
  have e2':(mp[i]?.map fun o=>o.bind fun j=>σ[j]?.join)=some (some v):=by
   unfold slotsY at e2
   rwa [List.getElem?_map] at e2
  cases hm:mp[i]? with
  | none=>rw [hm] at e2'; cases e2'
  | some o =>
    rw [hm] at e2'
    cases o with
    | none=>simp at e2'
    | some j =>
      simp only [Option.map_some,Option.bind_some,Option.some.injEq] at e2'
      have e4 : σ[j]? = some (some v):=by
       cases hs : σ[j]? with
       | none=>rw [hs] at e2'; cases e2'
       | some q=>rw [hs] at e2'; simp at e2'; rw [e2']
      obtain ⟨hXj,hfr⟩:=S.map i x j e1 hm
      have hmem:=PySem.mem_of_lookup hfr
      have hk:=S.free _ hmem rfl
      obtain ⟨m,hn,hl⟩:=I.loc
      obtain ⟨u,ru,l⟩:=hl j x v hXj e4 (hk.elim (fun z=>.inr (.inl z)) fun z=>.inr (.inr z))
      have hlook:∃ c,X.env.cells.lookup x=some c/\s₂.heap.IsCell c (some u):=by
       rcases l with ⟨kl,_⟩ | ⟨_,c,ec,hcell⟩
       · rcases hk with q | q
         · exact absurd (kl.symm.trans q) (by intro z; cases z)
         · exact absurd (kl.symm.trans q) (by intro z; cases z)
       · exact ⟨c,ec,hcell⟩
      obtain ⟨c,ec,oc,hoc,hocd⟩:=hlook
      obtain ⟨c',ec'⟩:=wF (env:=X.env) scope.names [] x c hmem ec
      have:=Option.some.inj ((clF x c' ec').symm.trans ec)
      subst this
      refine ⟨u,c',ru,lookup_relabel_free hfr,ec',⟨oc,k2 _ _ hoc,hocd⟩,(I.freeC x c' ec).imp id And.right,fun z=>?_⟩
      rcases List.mem_cons.mp z with z | z
      · have:=cellLt x c' ec; rw [z] at this; exact Nat.lt_irrefl _ this
      · exact (hf c' z).2.2.2.2.1 x c' ec rfl
 have lenY:(slotsY mp σ).length=NY.length:=by
  unfold slotsY
  rw [List.length_map]
  exact S.len
 have I0:∀ tk,Inv Y [] (slotsY mp σ) H { s₂ with heap:=h₁,toks:=tk }:=by
  intro tk
  refine ⟨okY,rfl,I.bare,Un.kept k1,⟨_,hns₁,fun i x v e1 e2 e3=>?_⟩,fun x c e=>?_,fr C (by show (D:Nat)<=C; lia),fun x c e=>(I.freeC x c (clF x c e)).imp id fun z=>⟨rfl,z.2⟩,fun p hp=>absurd (show p∈([]:List (Addr×Obj)) from hp) (by simp),I.hok.kept fun b o e=>k1 b o (k2 b o e),lenY⟩
  · obtain ⟨u, c, ru, hk, ec, ⟨oc, hoc, hocd⟩, _⟩ := capt i x v e1 e2
    exact ⟨u,ru,.inr ⟨hk,c,ec,oc,k1 _ _ hoc,hocd⟩⟩
  · obtain ⟨v, o, ho, hd⟩ := I.cell x c (clF x c e)
    exact ⟨v,o,k1 _ _ (k2 _ _ ho),hd⟩
 have stat:∀ {H':Hp} {pl:List (Addr×Obj)},(∀ p∈pl,p.1 ∉ fp)->(∀ b∈fp,H' b=none)->∀ b∈fp,FpOk Y pl H' b:=fun hpl hn b hb=>by
  have hbD:=fpo b hb
  refine ⟨hn b hb,ltC hbD,fpStk b hb,.inl (List.mem_cons_of_mem _ hb),fun x c e=>(hf b hb).2.2.2.2.1 x c (clF x c e),fun p hp z=>hpl p (show p∈_ from hp) (z ▸ hb)⟩
 have dN:D ∉ Y.fs:=fun q=>absurd (stkLt _ q) (Nat.lt_irrefl _)
 have dFp:D ∉ fp:=fun q=>absurd (fpo _ q) (Nat.lt_irrefl _)
 have plD:∀ (o:Obj),∀ p∈[(D,o)],p.1 ∉ fp:=fun o p hp=>by
  have e:p=(D,o):=by simpa using hp
  rw [e]; exact dFp
 have toX:∀ pl σ' H3 s4,Inv Y pl σ' H3 s4->Inv X pins σ H3 s4:=fun pl σ' H3 s4 I4=>by
  have u:Un (frs X.stack) fp H H3 s₂.heap s4.heap:=by
   have B:=I4.base
   have nx:∀ {b:Addr} {o:Obj},s₂.heap.get? b=some o->b ∉ fp->b ∉ D::fp:=fun e hb z=>by
    rcases List.mem_cons.mp z with z | z
    · have:=hlt e; rw [z] at this; exact Nat.lt_irrefl _ this
    · exact hb z
   exact ⟨fun b o q n hb hx=>B.keep b o (k2 b o q) n hb (nx q hx),fun b o q n hb hx=>B.slot b o (k2 b o q) n hb (nx q hx),fun b o q n hx=>B.free b o (k2 b o q) n (nx q hx),fun b o q hx=>B.there b o (k2 b o q) (nx q hx),B.tups,B.frzs,B.tbls⟩
  exact I.call' I4.os u I4.hok I4.bare fun b hb=>⟨(hf b hb).2.2.2.1,(hf b hb).2.1,(hf b hb).2.2.2.2.1,(hf b hb).2.2.2.2.2⟩
 have keyC:∀ (tk:Nat) (it':Value),it' = .ref it->codeAny (model X.prog X.w) X.A (.compLoop (.ListComp elt [⟨tg,iter,ifs,0⟩] scope pos) 0 it' (.ref D) Y.env) (RR (.ref D) C) { s₂ with heap:=h₁,toks:=tk }:=by
  rintro tk _ rfl
  refine compLoop_own (Z:=WW ⟨C,{ s₂ with heap:=H2 },H,D::fp⟩) (fun e s' z=>err ⟨C,{ s₂ with heap:=H2 },H,D::fp⟩ (by have:(X.s₀.heap.objs.size:Nat)<=D:=hDd ▸ I.sz; show (X.s₀.heap.objs.size:Nat)<=C; lia) (fun q=>absurd (stkLt _ q) (by show ¬ (C:Nat) < D; lia)) toX e s' z) (fun n s'=>∃ i ys H' its,Inv Y [] (slotsY mp σ) H' s'/\tn i s'.heap/\(∀ b∈fp,H' b=none)/\H' D=none/\s'.heap.PlainList D its/\Vals ys its.toList/\W i n ys H') ?_ m0
   ⟨0,[],H,#[],I0 tk,T.keep 0 _ _ st fun b _ o e=>k1 b o (k2 b o e),fun b hb=>(hf b hb).1,fr D (Nat.le_refl _),accP,.nil,w0⟩
  rintro n s3 ⟨i,ys,H3,its,I3,st3,fr3,d3,⟨kk,pl3⟩,rv3,w3⟩
  have I3':Inv Y [(D,{ cls:=.type "list",data:=.seq its kk })] (slotsY mp σ) H3 s3:=I3.pins_of fun p hp=>by
   have e:p=(D,{ cls:=.type "list",data:=.seq its kk }):=by simpa using hp
   subst e
   exact ⟨pl3,d3,hDC,dN,fun v z=>nomatch (show Data.seq its kk=Data.cell v from z)⟩
  rcases turn i n ys H3 w3 with ⟨stop,qn⟩ | ⟨go,hsz,step⟩
  · refine thn (T.done Y rfl rfl rfl (hc ⟨C, { s₂ with heap := H2 }, H, D :: fp⟩ rfl) i _ s3 _ H3 _ I3' (stat (plD _) fr3) st3 stop) fun r s4 zq => ?_
    obtain ⟨hr,I4⟩:=zq
    subst hr
    have hD4:s4.heap.get? D=some { cls:=.type "list",data:=.seq its kk }:=(I4.pin (D,_) (by simp)).1
    have J4:Inv X pins σ H3 s4:=toX _ _ _ _ I4
    obtain ⟨m4,hn4,_⟩:=I4.loc
    refine fin s4 C m4 ys H3 qn d3 I4.free (Ne.symm hDC) hn4 (fun hz=>?_) ⟨(ltC locLt).symm,?_,fun x c e=>?_,fun p hp=>?_⟩
    · refine J4.adopt d3 ?_ (ltD locLt).symm (fun x c e => ?_) (fun p hp => ?_) ⟨hz, its.toList, kk, rv3, hD4⟩
      · exact hDd ▸ I.sz
      · exact ltD (cellLt x c e)
      · exact ltD (pinLt p hp)
    · have : (X.s₀.heap.objs.size : Nat) <= D := hDd ▸ I.sz
      show (X.s₀.heap.objs.size:Nat)<=C
      lia
    · exact ltC (cellLt x c e)
    · exact ltC (pinLt p hp)
  · refine thn (T.item Y rfl rfl rfl (hc ⟨C, { s₂ with heap := H2 }, H, D :: fp⟩ rfl) i _ s3 _ H3 _ I3' (stat (plD _) fr3) st3 go) fun r s4 zq => ?_
    obtain ⟨u,hr,h4⟩:=zq
    subst hr
    refine thn h4 fun _ s5 zq=>?_
    obtain ⟨x,H5,I5,r5,y5,st5,fr5⟩:=zq
    have I5':=I5.pinned (stat (plD _) fr5) (T.obj _ _ st5)
    refine thn (hg _ _ s5 _ H5 x u _ I5' r5 (step x H5 y5)) fun _ s6 zq=>?_
    obtain ⟨σ6,H6,I6,q6⟩:=zq
    refine thn (ht _ _ s6 σ6 H6 _ I6 q6) fun ok s7 zq=>?_
    obtain ⟨H7,I7,q7⟩:=zq
    have back:∀ {s8:Shared} {σ8:St} {H8:Hp},Inv Y ([(D,{ cls:=.type "list",data:=.seq its kk })]++pinsAt fp s5.heap) σ8 H8 s8 →
      tn (i+1) s8.heap/\(∀ b∈fp,H8 b=none)/\H8 D=none/\s8.heap.get? D=some { cls:=.type "list",data:=.seq its kk }:=fun {s8 σ8 H8} I8=>by
     refine ⟨T.keep _ _ _ st5 fun b hb o e=>(I8.pin (b,o) (List.mem_append_right _ (List.mem_append_right _ (yP hb e)))).1,fun b hb=>?_,?_,?_⟩
     · obtain ⟨o, e, d⟩ := T.obj _ _ st5 b hb
       exact (I8.pin (b,o) (List.mem_append_right _ (List.mem_append_right _ (yP hb e)))).2.1
     · exact (I8.pin (D,_) (List.mem_append_right _ (List.mem_append_left _ (List.mem_singleton.mpr rfl)))).2.1
     · exact (I8.pin (D,_) (List.mem_append_right _ (List.mem_append_left _ (List.mem_singleton.mpr rfl)))).1
    have drop:∀ {s8:Shared} {σ8:St} {H8:Hp} {pl:List (Addr×Obj)},Inv Y pl σ8 H8 s8->Inv Y [] (slotsY mp σ) H8 s8:=fun {s8 σ8 H8 pl} I8=>by
     obtain ⟨m8,hn8,_⟩:=I8.loc
     refine ⟨I8.ok,I8.os,I8.bare,I8.base,⟨m8,hn8,fun i x v e1 e2 e3=>?_⟩,I8.cell,I8.free,I8.freeC,fun p hp=>absurd (show p∈([]:List (Addr×Obj)) from hp) (by simp),I8.hok,lenY⟩
     obtain ⟨u,c,ru,hk,ec,⟨oc,hoc,hocd⟩,hn,hx⟩:=capt i x v e1 e2
     rcases hn with hn | ⟨ob,ub,hn⟩
     · obtain ⟨sl, e⟩ := I8.base.any hoc hn hx
       exact ⟨u,ru,.inr ⟨hk,c,ec,_,e,hocd⟩⟩
     · obtain ⟨e1, _⟩ := I.hok c _ hn
       obtain ⟨e2,_⟩:=I8.hok c _ (I8.base.frzs c ob ub hn)
       have e3:=k2 _ _ e1
       rw [hoc] at e3; cases e3
       exact ⟨u,ru,.inr ⟨hk,c,ec,oc,e2,hocd⟩⟩
    cases ok with
    | false =>
      obtain ⟨m',hm',w'⟩:=q7
      obtain ⟨b1,b2,b3,b4⟩:=back I7
      exact ⟨m',hm',i+1,ys,H7,its,drop I7,b1,b2,b3,⟨kk,b4⟩,rv3,w'⟩
    | true =>
      refine thn (he _ _ s7 σ6 H7 _ (I7.wish _) q7) fun y s8 zq=>?_
      obtain ⟨yv,H8,I8w,r8,q8⟩:=zq
      have I8:=I8w.unwish
      obtain ⟨b1,b2,b3,b4⟩:=back I8
      have hl:ys.length=its.size:=by simpa using rv3.length
      refine wpAny_list_append_plain (items:=its) ⟨kk,b4⟩ (fun h' pl' sb=>?_) (by lia)
      obtain ⟨m',hm',w'⟩:=q8
      have I9:Inv Y [] (slotsY mp σ) H8 { s8 with heap:=h' }:=(drop I8).turned (it:=D) (t':=s8.toks) (fun b o hb e=>(sb.2 b hb).trans e) b3 hDC (.inl List.mem_cons_self) (fun x c e=>ltD (cellLt x c (clF x c e))) fun p hp=>absurd (show p∈([]:List (Addr×Obj)) from hp) (by simp)
      refine ⟨m',hm',i+1,ys++[yv],H8,its.push y,I9,?_,b2,b3,pl',?_,w'⟩
      · exact T.keep _ _ _ b1 fun b hb o e=>(sb.2 b (fun z=>dFp (z ▸ hb))).trans e
      · rw [Array.toList_push]
        exact rv3.append (.cons r8 .nil)
 exact codeAny_compStart_list (keyC _ _ rfl) (T.self _ 0 _ _ _ (T.keep 0 _ _ st fun b _ o e=>k1 b o (k2 b o e)) (keyC _ _ rfl))
theorem pe_compC {iter:Expr}
  (S:CompScope X scope NY mp) (hc:∀ pins σ H s,Inv X pins σ H s->∀ c,c.H=H->cm (qS X scope NY c)) (hi:PI X tg iter wi cm)
  (hg:∀ c,PG (qS X scope NY c) tg (g c)) (ht:∀ c,PF (qS X scope NY c) ifs (tt c)) (he:∀ c,PE (qS X scope NY c) elt (te c))
  (hs:∀ x,foldedSetIterable iter X.env x=pure x:=by intro _; rfl):PE X (.ListComp elt [⟨tg,iter,ifs,0⟩] scope pos) (tComp wi mp g tt te):=by
 intro pins s σ H Q I h
 refine wpAny_comprehension_free rfl hs (closureFor_of fun y hy hk=>I.ok.has y.1 (S.free y hy hk)) S.kind S.names (thn (hi pins s σ H _ I h) fun v s1 h1=>thn h1 fun itv s2 h2=>?_)
 obtain ⟨it,fp,tn,J,H2,e,I2,T,st2,f2,hk⟩:=h2
 subst e
 refine comp_block S (hc _ _ _ _ I2) I2 T st2 f2 hg ht he (fun _ _ _ _ _ _ z=>z.elim) hk ?_
 intro s' C m ys H' q hD hC hCD hn hI hct
 refine ⟨m,hn,fun h' sb=>?_⟩
 have J':=hI q.1
 refine ⟨.ref s2.heap.objs.size,_,J'.turned (fun b o hb e=>(sb.2 b hb).trans e) (by rw [upd_ne hCD]; exact hC) hct.1 (.inr hct.2.1) hct.2.2.1 hct.2.2.2,rfl,q.2 _ hD⟩
theorem pe_comp {iter:Expr}
  (S:CompScope X scope NY mp) (hc:X.calm=true) (hi:PI X tg iter wi)
  (hg:∀ c,PG (qS X scope NY c) tg (g c)) (ht:∀ c,PF (qS X scope NY c) ifs (tt c)) (he:∀ c,PE (qS X scope NY c) elt (te c))
  (hs:∀ x,foldedSetIterable iter X.env x=pure x:=by intro _; rfl):PE X (.ListComp elt [⟨tg,iter,ifs,0⟩] scope pos) (tComp wi mp g tt te):=pe_compC S (fun _ _ _ _ _ _ _=>hc) hi hg ht he hs
def tCompS (wi:TI) (mp:List (Option Nat)) (g:CI->TG) (tt:CI->TT) (te:CI->TE) (i:Nat):TS:=fun D σ H=>tComp wi mp g tt te σ H fun v H1=>D.nx (σ.set i (some v)) H1
theorem ps_comp {iter:Expr}
  (hN:X.N.Nodup) (hy:X.N[i]? = some y) (hl:X.env.scope.names.lookup y=some .local)
  (hsw:swapsWith (.ListComp elt [⟨tg,iter,ifs,0⟩] scope pos) (some (.Name y py)) spos.line X.env=pure true)
  (S:CompScope X scope NY mp) (hc:X.calm=true) (hi:PI X tg iter wi)
  (hg:∀ c,PG (qS X scope NY c) tg (g c)) (ht:∀ c,PF (qS X scope NY c) ifs (tt c)) (he:∀ c,PE (qS X scope NY c) elt (te c))
  (hs:∀ x,foldedSetIterable iter X.env x=pure x:=by intro _; rfl):PS X (.Assign [.Name y py] (.ListComp elt [⟨tg,iter,ifs,0⟩] scope pos) spos) (tCompS wi mp g tt te i):=by
 intro pins s σ H D I h
 rw [exec_Assign_Name_used _ _ _ _ hsw]
 refine wpAny_bind (wpAny_standAt (wpAny_bind ?_))
 refine wpAny_bind (wpAny_mono (wpAny_comprehension_free rfl hs (closureFor_of fun y hy hk=>I.ok.has y.1 (S.free y hy hk)) S.kind S.names
  (thn (hi pins s σ H _ I h) fun v s1 h1=>thn h1 fun itv s2 h2=>?_)) (fun _ s' hq=>wpAny_pure (wpAny_pure hq)) fun _ _ e=>e)
 obtain ⟨it,fp,tn,J,H2,e,I2,T,st2,f2,hk⟩:=h2
 subst e
 refine comp_block S (fun _ _=>hc) I2 T st2 f2 hg ht he (fun _ _ _ _ _ _ z=>z.elim) hk ?_
 intro s' C m ys H' q hD hC hCD hn hI hct
 have J':=hI q.1
 refine wpAny_assign_Name (store_ok2 J' hN hy (.inl hl) (v:=.ref s2.heap.objs.size) rfl (fun s'' I'' sb=>?_) (.inr hl))
 obtain ⟨a,sba,ha⟩:=sb
 have haC:C≠a:=by
  rcases ha with rfl | ha
  · exact hct.1
  · exact fun z=>hct.2.2.1 _ _ ha z.symm
 refine ⟨m,hn.sameBut sba haC,fun h' sb'=>?_⟩
 exact ⟨_,_,I''.turned (fun b o hb e=>(sb'.2 b hb).trans e) (by rw [upd_ne hCD]; exact hC) hct.1 (.inr hct.2.1) hct.2.2.1 hct.2.2.2,q.2 _ hD⟩
end
end L2
namespace TS
open PySem PyProof.Rows
noncomputable def ky (p:Keyed):Int:=numOf p.1
def IsI (p:Keyed):Prop:=∃ n t,p.1 = .int n t
structure TB (a₀ : Array Keyed) (st:SortSt):Prop where
 pm:(arrOf st).Perm a₀
 kd:kindOf st=oneType'
 nf:failedOf st=none
def Seg (xs:Array Keyed) (i j:Nat):Prop:=∀ p q,i<=p->p<=q->q < j->K xs p<=K xs q
def Dsc (xs:Array Keyed) (i j:Nat):Prop:=∀ p q,i<=p->p<=q->q < j->K xs q<=K xs p
def Ch (xs ys:Array Keyed) (i j:Nat):Prop:=xs.Perm ys/\∀ k,(k < i \/ j<=k)->K xs k=K ys k
theorem Ch.rfl':Ch xs xs i j:=⟨Array.Perm.refl _,fun _ _=>rfl⟩
theorem Ch.tr (a:Ch xs ys i j) (b:Ch ys zs i j):Ch xs zs i j :=
 ⟨a.1.trans b.1,fun k hk=>(a.2 k hk).trans (b.2 k hk)⟩
theorem Ch.wide (a:Ch xs ys i j) (h1:i'<=i) (h2:j<=j'):Ch xs ys i' j' :=
 ⟨a.1,fun k hk=>a.2 k (by lia)⟩
theorem TB.arr {st:SortSt} (h:TB a₀ st) (hp:xs.Perm (arrOf st)):TB a₀ (setArr st xs):=⟨hp.trans h.pm,h.kd,h.nf⟩
theorem TB.sz {st:SortSt} (h:TB a₀ st):(arrOf st).size=a₀.size:=h.pm.size_eq
theorem at_int {a₀ xs:Array Keyed} (hp:xs.Perm a₀) (h0:IntKeys a₀) (hi:i < a₀.size):∃ t q,xs[i]? = some (.int (K xs i) t,q):=by
 have hi':i < xs.size:=by rw [hp.size_eq]; exact hi
 obtain ⟨n,t,hn⟩:=h0 _ ((Array.perm_iff_toList_perm.mp hp).mem_iff.mp (show xs[i]∈xs.toList by simp))
 have e:xs[i]? = some xs[i]:=getElem?_pos _ i hi'
 refine ⟨t,xs[i].2,?_⟩
 unfold K
 rw [e]
 simp only [hn,numOf]
 exact congrArg some (Prod.ext hn rfl)
section
variable {a₀ : Array Keyed}
theorem lt_at {st:SortSt} (hB:TB a₀ st) (h0:IntKeys a₀) (hi:i < a₀.size) (hj:j < a₀.size)
  (told:Q (some (decide (K (arrOf st) i < K (arrOf st) j))) st):wpS (model prog w) A E s (ltAt' i j) Q st:=by
 obtain ⟨t,p,e1⟩:=at_int hB.pm h0 hi
 obtain ⟨u,q,e2⟩:=at_int hB.pm h0 hj
 exact wpS_ltAt hB.kd e1 e2 told
theorem lt_in {st:SortSt} (hB:TB a₀ (setArr st xs)) (h0:IntKeys a₀) (hi:i < a₀.size) (hj:j < a₀.size)
  (h:Q (some (decide (K xs i < K xs j))) (setArr st xs)):wpS (model prog w) A E s (ltAt' i j) Q (setArr st xs):=lt_at hB h0 hi hj h
theorem flip_at {st:SortSt} (hj:j<=(arrOf st).size)
  (h:∀ xs,Ch xs (arrOf st) i j->(∀ k,i<=k->k < j->K xs k=K (arrOf st) (i+j - 1 - k))->Q () (setArr st xs)) :
  wpS (model prog w) A E s (reverseSlice' i j) Q st:=by
 rw [reverseSlice'_eq]
 refine wpS_modify (h _ ⟨mirror_perm _ _ _ _,fun k hk=>?_⟩ fun k h1 h2=>?_)
 · rw [K_mirror hj,if_neg (by lia)]
 · rw [K_mirror hj,if_pos ⟨h1,h2⟩]
theorem wO {st:SortSt} (hj:j<=(arrOf st).size) (he:∀ k,i<=k->k < j->K (arrOf st) k=K (arrOf st) (j - 1))
  (h:∀ xs,xs.Perm (arrOf st)->(∀ k,K xs k=K (arrOf st) k)->Q () (setArr st xs)) :
  wpS (model prog w) A E s (reverseSlice' i j) Q st:=by
 refine flip_at hj fun xs c hk=>h xs c.1 fun k=>?_
 by_cases hh:i<=k/\k < j
 · rw [hk k hh.1 hh.2,he _ (by lia) (by lia),he k hh.1 hh.2]
 · exact c.2 k (by lia)
noncomputable def dTail (lo m0 nrem:Nat):StateT SortSt Sem (Option Nat):=do
 let mut m:=m0
 reverseSlice' lo (lo+m)
 for _ in [m:nrem] do
  let some less <- ltAt' (lo+m) (lo+m - 1) | return none
  if less then break
  m:=m+1
 return some m
noncomputable def dPart (lo m0 nrem:Nat):StateT SortSt Sem (Option Nat):=do
 let mut m:=m0
 rule "list.sort.descending-run"
 m:=m+1
 let mut q:=0
 for _ in [m:nrem] do
  let some less <- ltAt' (lo+m) (lo+m - 1) | return none
  if less then
   if q > 0 then reverseSlice' (lo+m - (q+1)) (lo+m)
   q:=0
  else
   let some more <- ltAt' (lo+m - 1) (lo+m) | return none
   if more then break
   q:=q+1
  m:=m+1
 if q > 0 then reverseSlice' (lo+m - (q+1)) (lo+m)
 dTail lo m nrem
noncomputable def cRun (lo nrem:Nat):StateT SortSt Sem (Option Nat):=do
 let mut m:=1
 for _ in [1:nrem] do
  let some less <- ltAt' (lo+m) (lo+m - 1) | return none
  if less then break
  m:=m+1
 if m == nrem then return some m
 if m > 1 then
  let some more <- ltAt' lo (lo+m - 1) | return none
  if more then return some m
  reverseSlice' lo (lo+m)
 dPart lo m nrem
theorem countRun_is lo nrem:countRun' lo nrem=cRun lo nrem:=by
 rw [countRun'_eq]
 rfl
theorem seg_snoc (hs:Seg xs i j) (h:i < j->K xs (j - 1)<=K xs j):Seg xs i (j+1):=by
 intro p q h1 h2 h3
 by_cases hq:q < j
 · exact hs p q h1 h2 hq
 · have : q = j := by lia
   subst this
   by_cases hp:p=q
   · subst hp; exact Int.le_refl _
   · exact Int.le_trans (hs p (q - 1) h1 (by lia) (by lia)) (h (by lia))
theorem xZ (hs:Dsc xs i j) (h:i < j->K xs j<=K xs (j - 1)):Dsc xs i (j+1):=by
 intro p q h1 h2 h3
 by_cases hq:q < j
 · exact hs p q h1 h2 hq
 · have : q = j := by lia
   subst this
   by_cases hp:p=q
   · subst hp; exact Int.le_refl _
   · exact Int.le_trans (h (by lia)) (hs p (q - 1) h1 (by lia) (by lia))
theorem vV (hs:Dsc xs i j) (h:∀ k,K ys k=K xs k):Dsc ys i j:=by
 intro p q h1 h2 h3; rw [h,h]; exact hs p q h1 h2 h3
theorem asc_loop {lo:Nat} {st:SortSt} (h0:IntKeys a₀) (hn:lo+nrem<=a₀.size) (ha:1<=a) (han:a<=nrem) (hB:TB a₀ st) (hs:Seg (arrOf st) lo (lo+a))
  (h:∀ n,a<=n->n<=nrem->Seg (arrOf st) lo (lo+n)->(n=nrem \/ K (arrOf st) (lo+n) < K (arrOf st) (lo+n - 1))->R (none,n) st) :
  wpS (model prog w) A E s (forIn [a:nrem] ((none,a):Option (Option Nat)×Nat) fun _ c=>do
        let x <- ltAt' (lo+c.snd) (lo+c.snd - 1)
        match x with
         | some less=>if less=true then pure (ForInStep.done (none,c.snd)) else pure (ForInStep.yield (none,c.snd+1))
         | _=>pure (ForInStep.done (some none,c.snd))) R st:=by
 refine wpS_forRange (I:=fun x c z=>z=st/\c=(none,x)/\Seg (arrOf st) lo (lo+x)) ?_ ?_ ⟨rfl,rfl,hs⟩
 · rintro x c z hax hxn ⟨rfl, rfl, hz⟩
   refine wpS_bind (lt_at hB h0 (by lia) (by grind) ?_)
   by_cases hl:K (arrOf z) (lo+x) < K (arrOf z) (lo+x - 1)
   · simp [hl, decide_true, if_true]
     exact wpS_pure (h x hax (by lia) hz (.inr hl))
   · simp [hl, decide_false, Bool.false_eq_true, if_false]
     exact wpS_pure ⟨rfl,rfl,seg_snoc hz fun _=>Int.not_lt.mp hl⟩
 · rintro c z ⟨rfl, rfl, hz⟩
   rw [show max a nrem=nrem by simp_all] at hz ⊢
   exact h nrem han (Nat.le_refl _) hz (.inl rfl)
theorem wp_tail {lo:Nat} {st:SortSt} (h0:IntKeys a₀) (hn:lo+nrem<=a₀.size) (h1:1<=n) (hnn:n<=nrem) (hB:TB a₀ st) (hs:Dsc (arrOf st) lo (lo+n))
  (h:∀ m xs,Ch xs (arrOf st) lo (lo+nrem)->1<=m->m<=nrem->Seg xs lo (lo+m)->Q (some m) (setArr st xs)) :
  wpS (model prog w) A E s (dTail lo n nrem) Q st:=by
 refine wpS_bind (flip_at (by rw [hB.sz]; lia) fun xs c hk=>?_)
 refine wpS_bind (asc_loop h0 hn h1 hnn (hB.arr c.1) ?_ fun m hm1 hm2 hsm _=>wpS_pure (h m xs (c.wide (Nat.le_refl _) (by simp_all)) (by lia) hm2 hsm))
 intro p q g1 g2 g3
 rw [hk p g1 (by lia),hk q (by lia) g3]
 exact hs _ _ (by lia) (by omega) (by lia)
theorem wp_part {lo:Nat} {st:SortSt} (h0:IntKeys a₀) (hn:lo+nrem<=a₀.size) (hnn:n+1<=nrem) (hB:TB a₀ st) (hs:Dsc (arrOf st) lo (lo+(n+1)))
  (h:∀ m xs,Ch xs (arrOf st) lo (lo+nrem)->1<=m->m<=nrem->Seg xs lo (lo+m)->Q (some m) (setArr st xs)) :
  wpS (model prog w) A E s (dPart lo n nrem) Q st:=by
 refine wpS_bind (wpS_lift (wpAny_rule ⟨rfl,?_⟩))
 refine wpS_bind (wpS_mono (wpS_forRange
  (I:=fun x c z=>∃ q xs,c=(none,x,q)/\z=setArr st xs/\xs.Perm (arrOf st)/\(∀ k,K xs k=K (arrOf st) k)/\Dsc xs lo (lo+x)/\q+1<=x/\∀ i,lo+x - (q+1)<=i->i < lo+x->K xs i=K xs (lo+x - 1))
  (Q:=fun c z=>∃ x q xs,n+1<=x/\x<=nrem/\c=(none,x,q)/\z=setArr st xs/\xs.Perm (arrOf st)/\(∀ k,K xs k=K (arrOf st) k)/\Dsc xs lo (lo+x)/\q+1<=x/\∀ i,lo+x - (q+1)<=i->i < lo+x->K xs i=K xs (lo+x - 1))
  ?step ?fin ⟨0,arrOf st,rfl,rfl,Array.Perm.refl _,fun _=>rfl,hs,by lia,fun i _ _=>by congr 1; lia⟩) ?post)
 case fin =>
  rintro c z ⟨q,xs,e1,e2,e3,e4,e5,e6,e7⟩
  rw [show max (n+1) nrem=nrem by simp_all] at e1 e5 e6 e7
  exact ⟨nrem,q,xs,hnn,Nat.le_refl _,e1,e2,e3,e4,e5,e6,e7⟩
 case step =>
  rintro x c z hax hxn ⟨q,xs,rfl,rfl,hp,hk,hd,hq,he⟩
  have hB':=hB.arr hp
  have hsz:lo+x<=(arrOf (setArr st xs)).size:=by rw [hB'.sz]; lia
  refine wpS_bind (lt_in hB' h0 (by lia) (by lia) ?_)
  by_cases hl:K xs (lo+x) < K xs (lo+x - 1)
  · simp only [hl, decide_true, if_true]
    have hd1:=xZ hd fun _=>Int.le_of_lt hl
    by_cases hq0:q > 0
    · rw [if_pos hq0]
      refine wpS_bind (wO hsz he fun ys y1 y2=>wpS_pure ?_)
      exact ⟨0,ys,rfl,rfl,y1.trans hp,fun k=>(y2 k).trans (hk k),vV hd1 y2,by lia,fun i _ _=>by congr 1; lia⟩
    · rw [if_neg hq0]
      exact wpS_pure ⟨0,xs,rfl,rfl,hp,hk,hd1,by lia,fun i _ _=>by congr 1; lia⟩
  · simp only [hl, decide_false, Bool.false_eq_true, if_false]
    refine wpS_bind (lt_in hB' h0 (by lia) (by lia) ?_)
    by_cases hm:K xs (lo+x - 1) < K xs (lo+x)
    · simp only [hm, decide_true, if_true]
      exact wpS_pure ⟨x,q,xs,hax,by lia,rfl,rfl,hp,hk,hd,hq,he⟩
    · simp only [hm, decide_false, Bool.false_eq_true, if_false]
      have eq:K xs (lo+x)=K xs (lo+x - 1):=by lia
      refine wpS_pure ⟨q+1,xs,rfl,rfl,hp,hk,xZ hd fun _=>Int.le_of_eq eq,by simp_all,fun i g1 g2=>?_⟩
      rw [show lo+(x+1) - 1=lo+x by simp_all]
      by_cases hi:i=lo+x
      · rw [hi]
      · rw [eq]; exact he i (by lia) (by lia)
 case post =>
  rintro c z ⟨x,q,xs,hx1,hx2,rfl,rfl,hp,hk,hd,hq,he⟩
  have hB':=hB.arr hp
  have hsz:lo+x<=(arrOf (setArr st xs)).size:=by rw [hB'.sz]; lia
  have fin:∀ ys:Array Keyed,ys.Perm xs->(∀ k,K ys k=K xs k)->wpS (model prog w) A E s (dTail lo x nrem) Q (setArr st ys):=fun ys y1 y2 =>
   wp_tail h0 hn (by lia) hx2 (hB.arr (y1.trans hp)) (vV hd y2) fun m zs c z1 z2 z3 =>
    h m zs (c.tr ⟨y1.trans hp,fun k _=>(y2 k).trans (hk k)⟩) z1 z2 z3
  dsimp only
  by_cases hq0:q > 0
  · rw [if_pos hq0]
    exact wpS_bind (wO hsz he fun ys y1 y2=>fin ys y1 y2)
  · rw [if_neg hq0]
    exact fin xs (Array.Perm.refl _) fun _=>rfl
theorem wp_run {lo:Nat} {st:SortSt} (h0:IntKeys a₀) (hn:lo+nrem<=a₀.size) (h1:1<=nrem) (hB:TB a₀ st)
  (h:∀ m xs,Ch xs (arrOf st) lo (lo+nrem)->1<=m->m<=nrem->Seg xs lo (lo+m)->Q (some m) (setArr st xs)) :
  wpS (model prog w) A E s (countRun' lo nrem) Q st:=by
 rw [countRun_is]
 refine wpS_bind (asc_loop h0 hn (Nat.le_refl 1) h1 hB (fun p q _ _ _=>by rw [show p=q by lia]; exact Int.le_refl _) fun n g1 g2 hs hor=>?_)
 dsimp only
 by_cases hnn:n=nrem
 · rw [if_pos (by simpa using hnn)]
   exact wpS_pure (h n _ Ch.rfl' g1 g2 hs)
 rw [if_neg (by simpa using hnn)]
 have hl:=hor.resolve_left hnn
 by_cases hgt:n > 1
 · rw [if_pos hgt]
   refine wpS_bind (lt_at hB h0 (by lia) (by lia) ?_)
   by_cases hr:K (arrOf st) lo < K (arrOf st) (lo+n - 1)
   · simp [hr, decide_true, if_true]
     exact wpS_pure (h n _ Ch.rfl' g1 g2 hs)
   · simp [hr, decide_false, Bool.false_eq_true, if_false]
     have hall:∀ k,lo<=k->k < lo+n->K (arrOf st) k=K (arrOf st) (lo+n - 1):=fun k k1 k2=>by
      have a1:=hs lo k (Nat.le_refl _) k1 k2
      have a2:=hs k (lo+n - 1) k1 (by lia) (by lia)
      lia
     refine wpS_bind (wO (by rw [hB.sz]; lia) hall fun ys y1 y2=>?_)
     refine wp_part h0 hn (by lia) (hB.arr y1) ?_ fun m zs c z1 z2 z3=>h m zs (c.tr ⟨y1,fun k _=>y2 k⟩) z1 z2 z3
     refine vV ?_ y2
     refine xZ (fun p q k1 k2 k3=>?_) fun _=>Int.le_of_lt hl
     rw [hall p k1 (by lia),hall q (by lia) k3]; exact Int.le_refl _
 · rw [if_neg hgt]
   have e:n=1:=by lia
   refine wp_part h0 hn (by lia) hB ?_ h
   exact xZ (fun p q _ _ _=>by rw [show p=q by lia]; exact Int.le_refl _) fun _=>Int.le_of_lt hl
theorem wp_ins {lo:Nat} {st:SortSt} (h0:IntKeys a₀) (hn:lo+n<=a₀.size) (hok:ok<=n) (hB:TB a₀ st) (hs:Seg (arrOf st) lo (lo+ok))
  (h:∀ xs,Ch xs (arrOf st) lo (lo+n)->Seg xs lo (lo+n)->Q true (setArr st xs)):wpS (model prog w) A E s (binarySort' lo n ok) Q st:=by
 refine wpS_bind (wpS_mono (wpS_forRange (I:=fun k c z=>∃ xs,c=(none,())/\z=setArr st xs/\Ch xs (arrOf st) lo (lo+n)/\Seg xs lo (lo+min k n))
  (Q:=fun c z=>∃ xs,c=(none,())/\z=setArr st xs/\Ch xs (arrOf st) lo (lo+n)/\Seg xs lo (lo+n)) ?step ?fin ?init) ?post)
 case post =>
  rintro c z ⟨xs,rfl,rfl,c,hz⟩
  exact wpS_pure (h xs c hz)
 case init =>
  refine ⟨arrOf st,rfl,rfl,Ch.rfl',fun p q k1 k2 k3=>?_⟩
  by_cases g:ok=0
  · have e : p = q := by lia
    rw [e]; exact Int.le_refl _
  · exact hs p q k1 k2 (by lia)
 case fin =>
  rintro c z ⟨xs,e1,e2,e3,e4⟩
  refine ⟨xs,e1,e2,e3,?_⟩
  rwa [show min (max (max ok 1) n) n=n by lia] at e4
 case step =>
  rintro k c z hak hkn ⟨xs,rfl,rfl,c,hz⟩
  have hB':=hB.arr c.1
  refine wpS_bind (wpS_mono (wpS_forRange (I:=fun x e y=>y=setArr st xs/\∃ l r,e=(none,l,r)/\l<=r/\r<=k/\r - l<=k - x ∧
    (∀ i,i < l->K xs (lo+i)<=K xs (lo+k))/\(∀ i,r<=i->i < k->K xs (lo+k) < K xs (lo+i)))
   (Q:=fun e y=>y=setArr st xs/\∃ l r,e=(none,l,r)/\l<=k ∧
     (∀ i,i < l->K xs (lo+i)<=K xs (lo+k))/\(∀ i,l<=i->i < k->K xs (lo+k) < K xs (lo+i))) ?a ?b ?c) ?d)
  case c=>exact ⟨rfl,0,k,rfl,by lia,by lia,by simp_all,fun i hi=>by simp_all,fun i _ _=>by grind⟩
  case b =>
   rintro e y ⟨rfl,l,r,rfl,g1,g2,g3,g4,g5⟩
   have e:l=r:=by grind
   subst e
   exact ⟨rfl,l,l,rfl,g2,g4,g5⟩
  case a =>
   rintro x e y _ hx ⟨rfl,l,r,rfl,g1,g2,g3,g4,g5⟩
   by_cases hge:l ≥ r
   · rw [if_pos hge]
     have e:l=r:=by lia
     subst e
     exact wpS_pure ⟨rfl,l,l,rfl,g2,g4,g5⟩
   · rw [if_neg hge]
     refine wpS_bind (lt_in hB' h0 (by lia) (by lia) ?_)
     by_cases hl:K xs (lo+k) < K xs (lo+(l+r) / 2)
     · simp [hl, decide_true, if_true]
       exact wpS_pure ⟨rfl,l,(l+r) / 2,rfl,by lia,by lia,by grind,g4,fun i k1 k2=>Int.lt_of_lt_of_le hl (hz _ _ (by simp_all) (by simp_all) (by lia))⟩
     · simp [hl, decide_false, Bool.false_eq_true, if_false]
       exact wpS_pure ⟨rfl,(l+r) / 2+1,r,rfl,by lia,by omega,by grind,fun i k1=>Int.le_trans (hz (lo+i) (lo+(l+r) / 2) (by simp_all) (by lia) (by lia)) (Int.not_lt.mp hl),g5⟩
  case d =>
   rintro e y ⟨rfl,l,r,rfl,g1,g2,g3⟩
   show wpS _ _ _ _ (do moveDown' (lo+k) (lo+l); pure (ForInStep.yield (none,()))) _ _
   rw [moveDown'_eq]
   have hks:lo+k < xs.size:=by have:=hB'.sz; change xs.size=_ at this; lia
   have hkk:∀ i,K (bubble xs (lo+k) (lo+k - (lo+l))) i=if i=lo+l then K xs (lo+k) else if lo+l < i/\i<=lo+k then K xs (i - 1) else K xs i:=fun i=>by
    rw [K_bubble hks (by simp_all),show lo+k - (lo+k - (lo+l))=lo+l by lia]
   refine wpS_bind (wpS_modify (wpS_pure ⟨_,rfl,rfl,⟨(bubble_perm _ _ _).trans c.1,fun i hi=>?_⟩,?_⟩))
   · show K (bubble xs (lo + k) (lo + k - (lo + l))) i = _
     rw [hkk,if_neg (by lia),if_neg (by lia)]
     exact c.2 i hi
   · rw [show min (k + 1) n = k + 1 by lia]
     intro p q k1 k2 k3
     rw [hkk,hkk]
     have lo':∀ i,lo<=i->i < lo+l->K xs i<=K xs (lo+k):=fun i a b=>by have:=g2 (i - lo) (by grind); rwa [show lo+(i - lo)=i by simp_all] at this
     have hi':∀ i,lo+l<=i->i < lo+k->K xs (lo+k)<=K xs i:=fun i a b=>by have:=g3 (i - lo) (by lia) (by lia); rw [show lo+(i - lo)=i by lia] at this; exact Int.le_of_lt this
     repeat' split
     all_goals first
      | (exfalso; lia)
      | exact Int.le_refl _
      | exact lo' _ (by lia) (by lia)
      | exact hi' _ (by lia) (by lia)
      | exact hz _ _ (by lia) (by grind) (by grind)
end
noncomputable def gallop':Bool->Keyed->Array Keyed->Nat->Nat->Nat->StateT SortSt Sem (Option Nat):=sortPriv% PySem.Builtin.gallop
noncomputable def galB (ask:Nat->StateT SortSt Sem (Option Bool)) (n l₀ h₀ : Nat):StateT SortSt Sem (Option Nat):=do
 let mut lo:=l₀
 let mut hi:=h₀
 for _ in [0:n] do
  if lo ≥ hi then break
  let mid:=lo+(hi - lo) / 2
  let some yes <- ask mid | return none
  if yes then lo:=mid+1 else hi:=mid
 return some hi
noncomputable def gal (ask:Nat->StateT SortSt Sem (Option Bool)) (n hint:Nat):StateT SortSt Sem (Option Nat):=do
 let mut last:=0
 let mut off:=1
 let mut lo:=0
 let mut hi:=0
 let some right <- ask hint | return none
 if right then
  let top:=n - hint
  for _ in [0:n] do
   if off ≥ top then break
   let some yes <- ask (hint+off) | return none
   if !yes then break
   last:=off
   off:=2 * off+1
  lo:=hint+last+1
  hi:=hint+min off top
 else
  let top:=hint+1
  for _ in [0:n] do
   if off ≥ top then break
   let some yes <- ask (hint - off) | return none
   if yes then break
   last:=off
   off:=2 * off+1
  lo:=hint+1 - min off top
  hi:=hint - last
 galB ask n lo hi
theorem gallop_is left key arr base n hint:gallop' left key arr base n hint=gal (fun i=>do
  let x <- elem' arr (base+i)
  if left then lt' x key else return (<- lt' key x).map (!·)) n hint:=rfl
section
variable {prog:Program} {w:World} {A:Around} {E:Value->Shared->Prop} {s:Shared}
def Cut (g:Nat->Bool) (n r:Nat):Prop:=r<=n/\(∀ i,i < r->g i=true)/\∀ i,r<=i->i < n->g i=false
variable {st:SortSt} {ask:Nat->StateT SortSt Sem (Option Bool)} {g:Nat->Bool} {n:Nat}
 (hask:∀ (i:Nat) (R:Option Bool->SortSt->Prop),i < n->R (some (g i)) st->wpS (model prog w) A E s (ask i) R st)
 (mono:∀ i j,i<=j->j < n->g j=true->g i=true)
include hask mono
theorem wp_galB {l₀ h₀ : Nat} {Q:Option Nat->SortSt->Prop} (hle:l₀<=h₀) (hh:h₀<=n) (hl:∀ i,i < l₀->g i=true) (hg:∀ i,h₀<=i->i < n->g i=false)
  (h:∀ r,Cut g n r->Q (some r) st):wpS (model prog w) A E s (galB ask n l₀ h₀) Q st:=by
 refine wpS_bind (wpS_mono (wpS_forRange
  (I:=fun x c z=>z=st/\∃ l r,c=(none,l,r)/\l<=r/\r<=n/\r - l<=n - x/\(∀ i,i < l->g i=true)/\(∀ i,r<=i->i < n->g i=false))
  (Q:=fun c z=>z=st/\∃ l,∃ r,c=(none,l,r)/\Cut g n r) ?a ?b ⟨rfl,l₀,h₀,rfl,hle,hh,by lia,hl,hg⟩) ?c)
 case c =>
  rintro c z ⟨rfl,l,r,rfl,hc⟩
  exact wpS_pure (h r hc)
 case b =>
  rintro c z ⟨rfl,l,r,rfl,g1,g2,g3,g4,g5⟩
  have e:l=r:=by grind
  subst e
  exact ⟨rfl,l,l,rfl,g2,g4,g5⟩
 case a =>
  rintro x c z _ hx ⟨rfl,l,r,rfl,g1,g2,g3,g4,g5⟩
  by_cases hge:l ≥ r
  · rw [if_pos hge]
    have e:l=r:=by lia
    subst e
    exact wpS_pure ⟨rfl,l,l,rfl,g2,g4,g5⟩
  · rw [if_neg hge]
    refine wpS_bind (hask _ _ (by lia) ?_)
    cases hy:g (l+(r - l) / 2) with
    | true =>
      exact wpS_pure ⟨rfl,l+(r - l) / 2+1,r,rfl,by grind,g2,by grind,fun i hi=>mono i _ (by lia) (by lia) hy,g5⟩
    | false =>
      refine wpS_pure ⟨rfl,l,l+(r - l) / 2,rfl,by simp_all,by grind,by grind,g4,fun i h1 h2=>?_⟩
      cases hi:g i with
      | false=>rfl
      | true=>rw [mono _ i h1 h2 hi] at hy; cases hy
theorem wp_gal {hint:Nat} {Q:Option Nat->SortSt->Prop} (hhint:hint < n) (h:∀ r,Cut g n r->Q (some r) st):wpS (model prog w) A E s (gal ask n hint) Q st:=by
 refine wpS_bind (hask _ _ hhint ?_)
 cases hr:g hint with
 | true =>
   refine wpS_bind (wpS_mono (wpS_forRange
    (I:=fun x c z=>z=st/\∃ l o,c=(none,l,o)/\l < o/\x+1<=o/\hint+l < n/\g (hint+l)=true)
    (Q:=fun c z=>z=st/\∃ l o,c=(none,l,o)/\l < o/\hint+l < n/\g (hint+l)=true/\(n - hint<=o \/ (hint+o < n/\g (hint+o)=false))) ?a ?b ⟨rfl,0,1,rfl,by lia,by lia,hhint,hr⟩) ?c)
   case c =>
    rintro c z ⟨rfl,l,o,rfl,h1,h2,h3,h4⟩
    refine wp_galB hask mono (by lia) (by lia) (fun i hi=>mono i _ (by lia) h2 h3) (fun i i1 i2=>?_) h
    rcases h4 with h4 | ⟨h4,h5⟩
    · lia
    · cases hi : g i with
      | false=>rfl
      | true=>rw [mono _ i (by lia) i2 hi] at h5; cases h5
   case b =>
    rintro c z ⟨rfl,l,o,rfl,h1,h2,h3,h4⟩
    exact ⟨rfl,l,o,rfl,h1,h3,h4,.inl (by lia)⟩
   case a =>
    rintro x c z _ hx ⟨rfl,l,o,rfl,h1,h2,h3,h4⟩
    by_cases hge:o ≥ n - hint
    · rw [if_pos hge]
      exact wpS_pure ⟨rfl,l,o,rfl,h1,h3,h4,.inl hge⟩
    · rw [if_neg hge]
      refine wpS_bind (hask _ _ (by lia) ?_)
      cases hy:g (hint+o) with
      | true =>
        exact wpS_pure ⟨rfl,o,2 * o+1,rfl,by lia,by lia,by lia,hy⟩
      | false =>
        exact wpS_pure ⟨rfl,l,o,rfl,h1,h3,h4,.inr ⟨by lia,hy⟩⟩
 | false =>
   refine wpS_bind (wpS_mono (wpS_forRange
    (I:=fun x c z=>z=st/\∃ l o,c=(none,l,o)/\l < o/\x+1<=o/\l<=hint/\g (hint - l)=false)
    (Q:=fun c z=>z=st/\∃ l o,c=(none,l,o)/\l < o/\l<=hint/\g (hint - l)=false/\(hint+1<=o \/ (o<=hint/\g (hint - o)=true))) ?a ?b ⟨rfl,0,1,rfl,by lia,by lia,by lia,hr⟩) ?c)
   case c =>
    rintro c z ⟨rfl,l,o,rfl,h1,h2,h3,h4⟩
    refine wp_galB hask mono (by grind) (by grind) (fun i hi=>?_) (fun i i1 i2=>?_) h
    · rcases h4 with h4 | ⟨h4, h5⟩
      · simp_all
      · exact mono i _ (by grind) (by grind) h5
    · cases hi : g i with
      | false=>rfl
      | true=>rw [mono _ i i1 i2 hi] at h3; cases h3
   case b =>
    rintro c z ⟨rfl,l,o,rfl,h1,h2,h3,h4⟩
    exact ⟨rfl,l,o,rfl,h1,h3,h4,.inl (by lia)⟩
   case a =>
    rintro x c z _ hx ⟨rfl,l,o,rfl,h1,h2,h3,h4⟩
    by_cases hge:o ≥ hint+1
    · rw [if_pos hge]
      exact wpS_pure ⟨rfl,l,o,rfl,h1,h3,h4,.inl hge⟩
    · rw [if_neg hge]
      refine wpS_bind (hask _ _ (by grind) ?_)
      cases hy:g (hint - o) with
      | true =>
        exact wpS_pure ⟨rfl,l,o,rfl,h1,h3,h4,.inr ⟨by lia,hy⟩⟩
      | false =>
        exact wpS_pure ⟨rfl,o,2 * o+1,rfl,by lia,by lia,by lia,hy⟩
end
section
variable {st:SortSt}
theorem wp_lt (hk:kindOf st=oneType') (hx:IsI x) (hy:IsI y) (h:Q (some (decide (ky x < ky y))) st) :
  wpS (model prog w) A E s (lt' x y) Q st:=by
 obtain ⟨x1,x2⟩:=x
 obtain ⟨y1,y2⟩:=y
 obtain ⟨a,t,ha⟩:=hx
 obtain ⟨b,u,hb⟩:=hy
 subst ha hb
 rw [lt'_eq]
 refine wpS_bind (wpS_get ?_)
 rw [hk,keyLt'_oneType]
 refine wpS_bind (wpS_lift (wpAny_attempt (oneLt_int ⟨rfl,?_⟩)))
 exact wpS_pure h
theorem qI (hp:arr[i]? = some p) (h:Q p st):wpS (model prog w) A E s (elem' arr i) Q st:=by
 rw [elem'_eq,hp]
 exact wpS_pure h
theorem yF (hk:kindOf st=oneType') (hkey:IsI key) (hI:∀ p∈arr.toList,IsI p)
  (hb:base+n<=arr.size) (hs:Seg arr base (base+n)) (hhint:hint < n)
  (h:∀ r,r<=n->(∀ i,base<=i->i < base+r->if left then K arr i < ky key else K arr i<=ky key)->(∀ i,base+r<=i->i < base+n->if left then ky key<=K arr i else ky key < K arr i)->Q (some r) st) :
  wpS (model prog w) A E s (gallop' left key arr base n hint) Q st:=by
 rw [gallop_is]
 refine wp_gal (g:=fun i=>if left then decide (K arr (base+i) < ky key) else decide (K arr (base+i)<=ky key)) ?_ ?_ hhint ?_
 · intro i R hi hR
   have hi':base+i < arr.size:=by lia
   have e:=getElem?_pos arr (base+i) hi'
   have hp:IsI arr[base+i]:=hI _ (by simp)
   have eK:K arr (base+i)=ky arr[base+i]:=K_eq hi'
   refine wpS_bind (qI e ?_)
   cases left with
   | true =>
     refine wp_lt hk hp hkey ?_
     rw [<- eK]; exact hR
   | false =>
     refine wpS_bind (wp_lt hk hkey hp ?_)
     refine wpS_pure ?_
     have:(Option.map (fun x=>!x) (some (decide (ky key < ky arr[base+i]))))=some (decide (K arr (base+i)<=ky key)):=by
      rw [eK]
      by_cases hlt:ky key < ky arr[base+i]
      · simp [hlt,Int.not_le.mpr hlt]
      · simp [hlt,Int.not_lt.mp hlt]
     rw [this]; exact hR
 · intro i j hij hj hg
   have:=hs (base+i) (base+j) (by simp_all) (by simp_all) (by simp_all)
   cases left <;> simp [Bool.false_eq_true,if_false,if_true,decide_eq_true_eq] at hg ⊢ <;> lia
 · rintro r ⟨h1, h2, h3⟩
   refine h r h1 (fun i i1 i2=>?_) fun i i1 i2=>?_
   · have := h2 (i - base) (by lia)
     dsimp only at this
     rw [show base+(i - base)=i by simp_all] at this
     cases left <;> simpa using this
   · have := h3 (i - base) (by lia) (by lia)
     dsimp only at this
     rw [show base+(i - base)=i by lia] at this
     cases left <;> simpa using this
end
def Sd (l:List Keyed):Prop:=l.Pairwise fun p q=>ky p<=ky q
theorem Sd.app:Sd (l++r)↔Sd l/\Sd r/\∀ p∈l,∀ q∈r,ky p<=ky q:=by
 unfold Sd; rw [List.pairwise_append]
theorem wS (h:Sd a.toList) (hj:j<=a.size):Seg a i j:=by
 intro p q h1 h2 h3
 rw [K_eq (show p < a.size by lia),K_eq (show q < a.size by lia)]
 by_cases e:p=q
 · subst e; exact Int.le_refl _
 · have := List.pairwise_iff_getElem.mp h p q (by simp; grind) (by simp; lia) (by lia)
   simpa [ky] using this
theorem jX (h:a.toList[i]? = some p):i < a.size/\K a i=ky p:=by
 obtain ⟨h1,h2⟩:=List.getElem?_eq_some_iff.mp h
 have h1':i < a.size:=by simpa using h1
 refine ⟨h1',?_⟩
 rw [K_eq h1',<- h2]
 simp [ky]
theorem vC {l:List Keyed} (h:p∈l.drop x):∃ i,x<=i/\l[i]? = some p:=by
 obtain ⟨i,hi,e⟩:=List.getElem_of_mem h
 refine ⟨x+i,by simp_all,?_⟩
 rw [<- List.getElem?_drop,List.getElem?_eq_getElem hi,e]
theorem jF {l:List Keyed} (h:p∈(l.drop x).take k):∃ i,x<=i/\i < x+k/\l[i]? = some p:=by
 obtain ⟨i,hi,e⟩:=List.getElem_of_mem h
 have hk:i < k:=by rw [List.length_take] at hi; grind
 refine ⟨x+i,by simp_all,by simp_all,?_⟩
 rw [<- List.getElem?_drop,<- List.getElem?_take_of_lt hk,List.getElem?_eq_getElem hi,e]
theorem wA {l:List Keyed} (h:p∈l.take k):∃ i,i < k/\l[i]? = some p:=by
 obtain ⟨i,hi,e⟩:=List.getElem_of_mem h
 have hk:i < k:=by rw [List.length_take] at hi; grind
 exact ⟨i,hk,by rw [<- List.getElem?_take_of_lt hk,List.getElem?_eq_getElem hi,e]⟩
theorem vL {a:Array Keyed} (h:Sd a.toList) (hp:a.toList[x]? = some p):∀ q∈a.toList.drop x,ky p<=ky q:=by
 intro q hq
 obtain ⟨i,h1,h2⟩:=vC hq
 obtain ⟨g1,g2⟩:=jX hp
 obtain ⟨g3,g4⟩:=jX h2
 rw [<- g2,<- g4]
 exact wS h (Nat.le_refl _) x i (Nat.le_refl _) h1 g3
theorem sd_take {a:Array Keyed} (h:Sd a.toList) (hp:a.toList[x]? = some p):∀ q∈a.toList.take (x+1),ky q<=ky p:=by
 intro q hq
 obtain ⟨i,h1,h2⟩:=wA hq
 obtain ⟨g1,g2⟩:=jX hp
 obtain ⟨g3,g4⟩:=jX h2
 rw [<- g2,<- g4]
 exact wS h (Nat.le_refl _) i x (Nat.zero_le _) (by lia) g1
structure Mg (a b:List Keyed) (o:List Keyed) (x y:Nat):Prop where
 xa:x<=a.length
 yb:y<=b.length
 pm:(o++(a.drop x++b.drop y)).Perm (a++b)
 sd:Sd o
 le:∀ p∈o,∀ q,(q∈a.drop x \/ q∈b.drop y)->ky p<=ky q
theorem Mg.stepA (m:Mg a b o x y) (ha:Sd a) t k (ht:t=(a.drop x).take k) (hk:x+k<=a.length) (h:∀ p∈t,∀ q∈b.drop y,ky p<=ky q) :
  Mg a b (o++t) (x+k) y:=by
 have e:a.drop x=t++a.drop (x+k):=by rw [ht,<- List.drop_drop,List.take_append_drop]
 have hs:Sd (t++a.drop (x+k)):=by rw [<- e]; exact List.Pairwise.sublist (List.drop_sublist ..) ha
 obtain ⟨s1,s2,s3⟩:=Sd.app.mp hs
 refine ⟨hk,m.yb,?_,?_,?_⟩
 · have := m.pm
   rw [e] at this
   rw [List.append_assoc,<- List.append_assoc t]
   exact this
 · exact Sd.app.mpr ⟨m.sd,s1,fun p hp q hq=>m.le p hp q (.inl (by rw [e]; exact List.mem_append_left _ hq))⟩
 · intro p hp q hq
   rcases List.mem_append.mp hp with hp | hp
   · refine m.le p hp q ?_
     rcases hq with hq | hq
     · exact .inl (by rw [e]; exact List.mem_append_right _ hq)
     · exact .inr hq
   · rcases hq with hq | hq
     · exact s3 p hp q hq
     · exact h p hp q hq
theorem Mg.stepB (m:Mg a b o x y) (hb:Sd b) t k (ht:t=(b.drop y).take k) (hk:y+k<=b.length) (h:∀ p∈t,∀ q∈a.drop x,ky p<=ky q) :
  Mg a b (o++t) x (y+k):=by
 have e:b.drop y=t++b.drop (y+k):=by rw [ht,<- List.drop_drop,List.take_append_drop]
 have hs:Sd (t++b.drop (y+k)):=by rw [<- e]; exact List.Pairwise.sublist (List.drop_sublist ..) hb
 obtain ⟨s1,s2,s3⟩:=Sd.app.mp hs
 refine ⟨m.xa,hk,?_,?_,?_⟩
 · refine List.Perm.trans ?_ m.pm
   rw [e,List.append_assoc]
   refine List.Perm.append_left _ ?_
   rw [<- List.append_assoc,<- List.append_assoc]
   exact List.Perm.append_right _ List.perm_append_comm
 · exact Sd.app.mpr ⟨m.sd,s1,fun p hp q hq=>m.le p hp q (.inr (by rw [e]; exact List.mem_append_left _ hq))⟩
 · intro p hp q hq
   rcases List.mem_append.mp hp with hp | hp
   · refine m.le p hp q ?_
     rcases hq with hq | hq
     · exact .inl hq
     · exact .inr (by rw [e]; exact List.mem_append_right _ hq)
   · rcases hq with hq | hq
     · exact h p hp q hq
     · exact s3 p hp q hq
def Dn (a b:List Keyed) (r:List Keyed):Prop:=r.Perm (a++b)/\Sd r
theorem Mg.endF (m:Mg a b o x y) (ha:Sd a) (hb:Sd b) (h:x=a.length \/ y=b.length):Dn a b (o++a.drop x++b.drop y):=by
 refine ⟨by rw [List.append_assoc]; exact m.pm,?_⟩
 rw [List.append_assoc]
 refine Sd.app.mpr ⟨m.sd,?_,fun p hp q hq=>m.le p hp q (List.mem_append.mp hq)⟩
 rcases h with h | h
 · rw [h,List.drop_length,List.nil_append]; exact List.Pairwise.sublist (List.drop_sublist ..) hb
 · rw [h,List.drop_length,List.append_nil]; exact List.Pairwise.sublist (List.drop_sublist ..) ha
theorem Mg.endA (m:Mg a b o x y) (hb:Sd b) (h:x+1=a.length) (hl:∀ q∈b,∀ p,a[a.length - 1]? = some p->ky q<=ky p):Dn a b (o++b.drop y++a.drop x):=by
 obtain ⟨p,hp⟩:=List.length_eq_one_iff.mp (show (a.drop x).length=1 by rw [List.length_drop]; lia)
 have hp':a[a.length - 1]? = some p:=by
  have:=List.getElem?_drop (xs:=a) (i:=x) (j:=0)
  rw [hp] at this
  rw [show a.length - 1=x+0 by lia,<- this]; rfl
 refine ⟨?_,?_⟩
 · refine List.Perm.trans ?_ m.pm
   rw [List.append_assoc]
   exact List.Perm.append_left _ List.perm_append_comm
 · rw [List.append_assoc]
   refine Sd.app.mpr ⟨m.sd,Sd.app.mpr ⟨List.Pairwise.sublist (List.drop_sublist ..) hb,?_,?_⟩,?_⟩
   · rw [hp]; exact List.pairwise_singleton _ _
   · intro q hq r hr
     rw [hp] at hr
     rw [List.mem_singleton.mp hr]
     exact hl q (List.mem_of_mem_drop hq) p hp'
   · intro q hq r hr
     rcases List.mem_append.mp hr with hr | hr
     · exact m.le q hq r (.inr hr)
     · exact m.le q hq r (.inl hr)
noncomputable def mergeLo':Array Keyed->Array Keyed->StateT SortSt Sem (Array Keyed):=sortPriv% PySem.Builtin.mergeLo
noncomputable def mergeHi':Array Keyed->Array Keyed->StateT SortSt Sem (Array Keyed):=sortPriv% PySem.Builtin.mergeHi
noncomputable def setMG (g:Nat):StateT SortSt Sem Unit:=(sortPriv% PySem.Builtin.setMinGallop) g
abbrev gst (z:SortSt) (g:Nat):SortSt:=SortSt.mk' (kindOf z) (arrOf z) (pendingOf z) g (failedOf z)
abbrev GS:=Option (Array Keyed)×Array Keyed×Nat×Nat×Nat×Nat×Nat
abbrev OS:=Option (Array Keyed)×Array Keyed×Nat×Nat×Nat×Nat
abbrev TSt:=Option (Array Keyed)×Array Keyed×Nat×Nat×Nat
noncomputable def fin (a b o:Array Keyed) (x y:Nat):Array Keyed:=o++a.extract x a.size++b.extract y b.size
noncomputable def finA (a b o:Array Keyed) (x y:Nat):Array Keyed:=o++b.extract y b.size++a.extract x a.size
noncomputable def lo3 (a b o:Array Keyed) (x y mg ca cb:Nat):StateT SortSt Sem (ForInStep GS):=do
 let p <- elem' a x
 if (x+1+1 == a.size)=true then pure (ForInStep.done (some (finA a b (o.push p) (x+1) y),o.push p,x+1,y,mg,ca,cb))
 else if (decide (ca < 7) && decide (cb < 7))=true then pure (ForInStep.done (none,o.push p,x+1,y,mg,ca,cb))
 else pure (ForInStep.yield (none,o.push p,x+1,y,mg,ca,cb))
noncomputable def lo2 (a b o:Array Keyed) (x y mg ca cb:Nat):StateT SortSt Sem (ForInStep GS):=do
 let p <- elem' b y
 if (y+1 == b.size)=true then pure (ForInStep.done (some (fin a b (o.push p) x (y+1)),o.push p,x,y+1,mg,ca,cb))
 else do
  let q <- elem' a x
  let r <- gallop' true q b (y+1) (b.size - (y+1)) 0
  match r with
   | some k =>
     if k > 0 then
      if (y+1+k == b.size)=true then pure (ForInStep.done (some (fin a b (o.push p++b.extract (y+1) (y+1+k)) x (y+1+k)),o.push p++b.extract (y+1) (y+1+k),x,y+1+k,mg,ca,k))
      else lo3 a b (o.push p++b.extract (y+1) (y+1+k)) x (y+1+k) mg ca k
     else lo3 a b (o.push p) x (y+1) mg ca k
   | _=>pure (ForInStep.done (some (fin a b (o.push p) x (y+1)),o.push p,x,y+1,mg,ca,cb))
noncomputable def lo1 (a b o:Array Keyed) (x y mg ca cb:Nat):StateT SortSt Sem (ForInStep GS):=do
 setMG mg
 let q <- elem' b y
 let r <- gallop' false q a x (a.size - x) 0
 match r with
  | some k =>
    if k > 0 then
     if (x+k+1 == a.size)=true then pure (ForInStep.done (some (finA a b (o++a.extract x (x+k)) (x+k) y),o++a.extract x (x+k),x+k,y,mg,k,cb))
     else if (x+k == a.size)=true then pure (ForInStep.done (some (fin a b (o++a.extract x (x+k)) (x+k) y),o++a.extract x (x+k),x+k,y,mg,k,cb))
     else lo2 a b (o++a.extract x (x+k)) (x+k) y mg k cb
    else lo2 a b o x y mg k cb
  | _=>pure (ForInStep.done (some (fin a b o x y),o,x,y,mg,ca,cb))
noncomputable def loO (a b:Array Keyed) (mg:Nat) (c:OS):StateT SortSt Sem (ForInStep OS):=do
 let p <- elem' b c.2.2.2.1
 let q <- elem' a c.2.2.1
 let r <- lt' p q
 match r with
  | some bw =>
    if bw=true then do
     let p <- elem' b c.2.2.2.1
     if (c.2.2.2.1+1 == b.size)=true then pure (ForInStep.done (some (fin a b (c.2.1.push p) c.2.2.1 (c.2.2.2.1+1)),c.2.1.push p,c.2.2.1,c.2.2.2.1+1,0,c.2.2.2.2.2+1))
     else if c.2.2.2.2.2+1 ≥ mg then pure (ForInStep.done (none,c.2.1.push p,c.2.2.1,c.2.2.2.1+1,0,c.2.2.2.2.2+1))
     else pure (ForInStep.yield (none,c.2.1.push p,c.2.2.1,c.2.2.2.1+1,0,c.2.2.2.2.2+1))
    else do
     let p <- elem' a c.2.2.1
     if (c.2.2.1+1+1 == a.size)=true then pure (ForInStep.done (some (finA a b (c.2.1.push p) (c.2.2.1+1) c.2.2.2.1),c.2.1.push p,c.2.2.1+1,c.2.2.2.1,c.2.2.2.2.1+1,0))
     else if c.2.2.2.2.1+1 ≥ mg then pure (ForInStep.done (none,c.2.1.push p,c.2.2.1+1,c.2.2.2.1,c.2.2.2.2.1+1,0))
     else pure (ForInStep.yield (none,c.2.1.push p,c.2.2.1+1,c.2.2.2.1,c.2.2.2.2.1+1,0))
  | _=>pure (ForInStep.done (some (fin a b c.2.1 c.2.2.1 c.2.2.2.1),c.2.1,c.2.2.1,c.2.2.2.1,c.2.2.2.2.1,c.2.2.2.2.2))
noncomputable def loT (a b:Array Keyed) (c:TSt):StateT SortSt Sem (ForInStep TSt):=do
 let d <- forIn [0:a.size+b.size] ((none,c.2.1,c.2.2.1,c.2.2.2.1,0,0):OS) fun _ d=>loO a b c.2.2.2.2 d
 match d.1 with
  | some r=>pure (ForInStep.done (some r,d.2.1,d.2.2.1,d.2.2.2.1,c.2.2.2.2))
  | none => do
    liftM (rule "list.sort.gallop")
    let e <- forIn [0:a.size+b.size] ((none,d.2.1,d.2.2.1,d.2.2.2.1,c.2.2.2.2+1,d.2.2.2.2.1,d.2.2.2.2.2):GS) fun _ e =>
     if e.2.2.2.2.1 > 1 then lo1 a b e.2.1 e.2.2.1 e.2.2.2.1 (e.2.2.2.2.1 - 1) e.2.2.2.2.2.1 e.2.2.2.2.2.2 else lo1 a b e.2.1 e.2.2.1 e.2.2.2.1 e.2.2.2.2.1 e.2.2.2.2.2.1 e.2.2.2.2.2.2
    match e.1 with
     | some r=>pure (ForInStep.done (some r,e.2.1,e.2.2.1,e.2.2.2.1,e.2.2.2.2.1))
     | none => do
       setMG (e.2.2.2.2.1+1)
       pure (ForInStep.yield (none,e.2.1,e.2.2.1,e.2.2.2.1,e.2.2.2.2.1+1))
noncomputable def mLo (a b:Array Keyed):StateT SortSt Sem (Array Keyed):=do
 liftM (rule "list.sort.merge-lo")
 let p <- elem' b 0
 if (1 == b.size)=true then pure (fin a b #[p] 0 1)
 else if (0+1 == a.size)=true then pure (finA a b #[p] 0 1)
 else do
  let z <- get
  let c <- forIn [0:a.size+b.size] ((none,#[p],0,1,gallopOf z):TSt) fun _ c=>loT a b c
  match c.1 with
   | some r=>pure r
   | none=>liftM (unsupported "internal:list.sort.merge-bound" : Sem (Array Keyed))
theorem mergeLo_is a b:mergeLo' a b=mLo a b:=by kernel_rfl
structure Two (a b:Array Keyed):Prop where
 sa:Sd a.toList
 sb:Sd b.toList
 ia:∀ p∈a.toList,IsI p
 ib:∀ p∈b.toList,IsI p
 na:1<=a.size
 nb:1<=b.size
 fst:∀ p∈a.toList,∀ q,b.toList[0]? = some q->ky q<=ky p
 lst:∀ q∈b.toList,∀ p,a.toList[a.toList.length - 1]? = some p->ky q<=ky p
theorem fin_list a b o x y:(fin a b o x y).toList=o.toList++a.toList.drop x++b.toList.drop y:=by
 unfold fin
 simp only [Array.toList_append,Array.toList_extract,List.extract_eq_drop_take]
 congr 1
 · congr 1
   rw [List.take_of_length_le (by simp)]
 · rw [List.take_of_length_le (by simp)]
theorem finA_list a b o x y:(finA a b o x y).toList=o.toList++b.toList.drop y++a.toList.drop x:=by
 unfold finA
 simp only [Array.toList_append,Array.toList_extract,List.extract_eq_drop_take]
 congr 1
 · congr 1
   rw [List.take_of_length_le (by simp)]
 · rw [List.take_of_length_le (by simp)]
theorem xS (a:Array Keyed) x k:(a.extract x (x+k)).toList=(a.toList.drop x).take k:=by
 simp only [Array.toList_extract,List.extract_eq_drop_take]
 congr 1
 simp_all
theorem xY {l:List Keyed} (h:l[x]? = some p):[p]=(l.drop x).take 1:=by
 obtain ⟨h1,h2⟩:=List.getElem?_eq_some_iff.mp h
 rw [List.drop_eq_getElem_cons h1,h2]; rfl
theorem qV {a:Array Keyed} (h:x < a.size):∃ p,a[x]? = some p/\a.toList[x]? = some p/\p∈a.toList :=
 ⟨a[x],getElem?_pos a x h,by rw [Array.getElem?_toList]; exact getElem?_pos a x h,by simp⟩
section
variable {a b:Array Keyed}
structure In (a b o:Array Keyed) (x y:Nat):Prop where
 mg:Mg a.toList b.toList o.toList x y
 x1:x+1 < a.size
 y1:y < b.size
def Told (a b:Array Keyed) (r:Array Keyed):Prop:=Dn a.toList b.toList r.toList
theorem Mg.pushA {o:Array Keyed} (T:Two a b) (m:Mg a.toList b.toList o.toList x y) (hp:a.toList[x]? = some p) (h:∀ q∈b.toList.drop y,ky p<=ky q) :
  Mg a.toList b.toList (o.push p).toList (x+1) y:=by
 rw [Array.toList_push]
 refine m.stepA T.sa [p] 1 (xY hp) ?_ fun q hq=>by rw [List.mem_singleton.mp hq]; exact h
 obtain ⟨h1,_⟩:=List.getElem?_eq_some_iff.mp hp
 lia
theorem Mg.pushB {o:Array Keyed} (T:Two a b) (m:Mg a.toList b.toList o.toList x y) (hp:b.toList[y]? = some p) (h:∀ q∈a.toList.drop x,ky p<=ky q) :
  Mg a.toList b.toList (o.push p).toList x (y+1):=by
 rw [Array.toList_push]
 refine m.stepB T.sb [p] 1 (xY hp) ?_ fun q hq=>by rw [List.mem_singleton.mp hq]; exact h
 obtain ⟨h1,_⟩:=List.getElem?_eq_some_iff.mp hp
 lia
theorem Mg.told (T:Two a b) (m:Mg a.toList b.toList o.toList x y) (h:x=a.size \/ y=b.size):Told a b (fin a b o x y):=by
 unfold Told; rw [fin_list]; exact m.endF T.sa T.sb (by simpa using h)
theorem Mg.toldA (T:Two a b) (m:Mg a.toList b.toList o.toList x y) (h:x+1=a.size):Told a b (finA a b o x y):=by
 unfold Told; rw [finA_list]; exact m.endA T.sb (by simpa using h) T.lst
def GOk (a b:Array Keyed) (st:SortSt) (n:Nat) (c:GS) (z:SortSt):Prop :=
 (∃ g,z=gst st g)/\((∃ r o x y mg ca cb,c=(some r,o,x,y,mg,ca,cb)/\Told a b r) \/ ∃ o x y mg ca cb,c=(none,o,x,y,mg,ca,cb)/\In a b o x y/\n<=x+y)
def OOk (a b:Array Keyed) (st:SortSt) (n:Nat) (c:OS) (z:SortSt):Prop :=
 (∃ g,z=gst st g)/\((∃ r o x y ca cb,c=(some r,o,x,y,ca,cb)/\Told a b r) \/ ∃ o x y ca cb,c=(none,o,x,y,ca,cb)/\In a b o x y/\n<=x+y)
theorem wp_lo3 {st:SortSt} (T:Two a b) (m:In a b o x y) (hn:n<=x+y+1) (hle:∀ p,a.toList[x]? = some p->∀ q∈b.toList.drop y,ky p<=ky q)
  (hd:∀ c,GOk a b st n c (gst st g)->Q (.done c) (gst st g)) (hy:∀ o x y mg ca cb,In a b o x y->n<=x+y->Q (.yield (none,o,x,y,mg,ca,cb)) (gst st g)) :
  wpS (model prog w) A E s (lo3 a b o x y mg ca cb) Q (gst st g):=by
 obtain ⟨p,p1,p2,p3⟩:=qV (a:=a) (x:=x) (by have:=m.x1; lia)
 have m':=m.mg.pushA T p2 (hle p p2)
 refine wpS_bind (qI p1 ?_)
 by_cases h1:x+1+1=a.size
 · rw [if_pos (by simpa using h1)]
   exact wpS_pure (hd _ ⟨⟨g,rfl⟩,.inl ⟨_,_,_,_,_,_,_,rfl,m'.toldA T h1⟩⟩)
 · rw [if_neg (by simpa using h1)]
   have hin:In a b (o.push p) (x+1) y:=⟨m',by have:=m.x1; lia,m.y1⟩
   split
   · exact wpS_pure (hd _ ⟨⟨g,rfl⟩,.inr ⟨_,_,_,_,_,_,rfl,hin,by lia⟩⟩)
   · exact wpS_pure (hy _ _ _ _ _ _ hin (by lia))
theorem wp_lo2 {st:SortSt} (hk:kindOf st=oneType') (T:Two a b) (m:In a b o x y) (hn:n<=x+y+1) (hle:∀ p,b.toList[y]? = some p->∀ q∈a.toList.drop x,ky p<=ky q)
  (hd:∀ c,GOk a b st n c (gst st g)->Q (.done c) (gst st g)) (hy:∀ o x y mg ca cb,In a b o x y->n<=x+y->Q (.yield (none,o,x,y,mg,ca,cb)) (gst st g)) :
  wpS (model prog w) A E s (lo2 a b o x y mg ca cb) Q (gst st g):=by
 obtain ⟨p,p1,p2,p3⟩:=qV m.y1
 obtain ⟨q,q1,q2,q3⟩:=qV (a:=a) (x:=x) (by have:=m.x1; lia)
 have m':=m.mg.pushB T p2 (hle p p2)
 refine wpS_bind (qI p1 ?_)
 by_cases h1:y+1=b.size
 · rw [if_pos (by simpa using h1)]
   exact wpS_pure (hd _ ⟨⟨g,rfl⟩,.inl ⟨_,_,_,_,_,_,_,rfl,m'.told T (.inr h1)⟩⟩)
 · rw [if_neg (by simpa using h1)]
   have hy1:y+1 < b.size:=by have:=m.y1; lia
   refine wpS_bind (qI q1 ?_)
   refine wpS_bind (yF hk (T.ia q q3) T.ib (by lia) (wS T.sb (by lia)) (by lia) fun k k1 k2 k3=>?_)
   dsimp only
   have hrest:∀ j,j=y+1+k->∀ p',a.toList[x]? = some p'->∀ u∈b.toList.drop j,ky p'<=ky u:=by
    rintro j rfl p' hp' u hu
    rw [q2] at hp'; cases hp'
    obtain ⟨i,i1,i2⟩:=vC hu
    obtain ⟨i3,i4⟩:=jX i2
    rw [<- i4]; exact k3 i i1 (by lia)
   by_cases hk0:k > 0
   · rw [if_pos hk0]
     have m2:Mg a.toList b.toList (o.push p++b.extract (y+1) (y+1+k)).toList x (y+1+k):=by
      rw [Array.toList_append]
      refine m'.stepB T.sb _ k (xS b (y+1) k) (by rw [Array.length_toList]; grind) fun u hu v hv=>?_
      rw [xS] at hu
      obtain ⟨i,i1,i2,i3⟩:=jF hu
      obtain ⟨i4,i5⟩:=jX i3
      have:=k2 i i1 i2
      have h2:=vL T.sa q2 v hv
      lia
     by_cases h2:y+1+k=b.size
     · rw [if_pos (by simpa using h2)]
       exact wpS_pure (hd _ ⟨⟨g,rfl⟩,.inl ⟨_,_,_,_,_,_,_,rfl,m2.told T (.inr h2)⟩⟩)
     · rw [if_neg (by simpa using h2)]
       exact wp_lo3 T ⟨m2,m.x1,by grind⟩ (by lia) (hrest _ rfl) hd hy
   · rw [if_neg hk0]
     exact wp_lo3 T ⟨m',m.x1,hy1⟩ (by lia) (hrest _ (by simp_all)) hd hy
theorem wp_lo1 {st:SortSt} (hk:kindOf st=oneType') (T:Two a b) (m:In a b o x y) (hn:n<=x+y+1)
  (hd:∀ c z,GOk a b st n c z->Q (.done c) z) (hy:∀ o x y mg ca cb g,In a b o x y->n<=x+y->Q (.yield (none,o,x,y,mg,ca,cb)) (gst st g)) :
  wpS (model prog w) A E s (lo1 a b o x y mg ca cb) Q (gst st g):=by
 obtain ⟨p,p1,p2,p3⟩:=qV m.y1
 have hx1:=m.x1
 unfold lo1
 refine wpS_bind (wpS_modify ?_)
 refine wpS_bind (qI p1 ?_)
 refine wpS_bind (yF hk (T.ib p p3) T.ia (by lia) (wS T.sa (by lia)) (by lia) fun k k1 k2 k3=>?_)
 dsimp only
 have hrest:∀ j,j=x+k->∀ p',b.toList[y]? = some p'->∀ u∈a.toList.drop j,ky p'<=ky u:=by
  rintro j rfl p' hp' u hu
  rw [p2] at hp'; cases hp'
  obtain ⟨i,i1,i2⟩:=vC hu
  obtain ⟨i3,i4⟩:=jX i2
  rw [<- i4]; exact Int.le_of_lt (k3 i i1 (by lia))
 by_cases hk0:k > 0
 · rw [if_pos hk0]
   have m2:Mg a.toList b.toList (o++a.extract x (x+k)).toList (x+k) y:=by
    rw [Array.toList_append]
    refine m.mg.stepA T.sa _ k (xS a x k) (by rw [Array.length_toList]; lia) fun u hu v hv=>?_
    rw [xS] at hu
    obtain ⟨i,i1,i2,i3⟩:=jF hu
    obtain ⟨i4,i5⟩:=jX i3
    have:=k2 i i1 i2
    have h2:=vL T.sb p2 v hv
    lia
   by_cases h1:x+k+1=a.size
   · rw [if_pos (by simpa using h1)]
     exact wpS_pure (hd _ _ ⟨⟨_,rfl⟩,.inl ⟨_,_,_,_,_,_,_,rfl,m2.toldA T h1⟩⟩)
   rw [if_neg (by simpa using h1)]
   by_cases h2:x+k=a.size
   · rw [if_pos (by simpa using h2)]
     exact wpS_pure (hd _ _ ⟨⟨_,rfl⟩,.inl ⟨_,_,_,_,_,_,_,rfl,m2.told T (.inl h2)⟩⟩)
   rw [if_neg (by simpa using h2)]
   exact wp_lo2 hk T ⟨m2,by grind,m.y1⟩ (by lia) (hrest _ rfl) (fun c h=>hd c _ h) fun o x y mg' ca cb=>hy o x y mg' ca cb mg
 · rw [if_neg hk0]
   exact wp_lo2 hk T m hn (hrest _ (by simp_all)) (fun c h=>hd c _ h) fun o x y mg' ca cb=>hy o x y mg' ca cb mg
theorem wp_loO {st:SortSt} (hk:kindOf st=oneType') (T:Two a b) (m:In a b o x y) (hn:n<=x+y+1)
  (hd:∀ c,OOk a b st n c (gst st g)->Q (.done c) (gst st g)) (hy:∀ o x y ca cb,In a b o x y->n<=x+y->Q (.yield (none,o,x,y,ca,cb)) (gst st g)) :
  wpS (model prog w) A E s (loO a b mg (none,o,x,y,ca,cb)) Q (gst st g):=by
 obtain ⟨p,p1,p2,p3⟩:=qV m.y1
 obtain ⟨q,q1,q2,q3⟩:=qV (a:=a) (x:=x) (by have:=m.x1; lia)
 have hx1:=m.x1
 have hy1:=m.y1
 unfold loO
 refine wpS_bind (qI p1 (wpS_bind (qI q1 ?_)))
 refine wpS_bind (wp_lt hk (T.ib p p3) (T.ia q q3) ?_)
 dsimp only
 by_cases hl:ky p < ky q
 · rw [if_pos (by simpa using hl)]
   have m':=m.mg.pushB T p2 fun u hu=>Int.le_trans (Int.le_of_lt hl) (vL T.sa q2 u hu)
   refine wpS_bind (qI p1 ?_)
   by_cases h1:y+1=b.size
   · rw [if_pos (by simpa using h1)]
     exact wpS_pure (hd _ ⟨⟨_,rfl⟩,.inl ⟨_,_,_,_,_,_,rfl,m'.told T (.inr h1)⟩⟩)
   rw [if_neg (by simpa using h1)]
   have hin:In a b (o.push p) x (y+1):=⟨m',hx1,by lia⟩
   split
   · exact wpS_pure (hd _ ⟨⟨_,rfl⟩,.inr ⟨_,_,_,_,_,rfl,hin,by lia⟩⟩)
   · exact wpS_pure (hy _ _ _ _ _ hin (by lia))
 · rw [if_neg (by simpa using hl)]
   have m':=m.mg.pushA T q2 fun u hu=>Int.le_trans (Int.not_lt.mp hl) (vL T.sb p2 u hu)
   refine wpS_bind (qI q1 ?_)
   by_cases h1:x+1+1=a.size
   · rw [if_pos (by simpa using h1)]
     exact wpS_pure (hd _ ⟨⟨_,rfl⟩,.inl ⟨_,_,_,_,_,_,rfl,m'.toldA T h1⟩⟩)
   rw [if_neg (by simpa using h1)]
   have hin:In a b (o.push q) (x+1) y:=⟨m',by lia,hy1⟩
   split
   · exact wpS_pure (hd _ ⟨⟨_,rfl⟩,.inr ⟨_,_,_,_,_,rfl,hin,by lia⟩⟩)
   · exact wpS_pure (hy _ _ _ _ _ hin (by lia))
theorem wp_loT {st:SortSt} (hk:kindOf st=oneType') (T:Two a b) (m:In a b o x y)
  (hd:∀ r o x y mg g,Told a b r->Q (.done (some r,o,x,y,mg)) (gst st g)) (hy:∀ o' x' y' mg g,In a b o' x' y'->x+y+1<=x'+y'->Q (.yield (none,o',x',y',mg)) (gst st g)) :
  wpS (model prog w) A E s (loT a b (none,o,x,y,mg)) Q (gst st g):=by
 have hna:=T.na
 unfold loT
 refine wpS_bind (wpS_mono (wpS_forRange (I:=fun i c z=>∃ o' x' y' ca cb g,c=(none,o',x',y',ca,cb)/\z=gst st g/\In a b o' x' y'/\x+y+i<=x'+y')
  (Q:=fun c z=>OOk a b st (x+y+1) c z) ?s1 ?s2 ⟨o,x,y,0,0,g,rfl,rfl,m,by simp_all⟩) ?s3)
 case s2 =>
  rintro c z ⟨o',x',y',ca,cb,g',rfl,rfl,m',hle⟩
  exact ⟨⟨_,rfl⟩,.inr ⟨_,_,_,_,_,rfl,m',by lia⟩⟩
 case s1 =>
  rintro i c z _ hi ⟨o',x',y',ca,cb,g',rfl,rfl,m',hle⟩
  refine wp_loO hk T m' (by lia) (fun c hc=>?_) fun o2 x2 y2 ca cb m2 h2=>⟨o2,x2,y2,ca,cb,g',rfl,rfl,m2,h2⟩
  obtain ⟨h1,h2⟩:=hc
  refine ⟨h1,?_⟩
  rcases h2 with h2 | ⟨o2,x2,y2,ca,cb,e,m2,h2⟩
  · exact .inl h2
  · exact .inr ⟨o2,x2,y2,ca,cb,e,m2,by lia⟩
 case s3 =>
  rintro c z ⟨⟨g',rfl⟩,hc⟩
  rcases hc with ⟨r,o2,x2,y2,ca,cb,rfl,hr⟩ | ⟨o2,x2,y2,ca,cb,rfl,m2,h2⟩
  · dsimp only
    exact wpS_pure (hd _ _ _ _ _ _ hr)
  · dsimp only
    refine wpS_bind (wpS_lift (wpAny_rule ⟨rfl,?_⟩))
    refine wpS_bind (wpS_mono (wpS_forRange (I:=fun i c z=>∃ o' x' y' mg ca cb g,c=(none,o',x',y',mg,ca,cb)/\z=gst st g/\In a b o' x' y'/\x+y+1<=x'+y')
     (Q:=fun c z=>GOk a b st (x+y+1) c z) ?s4 ?s5 ⟨o2,x2,y2,mg+1,ca,cb,g',rfl,rfl,m2,h2⟩) ?s6)
    case s5 =>
     rintro c z ⟨o',x',y',mg',ca,cb,g',rfl,rfl,m',hle⟩
     exact ⟨⟨_,rfl⟩,.inr ⟨_,_,_,_,_,_,rfl,m',by omega⟩⟩
    case s4 =>
     rintro i c z _ hi ⟨o',x',y',mg',ca,cb,g',rfl,rfl,m',hle⟩
     split
     · exact wp_lo1 hk T m' (by lia) (fun c z hc=>hc) fun o2 x2 y2 mg ca cb g m2 h2=>⟨o2,x2,y2,mg,ca,cb,g,rfl,rfl,m2,h2⟩
     · exact wp_lo1 hk T m' (by lia) (fun c z hc=>hc) fun o2 x2 y2 mg ca cb g m2 h2=>⟨o2,x2,y2,mg,ca,cb,g,rfl,rfl,m2,h2⟩
    case s6 =>
     rintro c z ⟨⟨g',rfl⟩,hc⟩
     rcases hc with ⟨r,o2,x2,y2,mg',ca,cb,rfl,hr⟩ | ⟨o2,x2,y2,mg',ca,cb,rfl,m2,h2⟩
     · dsimp only
       exact wpS_pure (hd _ _ _ _ _ _ hr)
     · dsimp only
       exact wpS_bind (wpS_modify (wpS_pure (hy _ _ _ _ _ m2 h2)))
theorem wp_mergeLo {st:SortSt} (hk:kindOf st=oneType') (T:Two a b) (h:∀ r g,Told a b r->Q r (gst st g)) :
  wpS (model prog w) A E s (mergeLo' a b) Q st:=by
 have hna:=T.na
 have hnb:=T.nb
 obtain ⟨p,p1,p2,p3⟩:=qV (a:=b) (x:=0) (by lia)
 have m0:Mg a.toList b.toList [] 0 0:=⟨Nat.zero_le _,Nat.zero_le _,by simp,List.Pairwise.nil,fun p hp=>absurd hp (by simp)⟩
 have m1:=m0
 have m:=m1.pushB T p2 fun q hq=>T.fst q (List.mem_of_mem_drop hq) p p2
 rw [mergeLo_is]
 refine wpS_bind (wpS_lift (wpAny_rule ⟨rfl,?_⟩))
 refine wpS_bind (qI p1 ?_)
 by_cases h1:1=b.size
 · rw [if_pos (by simpa using h1)]
   exact wpS_pure (h _ (gallopOf st) (m.told T (.inr h1)))
 rw [if_neg (by simpa using h1)]
 by_cases h2:0+1=a.size
 · rw [if_pos (by simpa using h2)]
   exact wpS_pure (h _ (gallopOf st) (m.toldA T h2))
 rw [if_neg (by simpa using h2)]
 refine wpS_bind (wpS_get ?_)
 refine wpS_bind (wpS_mono (wpS_forRange (I:=fun i c z=>∃ o x y mg g,c=(none,o,x,y,mg)/\z=gst st g/\In a b o x y/\i+1<=x+y)
  (Q:=fun c z=>∃ r o x y mg g,c=(some r,o,x,y,mg)/\z=gst st g/\Told a b r) ?s1 ?s2 ⟨#[p],0,1,_,gallopOf st,rfl,rfl,⟨m,by lia,by lia⟩,by lia⟩) ?s3)
 case s2 =>
  rintro c z ⟨o,x,y,mg,g,rfl,rfl,m,hle⟩
  have:=m.x1
  have:=m.y1
  lia
 case s1 =>
  rintro i c z _ hi ⟨o,x,y,mg,g,rfl,rfl,m,hle⟩
  exact wp_loT hk T m (fun r o x y mg g hr=>⟨r,o,x,y,mg,g,rfl,rfl,hr⟩) fun o x y mg g m h=>⟨o,x,y,mg,g,rfl,rfl,m,by lia⟩
 case s3 =>
  rintro c z ⟨r,o,x,y,mg,g,rfl,rfl,hr⟩
  exact wpS_pure (h r g hr)
end
noncomputable def fiH (a b o:Array Keyed) (x y:Nat):Array Keyed:=a.extract 0 x++b.extract 0 y++o.reverse
noncomputable def fiB (a b o:Array Keyed) (x y:Nat):Array Keyed:=b.extract 0 y++a.extract 0 x++o.reverse
abbrev GH:=Option (Array Keyed)×Nat×Nat×Array Keyed×Nat×Nat×Nat
abbrev OH:=Option (Array Keyed)×Nat×Nat×Array Keyed×Nat×Nat
abbrev TH:=Option (Array Keyed)×Nat×Nat×Array Keyed×Nat
noncomputable def hi3 (a b o:Array Keyed) (x y mg ca cb:Nat):StateT SortSt Sem (ForInStep GH):=do
 let p <- elem' a (x - 1)
 if (x - 1 == 0)=true then pure (ForInStep.done (some (fiH a b (o.push p) (x - 1) y),x - 1,y,o.push p,mg,ca,cb))
 else if (decide (ca < 7) && decide (cb < 7))=true then pure (ForInStep.done (none,x - 1,y,o.push p,mg,ca,cb))
 else pure (ForInStep.yield (none,x - 1,y,o.push p,mg,ca,cb))
noncomputable def hi2 (a b o:Array Keyed) (x y mg ca cb:Nat):StateT SortSt Sem (ForInStep GH):=do
 let p <- elem' b (y - 1)
 if (y - 1 == 1)=true then pure (ForInStep.done (some (fiB a b (o.push p) x (y - 1)),x,y - 1,o.push p,mg,ca,cb))
 else do
  let q <- elem' a (x - 1)
  let r <- gallop' true q b 0 (y - 1) (y - 1 - 1)
  match r with
   | some t =>
     if y - 1 - t > 0 then
      if (t == 1)=true then pure (ForInStep.done (some (fiB a b (o.push p++(b.extract t (y - 1)).reverse) x t),x,t,o.push p++(b.extract t (y - 1)).reverse,mg,ca,y - 1 - t))
      else if (t == 0)=true then pure (ForInStep.done (some (fiH a b (o.push p++(b.extract t (y - 1)).reverse) x t),x,t,o.push p++(b.extract t (y - 1)).reverse,mg,ca,y - 1 - t))
      else hi3 a b (o.push p++(b.extract t (y - 1)).reverse) x t mg ca (y - 1 - t)
     else hi3 a b (o.push p) x (y - 1) mg ca (y - 1 - t)
   | _=>pure (ForInStep.done (some (fiH a b (o.push p) x (y - 1)),x,y - 1,o.push p,mg,ca,cb))
noncomputable def hi1 (a b o:Array Keyed) (x y mg ca cb:Nat):StateT SortSt Sem (ForInStep GH):=do
 setMG mg
 let q <- elem' b (y - 1)
 let r <- gallop' false q a 0 x (x - 1)
 match r with
  | some t =>
    if x - t > 0 then
     if (t == 0)=true then pure (ForInStep.done (some (fiH a b (o++(a.extract t x).reverse) t y),t,y,o++(a.extract t x).reverse,mg,x - t,cb))
     else hi2 a b (o++(a.extract t x).reverse) t y mg (x - t) cb
    else hi2 a b o x y mg (x - t) cb
  | _=>pure (ForInStep.done (some (fiH a b o x y),x,y,o,mg,ca,cb))
noncomputable def hiO (a b:Array Keyed) (mg:Nat) (c:OH):StateT SortSt Sem (ForInStep OH):=do
 let p <- elem' b (c.2.2.1 - 1)
 let q <- elem' a (c.2.1 - 1)
 let r <- lt' p q
 match r with
  | some aw =>
    if aw=true then do
     let p <- elem' a (c.2.1 - 1)
     if (c.2.1 - 1 == 0)=true then pure (ForInStep.done (some (fiH a b (c.2.2.2.1.push p) (c.2.1 - 1) c.2.2.1),c.2.1 - 1,c.2.2.1,c.2.2.2.1.push p,c.2.2.2.2.1+1,0))
     else if c.2.2.2.2.1+1 ≥ mg then pure (ForInStep.done (none,c.2.1 - 1,c.2.2.1,c.2.2.2.1.push p,c.2.2.2.2.1+1,0))
     else pure (ForInStep.yield (none,c.2.1 - 1,c.2.2.1,c.2.2.2.1.push p,c.2.2.2.2.1+1,0))
    else do
     let p <- elem' b (c.2.2.1 - 1)
     if (c.2.2.1 - 1 == 1)=true then pure (ForInStep.done (some (fiB a b (c.2.2.2.1.push p) c.2.1 (c.2.2.1 - 1)),c.2.1,c.2.2.1 - 1,c.2.2.2.1.push p,0,c.2.2.2.2.2+1))
     else if c.2.2.2.2.2+1 ≥ mg then pure (ForInStep.done (none,c.2.1,c.2.2.1 - 1,c.2.2.2.1.push p,0,c.2.2.2.2.2+1))
     else pure (ForInStep.yield (none,c.2.1,c.2.2.1 - 1,c.2.2.2.1.push p,0,c.2.2.2.2.2+1))
  | _=>pure (ForInStep.done (some (fiH a b c.2.2.2.1 c.2.1 c.2.2.1),c.2.1,c.2.2.1,c.2.2.2.1,c.2.2.2.2.1,c.2.2.2.2.2))
noncomputable def hiT (a b:Array Keyed) (c:TH):StateT SortSt Sem (ForInStep TH):=do
 let d <- forIn [0:a.size+b.size] ((none,c.2.1,c.2.2.1,c.2.2.2.1,0,0):OH) fun _ d=>hiO a b c.2.2.2.2 d
 match d.1 with
  | some r=>pure (ForInStep.done (some r,d.2.1,d.2.2.1,d.2.2.2.1,c.2.2.2.2))
  | none => do
    liftM (rule "list.sort.gallop")
    let e <- forIn [0:a.size+b.size] ((none,d.2.1,d.2.2.1,d.2.2.2.1,c.2.2.2.2+1,d.2.2.2.2.1,d.2.2.2.2.2):GH) fun _ e =>
     if e.2.2.2.2.1 > 1 then hi1 a b e.2.2.2.1 e.2.1 e.2.2.1 (e.2.2.2.2.1 - 1) e.2.2.2.2.2.1 e.2.2.2.2.2.2 else hi1 a b e.2.2.2.1 e.2.1 e.2.2.1 e.2.2.2.2.1 e.2.2.2.2.2.1 e.2.2.2.2.2.2
    match e.1 with
     | some r=>pure (ForInStep.done (some r,e.2.1,e.2.2.1,e.2.2.2.1,e.2.2.2.2.1))
     | none => do
       setMG (e.2.2.2.2.1+1)
       pure (ForInStep.yield (none,e.2.1,e.2.2.1,e.2.2.2.1,e.2.2.2.2.1+1))
noncomputable def mHi (a b:Array Keyed):StateT SortSt Sem (Array Keyed):=do
 liftM (rule "list.sort.merge-hi")
 let p <- elem' a (a.size - 1)
 if (a.size - 1 == 0)=true then pure (fiH a b #[p] (a.size - 1) b.size)
 else if (b.size == 1)=true then pure (fiB a b #[p] (a.size - 1) b.size)
 else do
  let z <- get
  let c <- forIn [0:a.size+b.size] ((none,a.size - 1,b.size,#[p],gallopOf z):TH) fun _ c=>hiT a b c
  match c.1 with
   | some r=>pure r
   | none=>liftM (unsupported "internal:list.sort.merge-bound" : Sem (Array Keyed))
theorem mergeHi_is a b:mergeHi' a b=mHi a b:=by kernel_rfl
structure Mh (a b:List Keyed) (o:List Keyed) (x y:Nat):Prop where
 xa:x<=a.length
 yb:y<=b.length
 pm:((a.take x++b.take y)++o.reverse).Perm (a++b)
 sd:Sd o.reverse
 le:∀ p∈o,∀ q,(q∈a.take x \/ q∈b.take y)->ky q<=ky p
theorem take_two (l:List Keyed) (h:j<=x):l.take x=l.take j++(l.drop j).take (x - j):=by
 conv=>lhs; rw [show x=j+(x - j) by simp_all,List.take_add]
theorem Mh.stepA (m:Mh a b o x y) (ha:Sd a) t j (ht:t=(a.drop j).take (x - j)) (hj:j<=x) (h:∀ p∈t,∀ q∈b.take y,ky q<=ky p) :
  Mh a b (o++t.reverse) j y:=by
 have e:a.take x=a.take j++t:=by rw [ht]; exact take_two a hj
 have hs:Sd (a.take j++t):=by rw [<- e]; exact List.Pairwise.sublist (List.take_sublist ..) ha
 obtain ⟨s1,s2,s3⟩:=Sd.app.mp hs
 refine ⟨Nat.le_trans hj m.xa,m.yb,?_,?_,?_⟩
 · refine List.Perm.trans ?_ m.pm
   rw [e,List.reverse_append,List.reverse_reverse,<- List.append_assoc]
   refine List.Perm.append_right _ ?_
   rw [List.append_assoc,List.append_assoc]
   exact List.Perm.append_left _ List.perm_append_comm
 · rw [List.reverse_append, List.reverse_reverse]
   exact Sd.app.mpr ⟨s2,m.sd,fun q hq p hp=>m.le p (List.mem_reverse.mp hp) q (.inl (by rw [e]; exact List.mem_append_right _ hq))⟩
 · intro p hp q hq
   rcases List.mem_append.mp hp with hp | hp
   · refine m.le p hp q ?_
     rcases hq with hq | hq
     · exact .inl (by rw [e]; exact List.mem_append_left _ hq)
     · exact .inr hq
   · rcases hq with hq | hq
     · exact s3 q hq p (List.mem_reverse.mp hp)
     · exact h p (List.mem_reverse.mp hp) q hq
theorem Mh.stepB (m:Mh a b o x y) (hb:Sd b) t j (ht:t=(b.drop j).take (y - j)) (hj:j<=y) (h:∀ p∈t,∀ q∈a.take x,ky q<=ky p) :
  Mh a b (o++t.reverse) x j:=by
 have e:b.take y=b.take j++t:=by rw [ht]; exact take_two b hj
 have hs:Sd (b.take j++t):=by rw [<- e]; exact List.Pairwise.sublist (List.take_sublist ..) hb
 obtain ⟨s1,s2,s3⟩:=Sd.app.mp hs
 refine ⟨m.xa,Nat.le_trans hj m.yb,?_,?_,?_⟩
 · refine List.Perm.trans ?_ m.pm
   rw [e,List.reverse_append,List.reverse_reverse,<- List.append_assoc,<- List.append_assoc]
 · rw [List.reverse_append, List.reverse_reverse]
   exact Sd.app.mpr ⟨s2,m.sd,fun q hq p hp=>m.le p (List.mem_reverse.mp hp) q (.inr (by rw [e]; exact List.mem_append_right _ hq))⟩
 · intro p hp q hq
   rcases List.mem_append.mp hp with hp | hp
   · refine m.le p hp q ?_
     rcases hq with hq | hq
     · exact .inl hq
     · exact .inr (by rw [e]; exact List.mem_append_left _ hq)
   · rcases hq with hq | hq
     · exact h p (List.mem_reverse.mp hp) q hq
     · exact s3 q hq p (List.mem_reverse.mp hp)
theorem Mh.endF (m:Mh a b o x y) (ha:Sd a) (hb:Sd b) (h:x=0 \/ y=0):Dn a b (a.take x++b.take y++o.reverse):=by
 refine ⟨m.pm,Sd.app.mpr ⟨?_,m.sd,fun q hq p hp=>m.le p (List.mem_reverse.mp hp) q (List.mem_append.mp hq)⟩⟩
 rcases h with h | h
 · rw [h,List.take_zero,List.nil_append]; exact List.Pairwise.sublist (List.take_sublist ..) hb
 · rw [h,List.take_zero,List.append_nil]; exact List.Pairwise.sublist (List.take_sublist ..) ha
theorem Mh.endB (m:Mh a b o x y) (ha:Sd a) (h:y=1) (hf:∀ p∈a,∀ q,b[0]? = some q->ky q<=ky p):Dn a b (b.take y++a.take x++o.reverse):=by
 subst h
 refine ⟨?_,Sd.app.mpr ⟨Sd.app.mpr ⟨?_,List.Pairwise.sublist (List.take_sublist ..) ha,?_⟩,m.sd,?_⟩⟩
 · refine List.Perm.trans ?_ m.pm
   exact List.Perm.append_right _ List.perm_append_comm
 · match b with
   | []=>exact List.Pairwise.nil
   | q::r=>exact List.pairwise_singleton _ _
 · intro q hq p hp
   obtain ⟨i,i1,i2⟩:=wA hq
   have:i=0:=by simp_all
   subst this
   exact hf p (List.mem_of_mem_take hp) q i2
 · intro q hq p hp
   refine m.le p (List.mem_reverse.mp hp) q ?_
   rcases List.mem_append.mp hq with h | h
   · exact .inr h
   · exact .inl h
theorem fiH_list a b o x y:(fiH a b o x y).toList=a.toList.take x++b.toList.take y++o.toList.reverse:=by
 unfold fiH
 simp only [Array.toList_append,Array.toList_extract,List.extract_eq_drop_take,Array.toList_reverse,List.drop_zero,Nat.sub_zero]
theorem fiB_list a b o x y:(fiB a b o x y).toList=b.toList.take y++a.toList.take x++o.toList.reverse:=by
 unfold fiB
 simp only [Array.toList_append,Array.toList_extract,List.extract_eq_drop_take,Array.toList_reverse,List.drop_zero,Nat.sub_zero]
theorem jZ (a:Array Keyed) j x:(a.extract j x).toList=(a.toList.drop j).take (x - j):=by
 simp only [Array.toList_extract,List.extract_eq_drop_take]
section
variable {a b:Array Keyed}
structure InH (a b o:Array Keyed) (x y:Nat):Prop where
 mh:Mh a.toList b.toList o.toList x y
 x1:1<=x
 y1:2<=y
theorem Mh.pushA {o:Array Keyed} (T:Two a b) (m:Mh a.toList b.toList o.toList x y) (hx:1<=x) (hp:a.toList[x - 1]? = some p) (h:∀ q∈b.toList.take y,ky q<=ky p) :
  Mh a.toList b.toList (o.push p).toList (x - 1) y:=by
 rw [Array.toList_push]
 exact m.stepA T.sa [p] (x - 1) (by rw [show x - (x - 1)=1 by grind]; exact xY hp) (by simp_all) fun q hq=>by rw [List.mem_singleton.mp hq]; exact h
theorem Mh.pushB {o:Array Keyed} (T:Two a b) (m:Mh a.toList b.toList o.toList x y) (hy:1<=y) (hp:b.toList[y - 1]? = some p) (h:∀ q∈a.toList.take x,ky q<=ky p) :
  Mh a.toList b.toList (o.push p).toList x (y - 1):=by
 rw [Array.toList_push]
 exact m.stepB T.sb [p] (y - 1) (by rw [show y - (y - 1)=1 by grind]; exact xY hp) (by simp_all) fun q hq=>by rw [List.mem_singleton.mp hq]; exact h
theorem Mh.told (T:Two a b) (m:Mh a.toList b.toList o.toList x y) (h:x=0 \/ y=0):Told a b (fiH a b o x y):=by
 unfold Told; rw [fiH_list]; exact m.endF T.sa T.sb h
theorem Mh.toldB (T:Two a b) (m:Mh a.toList b.toList o.toList x y) (h:y=1):Told a b (fiB a b o x y):=by
 unfold Told; rw [fiB_list]; exact m.endB T.sa h T.fst
def GHok (a b:Array Keyed) (st:SortSt) (n:Nat) (c:GH) (z:SortSt):Prop :=
 (∃ g,z=gst st g)/\((∃ r x y o mg ca cb,c=(some r,x,y,o,mg,ca,cb)/\Told a b r) \/ ∃ x y o mg ca cb,c=(none,x,y,o,mg,ca,cb)/\InH a b o x y/\x+y<=n)
def OHok (a b:Array Keyed) (st:SortSt) (n:Nat) (c:OH) (z:SortSt):Prop :=
 (∃ g,z=gst st g)/\((∃ r x y o ca cb,c=(some r,x,y,o,ca,cb)/\Told a b r) \/ ∃ x y o ca cb,c=(none,x,y,o,ca,cb)/\InH a b o x y/\x+y<=n)
theorem InH.xs (m:InH a b o x y):x - 1 < a.size:=by have:=m.mh.xa; have:=m.x1; rw [Array.length_toList] at *; lia
theorem InH.ys (m:InH a b o x y):y - 1 < b.size:=by have:=m.mh.yb; have:=m.y1; rw [Array.length_toList] at *; lia
theorem top_le {c:Array Keyed} (h:Sd c.toList) (hx:1<=x) (hp:c.toList[x - 1]? = some p):∀ q∈c.toList.take x,ky q<=ky p:=by
 have:=sd_take h hp
 rwa [show x - 1+1=x by simp_all] at this
theorem wp_hi3 {st:SortSt} (T:Two a b) (m:InH a b o x y) (hn:x+y<=n+1) (hle:∀ p,a.toList[x - 1]? = some p->∀ q∈b.toList.take y,ky q<=ky p)
  (hd:∀ c,GHok a b st n c (gst st g)->Q (.done c) (gst st g)) (hy:∀ x y o mg ca cb,InH a b o x y->x+y<=n->Q (.yield (none,x,y,o,mg,ca,cb)) (gst st g)) :
  wpS (model prog w) A E s (hi3 a b o x y mg ca cb) Q (gst st g):=by
 obtain ⟨p,p1,p2,p3⟩:=qV m.xs
 have hx:=m.x1
 have m':=m.mh.pushA T hx p2 (hle p p2)
 refine wpS_bind (qI p1 ?_)
 by_cases h1:x - 1=0
 · rw [if_pos (by simpa using h1)]
   exact wpS_pure (hd _ ⟨⟨g,rfl⟩,.inl ⟨_,_,_,_,_,_,_,rfl,m'.told T (.inl h1)⟩⟩)
 · rw [if_neg (by simpa using h1)]
   have hin:InH a b (o.push p) (x - 1) y:=⟨m',by lia,m.y1⟩
   split
   · exact wpS_pure (hd _ ⟨⟨g,rfl⟩,.inr ⟨_,_,_,_,_,_,rfl,hin,by lia⟩⟩)
   · exact wpS_pure (hy _ _ _ _ _ _ hin (by lia))
theorem wp_hi2 {st:SortSt} (hk:kindOf st=oneType') (T:Two a b) (m:InH a b o x y) (hn:x+y<=n+1) (hle:∀ p,b.toList[y - 1]? = some p->∀ q∈a.toList.take x,ky q<=ky p)
  (hd:∀ c,GHok a b st n c (gst st g)->Q (.done c) (gst st g)) (hy:∀ x y o mg ca cb,InH a b o x y->x+y<=n->Q (.yield (none,x,y,o,mg,ca,cb)) (gst st g)) :
  wpS (model prog w) A E s (hi2 a b o x y mg ca cb) Q (gst st g):=by
 obtain ⟨p,p1,p2,p3⟩:=qV m.ys
 obtain ⟨q,q1,q2,q3⟩:=qV m.xs
 have hx:=m.x1
 have hy2:=m.y1
 have hys:=m.ys
 have m':=m.mh.pushB T (by lia) p2 (hle p p2)
 refine wpS_bind (qI p1 ?_)
 by_cases h1:y - 1=1
 · rw [if_pos (by simpa using h1)]
   exact wpS_pure (hd _ ⟨⟨g,rfl⟩,.inl ⟨_,_,_,_,_,_,_,rfl,m'.toldB T h1⟩⟩)
 · rw [if_neg (by simpa using h1)]
   refine wpS_bind (qI q1 ?_)
   refine wpS_bind (yF hk (T.ia q q3) T.ib (by lia) (wS T.sb (by lia)) (by lia) fun t k1 k2 k3=>?_)
   simp only [if_true,Nat.zero_add] at k2 k3
   dsimp only
   have hrest:∀ j,j=t->∀ p',a.toList[x - 1]? = some p'->∀ u∈b.toList.take j,ky u<=ky p':=by
    rintro j rfl p' hp' u hu
    rw [q2] at hp'; cases hp'
    obtain ⟨i,i1,i2⟩:=wA hu
    obtain ⟨i3,i4⟩:=jX i2
    rw [<- i4]; exact Int.le_of_lt (k2 i (Nat.zero_le _) i1)
   by_cases hk0:y - 1 - t > 0
   · rw [if_pos hk0]
     have m2:Mh a.toList b.toList (o.push p++(b.extract t (y - 1)).reverse).toList x t:=by
      rw [Array.toList_append,Array.toList_reverse]
      refine m'.stepB T.sb _ t (jZ b t (y - 1)) k1 fun u hu v hv=>?_
      rw [jZ] at hu
      obtain ⟨i,i1,i2,i3⟩:=jF hu
      obtain ⟨i4,i5⟩:=jX i3
      have:=k3 i i1 (by simp_all)
      have h2:=top_le T.sa hx q2 v hv
      lia
     by_cases h2:t=1
     · rw [if_pos (by simpa using h2)]
       exact wpS_pure (hd _ ⟨⟨g,rfl⟩,.inl ⟨_,_,_,_,_,_,_,rfl,m2.toldB T h2⟩⟩)
     rw [if_neg (by simpa using h2)]
     by_cases h3:t=0
     · rw [if_pos (by simpa using h3)]
       exact wpS_pure (hd _ ⟨⟨g,rfl⟩,.inl ⟨_,_,_,_,_,_,_,rfl,m2.told T (.inr h3)⟩⟩)
     rw [if_neg (by simpa using h3)]
     exact wp_hi3 T ⟨m2,hx,by lia⟩ (by lia) (hrest _ rfl) hd hy
   · rw [if_neg hk0]
     exact wp_hi3 T ⟨m',hx,by grind⟩ (by lia) (hrest _ (by grind)) hd hy
theorem wp_hi1 {st:SortSt} (hk:kindOf st=oneType') (T:Two a b) (m:InH a b o x y) (hn:x+y<=n+1)
  (hd:∀ c z,GHok a b st n c z->Q (.done c) z) (hy:∀ x y o mg ca cb g,InH a b o x y->x+y<=n->Q (.yield (none,x,y,o,mg,ca,cb)) (gst st g)) :
  wpS (model prog w) A E s (hi1 a b o x y mg ca cb) Q (gst st g):=by
 obtain ⟨p,p1,p2,p3⟩:=qV m.ys
 have hx:=m.x1
 have hy2:=m.y1
 have hxs:=m.xs
 unfold hi1
 refine wpS_bind (wpS_modify ?_)
 refine wpS_bind (qI p1 ?_)
 refine wpS_bind (yF hk (T.ib p p3) T.ia (by lia) (wS T.sa (by lia)) (by lia) fun t k1 k2 k3=>?_)
 simp only [Bool.false_eq_true,if_false,Nat.zero_add] at k2 k3
 dsimp only
 have hrest:∀ j,j=t->∀ p',b.toList[y - 1]? = some p'->∀ u∈a.toList.take j,ky u<=ky p':=by
  rintro j rfl p' hp' u hu
  rw [p2] at hp'; cases hp'
  obtain ⟨i,i1,i2⟩:=wA hu
  obtain ⟨i3,i4⟩:=jX i2
  rw [<- i4]; exact k2 i (Nat.zero_le _) i1
 by_cases hk0:x - t > 0
 · rw [if_pos hk0]
   have m2:Mh a.toList b.toList (o++(a.extract t x).reverse).toList t y:=by
    rw [Array.toList_append,Array.toList_reverse]
    refine m.mh.stepA T.sa _ t (jZ a t x) k1 fun u hu v hv=>?_
    rw [jZ] at hu
    obtain ⟨i,i1,i2,i3⟩:=jF hu
    obtain ⟨i4,i5⟩:=jX i3
    have:=k3 i i1 (by simp_all)
    have h2:=top_le T.sb (by lia) p2 v hv
    lia
   by_cases h1:t=0
   · rw [if_pos (by simpa using h1)]
     exact wpS_pure (hd _ _ ⟨⟨_,rfl⟩,.inl ⟨_,_,_,_,_,_,_,rfl,m2.told T (.inl h1)⟩⟩)
   rw [if_neg (by simpa using h1)]
   exact wp_hi2 hk T ⟨m2,by lia,hy2⟩ (by lia) (hrest _ rfl) (fun c h=>hd c _ h) fun x y o mg' ca cb=>hy x y o mg' ca cb mg
 · rw [if_neg hk0]
   exact wp_hi2 hk T m hn (hrest _ (by grind)) (fun c h=>hd c _ h) fun x y o mg' ca cb=>hy x y o mg' ca cb mg
theorem wp_hiO {st:SortSt} (hk:kindOf st=oneType') (T:Two a b) (m:InH a b o x y) (hn:x+y<=n+1)
  (hd:∀ c,OHok a b st n c (gst st g)->Q (.done c) (gst st g)) (hy:∀ x y o ca cb,InH a b o x y->x+y<=n->Q (.yield (none,x,y,o,ca,cb)) (gst st g)) :
  wpS (model prog w) A E s (hiO a b mg (none,x,y,o,ca,cb)) Q (gst st g):=by
 obtain ⟨p,p1,p2,p3⟩:=qV m.ys
 obtain ⟨q,q1,q2,q3⟩:=qV m.xs
 have hx:=m.x1
 have hy2:=m.y1
 unfold hiO
 refine wpS_bind (qI p1 (wpS_bind (qI q1 ?_)))
 refine wpS_bind (wp_lt hk (T.ib p p3) (T.ia q q3) ?_)
 dsimp only
 by_cases hl:ky p < ky q
 · rw [if_pos (by simpa using hl)]
   have m':=m.mh.pushA T hx q2 fun u hu=>Int.le_trans (top_le T.sb (by lia) p2 u hu) (Int.le_of_lt hl)
   refine wpS_bind (qI q1 ?_)
   by_cases h1:x - 1=0
   · rw [if_pos (by simpa using h1)]
     exact wpS_pure (hd _ ⟨⟨_,rfl⟩,.inl ⟨_,_,_,_,_,_,rfl,m'.told T (.inl h1)⟩⟩)
   rw [if_neg (by simpa using h1)]
   have hin:InH a b (o.push q) (x - 1) y:=⟨m',by lia,hy2⟩
   split
   · exact wpS_pure (hd _ ⟨⟨_,rfl⟩,.inr ⟨_,_,_,_,_,rfl,hin,by lia⟩⟩)
   · exact wpS_pure (hy _ _ _ _ _ hin (by lia))
 · rw [if_neg (by simpa using hl)]
   have m':=m.mh.pushB T (by lia) p2 fun u hu=>Int.le_trans (top_le T.sa hx q2 u hu) (Int.not_lt.mp hl)
   refine wpS_bind (qI p1 ?_)
   by_cases h1:y - 1=1
   · rw [if_pos (by simpa using h1)]
     exact wpS_pure (hd _ ⟨⟨_,rfl⟩,.inl ⟨_,_,_,_,_,_,rfl,m'.toldB T h1⟩⟩)
   rw [if_neg (by simpa using h1)]
   have hin:InH a b (o.push p) x (y - 1):=⟨m',hx,by lia⟩
   split
   · exact wpS_pure (hd _ ⟨⟨_,rfl⟩,.inr ⟨_,_,_,_,_,rfl,hin,by lia⟩⟩)
   · exact wpS_pure (hy _ _ _ _ _ hin (by lia))
theorem wp_hiT {st:SortSt} (hk:kindOf st=oneType') (T:Two a b) (m:InH a b o x y)
  (hd:∀ r x y o mg g,Told a b r->Q (.done (some r,x,y,o,mg)) (gst st g)) (hy:∀ x' y' o' mg g,InH a b o' x' y'->x'+y'+1<=x+y->Q (.yield (none,x',y',o',mg)) (gst st g)) :
  wpS (model prog w) A E s (hiT a b (none,x,y,o,mg)) Q (gst st g):=by
 have hna:=T.na
 have hx:=m.x1
 unfold hiT
 refine wpS_bind (wpS_mono (wpS_forRange (I:=fun i c z=>∃ x' y' o' ca cb g,c=(none,x',y',o',ca,cb)/\z=gst st g/\InH a b o' x' y'/\x'+y'+i<=x+y)
  (Q:=fun c z=>OHok a b st (x+y - 1) c z) ?s1 ?s2 ⟨x,y,o,0,0,g,rfl,rfl,m,by simp_all⟩) ?s3)
 case s2 =>
  rintro c z ⟨x',y',o',ca,cb,g',rfl,rfl,m',hle⟩
  exact ⟨⟨_,rfl⟩,.inr ⟨_,_,_,_,_,rfl,m',by lia⟩⟩
 case s1 =>
  rintro i c z _ hi ⟨x',y',o',ca,cb,g',rfl,rfl,m',hle⟩
  have h1':=m'.x1
  refine wp_hiO (n:=x'+y' - 1) hk T m' (by lia) (fun c hc=>?_) fun x2 y2 o2 ca cb m2 h2=>⟨x2,y2,o2,ca,cb,g',rfl,rfl,m2,by lia⟩
  obtain ⟨h1,h2⟩:=hc
  refine ⟨h1,?_⟩
  rcases h2 with h2 | ⟨x2,y2,o2,ca,cb,e,m2,h2⟩
  · exact .inl h2
  · exact .inr ⟨x2,y2,o2,ca,cb,e,m2,by lia⟩
 case s3 =>
  rintro c z ⟨⟨g',rfl⟩,hc⟩
  rcases hc with ⟨r,x2,y2,o2,ca,cb,rfl,hr⟩ | ⟨x2,y2,o2,ca,cb,rfl,m2,h2⟩
  · dsimp only
    exact wpS_pure (hd _ _ _ _ _ _ hr)
  · dsimp only
    refine wpS_bind (wpS_lift (wpAny_rule ⟨rfl,?_⟩))
    refine wpS_bind (wpS_mono (wpS_forRange (I:=fun i c z=>∃ x' y' o' mg ca cb g,c=(none,x',y',o',mg,ca,cb)/\z=gst st g/\InH a b o' x' y'/\x'+y'<=x+y - 1)
     (Q:=fun c z=>GHok a b st (x+y - 1) c z) ?s4 ?s5 ⟨x2,y2,o2,mg+1,ca,cb,g',rfl,rfl,m2,h2⟩) ?s6)
    case s5 =>
     rintro c z ⟨x',y',o',mg',ca,cb,g',rfl,rfl,m',hle⟩
     exact ⟨⟨_,rfl⟩,.inr ⟨_,_,_,_,_,_,rfl,m',by omega⟩⟩
    case s4 =>
     rintro i c z _ hi ⟨x',y',o',mg',ca,cb,g',rfl,rfl,m',hle⟩
     split
     · exact wp_hi1 hk T m' (by lia) (fun c z hc=>hc) fun x2 y2 o2 mg ca cb g m2 h2=>⟨x2,y2,o2,mg,ca,cb,g,rfl,rfl,m2,h2⟩
     · exact wp_hi1 hk T m' (by lia) (fun c z hc=>hc) fun x2 y2 o2 mg ca cb g m2 h2=>⟨x2,y2,o2,mg,ca,cb,g,rfl,rfl,m2,h2⟩
    case s6 =>
     rintro c z ⟨⟨g',rfl⟩,hc⟩
     rcases hc with ⟨r,x2,y2,o2,mg',ca,cb,rfl,hr⟩ | ⟨x2,y2,o2,mg',ca,cb,rfl,m2,h2⟩
     · dsimp only
       exact wpS_pure (hd _ _ _ _ _ _ hr)
     · dsimp only
       exact wpS_bind (wpS_modify (wpS_pure (hy _ _ _ _ _ m2 (by lia))))
theorem wp_mergeHi {st:SortSt} (hk:kindOf st=oneType') (T:Two a b) (h:∀ r g,Told a b r->Q r (gst st g)) :
  wpS (model prog w) A E s (mergeHi' a b) Q st:=by
 have hna:=T.na
 have hnb:=T.nb
 obtain ⟨p,p1,p2,p3⟩:=qV (a:=a) (x:=a.size - 1) (by lia)
 have m1:Mh a.toList b.toList (#[]:Array Keyed).toList a.size b.size:=by
  refine ⟨by simp,by simp,?_,List.Pairwise.nil,fun p hp=>absurd hp (by simp)⟩
  rw [List.take_of_length_le (by simp),List.take_of_length_le (by simp)]
  simp
 have m:=m1.pushA T (by omega) p2 fun q hq=>T.lst q (List.mem_of_mem_take hq) p (by rw [Array.length_toList]; exact p2)
 rw [mergeHi_is]
 refine wpS_bind (wpS_lift (wpAny_rule ⟨rfl,?_⟩))
 refine wpS_bind (qI p1 ?_)
 by_cases h1:a.size - 1=0
 · rw [if_pos (by simpa using h1)]
   exact wpS_pure (h _ (gallopOf st) (m.told T (.inl h1)))
 rw [if_neg (by simpa using h1)]
 by_cases h2:b.size=1
 · rw [if_pos (by simpa using h2)]
   exact wpS_pure (h _ (gallopOf st) (m.toldB T h2))
 rw [if_neg (by simpa using h2)]
 refine wpS_bind (wpS_get ?_)
 refine wpS_bind (wpS_mono (wpS_forRange (I:=fun i c z=>∃ x y o mg g,c=(none,x,y,o,mg)/\z=gst st g/\InH a b o x y/\x+y+i+1<=a.size+b.size)
  (Q:=fun c z=>∃ r x y o mg g,c=(some r,x,y,o,mg)/\z=gst st g/\Told a b r) ?s1 ?s2 ⟨a.size - 1,b.size,#[p],_,gallopOf st,rfl,rfl,⟨m,by lia,by lia⟩,by lia⟩) ?s3)
 case s2 =>
  rintro c z ⟨x,y,o,mg,g,rfl,rfl,m,hle⟩
  lia
 case s1 =>
  rintro i c z _ hi ⟨x,y,o,mg,g,rfl,rfl,m,hle⟩
  exact wp_hiT hk T m (fun r x y o mg g hr=>⟨r,x,y,o,mg,g,rfl,rfl,hr⟩) fun x y o mg g m h=>⟨x,y,o,mg,g,rfl,rfl,m,by lia⟩
 case s3 =>
  rintro c z ⟨r,x,y,o,mg,g,rfl,rfl,hr⟩
  exact wpS_pure (h r g hr)
end
noncomputable def mAt (i:Nat):StateT SortSt Sem Bool:=do
 let z <- get
 let (some (sa,na,pw),some (sb,nb,_)):=((pendingOf z)[i]?,(pendingOf z)[i+1]?) | unsupported "internal:list.sort.pending"
 set (setPending z (((pendingOf z).setIfInBounds i (sa,na+nb,pw)).eraseIdxIfInBounds (i+1)))
 let some k <- gallop' false (<- elem' (arrOf z) sb) (arrOf z) sa na 0 | return false
 let (sa,na):=(sa+k,na - k)
 if na == 0 then return true
 let some nb <- gallop' true (<- elem' (arrOf z) (sa+na - 1)) (arrOf z) sb nb (nb - 1) | return false
 if nb == 0 then return true
 let x:=(arrOf z).extract sa sb
 let y:=(arrOf z).extract sb (sb+nb)
 let r <- if na<=nb then mergeLo' x y else mergeHi' x y
 modify fun z=>setArr z (r.toList.zipIdx.foldl (fun a (p,j)=>a.setIfInBounds (sa+j) p) (arrOf z))
 return (failedOf (<- get)).isNone
theorem mergeAt_is i:mergeAt' i=mAt i:=by kernel_rfl
noncomputable def lay (xs:Array Keyed) (sa:Nat) (r:List Keyed):Array Keyed:=r.zipIdx.foldl (fun a (p,j)=>a.setIfInBounds (sa+j) p) xs
theorem lay_at' sa i:∀ (r:List Keyed) n (xs:Array Keyed),sa+n+r.length<=xs.size →
  ((r.zipIdx n).foldl (fun a (p,j)=>a.setIfInBounds (sa+j) p) xs)[i]? = if sa+n<=i/\i < sa+n+r.length then r[i - (sa+n)]? else xs[i]?
 | [], n, xs, h => by
   rw [if_neg (by simp)]; rfl
 | p :: r, n, xs, h => by
   rw [List.zipIdx_cons,List.foldl_cons]
   have h':sa+(n+1)+r.length<=(xs.setIfInBounds (sa+n) p).size:=by simp only [Array.size_setIfInBounds]; simp only [List.length_cons] at h; omega
   rw [lay_at' sa i r (n+1) _ h',Array.getElem?_setIfInBounds]
   simp only [List.length_cons] at h ⊢
   by_cases h1:sa+n=i
   · subst h1
     rw [if_neg (by omega),if_pos rfl,if_pos (by omega),if_pos (by omega)]
     simp
   · by_cases h2 : sa + (n + 1) <= i /\ i < sa + (n + 1) + r.length
     · rw [if_pos h2,if_pos (by omega),show i - (sa+n)=(i - (sa+(n+1)))+1 by omega,List.getElem?_cons_succ]
     · rw [if_neg h2,if_neg h1,if_neg (by omega)]
theorem lay_at (h:sa+r.length<=xs.size) i:(lay xs sa r)[i]? = if sa<=i/\i < sa+r.length then r[i - sa]? else xs[i]? :=
 lay_at' sa i r 0 xs h
theorem lay_list (h:sa+r.length<=xs.size):(lay xs sa r).toList=xs.toList.take sa++r++xs.toList.drop (sa+r.length):=by
 apply List.ext_getElem?
 intro i
 rw [Array.getElem?_toList,lay_at h,List.append_assoc]
 have hl:(xs.toList.take sa).length=sa:=by rw [List.length_take,Array.length_toList]; lia
 by_cases h1:i < sa
 · rw [if_neg (by lia),List.getElem?_append_left (by simp_all),List.getElem?_take_of_lt h1,Array.getElem?_toList]
 · rw [List.getElem?_append_right (by simp_all), hl]
   by_cases h2:i < sa+r.length
   · rw [if_pos ⟨by simp_all,h2⟩,List.getElem?_append_left (by lia)]
   · rw [if_neg (by simp_all), List.getElem?_append_right (by grind), List.getElem?_drop, Array.getElem?_toList]
     congr 1
     grind
theorem lay_perm (h:sa+r.length<=xs.size) (hp:r.Perm ((xs.toList.drop sa).take r.length)):(lay xs sa r).Perm xs:=by
 rw [Array.perm_iff_toList_perm,lay_list h]
 have e:xs.toList=xs.toList.take sa++(xs.toList.drop sa).take r.length++xs.toList.drop (sa+r.length):=by
  rw [List.append_assoc,<- List.drop_drop,List.take_append_drop,List.take_append_drop]
 conv=>rhs; rw [e]
 exact List.Perm.append_right _ (List.Perm.append_left _ hp)
theorem lay_K (h:sa+r.length<=xs.size):(sa<=i->i < sa+r.length->∃ p,r[i - sa]? = some p/\K (lay xs sa r) i=ky p)/\((i < sa \/ sa+r.length<=i)->K (lay xs sa r) i=K xs i):=by
 have e:=lay_at h i
 refine ⟨fun h1 h2=>?_,fun h1=>?_⟩
 · rw [if_pos ⟨h1, h2⟩] at e
   refine ⟨r[i - sa],List.getElem?_eq_getElem (by lia),?_⟩
   unfold K
   rw [e,List.getElem?_eq_getElem (by lia)]
   rfl
 · rw [if_neg (by lia)] at e
   exact K_congr e
theorem seg_join (h1:Seg xs i j) (h2:Seg xs j k) (h:i < j->j < k->K xs (j - 1)<=K xs j):Seg xs i k:=by
 intro p q a b c
 by_cases hp:p < j
 · by_cases hq : q < j
   · exact h1 p q a b hq
   · exact Int.le_trans (h1 p (j - 1) a (by lia) (by lia)) (Int.le_trans (h (by lia) (by lia)) (h2 j q (Nat.le_refl _) (by lia) c))
 · exact h2 p q (by lia) b c
theorem seg_sd (h:Seg xs i j) (hj:j<=xs.size):Sd (xs.extract i j).toList:=by
 refine List.pairwise_iff_getElem.mpr fun p q h1 h2 hpq=>?_
 rw [Array.length_toList,Array.size_extract] at h1 h2
 have:=h (i+p) (i+q) (by simp_all) (by lia) (by lia)
 rw [K_eq (show i+p < xs.size by lia),K_eq (show i+q < xs.size by lia)] at this
 simpa [ky] using this
theorem xN (hj:j<=xs.size) (h:p∈(xs.extract i j).toList):∃ k,i<=k/\k < j/\K xs k=ky p/\p∈xs.toList:=by
 rw [jZ] at h
 obtain ⟨k,k1,k2,k3⟩:=jF h
 exact ⟨k,k1,by lia,(jX k3).2,List.mem_of_getElem? k3⟩
section
variable {a₀ : Array Keyed}
theorem wpS_set {x : σ} {Q:PUnit->σ->Prop} {st : σ} (h:Q ⟨⟩ x):wpS M A E s (set x:StateT σ Sem PUnit) Q st:=by
 unfold wpS; rw [StateT.run_set]; exact wpAny_pure ⟨rfl,h⟩
theorem pend_at {P:Array (Nat×Nat×Nat)} (h:P.toList=pre++u::v::post) c :
  P[pre.length]? = some u/\P[pre.length+1]? = some v/\((P.setIfInBounds pre.length c).eraseIdxIfInBounds (pre.length+1)).toList=pre++c::post:=by
 obtain ⟨l⟩:=P
 simp only at h
 subst h
 refine ⟨by simp,by simp,?_⟩
 simp [Array.eraseIdxIfInBounds,List.eraseIdx_append_of_length_le]
theorem wp_mergeAt {st:SortSt} (h0:IntKeys a₀) (hB:TB a₀ st)
  (hP:(pendingOf st).toList=pre++(sa,na,pw)::(sb,nb,pw2)::post) (hi:i=pre.length) (hsb:sb=sa+na) (hna:1<=na) (hnb:1<=nb) (hsz:sb+nb<=a₀.size)
  (s1:Seg (arrOf st) sa sb) (s2:Seg (arrOf st) sb (sb+nb))
  (h:∀ st',TB a₀ st'->(pendingOf st').toList=pre++(sa,na+nb,pw)::post->(∀ k,(k < sa \/ sb+nb<=k)->K (arrOf st') k=K (arrOf st) k)->Seg (arrOf st') sa (sb+nb)->Q true st') :
  wpS (model prog w) A E s (mergeAt' i) Q st:=by
 subst hi
 obtain ⟨e1,e2,e3⟩:=pend_at hP (sa,na+nb,pw)
 have hs:=hB.sz
 have hI:=fun p hp=>h0 p ((Array.perm_iff_toList_perm.mp hB.pm).mem_iff.mp hp)
 rw [mergeAt_is]
 refine wpS_bind (wpS_get ?_)
 rw [e1,e2]
 refine wpS_bind (wpS_set ?_)
 generalize hP':((pendingOf st).setIfInBounds pre.length (sa,na+nb,pw)).eraseIdxIfInBounds (pre.length+1)=P' at e3 ⊢
 have hB1:TB a₀ (setPending st P'):=⟨hB.pm,hB.kd,hB.nf⟩
 obtain ⟨p,p1,p2,p3⟩:=qV (a:=arrOf st) (x:=sb) (by lia)
 have pK:=(jX p2).2
 refine wpS_bind (qI p1 ?_)
 refine wpS_bind (yF hB.kd (hI p p3) hI (by lia) (by rw [<- hsb]; exact s1) (by lia) fun k k1 k2 k3=>?_)
 dsimp only
 by_cases hz:na - k=0
 · rw [if_pos (by simpa using hz)]
   refine wpS_pure (h _ hB1 e3 (fun _ _=>rfl) (seg_join s1 s2 fun _ _=>?_))
   rw [pK]
   exact k2 _ (by lia) (by lia)
 rw [if_neg (by simpa using hz)]
 have hlast:sa+k+(na - k) - 1=sb - 1:=by lia
 obtain ⟨q,q1,q2,q3⟩:=qV (a:=arrOf st) (x:=sb - 1) (by lia)
 have qK:=(jX q2).2
 rw [hlast]
 refine wpS_bind (qI q1 ?_)
 refine wpS_bind (yF hB.kd (hI q q3) hI (by simp_all) s2 (by lia) fun m m1 m2 m3=>?_)
 dsimp only
 by_cases hm:m=0
 · rw [if_pos (by simpa using hm)]
   refine wpS_pure (h _ hB1 e3 (fun _ _=>rfl) (seg_join s1 s2 fun _ _=>?_))
   rw [qK]
   exact m3 _ (by simp_all) (by omega)
 rw [if_neg (by simpa using hm)]
 have T:Two ((arrOf st).extract (sa+k) sb) ((arrOf st).extract sb (sb+m)):=by
  refine ⟨seg_sd (fun a b c d e=>s1 a b (by lia) d e) (by lia),seg_sd (fun a b c d e=>s2 a b (by omega) d (by lia)) (by lia),fun u hu=>?_,fun u hu=>?_,?_,?_,fun u hu v hv=>?_,fun u hu v hv=>?_⟩
  · obtain ⟨_,_,_,_,hh⟩:=xN (by lia) hu; exact hI u hh
  · obtain ⟨_,_,_,_,hh⟩:=xN (by lia) hu; exact hI u hh
  · rw [Array.size_extract]; lia
  · rw [Array.size_extract]; lia
  · obtain ⟨j, j1, j2, j3, _⟩ := xN (by lia) hu
    rw [Array.getElem?_toList,Array.getElem?_extract] at hv
    rw [if_pos (by simp_all),Nat.add_zero,p1] at hv
    cases hv
    rw [<- j3]
    exact Int.le_of_lt (k3 j j1 (by lia))
  · obtain ⟨j, j1, j2, j3, _⟩ := xN (by lia) hu
    rw [Array.getElem?_toList,Array.length_toList,Array.size_extract,Array.getElem?_extract] at hv
    rw [if_pos (by simp_all),show sa+k+(min sb (arrOf st).size - (sa+k) - 1)=sb - 1 by lia,q1] at hv
    cases hv
    rw [<- j3]
    exact Int.le_of_lt (m2 j j1 j2)
 have fin:∀ r g,Told ((arrOf st).extract (sa+k) sb) ((arrOf st).extract sb (sb+m)) r →
   wpS (model prog w) A E s (do
    modify fun z=>setArr z (r.toList.zipIdx.foldl (fun a (p,j)=>a.setIfInBounds (sa+k+j) p) (arrOf z))
    return (failedOf (<- get)).isNone) Q (gst (setPending st P') g):=by
  rintro r g ⟨r1,r2⟩
  have hlen:r.toList.length=sb+m - (sa+k):=by
   rw [r1.length_eq,List.length_append,Array.length_toList,Array.length_toList,Array.size_extract,Array.size_extract]; lia
  have hfit:sa+k+r.toList.length<=(arrOf st).size:=by lia
  have hpm:(lay (arrOf st) (sa+k) r.toList).Perm (arrOf st):=by
   refine lay_perm hfit (r1.trans (List.Perm.of_eq ?_))
   rw [jZ,jZ,hlen,show sb+m - (sa+k)=(sb - (sa+k))+m by lia,List.take_add,List.drop_drop,show sa+k+(sb - (sa+k))=sb by simp_all,show sb+m - sb=m by simp]
  have rmem:∀ u∈r.toList,K (arrOf st) sb<=ky u/\ky u<=K (arrOf st) (sb - 1):=fun u hu=>by
   rcases List.mem_append.mp (r1.mem_iff.mp hu) with hu | hu
   · obtain ⟨j, j1, j2, j3, _⟩ := xN (by lia) hu
     have a1:=k3 j j1 (by lia)
     have a2:=s1 j (sb - 1) (by lia) (by lia) (by lia)
     grind
   · obtain ⟨j, j1, j2, j3, _⟩ := xN (by lia) hu
     have a1:=m2 j j1 j2
     have a2:=s2 sb j (Nat.le_refl _) j1 (by lia)
     grind
  refine wpS_bind (wpS_modify (wpS_bind (wpS_get (wpS_pure ?_))))
  rw [hB.nf]
  have hin:∀ i,sa+k<=i->i < sb+m->∃ u,r.toList[i - (sa+k)]? = some u/\K (lay (arrOf st) (sa+k) r.toList) i=ky u:=fun i i1 i2=>(lay_K hfit).1 i1 (by grind)
  have hout:∀ i,(i < sa+k \/ sb+m<=i)->K (lay (arrOf st) (sa+k) r.toList) i=K (arrOf st) i:=fun i i1=>(lay_K hfit).2 (by lia)
  refine h _ ⟨hpm.trans hB.pm,hB.kd,hB.nf⟩ e3 (fun j hj=>hout j (by lia)) ?_
  intro x y x1 xy y1
  show K (lay (arrOf st) (sa+k) r.toList) x<=K (lay (arrOf st) (sa+k) r.toList) y
  by_cases hx1:x < sa+k
  · rw [hout x (.inl hx1)]
    by_cases hy1:y < sa+k
    · rw [hout y (.inl hy1)]; exact s1 x y x1 xy (by lia)
    · have hxk := k2 x x1 hx1
      by_cases hy2:y < sb+m
      · obtain ⟨u, u1, u2⟩ := hin y (by lia) hy2
        have:=(rmem u (List.mem_of_getElem? u1)).1
        lia
      · rw [hout y (.inr (by lia))]
        have:=s2 sb y (Nat.le_refl _) (by lia) y1
        lia
  · by_cases hx2 : x < sb + m
    · obtain ⟨u, u1, u2⟩ := hin x (by lia) hx2
      rw [u2]
      by_cases hy2:y < sb+m
      · obtain ⟨v, v1, v2⟩ := hin y (by lia) hy2
        rw [v2]
        by_cases hxy:x=y
        · subst hxy; rw [u1] at v1; cases v1; exact Int.le_refl _
        · obtain ⟨g1, g2⟩ := List.getElem?_eq_some_iff.mp u1
          obtain ⟨g3,g4⟩:=List.getElem?_eq_some_iff.mp v1
          have:=List.pairwise_iff_getElem.mp r2 _ _ g1 g3 (by grind)
          rwa [g2,g4] at this
      · rw [hout y (.inr (by lia))]
        have a1:=(rmem u (List.mem_of_getElem? u1)).2
        have a2:=m3 y (by lia) y1
        lia
    · rw [hout x (.inr (by lia)), hout y (.inr (by grind))]
      exact s2 x y (by lia) xy y1
 split
 · exact wpS_bind (wp_mergeLo hB.kd T fun r g hr=>fin r g hr)
 · exact wpS_bind (wp_mergeHi hB.kd T fun r g hr=>fin r g hr)
end
abbrev PQ:=Nat×Nat×Nat
noncomputable def Rn (xs:Array Keyed):List PQ->Nat->Nat->Prop
 | [],s,e=>s=e
 | (a,n,_)::r,s,e=>a=s/\1<=n/\Seg xs s (s+n)/\Rn xs r (s+n) e
theorem rn_app:∀ {l:List PQ} {s:Nat},Rn xs (l++r) s e↔∃ m,Rn xs l s m/\Rn xs r m e
 | [],s=>⟨fun h=>⟨s,rfl,h⟩,fun ⟨m,h1,h2⟩=>by cases h1; exact h2⟩
 | (a, n, p) :: l, s => by
   constructor
   · rintro ⟨h1, h2, h3, h4⟩
     obtain ⟨m,g1,g2⟩:=rn_app.mp h4
     exact ⟨m,⟨h1,h2,h3,g1⟩,g2⟩
   · rintro ⟨m, ⟨h1, h2, h3, g1⟩, g2⟩
     exact ⟨h1,h2,h3,rn_app.mpr ⟨m,g1,g2⟩⟩
theorem rn_le:∀ {l:List PQ} {s:Nat},Rn xs l s e->s+l.length<=e
 | [],s,h=>by cases h; simp
 | (a,n,p)::l,s,⟨h1,h2,h3,h4⟩=>by have:=rn_le h4; simp only [List.length_cons]; omega
theorem wC:∀ {l:List PQ} {s:Nat},Rn xs l s e->(∀ k,s<=k->k < e->K ys k=K xs k)->Rn ys l s e
 | [],s,h,_=>h
 | (a, n, p) :: l, s, ⟨h1, h2, h3, h4⟩, h => by
   have hle:=rn_le h4
   exact ⟨h1,h2,fun i j a b c=>by rw [h i a (by omega),h j (by omega) (by omega)]; exact h3 i j a b c,wC h4 fun k k1 k2=>h k (by omega) k2⟩
noncomputable def rsOld (pw:Nat) (_:Option Unit×Unit):StateT SortSt Sem (ForInStep (Option Unit×Unit)):=do
 let z <- get
 match if (pendingOf z).size > 1 then (pendingOf z)[(pendingOf z).size - 2]? else none with
  | some (_, _, older) =>
    if older<=pw then pure (ForInStep.done (none,()))
    else do
     let b <- mergeAt' ((pendingOf z).size - 2)
     if (!b)=true then pure (ForInStep.done (some (),())) else pure (ForInStep.yield (none,()))
  | _=>pure (ForInStep.done (none,()))
noncomputable def rsPush (size lo n:Nat):StateT SortSt Sem (ForInStep (Option Unit×Nat)):=do
 let z <- get
 match (pendingOf z).back? with
  | some (s1, n1, _) => do
    let c <- forIn [0:size] (none,()) fun _ c=>rsOld (power' size (2 * s1+n1) (2 * s1+n1+n1+n) size) c
    match c.1 with
     | some r=>pure (ForInStep.done (some r,lo))
     | none => do
       modify fun z=>setPending z ((pendingOf z).modify ((pendingOf z).size - 1) fun x=>match x with | (a,l,_)=>(a,l,power' size (2 * s1+n1) (2 * s1+n1+n1+n) size))
       modify fun z=>setPending z ((pendingOf z).push (lo,n,0))
       pure (ForInStep.yield (none,lo+n))
  | _ => do
    modify fun z=>setPending z ((pendingOf z).push (lo,n,0))
    pure (ForInStep.yield (none,lo+n))
noncomputable def rsTurn (size mr:Nat) (c:Option Unit×Nat):StateT SortSt Sem (ForInStep (Option Unit×Nat)) :=
 if c.2 ≥ size then pure (ForInStep.done (none,c.2))
 else do
  let x <- countRun' c.2 (size - c.2)
  match x with
   | some n =>
     if n < mr then do
      liftM (rule "list.sort.binary-insertion")
      let b <- binarySort' c.2 (min (size - c.2) mr) n
      if (!b)=true then pure (ForInStep.done (some (),c.2)) else rsPush size c.2 (min (size - c.2) mr)
     else rsPush size c.2 n
   | _=>pure (ForInStep.done (some (),c.2))
noncomputable def pick (p:Array PQ):Nat :=
 if Option.any (fun x=>decide (x < p[p.size - 2+1]?.elim 0 fun x=>x.2.1)) (if p.size - 2 > 0 then Option.map (fun x=>x.2.1) p[p.size - 2 - 1]? else none)=true then p.size - 2 - 1 else p.size - 2
noncomputable def rsEnd (_:Option Unit×Unit):StateT SortSt Sem (ForInStep (Option Unit×Unit)):=do
 let z <- get
 if (pendingOf z).size<=1 then pure (ForInStep.done (none,()))
 else do
  let b <- mergeAt' (pick (pendingOf z))
  if (!b)=true then pure (ForInStep.done (some (),())) else pure (ForInStep.yield (none,()))
noncomputable def sR:StateT SortSt Sem Unit:=do
 let z <- get
 let c <- forIn [0:(arrOf z).size] (none,0) fun _ c=>rsTurn (arrOf z).size (minRun' (arrOf z).size (arrOf z).size 0) c
 match c.1 with
  | some r=>pure r
  | none => do
    let d <- forIn [0:(arrOf z).size] (none,()) fun _ d=>rsEnd d
    match d.1 with
     | some r=>pure r
     | none=>pure ()
theorem sortRuns_is:sortRuns'=sR:=by kernel_rfl
section
variable {a₀ : Array Keyed}
structure RS (a₀ : Array Keyed) (st:SortSt) (lo:Nat):Prop where
 tb:TB a₀ st
 rn:Rn (arrOf st) (pendingOf st).toList 0 lo
 le:lo<=a₀.size
theorem wp_mergeRn {lo:Nat} {st:SortSt} (h0:IntKeys a₀) (R:RS a₀ st lo) (hi:i+1 < (pendingOf st).size)
  (h:∀ st',RS a₀ st' lo->(pendingOf st').size+1=(pendingOf st).size->(∀ k,lo<=k->K (arrOf st') k=K (arrOf st) k)->Q true st'):wpS (model prog w) A E s (mergeAt' i) Q st:=by
 have hlen:(pendingOf st).toList.length=(pendingOf st).size:=Array.length_toList
 obtain ⟨pre,u,v,post,e,hpl⟩:∃ pre u v post,(pendingOf st).toList=pre++u::v::post/\pre.length=i:=by
  refine ⟨(pendingOf st).toList.take i,(pendingOf st).toList[i]'(by lia),(pendingOf st).toList[i+1]'(by lia),(pendingOf st).toList.drop (i+2),?_,by rw [List.length_take]; lia⟩
  conv=>lhs; rw [<- List.take_append_drop i (pendingOf st).toList]
  rw [List.drop_eq_getElem_cons (by lia),List.drop_eq_getElem_cons (by lia)]
 have hr:=R.rn
 obtain ⟨sa,na,pw⟩:=u
 obtain ⟨sb,nb,pw2⟩:=v
 rw [e] at hr
 obtain ⟨m,g1,g2,g3,g4,g5,g6,g7,g8⟩:=rn_app.mp hr
 subst g2
 have hle:=rn_le g8
 have hlo:=R.le
 refine wp_mergeAt h0 R.tb e hpl.symm g5 g3 g6 (by lia) (by rw [g5]; exact g4) (by rw [g5]; exact g7) fun st' b1 b2 b3 b4=>h st' ⟨b1,?_,hlo⟩ ?_ fun k hk=>b3 k (.inr (by lia))
 · rw [b2]
   refine rn_app.mpr ⟨sa,wC g1 fun k _ k2=>b3 k (.inl k2),rfl,by lia,by rw [<- Nat.add_assoc,<- g5]; exact b4,?_⟩
   rw [<- Nat.add_assoc]
   exact wC g8 fun k k1 _=>b3 k (.inr (by simp_all))
 · have l1 : (pendingOf st').toList.length = (pendingOf st').size := Array.length_toList
   rw [b2] at l1
   rw [e] at hlen
   simp [List.length_append,List.length_cons] at l1 hlen
   grind
theorem pick_lt (h:2<=p.size):pick p+1 < p.size:=by
 have:∀ c:Bool,(if c=true then p.size - 2 - 1 else p.size - 2)+1 < p.size:=fun c=>by cases c <;> simp <;> omega
 exact this _
theorem mod_last f:∀ l (u:PQ),(l++[u]).modify l.length f=l++[f u]
 | [],u=>rfl
 | a :: l, u => by
   rw [List.cons_append,List.length_cons,List.modify_succ_cons,mod_last f l u]; rfl
theorem wp_push {lo:Nat} {st:SortSt} (h0:IntKeys a₀) (R:RS a₀ st lo) (hn:1<=n) (hle:lo+n<=a₀.size) (hs:Seg (arrOf st) lo (lo+n))
  (h:∀ st',RS a₀ st' (lo+n)->Q (.yield (none,lo+n)) st'):wpS (model prog w) A E s (rsPush a₀.size lo n) Q st:=by
 have fin:∀ st':SortSt,TB a₀ st'->Rn (arrOf st') (pendingOf st').toList 0 lo->(∀ k,lo<=k->K (arrOf st') k=K (arrOf st) k) →
   wpS (model prog w) A E s (do
    modify fun z=>setPending z ((pendingOf z).push (lo,n,0))
    pure (ForInStep.yield ((none,lo+n):Option Unit×Nat))) Q st':=fun st' tb rn kk=>by
  refine wpS_bind (wpS_modify (wpS_pure (h _ ⟨⟨tb.pm,tb.kd,tb.nf⟩,?_,hle⟩)))
  rw [Array.toList_push]
  exact rn_app.mpr ⟨lo,rn,rfl,hn,fun i j a b c=>by rw [kk i a,kk j (by lia)]; exact hs i j a b c,rfl⟩
 refine wpS_bind (wpS_get ?_)
 cases hb:(pendingOf st).back? with
 | none=>exact fin st R.tb R.rn fun _ _=>rfl
 | some u =>
   obtain ⟨s1,n1,u3⟩:=u
   refine wpS_bind (wpS_mono (wpS_forRange (I:=fun _ c z=>c=(none,())/\RS a₀ z lo/\(∀ k,lo<=k->K (arrOf z) k=K (arrOf st) k))
    ?s1 (fun _ _ hh=>hh) ⟨rfl,R,fun _ _=>rfl⟩) ?s3)
   case s1 =>
    rintro i c z _ _ ⟨rfl,Rz,kz⟩
    refine wpS_bind (wpS_get ?_)
    by_cases hsz:(pendingOf z).size > 1
    · rw [if_pos hsz, getElem?_pos (pendingOf z) ((pendingOf z).size - 2) (by lia)]
      dsimp only
      split
      · exact wpS_pure ⟨rfl,Rz,kz⟩
      · refine wpS_bind (wp_mergeRn h0 Rz (by lia) fun st' R' _ k' => ?_)
        exact wpS_pure ⟨rfl,R',fun k hk=>(k' k hk).trans (kz k hk)⟩
    · rw [if_neg hsz]
      exact wpS_pure ⟨rfl,Rz,kz⟩
   case s3 =>
    rintro c z ⟨rfl,Rz,kz⟩
    refine fin _ ⟨Rz.tb.pm,Rz.tb.kd,Rz.tb.nf⟩ ?_ kz
    have hr:=Rz.rn
    have e:∀ (P:Array PQ) (pw:Nat),Rn (arrOf z) P.toList 0 lo->Rn (arrOf z) (P.modify (P.size - 1) fun x=>match x with | (a,l,_)=>(a,l,pw)).toList 0 lo:=by
     rintro ⟨l⟩ pw hl
     simp only [List.size_toArray] at hl ⊢
     rcases List.eq_nil_or_concat l with rfl | ⟨l',u,rfl⟩
     · simpa using hl
     · obtain ⟨u1, u2, u3⟩ := u
       rw [List.concat_eq_append] at hl ⊢
       obtain ⟨m,m1,m2,m3,m4,m5⟩:=rn_app.mp hl
       have e2:(Array.modify (l'++[(u1,u2,u3)]).toArray ((l'++[(u1,u2,u3)]).length - 1) fun x=>match x with | (a,l,_)=>(a,l,pw)).toList=l'++[(u1,u2,pw)]:=by
        simp [mod_last]
       rw [e2]
       exact rn_app.mpr ⟨m,m1,m2,m3,m4,m5⟩
    exact e _ _ hr
theorem wp_turn {lo:Nat} {st:SortSt} (h0:IntKeys a₀) (R:RS a₀ st lo) (hd:lo=a₀.size->Q (.done (none,lo)) st)
  (h:∀ st' lo',lo+1<=lo'->RS a₀ st' lo'->Q (.yield (none,lo')) st'):wpS (model prog w) A E s (rsTurn a₀.size mr (none,lo)) Q st:=by
 unfold rsTurn
 have hlo:=R.le
 by_cases hge:lo ≥ a₀.size
 · rw [if_pos hge]
   exact wpS_pure (hd (by lia))
 rw [if_neg hge]
 refine wpS_bind (wp_run h0 (by simp_all) (by lia) R.tb fun n xs c n1 n2 sg=>?_)
 have R':RS a₀ (setArr st xs) lo:=⟨R.tb.arr c.1,wC R.rn fun k _ k2=>c.2 k (.inl k2),hlo⟩
 dsimp only
 split
 · refine wpS_bind (wpS_lift (wpAny_rule ⟨rfl, ?_⟩))
   refine wpS_bind (wp_ins h0 (by lia) (by grind) R'.tb sg fun ys c2 sg2=>?_)
   refine wp_push h0 (⟨R'.tb.arr c2.1,wC R'.rn fun k _ k2=>c2.2 k (.inl k2),hlo⟩:RS a₀ (setArr (setArr st xs) ys) lo) (by grind) (by lia) sg2 fun st' r'=>h st' _ (by lia) r'
 · exact wp_push h0 R' n1 (by lia) sg fun st' r'=>h st' _ (by simp_all) r'
theorem wp_sortRuns {st:SortSt} (h0:IntKeys a₀) (hB:TB a₀ st) (hp:pendingOf st = #[])
  (h:∀ st',(arrOf st').Perm a₀->failedOf st'=none->Seg (arrOf st') 0 a₀.size->Q () st'):wpS (model prog w) A E s sortRuns' Q st:=by
 rw [sortRuns_is]
 refine wpS_bind (wpS_get ?_)
 rw [hB.sz]
 have R0:RS a₀ st 0:=⟨hB,by rw [hp]; rfl,Nat.zero_le _⟩
 refine wpS_bind (wpS_mono (wpS_forRange (I:=fun i c z=>∃ lo,c=(none,lo)/\i<=lo/\RS a₀ z lo) (Q:=fun c z=>c=(none,a₀.size)/\RS a₀ z a₀.size) ?s1 ?s2 ⟨0,rfl,Nat.le_refl _,R0⟩) ?s3)
 case s2 =>
  rintro c z ⟨lo,rfl,h1,R⟩
  have:=R.le
  have e:lo=a₀.size:=by lia
  subst e
  exact ⟨rfl,R⟩
 case s1 =>
  rintro i c z _ hi ⟨lo,rfl,h1,R⟩
  refine wp_turn h0 R (fun e=>?_) fun st' lo' h2 R'=>⟨lo',rfl,by lia,R'⟩
  subst e
  exact ⟨rfl,R⟩
 case s3 =>
  rintro c z ⟨rfl,R⟩
  have hfirst:=rn_le R.rn
  rw [Array.length_toList] at hfirst
  refine wpS_bind (wpS_mono (wpS_forRange (I:=fun i c z=>c=(none,())/\RS a₀ z a₀.size/\(pendingOf z).size+i<=a₀.size+1/\(pendingOf z).size+i<=max a₀.size (1+i))
   (Q:=fun c z=>c=(none,())/\RS a₀ z a₀.size/\(pendingOf z).size<=1) ?s4 ?s5 ⟨rfl,R,by lia,by lia⟩) ?s6)
  case s5 =>
   rintro c z ⟨rfl,R,h1,h2⟩
   exact ⟨rfl,R,by simp_all⟩
  case s4 =>
   rintro i c z _ hi ⟨rfl,R,h1,h2⟩
   refine wpS_bind (wpS_get ?_)
   by_cases hsz:(pendingOf z).size<=1
   · rw [if_pos hsz]
     exact wpS_pure ⟨rfl,R,hsz⟩
   · rw [if_neg hsz]
     refine wpS_bind (wp_mergeRn h0 R (pick_lt (by lia)) fun st' R' e' _=>?_)
     exact wpS_pure ⟨rfl,R',by lia,by lia⟩
  case s6 =>
   rintro c z ⟨rfl,R,h1⟩
   refine wpS_pure (h z R.tb.pm R.tb.nf ?_)
   have hr:=R.rn
   rw [<- Array.length_toList] at h1
   match hl:(pendingOf z).toList,h1 with
   | [], _ =>
     rw [hl] at hr
     have e:0=a₀.size:=hr
     intro i j _ _ hj
     lia
   | [(u, n, v)], _ =>
     rw [hl] at hr
     obtain ⟨g1,g2,g3,g4⟩:=hr
     have e:=g4
     rw [e] at g3
     exact g3
end
section
theorem sort_any (ho:s.heap.get? a=some (seqObj "list" vs.toArray n))
  (hI:IntsAre vs ns) (hsl:vs.length<=sizeLine)
  (h:∀ us ms,IntsAre us.toList ms->ms.Perm ns->ms.Pairwise (·<=·)->R (.done (.ret .none)) { s with heap:=sortedHeap s.heap a vs us }) :
  wpAny (model prog w) A (Builtin.«list.sort» ⟨[.ref a],[]⟩) R E s:=by
 rw [list_sort_plain]
 have hsz:vs.toArray.size=vs.length:=by simp
 refine wpAny_bind (listItems_at ho rfl ?_)
 refine wpAny_bind (listUpdate_at ho rfl ?_ (by rw [hsz]; exact hsl) (Nat.zero_le _))
 obtain ⟨ep,ho1⟩:∃ ep,(s.heap.update a (Obj.mapSeq fun _=>#[])).get? a=some (seqObj "list" #[] ep):=⟨_,get?_update_seq ho (fun _=>#[])⟩
 refine wpAny_bind (seqEpoch_at ho1 rfl (wpAny_bind (wpAny_newTuple (wpAny_bind (wpAny_newList (wpAny_holding ?_))))))
 have ho6:(((s.heap.update a (Obj.mapSeq fun _=>#[])).push (seqObj "tuple" vs.toArray 0)).push (seqObj "list" #[] 0)).get? a=some (seqObj "list" #[] ep):=by
  have h1:=Heap.get?_push_of_some (seqObj "tuple" vs.toArray 0) ho1
  exact Heap.get?_push_of_some (seqObj "list" #[] 0) h1
 dsimp only
 have last:∀ z:SortSt,(arrOf z).Perm (pairsOf vs)->Seg (arrOf z) 0 (pairsOf vs).size->R (.done (.ret .none)) { s with heap:=sortedHeap s.heap a vs ((arrOf z).map (·.2)) }:=fun z g1 g2=>by
  obtain ⟨ns',u1,u2,u3⟩:=sorted_out hI g1 fun i j hij hj=>g2 i j (Nat.zero_le _) hij hj
  exact h _ ns' u1 u2 u3
 by_cases hlt:vs.toArray.size < 2
 · rw [if_pos hlt, if_pos hlt]
   refine wpAny_bind (wpAny_pure ?_)
   refine wpAny_bind (wpAny_pure ?_)
   refine wpAny_bind (seqEpoch_at ho6 rfl (wpAny_bind (listUpdate_at ho6 rfl ?_ (Nat.zero_le _) ?_)))
   · simp only [bne_self_eq_false, Bool.false_eq_true, if_false]
     refine wpAny_pure (last (SortSt.mk' general' (vs.toArray.zip vs.toArray) #[] 7 none) (Array.Perm.refl _) ?_)
     intro i j _ hij hj
     rw [pairsOf_size] at hj
     have e:i=j:=by lia
     rw [e]; exact Int.le_refl _
   · rw [Array.size_map]; show (pairsOf vs).size<=_; rw [pairsOf_size]; grind
 · rw [if_neg hlt, if_neg hlt]
   obtain ⟨x,y,r,rfl⟩:∃ x y r,vs=x::y::r:=by
    match vs,hsz,hlt with
    | [],_,h2=>simp at h2
    | [_],_,h2=>simp at h2
    | x::y::r,_,_=>exact ⟨x,y,r,rfl⟩
   rw [keyKind_ints hI]
   refine wpAny_bind (wpAny_pure ?_)
   refine wpAny_bind (wpAny_mono (wp_sortRuns
    (Q:=fun _ z=>(arrOf z).Perm (pairsOf (x::y::r))/\failedOf z=none/\Seg (arrOf z) 0 (pairsOf (x::y::r)).size)
    hI.intKeys ⟨Array.Perm.refl _,rfl,rfl⟩ rfl fun z g1 g2 g3=>⟨g1,g2,g3⟩) ?_ fun _ _ e=>e)
   rintro ⟨⟨⟩,z⟩ s' ⟨rfl,hp,hf,hs⟩
   refine wpAny_bind (seqEpoch_at ho6 rfl (wpAny_bind (listUpdate_at ho6 rfl ?_ (Nat.zero_le _) ?_)))
   · rw [hf]
     simp [bne_self_eq_false,Bool.false_eq_true,if_false]
     exact wpAny_pure (last z hp hs)
   · refine Nat.le_trans (Nat.le_of_eq ((Array.size_map ..).trans (hp.size_eq.trans (pairsOf_size _)))) (by lia)
end
section
variable {A:Around}
theorem sorted_end {Q:Value->Shared->Prop} (hI:IntsAre vs ns) (hsl:vs.length<=sizeLine)
  (h:∀ h2 vs' ns' e,(∀ b o,s.heap.get? b=some o->h2.get? b=some o)->h2.get? s.heap.objs.size=some (seqObj "list" vs'.toArray e)->IntsAre vs' ns'->ns'.Perm ns->ns'.Pairwise (·<=·) →
    Q (.ref s.heap.objs.size) { s with heap:=h2 }) :
  wpAny (model prog w) A.in1 (do
   let l <- newList vs
   let _ <- holding [l] (call (.builtin "list.sort") [l] [])
   ret l) (fun r z=>∃ v,r = .done (.ret v)/\Q v z) E s:=by
 refine wpAny_bind (wpAny_newList ?_)
 have hoL:(s.heap.push (seqObj "list" vs.toArray 0)).get? s.heap.objs.size=some (seqObj "list" vs.toArray 0):=Heap.get?_push_size _ rfl
 refine wpAny_bind (wpAny_holding (wpAny_call_entry slot_list_sort ⟨_,hoL,rfl⟩ entry_list_sort (sort_any hoL hI hsl fun out ns' a1 a2 a3=>⟨_,rfl,?_⟩) (args_list_sort _)))
 obtain ⟨e,he⟩:=sortedHeap_at hoL
 refine wpAny_pure ⟨_,rfl,h _ out.toList ns' e (fun b o q=>?_) (by simpa using he) a1 a2 a3⟩
 have hb:=Heap.lt_size q
 have q1:=Heap.get?_push_of_some (seqObj "list" vs.toArray 0) q
 rw [sortedHeap_old (Nat.ne_of_lt hb) (by rw [size_push']; exact Nat.lt_succ_of_lt hb)]
 exact q1
end
end TS
namespace FL
open PySem PySem.Spec PyProof.Rows L2
abbrev Frag:=PySem.W.Frag
def KLst (K:Frag) (a:Addr) (xs:List V):Prop:=∃ (o:Obj) (its:Array Value) (n:Nat),K.lookup a=some o/\o.cls = .type "list"/\o.dict=none/\o.data = .seq its n/\its.size<=sizeLine/\Vals xs its.toList
def KTup (K:Frag) (a:Addr) (xs:List V):Prop:=∃ (o:Obj) (its:Array Value) (n:Nat),K.lookup a=some o/\o.cls = .type "tuple"/\o.data = .seq its n/\its.size<=sizeLine/\Vals xs its.toList
structure LamT where
 qual:Str
 params:Arguments
 body:FuncBody
 scope:Scope
noncomputable def lamsE (q:Str):Nat->Expr->List LamT
 | 0,_=>[]
 | n + 1, e => match e with
   | .Lambda a b sc _=>[⟨q++"<lambda>",a,.expr b,sc⟩]
   | .Call _ as _ _=>as.flatMap (lamsE q n)
   | .Compare l _ cs _=>lamsE q n l++cs.flatMap (lamsE q n)
   | .BoolOp _ vs _=>vs.flatMap (lamsE q n)
   | .UnaryOp _ o _=>lamsE q n o
   | .BinOp l _ r _=>lamsE q n l++lamsE q n r
   | .IfExp t b o _=>lamsE q n t++(lamsE q n b++lamsE q n o)
   | .List es _=>es.flatMap (lamsE q n)
   | .Tuple es _ _=>es.flatMap (lamsE q n)
   | .Subscript v i _=>lamsE q n v++lamsE q n i
   | _=>[]
noncomputable def lamsS (q:Str):Nat->Stmt->List LamT
 | 0,_=>[]
 | n + 1, s => match s with
   | .FunctionDef x a b _ _ _ sc _ _ _=>[⟨q++x,a,.stmts b,sc⟩]
   | .Assign _ e _=>lamsE q 12 e
   | .Return (some e) _=>lamsE q 12 e
   | .Expr e _=>lamsE q 12 e
   | .If t a b _=>lamsE q 12 t++(a.flatMap (lamsS q n)++b.flatMap (lamsS q n))
   | .For _ _ a _ _=>a.flatMap (lamsS q n)
   | .While _ a _ _=>a.flatMap (lamsS q n)
   | _=>[]
noncomputable def lamsOf (x:Str) (b:List Stmt):List LamT:=b.flatMap (lamsS (x++".<locals>.") 8)
noncomputable def textIn (K:PySem.W.Frag) (m n:Nat):Option LamT:=(makers[m]?).bind fun x=>match fnAt K x with
 | some (some (.ref f)) => (match K.lookup f with
   | some ⟨_, _, .func fd, _⟩ => (match fd.body with
     | .stmts b=>(lamsOf x b)[n]?
     | _=>none)
   | _=>none)
 | _=>none
noncomputable def freeR (l:List (Str×NameKind)):List Str:=((l.filter fun y=>y.2 == NameKind.free).map (·.1)).reverse
inductive ClosOk (H:Hp) (O:Addr->Prop):List (Str×Addr)->List V->Prop
 | nil:ClosOk H O [] []
 | cons {n:Str} {c:Addr} {o:Obj} {u:HO} {w:Value} {x:V} {cl:List (Str×Addr)} {xs:List V} (no : ¬ O c) (h:H c=some (.frz o u)) (d:o.data = .cell (some w)) (r:RelV x w) (t:ClosOk H O cl xs):ClosOk H O ((n,c)::cl) (x::xs)
def LamAt (H:Hp) (O:Addr->Prop) (f:Addr) (t:LamT) (cl:List (Str×Addr)):Prop:=¬ O f/\∃ (o oc:Obj) (u uc:HO) (fd:FuncData) (c:Addr) (vs:Array Value) (tq:Tok),
 H f=some (.frz o u)/\o.cls = .type "function"/\o.data = .func fd/\fd.qualname=t.qual/\fd.params=t.params/\fd.body=t.body/\fd.scope=t.scope/\fd.globals=mainGlobals/\fd.closure=cl/\fd.defaults = .none/\fd.kwdefaults = .none/\fd.code = .ref c/\fd.builtins=builtinsNs ∧
 ¬ O c/\H c=some (.frz oc uc)/\oc.data = .fields vs/\vs[1]? = some (.str t.qual tq)
mutual
inductive Rep (K:Frag) (H:Hp) (O:Addr->Prop):V->D->Prop
 | non:Rep K H O .non .non
 | bl (b:Bool):Rep K H O (.bl b) (.bl b)
 | int (i:Int):Rep K H O (.int i) (.int i)
 | str (x:Str):Rep K H O (.str x) (.str x)
 | tup {a:Addr} {xs:List V} {ds:List D} (n : ¬ O a) (h:Rd H a (.tup xs)) (r:Reps K H O xs ds):Rep K H O (.ref a) (.tup ds)
 | tupK {a:Addr} {xs:List V} {ds:List D} (h:KTup K a xs) (r:Reps K H O xs ds):Rep K H O (.ref a) (.tup ds)
 | lst {a:Addr} {xs:List V} {ds:List D} (n : ¬ O a) (h:Rd H a (.lst xs)) (r:Reps K H O xs ds):Rep K H O (.ref a) (.lst ds)
 | lstK {a:Addr} {xs:List V} {ds:List D} (h:KLst K a xs) (r:Reps K H O xs ds):Rep K H O (.ref a) (.lst ds)
 | dct {a:Addr} {kvs:List (Key×V)} {ks:List Key} {ds:List D} (n : ¬ O a) (h:H a=some (.dK kvs)) (e:kvs.map (·.1)=ks) (r:Reps K H O (kvs.map (·.2)) ds):Rep K H O (.ref a) (.dct ks ds)
 | dcf {a:Addr} {o:Obj} {kvs:List (Key×V)} {ks:List Key} {ds:List D} (n : ¬ O a) (h:H a=some (.frz o (.dK kvs))) (e:kvs.map (·.1)=ks) (r:Reps K H O (kvs.map (·.2)) ds):Rep K H O (.ref a) (.dcf ks ds)
 | ins {a C dx:Addr} {t:Nat} {kvs:List (Str×V)} {ds:List D} (c:PySem.W.nsIn K mainGlobals (clsName t)=some (some (.ref C))) (n : ¬ O a) (h:H a=some (.ins C dx kvs)) (e:kvs.map (·.1)=clsFlds t) (r:Reps K H O (kvs.map (·.2)) ds):Rep K H O (.ref a) (.ins t ds)
 | clo {f:Addr} {m n:Nat} {t:LamT} {cl:List (Str×Addr)} {xs:List V} {ds:List D} (tx:textIn K m n=some t) (h:LamAt H O f t cl) (e:cl.map (·.1)=freeR t.scope.names) (nd:(cl.map (·.2)).Nodup) (c:ClosOk H O cl xs) (r:Reps K H O xs ds):Rep K H O (.ref f) (.clo m n ds)
 | fnK {f:Addr} {k:Nat} (h:PySem.W.nsIn K mainGlobals (fnName k)=some (some (.ref f))):Rep K H O (.ref f) (.clo 1000 k [])
 | dtt {a:Addr} {kvs:List (List Key×V)} {ks:List (List Key)} {ds:List D} (n : ¬ O a) (h:H a=some (.dT kvs)) (e:kvs.map (·.1)=ks) (r:Reps K H O (kvs.map (·.2)) ds):Rep K H O (.ref a) (.dtt ks ds)
inductive Reps (K:Frag) (H:Hp) (O:Addr->Prop):List V->List D->Prop
 | nil:Reps K H O [] []
 | cons {x:V} {d:D} {xs:List V} {ds:List D} (h:Rep K H O x d) (t:Reps K H O xs ds):Reps K H O (x::xs) (d::ds)
end
section
variable {K:Frag} {H H':Hp} {O O':Addr->Prop}
def Keep (O:Addr->Prop) (H H':Hp):Prop:=∀ b o,¬ O b->H b=some o->H' b=some o
theorem Keep.of_same (h:Same H H'):Keep O H H':=fun b o _ e=>h b o e
theorem Keep.rd (k:Keep O H H') (n : ¬ O a) (h:Rd H a u):Rd H' a u:=by
 rcases h with h | ⟨o,h⟩
 · exact .inl (k _ _ n h)
 · exact .inr ⟨o,k _ _ n h⟩
def Kp (O O':Addr->Prop) (H H':Hp):Prop:=∀ b o,¬ O b->H b=some o->¬ O' b/\H' b=some o
theorem Kp.rd (k:Kp O O' H H') (n : ¬ O a) (h:Rd H a u) : ¬ O' a/\Rd H' a u:=by
 rcases h with h | ⟨o,h⟩
 · exact ⟨(k _ _ n h).1,.inl (k _ _ n h).2⟩
 · exact ⟨(k _ _ n h).1,.inr ⟨o,(k _ _ n h).2⟩⟩
theorem ClosOk.gen (k:Kp O O' H H') (h:ClosOk H O cl xs):ClosOk H' O' cl xs:=by
 induction h with
 | nil=>exact .nil
 | cons no h d r _ ih=>exact .cons (k _ _ no h).1 (k _ _ no h).2 d r ih
theorem LamAt.gen (k:Kp O O' H H') (h:LamAt H O f t cl):LamAt H' O' f t cl:=by
 obtain ⟨n,o,oc,u,uc,fd,c,vs,tq,h1,h2,h3,h4,h5,h6,h7,h8,h9,h10,h11,h12,h13,h14,h15,h16,h17⟩:=h
 exact ⟨(k _ _ n h1).1,o,oc,u,uc,fd,c,vs,tq,(k _ _ n h1).2,h2,h3,h4,h5,h6,h7,h8,h9,h10,h11,h12,h13,(k _ _ h14 h15).1,(k _ _ h14 h15).2,h16,h17⟩
theorem Kp.of (k:Keep O H H'):Kp O O H H':=fun b o n e=>⟨n,k b o n e⟩
theorem Kp.less (k:∀ a,O' a->O a):Kp O O' H H:=fun b o n e=>⟨fun z=>n (k _ z),e⟩
theorem ClosOk.keep (k:Keep O H H') (h:ClosOk H O cl xs):ClosOk H' O cl xs:=h.gen (.of k)
theorem LamAt.keep (k:Keep O H H') (h:LamAt H O f t cl):LamAt H' O f t cl:=h.gen (.of k)
theorem ClosOk.of (k:∀ a o u,H a=some (.frz o u)->¬ O' a) {cl:List (Str×Addr)} {xs:List V} (h:ClosOk H O cl xs):ClosOk H O' cl xs:=h.rec .nil fun _ h d r _=>.cons (k _ _ _ h) h d r
theorem LamAt.of (k:∀ a o u,H a=some (.frz o u)->¬ O' a) (h:LamAt H O f t cl):LamAt H O' f t cl:=by
 obtain ⟨n,o,oc,u,uc,fd,c,vs,tq,h1,h2,h3,h4,h5,h6,h7,h8,h9,h10,h11,h12,h13,h14,h15,h16,h17⟩:=h
 exact ⟨k _ _ _ h1,o,oc,u,uc,fd,c,vs,tq,h1,h2,h3,h4,h5,h6,h7,h8,h9,h10,h11,h12,h13,k _ _ _ h15,h15,h16,h17⟩
def ins1 (p:Addr) (O:Addr->Prop):Addr->Prop:=fun b=>b=p \/ O b
theorem Kp.ins {p:Addr} (hp:H p=none):Kp O (ins1 p O) H H:=fun b o n e=>⟨fun z=>z.elim (fun q=>by rw [q,hp] at e; cases e) n,e⟩
theorem Reps.ind {m:List V->List D->Prop} (h0:m [] []) (h1:∀ {x d xs ds},Rep K H O x d->m xs ds->m (x::xs) (d::ds)) (h:Reps K H O xs ds):m xs ds :=
 Reps.rec (motive_1:=fun _ _ _=>True) (motive_2:=fun v d _=>m v d) ⟨⟩ (fun _=>⟨⟩) (fun _=>⟨⟩) (fun _=>⟨⟩) (fun _ _ _ _=>⟨⟩) (fun _ _ _=>⟨⟩) (fun _ _ _ _=>⟨⟩) (fun _ _ _=>⟨⟩) (fun _ _ _ _ _=>⟨⟩) (fun _ _ _ _ _=>⟨⟩) (fun _ _ _ _ _ _=>⟨⟩) (fun _ _ _ _ _ _ _=>⟨⟩) (fun _=>⟨⟩) (fun _ _ _ _ _=>⟨⟩) h0 (fun h _ _=>h1 h) h
theorem Rep.gen (k:Kp O O' H H') {v:V} {d:D} (h:Rep K H O v d):Rep K H' O' v d :=
 h.rec (motive_1:=fun v d _=>Rep K H' O' v d) (motive_2:=fun v d _=>Reps K H' O' v d) .non .bl .int .str (fun n h _=>.tup (k.rd n h).1 (k.rd n h).2) (fun h _=>.tupK h) (fun n h _=>.lst (k.rd n h).1 (k.rd n h).2) (fun h _=>.lstK h) (fun n h e _=>.dct (k _ _ n h).1 (k _ _ n h).2 e) (fun n h e _=>.dcf (k _ _ n h).1 (k _ _ n h).2 e) (fun c n h e _=>.ins c (k _ _ n h).1 (k _ _ n h).2 e) (fun tx h e nd c _=>.clo tx (h.gen k) e nd (c.gen k)) .fnK (fun n h e _=>.dtt (k _ _ n h).1 (k _ _ n h).2 e) .nil (fun _ _=>.cons)
theorem Reps.gen (k:Kp O O' H H') {vs:List V} {ds:List D} (h:Reps K H O vs ds):Reps K H' O' vs ds:=h.ind .nil fun h=>.cons (h.gen k)
theorem Rep.keep (k:Keep O H H') (h:Rep K H O v d):Rep K H' O v d:=h.gen (.of k)
theorem Reps.keep (k:Keep O H H') (h:Reps K H O v d):Reps K H' O v d:=h.gen (.of k)
theorem Rep.mono (k:Same H H') (h:Rep K H O v d):Rep K H' O v d:=h.keep (.of_same k)
theorem Reps.mono (k:Same H H') (h:Reps K H O v d):Reps K H' O v d:=h.keep (.of_same k)
theorem Rep.less (k:∀ a,O' a->O a) (h:Rep K H O v d):Rep K H O' v d:=h.gen (.less k)
theorem Reps.less (k:∀ a,O' a->O a) (h:Reps K H O v d):Reps K H O' v d:=h.gen (.less k)
theorem Rd.some (h:Rd H a u):H a≠none:=by
 rcases h with h | ⟨o,h⟩ <;> (rw [h]; simp)
theorem Rep.more (hp:H p=none) (h:Rep K H O v d):Rep K H (ins1 p O) v d:=h.gen (.ins hp)
theorem Reps.more (hp:H p=none) (h:Reps K H O v d):Reps K H (ins1 p O) v d:=h.gen (.ins hp)
noncomputable def mutO:HO->Bool
 | .lst _ | .dK _ | .dT _ | .set _ _ | .ins _ _ _=>true
 | _=>false
noncomputable def MutHO:={ u:HO // mutO u=true }
def Old (H:Hp):Addr->Prop:=fun a=>∃ o,H a=some o/\mutO o=true
theorem Old.mono (k:Same H H') (h:Old H a):Old H' a:=let ⟨o,e,m⟩:=h; ⟨o,k _ _ e,m⟩
def jY:Addr->Prop:=fun _=>False
theorem Old.tup (h:Old H a) : ¬ Rd H a (.tup xs):=fun z=>by
 obtain ⟨u,e,m⟩:=h
 rcases z with h | ⟨o,h⟩ <;> (rw [e] at h; cases h; cases m)
theorem Rep.flatF (ho:∀ a,O a->∀ xs,¬ Rd H a (.tup xs)) {v:V} {d:D} (h:Rep K H O' v d):flat d=true->Rep K H O v d :=
 h.rec (motive_1:=fun v d _=>flat d=true->Rep K H O v d) (motive_2:=fun v d _=>flats d=true->Reps K H O v d) (fun _=>.non) (fun _ _=>.bl _) (fun _ _=>.int _) (fun _ _=>.str _) (fun _ h _ ih f=>.tup (fun z=>ho _ z _ h) h (ih f)) (fun h _ ih f=>.tupK h (ih f)) (fun _ _ _ _ f=>by cases f) (fun _ _ _ f=>by cases f) (fun _ _ _ _ _ f=>by cases f) (fun _ _ _ _ _ f=>by cases f) (fun _ _ _ _ _ _ f=>by cases f) (fun _ _ _ _ _ _ _ f=>by cases f) (fun _ f=>by cases f) (fun _ _ _ _ _ f=>by cases f) (fun _=>.nil) (fun _ _ i j f=>by
  have f:=Bool.and_eq_true_iff.1 f
  exact .cons (i f.1) (j f.2))
theorem Reps.flatF (ho:∀ a,O a->∀ xs,¬ Rd H a (.tup xs)) {vs:List V} {ds:List D} (h:Reps K H O' vs ds):flats ds=true->Reps K H O vs ds :=
 h.ind (m:=fun v d=>flats d=true->Reps K H O v d) (fun _=>.nil) fun h i f=>by
  have f:=Bool.and_eq_true_iff.1 f
  exact .cons (h.flatF ho f.1) (i f.2)
theorem Rep.flatten (ho:∀ a,O a->Old H a) (f:flat d=true) (r:Rep K H O' v d):Rep K H O v d:=r.flatF (fun a z _=>(ho a z).tup) f
theorem Reps.flatten (ho:∀ a,O a->Old H a) (f:flats d=true) (r:Reps K H O' v d):Reps K H O v d:=r.flatF (fun a z _=>(ho a z).tup) f
theorem Reps.length {vs:List V} {ds:List D} (h:Reps K H O vs ds):vs.length=ds.length:=h.ind (m:=fun v d=>v.length=d.length) rfl fun _=>congrArg (·+1)
theorem Reps.get {vs:List V} {ds:List D} {i:Nat} {d:D} (h:Reps K H O vs ds):ds[i]? = some d->∃ v,vs[i]? = some v/\Rep K H O v d :=
 h.ind (m:=fun vs ds=>∀ {i d},ds[i]? = some d->∃ v,vs[i]? = some v/\Rep K H O v d) (fun e=>by cases e) fun h j i _ e=>by
  cases i with
  | zero=>cases e; exact ⟨_,rfl,h⟩
  | succ i=>exact j e
theorem Reps.append {xs ys:List V} {ds es:List D} (h:Reps K H O xs ds) (s:Reps K H O ys es):Reps K H O (xs++ys) (ds++es):=h.ind (m:=fun v d=>Reps K H O (v++ys) (d++es)) s .cons
theorem Reps.set (r:Rep K H O x d) {xs:List V} {ds:List D} (i:Nat) (h:Reps K H O xs ds):Reps K H O (xs.set i x) (ds.set i d):=by
 induction i generalizing xs ds with
 | zero=>cases h with | nil=>exact .nil | cons _ t=>exact .cons r t
 | succ i j=>cases h with | nil=>exact .nil | cons q t=>exact .cons q (j t)
theorem Reps.drop {xs:List V} {ds:List D} (n:Nat) (h:Reps K H O xs ds):Reps K H O (xs.drop n) (ds.drop n):=by
 induction n generalizing xs ds with
 | zero=>exact h
 | succ i j=>cases h with | nil=>exact .nil | cons q t=>exact j t
theorem Reps.take {xs:List V} {ds:List D} (n:Nat) (h:Reps K H O xs ds):Reps K H O (xs.take n) (ds.take n):=by
 induction n generalizing xs ds with
 | zero=>exact .nil
 | succ i j=>cases h with | nil=>exact .nil | cons q t=>exact .cons q (j t)
theorem Reps.ints:∀ (ns:List Int),Reps K H O (ns.map V.int) (ns.map D.int)
 | []=>.nil
 | n::r=>.cons (.int n) (Reps.ints r)
def WRep (K:Frag) (H:Hp) (O:Addr->Prop) (v:V) (d:D):Prop:=Rep K H O v d \/ ∃ a xs l,v = .ref a/\d = .lst l/\O a/\H a=some (.lst xs)/\Reps K H O xs l
theorem WRep.mono (k:Same H H') (h:WRep K H O v d):WRep K H' O v d:=by
 rcases h with h | ⟨a,xs,l,e1,e2,ho,h,r⟩
 · exact .inl (h.mono k)
 · exact .inr ⟨a,xs,l,e1,e2,ho,k _ _ h,r.mono k⟩
theorem WRep.any (h:WRep K H O v d):Rep K H jY v d:=by
 rcases h with h | ⟨a,xs,l,rfl,rfl,ho,h,r⟩
 · exact h.less (fun _ z=>z.elim)
 · exact .lst (fun z=>z.elim) (.inl h) (r.less fun _ z=>z.elim)
theorem WRep.seqL (h:WRep K H O v (.lst l)):∃ a xs,v = .ref a/\SqL K H a xs/\Reps K H O xs l:=by
 rcases h with h | ⟨a,xs,l',rfl,e,ho,h,r⟩
 · cases h with
   | lst n h r=>exact ⟨_,_,rfl,.inl h,r⟩
   | lstK h r=>exact ⟨_,_,rfl,.inr h,r⟩
 · cases e; exact ⟨a,xs,rfl,.inl (.inl h),r⟩
theorem WRep.seqT (h:WRep K H O v (.tup l)):∃ a xs,v = .ref a/\SqT K H a xs/\Reps K H O xs l:=by
 rcases h with h | ⟨a,xs,l',rfl,e,ho,h,r⟩
 · cases h with
   | tup n h r=>exact ⟨_,_,rfl,.inl h,r⟩
   | tupK h r=>exact ⟨_,_,rfl,.inr h,r⟩
 · cases e
theorem WRep.int' (h:WRep K H O v (.int i)):v = .int i:=by
 rcases h with h | ⟨a,xs,l',rfl,e,_⟩
 · cases h; rfl
 · cases e
theorem WRep.str' (h:WRep K H O v (.str i)):v = .str i:=by
 rcases h with h | ⟨a,xs,l',rfl,e,_⟩
 · cases h; rfl
 · cases e
end
mutual
inductive RepO (K:Frag) (H:Hp) (O:Addr->Prop):V->OT->List Addr->Prop
 | val {v:V} {d:D} (r:Rep K H O v d):RepO K H O v (.val d) []
 | lst {a:Addr} {xs:List V} {ts:List OT} {fs:List Addr} (n:O a) (h:H a=some (.lst xs)) (r:RepsO K H O xs ts fs):RepO K H O (.ref a) (.lst ts) (a::fs)
 | tup {a:Addr} {xs:List V} {ts:List OT} {fs:List Addr} (n : ¬ O a) (h:Rd H a (.tup xs)) (r:RepsO K H O xs ts fs):RepO K H O (.ref a) (.tup ts) fs
 | dct {a:Addr} {kvs:List (Key×V)} {ks:List Key} {ts:List OT} {fs:List Addr} (n:O a) (h:H a=some (.dK kvs)) (e:kvs.map (·.1)=ks) (r:RepsO K H O (kvs.map (·.2)) ts fs):RepO K H O (.ref a) (.dct ks ts) (a::fs)
 | ins {a C dx:Addr} {t:Nat} {kvs:List (Str×V)} {ts:List OT} {fs:List Addr} (c:PySem.W.nsIn K mainGlobals (clsName t)=some (some (.ref C))) (n:O a) (h:H a=some (.ins C dx kvs)) (e:kvs.map (·.1)=clsFlds t) (r:RepsO K H O (kvs.map (·.2)) ts fs):RepO K H O (.ref a) (.ins t ts) (a::fs)
inductive RepsO (K:Frag) (H:Hp) (O:Addr->Prop):List V->List OT->List Addr->Prop
 | nil:RepsO K H O [] [] []
 | cons {x:V} {t:OT} {xs:List V} {ts:List OT} {fs gs:List Addr} (h:RepO K H O x t fs) (r:RepsO K H O xs ts gs):RepsO K H O (x::xs) (t::ts) (fs++gs)
end
section
variable {K:Frag} {H H':Hp} {O O':Addr->Prop}
theorem RepsO.ind {m:List V->List OT->List Addr->Prop} (h0:m [] [] []) (h1:∀ {x t xs ts fs gs},RepO K H O x t fs->m xs ts gs->m (x::xs) (t::ts) (fs++gs)) (h:RepsO K H O xs ts fs):m xs ts fs :=
 h.rec (motive_1:=fun _ _ _ _=>True) (motive_2:=fun v d f _=>m v d f) (fun _=>⟨⟩) (fun _ _ _ _=>⟨⟩) (fun _ _ _ _=>⟨⟩) (fun _ _ _ _ _=>⟨⟩) (fun _ _ _ _ _ _=>⟨⟩) h0 (fun h _ _=>h1 h)
theorem RepO.gen (k:Kp O O' H H') {v:V} {t:OT} {fs:List Addr} (h:RepO K H O v t fs):(∀ b∈fs,∀ u,O b->H b=some u->O' b/\H' b=some u)->RepO K H' O' v t fs :=
 h.rec (motive_1:=fun v t fs _=>(∀ b∈fs,∀ u,O b->H b=some u->O' b/\H' b=some u)->RepO K H' O' v t fs) (motive_2:=fun v t fs _=>(∀ b∈fs,∀ u,O b->H b=some u->O' b/\H' b=some u)->RepsO K H' O' v t fs) (fun r _=>.val (r.gen k))
  (fun n h _ i hb=>.lst (hb _ (.head _) _ n h).1 (hb _ (.head _) _ n h).2 (i fun b z=>hb b (.tail _ z))) (fun n h _ i hb=>.tup (k.rd n h).1 (k.rd n h).2 (i hb)) (fun n h e _ i hb=>.dct (hb _ (.head _) _ n h).1 (hb _ (.head _) _ n h).2 e (i fun b z=>hb b (.tail _ z)))
  (fun c n h e _ i hb=>.ins c (hb _ (.head _) _ n h).1 (hb _ (.head _) _ n h).2 e (i fun b z=>hb b (.tail _ z))) (fun _=>.nil) (fun _ _ i j hb=>.cons (i fun b z=>hb b (List.mem_append_left _ z)) (j fun b z=>hb b (List.mem_append_right _ z)))
theorem RepsO.gen (k:Kp O O' H H') {v:List V} {t:List OT} {fs:List Addr} (h:RepsO K H O v t fs):(∀ b∈fs,∀ u,O b->H b=some u->O' b/\H' b=some u)->RepsO K H' O' v t fs :=
 h.ind (m:=fun v t fs=>(∀ b∈fs,∀ u,O b->H b=some u->O' b/\H' b=some u)->RepsO K H' O' v t fs) (fun _=>.nil) fun h j hb=>.cons (h.gen k fun b z=>hb b (List.mem_append_left _ z)) (j fun b z=>hb b (List.mem_append_right _ z))
theorem RepO.keep (k:Keep O H H') (h:RepO K H O v t fs) (hb:∀ b∈fs,∀ u,H b=some u->H' b=some u):RepO K H' O v t fs:=h.gen (.of k) fun b z u o e=>⟨o,hb b z u e⟩
theorem RepsO.keep (k:Keep O H H') (h:RepsO K H O v t fs) (hb:∀ b∈fs,∀ u,H b=some u->H' b=some u):RepsO K H' O v t fs:=h.gen (.of k) fun b z u o e=>⟨o,hb b z u e⟩
theorem RepO.mono (k:Same H H') (h:RepO K H O v t fs):RepO K H' O v t fs:=h.keep (.of_same k) fun b _ u e=>k b u e
theorem RepsO.mono (k:Same H H') (h:RepsO K H O v t fs):RepsO K H' O v t fs:=h.keep (.of_same k) fun b _ u e=>k b u e
theorem RepO.less (k:∀ a,O' a->O a) (h:RepO K H O v t fs) (hb:∀ b∈fs,O' b):RepO K H O' v t fs:=h.gen (.less k) fun b z _ _ e=>⟨hb b z,e⟩
theorem RepsO.less (k:∀ a,O' a->O a) (h:RepsO K H O v t fs) (hb:∀ b∈fs,O' b):RepsO K H O' v t fs:=h.gen (.less k) fun b z _ _ e=>⟨hb b z,e⟩
theorem RepO.more (hp:H p=none) (h:RepO K H O v t fs):RepO K H (ins1 p O) v t fs:=h.gen (.ins hp) fun _ _ _ o e=>⟨.inr o,e⟩
theorem RepO.owns {v:V} {t:OT} {fs:List Addr} (h:RepO K H O v t fs):∀ b∈fs,O b/\∃ u:MutHO,H b=some u.1 :=
 h.rec (motive_1:=fun _ _ fs _=>∀ b∈fs,O b/\∃ u:MutHO,H b=some u.1) (motive_2:=fun _ _ fs _=>∀ b∈fs,O b/\∃ u:MutHO,H b=some u.1) (fun _ _ z=>nomatch z) (fun n h _ i b z=>(List.mem_cons.mp z).elim (fun q=>q ▸ ⟨n,⟨_,rfl⟩,h⟩) (i b)) (fun _ _ _ i=>i) (fun n h _ _ i b z=>(List.mem_cons.mp z).elim (fun q=>q ▸ ⟨n,⟨_,rfl⟩,h⟩) (i b)) (fun _ n h _ _ i b z=>(List.mem_cons.mp z).elim (fun q=>q ▸ ⟨n,⟨_,rfl⟩,h⟩) (i b)) (fun _ z=>nomatch z) (fun _ _ i j b z=>(List.mem_append.mp z).elim (i b) (j b))
theorem RepsO.owns {v:List V} {t:List OT} {fs:List Addr} (h:RepsO K H O v t fs):∀ b∈fs,O b/\∃ u:MutHO,H b=some u.1 :=
 h.ind (m:=fun _ _ fs=>∀ b∈fs,O b/\∃ u:MutHO,H b=some u.1) (fun _ z=>nomatch z) fun h j b z=>(List.mem_append.mp z).elim (h.owns b) (j b)
theorem RepO.val' {v:V} {t:OT} {fs:List Addr} (h:RepO K H O v t fs):(∀ a,O' a->O a/\a ∉ fs)->Rep K H O' v (otD t) :=
 h.rec (motive_1:=fun v t fs _=>(∀ a,O' a->O a/\a ∉ fs)->Rep K H O' v (otD t)) (motive_2:=fun v t fs _=>(∀ a,O' a->O a/\a ∉ fs)->Reps K H O' v (otDs t)) (fun r k=>r.less fun a z=>(k a z).1)
  (fun _ h _ i k=>by unfold otD; exact .lst (fun z=>(k _ z).2 (.head _)) (.inl h) (i fun a z=>⟨(k a z).1,fun q=>(k a z).2 (.tail _ q)⟩)) (fun n h _ i k=>by unfold otD; exact .tup (fun z=>n (k _ z).1) h (i k))
  (fun _ h e _ i k=>by unfold otD; exact .dct (fun z=>(k _ z).2 (.head _)) h e (i fun a z=>⟨(k a z).1,fun q=>(k a z).2 (.tail _ q)⟩)) (fun c _ h e _ i k=>by unfold otD; exact .ins c (fun z=>(k _ z).2 (.head _)) h e (i fun a z=>⟨(k a z).1,fun q=>(k a z).2 (.tail _ q)⟩))
  (fun _=>by unfold otDs; exact .nil) (fun _ _ i j k=>by unfold otDs; exact .cons (i fun a z=>⟨(k a z).1,fun q=>(k a z).2 (List.mem_append_left _ q)⟩) (j fun a z=>⟨(k a z).1,fun q=>(k a z).2 (List.mem_append_right _ q)⟩))
theorem RepsO.val' {v:List V} {t:List OT} {fs:List Addr} (h:RepsO K H O v t fs):(∀ a,O' a->O a/\a ∉ fs)->Reps K H O' v (otDs t) :=
 h.ind (m:=fun v t fs=>(∀ a,O' a->O a/\a ∉ fs)->Reps K H O' v (otDs t)) (fun _=>by unfold otDs; exact .nil) fun h j k=>by unfold otDs; exact .cons (h.val' fun a z=>⟨(k a z).1,fun q=>(k a z).2 (List.mem_append_left _ q)⟩) (j fun a z=>⟨(k a z).1,fun q=>(k a z).2 (List.mem_append_right _ q)⟩)
theorem RepO.any (h:RepO K H O v t fs):Rep K H jY v (otD t):=h.val' fun _ z=>z.elim
theorem RepsO.any (h:RepsO K H O v t fs):Reps K H jY v (otDs t):=h.val' fun _ z=>z.elim
end
noncomputable def xdO (dx:Addr) (fs:List (Str×V)):HO:=.ext fun h=>∃ mA,h.Ns1 dx mA/\(∀ f,RelO (fs.lookup f) (mA f))/\Within mA (fs.map (·.1))
def XfOk (K:Frag) (H:Hp) (a:Addr) (t:Nat) (fs:List (Str×Int)):Prop:=∃ C o u dx od,PySem.W.nsIn K mainGlobals (xName t)=some (some (.ref C))/\H a=some (.frz o u)/\o.cls = .ref C/\o.dict=some dx/\(∀ c,o.data≠.cls c)/\H dx=some (.frz od (xdO dx (fs.map fun p=>(p.1,.int p.2))))
theorem XfOk.keep {K:Frag} {H H':Hp} {a:Addr} {t:Nat} {fs:List (Str×Int)} (x:XfOk K H a t fs) (k:∀ b o u,H b=some (.frz o u)->H' b=some (.frz o u)):XfOk K H' a t fs:=by obtain ⟨C,o,u,dx,od,h1,h2,h3,h4,h5,h6⟩:=x; exact ⟨C,o,u,dx,od,h1,k _ _ _ h2,h3,h4,h5,k _ _ _ h6⟩
noncomputable def SlOk (K:Frag) (H₀ H:Hp) (O:Addr->Prop):Option V->Sl->Prop
 | _,.no=>True
 | some x,.v d=>Rep K H O x d
 | some (.ref a),.own l=>O a/\∃ xs,H a=some (.lst xs)/\Reps K H O xs l
 | some (.ref a),.fr l=>¬ O a/\H₀ a=none/\∃ xs,H a=some (.lst xs)/\Reps K H O xs l
 | _,.ob _ _=>True
 | some (.ref a),.exf t fs=>XfOk K H a t fs
 | some (.ref a),.exc t=>∃ C o u,PySem.W.nsIn K mainGlobals (xName t)=some (some (.ref C))/\H a=some (.frz o u)/\o.cls = .ref C
 | _,_=>False
def IsOwn (ds:List Sl) (i:Nat):Prop:=∃ l,ds[i]? = some (.own l)
inductive HI where
 | rep (v:V) (d:D) | base (B:Addr->Prop) | root (k a:Nat) | fz (a:Addr) (o:Obj) (kvs:List (Key×V)) (l:List D)
abbrev Hold:=List HI
noncomputable def HOk (K:Frag) (H₀ H:Hp) (O:Addr->Prop):HI->Prop
 | .rep v d=>Rep K H O v d
 | .base B=>∀ a,B a->O a/\H₀ a≠none
 | .root _ _=>True
 | .fz a o kvs l=>¬ O a/\H a=some (.frz o (.dK kvs))/\Reps K H O (kvs.map (·.2)) l
def Obs (K:Frag) (H₀ H:Hp) (O:Addr->Prop) (σ : L2.St) (ds:List Sl) (hd:Hold):Prop:=∃ F:Nat->List Addr,∀ (i:Nat) (r:Option Nat) (t:OT),ds[i]? = some (.ob r t)->∃ v,σ[i]? = some (some v)/\RepO K H O v t (F i)/\(∀ k a,r=some k->HI.root k a∈hd->v = .ref a)/\(F i).Nodup ∧
 ∀ b∈F i,H₀ b=none/\(∀ j r' t',j≠i->ds[j]? = some (.ob r' t')->b ∉ F j)/\∀ j,IsOwn ds j->σ[j]?≠some (some (.ref b))
structure Ok (K:Frag) (H₀ H:Hp) (O:Addr->Prop) (σ : L2.St) (ds:List Sl) (hd:Hold):Prop where
 same:Same H₀ H
 fresh:∀ (i:Nat) (l:List D) (a:Addr),ds[i]? = some (.own l)->σ[i]? = some (some (.ref a))->H₀ a=none
 dom:∀ a,O a->∃ u:MutHO,H a=some u.1
 len : σ.length=ds.length
 sl:∀ (i:Nat) (s:Sl),ds[i]? = some s->SlOk K H₀ H O (σ[i]?.join) s
 apart:∀ (i j:Nat) (a:Addr),i≠j->IsOwn ds i->IsOwn ds j->σ[i]? = some (some (.ref a))->σ[j]? = some (some (.ref a))->False
 hold:∀ p∈hd,HOk K H₀ H O p
 obs:Obs K H₀ H O σ ds hd
section
variable {K:Frag} {ds:List Sl}
theorem HOk.mono (k:Same H H'):∀ {p:HI},HOk K H₀ H O p->HOk K H₀ H' O p
 | .rep _ _,h=>Rep.mono k h
 | .base _,h=>h
 | .root _ _,h=>h
 | .fz _ _ _ _,h=>⟨h.1,k _ _ h.2.1,Reps.mono k h.2.2⟩
theorem HOk.keep (k:Keep O H H'):∀ {p:HI},HOk K H₀ H O p->HOk K H₀ H' O p
 | .rep _ _,h=>Rep.keep k h
 | .base _,h=>h
 | .root _ _,h=>h
 | .fz _ _ _ _,h=>⟨h.1,k _ _ h.1 h.2.1,Reps.keep k h.2.2⟩
theorem Obs.tr (h:Obs K H₀ H O σ ds hd) (tr:∀ v t fs,RepO K H O v t fs->(∀ b∈fs,H₀ b=none/\∀ j,IsOwn ds j->σ[j]?≠some (some (.ref b)))->RepO K H' O' v t fs)
  (hob:∀ (i:Nat) r t,ds'[i]? = some (.ob r t)->ds[i]? = some (.ob r t)/\σ'[i]? = σ[i]?)
  (hown:∀ j b,IsOwn ds' j->σ'[j]? = some (some (.ref b))->(IsOwn ds j/\σ[j]? = some (some (.ref b))) \/ H b=none):Obs K H₀ H' O' σ' ds' hd:=by
 obtain ⟨F,hF⟩:=h
 refine ⟨F,fun i r t e=>?_⟩
 obtain ⟨e1,e2⟩:=hob i r t e
 obtain ⟨v,h1,h2,h3,h4,h5⟩:=hF i r t e1
 refine ⟨v,e2.trans h1,tr v t _ h2 fun b hb=>⟨(h5 b hb).1,(h5 b hb).2.2⟩,h3,h4,fun b hb=>⟨(h5 b hb).1,fun j r' t' hj ej=>(h5 b hb).2.1 j r' t' hj (hob j r' t' ej).1,fun j oj ej=>?_⟩⟩
 rcases hown j b oj ej with ⟨o1,o2⟩ | hn
 · exact (h5 b hb).2.2 j o1 o2
 · obtain ⟨_, xs, z⟩ := h2.owns b hb
   rw [hn] at z; cases z
theorem Obs.no (h:∀ (i:Nat) r t,ds[i]?≠some (.ob r t)):Obs K H₀ H O σ ds hd:=⟨fun _=>[],fun i r t e=>(h i r t e).elim⟩
theorem Obs.mono (k:Same H H') (h:Obs K H₀ H O σ ds hd):Obs K H₀ H' O σ ds hd:=h.tr (fun _ _ _ r _=>r.mono k) (fun _ _ _ e=>⟨e,rfl⟩) fun _ _ o e=>.inl ⟨o,e⟩
theorem xP (hs:∀ r t,s≠.ob r t) (e:(ds.set i s)[j]? = some (.ob r t)):ds[j]? = some (.ob r t)/\j≠i:=by
 by_cases hj:j=i
 · subst hj
   by_cases hl:j < ds.length
   · rw [List.getElem?_set_self hl] at e
     cases e
     exact (hs r t rfl).elim
   · rw [List.getElem?_eq_none (by simpa using hl)] at e; cases e
 · rw [List.getElem?_set_ne (Ne.symm hj)] at e
   exact ⟨e,hj⟩
theorem yV (hs:∀ l,s≠.own l) (e:IsOwn (ds.set i s) j):IsOwn ds j/\j≠i:=by
 obtain ⟨l,e⟩:=e
 by_cases hj:j=i
 · subst hj
   by_cases hl:j < ds.length
   · rw [List.getElem?_set_self hl] at e
     cases e
     exact (hs l rfl).elim
   · rw [List.getElem?_eq_none (by simpa using hl)] at e; cases e
 · rw [List.getElem?_set_ne (Ne.symm hj)] at e
   exact ⟨⟨l,e⟩,hj⟩
theorem SlOk.mono (k:Same H H') {x:Option V} {s:Sl} (h:SlOk K H₀ H O x s):SlOk K H₀ H' O x s:=by
 cases x with
 | none=>cases s <;> exact h
 | some x=>cases x <;> cases s <;> first | exact h | exact Rep.mono k h | exact XfOk.keep h fun _ _ _ e=>k _ _ e | (obtain ⟨ho,xs,h,r⟩:=h; exact ⟨ho,xs,k _ _ h,r.mono k⟩) | (obtain ⟨ho,h0,xs,h,r⟩:=h; exact ⟨ho,h0,xs,k _ _ h,r.mono k⟩) | (obtain ⟨C,o,u,h1,h2,h3⟩:=h; exact ⟨C,o,u,h1,k _ _ h2,h3⟩)
theorem Ok.old (o:Ok K H₀ H O σ ds hd) {a:Addr} (h:O a):Old H a:=let ⟨xs,e⟩:=o.dom a h; ⟨_,e,xs.2⟩
theorem Ok.mono (k:Same H H') (o:Ok K H₀ H O σ ds hd):Ok K H₀ H' O σ ds hd :=
 ⟨o.same.trans k,o.fresh,fun a h=>let ⟨xs,e⟩:=o.dom a h; ⟨xs,k _ _ e⟩,o.len,fun i s e=>(o.sl i s e).mono k,o.apart,fun p hp=>(o.hold p hp).mono k,o.obs.mono k⟩
theorem Ok.free (o:Ok K H₀ H O σ ds hd) (h:H p=none) : ¬ O p:=fun z=>by
 obtain ⟨xs,e⟩:=o.dom p z
 rw [h] at e; cases e
theorem Ok.read {i:Nat} (o:Ok K H₀ H O σ ds hd) (e:ds[i]? = some (.v d)):∃ v,σ[i]? = some (some v)/\Rep K H O v d:=by
 have h:=o.sl i _ e
 cases q : σ[i]? with
 | none=>rw [q] at h; exact h.elim
 | some x =>
   rw [q] at h
   cases x with
   | none=>exact h.elim
   | some x=>exact ⟨x,rfl,by cases x <;> exact h⟩
theorem Ok.readO {i:Nat} (o:Ok K H₀ H O σ ds hd) (e:ds[i]? = some (.own l)):∃ a xs,σ[i]? = some (some (.ref a))/\O a/\H a=some (.lst xs)/\Reps K H O xs l:=by
 have h:=o.sl i _ e
 cases q : σ[i]? with
 | none=>rw [q] at h; exact h.elim
 | some x =>
   rw [q] at h
   cases x with
   | none=>exact h.elim
   | some x =>
     cases x with
     | ref a=>obtain ⟨ho,xs,h1,h2⟩:=h; exact ⟨a,xs,rfl,ho,h1,h2⟩
     | _=>exact h.elim
theorem Ok.readX {i t:Nat} (o:Ok K H₀ H O σ ds hd) (e:ds[i]? = some (.exc t)):∃ a C ob u,σ[i]? = some (some (.ref a))/\PySem.W.nsIn K mainGlobals (xName t)=some (some (.ref C))/\H a=some (.frz ob u)/\ob.cls = .ref C:=by
 have h:=o.sl i _ e
 cases q : σ[i]? with
 | none=>rw [q] at h; exact h.elim
 | some x =>
   rw [q] at h
   cases x with
   | none=>exact h.elim
   | some x =>
     cases x with
     | ref a=>obtain ⟨C,ob,u,h1,h2,h3⟩:=h; exact ⟨a,C,ob,u,rfl,h1,h2,h3⟩
     | _=>exact h.elim
theorem Ok.readE {i t:Nat} {fs:List (Str×Int)} (o:Ok K H₀ H O σ ds hd) (e:ds[i]? = some (.exf t fs)):∃ a,σ[i]? = some (some (.ref a))/\XfOk K H a t fs:=by
 have h:=o.sl i _ e
 cases q : σ[i]? with
 | none=>rw [q] at h; exact h.elim
 | some x =>
   rw [q] at h
   cases x with
   | none=>exact h.elim
   | some x =>
     cases x with
     | ref a=>exact ⟨a,rfl,h⟩
     | _=>exact h.elim
theorem Ok.readF {i:Nat} {l:List D} (o:Ok K H₀ H O σ ds hd) (e:ds[i]? = some (.fr l)):∃ a xs,σ[i]? = some (some (.ref a))/\¬ O a/\H₀ a=none/\H a=some (.lst xs)/\Reps K H O xs l:=by
 have h:=o.sl i _ e
 cases q : σ[i]? with
 | none=>rw [q] at h; exact h.elim
 | some x =>
   rw [q] at h
   cases x with
   | none=>exact h.elim
   | some x =>
     cases x with
     | ref a=>obtain ⟨ho,h0,xs,h1,h2⟩:=h; exact ⟨a,xs,rfl,ho,h0,h1,h2⟩
     | _=>exact h.elim
theorem qQ:SlOk K H₀ H O x .no:=by
 cases x with
 | none=>trivial
 | some x=>cases x <;> trivial
theorem yL:SlOk K H₀ H O x (.ob r t):=by
 cases x with
 | none=>trivial
 | some x=>cases x <;> trivial
theorem yO (h:Rep K H O x d):SlOk K H₀ H O (some x) (.v d):=by
 cases x <;> exact h
theorem Ok.set (o:Ok K H₀ H O σ ds hd) (r:Rep K H O v d):Ok K H₀ H O (σ.set i (some v)) (ds.set i (.v d)) hd:=by
 have own':∀ {j:Nat},IsOwn (ds.set i (.v d)) j->j≠i/\IsOwn ds j:=fun {j} ⟨l,e⟩=>by
  by_cases hj:j=i
  · subst hj
    by_cases hl:j < ds.length
    · rw [List.getElem?_set_self hl] at e; cases e
    · rw [List.getElem?_eq_none (by simpa using hl)] at e; cases e
  · rw [List.getElem?_set_ne (Ne.symm hj)] at e
    exact ⟨hj,l,e⟩
 refine ⟨o.same,fun j l a e1 e2=>?_,o.dom,by simpa using o.len,fun j s e=>?_,fun j k a hjk hj hk e1 e2=>?_,o.hold,o.obs.tr (fun _ _ _ r _=>r) (fun j r t e=>by
  obtain ⟨e1,hj⟩:=xP (fun r t=>by intro z; cases z) e
  exact ⟨e1,by rw [List.getElem?_set_ne (Ne.symm hj)]⟩) (fun j b oj ej=>by
  obtain ⟨o1,hj⟩:=yV (fun l=>by intro z; cases z) oj
  rw [List.getElem?_set_ne (Ne.symm hj)] at ej
  exact .inl ⟨o1,ej⟩)⟩
 · obtain ⟨n1, h1⟩ := own' ⟨l, e1⟩
   rw [List.getElem?_set_ne (Ne.symm n1)] at e1 e2
   exact o.fresh j l a e1 e2
 · by_cases hj : j = i
   · subst hj
     by_cases hl:j < ds.length
     · rw [List.getElem?_set_self hl] at e
       cases e
       rw [List.getElem?_set_self (by rw [o.len]; exact hl)]
       exact yO r
     · rw [List.getElem?_eq_none (by simpa using hl)] at e; cases e
   · rw [List.getElem?_set_ne (Ne.symm hj)] at e
     rw [List.getElem?_set_ne (Ne.symm hj)]
     exact o.sl j s e
 · obtain ⟨n1, h1⟩ := own' hj
   obtain ⟨n2,h2⟩:=own' hk
   rw [List.getElem?_set_ne (Ne.symm n1)] at e1
   rw [List.getElem?_set_ne (Ne.symm n2)] at e2
   exact o.apart j k a hjk h1 h2 e1 e2
theorem Ok.setO (o:Ok K H₀ H O σ ds hd) (k:Same H H') (hn:H a=none) (e:H' a=some (.lst xs)) (r:Reps K H' (ins1 a O) xs l) :
  Ok K H₀ H' (ins1 a O) (σ.set i (some (.ref a))) (ds.set i (.own l)) hd:=by
 have up:∀ {v:V} {d:D},Rep K H O v d->Rep K H' (ins1 a O) v d:=fun h=>(h.more hn).mono k
 have ups:∀ {v:List V} {d:List D},Reps K H O v d->Reps K H' (ins1 a O) v d:=fun h=>(h.more hn).mono k
 have other:∀ j:Nat,IsOwn ds j->σ[j]? = some (some (.ref a))->False:=fun j ⟨l',e'⟩ q=>by
  obtain ⟨b,ys,h1,h2,h3,_⟩:=o.readO e'
  rw [q] at h1; cases h1
  rw [hn] at h3; cases h3
 have own':∀ {j:Nat},j≠i->IsOwn (ds.set i (.own l)) j->IsOwn ds j:=fun {j} hj ⟨l',e'⟩=>⟨l',by rwa [List.getElem?_set_ne (Ne.symm hj)] at e'⟩
 refine ⟨o.same.trans k,fun j l' b e1 e2=>?_,fun b hb=>?_,by simpa using o.len,fun j s es=>?_,fun j m b hjm hj hm e1 e2=>?_,fun p hp=>?_,o.obs.tr (fun _ _ _ r _=>(r.more hn).mono k) (fun j r t e=>by
  obtain ⟨e1,hj⟩:=xP (fun r t=>by intro z; cases z) e
  exact ⟨e1,by rw [List.getElem?_set_ne (Ne.symm hj)]⟩) (fun j b oj ej=>by
  by_cases hj:j=i
  · subst hj
    by_cases hl:j < σ.length
    · rw [List.getElem?_set_self hl] at ej; cases ej; exact .inr hn
    · rw [List.getElem?_eq_none (by simpa using hl)] at ej; cases ej
  · rw [List.getElem?_set_ne (Ne.symm hj)] at ej
    obtain ⟨l',e'⟩:=oj
    rw [List.getElem?_set_ne (Ne.symm hj)] at e'
    exact .inl ⟨⟨l',e'⟩,ej⟩)⟩
 rotate_left 4
 · have := o.hold p hp
   cases p with
   | rep v d=>exact up this
   | base B=>exact fun b hb=>⟨.inr (this b hb).1,(this b hb).2⟩
   | root k a=>exact True.intro
   | fz a' o' kvs' l'=>exact ⟨fun z=>z.elim (fun z=>by have:=this.2.1; rw [z,hn] at this; cases this) this.1,k _ _ this.2.1,(Reps.more hn this.2.2).mono k⟩
 · by_cases hj : j = i
   · subst hj
     by_cases hl:j < σ.length
     · rw [List.getElem?_set_self hl] at e2
       cases e2
       exact o.same.free hn
     · rw [List.getElem?_eq_none (by simpa using hl)] at e2; cases e2
   · rw [List.getElem?_set_ne (Ne.symm hj)] at e1 e2
     exact o.fresh j l' b e1 e2
 · rcases hb with rfl | hb
   · exact ⟨⟨.lst xs,rfl⟩,e⟩
   · obtain ⟨ys, q⟩ := o.dom b hb
     exact ⟨ys,k _ _ q⟩
 · by_cases hj : j = i
   · subst hj
     by_cases hl:j < ds.length
     · rw [List.getElem?_set_self hl] at es
       cases es
       rw [List.getElem?_set_self (by rw [o.len]; exact hl)]
       exact ⟨.inl rfl,xs,e,r⟩
     · rw [List.getElem?_eq_none (by simpa using hl)] at es; cases es
   · rw [List.getElem?_set_ne (Ne.symm hj)] at es
     rw [List.getElem?_set_ne (Ne.symm hj)]
     cases s with
     | no=>exact qQ
     | ob r t=>exact yL
     | exc t =>
       obtain ⟨a',C',ob',u',q1,q2,q3,q4⟩:=o.readX es
       rw [q1]
       exact ⟨C',ob',u',q2,k _ _ q3,q4⟩
     | exf t fs =>
       obtain ⟨a',q1,q3⟩:=o.readE es
       rw [q1]
       exact q3.keep fun a' ob' u' q3=>k _ _ q3
     | fr l' =>
       obtain ⟨a',xs',q1,q2,q0,q3,q4⟩:=o.readF es
       rw [q1]
       exact ⟨fun z=>z.elim (fun e'=>by rw [e',hn] at q3; cases q3) q2,q0,xs',k _ _ q3,ups q4⟩
     | v d =>
       obtain ⟨v,h1,h2⟩:=o.read es
       rw [h1]
       exact yO (up h2)
     | own l' =>
       obtain ⟨b,ys,h1,h2,h3,h4⟩:=o.readO es
       rw [h1]
       exact ⟨.inr h2,ys,k _ _ h3,ups h4⟩
 · have hs:∀ {q:Nat},q=i->(σ.set i (some (V.ref a)))[q]? = some (some (.ref b))->b=a:=fun {q} hq eq=>by
    subst hq
    by_cases hl:q < σ.length
    · rw [List.getElem?_set_self hl] at eq
      cases eq; rfl
    · rw [List.getElem?_eq_none (by simpa using hl)] at eq; cases eq
   by_cases h1:j=i
   · have hb := hs h1 e1
     have h2:m≠i:=fun z=>hjm (h1.trans z.symm)
     rw [List.getElem?_set_ne (Ne.symm h2),hb] at e2
     exact other m (own' h2 hm) e2
   · by_cases h2 : m = i
     · have hb := hs h2 e2
       rw [List.getElem?_set_ne (Ne.symm h1),hb] at e1
       exact other j (own' h1 hj) e1
     · rw [List.getElem?_set_ne (Ne.symm h1)] at e1
       rw [List.getElem?_set_ne (Ne.symm h2)] at e2
       exact o.apart j m b hjm (own' h1 hj) (own' h2 hm) e1 e2
theorem Ok.release (o:Ok K H₀ H O σ ds hd) (e:ds[i]? = some (.own l)):∃ O',Ok K H₀ H O' σ (ds.set i (.v (.lst l))) hd:=by
 obtain ⟨a,xs,h1,h2,h3,h4⟩:=o.readO e
 have hl:=(List.getElem?_eq_some_iff.mp e).1
 let O':Addr->Prop:=fun b=>O b/\b≠a
 have sub:∀ b,O' b->O b:=fun b hb=>hb.1
 have na : ¬ O' a:=fun hb=>hb.2 rfl
 have own0:∀ {j:Nat} {l':List D},(ds.set i (.v (.lst l)))[j]? = some (.own l')->ds[j]? = some (.own l'):=fun {j l'} e'=>by
  by_cases hj:j=i
  · subst hj
    rw [List.getElem?_set_self hl] at e'; cases e'
  · rwa [List.getElem?_set_ne (Ne.symm hj)] at e'
 refine ⟨O',o.same,fun j l' b e1 e2=>o.fresh j l' b (own0 e1) e2,fun b hb=>o.dom b (sub b hb),by simpa using o.len,fun j s es=>?_,fun j m b hjm hj hm e1 e2=>?_,fun p hp=>?_,o.obs.tr (fun _ _ _ r hb=>r.less sub fun b z=>⟨(r.owns b z).1,fun q=>(hb b z).2 i ⟨l,e⟩ (by rw [q]; exact h1)⟩) (fun j r t ej=>by
  obtain ⟨e1,hj⟩:=xP (fun r t=>by intro z; cases z) ej
  exact ⟨e1,rfl⟩) (fun j b oj ej=>.inl ⟨(yV (fun l=>by intro z; cases z) oj).1,ej⟩)⟩
 rotate_left 2
 · have := o.hold p hp
   cases p with
   | rep v d=>exact Rep.less sub this
   | base B=>exact fun b hb=>⟨⟨(this b hb).1,fun z=>(this b hb).2 (z ▸ o.fresh i l a e h1)⟩,(this b hb).2⟩
   | root k a=>exact True.intro
   | fz a' o' kvs' l'=>exact ⟨fun z=>this.1 (sub _ z),this.2.1,Reps.less sub this.2.2⟩
 · by_cases hj : j = i
   · subst hj
     rw [List.getElem?_set_self hl] at es
     cases es
     rw [h1]
     exact yO (.lst na (.inl h3) (h4.less sub))
   · rw [List.getElem?_set_ne (Ne.symm hj)] at es
     cases s with
     | no=>exact qQ
     | ob r t=>exact yL
     | exc t =>
       obtain ⟨a',C',ob',u',q1,q2,q3,q4⟩:=o.readX es
       rw [q1]
       exact ⟨C',ob',u',q2,q3,q4⟩
     | exf t fs =>
       obtain ⟨a',q1,q3⟩:=o.readE es
       rw [q1]
       exact q3.keep fun a' ob' u' q3=>q3
     | fr l' =>
       obtain ⟨a',xs',q1,q2,q0,q3,q4⟩:=o.readF es
       rw [q1]
       exact ⟨fun z=>q2 (sub _ z),q0,xs',q3,q4.less sub⟩
     | v d =>
       obtain ⟨v,q1,q2⟩:=o.read es
       rw [q1]
       exact yO (q2.less sub)
     | own l' =>
       obtain ⟨b,ys,q1,q2,q3,q4⟩:=o.readO es
       rw [q1]
       refine ⟨⟨q2,fun z=>?_⟩,ys,q3,q4.less sub⟩
       subst z
       exact o.apart j i b hj ⟨l',es⟩ ⟨l,e⟩ q1 h1
 · have own':∀ {j:Nat},IsOwn (ds.set i (.v (.lst l))) j->IsOwn ds j:=fun {j} ⟨l',e'⟩=>by
    by_cases hj:j=i
    · subst hj
      rw [List.getElem?_set_self hl] at e'; cases e'
    · rw [List.getElem?_set_ne (Ne.symm hj)] at e'; exact ⟨l',e'⟩
   exact o.apart j m b hjm (own' hj) (own' hm) e1 e2
theorem Ok.modify (o:Ok K H₀ H O σ ds hd) (e:ds[i]? = some (.own l)) (ea : σ[i]? = some (some (.ref a))) (r:Reps K H O xs' l') :
  Ok K H₀ (upd H a (.lst xs')) O σ (ds.set i (.own l')) hd:=by
 obtain ⟨a',xs,h1,h2,h3,h4⟩:=o.readO e
 rw [ea] at h1; cases h1
 have hl:=(List.getElem?_eq_some_iff.mp e).1
 have k:Keep O H (upd H a (.lst xs')):=fun b u hb eb=>by
  rw [upd_ne (fun (z:b=a)=>hb (z.symm ▸ h2))]; exact eb
 refine ⟨fun b u eb=>?_,fun j l2 b e1 e2=>?_,fun b hb=>?_,by simpa using o.len,fun j s es=>?_,fun j m b hjm hj hm e1 e2=>?_,fun p hp=>(o.hold p hp).keep k,o.obs.tr (fun _ _ _ r hb=>r.keep k fun b z u eu=>by rw [upd_ne (fun q=>(hb b z).2 i ⟨l,e⟩ (by rw [q]; exact ea))]; exact eu) (fun j r t ej=>by
  obtain ⟨e1,hj⟩:=xP (fun r t=>by intro z; cases z) ej
  exact ⟨e1,rfl⟩) (fun j b oj ej=>by
  by_cases hj:j=i
  · subst hj; exact .inl ⟨⟨l,e⟩,ej⟩
  · obtain ⟨l', e'⟩ := oj
    rw [List.getElem?_set_ne (Ne.symm hj)] at e'
    exact .inl ⟨⟨l',e'⟩,ej⟩)⟩
 rotate_left 1
 · by_cases hj : j = i
   · subst hj; exact o.fresh j l b e e2
   · rw [List.getElem?_set_ne (Ne.symm hj)] at e1; exact o.fresh j l2 b e1 e2
 rotate_right 1
 · rw [upd_ne (fun z => by rw [z, o.fresh i l a e ea] at eb; cases eb)]
   exact o.same b u eb
 · by_cases hba : b = a
   · subst hba; exact ⟨⟨.lst xs',rfl⟩,upd_same⟩
   · rw [upd_ne hba]; exact o.dom b hb
 · by_cases hj : j = i
   · subst hj
     rw [List.getElem?_set_self hl] at es
     cases es
     rw [ea]
     exact ⟨h2,xs',upd_same,r.keep k⟩
   · rw [List.getElem?_set_ne (Ne.symm hj)] at es
     cases s with
     | no=>exact qQ
     | ob r t=>exact yL
     | exc t =>
       obtain ⟨a',C',ob',u',q1,q2,q3,q4⟩:=o.readX es
       rw [q1]
       exact ⟨C',ob',u',q2,by rw [upd_ne (fun z=>by rw [z,h3] at q3; cases q3)]; exact q3,q4⟩
     | exf t fs =>
       obtain ⟨a',q1,q3⟩:=o.readE es
       rw [q1]
       exact q3.keep fun a' ob' u' q3=>by rw [upd_ne (fun z=>by rw [z,h3] at q3; cases q3)]; exact q3
     | fr l' =>
       obtain ⟨a',xs'',q1,q2,q0,q3,q4⟩:=o.readF es
       rw [q1]
       exact ⟨q2,q0,xs'',by rw [upd_ne (fun z=>q2 (by rw [z]; exact h2))]; exact q3,q4.keep k⟩
     | v d =>
       obtain ⟨v,q1,q2⟩:=o.read es
       rw [q1]
       exact yO (q2.keep k)
     | own l'' =>
       obtain ⟨b,ys,q1,q2,q3,q4⟩:=o.readO es
       rw [q1]
       refine ⟨q2,ys,?_,q4.keep k⟩
       rw [upd_ne (fun z=>?_)]
       · exact q3
       · subst z
         exact o.apart j i b hj ⟨_,es⟩ ⟨l,e⟩ q1 ea
 · have own':∀ {j:Nat},IsOwn (ds.set i (.own l')) j->IsOwn ds j:=fun {j} ⟨l'',e'⟩=>by
    by_cases hj:j=i
    · subst hj; exact ⟨l,e⟩
    · rw [List.getElem?_set_ne (Ne.symm hj)] at e'; exact ⟨l'',e'⟩
   exact o.apart j m b hjm (own' hj) (own' hm) e1 e2
theorem Ok.holdMore (o:Ok K H₀ H O σ ds hd) (r:HOk K H₀ H O p) (hp:∀ k a,HI.root k a≠p:=by intro _ _ z; cases z):Ok K H₀ H O σ ds (p::hd) :=
 ⟨o.same,o.fresh,o.dom,o.len,o.sl,o.apart,fun q hq=>(List.mem_cons.mp hq).elim (fun e=>e ▸ r) (o.hold q),o.obs.imp fun _ hF i r t e=>(hF i r t e).imp fun _ h=>⟨h.1,h.2.1,fun k a z y=>(List.mem_cons.mp y).elim (fun y=>(hp k a y).elim) (h.2.2.1 k a z),h.2.2.2⟩⟩
theorem Ok.holdLess (o:Ok K H₀ H O σ ds (p::hd)):Ok K H₀ H O σ ds hd :=
 ⟨o.same,o.fresh,o.dom,o.len,o.sl,o.apart,fun q hq=>o.hold q (List.mem_cons_of_mem _ hq),o.obs.imp fun _ hF i r t e=>(hF i r t e).imp fun _ h=>⟨h.1,h.2.1,fun k a z y=>h.2.2.1 k a z (List.mem_cons_of_mem _ y),h.2.2.2⟩⟩
end
section
variable (X:Cx)
def PV (e:Expr) (f:FE):Prop:=∃ t,PE X e t/\∀ H₀ H O σ ds hd d Q,Ok X.K H₀ H O σ ds hd->f ds=some d->(∀ v H',Same H H'->Rep X.K H' O v d->Q v H')->t σ H Q
def PVw (e:Expr) (f:FE):Prop:=∃ t,PE X e t/\∀ H₀ H O σ ds hd d Q,Ok X.K H₀ H O σ ds hd->f ds=some d->(∀ v H',Same H H'->WRep X.K H' O v d->Q v H')->t σ H Q
def PVf (e:Expr) (f:FA):Prop:=∃ t,PE X e t/\∀ H₀ H O σ ds hd l Q,Ok X.K H₀ H O σ ds hd->f ds=some l →
 (∀ a xs H',Same H H'->H a=none->H' a=some (.lst xs)->Reps X.K H' (ins1 a O) xs l->Q (.ref a) H')->t σ H Q
def PTv (e:Expr) (c:FT):Prop:=∃ t,PT X e t/\∀ H₀ H O σ ds hd b Q,Ok X.K H₀ H O σ ds hd->c ds=some b->(∀ H',Same H H'->Q b H')->t σ H Q
def PWv (e:Expr) (c:FT):Prop:=∃ t,PW X e t/\∀ H₀ H O σ ds hd b Q,Ok X.K H₀ H O σ ds hd->c ds=some b->(∀ H',Same H H'->Q b H')->t σ H Q
def PAv (es:List Expr) (f:FA):Prop:=∃ t,PA X es t/\∀ H₀ H O σ ds hd l Q,Ok X.K H₀ H O σ ds hd->f ds=some l->(∀ vs H',Same H H'->Paired (WRep X.K H' O) vs l->Q vs H')->t σ H Q
def PAs (es:List Expr) (f:FA):Prop:=∃ t,PA X es t/\∀ H₀ H O σ ds hd l Q,Ok X.K H₀ H O σ ds hd->f ds=some l->(∀ vs H',Same H H'->Reps X.K H' O vs l->Q vs H')->t σ H Q
end
section
variable {X:Cx}
theorem PV.w (h:PV X e f):PVw X e f:=by
 obtain ⟨t,ht,hf⟩:=h
 exact ⟨t,ht,fun H₀ H O σ ds hd d Q o e q=>hf H₀ H O σ ds hd d Q o e fun v H' s r=>q v H' s (.inl r)⟩
theorem PVf.s (h:PVf X e f):PV X e (mkL f):=by
 obtain ⟨t,ht,hf⟩:=h
 refine ⟨t,ht,fun H₀ H O σ ds hd d Q o e q=>?_⟩
 unfold mkL at e
 obtain ⟨l,hl,rfl⟩:=mpd e
 rw [hl] at e; cases e
 refine hf H₀ H O σ ds hd l Q o hl fun a xs H' s hn he r=>q _ _ s ?_
 exact .lst (o.free hn) (.inl he) (r.less fun _ z=>.inr z)
theorem zN i (hN:X.N[i]? = some x:=by rfl) (hv:Vis X.env.scope x:=by first | exact Or.inl rfl | exact Or.inr (Or.inl rfl) | exact Or.inr (Or.inr rfl)) (hd:(x == ("__debug__" : Str))=false:=by decide)
  (hcd:(x == ("__classdict__" : Str))=false:=by decide):PV X (.Name x pos) (zZ i):=by
 refine ⟨_,jG hN hv hd hcd,fun H₀ H O σ ds hd d Q o e q=>?_⟩
 unfold zZ at e
 cases hs:ds[i]? with
 | none=>rw [hs] at e; cases e
 | some s =>
   rw [hs] at e
   cases s with
   | v d' =>
     cases e
     obtain ⟨v,h1,h2⟩:=o.read hs
     exact ⟨v,h1,q v H (Same.refl _) h2⟩
   | no=>cases e
   | exc _=>cases e
   | exf _ _=>cases e
   | fr _=>cases e
   | ob _ _=>cases e
   | own l=>cases e
theorem zC i (hN:X.N[i]? = some x:=by rfl) (hv:Vis X.env.scope x:=by first | exact Or.inl rfl | exact Or.inr (Or.inl rfl) | exact Or.inr (Or.inr rfl)) (hd:(x == ("__debug__" : Str))=false:=by decide)
  (hcd:(x == ("__classdict__" : Str))=false:=by decide):PVw X (.Name x pos) (zF i):=by
 refine ⟨_,jG hN hv hd hcd,fun H₀ H O σ ds hd d Q o e q=>?_⟩
 unfold zF at e
 cases hs:ds[i]? with
 | none=>rw [hs] at e; cases e
 | some s =>
   rw [hs] at e
   cases s with
   | v d' =>
     cases e
     obtain ⟨v,h1,h2⟩:=o.read hs
     exact ⟨v,h1,q v H (Same.refl _) (.inl h2)⟩
   | no=>cases e
   | exc _=>cases e
   | exf _ _=>cases e
   | fr _=>cases e
   | ob _ _=>cases e
   | own l =>
     cases e
     obtain ⟨a,xs,h1,h2,h3,h4⟩:=o.readO hs
     exact ⟨.ref a,h1,q _ H (Same.refl _) (.inr ⟨a,xs,l,rfl,rfl,h2,h3,h4⟩)⟩
theorem jM {j pos} : PV X (.Constant (.int i) j pos) (zA (.int i)):=⟨_,pe_int,fun _ H _ _ _ _ _ _ _ e q=>by cases e; exact q _ H (Same.refl _) (.int i)⟩
theorem yW {j pos} : PV X (.Constant (.bool b) j pos) (zA (.bl b)):=⟨_,pe_bl,fun _ H _ _ _ _ _ _ _ e q=>by cases e; exact q _ H (Same.refl _) (.bl b)⟩
theorem xQ {j pos} : PV X (.Constant .none j pos) (zA .non):=⟨_,pe_non,fun _ H _ _ _ _ _ _ _ e q=>by cases e; exact q _ H (Same.refl _) .non⟩
theorem pv_glob (hg:Gl X x) (hm:X.mg x=some u) (r:RelV v u) (hr:∀ H O,Rep X.K H O v d) (hd:(x == ("__debug__" : Str))=false:=by decide):PV X (.Name x pos) (zA d) :=
 ⟨_,pe_glob hg hm r hd,fun _ H O _ _ _ _ _ _ e q=>by cases e; exact q _ H (Same.refl _) (hr H O)⟩
def OpS (X:Cx) (r:R2) (op:D->D->Option D):Prop:=∀ H O x y dx dy d Q,(∀ a,O a->∃ u:MutHO,H a=some u.1)->WRep X.K H O x dx->WRep X.K H O y dy->op dx dy=some d->(∀ v H',Same H H'->Rep X.K H' O v d->Q v H')->r x y H Q
theorem pv_tOp {r:R2} {op:D->D->Option D} (hs:OpS X r op) {a b:Expr} {fa fb:FE} {ta tb:TE} (ha:∀ H₀ H O σ ds hd d Q,Ok X.K H₀ H O σ ds hd->fa ds=some d->(∀ v H',Same H H'->WRep X.K H' O v d->Q v H')->ta σ H Q)
  (hb:∀ H₀ H O σ ds hd d Q,Ok X.K H₀ H O σ ds hd->fb ds=some d->(∀ v H',Same H H'->WRep X.K H' O v d->Q v H')->tb σ H Q) :
  ∀ H₀ H O σ ds hd d Q,Ok X.K H₀ H O σ ds hd->zE op fa fb ds=some d->(∀ v H',Same H H'->Rep X.K H' O v d->Q v H')->tOp r ta tb σ H Q:=by
 intro H₀ H O σ ds hd d Q o e q
 obtain ⟨dx,h1,e⟩:=bnd e
 obtain ⟨dy,h2,e⟩:=bnd e
 refine ha H₀ H O σ ds hd dx _ o h1 fun x H1 s1 r1=>?_
 refine hb H₀ H1 O σ ds hd dy _ (o.mono s1) h2 fun y H2 s2 r2=>?_
 exact hs H2 O x y dx dy d Q ((o.mono s1).mono s2).dom (r1.mono s2) r2 e fun v H' s r=>q v H' ((s1.trans s2).trans s) r
theorem wK (ho:OpR X (binaryOp op) r) (hs:OpS X r opD) (ha:PVw X a fa) (hb:PVw X b fb):PV X (.BinOp a op b pos) (zE opD fa fb):=by
 obtain ⟨ta,pa,ha⟩:=ha
 obtain ⟨tb,pb,hb⟩:=hb
 exact ⟨_,pe_op ho pa pb,pv_tOp hs (a:=a) (b:=b) ha hb⟩
theorem pv_cmp (ho:OpR X (compareOp op) r) (hs:OpS X r opD) (ha:PVw X a fa) (hb:PVw X b fb) (hm:behindInMarks op b=false):PV X (.Compare a [op] [b] pos) (zE opD fa fb):=by
 obtain ⟨ta,pa,ha⟩:=ha
 obtain ⟨tb,pb,hb⟩:=hb
 exact ⟨_,pe_cmpR ho pa pb hm,pv_tOp hs (a:=a) (b:=b) ha hb⟩
theorem wW (ho:OpR X (compareOp op) r) (hs:OpS X r opD) (ha:PVw X a fa) (hb:PVw X b fb) (hm:behindInMarks op b=false):PTv X (.Compare a [op] [b] pos) (zT (zE opD fa fb)):=by
 obtain ⟨ta,pa,ha⟩:=ha
 obtain ⟨tb,pb,hb⟩:=hb
 refine ⟨_,pt_cmpR ho pa pb hm,fun H₀ H O σ ds hd k Q o e q=>?_⟩
 obtain ⟨d,h,e⟩:=bnd e
 refine pv_tOp hs (a:=a) (b:=b) ha hb H₀ H O σ ds hd d _ o h fun v H' s r=>?_
 cases d with
 | bl c=>cases e; cases r; exact ⟨_,rfl,q H' s⟩
 | _=>cases e
theorem os_add:OpS X (fun x y H Q=>rI0 (fun i j=>.int (i+j)) x y H Q \/ ∃ i j,x = .str i/\y = .str j/\i.length+j.length<=sizeLine/\Q (.str (i++j)) H) jD:=by
 intro H O x y dx dy d Q ho rx ry e q
 cases dx <;> cases dy <;> first | (simp [jD] at e; done) | skip
 · cases e
   rw [rx.int',ry.int']
   exact .inl ⟨_,_,rfl,rfl,q _ H (Same.refl _) (.int _)⟩
 · rename_i x y
   simp only [jD] at e
   split at e
   · rename_i hl
     cases e
     rw [rx.str',ry.str']
     exact .inr ⟨_,_,rfl,rfl,hl,q _ H (Same.refl _) (.str _)⟩
   · cases e
theorem op_addU:OpR X (binaryOp .Add) (fun x y H Q=>rI0 (fun i j=>.int (i+j)) x y H Q \/ ∃ i j,x = .str i/\y = .str j/\i.length+j.length<=sizeLine/\Q (.str (i++j)) H):=op_add.or op_add_str
theorem os_sub:OpS X (rI0 fun i j=>.int (i - j)) subD:=by
 intro H O x y dx dy d Q ho rx ry e q
 cases dx <;> cases dy <;> first | (simp [subD] at e; done) | skip
 cases e
 rw [rx.int',ry.int']
 exact ⟨_,_,rfl,rfl,q _ H (Same.refl _) (.int _)⟩
def CDivB (i j:Int):Prop:=divOk j
theorem op_fdivB:OpR X (binaryOp .FloorDiv) (rI CDivB fun i j=>.int (i / j)):=opI fun i j _ _ _ _ _ hc q=>by
 have e:i.fdiv j=i / j:=Int.fdiv_eq_ediv_of_nonneg _ (Int.le_of_lt hc.1)
 refine floordiv_int (by have:=hc.1; lia) ?_ (.inl (PyProof.noPylong_of_log2 hc.2))
 rw [e]; exact q
theorem os_fdiv:OpS X (rI CDivB fun i j=>.int (i / j)) jK:=by
 intro H O x y dx dy d Q ho rx ry e q
 cases dx <;> cases dy <;> first | (simp [jK] at e; done) | skip
 simp only [jK] at e
 split at e
 · rename_i hc
   cases e
   rw [rx.int',ry.int']
   exact ⟨_,_,rfl,rfl,hc,q _ H (Same.refl _) (.int _)⟩
 · cases e
theorem os_mod:OpS X (rI (fun _ j=>0 < j) fun i j=>.int (i % j)) yB:=by
 intro H O x y dx dy d Q ho rx ry e q
 cases dx <;> cases dy <;> first | (simp [yB] at e; done) | skip
 simp only [yB] at e
 split at e
 · rename_i hc
   cases e
   rw [rx.int',ry.int']
   exact ⟨_,_,rfl,rfl,hc,q _ H (Same.refl _) (.int _)⟩
 · cases e
theorem wG:OpS X (rI0 fun i j=>.bl (p i j)) (cmpI p):=by
 intro H O x y dx dy d Q ho rx ry e q
 cases dx <;> cases dy <;> first | (simp [cmpI] at e; done) | skip
 cases e
 rw [rx.int',ry.int']
 exact ⟨_,_,rfl,rfl,q _ H (Same.refl _) (.bl _)⟩
end
section
theorem PV.t (h:PV X e f) (he:∀ whole,isTrue e X.env whole=(do let v <- whole; standAt e.pos; holding [v] (truthy v)):=by intro _; rfl):PTv X e (zT f):=by
 obtain ⟨t,ht,hf⟩:=h
 refine ⟨_,pt_val ht he,fun H₀ H O σ ds hd k Q o e q=>?_⟩
 unfold zT at e
 obtain ⟨d,h,e⟩:=bnd e
 refine hf H₀ H O σ ds hd d _ o h fun v H' s r=>?_
 cases d with
 | bl c=>cases e; cases r; exact ⟨_,rfl,q H' s⟩
 | _=>cases e
theorem vU (ha:PTv X a c):PWv X (.BoolOp .And [a] pos) c:=by
 obtain ⟨t,ht,hf⟩:=ha
 exact ⟨_,pw_and1 ht,hf⟩
theorem yX (ha:PTv X a c):PWv X (.BoolOp .Or [a] pos) c:=by
 obtain ⟨t,ht,hf⟩:=ha
 exact ⟨_,pw_or1 ht,hf⟩
theorem vJ {rest:List Expr} (ha:PTv X a c) (hb:PWv X (.BoolOp .And (b::rest) pos) d):PWv X (.BoolOp .And (a::b::rest) pos) (andT c d):=by
 obtain ⟨t,ht,hf⟩:=ha
 obtain ⟨u,hu,hg⟩:=hb
 refine ⟨_,pw_and ht hu,fun H₀ H O σ ds hd k Q o e q=>?_⟩
 obtain ⟨b,h,e⟩:=bnd e
 refine hf H₀ H O σ ds hd b _ o h fun H' s=>?_
 cases b with
 | true=>exact iteT (hg H₀ H' O σ ds hd k Q (o.mono s) (by simpa using e) fun H'' s'=>q H'' (s.trans s'))
 | false =>
   have:false=k:=by simpa using e
   subst this
   exact iteF (q H' s)
theorem yN {rest:List Expr} (ha:PTv X a c) (hb:PWv X (.BoolOp .Or (b::rest) pos) d):PWv X (.BoolOp .Or (a::b::rest) pos) (orT c d):=by
 obtain ⟨t,ht,hf⟩:=ha
 obtain ⟨u,hu,hg⟩:=hb
 refine ⟨_,pw_or ht hu,fun H₀ H O σ ds hd k Q o e q=>?_⟩
 obtain ⟨b,h,e⟩:=bnd e
 refine hf H₀ H O σ ds hd b _ o h fun H' s=>?_
 cases b with
 | false=>exact iteF (hg H₀ H' O σ ds hd k Q (o.mono s) (by simpa using e) fun H'' s'=>q H'' (s.trans s'))
 | true =>
   have:true=k:=by simpa using e
   subst this
   exact iteT (q H' s)
theorem PWv.t (h:PWv X e c):PTv X e c:=by
 obtain ⟨t,ht,hf⟩:=h
 exact ⟨t,ht.pt,hf⟩
theorem xJ (ha:PTv X a c):PTv X (.UnaryOp .Not a pos) (notT c):=by
 obtain ⟨t,ht,hf⟩:=ha
 refine ⟨_,pt_not ht,fun H₀ H O σ ds hd k Q o e q=>?_⟩
 obtain ⟨b,h,rfl⟩:=mpd e
 exact hf H₀ H O σ ds hd b _ o h fun H' s=>q H' s
theorem wU {op} (ha:PV X a f):PV X (.BoolOp op [a] pos) f:=by
 obtain ⟨t,ht,hf⟩:=ha
 exact ⟨_,pe_one ht,hf⟩
theorem wQ {rest:List Expr} (ha:PV X a f) (hb:PV X (.BoolOp .And (b::rest) pos) g):PV X (.BoolOp .And (a::b::rest) pos) (andV f g):=by
 obtain ⟨t,ht,hf⟩:=ha
 obtain ⟨u,hu,hg⟩:=hb
 refine ⟨_,pe_and ht hu,fun H₀ H O σ ds hd d Q o e q=>?_⟩
 obtain ⟨dd,h,e⟩:=bnd e
 refine hf H₀ H O σ ds hd dd _ o h fun v H' s r=>?_
 cases dd with
 | bl c =>
   cases r
   cases c with
   | true=>exact ⟨true,rfl,iteT (hg H₀ H' O σ ds hd d Q (o.mono s) e fun v H'' s'=>q v H'' (s.trans s'))⟩
   | false =>
     have:=Option.some.inj e
     subst this
     exact ⟨false,rfl,iteF (q _ H' s (.bl false))⟩
 | _=>cases e
theorem pv_or {rest:List Expr} (ha:PV X a f) (hb:PV X (.BoolOp .Or (b::rest) pos) g):PV X (.BoolOp .Or (a::b::rest) pos) (orV f g):=by
 obtain ⟨t,ht,hf⟩:=ha
 obtain ⟨u,hu,hg⟩:=hb
 refine ⟨_,pe_or ht hu,fun H₀ H O σ ds hd d Q o e q=>?_⟩
 obtain ⟨dd,h,e⟩:=bnd e
 refine hf H₀ H O σ ds hd dd _ o h fun v H' s r=>?_
 cases dd with
 | bl c =>
   cases r
   cases c with
   | false=>exact ⟨false,rfl,iteF (hg H₀ H' O σ ds hd d Q (o.mono s) e fun v H'' s'=>q v H'' (s.trans s'))⟩
   | true =>
     have:=Option.some.inj e
     subst this
     exact ⟨true,rfl,iteT (q _ H' s (.bl true))⟩
 | _=>cases e
theorem pv_not (ha:PV X a f):PV X (.UnaryOp .Not a pos) (notV f):=by
 obtain ⟨t,ht,hf⟩:=ha
 refine ⟨_,pe_not ht,fun H₀ H O σ ds hd d Q o e q=>?_⟩
 obtain ⟨dd,h,e⟩:=bnd e
 refine hf H₀ H O σ ds hd dd _ o h fun v H' s r=>?_
 cases dd with
 | bl c=>cases r; cases e; exact ⟨c,rfl,q _ H' s (.bl _)⟩
 | _=>cases e
theorem pv_if (hc:PTv X c fc) (ha:PV X a f) (hb:PV X b g):PV X (.IfExp c a b pos) (ifV fc f g):=by
 obtain ⟨tc,pc,hc⟩:=hc
 obtain ⟨t,ht,hf⟩:=ha
 obtain ⟨u,hu,hg⟩:=hb
 refine ⟨_,pe_ifExp pc ht hu,fun H₀ H O σ ds hd d Q o e q=>?_⟩
 obtain ⟨k,h,e⟩:=bnd e
 refine hc H₀ H O σ ds hd k _ o h fun H' s=>?_
 cases k with
 | true=>exact iteT (hf H₀ H' O σ ds hd d Q (o.mono s) (by simpa using e) fun v H'' s'=>q v H'' (s.trans s'))
 | false=>exact iteF (hg H₀ H' O σ ds hd d Q (o.mono s) (by simpa using e) fun v H'' s'=>q v H'' (s.trans s'))
theorem qW:PAv X [] zP:=⟨_,jW,fun _ H _ _ _ _ _ _ _ e q=>by cases e; exact q _ H (Same.refl _) .nil⟩
theorem zR:PAs X [] zP:=⟨_,jW,fun _ H _ _ _ _ _ _ _ e q=>by cases e; exact q _ H (Same.refl _) .nil⟩
theorem qL (ha:PVw X e f) (hr:PAv X es g) (hs:starEach (e::es) X.env=(false,eval e X.env)::starEach es X.env:=by rfl):PAv X (e::es) (zB f g):=by
 obtain ⟨t,ht,hf⟩:=ha
 obtain ⟨u,hu,hg⟩:=hr
 refine ⟨_,qO ht hu hs,fun H₀ H O σ ds hd l Q o e q=>?_⟩
 obtain ⟨x,h,e⟩:=bnd e
 obtain ⟨r,h2,rfl⟩:=mpd e
 refine hf H₀ H O σ ds hd x _ o h fun v H1 s1 r1=>?_
 refine hg H₀ H1 O σ ds hd r _ (o.mono s1) h2 fun vs H2 s2 r2=>?_
 exact q _ H2 (s1.trans s2) (.cons (r1.mono s2) r2)
theorem zG (ha:PV X e f) (hr:PAs X es g) (hs:starEach (e::es) X.env=(false,eval e X.env)::starEach es X.env:=by rfl):PAs X (e::es) (zB f g):=by
 obtain ⟨t,ht,hf⟩:=ha
 obtain ⟨u,hu,hg⟩:=hr
 refine ⟨_,qO ht hu hs,fun H₀ H O σ ds hd l Q o e q=>?_⟩
 obtain ⟨x,h,e⟩:=bnd e
 obtain ⟨r,h2,rfl⟩:=mpd e
 refine hf H₀ H O σ ds hd x _ o h fun v H1 s1 r1=>?_
 refine hg H₀ H1 O σ ds hd r _ (o.mono s1) h2 fun vs H2 s2 r2=>?_
 exact q _ H2 (s1.trans s2) (.cons (r1.mono s2) r2)
theorem qB (h:H p=none) o:Same H (upd H p o):=fun b u q=>by rw [upd_ne (jO q h)]; exact q
theorem qU (h:PAs X es g):PVf X (.List es pos) (zU g):=by
 obtain ⟨t,ht,hf⟩:=h
 refine ⟨_,pe_lst ht,fun H₀ H O σ ds hd l Q o e q=>?_⟩
 unfold zU at e
 cases h:g ds with
 | none=>rw [h] at e; cases e
 | some l' =>
   rw [h] at e
   simp only [Option.bind_some] at e
   split at e
   · rename_i hl
     cases e
     refine hf H₀ H O σ ds hd l _ o h fun vs H1 s1 r1=>⟨by rw [r1.length]; exact hl,fun p hp=>?_⟩
     refine q p vs _ (s1.trans (qB hp _)) (s1.free hp) upd_same ?_
     exact (r1.more hp).mono (qB hp _)
   · cases e
theorem jR {x1} (h:PAs X es g):PV X (.Tuple es x1 pos) (mkT (zU g)):=by
 obtain ⟨t,ht,hf⟩:=h
 refine ⟨_,pe_tup ht,fun H₀ H O σ ds hd d Q o e q=>?_⟩
 unfold mkT zU at e
 cases h:g ds with
 | none=>rw [h] at e; cases e
 | some l' =>
   rw [h] at e
   simp only [Option.bind_some] at e
   split at e
   · rename_i hl
     cases e
     refine hf H₀ H O σ ds hd l' _ o h fun vs H1 s1 r1=>⟨by rw [r1.length]; exact hl,fun p hp=>?_⟩
     refine q _ _ (s1.trans (qB hp _)) ?_
     exact .tup ((o.mono s1).free hp) (.inl upd_same) (r1.mono (qB hp _))
   · cases e
theorem atI_rep {K:Frag} (r:Reps K H O xs l) (e:atI l i=some d):∃ v,atI xs i=some v/\Rep K H O v d:=by
 unfold atI at e ⊢
 rw [r.length]
 cases h:ixN l.length i with
 | none=>rw [h] at e; cases e
 | some j =>
   rw [h] at e
   exact r.get e
theorem ix_sem {K:Frag} (rx:WRep K H O x dx) (ry:WRep K H O y dy) (e:ixD dx dy=some d) (q:∀ v H',Same H H'->Rep K H' O v d->Q v H'):rIx K x y H Q:=by
 cases dx <;> cases dy <;> first | (simp [ixD] at e; done) | skip
 · simp only [ixD] at e
   split at e
   · rename_i hl
     rw [rx.str',ry.int']
     obtain ⟨c,hc,rfl⟩:=mpd e
     exact .inr (.inr ⟨_,_,c,rfl,rfl,hl,hc,q _ H (Same.refl _) (.str _)⟩)
   · cases e
 · obtain ⟨a, xs, rfl, hs, r⟩ := rx.seqT
   rw [ry.int']
   obtain ⟨v,h1,h2⟩:=atI_rep r e
   exact .inr (.inl ⟨a,xs,_,v,rfl,rfl,hs,h1,q _ H (Same.refl _) h2⟩)
 · obtain ⟨a, xs, rfl, hs, r⟩ := rx.seqL
   rw [ry.int']
   obtain ⟨v,h1,h2⟩:=atI_rep r e
   exact .inl ⟨a,xs,_,v,rfl,rfl,hs,h1,q _ H (Same.refl _) h2⟩
theorem os_ix:OpS X (rIx X.K) ixD:=fun H O x y dx dy d Q ho rx ry e q=>ix_sem rx ry e q
theorem zY (ha:PVw X a fa) (hb:PVw X b fb) (hs:PlainIx b:=by exact fun _ _=>rfl):PV X (.Subscript a b pos) (zE ixD fa fb):=by
 obtain ⟨ta,pa,ha⟩:=ha
 obtain ⟨tb,pb,hb⟩:=hb
 exact ⟨_,pe_ix ix_seq pa pb hs,pv_tOp os_ix (a:=a) (b:=b) ha hb⟩
end
noncomputable def RetOk (K:Frag) (H H':Hp) (v:V):Ret->Prop
 | .val d=>Rep K H' (Old H) v d
 | .fresh l=>∃ a xs,v = .ref a/\H a=none/\H' a=some (.lst xs)/\Reps K H' (ins1 a (Old H)) xs l
 | .any d=>Rep K H' jY v d
 | .obj t=>∃ fs,RepO K H' (fun b=>b∈fs \/ Old H b) v t fs/\fs.Nodup/\∀ b∈fs,H b=none
noncomputable def RetB (K:Frag) (H:Hp) (hd:Hold) (v:V):Ret->Prop
 | .any d=>∀ B,HI.base B∈hd->Rep K H B v d
 | _=>True
noncomputable def spF (K:Frag) (n:Nat) (F:List D->Option Ret):Sp:=fun vs H Q _=>vs.length=n/\∃ ds r,Reps K H jY vs ds/\F ds=some r/\∀ v H',Same H H'->RetOk K H H' v r->Q v H'
section
variable {X:Cx}
theorem retV_ok {K:Frag} (h:RetOk K H H' v r) (e:retV r=some d) (ho:∀ a,O a->Old H a):Rep K H' O v d:=by
 cases r with
 | any d'=>cases e
 | val d'=>cases e; exact h.less ho
 | obj t =>
   cases e
   obtain ⟨fs,h1,h2,h3⟩:=h
   refine h1.val' fun a z=>⟨.inr (ho a z),fun q=>?_⟩
   obtain ⟨o,e,_⟩:=ho a z
   rw [h3 a q] at e; cases e
 | fresh l =>
   cases e
   obtain ⟨a,xs,rfl,h1,h2,h3⟩:=h
   refine .lst (fun z=>?_) (.inl h2) (h3.less fun b z=>.inr (ho b z))
   obtain ⟨o,e,_⟩:=ho a z
   rw [h1] at e; cases e
theorem retF_ok {K:Frag} (h:RetOk K H H' v r) (e:retF r=some l) (ho:∀ a,O a->Old H a):∃ a xs,v = .ref a/\H a=none/\H' a=some (.lst xs)/\Reps K H' (ins1 a O) xs l:=by
 cases r with
 | any d'=>cases e
 | val d'=>cases e
 | obj t=>cases e
 | fresh l' =>
   cases e
   obtain ⟨a,xs,rfl,h1,h2,h3⟩:=h
   exact ⟨a,xs,rfl,h1,h2,h3.less fun b z=>z.elim .inl fun z=>.inr (ho b z)⟩
section
end
def CallS (X:Cx) (r:List V->Hp->VK->Prop) (F:List D->Option D):Prop:=∀ H O vs l d Q,(∀ a,O a->∃ u:MutHO,H a=some u.1)->Paired (WRep X.K H O) vs l->F l=some d->(∀ v H',Same H H'->Rep X.K H' O v d->Q v H')->r vs H Q
theorem xT {id:String} (hc:CallR X (.builtin id) r) (hs:CallS X r F) (hm:X.mg x=none) (hv:bootBuiltins x=some (.builtin id)) (ha:PAv X (e::es) g)
  (hg:Gl X x) (hn:x≠"__name__":=by decide) (hdb:(x == ("__debug__" : Str))=false:=by decide) (he:starEach (e::es) X.env=(false,eval e X.env)::starEach es X.env:=by rfl) (hpl:(backTo pos (starEach es X.env)).any (·.1)=false:=by rfl) :
  PV X (.Call (.Name x p) (e::es) [] pos) (callB F g):=by
 obtain ⟨t,ht,hf⟩:=ha
 refine ⟨_,yA hc hg hm hv ht hn hdb he hpl,fun H₀ H O σ ds hd d Q o e q=>?_⟩
 obtain ⟨l,h,e⟩:=bnd e
 refine hf H₀ H O σ ds hd l _ o h fun vs H1 s1 r1=>?_
 exact hs H1 O vs l d Q (o.mono s1).dom r1 e fun v H' s' r=>q v H' (s1.trans s') r
theorem call_lenU:CallR X (.builtin "len") (fun xs H Q=>(∃ p ys,xs=[.ref p]/\(SqL X.K H p ys \/ SqT X.K H p ys)/\Q (.int ys.length) H) \/ ∃ z,xs=[.str z]/\z.length<=sizeLine/\Q (.int z.length) H):=call_len_seq.or call_len_str
theorem cs_len:CallS X (fun xs H Q=>(∃ p ys,xs=[.ref p]/\(SqL X.K H p ys \/ SqT X.K H p ys)/\Q (.int ys.length) H) \/ ∃ z,xs=[.str z]/\z.length<=sizeLine/\Q (.int z.length) H) lenD:=by
 intro H O vs l d Q ho r e q
 unfold lenD at e
 split at e
 · cases e
   cases r with
   | cons r rn =>
     cases rn
     obtain ⟨a,xs,rfl,hs,rs⟩:=r.seqL
     refine .inl ⟨a,xs,rfl,.inl hs,?_⟩
     rw [rs.length]
     exact q _ H (Same.refl _) (.int _)
 · cases e
   cases r with
   | cons r rn =>
     cases rn
     obtain ⟨a,xs,rfl,hs,rs⟩:=r.seqT
     refine .inl ⟨a,xs,rfl,.inr hs,?_⟩
     rw [rs.length]
     exact q _ H (Same.refl _) (.int _)
 · split at e
   · rename_i hl
     cases e
     cases r with
     | cons r rn =>
       cases rn
       rw [r.str']
       exact .inr ⟨_,rfl,hl,q _ H (Same.refl _) (.int _)⟩
   · cases e
 · cases e
theorem xD (hm:X.mg "len" = none) (ha:PAv X [e] g) (hg:Gl X "len":=by rfl) (he:starEach [e] X.env=[(false,eval e X.env)]:=by rfl) :
  PV X (.Call (.Name "len" p) [e] [] pos) (callB lenD g):=xT call_lenU cs_len hm PySem.boot_len ha hg (by decide) (by decide) he rfl
noncomputable def After (X:Cx) (H₀ : Hp) (hd:Hold) (E:Ends):Out->Prop
 | .nx ds=>∀ σ H O,Ok X.K H₀ H O σ ds hd->E.nx σ H
 | .bk ds=>∀ σ H O,Ok X.K H₀ H O σ ds hd->E.bk σ H
 | .ct ds=>∀ σ H O,Ok X.K H₀ H O σ ds hd->E.ct σ H
 | .rt r=>∀ v H,Same H₀ H->RetOk X.K H₀ H v r->RetB X.K H hd v r->E.rt v H
variable (X) in
def PSv (st:Stmt) (g:FS):Prop:=∃ t,PS X st t/\∀ H₀ H O σ ds hd out E,Ok X.K H₀ H O σ ds hd->g ds=some out->After X H₀ hd E out->t E σ H
variable (X) in
def PSsv (st:List Stmt) (g:FS):Prop:=∃ t,PSs X st t/\∀ H₀ H O σ ds hd out E,Ok X.K H₀ H O σ ds hd->g ds=some out->After X H₀ hd E out->t E σ H
theorem qC:PSsv X [] jS:=⟨_,pss_nil,fun _ H O σ ds hd out E o e h=>by cases e; exact h σ H O o⟩
theorem zD {st:Stmt} {rest:List Stmt} (h1:PSv X st f) (h2:PSsv X rest g):PSsv X (st::rest) (qH f g):=by
 obtain ⟨t,ht,hf⟩:=h1
 obtain ⟨u,hu,hg⟩:=h2
 refine ⟨_,yG ht hu,fun H₀ H O σ ds hd out E o e h=>?_⟩
 obtain ⟨o1,h1,e⟩:=bnd e
 refine hf H₀ H O σ ds hd o1 _ o h1 ?_
 cases o1 with
 | nx ds'=>exact fun σ' H' O' o'=>hg H₀ H' O' σ' ds' hd out E o' e h
 | rt r=>cases e; exact h
 | bk ds'=>cases e; exact h
 | ct ds'=>cases e; exact h
theorem zH {st:Stmt} (h1:PSv X st f):PSsv X [st] f:=by
 obtain ⟨t,ht,hf⟩:=h1
 exact ⟨_,kG ht,hf⟩
theorem qT (hc:PTv X c fc) (ha:PSsv X a f) (hb:PSsv X b g):PSv X (.If c a b pos) (ifG fc f g):=by
 obtain ⟨tc,pc,hc⟩:=hc
 obtain ⟨t,ht,hf⟩:=ha
 obtain ⟨u,hu,hg⟩:=hb
 refine ⟨_,ps_if pc ht hu,fun H₀ H O σ ds hd out E o e h=>?_⟩
 obtain ⟨k,h1,e⟩:=bnd e
 refine hc H₀ H O σ ds hd k _ o h1 fun H' s=>?_
 cases k with
 | true=>exact iteT (hf H₀ H' O σ ds hd out E (o.mono s) (by simpa using e) h)
 | false=>exact iteF (hg H₀ H' O σ ds hd out E (o.mono s) (by simpa using e) h)
theorem qA (hN:X.N.Nodup) (he:PV X e f) (hi:X.N[i]? = some x:=by rfl) (hx:Loc X.env.scope x:=by first | exact Or.inl rfl | exact Or.inr rfl) (hs:swapsWith e (some (.Name x pos')) pos.line X.env=pure false:=by rfl)
  (hf:X.fn x=true \/ X.env.scope.names.lookup x=some .local:=by first | exact .inl rfl | exact .inr rfl):PSv X (.Assign [.Name x pos'] e pos) (yK i f):=by
 obtain ⟨t,ht,hg⟩:=he
 refine ⟨_,wP hN hi hx ht hs hf,fun H₀ H O σ ds hd out E o e h=>?_⟩
 obtain ⟨d,h1,rfl⟩:=mpd e
 exact hg H₀ H O σ ds hd d _ o h1 fun v H' s r=>h _ _ _ ((o.mono s).set r)
theorem vS (hN:X.N.Nodup) (he:PVf X e f) (hi:X.N[i]? = some x:=by rfl) (hx:Loc X.env.scope x:=by first | exact Or.inl rfl | exact Or.inr rfl) (hs:swapsWith e (some (.Name x pos')) pos.line X.env=pure false:=by rfl)
  (hf:X.fn x=true \/ X.env.scope.names.lookup x=some .local:=by first | exact .inl rfl | exact .inr rfl):PSv X (.Assign [.Name x pos'] e pos) (setOG i f):=by
 obtain ⟨t,ht,hg⟩:=he
 refine ⟨_,wP hN hi hx ht hs hf,fun H₀ H O σ ds hd out E o e h=>?_⟩
 obtain ⟨l,h1,rfl⟩:=mpd e
 exact hg H₀ H O σ ds hd l _ o h1 fun a xs H' s hn he r=>h _ _ _ (o.setO s hn he r)
theorem qD (he:PVw X e f):PSv X (.Return (some e) pos) (retG f):=by
 obtain ⟨t,ht,hg⟩:=he
 refine ⟨_,wR ht,fun H₀ H O σ ds hd out E o e h=>?_⟩
 obtain ⟨d,h1,e⟩:=bnd e
 simp only [Option.bind_some,flatR] at e
 split at e
 · rename_i hf
   cases e
   exact hg H₀ H O σ ds hd d _ o h1 fun v H' s r=>h _ _ (o.same.trans s) (Rep.flatten (fun a z=>Old.mono (o.same.trans s) z) hf r.any) True.intro
 · cases e
theorem vX (he:PVf X e f):PSv X (.Return (some e) pos) (retOG f):=by
 obtain ⟨t,ht,hg⟩:=he
 refine ⟨_,wR ht,fun H₀ H O σ ds hd out E o e h=>?_⟩
 obtain ⟨l,h1,e⟩:=bnd e
 simp only [Option.bind_some,flatF] at e
 split at e
 · rename_i hf
   cases e
   refine hg H₀ H O σ ds hd l _ o h1 fun a xs H' s hn he r=>h _ _ (o.same.trans s) ⟨a,xs,rfl,o.same.free hn,he,Reps.flatten (fun b z=>?_) hf r⟩ True.intro
   rcases z with rfl | z
   · exact ⟨_,he,rfl⟩
   · exact Old.mono (o.same.trans s) z
 · cases e
theorem psv_retX i (hN:X.N[i]? = some x:=by rfl) (hv:Vis X.env.scope x:=by first | exact Or.inl rfl | exact Or.inr (Or.inl rfl) | exact Or.inr (Or.inr rfl)) (hd:(x == ("__debug__" : Str))=false:=by decide)
  (hcd:(x == ("__classdict__" : Str))=false:=by decide):PSv X (.Return (some (.Name x pos')) pos) (retXG i):=by
 refine ⟨_,wR (jG hN hv hd hcd),fun H₀ H O σ ds hd out E o e h=>?_⟩
 unfold retXG at e
 cases hs:ds[i]? with
 | none=>rw [hs] at e; cases e
 | some s =>
   rw [hs] at e
   cases s with
   | v d'=>cases e
   | no=>cases e
   | exc _=>cases e
   | exf _ _=>cases e
   | fr _=>cases e
   | ob _ _=>cases e
   | own l =>
     simp only [flatF] at e
     split at e
     · rename_i hf
       cases e
       obtain ⟨a,xs,h1,h2,h3,h4⟩:=o.readO hs
       refine ⟨.ref a,h1,h _ _ o.same ⟨a,xs,rfl,o.fresh i l a hs h1,h3,Reps.flatten (fun b z=>?_) hf h4⟩ True.intro⟩
       rcases z with rfl | z
       · exact ⟨_,h3,rfl⟩
       · exact Old.mono o.same z
     · cases e
theorem psv_put (he:PV X e fe) (hk:PV X ek fk) (hN:X.N[i]? = some x:=by rfl) (hv:Vis X.env.scope x:=by first | exact Or.inl rfl | exact Or.inr (Or.inl rfl) | exact Or.inr (Or.inr rfl)) (hd:(x == ("__debug__" : Str))=false:=by decide)
  (hcd:(x == ("__classdict__" : Str))=false:=by decide)
  (ha:∀ v,assign (.Subscript (.Name x p1) ek p2) X.env v=(do
    let ov <- holding [v] (eval (.Name x p1) X.env)
    let iv <- holding [v,ov] (eval ek X.env)
    standAt p2
    holding [v,ov,iv] (setItem ov iv v)
    release [v,ov,iv] []):=by intro _; rfl)
  (hs:swapsWithSole [.Subscript (.Name x p1) ek p2] e pos.line X.env=pure false:=by rfl) (hw:swappedStores [.Subscript (.Name x p1) ek p2] e X.env=pure none:=by rfl)
  (h1:(assignEach [.Subscript (.Name x p1) ek p2] X.env).map (·.2)=[assign (.Subscript (.Name x p1) ek p2) X.env]:=by rfl):PSv X (.Assign [.Subscript (.Name x p1) ek p2] e pos) (putG i fk fe):=by
 obtain ⟨te,pe,he⟩:=he
 obtain ⟨tk,pk,hk⟩:=hk
 refine ⟨_,ps_asg pe (pg_sub (jG hN hv hd hcd) pk set_list ha) hs hw h1,fun H₀ H O σ ds hd out E o e h=>?_⟩
 unfold putG at e
 cases hsl:ds[i]? with
 | none=>rw [hsl] at e; cases e
 | some s =>
   rw [hsl] at e
   cases s with
   | v d'=>cases e
   | no=>cases e
   | exc _=>cases e
   | exf _ _=>cases e
   | fr _=>cases e
   | ob _ _=>cases e
   | own l =>
     obtain ⟨d,h1,e⟩:=bnd e
     obtain ⟨kd,h2,e⟩:=bnd e
     cases kd with
     | int n =>
       obtain ⟨j,h3,rfl⟩:=mpd e
       refine he H₀ H O σ ds hd d _ o h1 fun v H1 s1 r1=>?_
       obtain ⟨a,xs,q1,q2,q3,q4⟩:=(o.mono s1).readO hsl
       refine ⟨.ref a,q1,?_⟩
       refine hk H₀ H1 O σ ds hd _ _ (o.mono s1) h2 fun kv H2 s2 r2=>?_
       cases r2
       refine ⟨a,xs,n,j,rfl,rfl,s2 _ _ q3,by rw [q4.length]; exact h3,?_⟩
       exact h _ _ _ (((o.mono s1).mono s2).modify hsl q1 ((q4.mono s2).set (r1.mono s2) j))
     | _=>cases e
theorem vM (he:PV X e fe) (hN:X.N[i]? = some x:=by rfl) (hv:Vis X.env.scope x:=by first | exact Or.inl rfl | exact Or.inr (Or.inl rfl) | exact Or.inr (Or.inr rfl)) (hd:(x == ("__debug__" : Str))=false:=by decide)
  (hcd:(x == ("__classdict__" : Str))=false:=by decide)
  (hfew:((backTo p3 (starEach [e] X.env)).all (fun x=>!x.1) && (backToKw p3 (keywordEach [] X.env)).all (fun x=>x.1.isSome)
    && decide ([e].length+([]:List Keyword).length+(if ([]:List Keyword).isEmpty then 0 else 1) < 30))=true:=by rfl)
  (hline:(p2.endLine == p3.line)=true:=by rfl) (hs:starEach [e] X.env=(false,eval e X.env)::starEach [] X.env:=by rfl)
  (hbase:attributeBase (.Name x p1) "append" X.env (eval (.Name x p1) X.env)=eval (.Name x p1) X.env:=by rfl) (hsw:swapsWith (.Call (.Attribute (.Name x p1) "append" p2) [e] [] p3) none pos.line X.env=pure false:=by rfl) :
  PSv X (.Expr (.Call (.Attribute (.Name x p1) "append" p2) [e] [] p3) pos) (appG i fe):=by
 obtain ⟨te,pe,he⟩:=he
 refine ⟨_,ps_expr (pe_bm PySem.F.plainAttrs_list PySem.F.slot_list_append PySem.F.type_list_append mt_append (jG hN hv hd hcd) (qO pe jW hs) hbase hfew hline hs rfl) hsw,fun H₀ H O σ ds hd out E o e h=>?_⟩
 unfold appG at e
 cases hsl:ds[i]? with
 | none=>rw [hsl] at e; cases e
 | some s =>
   rw [hsl] at e
   cases s with
   | v d'=>cases e
   | no=>cases e
   | exc _=>cases e
   | exf _ _=>cases e
   | fr _=>cases e
   | ob _ _=>cases e
   | own l =>
     obtain ⟨d,h1,e⟩:=bnd e
     split at e
     · rename_i hl
       cases e
       obtain ⟨a,xs,q1,q2,q3,q4⟩:=o.readO hsl
       refine ⟨.ref a,q1,.inl ⟨rfl,xs,SqL.of q3⟩,?_⟩
       refine he H₀ H O σ ds hd d _ o h1 fun v H1 s1 r1=>?_
       refine ⟨a,xs,v,rfl,rfl,s1 _ _ q3,by rw [q4.length]; exact hl,?_⟩
       exact h _ _ _ ((o.mono s1).modify hsl q1 ((q4.mono s1).append (.cons r1 .nil)))
     · cases e
theorem args_ob n ds (i:Nat) r t:(args n ds)[i]?≠some (.ob r t):=fun e=>by
 unfold args at e
 by_cases hi:i < ds.length
 · rw [List.getElem?_append_left (by simpa using hi), List.getElem?_map] at e
   cases h:ds[i]? with
   | none=>rw [h] at e; cases e
   | some d=>rw [h] at e; cases e
 · rw [List.getElem?_append_right (by simpa using hi), List.getElem?_replicate] at e
   split at e <;> cases e
theorem ok_start {K:Frag} (r:Reps K H jY vs ds):Ok K H H jY (L2.start N vs) (args N.length ds) []:=by
 have hl:=r.length
 have no:∀ i,IsOwn (args N.length ds) i->False:=fun i ⟨l,e⟩=>by
  unfold args at e
  by_cases hi:i < ds.length
  · rw [List.getElem?_append_left (by simpa using hi), List.getElem?_map] at e
    cases h:ds[i]? with
    | none=>rw [h] at e; cases e
    | some d=>rw [h] at e; cases e
  · rw [List.getElem?_append_right (by simpa using hi), List.getElem?_replicate] at e
    split at e <;> cases e
 refine ⟨Same.refl _,fun i l a e _=>(no i ⟨l,e⟩).elim,fun _ z=>z.elim,by simp [L2.start,args,hl],fun i s e=>?_,fun i j a _ hi _ _ _=>no i hi,(fun p hp=>nomatch hp),.no (args_ob _ _)⟩
 unfold args at e
 unfold L2.start
 by_cases hi:i < ds.length
 · rw [List.getElem?_append_left (by simpa using hi), List.getElem?_map] at e
   rw [List.getElem?_append_left (by simpa [hl] using hi),List.getElem?_map]
   obtain ⟨d,h,rfl⟩:=mpd e
   obtain ⟨v,h1,h2⟩:=r.get h
   rw [h1]
   exact yO h2
 · rw [List.getElem?_append_right (by simpa using hi), List.getElem?_replicate] at e
   split at e
   · cases e; exact qQ
   · cases e
def Does (g:FS) (n:Nat) (ds:List D) (r:Ret):Prop:=g (args n ds)=some (.rt r) \/ (r = .val .non/\∃ ds',g (args n ds)=some (.nx ds'))
theorem qY {K:Frag} {st:Stmt} (Fn:Fun K x qual st f fd) (S:FnScope N ps (zJ st))
  (hbody:∀ cdv A outer s H E,Room k (A.deeper (envOfC qual (zJ st) s.heap.objs.size f cdv))->PSsv (cxOf CX0 P w K mg base N qual (zJ st) f cdv A outer s H E).nox (jE st) g)
  (hg:∀ ds r,ds.length=ps.length->F ds=some r->Does g N.length ds r):FnOk P w K mg base CX0 (k+1) f fd ps (spF K ps.length F):=by
 refine Fn.ok S (fun vs H Q E h=>h.1) (fun cdv A outer s H vs Q E hr h=>?_)
 obtain ⟨hl,ds,r,rv,e,q⟩:=h
 obtain ⟨t,ht,hf⟩:=hbody cdv A outer s H E hr
 refine ⟨t,ht,?_⟩
 have o:=ok_start (N:=N) rv
 rcases hg ds r (by rw [<- rv.length]; exact hl) e with e' | ⟨rfl,ds',e'⟩
 · exact hf H H jY _ _ [] _ _ o e' (fun v H' s r _=>q v H' s r)
 · exact hf H H jY _ _ [] _ _ o e' (fun σ H' O o'=>q .non H' o'.same .non)
end
end FL
namespace L2
open PySem PySem.Spec PyProof.Rows
section
end
end L2
namespace FL
open PySem PySem.Spec PyProof.Rows L2
def Wlk (K:Frag) (J:It) (p:V×D) (items:List D):Prop:=∀ H O,(∀ a,O a->∃ u:MutHO,H a=some u.1)->Rep K H O p.1 p.2 →
 (∀ i d,items[i]? = some d->J.go i H/\∀ x H',J.yld i H x H'->Same H H'/\Rep K H' O x d)/\J.stop items.length H
section
variable {X:Cx}
variable (X) in
def PIv (tg iter:Expr) (fi:FA):Prop:=∃ wi,PI X tg iter wi/\∀ H₀ H O σ ds hd items R,Ok X.K H₀ H O σ ds hd->fi ds=some items →
 (∀ J p H',Same H H'->Rep X.K H' O p.1 p.2->Wlk X.K J p items->R J H')->wi σ H R
theorem wlk_list {K:Frag} : Wlk K (Itl K a) (.ref a,.lst l) l:=by
 intro H O _ r
 obtain ⟨b,xs,e,hs,rs⟩:=WRep.seqL (.inl r)
 cases e
 refine ⟨fun i d hd=>?_,⟨xs,hs,by rw [rs.length]; exact Nat.le_refl _⟩⟩
 obtain ⟨v,h1,h2⟩:=rs.get hd
 refine ⟨⟨xs,v,hs,h1⟩,fun x H' y=>?_⟩
 obtain ⟨rfl,y⟩:=y
 have:=y xs hs
 rw [h1] at this; cases this
 exact ⟨Same.refl _,h2⟩
theorem wlk_tup {K:Frag} : Wlk K (Itt K a) (.ref a,.tup l) l:=by
 intro H O _ r
 obtain ⟨b,xs,e,hs,rs⟩:=WRep.seqT (.inl r)
 cases e
 refine ⟨fun i d hd=>?_,⟨xs,hs,by rw [rs.length]; exact Nat.le_refl _⟩⟩
 obtain ⟨v,h1,h2⟩:=rs.get hd
 refine ⟨⟨xs,v,hs,h1⟩,fun x H' y=>?_⟩
 obtain ⟨rfl,y⟩:=y
 have:=y xs hs
 rw [h1] at this; cases this
 exact ⟨Same.refl _,h2⟩
theorem wlk_range {K:Frag} {lo:Int} : Wlk K (Itr lo n) (.non,.non) (rangeD lo n):=by
 intro H O _ r
 have hl:(rangeD lo n).length=n:=by simp [rangeD]
 refine ⟨fun i d hd=>?_,show n<=_ by rw [hl]; exact Nat.le_refl _⟩
 have hi:i < n:=by
  have:=(List.getElem?_eq_some_iff.mp hd).1
  rwa [hl] at this
 refine ⟨hi,fun x H' y=>?_⟩
 obtain ⟨rfl,rfl⟩:=y
 have:d=D.int (lo+(i:Int)):=by
  simp only [rangeD,List.getElem?_map,List.getElem?_range hi,Option.map_some] at hd
  exact (Option.some.inj hd).symm
 subst this
 exact ⟨Same.refl _,.int _⟩
theorem jU (hm:X.mg "range" = none) (h:PV X e f) (hg:Gl X "range":=by rfl) (hs:starEach [e] X.env=[(false,eval e X.env)]:=by rfl):PIv X tg (.Call (.Name "range" p) [e] [] pos) (rng1 f):=by
 obtain ⟨t,ht,hf⟩:=h
 refine ⟨_,pi_range1 hg hm (qO ht jW hs) hs,fun H₀ H O σ ds hd items R o e q=>?_⟩
 obtain ⟨d,h1,e⟩:=bnd e
 cases d with
 | int j =>
   simp only at e
   split at e
   · rename_i hj
     cases e
     refine hf H₀ H O σ ds hd _ _ o h1 fun v H' s r=>?_
     cases r
     exact ⟨j,rfl,hj.1,hj.2,q _ (.non,.non) H' s .non wlk_range⟩
   · cases e
 | _=>cases e
variable (X) in
def PGv (tg:Expr) (ga:D->List Sl->Option (List Sl)):Prop:=∃ g,PG X tg g/\∀ H₀ H O σ ds hd v d ds' Q,Ok X.K H₀ H O σ ds hd->Rep X.K H O v d->ga d ds=some ds'->(∀ σ',Ok X.K H₀ H O σ' ds' hd->Q σ' H)->g v σ H Q
variable (X) in
def PGsv (tgs:List Expr) (ga:List D->List Sl->Option (List Sl)):Prop:=∃ g,PGs X tgs g/\∀ H₀ H O σ ds hd vs l ds' Q,Ok X.K H₀ H O σ ds hd->Reps X.K H O vs l->ga l ds=some ds'->(∀ σ',Ok X.K H₀ H O σ' ds' hd->Q σ' H)->g vs σ H Q
theorem zK (hN:X.N.Nodup) (hi:X.N[i]? = some x:=by rfl) (hx:Loc X.env.scope x:=by first | exact Or.inl rfl | exact Or.inr rfl)
  (hf:X.fn x=true \/ X.env.scope.names.lookup x=some .local:=by first | exact .inl rfl | exact .inr rfl):PGv X (.Name x pos) (zL i) :=
 ⟨_,pg_name hN hi hx hf,fun H₀ H O σ ds hd v d ds' Q o r e q=>by cases e; exact q _ (o.set r)⟩
theorem jT:PGsv X [] tgNil:=⟨_,pgs_nil,fun H₀ H O σ ds hd vs l ds' Q o r e q=>by
 cases r with
 | nil=>cases e; exact ⟨rfl,q _ o⟩
 | cons _ _=>cases e⟩
theorem zQ (h1:PGv X e g) (h2:PGsv X es h)
  (hs:(assignEach (e::es) X.env).map (·.2)=assign e X.env::(assignEach es X.env).map (·.2):=by rfl):PGsv X (e::es) (zO g h):=by
 obtain ⟨t,ht,hf⟩:=h1
 obtain ⟨u,hu,hg⟩:=h2
 refine ⟨_,pgs_cons ht hu hs,fun H₀ H O σ ds hd vs l ds' Q o r e q=>?_⟩
 cases r with
 | nil=>cases e
 | cons r1 rr =>
   rename_i v d vr dr
   obtain ⟨ds1,h1,e⟩:=bnd e
   exact ⟨v,vr,rfl,hf H₀ H O σ ds hd v d ds1 _ o r1 h1 fun σ' o'=>hg H₀ H O σ' ds1 hd vr dr ds' Q o' rr e q⟩
theorem yH (hc:X.calm=true) (hh:PGsv X es h)
  (hn:(assignEach es X.env).length=n:=by rfl) (hst:(assignEach es X.env).findIdx? (·.1)=none:=by rfl):PGv X (.Tuple es k pos) (tupG n h):=by
 obtain ⟨t,ht,hf⟩:=hh
 refine ⟨_,pg_tup hc ht hn hst,fun H₀ H O σ ds hd v d ds' Q o r e q=>?_⟩
 cases d with
 | tup l =>
   simp only [tupG] at e
   split at e
   · rename_i hl
     obtain ⟨a,xs,rfl,hs,rs⟩:=WRep.seqT (.inl r)
     exact ⟨a,xs,rfl,hs,by rw [rs.length]; exact hl,hf H₀ H O σ ds hd xs l ds' Q o rs e q⟩
   · cases e
 | _=>cases e
theorem retB_less {K:Frag} (h:RetB K H (q::hd) v r):RetB K H hd v r:=by
 cases r with
 | any d=>exact fun B hB=>h B (List.mem_cons_of_mem _ hB)
 | _=>exact True.intro
theorem yD {iter:Expr} (hp:PassesOwn (model X.prog X.w) X.A X.env X.xe) (hc:X.calm=true) (hi:PIv X tg iter fi) (hg:PGv X tg ga) (hb:PSsv X body g)
  (hs:∀ x,foldedSetIterable iter X.env x=pure x:=by intro _; rfl):PSv X (.For tg iter body [] pos) (forG fi ga g):=by
 obtain ⟨wi,pi,hi⟩:=hi
 obtain ⟨tg',pg,hg⟩:=hg
 obtain ⟨tb,pb,hb⟩:=hb
 refine ⟨_,ps_for hp hc pi pg pb hs,fun H₀ H O σ ds hd out E o e h=>?_⟩
 obtain ⟨items,h1,e⟩:=bnd e
 refine hi H₀ H O σ ds hd items _ o h1 fun J p H' s r wk=>?_
 refine ⟨fun i m σ' H'=>i<=items.length/\m=items.length - i/\∃ O' ds',Ok X.K H₀ H' O' σ' ds' (HI.rep p.1 p.2::hd)/\qN ga g (items.drop i) ds'=some out,⟨items.length,Nat.zero_le _,rfl,O,ds,(o.mono s).holdMore r,by simpa using e⟩,?_⟩
 rintro i m σ1 H1 ⟨hi1,rfl,O1,ds1,o1,e1⟩
 obtain ⟨go,stop⟩:=wk H1 O1 o1.dom (o1.hold (HI.rep p.1 p.2) List.mem_cons_self)
 by_cases hlt:i < items.length
 · right
   have hd0:=List.getElem?_eq_getElem hlt
   obtain ⟨hgo,hy⟩:=go i _ hd0
   rw [List.drop_eq_getElem_cons hlt,qN] at e1
   refine ⟨hgo,fun σ' H'=>i+1<=items.length/\∃ O' ds',Ok X.K H₀ H' O' σ' ds' (HI.rep p.1 p.2::hd)/\qN ga g (items.drop (i+1)) ds'=some out,fun σ' H' ⟨q1,q2⟩=>⟨items.length - (i+1),by lia,q1,rfl,q2⟩,fun x H2 y=>?_⟩
   obtain ⟨s2,r2⟩:=hy x H2 y
   obtain ⟨ds2,h2,e1⟩:=bnd e1
   obtain ⟨o3,h3,e1⟩:=bnd e1
   refine hg H₀ H2 O1 σ1 ds1 (HI.rep p.1 p.2::hd) x _ ds2 _ (o1.mono s2) r2 h2 fun σ' o'=>?_
   refine hb H₀ H2 O1 σ' ds2 (HI.rep p.1 p.2::hd) o3 _ o' h3 ?_
   cases o3 with
   | nx ds3=>exact fun σ3 H3 O3 ok3=>⟨hlt,O3,ds3,ok3,e1⟩
   | ct ds3=>exact fun σ3 H3 O3 ok3=>⟨hlt,O3,ds3,ok3,e1⟩
   | bk ds3=>cases e1; exact fun σ3 H3 O3 ok3=>h σ3 H3 O3 ok3.holdLess
   | rt rr=>cases e1; exact fun v H s r b=>h v H s r (retB_less b)
 · left
   have ei:i=items.length:=by lia
   subst ei
   rw [List.drop_length,qN] at e1
   cases e1
   exact ⟨stop,h σ1 H1 O1 o1.holdLess⟩
variable (X) in
def PFv (ifs:List Expr) (c:FT):Prop:=∃ t,PF X ifs t/\∀ H₀ H O σ ds hd b Q,Ok X.K H₀ H O σ ds hd->c ds=some b->(∀ H',Same H H'->Q b H')->t σ H Q
theorem jV:PFv X [] (fun _=>some true):=⟨_,pf_nil,fun _ H _ _ _ _ _ _ _ e q=>by cases e; exact q H (Same.refl _)⟩
theorem pfv_one (h:PTv X c fc):PFv X [c] fc:=by
 obtain ⟨t,ht,hf⟩:=h
 exact ⟨_,pf_one ht,hf⟩
theorem Ok.inner {K:Frag} (o:Ok K H₀ H O σ ds hd) mp:Ok K H₀ H O (slotsY mp σ) (jA mp ds) hd:=by
 have no:∀ {i:Nat} {l:List D},(jA mp ds)[i]? = some (.own l)->False:=fun {i l} e=>by
  unfold jA at e
  rw [List.getElem?_map] at e
  cases hm:mp[i]? with
  | none=>rw [hm] at e; cases e
  | some m =>
    rw [hm] at e
    simp only [Option.map_some,Option.some.injEq] at e
    cases m with
    | none=>cases e
    | some j =>
      simp only at e
      split at e <;> cases e
 refine ⟨o.same,fun i l a e _=>(no e).elim,o.dom,by simp [slotsY,jA],fun i s e=>?_,fun i j a hij hi hj e1 e2=>?_,o.hold,.no fun i r t e=>by
  unfold jA at e
  rw [List.getElem?_map] at e
  cases hm:mp[i]? with
  | none=>rw [hm] at e; cases e
  | some m =>
    rw [hm] at e
    simp only [Option.map_some,Option.some.injEq] at e
    cases m with
    | none=>cases e
    | some j =>
      simp only at e
      split at e <;> cases e⟩
 · unfold jA at e
   unfold slotsY
   rw [List.getElem?_map] at e ⊢
   cases hm:mp[i]? with
   | none=>rw [hm] at e; cases e
   | some m =>
     rw [hm] at e
     simp only [Option.map_some,Option.some.injEq] at e
     cases m with
     | none =>
       simp only at e
       subst e; exact qQ
     | some j =>
       simp only at e
       cases hj:ds[j]? with
       | none=>rw [hj] at e; subst e; exact qQ
       | some s' =>
         rw [hj] at e
         cases s' with
         | no=>subst e; exact qQ
         | exc _=>subst e; exact qQ
         | exf _ _=>subst e; exact qQ
         | fr _=>subst e; exact qQ
         | ob _ _=>subst e; exact qQ
         | own l=>subst e; exact qQ
         | v d =>
           simp only at e
           subst e
           obtain ⟨v,h1,h2⟩:=o.read hj
           simp only [Option.map_some,Option.bind_some,h1,Option.join_some]
           exact yO h2
 · obtain ⟨l, e⟩ := hi
   unfold jA at e
   rw [List.getElem?_map] at e
   cases hm:mp[i]? with
   | none=>rw [hm] at e; cases e
   | some m =>
     rw [hm] at e
     simp only [Option.map_some,Option.some.injEq] at e
     cases m with
     | none=>cases e
     | some j =>
       simp only at e
       cases hj:ds[j]? with
       | none=>rw [hj] at e; cases e
       | some s'=>rw [hj] at e; cases s' <;> cases e
section
theorem comp_sem
  (hi:∀ H₀ H O σ ds hd items R,Ok X.K H₀ H O σ ds hd->fi ds=some items->(∀ J p H',Same H H'->Rep X.K H' O p.1 p.2->Wlk X.K J p items->R J H')->wi σ H R)
  (hg:∀ c H₀ H O σ ds hd v d ds' Q,Ok X.K H₀ H O σ ds hd->Rep X.K H O v d->ga d ds=some ds'->(∀ σ',Ok X.K H₀ H O σ' ds' hd->Q σ' H)->g c v σ H Q)
  (ht:∀ c H₀ H O σ ds hd b Q,Ok X.K H₀ H O σ ds hd->tt ds=some b->(∀ H',Same H H'->Q b H')->t1 c σ H Q)
  (he:∀ c H₀ H O σ ds hd d Q,Ok X.K H₀ H O σ ds hd->fe ds=some d->(∀ v H',Same H H'->Rep X.K H' O v d->Q v H')->t2 c σ H Q) :
  ∀ H₀ H O σ ds hd l Q,Ok X.K H₀ H O σ ds hd->compG fi mp ga tt fe ds=some l →
   (∀ a xs H',Same H H'->H a=none->H' a=some (.lst xs)->Reps X.K H' (ins1 a O) xs l->Q (.ref a) H')->tComp wi mp g t1 t2 σ H Q:=by
 intro H₀ H O σ ds hd l Q o e q
 obtain ⟨items,h1,e⟩:=bnd e
 split at e
 · rename_i hsz
   refine hi H₀ H O σ ds hd items _ o h1 fun J p H1 s1 r1 wk=>fun c=>?_
   have oI:=((o.mono s1).holdMore (p:=HI.rep p.1 p.2) r1).inner mp
   refine ⟨fun i m ys H2=>i<=items.length/\m=items.length - i/\Same H1 H2/\ys.length<=i/\∃ l' rest,Reps X.K H2 O ys l'/\compL ga tt fe (jA mp ds) (items.drop i)=some rest/\l=l'++rest,
    ⟨items.length,Nat.zero_le _,rfl,Same.refl _,Nat.le_refl _,[],l,.nil,by simpa using e,rfl⟩,?_⟩
   rintro i m ys H2 ⟨hi1,rfl,s2,hy,l',rest,ry,er,el⟩
   have o2:=oI.mono s2
   obtain ⟨go,stop⟩:=wk H2 O o2.dom (o2.hold (HI.rep p.1 p.2) List.mem_cons_self)
   by_cases hlt:i < items.length
   · right
     have hd0:=List.getElem?_eq_getElem hlt
     obtain ⟨hgo,hyl⟩:=go i _ hd0
     refine ⟨hgo,by lia,fun x H3 y=>?_⟩
     obtain ⟨s3,r3⟩:=hyl x H3 y
     rw [List.drop_eq_getElem_cons hlt,compL] at er
     obtain ⟨ds1,h2,er⟩:=bnd er
     refine hg c H₀ H3 O _ _ (HI.rep p.1 p.2::hd) x _ ds1 _ (o2.mono s3) r3 h2 fun σ' o3=>?_
     obtain ⟨b,h3,er⟩:=bnd er
     refine ht c H₀ H3 O σ' ds1 (HI.rep p.1 p.2::hd) b _ o3 h3 fun H4 s4=>?_
     cases b with
     | false =>
       refine iteF ⟨items.length - (i+1),by lia,hlt,rfl,(s2.trans s3).trans s4,Nat.le_succ_of_le hy,l',rest,(ry.mono s3).mono s4,by simpa using er,el⟩
     | true =>
       obtain ⟨yd,h4,er⟩:=bnd er
       cases h5:compL ga tt fe (jA mp ds) (items.drop (i+1)) with
       | none=>rw [h5] at er; cases er
       | some rest' =>
         rw [h5] at er
         cases er
         refine he c H₀ H4 O σ' ds1 (HI.rep p.1 p.2::hd) yd _ (o3.mono s4) h4 fun v H5 s5 r5=>?_
         refine ⟨items.length - (i+1),by lia,hlt,rfl,((s2.trans s3).trans s4).trans s5,by simp; lia,l'++[yd],rest',(((ry.mono s3).mono s4).mono s5).append (.cons r5 .nil),h5,?_⟩
         rw [el]; simp
   · left
     have ei:i=items.length:=by lia
     subst ei
     rw [List.drop_length,compL] at er
     cases er
     rw [List.append_nil] at el
     subst el
     refine ⟨stop,by lia,fun a ha=>?_⟩
     refine q a ys _ ((s1.trans s2).trans (qB ha _)) ((s1.trans s2).free ha) upd_same ?_
     exact (ry.more ha).mono (qB ha _)
 · cases e
theorem jB {iter:Expr} (S:CompScope X scope NY mp) (hc:X.calm=true) (hi:PIv X tg iter fi) (hg:∀ c,PGv (qS X scope NY c) tg ga) (ht:∀ c,PFv (qS X scope NY c) ifs tt) (he:∀ c,PV (qS X scope NY c) elt fe)
  (hs:∀ x,foldedSetIterable iter X.env x=pure x:=by intro _; rfl):PVf X (.ListComp elt [⟨tg,iter,ifs,0⟩] scope pos) (compG fi mp ga tt fe):=by
 obtain ⟨wi,pi,hi⟩:=hi
 refine ⟨_,pe_comp S hc pi (fun c=>(Classical.choose_spec (hg c)).1) (fun c=>(Classical.choose_spec (ht c)).1) (fun c=>(Classical.choose_spec (he c)).1) hs,?_⟩
 exact comp_sem hi (fun c=>(Classical.choose_spec (hg c)).2) (fun c=>(Classical.choose_spec (ht c)).2) (fun c=>(Classical.choose_spec (he c)).2)
theorem psv_comp {iter:Expr} (hN:X.N.Nodup)
  (S:CompScope X scope NY mp) (hc:X.calm=true) (hi:PIv X tg iter fi) (hg:∀ c,PGv (qS X scope NY c) tg ga) (ht:∀ c,PFv (qS X scope NY c) ifs tt) (he:∀ c,PV (qS X scope NY c) elt fe)
  (hy:X.N[i]? = some y:=by rfl) (hl:X.env.scope.names.lookup y=some .local:=by rfl)
  (hsw:swapsWith (.ListComp elt [⟨tg,iter,ifs,0⟩] scope pos) (some (.Name y py)) spos.line X.env=pure true:=by rfl)
  (hs:∀ x,foldedSetIterable iter X.env x=pure x:=by intro _; rfl):PSv X (.Assign [.Name y py] (.ListComp elt [⟨tg,iter,ifs,0⟩] scope pos) spos) (setOG i (compG fi mp ga tt fe)):=by
 obtain ⟨wi,pi,hi⟩:=hi
 refine ⟨_,ps_comp hN hy hl hsw S hc pi (fun c=>(Classical.choose_spec (hg c)).1) (fun c=>(Classical.choose_spec (ht c)).1) (fun c=>(Classical.choose_spec (he c)).1) hs,fun H₀ H O σ ds hd out E o e h=>?_⟩
 obtain ⟨l,h1,rfl⟩:=mpd e
 exact comp_sem hi (fun c=>(Classical.choose_spec (hg c)).2) (fun c=>(Classical.choose_spec (ht c)).2) (fun c=>(Classical.choose_spec (he c)).2) H₀ H O σ ds hd l _ o h1 fun a xs H' s hn he r=>h _ _ _ (o.setO s hn he r)
end
end
end FL
namespace L2
open PySem PySem.Spec PyProof.Rows
section
inductive TyV (K:PySem.W.Frag) (H:Hp):V->Value->Prop where
 | of {x:V} {t:Value} (h:TyOf K H x t):TyV K H x t
 | lstK {a:Addr} {o:Obj} (h:K.lookup a=some o) (c:o.cls = .type "list"):TyV K H (.ref a) (.type "list")
 | tupK {a:Addr} {o:Obj} (h:K.lookup a=some o) (c:o.cls = .type "tuple"):TyV K H (.ref a) (.type "tuple")
 | tupF {a:Addr} {o:Obj} {xs:List V} (h:H a=some (.frz o (.tup xs))):TyV K H (.ref a) (.type "tuple")
noncomputable def clsV:V->Value->Prop
 | .ty n,u=>u = .type n
 | .ref a,u=>u = .ref a
 | _,_=>False
theorem call_isi:CallR X (.builtin "isinstance") (fun xs H Q=>∃ x c cv t b,xs=[x,c]/\clsV c cv/\TyV X.K H x t/\PySem.W.kitOne X.K t cv=some b/\Q (.bl b) H):=by
 intro pins s σ H xs us Q I r h
 obtain ⟨x,c,cv,t,b,rfl,hc,ty,e,q⟩:=h
 obtain ⟨u,u2,rfl,ru,ru2⟩:=vals2 r
 have e2:u2=cv:=by
  cases c with
  | ty n=>cases (hc); cases (ru2); rfl
  | ref a=>cases (hc); cases (ru2); rfl
  | _=>exact (hc).elim
 subst e2
 have fin:∀ tk,EP X pins σ Q (.bool b) { s with toks:=tk }:=fun tk=>⟨.bl b,H,I.tok tk,rfl,q⟩
 cases ty with
 | of h=>exact isinst_ok I ru h e fin
 | @lstK a o h c =>
   cases (ru)
   exact PySem.W.kia_one PySem.W.kitx_list I.kIn ⟨o,I.kIn _ _ h,c⟩ e (fun z=>nomatch z) fin
 | @tupK a o h c =>
   cases (ru)
   exact PySem.W.kia_one PySem.W.kitx_tuple I.kIn ⟨o,I.kIn _ _ h,c⟩ e (fun z=>nomatch z) fin
 | @tupF a o xs ea =>
   cases (ru)
   obtain ⟨e0,_,_,_,p⟩:=(I.hok a _ ea)
   obtain ⟨o',h1,h2,_⟩:=p
   exact PySem.W.kia_one PySem.W.kitx_tuple I.kIn ⟨o',h1,h2⟩ e (fun z=>nomatch z) fin
theorem vT:∀ {bs:List Bool} {us:List Value},Vals (bs.map V.bl) us->LSm.BoolsAre us bs
 | [],_,.nil=>.nil
 | b :: r, _, .cons h t => by
   cases (show _=Value.bool b from h)
   exact .cons b (vT t)
theorem call_allB (hc:X.calm=true):CallR X (.builtin "all") (fun xs H Q=>∃ (p:Addr) (bs:List Bool),xs=[.ref p]/\SqL X.K H p (bs.map V.bl)/\Q (.bl (bs.all id)) H):=by
 intro pins s σ H xs us Q I r h
 obtain ⟨p,bs,rfl,hq,q⟩:=h
 obtain ⟨u,rfl,ru⟩:=vals1 r
 cases ru
 obtain ⟨its,rv,pl,hz⟩:=I.list hq
 have hlt:p < s.heap.objs.size:=by obtain ⟨_,e,_⟩:=pl.isList; exact Heap.lt_size e
 have hb:=vT rv
 refine call_all_walk (wpAny_pyIter_list pl.isList ?_)
 refine ⟨s.heap.objs.size,[s.heap.objs.size,p],[s.heap.objs.size],its.toArray.size,_,_,fun i=>(bs[i]?).getD true,rfl,Walks.list (A:=X.A.in1) (I.ok.hd hc) _ p (Nat.ne_of_lt hlt) its.toArray,
  ⟨⟨_,Heap.get?_push_size _ rfl,rfl,rfl⟩,pl.isList.push _⟩,fun i v s' Q' E' hP hQ=>?_,fun h' tk hk=>?_⟩
 · obtain ⟨b, e, rfl⟩ := hb.get i v (by simpa using hP)
   simp [e,Option.getD_some] at hQ
   exact wpAny_truthy_bool hQ
 · have e:((List.range its.toArray.size).all fun i=>(bs[i]?).getD true)=bs.all id:=by
    rw [List.size_toArray,hb.length]; exact LSm.range_all bs
   rw [e]
   exact ⟨.bl _,H,I.kept (LSm.kept_iter hk),rfl,q⟩
end
end L2
namespace FL
open PySem PySem.Spec PyProof.Rows L2
section
variable {X:Cx}
noncomputable def kitO (t T:String):Option Bool:=if ((Value.type t) == (Value.type T))=true then some true else if PySem.W.kitMeta T=true then (fastBuiltinMro t).map (·.contains (.type T)) else none
theorem kit_all:∀ t∈kitN,∀ T∈kitT,kitO t T=some (t == T || (t == "bool" && T == "int")):=by decide +kernel
theorem kit_of {K:Frag} (h:kitF t T=some b):PySem.W.kitOne K (.type t) (.type T)=some b:=by
 unfold kitF at h
 split at h
 · rename_i hm
   cases h
   exact kit_all t hm.1 T hm.2
 · cases h
theorem ty_of {K:Frag} (r:WRep K H O v d) (e:tyD d=some t):TyV K H v (.type t):=by
 rcases r with r | ⟨a,xs,l,rfl,rfl,ho,h,rs⟩
 · cases r with
   | non=>cases e; exact .of .non
   | bl b=>cases e; exact .of (.bl b)
   | int i=>cases e; exact .of (.int i)
   | str x=>cases e; exact .of (.str x)
   | tup n h r =>
     cases e
     rcases h with h | ⟨o,h⟩
     · exact .of (.tup h)
     · exact .tupF h
   | tupK h r=>cases e; obtain ⟨o,its,m,hk,hc,_⟩:=h; exact .tupK hk hc
   | lst n h r =>
     cases e
     rcases h with h | ⟨o,h⟩
     · exact .of (.lst h)
     · exact .of (.frz h)
   | lstK h r=>cases e; obtain ⟨o,its,m,hk,hc,_⟩:=h; exact .lstK hk hc
   | dct n h e' r=>cases e; exact .of (.dK h)
   | dcf n h e' r=>cases e
   | ins c n h e' r=>cases e
   | clo tx h e' nd c r=>cases e
   | fnK h=>cases e
   | dtt n h e' r=>cases e
 · cases e; exact .of (.lst h)
theorem pv_isi (hm:X.mg "isinstance" = none) (hT:X.mg x=none) (hv:bootBuiltins x=some (.type T)) (he:PVw X e f) (hg:Gl X "isinstance":=by rfl) (hgT:Gl X x:=by rfl)
  (h1:starEach [e,.Name x pT] X.env=(false,eval e X.env)::starEach [.Name x pT] X.env:=by rfl) (h2:starEach [.Name x pT] X.env=(false,eval (.Name x pT) X.env)::starEach [] X.env:=by rfl) (h3:(backTo pos (starEach [.Name x pT] X.env)).any (·.1)=false:=by rfl)
  (hn:x≠"__name__":=by decide) (hd:(x == ("__debug__" : Str))=false:=by decide):PV X (.Call (.Name "isinstance" p) [e,.Name x pT] [] pos) (isiG T f):=by
 obtain ⟨t,ht,hf⟩:=he
 refine ⟨_,yA call_isi hg hm (by decide +kernel) (qO ht (qO (pe_bltn (v:=.ty T) hgT hT hv rfl hn hd) jW h2) h1) (by decide) (by decide) h1 h3,fun H₀ H O σ ds hd d Q o e q=>?_⟩
 obtain ⟨dx,hh,e⟩:=bnd e
 obtain ⟨t,ht,e⟩:=bnd e
 obtain ⟨b,hk,rfl⟩:=mpd e
 refine hf H₀ H O σ ds hd dx _ o hh fun v H' s r=>?_
 exact ⟨v,.ty T,.type T,.type t,b,rfl,rfl,ty_of r ht,kit_of hk,q _ H' s (.bl b)⟩
theorem bls_rep {K:Frag} {xs:List V} {l:List D} {bs:List Bool} (h:Reps K H O xs l):blsD l=some bs->xs=bs.map V.bl :=
 h.ind (m:=fun xs l=>∀ {bs},blsD l=some bs->xs=bs.map V.bl) (fun e=>by cases e; rfl) fun {_ d _ _} h i _ e=>by
  cases d with
  | bl b =>
    simp only [blsD] at e
    obtain ⟨r,hr,rfl⟩:=mpd e
    cases h
    rw [i hr]
    rfl
  | _=>cases e
theorem cs_all:CallS X (fun xs H Q=>∃ (p:Addr) (bs:List Bool),xs=[.ref p]/\SqL X.K H p (bs.map V.bl)/\Q (.bl (bs.all id)) H) allD:=by
 intro H O vs l d Q ho r e q
 unfold allD at e
 split at e
 · obtain ⟨bs, hb, rfl⟩ := mpd e
   cases r with
   | cons r rn =>
     cases rn
     obtain ⟨a,xs,rfl,hs,rs⟩:=r.seqL
     refine ⟨a,bs,rfl,?_,q _ H (Same.refl _) (.bl _)⟩
     rw [<- bls_rep rs hb]
     exact hs
 · cases e
theorem pv_all (hc:X.calm=true) (hm:X.mg "all" = none) (ha:PAv X [e] g) (hg:Gl X "all":=by rfl) (he:starEach [e] X.env=[(false,eval e X.env)]:=by rfl) :
  PV X (.Call (.Name "all" p) [e] [] pos) (callB allD g):=xT (call_allB hc) cs_all hm (by decide +kernel) ha hg (by decide) (by decide) he rfl
theorem pv_neg (ha:PV X a f):PV X (.UnaryOp .USub a pos) (un1 negD f):=by
 obtain ⟨ta,pa,ha⟩:=ha
 refine ⟨_,pe_un un_neg pa,fun H₀ H O σ ds hd d Q o e q=>?_⟩
 obtain ⟨dx,h1,e⟩:=bnd e
 cases dx with
 | int i =>
   cases e
   refine ha H₀ H O σ ds hd _ _ o h1 fun x H1 s1 r1=>?_
   cases r1
   exact ⟨i,rfl,q _ H1 s1 (.int _)⟩
 | _=>cases e
variable (X) in
def PVd (e:Expr) (f:FE):Prop:=∃ t,PE X e t/\∀ H₀ H O σ ds hd d Q,Ok X.K H₀ H O σ ds hd->f ds=some d->(∀ v H',Same H H'->Rep X.K H' (Old H) v d->Q v H')->t σ H Q
end
section
noncomputable def compOk (sc scope:Scope) (N NY:List Str) (mp:List (Option Nat)):Bool :=
 scope.kind == .function && scope.names.all (fun y=>y.2 != .cell) && scope.names.all (fun y=>y.2 != .local || scope.names.lookup y.1 == some .local)
 && scope.names.all (fun y=>y.2 != .free || (sc.names.lookup y.1 == some .cell || sc.names.lookup y.1 == some .free)) && mp.length == NY.length
 && (List.range NY.length).all (fun i=>match NY[i]?,mp[i]? with | some x,some (some j)=>N[j]? == some x && scope.names.lookup x == some .free | _,_=>true)
theorem qG (h:compOk X.env.scope scope X.N NY mp=true):CompScope X scope NY mp:=by
 unfold compOk at h
 simp only [Bool.and_eq_true,List.all_eq_true,beq_iff_eq] at h
 obtain ⟨⟨⟨⟨⟨h1,h2⟩,h3⟩,h4⟩,h5⟩,h6⟩:=h
 refine ⟨h1,fun y hy=>by simpa using h2 y hy,fun y hy hk=>?_,fun y hy hk=>?_,h5,fun i x j e1 e2=>?_⟩
 · have := h3 y hy
   simpa [hk] using this
 · have := h4 y hy
   simp [hk,bne_self_eq_false,Bool.false_or,Bool.or_eq_true,beq_iff_eq] at this
   exact this
 · have hi : i ∈ List.range NY.length := List.mem_range.mpr (List.getElem?_eq_some_iff.mp e1).1
   have:=h6 i hi
   rw [e1,e2] at this
   simpa using this
end
theorem qE (e:runG g n ds=some r):Does g n ds r:=by
 unfold runG at e
 cases h:g (args n ds) with
 | none=>rw [h] at e; cases e
 | some o =>
   rw [h] at e
   cases o with
   | rt r'=>cases e; exact .inl h
   | nx ds'=>cases e; exact .inr ⟨rfl,ds',h⟩
   | bk ds'=>cases e
   | ct ds'=>cases e
end FL
namespace L2
open PySem PySem.Spec PyProof.Rows
section
theorem op_mulB:OpR X (binaryOp .Mult) (rI IntMulOk fun i j=>.int (i * j)):=opI fun _ _ _ _ _ _ _ hc q=>mul_int q hc
theorem op_powB:OpR X (binaryOp .Pow) (rI FL.CPowB fun i j=>.int (i ^ j.toNat)):=opI fun _ _ _ _ _ _ _ hc q=>pow_int hc.1 hc.2 q
noncomputable def rCatS (K:PySem.W.Frag):R2:=fun x y H Q=>∃ l b xs zs,x = .ref l/\y = .ref b/\SqL K H l xs/\SqL K H b zs/\xs.length+zs.length<=sizeLine/\∀ p,H p=none->Q (.ref p) (upd H p (.lst (xs++zs)))
theorem op_catS:OpR X (binaryOp .Add) (rCatS X.K):=by
 intro pins s σ H x y v u Q I rx ry h
 obtain ⟨l,b,xs,zs,rfl,rfl,hH,hB,hz,q⟩:=h
 cases rx
 cases ry
 obtain ⟨its,r,pl,z⟩:=I.list hH
 obtain ⟨its2,r2,pl2,z2⟩:=I.list hB
 obtain ⟨⟨cls,dd,data,sl⟩,ho,hc,n,hd⟩:=pl.isList
 obtain ⟨⟨cls2,dd2,data2,sl2⟩,ho2,hc2,n2,hd2⟩:=pl2.isList
 subst hc hd hc2 hd2
 have hl:=r.length
 have hl2:=r2.length
 refine concat_meets ⟨_,ho,rfl⟩ ⟨_,ho2,rfl⟩ noFill_list_add seq_list_add PySem.F.slot_list_add PySem.F.entry_list_add (PySem.F.args_list_add_2 _ _) (list_addW l b its.toArray its2.toArray n n2 dd dd2 sl sl2 (by simp [List.size_toArray]; lia)) ⟨ho,ho2,?_⟩
 have ea:its.toArray++its2.toArray=(its++its2).toArray:=by simp
 rw [ea]
 exact ⟨.ref _,_,I.lnew (r.append r2) (by rw [List.length_append]; lia),rfl,q _ I.fresh⟩
end
end L2
namespace FL
open PySem PySem.Spec PyProof.Rows L2
section
variable {X:Cx}
variable (X) in
def PVn (e:Expr) (f:FE):Prop:=∃ t,PE X e t/\∀ H₀ H O σ ds hd d Q,Ok X.K H₀ H O σ ds hd->f ds=some d->(∀ v H',Same H H'->Rep X.K H' jY v d->Q v H')->t σ H Q
variable (X) in
def PAn (es:List Expr) (f:FA):Prop:=∃ t,PA X es t/\∀ H₀ H O σ ds hd l Q,Ok X.K H₀ H O σ ds hd->f ds=some l->(∀ vs H',Same H H'->Reps X.K H' jY vs l->Q vs H')->t σ H Q
theorem PVw.n (h:PVw X e f):PVn X e f:=by
 obtain ⟨t,ht,hf⟩:=h
 exact ⟨t,ht,fun H₀ H O σ ds hd d Q o e q=>hf H₀ H O σ ds hd d Q o e fun v H' s r=>q v H' s r.any⟩
theorem PV.n (h:PV X e f):PVn X e f:=h.w.n
theorem zX:PAn X [] zP:=⟨_,jW,fun _ H _ _ _ _ _ _ _ e q=>by cases e; exact q _ H (Same.refl _) .nil⟩
theorem zI (ha:PVn X e f) (hr:PAn X es g) (hs:starEach (e::es) X.env=(false,eval e X.env)::starEach es X.env:=by rfl):PAn X (e::es) (zB f g):=by
 obtain ⟨t,ht,hf⟩:=ha
 obtain ⟨u,hu,hg⟩:=hr
 refine ⟨_,qO ht hu hs,fun H₀ H O σ ds hd l Q o e q=>?_⟩
 obtain ⟨x,h,e⟩:=bnd e
 obtain ⟨r,h2,rfl⟩:=mpd e
 refine hf H₀ H O σ ds hd x _ o h fun v H1 s1 r1=>?_
 refine hg H₀ H1 O σ ds hd r _ (o.mono s1) h2 fun vs H2 s2 r2=>?_
 exact q _ H2 (s1.trans s2) (.cons (r1.mono s2) r2)
section
theorem pv_callN (Fn:FnOk X.prog X.w X.K X.mg X.base CX0 k f fd ps (spF X.K n F)) (hr:Room k X.A) (hm:X.mg x=some (.ref f)) (hk:PySem.W.keepIn X.K (.ref f)=true) (hb:Binds X.K fd ps []) (ha:PAn X (e::es) g)
  (hg:Gl X x:=by rfl) (hdb:(x == ("__debug__" : Str))=false:=by decide) (he:starEach (e::es) X.env=(false,eval e X.env)::starEach es X.env:=by rfl) (hpl:(backTo pos (starEach es X.env)).any (·.1)=false:=by rfl) :
  PV X (.Call (.Name x p) (e::es) [] pos) (qF n F g):=by
 obtain ⟨t,ht,hf⟩:=ha
 refine ⟨_,pe_call Fn hr hg hm hk hb .nil pass0 ht hdb he hpl,fun H₀ H O σ ds hd d Q o e q=>?_⟩
 obtain ⟨l,h,e⟩:=bnd e
 split at e
 · rename_i hln
   obtain ⟨r,h2,e⟩:=bnd e
   refine hf H₀ H O σ ds hd l _ o h fun vs H1 s1 r1=>?_
   have hl:=r1.length
   refine ⟨by simp [List.append_nil]; lia,l,r,by simpa using r1,h2,fun v H' s' ro=>q v H' (s1.trans s') ?_⟩
   exact retV_ok ro e fun a ha=>(o.mono s1).old ha
 · cases e
theorem pvf_callN (Fn:FnOk X.prog X.w X.K X.mg X.base CX0 k f fd ps (spF X.K n F)) (hr:Room k X.A) (hm:X.mg x=some (.ref f)) (hk:PySem.W.keepIn X.K (.ref f)=true) (hb:Binds X.K fd ps []) (ha:PAn X (e::es) g)
  (hg:Gl X x:=by rfl) (hdb:(x == ("__debug__" : Str))=false:=by decide) (he:starEach (e::es) X.env=(false,eval e X.env)::starEach es X.env:=by rfl) (hpl:(backTo pos (starEach es X.env)).any (·.1)=false:=by rfl) :
  PVf X (.Call (.Name x p) (e::es) [] pos) (callF n F g):=by
 obtain ⟨t,ht,hf⟩:=ha
 refine ⟨_,pe_call Fn hr hg hm hk hb .nil pass0 ht hdb he hpl,fun H₀ H O σ ds hd d Q o e q=>?_⟩
 obtain ⟨l,h,e⟩:=bnd e
 split at e
 · rename_i hln
   obtain ⟨r,h2,e⟩:=bnd e
   refine hf H₀ H O σ ds hd l _ o h fun vs H1 s1 r1=>?_
   have hl:=r1.length
   refine ⟨by simp [List.append_nil]; lia,l,r,by simpa using r1,h2,fun v H' s' ro=>?_⟩
   obtain ⟨a,xs,rfl,h3,h4,h5⟩:=retF_ok ro e fun a ha=>(o.mono s1).old ha
   exact q a xs H' (s1.trans s') (s1.free h3) h4 h5
 · cases e
end
def OpN (X:Cx) (r:R2) (op:D->D->Option D):Prop:=∀ H O x y dx dy d Q,Rep X.K H jY x dx->Rep X.K H jY y dy->op dx dy=some d->(∀ v H',Same H H'->Rep X.K H' O v d->Q v H')->r x y H Q
theorem pvn_tOp (hs:OpN X r op) (ha:∀ H₀ H O σ ds hd d Q,Ok X.K H₀ H O σ ds hd->fa ds=some d->(∀ v H',Same H H'->Rep X.K H' jY v d->Q v H')->ta σ H Q)
  (hb:∀ H₀ H O σ ds hd d Q,Ok X.K H₀ H O σ ds hd->fb ds=some d->(∀ v H',Same H H'->Rep X.K H' jY v d->Q v H')->tb σ H Q) :
  ∀ H₀ H O σ ds hd d Q,Ok X.K H₀ H O σ ds hd->zE op fa fb ds=some d->(∀ v H',Same H H'->Rep X.K H' O v d->Q v H')->tOp r ta tb σ H Q:=by
 intro H₀ H O σ ds hd d Q o e q
 obtain ⟨dx,h1,e⟩:=bnd e
 obtain ⟨dy,h2,e⟩:=bnd e
 refine ha H₀ H O σ ds hd dx _ o h1 fun x H1 s1 r1=>?_
 refine hb H₀ H1 O σ ds hd dy _ (o.mono s1) h2 fun y H2 s2 r2=>?_
 exact hs H2 O x y dx dy d Q (r1.mono s2) r2 e fun v H' s r=>q v H' ((s1.trans s2).trans s) r
theorem vK (ho:OpR X (compareOp op) r) (hs:OpN X r opD) (ha:PVn X a fa) (hb:PVn X b fb) (hm:behindInMarks op b=false):PV X (.Compare a [op] [b] pos) (zE opD fa fb):=by
 obtain ⟨ta,pa,ha⟩:=ha
 obtain ⟨tb,pb,hb⟩:=hb
 exact ⟨_,pe_cmpR ho pa pb hm,pvn_tOp hs ha hb⟩
theorem wB (ho:OpR X (compareOp op) r) (hs:OpN X r opD) (ha:PVn X a fa) (hb:PVn X b fb) (hm:behindInMarks op b=false):PTv X (.Compare a [op] [b] pos) (zT (zE opD fa fb)):=by
 obtain ⟨ta,pa,ha⟩:=ha
 obtain ⟨tb,pb,hb⟩:=hb
 refine ⟨_,pt_cmpR ho pa pb hm,fun H₀ H O σ ds hd k Q o e q=>?_⟩
 obtain ⟨d,h,e⟩:=bnd e
 refine pvn_tOp hs ha hb H₀ H O σ ds hd d _ o h fun v H' s r=>?_
 cases d with
 | bl c=>cases e; cases r; exact ⟨_,rfl,q H' s⟩
 | _=>cases e
theorem Rep.reads {pins:List (Addr×Obj)} {σ : L2.St} {H:Hp} {s:Shared} {O:Addr->Prop} (I:Inv X pins σ H s) {v:V} {d:D} (h:Rep X.K H O v d):∀ {u:Value} {n:Nat},RelV v u->shal n d=true->∃ as,Reads s.heap u (toPy d) as/\(toPy d).canLay0=true/\(toPy d).depth<=n+1 :=
 h.rec (motive_1:=fun v d _=>∀ {u:Value} {n:Nat},RelV v u->shal n d=true->∃ as,Reads s.heap u (toPy d) as/\(toPy d).canLay0=true/\(toPy d).depth<=n+1) (motive_2:=fun vs ds _=>∀ {us:List Value} {n:Nat},Vals vs us->shals n ds=true->∃ as,ReadsAll s.heap us (toPys ds) as/\PyData.canLayAll0 (toPys ds)=true/\PyData.depthAll (toPys ds)<=n) (fun r _=>by cases r; exact ⟨[],.none,rfl,Nat.zero_le _⟩) (fun b _ _ r _=>by cases r; exact ⟨[],.bool b,rfl,Nat.zero_le _⟩) (fun b _ _ r _=>by obtain ⟨t,rfl⟩:=r; exact ⟨[],.int b t,rfl,Nat.zero_le _⟩)
  (fun x _ _ r h => by obtain ⟨t, rfl⟩ := r; exact ⟨[], .str x t, h, Nat.zero_le _⟩) (fun _ h _ i u n r hs => by
   cases r
   obtain ⟨its,rv,⟨o,ho,hc,k,hd⟩,hz⟩:=I.tuple (.inl h)
   obtain ⟨as,h1,h2,h3⟩:=i rv hs
   exact ⟨as,.tuple ho hc hd (by simpa using h1),h2,Nat.succ_le_succ h3⟩) (fun  h _ i u n r hs=>by
   cases r
   obtain ⟨its,rv,⟨o,ho,hc,k,hd⟩,hz⟩:=I.tuple (.inr h)
   obtain ⟨as,h1,h2,h3⟩:=i rv hs
   exact ⟨as,.tuple ho hc hd (by simpa using h1),h2,Nat.succ_le_succ h3⟩) (fun _ h _ i u n r hs=>by
   cases r
   obtain ⟨its,rv,pl,hz⟩:=I.list (.inl h)
   obtain ⟨o,ho,hc,k,hd⟩:=pl.isList
   obtain ⟨as,h1,h2,h3⟩:=i rv hs
   exact ⟨_,.list ho hc hd (by simpa using h1),h2,Nat.succ_le_succ h3⟩) (fun  h _ i u n r hs=>by
   cases r
   obtain ⟨its,rv,pl,hz⟩:=I.list (.inr h)
   obtain ⟨o,ho,hc,k,hd⟩:=pl.isList
   obtain ⟨as,h1,h2,h3⟩:=i rv hs
   exact ⟨_,.list ho hc hd (by simpa using h1),h2,Nat.succ_le_succ h3⟩)
  (fun _ _ _ _ _ _ _ _ hs=>by cases hs) (fun _ _ _ _ _ _ _ _ hs=>by cases hs) (fun _ _ _ _ _ _ _ _ _ hs=>by cases hs) (fun _ _ _ _ _ _ _ _ _ _ hs=>by cases hs) (fun _ _ _ _ hs=>by cases hs) (fun _ _ _ _ _ _ _ _ hs=>by cases hs)
  (fun r _ => by cases r; exact ⟨[], .nil, rfl, Nat.zero_le _⟩) fun _ _ i j us n r hs => by
   cases n with
   | zero=>simp [shals] at hs
   | succ n =>
    cases r with
    | cons r1 r2 =>
     have hs:=Bool.and_eq_true_iff.1 hs
     obtain ⟨as,h1,h2,h3⟩:=i r1 hs.1
     obtain ⟨bs,k1,k2,k3⟩:=j r2 hs.2
     exact ⟨_,.cons h1 k1,by simp [toPys,PyData.canLayAll0,h2,k2],by simp only [toPys,PyData.depthAll]; omega⟩
noncomputable def rEqD (X:Cx) (neg:Bool):R2:=fun x y H Q=>∃ dx dy,Rep X.K H jY x dx/\Rep X.K H jY y dy/\shal 40 dx=true/\shal 40 dy=true/\Q (.bl (if neg then !eqvD dx dy else eqvD dx dy)) H
theorem op_eqD (hu:X.A.units+100 < cLine):OpR X (compareOp .Eq) (rEqD X false):=by
 intro pins s σ H x y v u Q I rx ry h
 obtain ⟨dx,dy,r1,r2,s1,s2,q⟩:=h
 obtain ⟨as,a1,a2,a3⟩:=r1.reads I rx s1
 obtain ⟨bs,b1,b2,b3⟩:=r2.reads I ry s2
 exact SeqAt.compareEq_reads a1 b1 a2 b2 (by lia) ⟨.bl _,H,I,rfl,q⟩
theorem op_neD (hu:X.A.units+100 < cLine):OpR X (compareOp .NotEq) (rEqD X true):=by
 intro pins s σ H x y v u Q I rx ry h
 obtain ⟨dx,dy,r1,r2,s1,s2,q⟩:=h
 obtain ⟨as,a1,a2,a3⟩:=r1.reads I rx s1
 obtain ⟨bs,b1,b2,b3⟩:=r2.reads I ry s2
 exact SeqAt.compareNe_reads a1 b1 a2 b2 (by lia) ⟨.bl _,H,I,rfl,q⟩
theorem on_eqD:OpN X (rEqD X false) eqD:=by
 intro H O x y dx dy d Q rx ry e q
 unfold eqD at e
 split at e
 · rename_i hs
   cases e
   exact ⟨dx,dy,rx,ry,hs.1,hs.2,q _ H (Same.refl _) (.bl _)⟩
 · cases e
theorem on_neD:OpN X (rEqD X true) neD:=by
 intro H O x y dx dy d Q rx ry e q
 unfold neD at e
 split at e
 · rename_i hs
   cases e
   exact ⟨dx,dy,rx,ry,hs.1,hs.2,q _ H (Same.refl _) (.bl _)⟩
 · cases e
theorem hu100 (hr:Room k A):A.units+100 < cLine:=by have:=hr.un; lia
theorem pv_eq (hr:Room k X.A) (ha:PVn X a fa) (hb:PVn X b fb):PV X (.Compare a [.Eq] [b] pos) (zE eqD fa fb):=vK (op_eqD (hu100 hr)) on_eqD ha hb (nomark _)
theorem kF (hr:Room k X.A) (ha:PVn X a fa) (hb:PVn X b fb):PTv X (.Compare a [.Eq] [b] pos) (zT (zE eqD fa fb)):=wB (op_eqD (hu100 hr)) on_eqD ha hb (nomark _)
theorem pt_ne (hr:Room k X.A) (ha:PVn X a fa) (hb:PVn X b fb):PTv X (.Compare a [.NotEq] [b] pos) (zT (zE neD fa fb)):=wB (op_neD (hu100 hr)) on_neD ha hb (nomark _)
theorem non_iff {K:Frag} {H:Hp} {O:Addr->Prop} {v:V} (r:Rep K H O v d):decide (v = .non)=(match d with | .non=>true | _=>false):=by
 cases r <;> rfl
theorem on_is:OpN X (fun x y H Q=>y = .non/\Q (.bl (decide (x = .non))) H) isD:=by
 intro H O x y dx dy d Q rx ry e q
 cases dy <;> first | (cases dx <;> simp [isD] at e; done) | skip
 cases ry
 refine ⟨rfl,?_⟩
 rw [non_iff rx]
 cases dx <;> (simp [isD,Option.some.injEq] at e; subst e; exact q _ H (Same.refl _) (.bl _))
theorem pv_is (ha:PVn X a fa) (hb:PVn X b fb):PV X (.Compare a [.Is] [b] pos) (zE isD fa fb):=vK op_isN on_is ha hb (nomark _)
theorem pt_is (ha:PVn X a fa) (hb:PVn X b fb):PTv X (.Compare a [.Is] [b] pos) (zT (zE isD fa fb)):=wB op_isN on_is ha hb (nomark _)
theorem os_mul:OpS X (rI IntMulOk fun i j=>.int (i * j)) jL:=by
 intro H O x y dx dy d Q ho rx ry e q
 cases dx <;> cases dy <;> first | (simp [jL] at e; done) | skip
 simp only [jL] at e
 split at e
 · rename_i hc
   cases e
   rw [rx.int',ry.int']
   exact ⟨_,_,rfl,rfl,hc,q _ H (Same.refl _) (.int _)⟩
 · cases e
theorem os_pow:OpS X (rI CPowB fun i j=>.int (i ^ j.toNat)) powD:=by
 intro H O x y dx dy d Q ho rx ry e q
 cases dx <;> cases dy <;> first | (simp [powD] at e; done) | skip
 simp only [powD] at e
 split at e
 · rename_i hc
   cases e
   rw [rx.int',ry.int']
   exact ⟨_,_,rfl,rfl,hc,q _ H (Same.refl _) (.int _)⟩
 · cases e
theorem pvf_cat (ha:PVw X a fa) (hb:PVw X b fb):PVf X (.BinOp a .Add b pos) (catA fa fb):=by
 obtain ⟨ta,pa,ha⟩:=ha
 obtain ⟨tb,pb,hb⟩:=hb
 refine ⟨_,pe_op op_catS pa pb,fun H₀ H O σ ds hd l Q o e q=>?_⟩
 obtain ⟨dx,h1,e⟩:=bnd e
 obtain ⟨dy,h2,e⟩:=bnd e
 cases dx <;> cases dy <;> first | (simp at e; done) | skip
 simp only at e
 split at e
 · rename_i hz
   cases e
   refine ha H₀ H O σ ds hd _ _ o h1 fun x H1 s1 r1=>?_
   refine hb H₀ H1 O σ ds hd _ _ (o.mono s1) h2 fun y H2 s2 r2=>?_
   obtain ⟨a1,xs,rfl,hq1,rs1⟩:=(r1.mono s2).seqL
   obtain ⟨a2,ys,rfl,hq2,rs2⟩:=r2.seqL
   refine ⟨a1,a2,xs,ys,rfl,rfl,hq1,hq2,by rw [rs1.length,rs2.length]; exact hz,fun p hp=>?_⟩
   refine q p _ _ ((s1.trans s2).trans (qB hp _)) ((s1.trans s2).free hp) upd_same ?_
   exact ((rs1.append rs2).more hp).mono (qB hp _)
 · cases e
variable (X) in
def POv (e:Option Expr) (f:List Sl->Option (Option Int)):Prop:=∃ t,PO X e t/\∀ H₀ H O σ ds hd i Q,Ok X.K H₀ H O σ ds hd->f ds=some i->(∀ H',Same H H'->Q i H')->t σ H Q
theorem pov_no:POv X none noP:=⟨_,po_none,fun _ H _ _ _ _ _ _ _ e q=>by cases e; exact q H (Same.refl _)⟩
theorem pov_so (h:PVw X e f):POv X (some e) (soP f):=by
 obtain ⟨t,ht,hf⟩:=h
 refine ⟨_,po_some ht,fun H₀ H O σ ds hd i Q o e q=>?_⟩
 obtain ⟨d,h1,e⟩:=bnd e
 cases d <;> first | (cases e; done) | skip
 cases e
 refine hf H₀ H O σ ds hd _ _ o h1 fun v H' s r=>?_
 rw [r.int']
 exact ⟨_,rfl,q H' s⟩
theorem cut_reps {K:Frag} (rs:Reps K H O xs l):Reps K H O (cutV xs a b) (cutD l a b):=by
 unfold cutV cutD
 rw [rs.length]
 exact (rs.drop _).take _
theorem wL {lo hi:Option Expr} (he:PVw X e f) (hl:POv X lo gl) (hh:POv X hi gh):PVf X (.Subscript e (.Slice lo hi none p2) pos) (sliA f gl gh):=by
 obtain ⟨te,pe,he⟩:=he
 obtain ⟨tl,pl,hl⟩:=hl
 obtain ⟨th,ph,hh⟩:=hh
 refine ⟨_,pe_slice sl_list pe pl ph,fun H₀ H O σ ds hd l Q o e q=>?_⟩
 obtain ⟨d,h1,e⟩:=bnd e
 obtain ⟨a,h2,e⟩:=bnd e
 obtain ⟨b,h3,e⟩:=bnd e
 cases d <;> first | (cases e; done) | skip
 cases e
 refine he H₀ H O σ ds hd _ _ o h1 fun v H1 s1 r1=>?_
 refine hl H₀ H1 O σ ds hd _ _ (o.mono s1) h2 fun H2 s2=>?_
 refine hh H₀ H2 O σ ds hd _ _ ((o.mono s1).mono s2) h3 fun H3 s3=>?_
 obtain ⟨a1,xs,rfl,hq,rs⟩:=((r1.mono s2).mono s3).seqL
 refine ⟨a1,xs,rfl,hq,fun p hp=>?_⟩
 have ss:=(s1.trans s2).trans s3
 refine q p _ _ (ss.trans (qB hp _)) (ss.free hp) upd_same ?_
 exact ((cut_reps rs).more hp).mono (qB hp _)
theorem pvf_list (hm:X.mg "list" = none) (he:PVw X e f) (hg:Gl X "list":=by rfl) (hs:starEach [e] X.env=[(false,eval e X.env)]:=by rfl):PVf X (.Call (.Name "list" p) [e] [] pos) (lisA f):=by
 obtain ⟨te,pe,he⟩:=he
 refine ⟨_,pe_callTy call_list_of hg hm (by decide +kernel) (qO pe jW hs) (by decide) (by decide) hs rfl,fun H₀ H O σ ds hd l Q o e q=>?_⟩
 obtain ⟨d,h1,e⟩:=bnd e
 refine he H₀ H O σ ds hd _ _ o h1 fun v H1 s1 r1=>?_
 cases d <;> first | (cases e; done) | skip
 · cases e
   obtain ⟨a1,xs,rfl,hq,rs⟩:=r1.seqT
   refine ⟨a1,xs,rfl,.inr hq,fun p hp=>?_⟩
   exact q p _ _ (s1.trans (qB hp _)) (s1.free hp) upd_same ((rs.more hp).mono (qB hp _))
 · cases e
   obtain ⟨a1,xs,rfl,hq,rs⟩:=r1.seqL
   refine ⟨a1,xs,rfl,.inl hq,fun p hp=>?_⟩
   exact q p _ _ (s1.trans (qB hp _)) (s1.free hp) upd_same ((rs.more hp).mono (qB hp _))
theorem isEmpty_len {α β : Type} {xs:List α} {ys:List β} (h:xs.length=ys.length):xs.isEmpty=ys.isEmpty:=by
 cases xs <;> cases ys <;> simp_all
theorem PVn.t (h:PVn X e f) (he:∀ whole,isTrue e X.env whole=(do let v <- whole; standAt e.pos; holding [v] (truthy v)):=by intro _; rfl):PTv X e (testT f):=by
 obtain ⟨t,ht,hf⟩:=h
 refine ⟨_,pt_truth ht he,fun H₀ H O σ ds hd k Q o e q=>?_⟩
 unfold testT at e
 obtain ⟨d,h,e⟩:=bnd e
 refine hf H₀ H O σ ds hd d _ o h fun v H' s r=>⟨k,?_,q H' s⟩
 cases d with
 | non=>cases e; cases r; exact rfl
 | bl b=>cases e; cases r; exact rfl
 | int i=>cases e; cases r; exact rfl
 | str x =>
   simp only [truD] at e
   split at e
   · rename_i hz; cases e; cases r; exact ⟨hz,rfl⟩
   · cases e
 | tup l =>
   cases e
   obtain ⟨a,xs,rfl,hq,rs⟩:=WRep.seqT (.inl r)
   exact .inr (.inl ⟨xs,hq,by rw [isEmpty_len rs.length]⟩)
 | lst l =>
   cases e
   obtain ⟨a,xs,rfl,hq,rs⟩:=WRep.seqL (.inl r)
   exact .inl ⟨xs,hq,by rw [isEmpty_len rs.length]⟩
 | _=>cases e
theorem xA {st:Stmt} : PSv X st (fun _=>none):=⟨_,ps_never,fun _ _ _ _ _ _ _ _ _ e _=>by cases e⟩
theorem psv_rel i {st:Stmt} (h:PSv X st g):PSv X st (fun ds=>g (relS i ds)):=by
 obtain ⟨t,ht,hf⟩:=h
 refine ⟨t,ht,fun H₀ H O σ ds hd out E o e q=>?_⟩
 have e:g (relS i ds)=some out:=e
 by_cases hs:∃ l,ds[i]? = some (.own l)
 · obtain ⟨l, hl⟩ := hs
   have e':relS i ds=ds.set i (.v (.lst l)):=by unfold relS; rw [hl]
   rw [e'] at e
   obtain ⟨O',o'⟩:=o.release hl
   exact hf H₀ H O' σ _ hd out E o' e q
 · have e':relS i ds=ds:=by
    unfold relS
    split
    · rename_i l hl; exact (hs ⟨l,hl⟩).elim
    · rfl
   rw [e'] at e
   exact hf H₀ H O σ ds hd out E o e q
theorem psv_while n (hp:PassesOwn (model X.prog X.w) X.A X.env X.xe) (hc:PTv X c fc) (hb:PSsv X body g):PSv X (.While c body [] pos) (whileN fc g n):=by
 obtain ⟨tc,pc,hc⟩:=hc
 obtain ⟨tb,pb,hb⟩:=hb
 refine ⟨_,ps_while hp pc pb,fun H₀ H O σ ds hd out E o e h=>?_⟩
 refine ⟨fun m σ' H'=>∃ O' ds',Ok X.K H₀ H' O' σ' ds' hd/\whileN fc g m ds'=some out,⟨n,O,ds,o,e⟩,?_⟩
 rintro m σ1 H1 ⟨O1,ds1,o1,e1⟩
 cases m with
 | zero=>cases e1
 | succ m =>
   simp only [whileN] at e1
   obtain ⟨k,h1,e1⟩:=bnd e1
   refine hc H₀ H1 O1 σ1 ds1 hd k _ o1 h1 fun H2 s2=>?_
   cases k with
   | false =>
     simp only [Bool.false_eq_true,if_false,Option.some.injEq] at e1
     subst e1
     exact iteF (h σ1 H2 O1 (o1.mono s2))
   | true =>
     simp only [if_true] at e1
     refine iteT ⟨fun σ' H'=>∃ O' ds',Ok X.K H₀ H' O' σ' ds' hd/\whileN fc g m ds'=some out,fun σ' H' q=>⟨m,Nat.lt_succ_self _,q⟩,?_⟩
     obtain ⟨o3,h2,e1⟩:=bnd e1
     refine hb H₀ H2 O1 σ1 ds1 hd o3 _ (o1.mono s2) h2 ?_
     cases o3 with
     | nx ds3=>exact fun σ3 H3 O3 ok3=>⟨O3,ds3,ok3,e1⟩
     | ct ds3=>exact fun σ3 H3 O3 ok3=>⟨O3,ds3,ok3,e1⟩
     | bk ds3=>cases e1; exact fun σ3 H3 O3 ok3=>h σ3 H3 O3 ok3
     | rt rr=>cases e1; exact h
theorem psv_asg (he:PV X e f) (hg:PGv X tg ga) (hs:swapsWithSole [tg] e pos.line X.env=pure false:=by rfl) (hw:swappedStores [tg] e X.env=pure none:=by rfl)
  (h1:(assignEach [tg] X.env).map (·.2)=[assign tg X.env]:=by rfl):PSv X (.Assign [tg] e pos) (asgG ga f):=by
 obtain ⟨te,pe,he⟩:=he
 obtain ⟨tg',pg,hg⟩:=hg
 refine ⟨_,ps_asg pe pg hs hw h1,fun H₀ H O σ ds hd out E o e h=>?_⟩
 obtain ⟨d,h2,e⟩:=bnd e
 cases h3:ga d ds with
 | none=>rw [h3] at e; cases e
 | some ds' =>
   rw [h3] at e
   cases e
   refine he H₀ H O σ ds hd d _ o h2 fun v H1 s1 r1=>?_
   exact hg H₀ H1 O σ ds hd v d ds' _ (o.mono s1) r1 h3 fun σ' o'=>h σ' H1 O o'
end
end FL
namespace L2
open PySem PySem.Spec PyProof.Rows
section
theorem call_anyB (hc:X.calm=true):CallR X (.builtin "any") (fun xs H Q=>∃ (p:Addr) (bs:List Bool),xs=[.ref p]/\SqL X.K H p (bs.map V.bl)/\Q (.bl (bs.any id)) H):=by
 intro pins s σ H xs us Q I r h
 obtain ⟨p,bs,rfl,hq,q⟩:=h
 obtain ⟨u,rfl,ru⟩:=vals1 r
 cases ru
 obtain ⟨its,rv,pl,hz⟩:=I.list hq
 have hlt:p < s.heap.objs.size:=by obtain ⟨_,e,_⟩:=pl.isList; exact Heap.lt_size e
 have hb:=vT rv
 refine call_any_walk (wpAny_pyIter_list pl.isList ?_)
 refine ⟨s.heap.objs.size,[s.heap.objs.size,p],[s.heap.objs.size],its.toArray.size,_,_,fun i=>(bs[i]?).getD false,rfl,Walks.list (A:=X.A.in1) (I.ok.hd hc) _ p (Nat.ne_of_lt hlt) its.toArray,
  ⟨⟨_,Heap.get?_push_size _ rfl,rfl,rfl⟩,pl.isList.push _⟩,fun i v s' Q' E' hP hQ=>?_,fun h' tk hk=>?_⟩
 · obtain ⟨b, e, rfl⟩ := hb.get i v (by simpa using hP)
   simp [e,Option.getD_some] at hQ
   exact wpAny_truthy_bool hQ
 · have e:((List.range its.toArray.size).any fun i=>(bs[i]?).getD false)=bs.any id:=by
    rw [List.size_toArray,hb.length]; exact LSm.range_any bs
   rw [e]
   exact ⟨.bl _,H,I.kept (LSm.kept_iter hk),rfl,q⟩
end
end L2
namespace Att
open PySem PySem.W PySem.Calls PyProof.Rows
theorem bits_script:∀ {ns:List Int} {b:Nat},WData.weightAll (ns.map WData.int)<=b->∀ c∈ns,Builtin.Int.intBits c<=b
 | [],_,_=>fun c hc=>by cases hc
 | n :: r, b, h => fun c hc => by
   simp only [List.map_cons,WData.weightAll,WData.weight] at h
   rcases List.mem_cons.mp hc with rfl | hc
   · unfold Builtin.Int.intBits
     omega
   · exact bits_script (ns:=r) (b:=b) (by omega) c hc
theorem attach_callB {l:OpenLaw}
  (hn:l.most=some n) (hdf:d.params.defaults=[])
  (call:∀ w s₀ s₁ mg mb fa o pm cd doc a vs ns,
    Ground q loose [] XP w s₀ mg mb s₁.heap->YP w s₁.heap →
    s₁.heap.get? fa=some o->o.data = .func (docDef d.name d.params d.body d.scope pm cd doc)->s₁.heap.CodeRec cd d.name->mg d.name=some (.ref fa) →
    s₁.heap.get? a=some { cls:=.type "list",data:=.seq vs.toArray }->IntsAre vs ns->ns.length<=n->(∀ c∈ns,Builtin.Int.intBits c<=1048576)->s₁.gens = #[] →
    codeAny (model l.prog w) callerA (.call (.ref fa) ⟨[.ref a],[]⟩) (fun r s'=>r = .ok (.ret (.bool true))/\OldK s₁.heap s'.heap/\s'.os=s₁.os/\AllBare s'.gens) s₁) :
  WalkO q loose XP YP l.row.toRowW d [] (fun f vs=>PySem.call f vs):=by
 intro w s₀ s₁ mg mb G Y fa o pm cd doc dV kV ho hd hcd hD hmg hg args vals as hpre hlay hrd hwl hlo
 obtain rfl:dV = .none:=Dflts.none hD hdf
 obtain rfl:kV = .none:=Dflts.noKw hD
 obtain ⟨a,vs,ns,rfl,rfl,hobj,hints,hlen⟩:=script_of hn hpre hwl
 have hb:∀ c∈ns,Builtin.Int.intBits c<=1048576:=by
  have h1:=(layableW_iff.mp (layW_cons hlay).1).2.2
  exact bits_script (Nat.le_trans h1 (by decide))
 refine enter_call (codeAny_mono (call w s₀ s₁ mg mb fa o pm cd doc a vs ns G Y ho (fd_plain hd) hcd hmg hobj hints hlen hb hg) fun r s' hq=>?_)
 obtain ⟨rfl,h2,h3,h4⟩:=hq
 exact ⟨.inl ⟨.bool true,.bool true,[],rfl,fun _=>rfl,.bool true,post_true l _,fun _=>⟨List.Pairwise.nil,fun _ hm=>(nomatch hm)⟩⟩,h2,h3,h4⟩
end Att
namespace FL
open PySem PySem.Spec PyProof.Rows L2
noncomputable def spLawB (K:Frag) (n:Nat):Sp:=fun vs H Q _=>∃ (a:Addr) (ns:List Int),vs=[.ref a]/\SqL K H a (ns.map V.int)/\ns.length<=n/\(∀ c∈ns,Builtin.Int.intBits c<=1048576)/\∀ H',Q (.bl true) H'
theorem law_ofB {K:Frag} (Fn:FnOk P w K mg base CX0 k f fd [x] (spF K 1 F))
  (h:∀ ns:List Int,ns.length<=n->(∀ c∈ns,Builtin.Int.intBits c<=1048576)->F [.lst (ns.map D.int)]=some (.val (.bl true))):FnOk P w K mg base CX0 k f fd [x] (spLawB K n):=by
 refine Fn.imp fun vs H Q E hq=>?_
 obtain ⟨a,ns,rfl,hS,hl,hb,q⟩:=hq
 refine ⟨rfl,[.lst (ns.map D.int)],.val (.bl true),.cons ?_ .nil,h ns hl hb,fun v H' s r=>?_⟩
 · rcases hS with hS | hS
   · exact .lst (fun z=>z.elim) hS (Reps.ints ns)
   · exact .lstK hS (Reps.ints ns)
 · cases r; exact q H'
open PySem.W (tabIn CodeHd tabObj noTabs tab_of) in
inductive TabL (K:Frag) (q:Program) (ts:List Addr):List Str->List (Str×Addr×Addr)->Prop
 | nil:TabL K q ts [] []
 | yes {x:Str} {xs:List Str} {c P:Addr} {tl:List (Str×Addr×Addr)} (h:tabM K x=some (c,P)) (r:(meths.lookup x=none/\((recsOf q).find? (fun e=>e.name == x)).isSome=true) \/ (PySem.W.codeHdIn K c P=true/\P∈ts)) (ap:(tl.all fun p=>p.2.2 != P)=true) (t:TabL K q ts xs tl):TabL K q ts (x::xs) ((x,c,P)::tl)
 | no {x:Str} {xs:List Str} {tl:List (Str×Addr×Addr)} (h:tabM K x=none) (t:TabL K q ts xs tl):TabL K q ts (x::xs) tl
theorem tabL_no {K:Frag} (h:PySem.W.nsIn K mainGlobals x=some none) (t:TabL K q ts xs tl) (hm:meths.lookup x=none:=by rfl):TabL K q ts (x::xs) tl:=.no (by rw [tabM_is hm]; unfold PySem.W.tabIn; rw [h]) t
theorem tabL_noM {K:Frag} (h:PySem.W.nsIn K mainGlobals C=some none) (t:TabL K q ts xs tl) (hm:meths.lookup x=some (C,m):=by rfl):TabL K q ts (x::xs) tl:=.no (by unfold tabM fnAt; simp [hm,h]) t
theorem tabL_yes {K:Frag} (h1:PySem.W.nsIn K mainGlobals x=some (some (.ref f))) (h2:K.lookup f=some ⟨oc,od,.func fd,sl⟩)
  (h3:fd.code = .ref c) (h4:K.lookup c=some ⟨oc',od',.fields vs,sl'⟩) (h5:(vs[11]? : Option Value)=some (.ref P)) (r:((recsOf q).find? (fun e=>e.name == x)).isSome=true) (t:TabL K q ts xs tl) (ap:(tl.all fun p=>p.2.2 != P)=true) (hm:meths.lookup x=none:=by rfl):TabL K q ts (x::xs) ((x,c,P)::tl) :=
 .yes (by rw [tabM_is hm]; unfold PySem.W.tabIn; simp [h1,h2,h3,h4,h5]) (.inl ⟨hm,r⟩) ap t
theorem tabL_met {K:Frag} (h0:PySem.W.nsIn K mainGlobals C=some (some v)) (h1:PySem.W.findIn K v m=some (some (.ref f))) (h2:K.lookup f=some ⟨oc,od,.func fd,sl⟩)
  (h3:fd.code = .ref c) (h4:K.lookup c=some ⟨oc',od',.fields vs,sl'⟩) (h5:(vs[11]? : Option Value)=some (.ref P)) (r:PySem.W.codeHdIn K c P=true) (hp:P∈ts) (t:TabL K q ts xs tl) (ap:(tl.all fun p=>p.2.2 != P)=true) (hm:meths.lookup x=some (C,m):=by rfl):TabL K q ts (x::xs) ((x,c,P)::tl) :=
 .yes (by unfold tabM fnAt; simp [hm,h0,h1,h2,h3,h4,h5]) (.inr ⟨r,hp⟩) ap t
section
variable {K:Frag} {tl:List (Str×Addr×Addr)}
theorem TabL.get (h:TabL K q ts xs tl):∀ {x:Str} {c P:Addr},x∈xs->tabM K x=some (c,P)->(x,c,P)∈tl:=by
 induction h with
 | nil=>intro x c P hx; cases hx
 | yes h r ap t ih =>
   intro x c P hx ht
   rcases List.mem_cons.mp hx with e | e
   · subst e
     rw [h] at ht
     cases ht
     exact List.mem_cons_self
   · exact List.mem_cons_of_mem _ (ih e ht)
 | no h t ih =>
   intro x c P hx ht
   rcases List.mem_cons.mp hx with e | e
   · subst e
     rw [h] at ht
     cases ht
   · exact ih e ht
theorem TabL.fact (h:TabL K q ts xs tl):∀ p∈tl,tabM K p.1=some (p.2.1,p.2.2)/\((meths.lookup p.1=none/\((recsOf q).find? (fun e=>e.name == p.1)).isSome=true) \/ (PySem.W.codeHdIn K p.2.1 p.2.2=true/\p.2.2∈ts)):=by
 induction h with
 | nil=>intro p hp; cases hp
 | yes h r ap t ih =>
   intro p hp
   rcases List.mem_cons.mp hp with e | e
   · subst e; exact ⟨h,r⟩
   · exact ih p e
 | no h t ih=>exact ih
noncomputable def tabH (K:Frag) (tl:List (Str×Addr×Addr)):Hp:=fun b=>(tl.find? fun p=>p.2.2 == b).map fun p=>.tbl (innerQ K p.1)
theorem vD (e:tabH K tl b=some u):∃ p∈tl,b=p.2.2/\u = .tbl (innerQ K p.1):=by
 obtain ⟨p,h,rfl⟩:=mpd e
 exact ⟨p,List.mem_of_find?_eq_some h,(beq_iff_eq.mp (List.find?_some (p:=fun p:Str×Addr×Addr=>p.2.2 == b) h)).symm,rfl⟩
theorem TabL.at (h:TabL K q ts xs tl):∀ p∈tl,tabH K tl p.2.2=some (.tbl (innerQ K p.1)):=by
 induction h with
 | nil=>intro p hp; cases hp
 | yes h r ap t ih =>
   intro p hp
   rename_i x xs c P tl
   unfold tabH
   rcases List.mem_cons.mp hp with e | e
   · subst e
     simp
   · have:(P == p.2.2)=false:=by
      have:=List.all_eq_true.mp ap p e
      simp only [bne_iff_ne,ne_eq] at this
      exact beq_eq_false_iff_ne.mpr (Ne.symm this)
     rw [List.find?_cons,this]
     exact ih p e
 | no h t ih=>exact ih
end
theorem no_cls {K:Frag} (X:K.In h) (hK:PySem.W.noTabs K=true) (e:K.lookup b=some o) (hb:h.get? b=some (PySem.W.tabObj ps)):False:=by
 have q:=X b o e
 rw [hb] at q
 cases q
 have h2:=List.all_eq_true.mp hK (b,_) (PySem.W.mem_of_lookupK e)
 exact absurd (h2) Bool.false_ne_true
theorem law_callT {K:Frag}
  (KX:K.In s₁.heap) (T:Top q loose mean mg mb s₁.heap) (hts:∀ P∈ts,s₁.heap.get? P=some (PySem.W.tabObj #[])) (hT:TabL K q ts makers tl) (hK:PySem.W.noTabs K=true) (hg:s₁.gens = #[]) (ha:s₁.heap.get? a=some { cls:=.type "list",data:=.seq vs.toArray }) (hi:IntsAre vs ns) (hl:ns.length<=sizeLine) (hr:Room k callerA)
  (F:∀ base,K.In base->base.Ns mainGlobals mg->FnOk P w K mg base CX0 k fa fd [x] sp) (hbind:∀ s u,BindsTo s fd ⟨[u],[]⟩ [(x,u)])
  (hsp:∀ H,SqL K H a (ns.map V.int)->sp [.ref a] H (fun v _=>v = .bl true) fun _ _ _=>False) :
  codeAny (model P w) callerA (.call (.ref fa) ⟨[.ref a],[]⟩) (fun r s'=>r = .ok (.ret (.bool true))/\OldK s₁.heap s'.heap/\s'.os=s₁.os/\AllBare s'.gens) s₁:=by
 have rv:=vals_ints hi
 have tf:∀ p∈tl,PySem.W.CodeHd s₁.heap p.2.1 p.2.2/\s₁.heap.get? p.2.2=some (PySem.W.tabObj #[]):=fun p hp=>by
  obtain ⟨h1,h2⟩:=hT.fact p hp
  rcases h2 with ⟨hm,h2⟩ | ⟨h2,h3⟩
  · obtain ⟨d, hd⟩ := Option.isSome_iff_exists.mp h2
    exact PySem.W.tab_of T KX hd ((tabM_is hm).symm.trans h1)
  · exact ⟨PySem.W.codeHd_of_K KX h2,hts _ h3⟩
 have core:∀ H:Hp,SqL K H a (ns.map V.int)->L2.HOk P w H s₁.heap->(∀ b u,H b=some u->(b=a/\K.lookup a=none/\∃ o xs,u = .frz o (.lst xs)) \/ ∃ p∈tl,b=p.2.2/\u = .tbl (innerQ K p.1))->(∀ p∈tl,H p.2.2=some (.tbl (innerQ K p.1))) →
   codeAny (model P w) callerA (.call (.ref fa) ⟨[.ref a],[]⟩) (fun r s'=>r = .ok (.ret (.bool true))/\OldK s₁.heap s'.heap/\s'.os=s₁.os/\AllBare s'.gens) s₁:=by
  intro H hS hok hA hP
  have free_of:∀ {b:Addr} {o:Obj},s₁.heap.get? b=some o->(∀ its n,o.data≠.seq its n)->o.data≠.fields #[]->H b=none:=fun {b o} e n1 n2=>by
   cases qb:H b with
   | none=>rfl
   | some u =>
     rcases hA b u qb with ⟨rfl,_,_⟩ | ⟨p,hp,rfl,_⟩
     · rw [ha] at e; cases e; exact (n1 _ _ rfl).elim
     · rw [(tf p hp).2] at e; cases e; exact (n2 rfl).elim
  have base_of:∀ {b:Addr} {o:Obj},s₁.heap.get? b=some o->(∀ its n,o.data≠.seq its n)->o.data≠.fields #[]->(hidT s₁.heap H).get? b=some o:=fun e n1 n2=>hidT_get e (free_of e n1 n2)
  have nsK:∀ {b:Addr} {m:Str->Option Value},s₁.heap.Ns b m->(hidT s₁.heap H).Ns b m:=fun {b m} ⟨o,es,ep,e,d,r⟩=>⟨o,es,ep,base_of e (fun _ _ z=>by rw [d] at z; cases z) (fun z=>by rw [d] at z; cases z),d,r⟩
  have hKb:K.In (hidT s₁.heap H):=fun b o e=>hidT_get (KX b o e) (by
   cases qb:H b with
   | none=>rfl
   | some u =>
     rcases hA b u qb with ⟨rfl,z,_⟩ | ⟨p,hp,rfl,_⟩
     · rw [z] at e; cases e
     · exact (no_cls KX hK e (tf p hp).2).elim)
  have hM:Mod K mg (hidT s₁.heap H):=⟨hKb,nsK T.g,⟨mb,nsK T.b,T.builtins⟩,let ⟨mc,h1,h2⟩:=T.nolimit; ⟨mc,nsK h1,h2⟩⟩
  have hTab:TabsK K mg (hidT s₁.heap H) H:=by
   refine ⟨?_,fun y c P' hy ht=>?_⟩
   · obtain ⟨bm, ob, b1, b2, b3, b4, b5, b6⟩ := T.bmain
     exact ⟨bm,ob,b1,b2,base_of b3 (fun _ _ z=>by rw [b6] at z; cases z) (fun z=>by rw [b6] at z; cases z),b4,b5,b6⟩
   · have hm := hT.get hy ht
     refine ⟨?_,hP _ hm⟩
     obtain ⟨o,ws,file,tf',flags,tg,inF,text,tt,e1,r1,r2,r3,rest⟩:=(tf _ hm).1
     refine ⟨o,ws,file,tf',flags,tg,inF,text,tt,base_of e1 (fun _ _ z=>by rw [r2] at z; cases z) (fun z=>?_),r1,r2,r3,rest⟩
     rw [r2] at z
     cases z
     cases r3
  have e0:Env0 P w K mg (hidT s₁.heap H) callerA [] s₁ H:=⟨rfl,hM,fun b o e=>of_hidT e,⟨Nat.le_of_eq (hidT_size _ _),hTab⟩,trivial,fun b hb=>absurd (show b∈([]:List Addr) from hb) (by simp),hok,.of_eq hg⟩
  refine codeAny_mono ((F _ hKb (nsK T.g)).run callerA [] s₁ H ⟨[.ref a],[]⟩ [.ref a] [.ref a] _ _ hr e0 (hbind s₁ (.ref a)) (.cons rfl .nil) (hsp H hS)) fun r s' h=>?_
  cases r with
  | error e=>exact False.elim h
  | ok fl =>
    cases fl with
    | next=>exact False.elim h
    | brk=>exact False.elim h
    | cont=>exact False.elim h
    | ret u =>
      obtain ⟨v,H',os,bare,un,hok',r',hv⟩:=h
      have hv':=hv
      subst hv'
      obtain rfl:u=Value.bool true:=r'
      refine ⟨rfl,⟨fun b o e=>?_,fun b o e=>un.there b o e (by simp)⟩,os,bare⟩
      cases qb:H b with
      | none=>exact .inl (un.keep b o e qb (by intro z; exact absurd (show b∈([]:List Addr) from z) (by simp)) (by simp))
      | some u =>
        rcases hA b u qb with ⟨_,_,ob,xs,rfl⟩ | ⟨p,hp,rfl,rfl⟩
        · obtain ⟨e1, _⟩ := hok b _ qb
          obtain ⟨e2,_⟩:=hok' b _ (un.frzs b ob _ qb)
          rw [e] at e1; cases e1
          exact .inl e2
        · have t2 := (tf p hp).2
          rw [e] at t2
          cases t2
          obtain ⟨ps,e2,_⟩:=hok' _ _ (un.tbls _ _ qb)
          exact .inr (.inl ⟨((tf p hp).1.tab (tf p hp).2).isCodeTable,rfl,#[],ps,rfl,by rw [Array.empty_append]; exact e2⟩)
 have tabOk:∀ (H:Hp) (p:Str×Addr×Addr),p∈tl->ObjOk P w H s₁.heap p.2.2 (.tbl (innerQ K p.1)):=fun H p hp=>⟨#[],(tf p hp).2,trivial,fun pos v z=>by cases z⟩
 cases hk:K.lookup a with
 | some o =>
   have e:=KX a o hk
   rw [ha] at e
   cases e
   refine core (tabH K tl) (.inr ⟨_,vs.toArray,_,hk,rfl,rfl,rfl,by rw [List.size_toArray,hi.length]; exact hl,by simpa using rv⟩) (fun b u z=>?_) (fun b u z=>.inr (vD z)) fun p hp=>hT.at p hp
   obtain ⟨p,hp,rfl,rfl⟩:=vD z
   exact tabOk _ p hp
 | none =>
   have na:∀ p∈tl,p.2.2≠a:=fun p hp z=>by
    have:=(tf p hp).2
    rw [z,ha] at this; cases this
   refine core (upd (tabH K tl) a (.frz { cls:=.type "list",data:=.seq vs.toArray } (.lst (ns.map V.int)))) (.inl (.inr ⟨_,upd_same⟩)) (fun b u z=>?_) (fun b u z=>?_) fun p hp=>by rw [upd_ne (na p hp)]; exact hT.at p hp
   · by_cases hb : b = a
     · subst hb
       rw [upd_same] at z
       cases z
       exact ⟨ha,by rw [List.length_map]; exact hl,vs,_,rv,ha⟩
     · rw [upd_ne hb] at z
       obtain ⟨p,hp,rfl,rfl⟩:=vD z
       exact tabOk _ p hp
   · by_cases hb : b = a
     · subst hb
       rw [upd_same] at z
       cases z
       exact .inl ⟨rfl,hk,_,_,rfl⟩
     · rw [upd_ne hb] at z
       exact .inr (vD z)
theorem walkB {l:PySem.W.OpenLaw} {K:Params->PySem.W.Frag} (hn:l.most=some 63) (hdf:d.params.defaults=[]) (hr:Room k callerA)
  (hY:∀ w h,YP w h->(K w.params).In h/\∀ P∈ts,h.get? P=some (PySem.W.tabObj #[])) (hK:∀ w:World,PySem.W.noTabs (K w.params)=true) (hT:∀ w:World,TabL (K w.params) q ts makers tl)
  (F:∀ w mg fa h,(K w.params).In h->h.Ns mainGlobals mg->mg d.name=some (.ref fa) →
    ∃ fd,(∀ s u,BindsTo s fd ⟨[u],[]⟩ [("_law_script",u)])/\∀ base,(K w.params).In base->base.Ns mainGlobals mg->FnOk l.prog w (K w.params) mg base CX0 k fa fd ["_law_script"] (spLawB (K w.params) 63)) :
  PySem.W.WalkO q loose XP YP l.row.toRowW d [] (fun f vs=>PySem.call f vs):=by
 refine Att.attach_callB hn hdf fun w s₀ s₁ mg mb fa o pm cd doc a vs ns G Y ho hd hcd hmg hobj hints hlen hb hg=>?_
 obtain ⟨KX,KT⟩:=hY w _ Y
 obtain ⟨fd,hbd,hF⟩:=F w mg fa _ KX G.T.g hmg
 exact law_callT KX G.T KT (hT w) (hK w) hg hobj hints (Nat.le_trans hlen (by decide)) hr hF hbd fun H hS=>⟨a,ns,rfl,hS,hlen,hb,fun _=>rfl⟩
structure Cal (P:Program) (w:World) (K:Frag) (mg:Str->Option Value) (base:Heap) (x:Str) (k n:Nat) (F:List D->Option Ret):Prop where
 ex:∃ (f:Addr) (fd:FuncData) (ps:List Str),FnOk P w K mg base CX0 k f fd ps (spF K n F)/\Binds K fd ps []/\PySem.W.keepIn K (.ref f)=true/\mg x=some (.ref f)
section
section
theorem zS (C:Cal X.prog X.w X.K X.mg X.base x k n F) (hr:Room j X.A) (ha:PAn X (e::es) g) (hj:k<=j:=by decide)
  (hg:Gl X x:=by rfl) (hdb:(x == ("__debug__" : Str))=false:=by decide) (he:starEach (e::es) X.env=(false,eval e X.env)::starEach es X.env:=by rfl) (hpl:(backTo pos (starEach es X.env)).any (·.1)=false:=by rfl) :
  PV X (.Call (.Name x p) (e::es) [] pos) (qF n F g):=by
 obtain ⟨f,fd,ps,Fn,hb,hk,hm⟩:=C.ex
 exact pv_callN Fn (hr.mono hj) hm hk hb ha hg hdb he hpl
theorem pvf_callC (C:Cal X.prog X.w X.K X.mg X.base x k n F) (hr:Room j X.A) (ha:PAn X (e::es) g) (hj:k<=j:=by decide)
  (hg:Gl X x:=by rfl) (hdb:(x == ("__debug__" : Str))=false:=by decide) (he:starEach (e::es) X.env=(false,eval e X.env)::starEach es X.env:=by rfl) (hpl:(backTo pos (starEach es X.env)).any (·.1)=false:=by rfl) :
  PVf X (.Call (.Name x p) (e::es) [] pos) (callF n F g):=by
 obtain ⟨f,fd,ps,Fn,hb,hk,hm⟩:=C.ex
 exact pvf_callN Fn (hr.mono hj) hm hk hb ha hg hdb he hpl
end
theorem cs_any:CallS X (fun xs H Q=>∃ (p:Addr) (bs:List Bool),xs=[.ref p]/\SqL X.K H p (bs.map V.bl)/\Q (.bl (bs.any id)) H) anyD:=by
 intro H O vs l d Q ho r e q
 unfold anyD at e
 split at e
 · cases r with
   | cons r rn =>
     cases rn
     obtain ⟨bs,hb,rfl⟩:=mpd e
     obtain ⟨a,xs,rfl,hs,rs⟩:=r.seqL
     refine ⟨a,bs,rfl,?_,q _ H (Same.refl _) (.bl _)⟩
     rw [<- bls_rep rs hb]
     exact hs
 · cases e
theorem pv_any (hc:X.calm=true) (hm:X.mg "any" = none) (ha:PAv X [e] g) (hg:Gl X "any":=by rfl) (he:starEach [e] X.env=[(false,eval e X.env)]:=by rfl) :
  PV X (.Call (.Name "any" p) [e] [] pos) (callB anyD g):=xT (call_anyB hc) cs_any hm (by decide +kernel) ha hg (by decide) (by decide) he rfl
end
section
theorem pv_gt (ha:PVw X a fa) (hb:PVw X b fb):PV X (.Compare a [.Gt] [b] pos) (zE gtD fa fb):=pv_cmp op_gt wG ha hb (nomark _)
theorem pt_lt (ha:PVw X a fa) (hb:PVw X b fb):PTv X (.Compare a [.Lt] [b] pos) (zT (zE ltD fa fb)):=wW op_lt wG ha hb (nomark _)
theorem pt_le (ha:PVw X a fa) (hb:PVw X b fb):PTv X (.Compare a [.LtE] [b] pos) (zT (zE leD fa fb)):=wW op_le wG ha hb (nomark _)
theorem pt_gt (ha:PVw X a fa) (hb:PVw X b fb):PTv X (.Compare a [.Gt] [b] pos) (zT (zE gtD fa fb)):=wW op_gt wG ha hb (nomark _)
theorem pt_ge (ha:PVw X a fa) (hb:PVw X b fb):PTv X (.Compare a [.GtE] [b] pos) (zT (zE geD fa fb)):=wW op_ge wG ha hb (nomark _)
theorem zV (ha:PVw X a fa) (hb:PVw X b fb):PV X (.BinOp a .Add b pos) (zE jD fa fb):=wK op_addU os_add ha hb
theorem jH (ha:PVw X a fa) (hb:PVw X b fb):PV X (.BinOp a .Sub b pos) (zE subD fa fb):=wK op_sub os_sub ha hb
theorem qM (ha:PVw X a fa) (hb:PVw X b fb):PV X (.BinOp a .Mult b pos) (zE jL fa fb):=wK op_mulB os_mul ha hb
theorem xK (ha:PVw X a fa) (hb:PVw X b fb):PV X (.BinOp a .Pow b pos) (zE powD fa fb):=wK op_powB os_pow ha hb
theorem qJ (ha:PVw X a fa) (hb:PVw X b fb):PV X (.BinOp a .Mod b pos) (zE yB fa fb):=wK op_mod os_mod ha hb
theorem jJ (ha:PVw X a fa) (hb:PVw X b fb):PV X (.BinOp a .FloorDiv b pos) (zE jK fa fb):=wK op_fdivB os_fdiv ha hb
end
end FL
namespace L2
open PySem PySem.Spec PyProof.Rows
section
theorem pi_seq (hl:PE X l tl):PI X tg l (fun σ H R=>iList X.K tl σ H R \/ iTup X.K tl σ H R):=by
 intro pins s σ H R I h
 rcases h with h | h
 · exact pi_list hl pins s σ H R I h
 · exact pi_tup hl pins s σ H R I h
end
end L2
namespace FL
open PySem PySem.Spec PyProof.Rows L2
section
theorem qX (h:PV X e f):PIv X tg e (viaA f asLT):=by
 obtain ⟨t,ht,hf⟩:=h
 refine ⟨_,pi_seq ht,fun H₀ H O σ ds hd items R o e q=>?_⟩
 obtain ⟨d,h1,e⟩:=bnd e
 cases d with
 | lst l =>
   cases e
   refine .inl (hf H₀ H O σ ds hd _ _ o h1 fun v H' s r=>?_)
   obtain ⟨a,xs,rfl,hs,rs⟩:=WRep.seqL (.inl r)
   exact ⟨a,rfl,⟨xs,hs⟩,q _ (.ref a,.lst items) H' s r wlk_list⟩
 | tup l =>
   cases e
   refine .inr (hf H₀ H O σ ds hd _ _ o h1 fun v H' s r=>?_)
   obtain ⟨a,xs,rfl,hs,rs⟩:=WRep.seqT (.inl r)
   exact ⟨a,rfl,⟨xs,hs⟩,q _ (.ref a,.tup items) H' s r wlk_tup⟩
 | _=>cases e
end
end FL
namespace L2
open PySem PySem.Spec PyProof.Rows
section
variable {X:Cx} {tg:Expr}
end
end L2
namespace FL
open PySem PySem.Spec PyProof.Rows L2
section
theorem ints_rep {K:Frag} {xs:List V} {l:List D} {bs:List Int} (h:Reps K H O xs l):intsD l=some bs->xs=bs.map V.int :=
 h.ind (m:=fun xs l=>∀ {bs},intsD l=some bs->xs=bs.map V.int) (fun e=>by cases e; rfl) fun {_ d _ _} h i _ e=>by
  cases d with
  | int b =>
    simp only [intsD] at e
    obtain ⟨r,hr,rfl⟩:=mpd e
    cases h
    rw [i hr]
    rfl
  | _=>cases e
theorem psv_augA (hN:X.N.Nodup) (he:PV X e f) (hi:X.N[i]? = some x:=by rfl) (hx:Loc X.env.scope x:=by first | exact Or.inl rfl | exact Or.inr rfl)
  (hf:X.fn x=true \/ X.env.scope.names.lookup x=some .local:=by first | exact .inl rfl | exact .inr rfl):PSv X (.AugAssign (.Name x pos') .Add e pos) (augA i f):=by
 obtain ⟨t,ht,hg⟩:=he
 refine ⟨_,ps_aug hN hi hx ht ip_add hf,fun H₀ H O σ ds hd out E o e h=>?_⟩
 unfold augA zZ at e
 cases hs:ds[i]? with
 | none=>rw [hs] at e; cases e
 | some sl =>
   rw [hs] at e
   cases sl with
   | no=>cases e
   | exc _=>cases e
   | exf _ _=>cases e
   | fr _=>cases e
   | ob _ _=>cases e
   | own l=>cases e
   | v dx =>
     simp [Option.bind_some] at e
     obtain ⟨dy,h1,e⟩:=bnd e
     cases dx <;> first | (cases e; done) | skip
     cases dy <;> first | (cases e; done) | skip
     cases e
     obtain ⟨v,q1,q2⟩:=o.read hs
     cases q2
     refine ⟨_,q1,hg H₀ H O σ ds hd _ _ o h1 fun v H' s r=>?_⟩
     cases r
     exact ⟨_,_,rfl,rfl,h _ _ _ ((o.mono s).set (.int _))⟩
end
end FL
namespace L2
open PySem PySem.Spec PyProof.Rows
section
theorem Inv.turnedS {ch:List Addr} (I:Inv X pins σ H s) (k:∀ b o,b ∉ ch->s.heap.get? b=some o->h'.get? b=some o) (hf:∀ b∈ch,FpOk X pins H b):Inv X pins σ H { s with heap:=h',toks:=t' }:=by
 have nit:∀ b u,H b=some u->b ∉ ch:=fun b u e z=>by rw [(hf b z).1] at e; cases e
 refine I.step (fun b hb=>?_) (fun b o _ _ hc e _=>k b o hc e) (fun b o _ _ hc e _=>⟨o.slots,k b o hc e⟩) (fun _ _ _ _ n=>n)
  (fun b o hc e=>⟨o,k b o hc e⟩) (fun _ _ e=>e) (fun _ _ _ e=>e) (fun _ _ e=>e) (fun m hm=>?_) (fun b u e=>?_) I.bare
 · obtain ⟨f0, f1, f2, f3, f4, f5⟩ := hf b hb
   exact ⟨f3,f1,f4,f5⟩
 · obtain ⟨o, es, ep, ho, r⟩ := hm
   exact ⟨o,es,ep,k _ o (fun z=>(hf _ z).2.1 rfl) ho,r⟩
 · refine (I.hok b u e).stay (fun c v hc q => k c v ?_ q) (fun _ q => q) fun _ _ q => q
   rcases hc with z | z
   · rw [z]; exact nit b u e
   · exact nit c _ z
end
section
end
end L2
namespace FL
open PySem PySem.Spec PyProof.Rows L2
section
variable {X:Cx}
section
end
end
end FL
namespace L2
open PySem PySem.Spec PyProof.Rows
section
variable {X:Cx}
end
end L2
namespace FL
open PySem PySem.Spec PyProof.Rows L2
section
variable {X:Cx}
end
section
variable {X:Cx}
theorem toPys_map:∀ l:List D,toPys l=l.map toPy
 | []=>rfl
 | d::r=>by rw [toPys,toPys_map r]; rfl
theorem any_toPys (l:List D) (x:D):(toPys l).any (fun y=>PyData.eqv y (toPy x))=l.any fun z=>eqvD z x:=by
 rw [toPys_map,List.any_map]
 rfl
noncomputable def rInE (X:Cx) (neg:Bool):R2:=fun x y H Q=>∃ dx l,Rep X.K H jY x dx/\Rep X.K H jY y (.lst l)/\shal 40 dx=true/\shals 40 l=true/\Q (.bl (if neg=true then !l.any (fun z=>eqvD z dx) else l.any fun z=>eqvD z dx)) H
theorem lst_facts {l:List D} (b2:(toPy (.lst l)).canLay0=true):PyData.canLayAll0 (toPys l)=true:=by simpa [toPy,PyData.canLay0] using b2
theorem op_inE (hu:X.A.units+100 < cLine):OpR X (compareOp .In) (rInE X false):=by
 intro pins s σ H x y v u Q I rx ry h
 obtain ⟨dx,l,r1,r2,s1,s2,q⟩:=h
 obtain ⟨as,a1,a2,a3⟩:=r1.reads I rx s1
 obtain ⟨bs,b1,b2,b3⟩:=r2.reads I ry (show shal 40 (.lst l)=true by simpa [shal] using s2)
 refine SeqAt.in_list_reads (xs:=toPys l) (by simpa [toPy] using b1) a1 (lst_facts b2) a2 (by have:=Nat.min_le_right (PyData.depthAll (toPys l)) (toPy dx).depth; omega) ⟨.bl _,H,I,rfl,?_⟩
 rw [any_toPys]
 simpa using q
theorem op_notInE (hu:X.A.units+100 < cLine):OpR X (compareOp .NotIn) (rInE X true):=by
 intro pins s σ H x y v u Q I rx ry h
 obtain ⟨dx,l,r1,r2,s1,s2,q⟩:=h
 obtain ⟨as,a1,a2,a3⟩:=r1.reads I rx s1
 obtain ⟨bs,b1,b2,b3⟩:=r2.reads I ry (show shal 40 (.lst l)=true by simpa [shal] using s2)
 refine SeqAt.notIn_list_reads (xs:=toPys l) (by simpa [toPy] using b1) a1 (lst_facts b2) a2 (by have:=Nat.min_le_right (PyData.depthAll (toPys l)) (toPy dx).depth; omega) ⟨.bl _,H,I,rfl,?_⟩
 rw [any_toPys]
 simpa using q
theorem on_inE {neg:Bool} : OpN X (rInE X neg) (inE neg):=by
 intro H O x y dx dy d Q rx ry e q
 unfold inE at e
 cases dy <;> first | (cases e; done) | skip
 rename_i l
 simp only at e
 split at e
 · rename_i hs
   cases e
   exact ⟨dx,l,rx,ry,hs.1,hs.2,q _ H (Same.refl _) (.bl _)⟩
 · cases e
theorem pv_inE {a b:Expr} {fa fb:FE} {pos:Pos} {k:Nat} (hr:Room k X.A) (ha:PVn X a fa) (hb:PVn X b fb) (hm:behindInMarks .In b=false:=by rfl):PV X (.Compare a [.In] [b] pos) (zE (inE false) fa fb):=vK (op_inE (hu100 hr)) on_inE ha hb hm
theorem pt_inE {a b:Expr} {fa fb:FE} {pos:Pos} {k:Nat} (hr:Room k X.A) (ha:PVn X a fa) (hb:PVn X b fb) (hm:behindInMarks .In b=false:=by rfl):PTv X (.Compare a [.In] [b] pos) (zT (zE (inE false) fa fb)):=wB (op_inE (hu100 hr)) on_inE ha hb hm
theorem pt_notinE {a b:Expr} {fa fb:FE} {pos:Pos} {k:Nat} (hr:Room k X.A) (ha:PVn X a fa) (hb:PVn X b fb) (hm:behindInMarks .NotIn b=false:=by rfl):PTv X (.Compare a [.NotIn] [b] pos) (zT (zE (inE true) fa fb)):=wB (op_notInE (hu100 hr)) on_inE ha hb hm
end
section
variable {X:Cx}
end
end FL
namespace L2
open PySem PySem.Spec PyProof.Rows
section
theorem call_sumL (hc:X.calm=true):CallR X (.builtin "sum") (fun xs H Q=>∃ (p:Addr) (ns:List Int),xs=[.ref p]/\SqL X.K H p (ns.map V.int)/\Q (.int ns.sum) H):=by
 intro pins s σ H xs us Q I r h
 obtain ⟨p,ns,rfl,hq,q⟩:=h
 obtain ⟨u,rfl,ru⟩:=vals1 r
 cases ru
 obtain ⟨its,rv,pl,hz⟩:=I.list hq
 have hi:=intsAre_of rv
 have hl:=pl.isList
 obtain ⟨xs,e⟩:=hi.allInts.items
 have hns:ns=xs.toList.map (·.1):=by
  rw [<- hi.numsOf,<- nums_intItems,<- e]
 rw [e] at hl
 refine sum_intListG (I.ok.hd hc) hl fun h' tk t' hk=>?_
 rw [preSum_eq,List.take_of_length_le (by simp),<- hns]
 exact ⟨.int ns.sum,H,I.kept hk,⟨t',rfl⟩,q⟩
end
end L2
namespace FL
open PySem PySem.Spec PyProof.Rows L2
section
theorem cs_sumL:CallS X (fun xs H Q=>∃ (p:Addr) (ns:List Int),xs=[.ref p]/\SqL X.K H p (ns.map V.int)/\Q (.int ns.sum) H) sumD:=by
 intro H O vs l d Q ho r e q
 unfold sumD at e
 split at e
 · cases r with
   | cons r rn =>
     cases rn
     obtain ⟨ns,hb,rfl⟩:=mpd e
     obtain ⟨a,xs,rfl,hs,rs⟩:=r.seqL
     refine ⟨a,ns,rfl,?_,q _ H (Same.refl _) (.int _)⟩
     rw [<- ints_rep rs hb]
     exact hs
 · cases e
theorem pv_sum (hc:X.calm=true) (hm:X.mg "sum" = none) (ha:PAv X [e] g) (hg:Gl X "sum":=by rfl) (he:starEach [e] X.env=[(false,eval e X.env)]:=by rfl) :
  PV X (.Call (.Name "sum" p) [e] [] pos) (callB sumD g):=xT (call_sumL hc) cs_sumL hm (by decide +kernel) ha hg (by decide) (by decide) he rfl
end
end FL
namespace L2
open PySem PySem.Spec PyProof.Rows
section
variable {X:Cx}
end
end L2
namespace FL
open PySem PySem.Spec PyProof.Rows L2
section
theorem PVd.v (h:PVd X e f):PV X e f:=by
 obtain ⟨t,ht,hf⟩:=h
 exact ⟨t,ht,fun H₀ H O σ ds hd d Q o e q=>hf H₀ H O σ ds hd d Q o e fun v H' s r=>q v H' s (r.less fun a z=>o.old z)⟩
section
end
end
noncomputable def eH:Hp:=fun _=>none
def Keepx (x:Addr) (H H':Hp):Prop:=∀ b o,b≠x->H b=some o->H' b=some o
theorem Keepx.trans (a:Keepx x H H1) (b:Keepx x H1 H2):Keepx x H H2:=fun c o n e=>b c o n (a c o n e)
section
variable {K:Frag} {H H':Hp} {O:Addr->Prop} {x:Addr}
end
section
variable {X:Cx}
end
section
variable {X:Cx} {g:FA}
end
theorem kit_self {K:Frag} C:PySem.W.kitOne K (.ref C) (.ref C)=some true:=by unfold PySem.W.kitOne; rw [if_pos (by simp)]
theorem kit_no {K:Frag} (u:PySem.W.isClsIn K C=true) (y:PySem.W.typeIn K (.ref C)=some (.type "type")) (s:PySem.W.subIn K (.ref C') (.ref C)=some false) (n:(Value.ref C' == Value.ref C)=false):PySem.W.kitOne K (.ref C') (.ref C)=some false:=by
 unfold PySem.W.kitOne
 rw [n,if_neg (by decide)]
 unfold PySem.W.kitCls
 simp only
 rw [show (PySem.W.clsIn K C).isSome=true from u,y,if_pos (by simp),s]
section
end
section
theorem vP (hm:∃ t,X.mg x=some (.int i t)) (hg:Gl X x:=by rfl) (hd:(x == ("__debug__" : Str))=false:=by decide):PV X (.Name x pos) (zA (.int i)) :=
 let ⟨t,h⟩:=hm
 pv_glob (v:=.int i) hg h ⟨t,rfl⟩ (fun _ _=>.int i) hd
end
section
variable {X:Cx}
end
section
variable {X:Cx} {k j n:Nat} {F:List D->Option Ret} {x:Str} {p pos:Pos} {e:Expr} {es:List Expr} {g:FA}
end
end FL
namespace PySem
open Sem (wp)
section
variable {prog:Program} {w:World} {A:Around} {R:Result->Shared->Prop} {I:Addr} {fp wr:List Addr} {n:Nat} {P:Nat->Value->Prop} {St:Nat->Heap->Prop} {kw:List (Str×Value)}
end
section
variable {prog:Program} {w:World} {A:Around} {E:Value->Shared->Prop} {s:Shared}
end
end PySem
namespace FL
open PySem PySem.Spec PyProof.Rows L2
section
variable {X:Cx}
end
open PySem.Calls PySem.Builtin PySem.Builtin.ObjectAttr PySem.Builtin.Getset_descriptor
open PySem.W (Looks looks_findIn looks_mroIn findIn mroIn specialIn takesIn KitX)
structure XIn (K:Frag) (C:Addr):Prop where
 ga:findIn K (.ref C) "__getattribute__" = some (some (.builtin "BaseException.__getattribute__"))
 gt:findIn K (.ref C) "__getattr__" = some none
 cl:findIn K (.ref C) "__class__" = some (some (.builtin "object.__class__"))
 ob:mroIn K C (.type "object")=some true
 be:mroIn K C (.type "BaseException")=some true
section
variable {prog:Program} {w:World} {A:Around} {E:Value->Shared->Prop} {h:Heap} {g:Array GenState} {d:Drawn} {t:Nat} {os:OsState} {a C:Addr} {o:Obj} {K:Frag}
theorem wT {M:Model} (hx:h.get? a=some o) (hc:o.cls = .ref C):Looks M h (typeOf (.ref a)) (.ref C):=hc ▸ (PySem.W.Looks.ld hx).andThen .now
theorem x_class_get {R:Result->Shared->Prop} {tp:Value} (X:K.In h) (hx:h.get? a=some o) (hc:o.cls = .ref C) (I:XIn K C) (hq:R (.ok (.ret (.ref C))) ⟨h,g,d,t,os⟩) :
  codeAny (model prog w) A (.call (.builtin "getset_descriptor.__get__") ⟨[.builtin "object.__class__",.ref a,tp],[]⟩) R ⟨h,g,d,t,os⟩:=by
 have L0:=wT (M:=model prog w) hx hc
 have L1:=looks_mroIn (M:=model prog w) X I.ob
 refine codeAny_call_builtin PySem.W.KF.slot_gs.plain PySem.W.KF.entry_gs (PySem.W.KF.slot_gs.check _ _ _ _ _ _ _ _ PySem.W.KF.type_class (PySem.W.KF.args_gs _ _ _) ?_)
 unfold Builtin.«getset_descriptor.__get__» descrGet
 rw [PySem.W.dga_obj]
 refine wpAny_bind (wpAny_pure ?_)
 unfold descrGetter descrCheckInstance descrNameAndClass isInstance
 simp only [PySem.W.KF.owner_class]
 repeat lk
 refine ⟨Code.quiet_builtin _ (by decide +kernel),codeAny_builtin PySem.W.KF.entry_class ?_⟩
 unfold Builtin.«object.__class__» shownTypeOf
 repeat lk
 exact hq
theorem x_check_ga {M:Model} {nameV:Value} {Q:Unit->Shared->Prop} (X:K.In h) (hx:h.get? a=some o) (hc:o.cls = .ref C) (I:XIn K C) (hq:Q () ⟨h,g,d,t,os⟩) :
  wpAny M A (checkBuiltinCall "BaseException.__getattribute__" ⟨[.ref a,nameV],[]⟩) Q E ⟨h,g,d,t,os⟩:=by
 have hk:builtinKind "BaseException.__getattribute__" = some .slot:=by decide +kernel
 have hsplit:splitId "BaseException.__getattribute__" = some ("BaseException","__getattribute__"):=by decide +kernel
 have L0:=wT (M:=M) hx hc
 have L1:=looks_mroIn (M:=M) X I.be
 have ha:=F.args_bexc_ga (.ref a) nameV
 simp only [checkBuiltinCall,hk,hsplit]
 refine wpAny_bind ?_
 · unfold isInstance
   repeat (first | with_reducible refine L0.at ?_ | with_reducible refine L1.at ?_ | wp_step)
   exact hq
theorem x_entry {tk:Tok} {Q:Fin->Shared->Prop} (X:K.In h) (hx:h.get? a=some o) (hc:o.cls = .ref C) (I:XIn K C) (hq:Q (.done (.ret (.ref C))) ⟨h,g,d,t,os⟩) :
  wpAny (model prog w) A (Builtin.«object.__getattribute__» ⟨[.ref a,.str "__class__" tk],[]⟩) Q E ⟨h,g,d,t,os⟩:=by
 have L0:=wT (M:=model prog w) hx hc
 have L1:=looks_findIn (M:=model prog w) X I.cl
 have hT5:(⟨h,g,d,t,os⟩:Shared).TypeIs (.builtin "object.__class__") "getset_descriptor":=F.typeOf_object_class
 have f5:=F.typeOf_object_class
 have f6:=F.slot_gs_get.lookup
 have f7:=F.slot_gs_set.lookup
 repeat (any_goals (first | assumption | with_reducible refine L0.at ?_ | with_reducible refine L1.at ?_ | wp_step))
 refine x_class_get X hx hc I ?_
 repeat (any_goals (first | assumption | wp_step))
theorem x_call {tk:Tok} {R:Result->Shared->Prop} (X:K.In h) (hx:h.get? a=some o) (hc:o.cls = .ref C) (I:XIn K C) (hq:R (.ok (.ret (.ref C))) ⟨h,g,d,t,os⟩) :
  codeAny (model prog w) A (.call (.builtin "BaseException.__getattribute__") ⟨[.ref a,.str "__class__" tk],[]⟩) R ⟨h,g,d,t,os⟩ :=
 codeAny_call_builtin F.attr_ValueError.ga.plain F.entry_bexc_ga (x_check_ga X hx hc I (x_entry X hx hc I hq))
theorem x_by {tk:Tok} {fill expr:Bool} {Q:Value->Shared->Prop} (X:K.In h) (hx:h.get? a=some o) (hc:o.cls = .ref C) (I:XIn K C) (hq:Q (.ref C) ⟨h,g,d,t,os⟩) :
  wpAny (model prog w) A (getAttrBy (.ref a) (.str "__class__" tk) fill expr) Q E ⟨h,g,d,t,os⟩:=by
 have L0:=wT (M:=model prog w) hx hc
 have L1:=looks_findIn (M:=model prog w) X I.ga
 have L2:=looks_findIn (M:=model prog w) X I.gt
 have f3:=F.attr_ValueError.ga.bind (.ref a)
 have hx0:(expr && onTheHeap (Value.builtin "BaseException.__getattribute__"))=false:=by cases expr <;> rfl
 have hx2:(Value.builtin "BaseException.__getattribute__" == Value.builtin "object.__getattribute__")=false:=by decide +kernel
 have hx1:(onTheHeap (Value.ref C) && Value.builtin "BaseException.__getattribute__" == Value.builtin "object.__getattribute__")=false:=by rw [hx2]; rfl
 repeat (any_goals (first | assumption | with_reducible refine L0.at ?_ | with_reducible refine L1.at ?_ | with_reducible refine L2.at ?_ | wp_step))
 refine x_call X hx hc I ?_
 repeat (any_goals (first | assumption | wp_step))
theorem x_attr {Q:Option Value->Shared->Prop} (X:K.In h) (hx:h.get? a=some o) (hc:o.cls = .ref C) (I:XIn K C) (hq:Q (some (.ref C)) ⟨h,g,d,t+1,os⟩) :
  wpAny (model prog w) A (getAttr? (.ref a) "__class__") Q E ⟨h,g,d,t,os⟩:=by
 unfold getAttr? getAttrBy?
 repeat (any_goals (first | assumption | with_reducible apply x_by X hx hc I | wp_step))
def IsX (a C:Addr) (h:Heap):Prop:=∃ o,h.get? a=some o/\o.cls = .ref C
theorem kitx_exc (I:XIn K C):KitX K (.ref a) (.ref C) (IsX a C) where
 ty:=fun _ _ _ ⟨o,h1,h2⟩=>wT h1 h2
 it:=fun _ _ X _=>by
  have hm:=I.ob
  unfold mroIn at hm
  obtain ⟨cd,hcD,hm⟩:=bnd hm
  unfold PySem.W.clsIn at hcD
  split at hcD
  · rename_i c' d' cd' sl' ho
    intro A' Q' E' s' k q
    unfold isType loadHead
    exact wpAny_bind (wpAny_loadPart (k _ _ (X _ _ ho)) (wpAny_pure q))
  · cases hcD
 ne:=fun h tp dd its n sl X htp=>by
  have hm:=I.ob
  unfold mroIn at hm
  obtain ⟨cd,hcD,hm⟩:=bnd hm
  refine Bool.eq_false_iff.mpr fun q=>?_
  have e:C=tp:=Value.ref.inj (beq_iff_eq.mp q)
  subst e
  unfold PySem.W.clsIn at hcD
  split at hcD
  · rename_i c' d' cd' sl' ho
    have z:=(X _ _ ho).symm.trans htp
    cases z
  · cases hcD
 ca:=fun {prog w A E Q s} X p k=>by
  obtain ⟨o,h1,h2⟩:=p
  obtain ⟨h,g,d,t,os⟩:=s
  exact x_attr X h1 h2 I k
end
end FL
namespace FL
open PySem PySem.Spec PyProof.Rows L2
theorem dict_mapFields (o:Obj) (f:Array Value->Array Value):(Obj.mapFields f o).dict=o.dict:=by
 unfold Obj.mapFields
 split <;> rfl
def Fl2 (B:Heap) (l:List Env) (e:Addr) (cls:Value) (a0:Value×Option Addr) (fl:Value) (h:Heap):Prop:=B.StaysIn h/\B.get? e=none/\h.FunFrames B l ∧
 ∃ oe vs T oT ts,h.get? e=some oe/\((oe.cls=cls/\oe.dict=a0.2)/\vs[0]? = some a0.1/\vs[2]? = some .none)/\oe.data = .fields vs/\vs[1]? = some (.ref T)/\B.get? T=none/\T≠e/\h.get? T=some oT/\oT.data = .fields ts/\ts[3]? = some fl
section
variable {M:Model} {A:Around} {E:Value->Shared->Prop} {s:Shared} {B:Heap} {l outer:List Env} {env:Env} {e L:Addr} {cls fl:Value} {a0:Value×Option Addr} {oe:Obj} {vs:Array Value} {Q:Unit->Shared->Prop}
theorem set2 {v:Option Addr} (R:Fl2 B l e cls a0 fl s.heap) (h:∀ h',Fl2 B l e cls a0 (v.elim .none fun f=>rawInt f) h'->s.heap.UpToSlots h'->Q () { s with heap:=h' }):wpAny M A (setFlight (.ref e) v) Q E s:=by
 obtain ⟨r1,r2,r3,oe,vs,T,oT,ts,q1,q2,q3,q4,q5,q6,q7,q8,q9⟩:=R
 have hz:3 < ts.size:=(Array.getElem?_eq_some_iff.mp q9).1
 have ot:∀ b,b≠T->(s.heap.update T (Obj.mapFields (·.setIfInBounds 3 (v.elim .none fun f=>rawInt f)))).get? b=s.heap.get? b:=fun b hb=>Heap.get?_update_other _ _ (Ne.symm hb)
 have nr:∀ b o,s.heap.get? b=some o->(∀ vs,o.data≠.fields vs)->b≠T:=fun b o hb hn z=>by
  rw [z,q7] at hb
  cases hb
  exact hn _ q8
 unfold setFlight
 refine wpAny_bind (wpAny_field q1 q3 q4 ?_)
 rw [if_pos (by simp)]
 refine wpAny_setField q7 q8 hz (h _ ⟨fun b o hb=>(ot b fun z=>?_).trans (r1 b o hb),r2,r3.of_keeps fun b o hb hn=>⟨o,(ot b (nr b o hb hn)).trans hb,rfl⟩,?_⟩ fun b o hb hn=>⟨o.slots,(ot b (nr b o hb hn)).trans hb⟩)
 · rw [z,q5] at hb; cases hb
 · exact ⟨oe,vs,T,_,_,(ot e (Ne.symm q6)).trans q1,q2,q3,q4,q5,q6,Heap.get?_update_self _ q7 (Obj.isFreed_of_fields (Obj.data_mapFields q8 _)),Obj.data_mapFields q8 _,by simp [hz]⟩
theorem entry2 {head:Value} {had:Bool} (hfr:A.frames=some (env::outer)) (hl:s.heap.FunFrames B (env::outer)) (hf:env.frame=some L) (he:s.heap.get? e=some oe) (hk:B.StaysIn s.heap) (hn:B.get? e=none) (hd:oe.data = .fields vs) (hc:(oe.cls=cls/\oe.dict=a0.2)/\vs[0]? = some a0.1/\vs[2]? = some .none)
  (h:∀ h',Fl2 B (env::outer) e cls a0 (rawInt L) h'->s.heap.UpToSlots h'->Q () { s with heap:=h' }) :
  wpAny M A (do let a <- frameOf env; let pl <- entryPlaceOf L had; let b <- EntryCells.newEntry head a .none (rawInt L) .none pl; setField (.ref e) 1 b) Q E s:=by
 have ne:e ∉ (env::outer).filterMap (·.frame):=fun hm=>by
  obtain ⟨_,o,ho,hx⟩:=hl.mem hm
  rw [he] at ho
  cases ho
  exact hx vs hd
 have hsz:1 < vs.size:=by have:=(Array.getElem?_eq_some_iff.mp hc.2.2).1; omega
 refine wpAny_bind (wpAny_frameOf_fun hfr hl hf fun h1 s1=>wpAny_bind (wpAny_entryPlaceOf fun pl hpl=>?_))
 unfold EntryCells.newEntry newFields
 refine wpAny_bind (wpAny_newObj_type ?_ (hpl.sizeOk5 _ _ _ _ _))
 have e1:h1.get? e=some oe:=(s1.2.1 e ne).trans he
 have k1:B.StaysIn h1:=fun b o q=>(s1.2.1 b fun hm=>by rw [(hl.mem hm).1] at q; cases q).trans (hk b o q)
 have te:h1.objs.size≠e:=Nat.ne_of_gt (Heap.lt_size e1)
 have ot:∀ (O:Obj) b o,b≠e->h1.get? b=some o->((h1.push O).update e (Obj.mapFields (·.setIfInBounds 1 (Value.ref h1.objs.size)))).get? b=some o:=fun O b o hb q=>(Heap.get?_update_other _ _ (Ne.symm hb)).trans (Heap.get?_push_of_some _ q)
 have nr:∀ b o,s.heap.get? b=some o->(∀ vs,o.data≠.fields vs)->b≠e:=fun b o q hx z=>by
  rw [z,he] at q
  cases q
  exact hx vs hd
 have d3:=Obj.data_mapFields hd (·.setIfInBounds 1 (Value.ref h1.objs.size))
 refine wpAny_setField (Heap.get?_push_of_some _ e1) hd hsz (h _ ⟨fun b o q=>ot _ b o (fun z=>by rw [z,hn] at q; cases q) (k1 b o q),hn,hl.of_keeps fun b o q hx=>?_,?_⟩ fun b o q hx=>?_)
 · obtain ⟨sl, z⟩ := s1.2.2 b o q
   exact ⟨_,ot _ b _ (nr b o q hx) z,rfl⟩
 · refine ⟨_, _, h1.objs.size, _, _, Heap.get?_update_self _ (Heap.get?_push_of_some _ e1) (Obj.isFreed_of_fields d3), ⟨⟨(Obj.cls_mapFields _ _).trans hc.1.1, (dict_mapFields _ _).trans hc.1.2⟩, ?_, ?_⟩, d3, by simp [hsz], k1.fresh, te, (Heap.get?_update_other _ _ (Ne.symm te)).trans (Heap.get?_push_size _ rfl), rfl, by first | (simp; done) | (rcases hpl with rfl | ⟨_, _, _, _, _, _, _, rfl⟩ <;> simp)⟩
   · rw [Array.getElem?_setIfInBounds_ne (by decide)]; exact hc.2.1
   · rw [Array.getElem?_setIfInBounds_ne (by decide)]; exact hc.2.2
 · obtain ⟨sl, z⟩ := s1.2.2 b o q
   exact ⟨sl,ot _ b _ (nr b o q hx) z⟩
theorem note2 (hfr:A.frames=some (env::outer)) (hf:env.frame=some L) (R:Fl2 B (env::outer) e cls a0 .none s.heap) (h:∀ h',Fl2 B (env::outer) e cls a0 (rawInt L) h'->s.heap.UpToSlots h'->Q () { s with heap:=h' }):wpAny M A (noteFrame (.ref e) env) Q E s:=by
 obtain ⟨r1,r2,r3,oe,vs,T,oT,ts,q1,q2,q3,q4,q5,q6,q7,q8,q9⟩:=R
 have ot:∀ b,b≠T->(s.heap.update T (Obj.mapFields (·.setIfInBounds 3 Value.none))).get? b=s.heap.get? b:=fun b hb=>Heap.get?_update_other _ _ (Ne.symm hb)
 have nr:∀ b o,s.heap.get? b=some o->(∀ vs,o.data≠.fields vs)->b≠T:=fun b o hb hn z=>by
  rw [z,q7] at hb
  cases hb
  exact hn _ q8
 unfold noteFrame
 simp only [hf]
 refine wpAny_bind (wpAny_field q1 q3 q4 ?_)
 rw [if_pos (by simp)]
 refine wpAny_bind (wpAny_field q7 q8 q9 ?_)
 rw [if_neg (by simp [rawInt])]
 refine wpAny_bind (wpAny_setField q7 q8 (Array.getElem?_eq_some_iff.mp q9).1 ?_)
 exact entry2 hfr (r3.of_keeps fun b o hb hn=>⟨o,(ot b (nr b o hb hn)).trans hb,rfl⟩) hf ((ot e (Ne.symm q6)).trans q1) (fun b o hb=>(ot b fun z=>by rw [z,q5] at hb; cases hb).trans (r1 b o hb)) r2 q3 q2 fun h' f u=>h h' f fun b o hb hn=>u b o ((ot b (nr b o hb hn)).trans hb) hn
theorem Fl2.tail (R:Fl2 B (env::outer) e cls a0 fl s.heap):Fl2 B outer e cls a0 fl s.heap:=let ⟨k1,k2,⟨_,_,k3⟩,k4⟩:=R; ⟨k1,k2,k3,k4⟩
theorem made2 {h:Heap} {args:List Value} (hfr:A.frames=some (env::outer)) (hf:env.frame=some L) (hk:B.StaysIn h) (hl:h.FunFrames B (env::outer)) (hx:Heap.MadeExcOf h s.heap e cls args)
  (hQ:∀ h' t,Fl2 B outer e cls (.ref t,none) .none h'->s.heap.UpToSlots h'->Q () { s with heap:=h' }):wpAny M A (leaving env (.ref e)) Q E s:=by
 obtain ⟨t,he,_,_⟩:=hx.there
 have hn:B.get? e=none:=by
  cases q:B.get? e with
  | none=>rfl
  | some o=>have:=hk e o q; rw [hx.new] at this; cases this
 unfold leaving noteFrame
 simp only [hf]
 refine wpAny_bind (wpAny_bind (wpAny_field he rfl (x:=Value.none) rfl ?_))
 rw [if_neg (by decide)]
 refine entry2 (a0:=(.ref t,none)) hfr (hl.of_keeps fun b o hb _=>⟨o,hx.keeps b o hb,rfl⟩) hf he (fun b o hb=>hx.keeps b o (hk b o hb)) hn rfl ⟨⟨rfl,rfl⟩,rfl,rfl⟩ fun h1 f1 u1=>set2 (s:={ s with heap:=h1 }) f1 fun h2 f2 u2=>hQ h2 t ?_ (u1.trans u2)
 obtain ⟨k1,k2,⟨_,_,k3⟩,k4⟩:=f2
 exact ⟨k1,k2,k3,k4⟩
end
def HdA (A:Around) (H:Hp):Prop:=∃ ea oe u vs,A.handled=some (.ref ea)/\H ea=some (.frz oe u)/\oe.data = .fields vs/\vs[2]? = some .none
def HdP (X:Cx):Prop:=HdA X.A X.H₀
open PySem.W (hideAll hideAll_get of_hideAll hideAll_none funFrames_hide excIn tail_of_in nsMap_none_of_in isNs_of_in)
theorem obj_get {P:Program} {w:World} {H:Hp} {h:Heap} {a:Addr} {o:HO} (x:ObjOk P w H h a o):∃ u,h.get? a=some u:=by
 cases o with
 | lst xs=>obtain ⟨_,_,_,_,e⟩:=x; exact ⟨_,e⟩
 | tup xs=>obtain ⟨_,_,_,_,e,_⟩:=x; exact ⟨_,e⟩
 | dK kvs=>obtain ⟨_,_,_,_,o,_,_,e,_⟩:=x; exact ⟨_,e⟩
 | dT kvs=>obtain ⟨_,_,_,_,o,_,_,e,_⟩:=x; exact ⟨_,e⟩
 | set S n=>obtain ⟨o,_,_,_,e,_⟩:=x; exact ⟨_,e⟩
 | ins C dx fs=>obtain ⟨_,_,_,e,_⟩:=x; exact ⟨_,e⟩
 | own y=>obtain ⟨_,e⟩:=x; exact ⟨_,e⟩
 | xd fs=>obtain ⟨_,⟨_,_,_,e,_⟩,_⟩:=x; exact ⟨_,e⟩
 | rng lo hi=>obtain ⟨_,_,_,e⟩:=x; exact ⟨_,e⟩
 | frz ob u=>obtain ⟨e,_⟩:=x; exact ⟨_,e⟩
 | tbl ps=>obtain ⟨_,e,_⟩:=x; exact ⟨_,e⟩
 | met f y=>exact ⟨_,(show h.get? a=some _ from x)⟩
 | ext φ=>obtain ⟨_,⟨_,e⟩,_⟩:=x; exact ⟨_,e⟩
structure Thrown (P:Program) (w:World) (outer:List Env) (H:Hp) (s:Shared) (cls:Value) (ea:Addr) (a0:Value×Option Addr) (B:Heap) (H':Hp) (h:Heap):Prop where
 fly:Fl2 B outer ea cls a0 .none h
 keep:∀ b o,s.heap.get? b=some o->H b=none->b ∉ frs outer->B.get? b=some o
 there:∀ b o,s.heap.get? b=some o->b ∉ frs outer->∃ o',B.get? b=some o'
 slot:∀ b o,s.heap.get? b=some o->b∈frs outer->∃ sl,h.get? b=some { o with slots:=sl }
 free:∀ b o,s.heap.get? b=some o->H b=none->H' b=none
 tups:∀ b xs,H b=some (.tup xs)->H' b=some (.tup xs)
 frzs:∀ b o u,H b=some (.frz o u)->H' b=some (.frz o u)
 tbls:∀ b ps,H b=some (.tbl ps)->H' b=some (.tbl ps)
 hok:L2.HOk P w H' B
section
variable {P:Program} {w:World} {outer:List Env} {H H':Hp} {s:Shared} {cls:Value} {a0:Value×Option Addr} {ea:Addr} {B h h':Heap}
theorem Thrown.un (t:Thrown P w outer H s cls ea a0 B H' h):Un (frs outer) [] H H' s.heap h where
 keep:=fun b o e n hb _=>t.fly.1 b o (t.keep b o e n hb)
 slot:=fun b o e n hb _=>t.slot b o e hb
 free:=fun b o e n _=>t.free b o e n
 there:=fun b o e _=>by
  by_cases hb:b∈frs outer
  · obtain ⟨sl,q⟩:=t.slot b o e hb; exact ⟨_,q⟩
  · obtain ⟨o',q⟩:=t.there b o e hb; exact ⟨o',t.fly.1 b o' q⟩
 tups:=t.tups
 frzs:=t.frzs
 tbls:=t.tbls
theorem Thrown.hokh (t:Thrown P w outer H s cls ea a0 B H' h):L2.HOk P w H' h:=t.hok.kept t.fly.1
theorem Thrown.on (t:Thrown P w outer H s cls ea a0 B H' h) (f:Fl2 B outer ea cls a0 .none h') (u:h.UpToSlots h'):Thrown P w outer H s cls ea a0 B H' h' where
 fly:=f
 keep:=t.keep
 there:=t.there
 slot:=fun b o e hb=>by
  obtain ⟨sl,q⟩:=t.slot b o e hb
  obtain ⟨_,ob,ho,hd⟩:=t.fly.2.2.1.mem hb
  rw [q] at ho
  cases ho
  obtain ⟨sl',q'⟩:=u b _ q hd
  exact ⟨sl',q'⟩
 free:=t.free
 tups:=t.tups
 frzs:=t.frzs
 tbls:=t.tbls
 hok:=t.hok
theorem Thrown.no (t:Thrown P w outer H s cls ea a0 B H' h):H' ea=none:=by
 cases q:H' ea with
 | none=>rfl
 | some u =>
   obtain ⟨o,e⟩:=obj_get (t.hok _ _ q)
   rw [t.fly.2.1] at e; cases e
end
theorem hok_hidden {P:Program} {w:World} {H:Hp} {h:Heap} (x:L2.HOk P w H h) (l:List Addr) (hl:∀ b∈l,H b=none):L2.HOk P w H (hideAll h l):=fun a o e =>
 (x a o e).stay (fun b u hb q=>hideAll_get _ q fun z=>by
   rcases hb with rfl | hb
   · rw [hl _ z] at e; cases e
   · rw [hl _ z] at hb; cases hb) (fun _ q=>q) fun _ _ q=>q
noncomputable def CXM (P:Program) (w:World):CXT:=fun outer H s E e s'=>∃ ea cls a0 B H',e = .ref ea/\s'.os=s.os/\AllBare s'.gens/\Thrown P w outer H s cls ea a0 B H' s'.heap/\E cls a0.2 H'
def XeOk (X:Cx) (C:Addr) (σ : L2.St) (H:Hp):Prop:=∀ (pins:List (Addr×Obj)) (s:Shared) (h':Heap) (e:Addr) (as:List Value),Inv X pins σ H s->Heap.MadeExcOf s.heap h' e (.ref C) as->X.xe (.ref e) { s with heap:=h' }
theorem xe_raise {P:Program} {w:World} {K:Frag} {mg:Str->Option Value} {base:Heap} {N:List Str} {qual:Str} {scope:Scope} {f C:Addr} {cd:Value} {A:Around} {outer:List Env} {s:Shared} {H H':Hp} {E:XK} {σ : L2.St}
  (hE:E (.ref C) none H'):XeOk (cxOf (CXM P w) P w K mg base N qual scope f cd A outer s H E) C σ H':=by
 intro pins s1 h1 e as I hx
 have hfr:frs (envOfC qual scope s.heap.objs.size f cd::outer)=s.heap.objs.size::frs outer:=rfl
 have nm:∀ b o,s.heap.get? b=some o->b ∉ frs outer->b ∉ frs (envOfC qual scope s.heap.objs.size f cd::outer):=fun b o q n z=>by
  rw [hfr] at z
  rcases List.mem_cons.mp z with z | z
  · exact absurd (Heap.lt_size q) (by rw [z]; exact Nat.lt_irrefl _)
  · exact n z
 show wpAny _ _ (leaving _ _) _ _ _
 refine made2 (B:=hideAll s1.heap (frs (envOfC qual scope s.heap.objs.size f cd::outer))) (h:=s1.heap) I.ok.frames rfl (fun b o q=>of_hideAll _ q) (funFrames_hide I.stack fun env he b hb=>List.mem_filterMap.mpr ⟨env,he,hb⟩) hx fun h' t x1 x4=>?_
 refine ⟨e,.ref C,(.ref t,none),_,H',rfl,I.os,I.bare,⟨x1,fun b o q n hb=>?_,fun b o q hb=>?_,fun b o q hb=>?_,fun b o q n=>I.base.free b o q n (by intro z; cases z),I.base.tups,I.base.frzs,I.base.tbls,?_⟩,hE⟩
 · exact hideAll_get _ (I.base.keep b o q n hb (by intro z; cases z)) (nm b o q hb)
 · obtain ⟨o', q'⟩ := I.base.there b o q (by intro z; cases z)
   exact ⟨o',hideAll_get _ q' (nm b o q hb)⟩
 · obtain ⟨sl, q'⟩ := I.base.slot b o q (I.ok.frf b hb) hb (by intro z; cases z)
   obtain ⟨_,ob,ho,hd⟩:=I.ok.funs.mem hb
   have ho':s.heap.get? b=some ob:=ho
   rw [q] at ho'
   cases ho'
   obtain ⟨sl',q''⟩:=x4 b _ (hx.keeps _ _ q') hd
   exact ⟨sl',q''⟩
 · exact hok_hidden I.hok _ I.stkFree
abbrev bmVE:List Value:=[.type "ValueError",.type "Exception",.type "BaseException",.type "object"]
structure XCls (K:Frag) (C:Addr):Prop where
 exc:excIn K C bmVE "ValueError.__new__" = true
 xin:XIn K C
theorem xcls_at {K:Frag} {h:Heap} {C:Addr} {bmB:List Value} {newId:String} (X:K.In h) (q:excIn K C bmB newId=true):∃ bm N nm qn bs hdct sn sub ab col dd k0 k1 k2 k3 k5 mN,h.get? C=some (excClassObj nm qn C N bs bm hdct sn sub ab col dd k0 k1 k2 k3 k5 newId)/\h.Ns N mN/\mN "__init__" = none/\OwnTail h bmB bm:=by
 unfold excIn at q
 split at q
 · rename_i dd cd sl ho
   split at q
   · rename_i C' bm k0 k1 k2 k3 n k5 hm hs
     simp only [Bool.and_eq_true,beq_iff_eq,Bool.not_eq_true'] at q
     obtain ⟨⟨⟨⟨⟨rfl,rfl⟩,hdel⟩,ht⟩,hok⟩,hni⟩:=q
     obtain ⟨nm,bs,mro,ns,qn,hd,sn,sub,ab,col,del⟩:=cd
     dsimp only at hm hdel hok hni
     subst hm hdel
     have hsl:sl = #[k0,k1,k2,k3,some (.builtin n),k5]:=by
      obtain ⟨l⟩:=sl
      simp only at hs
      rw [hs]
     subst hsl
     exact ⟨bm,ns,nm,qn,bs,hd,sn,sub,ab,col,dd,k0,k1,k2,k3,k5,_,X _ _ ho,.of_isNs (isNs_of_in X hok),nsMap_none_of_in X hok hni,tail_of_in X ht⟩
   · cases q
 · cases q
def tRaise (X:Cx) (C:Addr):TS:=fun _ σ H=>XeOk X C σ H
theorem ps_raise {X:Cx} {C:Addr} {x txt:Str} {j:Nat} {np cp cpos pos:Pos} (hC:XCls X.K C) (hm:X.mg x=some (.ref C)) (hcalm:X.calm=true) (hg:Gl X x:=by rfl) (hdb:(x == ("__debug__" : Str))=false:=by decide)
  (he:starEach [.Constant (.str txt) j cp] X.env=[(false,eval (.Constant (.str txt) j cp) X.env)]:=by rfl):PS X (.Raise (some (.Call (.Name x np) [.Constant (.str txt) j cp] [] cpos)) none pos) (tRaise X C):=by
 intro pins s σ H D I h
 obtain ⟨bm,N,nm,qn,bs,hdct,sn,sub,ab,col,dd,k0,k1,k2,k3,k5,mN,h1,h2,h3,h4⟩:=xcls_at I.kIn hC.exc
 have hbase:bm.contains (.type "BaseException")=true:=h4.hasType (by decide +kernel)
 refine wpAny_Raise_call_subU (C:=C) (mN:=mN) (N:=N) (nm:=nm) (q:=qn) (bs:=bs) (bm:=bm) (hdct:=hdct) (sn:=sn) (sub:=sub) (ab:=ab) (col:=col) (dd:=dd) (k0:=k0) (k1:=k1) (k2:=k2) (k3:=k3) (k5:=k5) F.excBase_ValueError (by decide +kernel) F.excBase_ValueError hbase (I.ok.hd hcalm) (by rw [he]; rfl) h3 (wD I hg hm ⟨rfl,?_⟩ hdb)
 rw [he]
 show wpAny _ _ (evalArgs _ true ((false,eval (.Constant (.str txt) j cp) X.env)::[]) []) _ _ s
 refine Calls.evalArgs_plain (Calls.spliced_cons ?_)
 refine Calls.Constant_str (k:=j) (pos:=cp) (Calls.spliced_nil ?_)
 have I2:=I.tok (s.toks+1)
 refine ⟨rfl,by show 1<=sizeLine; decide,h1,h2,h4,fun h' e hx=>?_⟩
 exact h pins _ h' e _ I2 hx
section
variable (X:Cx) (C:Addr)
def PSx (st:Stmt) (x:List Sl->Bool):Prop:=∃ t,PS X st t/\∀ H₀ H O σ ds hd E,Ok X.K H₀ H O σ ds hd->x ds=true->(∀ σ' H',Same H₀ H'->XeOk X C σ' H')->t E σ H
end
section
variable {X:Cx} {C:Addr}
theorem psx_raise {x txt:Str} {j:Nat} {np cp cpos pos:Pos} (hC:XCls X.K C) (hm:X.mg x=some (.ref C)) (hcalm:X.calm=true:=by rfl) (hg:Gl X x:=by rfl) (hdb:(x == ("__debug__" : Str))=false:=by decide)
  (he:starEach [.Constant (.str txt) j cp] X.env=[(false,eval (.Constant (.str txt) j cp) X.env)]:=by rfl):PSx X C (.Raise (some (.Call (.Name x np) [.Constant (.str txt) j cp] [] cpos)) none pos) alwaysX :=
 ⟨_,ps_raise hC hm hcalm hg hdb he,fun H₀ H O σ ds hd E o _ h=>h σ H o.same⟩
end
noncomputable def spX (K:Frag) (n:Nat) (R:List D->Bool) (C:Addr):Sp:=fun vs H _ E=>vs.length=n/\∃ ds,Reps K H jY vs ds/\R ds=true/\∀ H',Same H H'->E (.ref C) none H'
structure CalX (P:Program) (w:World) (K:Frag) (mg:Str->Option Value) (base:Heap) (x:Str) (k n:Nat) (R:List D->Bool) (C:Addr):Prop where
 ex:∃ (f:Addr) (fd:FuncData) (ps:List Str),FnOk P w K mg base (CXM P w) k f fd ps (spX K n R C)/\Binds K fd ps []/\PySem.W.keepIn K (.ref f)=true/\mg x=some (.ref f)
end FL
namespace FL
open PySem PySem.Spec PyProof.Rows L2
open PySem.W (Looks looks_mroIn mroIn)
abbrev suiteCx (X:Cx) (ea:Addr) (xe:Value->Shared->Prop) (H0:Hp:=X.H₀):Cx:={ X with A:=X.A.mark (some (.ref ea)),calm:=false,H₀:=H0,xe:=xe }
section
theorem inv_suite (I:Inv X pins σ H s):Inv (suiteCx X ea xe) pins σ H s:=by
 have ok:=I.ok
 exact ⟨⟨ok.mod,ok.kind,ok.glob,ok.blt,ok.above,ok.inj,ok.has,ok.cab,(fun z=>by cases z),ok.frames,ok.stk,ok.exf,ok.bs,ok.bsz,ok.noex,ok.exfs,ok.funs,ok.frf⟩,I.os,I.bare,I.base,I.loc,I.cell,I.free,I.freeC,I.pin,I.hok,I.len⟩
theorem inv_suiteH (I:Inv X pins σ H s) (hH:H ea=some (.frz oe u)) (h0:X.s₀.heap.get? ea=none) (nt:∀ q,X.H₀ ea≠some (.tbl q)) (nf:ea ∉ X.fs):Inv (suiteCx X ea xe (upd X.H₀ ea (.frz oe u))) pins σ H s:=by
 have ok:=I.ok
 have n0:∀ {b:Addr} {o:Obj},X.s₀.heap.get? b=some o->b≠ea:=fun e z=>by rw [z,h0] at e; cases e
 refine ⟨⟨ok.mod,ok.kind,ok.glob,ok.blt,ok.above,ok.inj,ok.has,ok.cab,(fun z=>by cases z),ok.frames,ok.stk,ok.exf,fun b o e=>?_,⟨ok.bsz.1,ok.bsz.2.bm,fun x c P h1 h2=>?_⟩,ok.noex,ok.exfs,ok.funs,fun b hb=>?_⟩,I.os,I.bare,⟨fun b o e n=>?_,fun b o e n=>?_,fun b o e n=>?_,I.base.there,fun b xs e=>?_,fun b o u e=>?_,fun b q e=>?_⟩,I.loc,I.cell,I.free,I.freeC,I.pin,I.hok,I.len⟩
 · have := ok.bs b o e
   exact ⟨this.1,(upd_ne (n0 this.1)).trans this.2⟩
 · have := ok.bsz.2.tab x c P h1 h2
   exact ⟨this.1,(upd_ne (fun z:P=ea=>nt _ (z ▸ this.2))).trans this.2⟩
 · exact (upd_ne (fun z:b=ea=>nf (z ▸ hb))).trans (ok.frf b hb)
 · exact I.base.keep b o e ((upd_ne (n0 e)).symm.trans n)
 · exact I.base.slot b o e ((upd_ne (n0 e)).symm.trans n)
 · exact I.base.free b o e ((upd_ne (n0 e)).symm.trans n)
 · by_cases hb : b = ea
   · subst hb; cases (upd_same).symm.trans e
   · exact I.base.tups b xs ((upd_ne hb).symm.trans e)
 · by_cases hb : b = ea
   · subst hb; cases upd_same.symm.trans e; exact hH
   · exact I.base.frzs b o _ ((upd_ne hb).symm.trans e)
 · by_cases hb : b = ea
   · subst hb; cases (upd_same).symm.trans e
   · exact I.base.tbls b q ((upd_ne hb).symm.trans e)
theorem inv_unsuiteH (I0:Inv X pins0 σ0 H0 s0) (hn:H0 ea=none) (h0:X.s₀.heap.get? ea=none) (I:Inv (suiteCx X ea xe (upd X.H₀ ea (.frz oe u))) pins σ H s):Inv X pins σ H s:=by
 have n0:∀ {b:Addr} {o:Obj},X.s₀.heap.get? b=some o->b≠ea:=fun e z=>by rw [z,h0] at e; cases e
 have ne:∀ {b:Addr} {v:HO},H0 b=some v->b≠ea:=fun e z=>by rw [z,hn] at e; cases e
 refine ⟨I0.ok,I.os,I.bare,⟨fun b o e n=>I.base.keep b o e ?_,fun b o e n=>I.base.slot b o e ?_,fun b o e n=>I.base.free b o e ?_,I.base.there,fun b xs e=>I.base.tups b xs ?_,fun b o u e=>I.base.frzs b o u ?_,fun b q e=>I.base.tbls b q ?_⟩,I.loc,I.cell,I.free,I.freeC,I.pin,I.hok,I.len⟩
 · exact (upd_ne (n0 e)).trans n
 · exact (upd_ne (n0 e)).trans n
 · exact (upd_ne (n0 e)).trans n
 · exact (upd_ne (ne (I0.base.tups b xs e))).trans e
 · exact (upd_ne (ne (I0.base.frzs b o u e))).trans e
 · exact (upd_ne (ne (I0.base.tbls b q e))).trans e
theorem inv_track (I:Inv X pins σ H s) (hn:H ea=none) (h1:s.heap.get? ea=some oe) (h3:ea≠X.env.locals) (h0:X.s₀.heap.get? ea=none) (hc:∀ v,oe.data≠.cell v) (hp:∀ p∈X.pn++pins,p.1≠ea) :
  Inv X pins σ (upd H ea (.frz oe (.own ea))) s:=by
 have nz:∀ b u,H b=some u->b≠ea:=fun b u e z=>by rw [z,hn] at e; cases e
 have n0:∀ b o,X.s₀.heap.get? b=some o->b≠ea:=fun b o e z=>by rw [z,h0] at e; cases e
 refine ⟨I.ok,I.os,I.bare,⟨I.base.keep,I.base.slot,fun b o e n hx=>?_,I.base.there,fun b xs e=>?_,fun b o u e=>?_,fun b ps e=>?_⟩,I.loc,I.cell,?_,fun x c e=>?_,fun p hpp=>?_,fun b u e=>?_,I.len⟩
 · rw [upd_ne (n0 b o e)]; exact I.base.free b o e n hx
 · have:=I.base.tups b xs e; rw [upd_ne (nz b _ this)]; exact this
 · have:=I.base.frzs b o u e; rw [upd_ne (nz b _ this)]; exact this
 · have:=I.base.tbls b ps e; rw [upd_ne (nz b _ this)]; exact this
 · rw [upd_ne (Ne.symm h3)]; exact I.free
 · have hz:c≠ea:=by
    intro z
    obtain ⟨v,o,ho,hd⟩:=I.cell x c e
    rw [z,h1] at ho
    cases ho
    exact hc v hd
   have:=I.freeC x c e
   unfold FreeC at this ⊢
   rw [upd_ne hz]
   exact this
 · obtain ⟨q1, q2, q3, q4, q5⟩ := I.pin p hpp
   exact ⟨q1,by rw [upd_ne (hp p hpp)]; exact q2,q3,q4,q5⟩
 · by_cases hb : b = ea
   · subst hb
     rw [upd_same] at e
     cases e
     exact ⟨h1,oe,h1⟩
   · rw [upd_ne hb] at e
     exact (I.hok b u e).stay (fun _ _ _ q=>q) (fun c q=>by rw [upd_ne (nz c _ q)]; exact q) fun c xs q=>by rw [upd_ne (nz c _ q)]; exact q
theorem inv_gone (I:Inv X pins σ H s) (hN:X.N.Nodup) (hi:X.N[i]? = some x) (hn:s.heap.Ns X.env.locals m)
  (hl:∀ (i:Nat) x v,X.N[i]? = some x->σ[i]? = some (some v)->Vis X.env.scope x->∃ u,RelV v u/\Look X.env s.heap m x u)
  (hn':h'.Ns X.env.locals (fun y=>if y=x then v else m y)) (hs:Heap.SameBut X.env.locals s.heap h'):Inv X pins (σ.set i none) H { s with heap:=h',toks:=t' }:=by
 have cne:=I.cne
 refine ⟨I.ok,I.os,I.bare,⟨fun b o e n hb hx=>?_,fun b o e n hb hx=>?_,I.base.free,fun b o e hx=>?_,I.base.tups,I.base.frzs,I.base.tbls⟩,⟨_,hn',fun j y v' e1 e2 e3=>?_⟩,fun y c e=>?_,I.free,I.freeC,fun p hp=>?_,fun b ob e=>?_,by simpa using I.len⟩
 · exact (hs.2 b (Nat.ne_of_lt (Nat.lt_of_lt_of_le (Heap.lt_size e) I.ok.above))).trans (I.base.keep b o e n hb hx)
 · obtain ⟨sl, e1⟩ := I.base.slot b o e n hb hx
   exact ⟨sl,(hs.2 b (Nat.ne_of_lt (Nat.lt_of_lt_of_le (Heap.lt_size e) I.ok.above))).trans e1⟩
 · obtain ⟨o', e1⟩ := I.base.there b o e hx
   exact ⟨o',(hs.2 b (Nat.ne_of_lt (Nat.lt_of_lt_of_le (Heap.lt_size e) I.ok.above))).trans e1⟩
 · by_cases hj : j = i
   · subst hj
     have hiσ : j < σ.length:=by rw [I.len]; exact (List.getElem?_eq_some_iff.mp hi).1
     rw [List.getElem?_set_self hiσ] at e2
     cases e2
   · rw [List.getElem?_set_ne (Ne.symm hj)] at e2
     obtain ⟨u',r',q⟩:=hl j y v' e1 e2 e3
     refine ⟨u',r',?_⟩
     rcases q with ⟨k,e⟩ | ⟨k,c,e,z⟩
     · refine .inl ⟨k, ?_⟩
       have:y≠x:=fun e=>hj (wY hN e1 (e ▸ hi))
       simp [this,e]
     · exact .inr ⟨k,c,e,z.sameBut hs (cne y c e)⟩
 · obtain ⟨w', z⟩ := I.cell y c e
   exact ⟨w',z.sameBut hs (cne y c e)⟩
 · obtain ⟨e, n, ne, nf, d⟩ := I.pin p hp
   exact ⟨(hs.2 p.1 ne).trans e,n,ne,nf,d⟩
 · refine (I.hok b ob e).stay (fun c w' hc q => (hs.2 c ?_).trans q) (fun _ q => q) fun _ _ q => q
   rintro rfl
   have hfree:=I.free
   rcases hc with rfl | hc
   · rw [hfree] at e; cases e
   · rw [hfree] at hc; cases hc
end
theorem Ok.setNo {K:Frag} (o:Ok K H₀ H O σ ds hd) i v:Ok K H₀ H O (σ.set i v) (ds.set i .no) hd:=by
 have own':∀ {j:Nat},IsOwn (ds.set i .no) j->j≠i/\IsOwn ds j:=fun {j} ⟨l,e⟩=>by
  by_cases hj:j=i
  · subst hj
    by_cases hl:j < ds.length
    · rw [List.getElem?_set_self hl] at e; cases e
    · rw [List.getElem?_eq_none (by simpa using hl)] at e; cases e
  · rw [List.getElem?_set_ne (Ne.symm hj)] at e
    exact ⟨hj,l,e⟩
 refine ⟨o.same,fun j l a e1 e2=>?_,o.dom,by simpa using o.len,fun j s e=>?_,fun j k a hjk hj hk e1 e2=>?_,o.hold,o.obs.tr (fun _ _ _ r _=>r) (fun j r t e=>by
  obtain ⟨e1,hj⟩:=xP (fun r t=>by intro z; cases z) e
  exact ⟨e1,by rw [List.getElem?_set_ne (Ne.symm hj)]⟩) (fun j b oj ej=>by
  obtain ⟨o1,hj⟩:=yV (fun l=>by intro z; cases z) oj
  rw [List.getElem?_set_ne (Ne.symm hj)] at ej
  exact .inl ⟨o1,ej⟩)⟩
 · obtain ⟨n1, h1⟩ := own' ⟨l, e1⟩
   rw [List.getElem?_set_ne (Ne.symm n1)] at e1 e2
   exact o.fresh j l a e1 e2
 · by_cases hj : j = i
   · subst hj
     by_cases hl:j < ds.length
     · rw [List.getElem?_set_self hl] at e
       cases e
       exact qQ
     · rw [List.getElem?_eq_none (by simpa using hl)] at e; cases e
   · rw [List.getElem?_set_ne (Ne.symm hj)] at e
     rw [List.getElem?_set_ne (Ne.symm hj)]
     exact o.sl j s e
 · obtain ⟨n1, h1⟩ := own' hj
   obtain ⟨n2,h2⟩:=own' hk
   rw [List.getElem?_set_ne (Ne.symm n1)] at e1
   rw [List.getElem?_set_ne (Ne.symm n2)] at e2
   exact o.apart j k a hjk h1 h2 e1 e2
theorem Ok.setX {K:Frag} (o:Ok K H₀ H O σ ds hd) (h1:PySem.W.nsIn K mainGlobals (xName t)=some (some (.ref C))) (h2:H a=some (.frz ob u)) (h3:ob.cls = .ref C) :
  Ok K H₀ H O (σ.set i (some (.ref a))) (ds.set i (.exc t)) hd:=by
 have own':∀ {j:Nat},IsOwn (ds.set i (.exc t)) j->j≠i/\IsOwn ds j:=fun {j} ⟨l,e⟩=>by
  by_cases hj:j=i
  · subst hj
    by_cases hl:j < ds.length
    · rw [List.getElem?_set_self hl] at e; cases e
    · rw [List.getElem?_eq_none (by simpa using hl)] at e; cases e
  · rw [List.getElem?_set_ne (Ne.symm hj)] at e
    exact ⟨hj,l,e⟩
 refine ⟨o.same,fun j l a e1 e2=>?_,o.dom,by simpa using o.len,fun j s e=>?_,fun j k a hjk hj hk e1 e2=>?_,o.hold,o.obs.tr (fun _ _ _ r _=>r) (fun j r t e=>by
  obtain ⟨e1,hj⟩:=xP (fun r t=>by intro z; cases z) e
  exact ⟨e1,by rw [List.getElem?_set_ne (Ne.symm hj)]⟩) (fun j b oj ej=>by
  obtain ⟨o1,hj⟩:=yV (fun l=>by intro z; cases z) oj
  rw [List.getElem?_set_ne (Ne.symm hj)] at ej
  exact .inl ⟨o1,ej⟩)⟩
 · obtain ⟨n1, h1⟩ := own' ⟨l, e1⟩
   rw [List.getElem?_set_ne (Ne.symm n1)] at e1 e2
   exact o.fresh j l a e1 e2
 · by_cases hj : j = i
   · subst hj
     by_cases hl:j < ds.length
     · rw [List.getElem?_set_self hl] at e
       cases e
       rw [List.getElem?_set_self (by rw [o.len]; exact hl)]
       exact ⟨C,ob,u,h1,h2,h3⟩
     · rw [List.getElem?_eq_none (by simpa using hl)] at e; cases e
   · rw [List.getElem?_set_ne (Ne.symm hj)] at e
     rw [List.getElem?_set_ne (Ne.symm hj)]
     exact o.sl j s e
 · obtain ⟨n1, h1⟩ := own' hj
   obtain ⟨n2,h2⟩:=own' hk
   rw [List.getElem?_set_ne (Ne.symm n1)] at e1
   rw [List.getElem?_set_ne (Ne.symm n2)] at e2
   exact o.apart j k a hjk h1 h2 e1 e2
def Throws (X:Cx) (C:Addr) (st:Stmt) (x:List Sl->Bool):Prop:=∀ (pins:List (Addr×Obj)) (s:Shared) (σ : L2.St) (H H₀ : Hp) (O:Addr->Prop) (ds:List Sl) (hd:Hold),Inv X pins σ H s->Ok X.K H₀ H O σ ds hd->x ds=true →
 (∀ ea a0 B H1 H' s1 s',Inv X pins σ H1 s1->Same H H1->Same H1 H'->Thrown X.prog X.w X.stack H1 s1 (.ref C) ea a0 B H' s'.heap->s'.os=s1.os->AllBare s'.gens->X.xe (.ref ea) s')->wpAny (model X.prog X.w) X.A (exec st X.env) (fun _ _=>False) X.xe s
section
theorem call_thrown (CX:CalX X.prog X.w X.K X.mg X.base x k n R C) (hr:Room j X.A) (ha:PAn X (e::es) g) (hj:k<=j) (hg:Gl X x) (hdb:(x == ("__debug__" : Str))=false)
  (he:starEach (e::es) X.env=(false,eval e X.env)::starEach es X.env) (hpl:(backTo pos (starEach es X.env)).any (·.1)=false)
  (I:Inv X pins σ H s) (o:Ok X.K H₀ H O σ ds hd) (ex:callX n R g ds=true)
  (W:∀ ea a0 B H1 H' s1 s',Inv X pins σ H1 s1->Same H H1->Same H1 H'->Thrown X.prog X.w X.stack H1 s1 (.ref C) ea a0 B H' s'.heap->s'.os=s1.os->AllBare s'.gens->X.xe (.ref ea) s') :
  wpAny (model X.prog X.w) X.A (eval (.Call (.Name x p) (e::es) [] pos) X.env) Q X.xe s:=by
 obtain ⟨f,fd,ps,Fn,hb,hk,hm⟩:=CX.ex
 obtain ⟨t,ht,hf⟩:=ha
 unfold callX at ex
 cases hl:g ds with
 | none=>rw [hl] at ex; cases ex
 | some l =>
   rw [hl] at ex
   simp [Bool.and_eq_true,decide_eq_true_eq] at ex
   refine wpAny_Call_Name_kw (wD I hg hm ?_ hdb)
   refine PySem.W.callWith_K I.ok.mod.kin hk (thn (ht pos pins s σ H (fun vs H1=>Same H H1/\Reps X.K H1 jY vs l) I (hf H₀ H O σ ds hd l _ o hl fun vs H1 s1 r=>⟨s1,r⟩)) fun us s1 ⟨vs,H1,I1,r,q1,q2⟩=>⟨I1.kIn,?_⟩) he hpl
   have sp:spX X.K n R C vs H1 (fun _ _=>False) (fun cl _ H'=>cl = .ref C/\Same H1 H'):=⟨by rw [q2.length]; exact ex.1,l,q2,ex.2,fun H' s'=>⟨rfl,s'⟩⟩
   have hl2:us.length=ps.length:=by rw [<- r.length]; exact Fn.len _ _ _ _ sp
   have bd:=hb s1 us I1.kIn (by rw [List.append_nil]; exact hl2)
   rw [List.append_nil] at bd
   refine wpAny_call (codeAny_mono (Fn.run X.A X.stack s1 H1 ⟨us,[]⟩ us vs (fun _ _=>False) (fun cl _ H'=>cl = .ref C/\Same H1 H') (hr.mono hj) I1.env0 bd r sp) fun r s' hq=>?_)
   cases r with
   | error e' =>
     obtain ⟨ea,cls,a0,B,H',rfl,os,bare,T,rfl,sm⟩:=hq
     exact W ea a0 B H1 H' s1 s' I1 q1 sm T os bare
   | ok fl =>
     cases fl with
     | ret u=>obtain ⟨v,H',_,_,_,_,_,z⟩:=hq; exact z.elim
     | next=>exact False.elim hq
     | brk=>exact False.elim hq
     | cont=>exact False.elim hq
theorem thr_expr (CX:CalX X.prog X.w X.K X.mg X.base x k n R C) (hr:Room j X.A) (ha:PAn X (e::es) g) (hj:k<=j:=by decide) (hg:Gl X x:=by rfl) (hdb:(x == ("__debug__" : Str))=false:=by decide)
  (he:starEach (e::es) X.env=(false,eval e X.env)::starEach es X.env:=by rfl) (hpl:(backTo pos (starEach es X.env)).any (·.1)=false:=by rfl) (hs:swapsWith (.Call (.Name x p) (e::es) [] pos) none pos'.line X.env=pure false:=by rfl) :
  Throws X C (.Expr (.Call (.Name x p) (e::es) [] pos) pos') (callX n R g):=by
 intro pins s σ H H₀ O ds hd I o ex W
 exact wpAny_Expr_any (call_thrown CX hr ha hj hg hdb he hpl I o ex W) I.quiet hs
theorem psv_drop (h:PV X e f) (hs:swapsWith e none pos.line X.env=pure false:=by rfl):PSv X (.Expr e pos) (dropG f):=by
 obtain ⟨t,ht,hf⟩:=h
 refine ⟨_,ps_expr ht hs,fun H₀ H O σ ds hd out E o e' h=>?_⟩
 unfold dropG at e'
 cases hh:f ds with
 | none=>rw [hh] at e'; cases e'
 | some d =>
   rw [hh] at e'
   cases e'
   exact hf H₀ H O σ ds hd d _ o hh fun v H' s r=>h σ H' O (o.mono s)
end
end FL
namespace FL
open PySem PySem.Spec PyProof.Rows L2
open PySem.W (Looks looks_mroIn mroIn clsIn)
structure XCatch (K:Frag) (C S:Addr):Prop where
 kit:PySem.W.kitCls K (.ref C) (.ref S)=some true
 be:mroIn K S (.type "BaseException")=some true
section
variable {prog:Program} {w:World} {A:Around} {E:Value->Shared->Prop} {h:Heap} {g:Array GenState} {d:Drawn} {t:Nat} {os:OsState} {a C S:Addr} {o:Obj} {K:Frag}
theorem x_matches {M:Model} {Q:Bool->Shared->Prop} (X:K.In h) (hx:h.get? a=some o) (hc:o.cls = .ref C) (hS:XCatch K C S) (hq:Q true ⟨h,g,d,t,os⟩) :
  wpAny M A (excMatches (.ref a) (.ref S)) Q E ⟨h,g,d,t,os⟩:=by
 have L0:=wT (M:=M) hx hc
 have L1:=looks_mroIn (M:=M) X hS.be
 obtain ⟨L3,L4,L2⟩:=PySem.W.kit_cls (M:=M) X hS.kit
 have f:=tc_notTuple
 unfold excMatches
 repeat (first | with_reducible refine L0.at ?_ | with_reducible refine L1.at ?_ | with_reducible refine L2.at ?_ | with_reducible refine L3.at ?_ | with_reducible refine L4.at ?_ | with_reducible refine wpAny_loadPart_at hx ?_ | wp_step)
 exact hq
end
section
variable {X:Cx}
theorem run_suite {ea:Addr} {H0:Hp} {xe0:Value->Shared->Prop} {sts:List Stmt} {h:FS} {pins:List (Addr×Obj)} {σ : L2.St} {H H₀ : Hp} {O:Addr->Prop} {ds:List Sl} {hd:Hold} {out:Out} {D:Ends} {s:Shared}
  (hs:∀ xe,PSsv (suiteCx X ea xe H0) sts h) (I:Inv (suiteCx X ea xe0 H0) pins σ H s) (o:Ok X.K H₀ H O σ ds hd) (e:h ds=some out) (af:After X H₀ hd D out) {EXC:Value->Shared->Prop} {POST:Flow->Shared->Prop}
  (hp:∀ f s',SP (suiteCx X ea EXC H0) pins D f s'->POST f s'):wpAny (model X.prog X.w) (X.A.mark (some (.ref ea))) (execs sts X.env) POST EXC s:=by
 obtain ⟨t,ht,hf⟩:=hs EXC
 exact wpAny_mono (ht pins s σ H D (I.wish EXC) (hf H₀ H O σ ds hd out D o e af)) hp (fun _ _ z=>z)
theorem after_gone {H₀ : Hp} {hd:Hold} {D:Ends} {i:Nat} {out:Out} (af:After X H₀ hd D (goneO i out)) :
  After X H₀ hd { nx:=fun σ H=>D.nx (σ.set i none) H,rt:=D.rt,bk:=fun σ H=>D.bk (σ.set i none) H,ct:=fun σ H=>D.ct (σ.set i none) H } out:=by
 cases out with
 | nx ds=>exact fun σ H O o=>af _ _ O (o.setNo i none)
 | bk ds=>exact fun σ H O o=>af _ _ O (o.setNo i none)
 | ct ds=>exact fun σ H O o=>af _ _ O (o.setNo i none)
 | rt r=>exact af
theorem fly_apart {B h:Heap} {l:List Env} {e:Addr} {cls:Value} {a0:Value×Option Addr} (f:Fl2 B l e cls a0 .none h):e ∉ frs l/\∃ oe,h.get? e=some oe/\oe.cls=cls/\(∀ v,oe.data≠.cell v)/\∃ vs,oe.data = .fields vs/\vs[2]? = some .none:=by
 obtain ⟨_,_,f3,oe,vs,T,oT,ts,he,hc,hd,_⟩:=f
 refine ⟨fun z=>?_,oe,he,hc.1.1,(fun v q=>by rw [hd] at q; cases q),vs,hd,hc.2.2⟩
 obtain ⟨_,o,ho,hn⟩:=f3.mem z
 rw [he] at ho
 cases ho
 exact hn vs hd
def tryE (X:Cx) (pins:List (Addr×Obj)) (D:Ends) (hs:List ExceptHandler):Value->Shared->Prop:=fun e s₁=>wpAny (model X.prog X.w) X.A (noteFrame e X.env) (fun _ s₂=>wpAny (model X.prog X.w) X.A (setFlight e none) (fun _ s₃=>wpAny (model X.prog X.w) X.A (handleBy e X.env hs) (SP X pins D) X.xe s₃) X.xe s₂) X.xe s₁
theorem try_lands {st b₀ : Stmt} {suite:List Stmt} {sx en:Str} {hp hpos:Pos} {i t:Nat} {C S:Addr} {h:FS} {x:List Sl->Bool}
  (hN:X.N.Nodup) (hm:X.mg sx=some (.ref S)) (hS:XCatch X.K C S) (hC:PySem.W.nsIn X.K mainGlobals (xName t)=some (some (.ref C)))
  (hx:∀ W,Throws (X.wish W) C st x) (hs:∀ ea oe xe,HdP (suiteCx X ea xe (upd X.H₀ ea (.frz oe (.own ea))))->PSsv (suiteCx X ea xe (upd X.H₀ ea (.frz oe (.own ea)))) (b₀::suite) h)
  (hi:X.N[i]? = some en) (hlo:X.env.kindOf en=some .local) (hst:X.stack=X.env::X.outer) (hfr:X.env.frame=some X.env.locals) (hex:X.ex=[])
  (hgS:Gl X sx) (hdb:(sx == ("__debug__" : Str))=false)
  {pins:List (Addr×Obj)} {s:Shared} {σ : L2.St} {H H₀ : Hp} {O:Addr->Prop} {ds:List Sl} {hd:Hold} {D:Ends} {out':Out} (I:Inv X pins σ H s) (o:Ok X.K H₀ H O σ ds hd) (hxd:x ds=true) (hh:h (ds.set i (.exc t))=some out') (af:After X H₀ hd D (goneO i out')) :
  wpAny (model X.prog X.w) X.A (exec st X.env) (fun _ _=>False) (tryE X pins D [.ExceptHandler (some (.Name sx hp)) (some en) (b₀::suite) hpos]) s:=by
 have hLoc:Loc X.env.scope en:=.inl hlo
 have hsub:∀ b,b∈X.env.locals::X.fs->b∈frs X.stack:=fun b hb=>by
  rw [hst]; unfold frs; rw [List.filterMap_cons,hfr]; exact hb
 refine hx (tryE X pins D [.ExceptHandler (some (.Name sx hp)) (some en) (b₀::suite) hpos]) pins s σ H H₀ O ds hd (I.wish _) o hxd ?_
 intro ea a0 B H1 H' s1 s' I1 m1 m2 T os bare
 have I1':Inv X pins σ H1 s1:=I1.unwish
 have T:Thrown X.prog X.w X.stack H1 s1 (.ref C) ea a0 B H' s'.heap:=T
 show wpAny _ _ (noteFrame _ _) _ _ _
 have hA:X.A.frames=some (X.env::X.outer):=by rw [<- hst]; exact I.ok.frames
 refine note2 hA hfr (by rw [<- hst]; exact T.fly) fun h₄ held₄ sm₄=>?_
 refine set2 (s:={ s' with heap:=h₄ }) held₄ fun h₅ fly₅ sm₅=>?_
 have T5:=T.on (h':=h₅) (by rw [hst]; exact fly₅) (sm₄.trans sm₅)
 have I5:Inv X pins σ H' { s' with heap:=h₅ }:=I1'.call' (ch:=[]) os T5.un T5.hokh bare (fun b z=>by cases z)
 obtain ⟨ap5,ob,hob,hobc,hobd,_⟩:=fly_apart T5.fly
 refine wpAny_handleBy_cons (codeAny_handlers_test ?_) (by intro q; cases q)
 refine wD (X:=suiteCx X ea X.xe) (inv_suite I5) hgS hm ?_ hdb
 refine x_matches (K:=X.K) I5.kIn hob hobc hS ?_
 refine codeAny_handlers_suite_as ?_
 refine set2 (s:={ s' with heap:=h₅ }) fly₅ fun h₆ fly₆ sm₆=>?_
 have T6:=T5.on (h':=h₆) (by rw [hst]; exact fly₆) sm₆
 have I6:Inv X pins σ H' { s' with heap:=h₆ }:=I1'.call' (ch:=[]) os T6.un T6.hokh bare (fun b z=>by cases z)
 obtain ⟨ap6,oe,hoe,hoec,hoed,vs,hvs,hv2⟩:=fly_apart T6.fly
 have nb:∀ b o,s1.heap.get? b=some o->b≠ea:=fun b o e z=>by
  subst z
  obtain ⟨o',q⟩:=T6.there b o e ap6
  rw [T6.fly.2.1] at q; cases q
 have h0:X.s₀.heap.get? ea=none:=by
  cases q:X.s₀.heap.get? ea with
  | none=>rfl
  | some o' =>
    obtain ⟨o'',q'⟩:=I1'.base.there ea o' q (by rw [hex]; intro z; cases z)
    exact (nb ea o'' q' rfl).elim
 have It:=inv_track I6 T6.no hoe (fun z=>ap6 (hsub _ (by rw [z]; exact List.mem_cons_self))) h0 hoed fun p hpp=>nb p.1 p.2 (I1'.pin p hpp).1
 have sm:Same H' (upd H' ea (.frz oe (.own ea))):=fun b u e=>by rw [upd_ne (fun z=>by rw [z,T6.no] at e; cases e)]; exact e
 have Is:Inv (suiteCx X ea X.xe (upd X.H₀ ea (.frz oe (.own ea)))) pins σ (upd H' ea (.frz oe (.own ea))) { s' with heap:=h₆ }:=inv_suiteH It upd_same h0 (fun q e=>by have:=I6.base.tbls _ _ e; rw [T6.no] at this; cases this) (fun z=>ap6 (hsub _ (List.mem_cons_of_mem _ z)))
 refine xW (X:=suiteCx X ea X.xe (upd X.H₀ ea (.frz oe (.own ea)))) (i:=i) (v:=.ref ea) Is hN hi hLoc rfl (fun s7 I7=>?_) (.inr hlo)
 refine run_suite (fun xe=>hs ea oe xe ⟨ea,oe,_,vs,rfl,upd_same,hvs,hv2⟩) I7 ((o.mono ((m1.trans m2).trans sm)).setX hC upd_same hoec) hh (after_gone af) fun f s8 h8=>?_
 have hcls:(X.env.scope.kind == .class || (X.env.scope.kind == .module && X.env.locals != X.env.globals))=false:=by rw [I.ok.kind]; rfl
 have gone:∀ xe σ' H8,Inv (suiteCx X ea xe (upd X.H₀ ea (.frz oe (.own ea)))) pins σ' H8 s8->∀ Q:Unit->Shared->Prop,(∀ s9,Inv X pins (σ'.set i none) H8 s9->Q () s9)->wpAny (model X.prog X.w) X.A (do bindName X.env en .none; unbindBehindTheSuite X.env en hpos) Q X.xe s8:=fun xe σ' H8 I8 Q k=>by
  have I8':=inv_unsuiteH I6 T6.no h0 I8
  obtain ⟨m,hn,hl⟩:=id I8'.loc
  exact wpAny_nameGoes_keeps hlo hn hcls fun h' v hn' hs'=>k _ (inv_gone I8' hN hi hn hl hn' hs')
 cases f with
 | next=>obtain ⟨σ',H8,I8,q⟩:=h8; exact gone _ σ' H8 I8 _ fun s9 I9=>⟨_,H8,I9,q⟩
 | brk=>obtain ⟨σ',H8,I8,q⟩:=h8; exact gone _ σ' H8 I8 _ fun s9 I9=>⟨_,H8,I9,q⟩
 | cont=>obtain ⟨σ',H8,I8,q⟩:=h8; exact gone _ σ' H8 I8 _ fun s9 I9=>⟨_,H8,I9,q⟩
 | ret u=>obtain ⟨v,σ',H8,I8,r,q⟩:=h8; exact gone _ σ' H8 I8 _ fun s9 I9=>⟨v,_,H8,I9,r,q⟩
end
end FL
namespace FL
open PySem PySem.Spec PyProof.Rows L2
def IsxOk (K:Frag) (cv:Value) (tb:List (Nat×Bool)):Prop:=∀ t b,tb.lookup t=some b->∀ C,PySem.W.nsIn K mainGlobals (xName t)=some (some (.ref C))->XIn K C/\PySem.W.kitOne K (.ref C) cv=some b
def IsxOkT (K:Frag) (its:List Value) (tb:List (Nat×Bool)):Prop:=∀ t b,tb.lookup t=some b->∀ C,PySem.W.nsIn K mainGlobals (xName t)=some (some (.ref C))->XIn K C/\PySem.W.kitAny K (.ref C) its=some b
theorem isx_oneT {K:Frag} {its:List Value} {t:Nat} {b:Bool} {C:Addr} (n:PySem.W.nsIn K mainGlobals (xName t)=some (some (.ref C))) (x:XIn K C) (k:PySem.W.kitAny K (.ref C) its=some b):IsxOkT K its [(t,b)]:=fun t' b' e C' n'=>by
 by_cases h:t'=t
 · subst h
   simp [List.lookup] at e
   subst e
   rw [n] at n'
   cases n'
   exact ⟨x,k⟩
 · have : (t' == t) = false := beq_eq_false_iff_ne.mpr h
   simp [List.lookup,this] at e
section
variable {X:Cx}
theorem call_isx:CallR X (.builtin "isinstance") (fun xs H Q=>∃ a o u C c cv b,xs=[.ref a,c]/\clsV c cv/\H a=some (.frz o u)/\o.cls = .ref C/\XIn X.K C/\PySem.W.kitOne X.K (.ref C) cv=some b/\Q (.bl b) H):=by
 intro pins s σ H xs us Q I r h
 obtain ⟨a,o,v,C,c,cv,b,rfl,hc,ha,ho,hx,e,q⟩:=h
 obtain ⟨u,u2,rfl,ru,ru2⟩:=vals2 r
 have e2:u2=cv:=by
  cases c with
  | ty n=>cases (show cv = .type n from hc); cases (show u2 = .type n from ru2); rfl
  | ref a=>cases (show cv = .ref a from hc); cases (show u2 = .ref a from ru2); rfl
  | _=>exact (show False from hc).elim
 subst e2
 cases (show u=Value.ref a from ru)
 have hg:s.heap.get? a=some o:=(show s.heap.get? a=some o/\ObjOk X.prog X.w H s.heap a v from I.hok a _ ha).1
 exact PySem.W.kia_one (kitx_exc hx) I.kIn ⟨o,hg,ho⟩ e (fun z=>nomatch z) fun tk=>⟨.bl b,H,I.tok tk,rfl,q⟩
theorem vals_refs:∀ {l:List Addr} {us:List Value},Vals (l.map V.ref) us->us=l.map Value.ref
 | [],_,.nil=>rfl
 | a :: l, _, .cons (b := u) r t => by
   rw [vals_refs t,show u=Value.ref a from r]
   rfl
theorem call_isxT:CallR X (.builtin "isinstance") (fun xs H Q=>∃ (a:Addr) (o:Obj) (u:HO) (C tp:Addr) (Ds:List Addr) (b:Bool),xs=[.ref a,.ref tp]/\H tp=some (.tup (Ds.map V.ref))/\H a=some (.frz o u)/\o.cls = .ref C/\XIn X.K C/\PySem.W.kitAny X.K (.ref C) (Ds.map Value.ref)=some b/\Q (.bl b) H):=by
 intro pins s σ H xs us Q I r h
 obtain ⟨a,o,v,C,tp,Ds,b,rfl,ht,ha,ho,hx,e,q⟩:=h
 obtain ⟨u,u2,rfl,ru,ru2⟩:=vals2 r
 cases (show u=Value.ref a from ru)
 cases (show u2=Value.ref tp from ru2)
 have hg:s.heap.get? a=some o:=(show s.heap.get? a=some o/\ObjOk X.prog X.w H s.heap a v from I.hok a _ ha).1
 obtain ⟨_,its,rv,ot,hot,hotc,n,hotd⟩:=(show ObjOk X.prog X.w H s.heap tp (.tup (Ds.map V.ref)) from I.hok tp _ ht)
 obtain ⟨c0,dd0,dat0,sl0⟩:=ot
 simp only at hotc hotd
 subst hotc hotd
 rw [vals_refs rv] at hot
 exact PySem.W.kia_tup (kitx_exc hx) I.kIn ⟨o,hg,ho⟩ hot e (fun z=>nomatch z) fun tk=>⟨.bl b,H,I.tok tk,rfl,q⟩
def tCs (Ds:List Addr):TA:=fun _ H Q=>Q (Ds.map V.ref) H
def PAc (X:Cx) (es:List Expr) (Ds:List Addr):Prop:=PA X es (tCs Ds)
theorem pac_nil:PAc X [] []:=jW
theorem jQ {x:Str} {pos:Pos} {es:List Expr} {D:Addr} {Ds:List Addr} (hm:X.mg x=some (.ref D)) (h:PAc X es Ds) (hg:Gl X x:=by rfl) (hd:(x == ("__debug__" : Str))=false:=by decide)
  (hs:starEach (.Name x pos::es) X.env=(false,eval (.Name x pos) X.env)::starEach es X.env:=by rfl):PAc X (.Name x pos::es) (D::Ds):=by
 have:=qO (pe_glob (v:=.ref D) (pos:=pos) hg hm rfl hd) h hs
 exact this
section
variable {en:Str} {i:Nat} {p pe pT pos:Pos} {tb:List (Nat×Bool)}
theorem wZ {σ : L2.St} {H₀ H:Hp} {O:Addr->Prop} {ds:List Sl} {hd:Hold} {d:D} (o:Ok X.K H₀ H O σ ds hd) (e:isxG i tb ds=some d):∃ t b,ds[i]? = some (.exc t)/\tb.lookup t=some b/\d = .bl b:=by
 unfold isxG at e
 cases hs:ds[i]? with
 | none=>rw [hs] at e; cases e
 | some s =>
   rw [hs] at e
   cases s with
   | exc t =>
     simp only at e
     cases hl:tb.lookup t with
     | none=>rw [hl] at e; cases e
     | some b=>rw [hl] at e; cases e; exact ⟨t,b,rfl,hl,rfl⟩
   | no=>cases e
   | v d=>cases e
   | own l=>cases e
   | exf t fs=>cases e
   | fr l=>cases e
   | ob _ _=>cases e
theorem pv_isx {x:Str} (hm:X.mg "isinstance" = none) (hI:∃ D,X.mg x=some (.ref D)/\IsxOk X.K (.ref D) tb) (hN:X.N[i]? = some en:=by rfl) (hv:Vis X.env.scope en:=by exact Or.inl rfl) (hde:(en == ("__debug__" : Str))=false:=by decide)
  (hcd:(en == ("__classdict__" : Str))=false:=by decide) (hg:Gl X "isinstance":=by rfl) (hgT:Gl X x:=by rfl)
  (h1:starEach [.Name en pe,.Name x pT] X.env=(false,eval (.Name en pe) X.env)::starEach [.Name x pT] X.env:=by rfl) (h2:starEach [.Name x pT] X.env=(false,eval (.Name x pT) X.env)::starEach [] X.env:=by rfl) (h3:(backTo pos (starEach [.Name x pT] X.env)).any (·.1)=false:=by rfl)
  (hd:(x == ("__debug__" : Str))=false:=by decide):PV X (.Call (.Name "isinstance" p) [.Name en pe,.Name x pT] [] pos) (isxG i tb):=by
 obtain ⟨D,hT,hI⟩:=hI
 refine ⟨_,yA call_isx hg hm (by decide +kernel) (qO (jG hN hv hde hcd) (qO (pe_glob (v:=.ref D) hgT hT rfl hd) jW h2) h1) (by decide) (by decide) h1 h3,fun H₀ H O σ ds hd d Q o e q=>?_⟩
 obtain ⟨t,b,hs,hl,rfl⟩:=wZ o e
 obtain ⟨a,C,ob,u,q1,q2,q3,q4⟩:=o.readX hs
 obtain ⟨x1,x2⟩:=hI t b hl C q2
 exact ⟨.ref a,q1,a,ob,u,C,.ref D,.ref D,b,rfl,rfl,q3,q4,x1,x2,q _ H (Same.refl _) (.bl b)⟩
theorem pv_isxB {x:Str} {T:String} (hm:X.mg "isinstance" = none) (hx:X.mg x=none) (hI:IsxOk X.K (.type T) tb) (hb:bootBuiltins x=some (.type T):=by decide +kernel) (hN:X.N[i]? = some en:=by rfl) (hv:Vis X.env.scope en:=by exact Or.inl rfl) (hde:(en == ("__debug__" : Str))=false:=by decide)
  (hcd:(en == ("__classdict__" : Str))=false:=by decide) (hg:Gl X "isinstance":=by rfl) (hgT:Gl X x:=by rfl)
  (h1:starEach [.Name en pe,.Name x pT] X.env=(false,eval (.Name en pe) X.env)::starEach [.Name x pT] X.env:=by rfl) (h2:starEach [.Name x pT] X.env=(false,eval (.Name x pT) X.env)::starEach [] X.env:=by rfl) (h3:(backTo pos (starEach [.Name x pT] X.env)).any (·.1)=false:=by rfl)
  (hn:x≠"__name__":=by decide) (hd:(x == ("__debug__" : Str))=false:=by decide):PV X (.Call (.Name "isinstance" p) [.Name en pe,.Name x pT] [] pos) (isxG i tb):=by
 refine ⟨_,yA call_isx hg hm (by decide +kernel) (qO (jG hN hv hde hcd) (qO (pe_bltn (v:=.ty T) hgT hx hb rfl hn hd) jW h2) h1) (by decide) (by decide) h1 h3,fun H₀ H O σ ds hd d Q o e q=>?_⟩
 obtain ⟨t,b,hs,hl,rfl⟩:=wZ o e
 obtain ⟨a,C,ob,u,q1,q2,q3,q4⟩:=o.readX hs
 obtain ⟨x1,x2⟩:=hI t b hl C q2
 exact ⟨.ref a,q1,a,ob,u,C,.ty T,.type T,b,rfl,rfl,q3,q4,x1,x2,q _ H (Same.refl _) (.bl b)⟩
theorem pv_isxT {es:List Expr} {Ds:List Addr} {x1} (hm:X.mg "isinstance" = none) (hP:PAc X es Ds) (hI:IsxOkT X.K (Ds.map Value.ref) tb) (hz:Ds.length<=100:=by first | decide | simp) (hN:X.N[i]? = some en:=by rfl) (hv:Vis X.env.scope en:=by exact Or.inl rfl) (hde:(en == ("__debug__" : Str))=false:=by decide)
  (hcd:(en == ("__classdict__" : Str))=false:=by decide) (hg:Gl X "isinstance":=by rfl)
  (h1:starEach [.Name en pe,.Tuple es x1 pT] X.env=(false,eval (.Name en pe) X.env)::starEach [.Tuple es x1 pT] X.env:=by rfl) (h2:starEach [.Tuple es x1 pT] X.env=(false,eval (.Tuple es x1 pT) X.env)::starEach [] X.env:=by rfl) (h3:(backTo pos (starEach [.Tuple es x1 pT] X.env)).any (·.1)=false:=by rfl) :
  PV X (.Call (.Name "isinstance" p) [.Name en pe,.Tuple es x1 pT] [] pos) (isxG i tb):=by
 refine ⟨_,yA call_isxT hg hm (by decide +kernel) (qO (jG hN hv hde hcd) (qO (pe_tup hP) jW h2) h1) (by decide) (by decide) h1 h3,fun H₀ H O σ ds hd d Q o e q=>?_⟩
 obtain ⟨t,b,hs,hl,rfl⟩:=wZ o e
 obtain ⟨a,C,ob,u,q1,q2,q3,q4⟩:=o.readX hs
 obtain ⟨x1,x2⟩:=hI t b hl C q2
 refine ⟨.ref a,q1,?_,fun tp htp=>?_⟩
 · show (Ds.map V.ref).length <= sizeLine
   have:(100:Nat)<=sizeLine:=by decide
   simp; omega
 · have na : a ≠ tp := fun z => by rw [z, htp] at q3; cases q3
   refine ⟨a,ob,u,C,tp,Ds,b,rfl,upd_same,by rw [upd_ne na]; exact q3,q4,x1,x2,q _ _ (fun b' o' e'=>?_) (.bl b)⟩
   rw [upd_ne (fun z=>by rw [z,htp] at e'; cases e')]; exact e'
end
end
structure XR (K:Frag) (mg:Str->Option Value) (t:Nat) (C:Addr):Prop where
 nm:PySem.W.nsIn K mainGlobals (xName t)=some (some (.ref C))
 gl:mg (xName t)=some (.ref C)
 cls:XCls K C
structure XT (K:Frag) (mg:Str->Option Value) (t:Nat) (x:Str) (C S:Addr):Prop where
 nm:PySem.W.nsIn K mainGlobals (xName t)=some (some (.ref C))
 gl:mg x=some (.ref S)
 cat:XCatch K C S
section
variable {X:Cx} {m:Str} {k j:Nat} {cs:List Nat} {F:Nat->List D->Option Ret} {o:Expr} {apos pos:Pos} {fo:FE}
end
section
variable {X:Cx} {C:Addr} {x:Str} {p pos:Pos}
end
theorem kitCls_yes {K:Frag} {C C':Addr} (u:PySem.W.isClsIn K C=true) (y:PySem.W.typeIn K (.ref C)=some (.type "type")) (s:PySem.W.subIn K (.ref C') (.ref C)=some true):PySem.W.kitCls K (.ref C') (.ref C)=some true:=by
 unfold PySem.W.kitCls
 simp only
 rw [show (PySem.W.clsIn K C).isSome=true from u,y,if_pos (by simp),s]
theorem kitB_yes {K:Frag} {C':Addr} {T:String} (u:PySem.W.kitMeta T=true) (s:PySem.W.subIn K (.ref C') (.type T)=some true):PySem.W.kitOne K (.ref C') (.type T)=some true:=by
 unfold PySem.W.kitOne
 split
 · rfl
 · unfold PySem.W.kitCls
   simp only
   rw [u,if_pos rfl,s]
theorem kitAny_nil {K:Frag} {t:Value} : PySem.W.kitAny K t []=some false:=rfl
theorem zW {K:Frag} {t c:Value} {r:List Value} {b:Bool} (h:PySem.W.kitOne K t c=some false) (h2:PySem.W.kitAny K t r=some b):PySem.W.kitAny K t (c::r)=some b:=by
 unfold PySem.W.kitAny
 rw [h]
 exact h2
section
variable {K:Frag} {H:Hp} {O:Addr->Prop} {a:Addr} {xs ys:List V}
end
section
variable {X:Cx}
end
section
variable (X:Cx) (E:XK) (C:Addr)
def PSy (st:Stmt) (x:List Sl->Bool):Prop:=∃ t,PS X st t/\∀ H₀ H O σ ds hd D,Ok X.K H₀ H O σ ds hd->x ds=true->(∀ σ' H',Same H₀ H'->XeOk X C σ' H')->(∀ H',Same H₀ H'->E (.ref C) none H')->t D σ H
def PSsy (st:List Stmt) (x:List Sl->Bool):Prop:=∃ t,PSs X st t/\∀ H₀ H O σ ds hd D,Ok X.K H₀ H O σ ds hd->x ds=true->(∀ σ' H',Same H₀ H'->XeOk X C σ' H')->(∀ H',Same H₀ H'->E (.ref C) none H')->t D σ H
def PSsAny (st:List Stmt):Prop:=∃ t,PSs X st t
end
section
variable {X:Cx} {E:XK} {C:Addr}
theorem PSx.y {st:Stmt} {x:List Sl->Bool} (h:PSx X C st x):PSy X E C st x:=by
 obtain ⟨t,ht,hf⟩:=h
 exact ⟨t,ht,fun H₀ H O σ ds hd D o e q _=>hf H₀ H O σ ds hd D o e q⟩
theorem PSsv.any {st:List Stmt} {g:FS} (h:PSsv X st g):PSsAny X st:=let ⟨t,ht,_⟩:=h; ⟨t,ht⟩
theorem pssy_never {st:List Stmt} (h:PSsAny X st):PSsy X E C st neverX:=by
 obtain ⟨t,ht⟩:=h
 exact ⟨t,ht,fun _ _ _ _ _ _ _ _ e _ _=>by cases e⟩
theorem xB {st:Stmt} {rest:List Stmt} {x:List Sl->Bool} (h1:PSy X E C st x) (h2:PSsAny X rest):PSsy X E C (st::rest) x:=by
 obtain ⟨t,ht,hf⟩:=h1
 obtain ⟨u,hu⟩:=h2
 exact ⟨_,yG ht hu,fun H₀ H O σ ds hd D o e q p=>hf H₀ H O σ ds hd _ o e q p⟩
theorem pssy_tail {st:Stmt} {rest:List Stmt} {f:FS} {x:List Sl->Bool} (h1:PSv X st f) (h2:PSsy X E C rest x):PSsy X E C (st::rest) (seqX f x):=by
 obtain ⟨t,ht,hf⟩:=h1
 obtain ⟨u,hu,hg⟩:=h2
 refine ⟨_,yG ht hu,fun H₀ H O σ ds hd D o e q p=>?_⟩
 unfold seqX at e
 cases h1:f ds with
 | none=>rw [h1] at e; cases e
 | some o1 =>
   rw [h1] at e
   cases o1 with
   | nx ds'=>exact hf H₀ H O σ ds hd _ _ o h1 (fun σ' H' O' o'=>hg H₀ H' O' σ' ds' hd D o' e q p)
   | _=>cases e
theorem psy_if {c:Expr} {a b:List Stmt} {pos:Pos} {fc:FT} {xa xb:List Sl->Bool} (hc:PTv X c fc) (ha:PSsy X E C a xa) (hb:PSsy X E C b xb):PSy X E C (.If c a b pos) (ifX fc xa xb):=by
 obtain ⟨tc,hc,hcf⟩:=hc
 obtain ⟨ta,ha,haf⟩:=ha
 obtain ⟨tb,hb,hbf⟩:=hb
 refine ⟨_,ps_if hc ha hb,fun H₀ H O σ ds hd D o e q p=>?_⟩
 unfold ifX at e
 cases hh:fc ds with
 | none=>rw [hh] at e; cases e
 | some k =>
   rw [hh] at e
   refine hcf H₀ H O σ ds hd k _ o hh fun H' s=>?_
   cases k with
   | true=>exact haf H₀ H' O σ ds hd D (o.mono s) e q p
   | false=>exact hbf H₀ H' O σ ds hd D (o.mono s) e q p
section
variable {k j n:Nat} {R:List D->Bool} {x:Str} {p pos:Pos} {e:Expr} {es:List Expr} {g:FA}
end
end
theorem fun_okY {P:Program} {w:World} {K:Frag} {mg:Str->Option Value} {base:Heap} {x qual:Str} {st:Stmt} {f C:Addr} {fd:FuncData} {N ps:List Str} {k:Nat} {R:List D->Bool} (Fn:Fun K x qual st f fd) (S:FnScope N ps (zJ st))
  {g:List Sl->Bool} (hbody:∀ (cdv:Value) (A:Around) (outer:List Env) (s:Shared) (H:Hp) (E:XK),Room k (A.deeper (envOfC qual (zJ st) s.heap.objs.size f cdv))->PSsy (cxOf (CXM P w) P w K mg base N qual (zJ st) f cdv A outer s H E) E C (jE st) g)
  (hg:∀ ds,ds.length=ps.length->R ds=true->g (args N.length ds)=true):FnOk P w K mg base (CXM P w) (k+1) f fd ps (spX K ps.length R C):=by
 obtain ⟨oc,od,kV,doc,pm,an,cdv,ct,osl,rfl,lk,hcd⟩:=Fn.ex
 refine fn_of lk hcd S (fun vs H Q E h=>h.1) fun A outer s H vs Q E hr h=>?_
 obtain ⟨hl,ds,rv,e,q⟩:=h
 obtain ⟨t,ht,hf⟩:=hbody cdv A outer s H E hr
 exact ⟨t,ht,hf H H jY _ _ [] _ (ok_start (N:=N) rv) (hg ds (by rw [<- rv.length]; exact hl) e) (fun σ' H' s'=>xe_raise (q H' s')) q⟩
section
variable {X:Cx} {E:XK} {C:Addr} {t k j n:Nat} {R:List D->Bool} {x:Str} {p pos:Pos} {e:Expr} {es:List Expr} {g:FA}
end
section
variable {X:Cx}
theorem psv_try2 {st b₀ : Stmt} {suite:List Stmt} {sx en:Str} {hp hpos pos:Pos} {i t u:Nat} {C C' S:Addr} {g h:FS} {x y:List Sl->Bool}
  (hN:X.N.Nodup) (hm:X.mg sx=some (.ref S)) (hS:XCatch X.K C S) (hS':XCatch X.K C' S) (hC:PySem.W.nsIn X.K mainGlobals (xName t)=some (some (.ref C))) (hC':PySem.W.nsIn X.K mainGlobals (xName u)=some (some (.ref C')))
  (hg:∀ W,PSv (X.wish W) st g) (hx:∀ W,Throws (X.wish W) C st x) (hy:∀ W,Throws (X.wish W) C' st y) (hs:∀ ea oe xe,HdP (suiteCx X ea xe (upd X.H₀ ea (.frz oe (.own ea))))->PSsv (suiteCx X ea xe (upd X.H₀ ea (.frz oe (.own ea)))) (b₀::suite) h)
  (hi:X.N[i]? = some en:=by rfl) (hlo:X.env.kindOf en=some .local:=by rfl) (hst:X.stack=X.env::X.outer:=by rfl) (hfr:X.env.frame=some X.env.locals:=by rfl) (hex:X.ex=[]:=by rfl)
  (hgS:Gl X sx:=by rfl) (hdb:(sx == ("__debug__" : Str))=false:=by decide) :
  PSv X (.Try [st] [.ExceptHandler (some (.Name sx hp)) (some en) (b₀::suite) hpos] [] [] pos) (tryG2 i t u g x y h):=by
 refine ⟨fun D σ H=>∀ pins s,Inv X pins σ H s->wpAny (model X.prog X.w) X.A (exec (.Try [st] [.ExceptHandler (some (.Name sx hp)) (some en) (b₀::suite) hpos] [] [] pos) X.env) (SP X pins D) X.xe s,
  fun pins s σ H D I h=>h pins s I,fun H₀ H O σ ds hd out D o e af pins s I=>?_⟩
 refine wpAny_Try_except (wpAny_execs_cons ?_)
 show wpAny _ _ _ _ (tryE X pins D [.ExceptHandler (some (.Name sx hp)) (some en) (b₀::suite) hpos]) s
 unfold tryG2 at e
 by_cases hxd:x ds=true
 · rw [if_pos hxd] at e
   cases hh:h (ds.set i (.exc t)) with
   | none=>rw [hh] at e; cases e
   | some out' =>
     rw [hh] at e
     cases e
     exact wpAny_mono (try_lands hN hm hS hC hx hs hi hlo hst hfr hex hgS hdb I o hxd hh af) (fun _ _ z=>z.elim) (fun _ _ z=>z)
 rw [if_neg hxd] at e
 by_cases hyd:y ds=true
 · rw [if_pos hyd] at e
   cases hh:h (ds.set i (.exc u)) with
   | none=>rw [hh] at e; cases e
   | some out' =>
     rw [hh] at e
     cases e
     exact wpAny_mono (try_lands hN hm hS' hC' hy hs hi hlo hst hfr hex hgS hdb I o hyd hh af) (fun _ _ z=>z.elim) (fun _ _ z=>z)
 · rw [if_neg hyd] at e
   obtain ⟨t,ht,hf⟩:=hg (tryE X pins D [.ExceptHandler (some (.Name sx hp)) (some en) (b₀::suite) hpos])
   refine wpAny_mono (ht pins s σ H D (I.wish _) (hf H₀ H O σ ds hd out D o e af)) (fun f s1 q=>?_) (fun _ _ z=>z)
   have q':=q.unwish
   cases f with
   | next=>exact wpAny_execs_nil (wpAny_execs_nil q')
   | brk=>exact q'
   | cont=>exact q'
   | ret u=>exact q'
end
structure RoomH (k:Nat) (A:Around):Prop where
 dp:A.depth+3 * k+5 < recursionLimit
 un:A.units+16 * k+200 < cLine
theorem RoomH.of {k:Nat} {A:Around} {v:Option Value} (r:Room k A):RoomH k (A.mark v):=⟨r.dp,r.un⟩
theorem RoomH.depth {k:Nat} {A:Around} (r:RoomH k A):A.depth < recursionLimit:=by have:=r.dp; omega
section
variable {X:Cx} {k j i:Nat} {F:Nat->Option Ret} {x en:Str} {p pe pos:Pos}
end
theorem kJ {K:Frag} {cv:Value} : IsxOk K cv []:=fun t b e=>by cases e
theorem isx_cons {K:Frag} {cv:Value} {t:Nat} {b:Bool} {C:Addr} {tb:List (Nat×Bool)} (n:PySem.W.nsIn K mainGlobals (xName t)=some (some (.ref C))) (x:XIn K C) (k:PySem.W.kitOne K (.ref C) cv=some b) (r:IsxOk K cv tb):IsxOk K cv ((t,b)::tb):=fun t' b' e C' n'=>by
 by_cases h:t'=t
 · subst h
   simp [List.lookup] at e
   subst e
   rw [n] at n'
   cases n'
   exact ⟨x,k⟩
 · have hf : (t' == t) = false := beq_eq_false_iff_ne.mpr h
   simp only [List.lookup,hf] at e
   exact r t' b' e C' n'
end FL
namespace L2
open PySem PySem.Spec PyProof.Rows
noncomputable def Ite (K:PySem.W.Frag) (l:Addr):It :=
 ⟨fun i H => ∃ xs x, SqL K H l xs /\ xs[i]? = some x,
  fun i H v H'=>∃ T x,v = .ref T/\H T=none/\H'=upd H T (.tup [.int (i:Int),x])/\∀ xs,SqL K H l xs->xs[i]? = some x,
  fun i H=>∃ xs,SqL K H l xs/\xs.length<=i⟩
theorem turn_enum {P:Program} {w:World} {K:PySem.W.Frag} {es:List Expr} {x1} {pos:Pos} (e it l:Addr) (hei:e≠it) :
  Turn P w K (.Tuple es x1 pos) (Ite K l) [e,it] e (fun i h=>(∃ old,IsEnum h e it ((i:Nat):Int) old)/\h.IsListIter it l i) where
 mem:=by simp
 obj:=fun i h st b hb=>by
  obtain ⟨⟨old,he⟩,⟨o1,e1,c1,d1⟩⟩:=st
  simp only [List.mem_cons,List.not_mem_nil,or_false] at hb
  rcases hb with rfl | rfl
  · exact ⟨_,he,fun v z=>by have z':Data.fields _=Data.cell v:=z; cases z'⟩
  · exact ⟨o1,e1,fun v z=>by rw [d1] at z; cases z⟩
 keep:=fun i h h' st k=>by
  obtain ⟨⟨old,he⟩,h1⟩:=st
  exact ⟨⟨old,k e (by simp) _ he⟩,h1.at fun o q=>k it (by simp) o q⟩
 item:=by
  intro X hP hw hK hc i pins s σ H E I hf st hg
  subst hP hw hK
  obtain ⟨xs,x,hq1,hx⟩:=hg
  obtain ⟨⟨old,he⟩,h1⟩:=st
  obtain ⟨its1,rv1,p1,hz1⟩:=I.list hq1
  obtain ⟨u1,hu1,ru1⟩:=rv1.get hx
  refine wpAny_pyNext_enum_item he h1 p1.isList (x:=u1) (by simpa using hu1) hei fun h' a1 a2 a3 a4 hk=>?_
  refine ⟨_,rfl,wpAny_letOwnedTupleGo_enum a1 fun h2' b1 bs=>?_⟩
  have hT:∀ b∈[e,it],b≠s.heap.objs.size:=fun b hb z=>by
   obtain ⟨_,e1,_⟩:=h1
   simp only [List.mem_cons,List.not_mem_nil,or_false] at hb
   rcases hb with rfl | rfl
   · exact Nat.ne_of_lt (Heap.lt_size he) z
   · exact Nat.ne_of_lt (Heap.lt_size e1) z
  have fr:H s.heap.objs.size=none:=I.hok.fresh (Nat.le_refl _)
  have I1:Inv X pins σ (upd H s.heap.objs.size (.tup [.int (i:Int),x])) { s with heap:=s.heap.push { cls:=.type "tuple",data:=.seq #[.int i s.toks,u1] },toks:=s.toks+1 }:=by
   refine I.laid (t':=s.toks+1) (fun b u q=>Heap.get?_push_of_some _ q) (Nat.le_refl _) ?_
   exact ⟨by simp [sizeLine],[.int i s.toks,u1],.cons ⟨_,rfl⟩ (.cons ru1 .nil),⟨_,Heap.get?_push_size _ rfl,rfl,_,rfl⟩⟩
  have nz:s.heap.objs.size≠e:=fun z=>hT e (by simp) z.symm
  have I2:Inv X pins σ (upd H s.heap.objs.size (.tup [.int (i:Int),x])) { s with heap:=h2',toks:=s.toks+1 }:=by
   refine Inv.turnedS (s:={ s with heap:=s.heap.push { cls:=.type "tuple",data:=.seq #[.int i s.toks,u1] },toks:=s.toks+1 }) I1 (h':=h2') (t':=s.toks+1) (ch:=[e,it]) (fun b o hb q=>?_) (fun b hb=>?_)
   · simp only [List.mem_cons, List.not_mem_nil, or_false, not_or] at hb
     by_cases hbT:b=s.heap.objs.size
     · subst hbT
       have q':(s.heap.push { cls:=.type "tuple",data:=.seq #[.int i s.toks,u1] }).get? s.heap.objs.size=some o:=q
       rw [Heap.get?_push_size _ rfl] at q'
       cases q'
       exact bs.extBut _ _ nz a3
     · have q' : (s.heap.push { cls := .type "tuple", data := .seq #[.int i s.toks, u1] }).get? b = some o := q
       have q2:s.heap.get? b=some o:=by
        rwa [Heap.get?_push_ne _ _ _ hbT] at q'
       exact bs.extBut _ _ hb.1 (hk b o hb.1 hb.2 q2)
   · obtain ⟨f0, fr'⟩ := hf b hb
     exact ⟨by rw [upd_ne (hT b hb)]; exact f0,fr'⟩
  refine ⟨.ref s.heap.objs.size,_,I2,rfl,⟨_,x,rfl,fr,rfl,fun zs hzs=>by rw [I.list_inj hzs hq1]; exact hx⟩,⟨⟨u1,?_⟩,a2.extBut bs.extBut (Ne.symm hei)⟩,fun b hb=>?_⟩
  · have hcast : ((i + 1 : Nat) : Int) = (i : Int) + 1 := by omega
    rw [hcast]
    exact b1
  · rw [upd_ne (hT b hb)]
    exact (hf b hb).1
 done:=by
  intro X hP hw hK hc i pins s σ H E I hf st hg
  subst hP hw hK
  obtain ⟨xs,hq1,hx⟩:=hg
  obtain ⟨⟨old,he⟩,h1⟩:=st
  obtain ⟨its1,rv1,p1,hz1⟩:=I.list hq1
  have hl1:=rv1.length
  refine wpAny_pyNext_enum_end (I.ok.hd hc) he h1 p1.isList (by simp; omega) fun h' hk=>⟨rfl,?_⟩
  refine I.turnedS (t':=s.toks) (ch:=[e,it]) (fun b o hb q=>?_) hf
  simp only [List.mem_cons,List.not_mem_nil,or_false,not_or] at hb
  exact hk b o hb.2 q
 self:=fun _ _ _ _ _ st h=>by
  obtain ⟨⟨old,he⟩,_⟩:=st
  exact wpAny_pyIter_enum he h
section
variable {X:Cx}
def iEnu (K:PySem.W.Frag) (ta:TA):TI:=fun σ H R=>ta σ H fun vs H1=>∃ a xs,vs=[.ref a]/\SqL K H1 a xs/\R (Ite K a) H1
theorem pi_enum {es:List Expr} {x1} {tp:Pos} {a:Expr} {ta:TA} {p pos:Pos} (hg:Gl X "enumerate") (hm:X.mg "enumerate" = none) (ha:PA X [a] ta) (hs:starEach [a] X.env=[(false,eval a X.env)]:=by rfl) :
  PI X (.Tuple es x1 tp) (.Call (.Name "enumerate" p) [a] [] pos) (iEnu X.K ta):=by
 intro pins s σ H R I h
 refine Call_ (kC I hg hm (show bootBuiltins "enumerate" = some (.type "enumerate") by decide +kernel) (PyProof.Rows.callWith_type1 (thn (ha pos pins s σ H _ I h) fun us s1 zq=>?_) hs rfl))
 obtain ⟨vs,H1,I1,r1,q1⟩:=zq
 obtain ⟨a,xs,e,hq1,q⟩:=q1
 subst e
 obtain ⟨u,rfl,ru⟩:=vals1 r1
 cases ru
 obtain ⟨its1,rv1,p1,hz1⟩:=I1.list hq1
 refine call_enumerate_list p1.isList fun h' he hi hsz hk=>?_
 refine wpAny_pyIter_enum he ?_
 refine ⟨_,[s1.heap.objs.size+1,s1.heap.objs.size],_,_,H1,rfl,I1.kept (t':=s1.toks) hk,turn_enum (s1.heap.objs.size+1) s1.heap.objs.size a (Nat.succ_ne_self _),⟨⟨_,he⟩,hi⟩,fun c hc=>?_,q⟩
 have hle:s1.heap.objs.size<=c:=by
  simp only [List.mem_cons,List.not_mem_nil,or_false] at hc
  rcases hc with rfl | rfl <;> omega
 exact I1.fpOk hle (I1.hok.fresh hle)
end
end L2
namespace FL
open PySem PySem.Spec PyProof.Rows L2
section
variable {X:Cx}
theorem wlk_enum {K:Frag} {a:Addr} {l:List D} : Wlk K (Ite K a) (.ref a,.lst l) (enumD l):=by
 intro H O ho r
 obtain ⟨b,xs,e,hs,rs⟩:=WRep.seqL (.inl r)
 cases e
 have hlen:=rs.length
 have hl:(enumD l).length=l.length:=by simp [enumD]
 refine ⟨fun i d hd=>?_,⟨xs,hs,by rw [hl,hlen]; exact Nat.le_refl _⟩⟩
 have hi:i < l.length:=by
  have:=(List.getElem?_eq_some_iff.mp hd).1
  rwa [hl] at this
 have hd':d = .tup [.int (i:Int),l[i]]:=by
  simp only [enumD,List.getElem?_mapIdx,List.getElem?_eq_getElem hi,Option.map_some] at hd
  exact (Option.some.inj hd).symm
 subst hd'
 obtain ⟨v,h1,h2⟩:=rs.get (List.getElem?_eq_getElem hi)
 refine ⟨⟨xs,v,hs,h1⟩,fun x H' y=>?_⟩
 obtain ⟨T,x',rfl,hT,rfl,f1⟩:=y
 have:=f1 xs hs
 rw [h1] at this; cases this
 have sm:Same H (upd H T (.tup [.int (i:Int),v])):=qB hT _
 exact ⟨sm,.tup (fun z=>by obtain ⟨ys,q⟩:=ho T z; rw [hT] at q; cases q) (.inl upd_same) (.cons (.int _) (.cons (h2.mono sm) .nil))⟩
theorem piv_enum {es:List Expr} {x1} {tp:Pos} {e:Expr} {p pos:Pos} {f:FE} (hm:X.mg "enumerate" = none) (h:PV X e f) (hg:Gl X "enumerate":=by rfl) (hs:starEach [e] X.env=[(false,eval e X.env)]:=by rfl):PIv X (.Tuple es x1 tp) (.Call (.Name "enumerate" p) [e] [] pos) (enuA f):=by
 obtain ⟨t,ht,hf⟩:=zG h zR hs
 refine ⟨_,pi_enum hg hm ht hs,fun H₀ H O σ ds hd items R o e q=>?_⟩
 unfold enuA at e
 obtain ⟨d,h1,e⟩:=bnd e
 cases d <;> first | (cases e; done) | skip
 rename_i l
 cases e
 refine hf H₀ H O σ ds hd [.lst l] _ o (by simp [zB,h1,zP]) fun vs H' s r=>?_
 cases r with
 | cons r1 rr =>
   cases rr
   obtain ⟨a,xs,rfl,hq,rs⟩:=WRep.seqL (.inl r1)
   exact ⟨a,xs,rfl,hq,q _ (.ref a,.lst l) H' s r1 wlk_enum⟩
end
section
variable {X:Cx}
variable (X) in
def PVe (e:Expr) (f:FE):Prop:=∃ t,PE X e t/\∀ H₀ H O σ ds hd d Q,Ok X.K H₀ H O σ ds hd->f ds=some d->(∀ v H',Same H H'->Rep X.K H' (Old H₀) v d->Q v H')->t σ H Q
theorem psv_retE {e:Expr} {pos:Pos} {f:FE} (he:PVe X e f):PSv X (.Return (some e) pos) (retDG f):=by
 obtain ⟨t,ht,hg⟩:=he
 refine ⟨_,wR ht,fun H₀ H O σ ds hd out E o e h=>?_⟩
 unfold retDG at e
 obtain ⟨d,h1,rfl⟩:=mpd e
 exact hg H₀ H O σ ds hd d _ o h1 fun v H' s r=>h _ _ (o.same.trans s) r True.intro
end
end FL
namespace L2
open PySem PySem.Spec PyProof.Rows
section
theorem vals_nums {us:List Value} {ns:List Int} (h:IntsAre us ns):Vals (ns.map V.int) us:=vals_ints h
end
end L2
namespace FL
open PySem PySem.Spec PyProof.Rows L2
section
theorem reps_ints {K:Frag} : ∀ ns:List Int,Reps K H O (ns.map V.int) (ns.map D.int)
 | []=>.nil
 | n::ns=>.cons (.int n) (reps_ints ns)
end
end FL
namespace L2
open PySem PySem.Spec PyProof.Rows
section
end
section
end
end L2
namespace FL
open PySem PySem.Spec PyProof.Rows L2
section
end
open PySem.W (tabIn CodeHd tabObj kla_eval kla_makeFunction kla_makeFunctionHit kla_obj kla_fn kla_callFunE kla_codeExpr FnAt callWith_F envX)
section
variable {X:Cx}
end
section
variable {X:Cx} {pins:List (Addr×Obj)} {σ : L2.St} {H H':Hp} {s s':Shared} {cs:List Addr}
end
section
variable {K:Frag} {H:Hp} {O:Addr->Prop} {cs:List Addr}
end
section
variable {X:Cx}
end
end FL
namespace FL
open PySem PySem.Spec PyProof.Rows L2
open PySem.W (tabIn CodeHd tabObj kla_callFunE kla_codeExpr FnAt callWith_F envX)
section
section
variable {st:Stmt}
end
end
theorem ClosOk.get {cl:List (Str×Addr)} {xs:List V} (h:ClosOk H O cl xs):∀ {i:Nat} {v:V},xs[i]? = some v->∃ p o u w,cl[i]? = some p/\H p.2=some (.frz o u)/\o.data = .cell (some w)/\RelV v w :=
 h.rec (motive:=fun cl xs _=>∀ {i:Nat} {v:V},xs[i]? = some v->∃ p o u w,cl[i]? = some p/\H p.2=some (.frz o u)/\o.data = .cell (some w)/\RelV v w) (fun z=>by cases z) fun _ h d r _ j i v z=>by
  cases i with
  | zero=>cases z; exact ⟨_,_,_,_,rfl,h,d,r⟩
  | succ i=>exact j z
theorem ClosOk.length {cl:List (Str×Addr)} {xs:List V} (h:ClosOk H O cl xs):cl.length=xs.length:=h.rec rfl fun _ _ _ _ _=>congrArg (·+1)
section
end
end FL
namespace FL
open PySem PySem.Spec PyProof.Rows L2
section
variable {X:Cx}
end
open PySem.W (tabIn CodeHd tabObj makeFunction_K makeFunction_hit fnMade fnX nestDef_K kla_callFunE envX)
section
end
section
end
section
end
section
end
end FL
namespace FL
open PySem PySem.Spec PyProof.Rows L2
section
variable {X:Cx} {tg:Expr}
end
section
variable {X:Cx}
theorem xL {st:List Stmt} : PSsAny X st:=⟨fun _ _ _=>False,fun _ _ _ _ _ _ h=>h.elim⟩
end
open PySem.W (tabIn CodeHd)
section
variable {X:Cx}
end
section
variable {X:Cx} {E:XK} {C:Addr}
end
section
variable {X:Cx} {k j:Nat} {n:Nat} {F:List D->Option Ret} {x:Str} {p pos:Pos} {e:Expr} {es:List Expr} {g:FA}
end
end FL
namespace FL
open PySem PySem.Spec PyProof.Rows L2
section
variable {X:Cx} {E:XK} {C:Addr}
end
section
variable {X:Cx} {E:XK} {C:Addr}
end
end FL
namespace L2
open PySem PySem.Spec PyProof.Rows
section
variable {X:Cx}
end
end L2
namespace FL
open PySem PySem.Spec PyProof.Rows L2
section
variable {X:Cx} {E:XK} {C:Addr}
end
theorem isx_consT {K:Frag} {its:List Value} {t:Nat} {b:Bool} {C:Addr} {tb:List (Nat×Bool)} (n:PySem.W.nsIn K mainGlobals (xName t)=some (some (.ref C))) (x:XIn K C) (k:PySem.W.kitAny K (.ref C) its=some b) (r:IsxOkT K its tb):IsxOkT K its ((t,b)::tb):=fun t' b' e C' n'=>by
 by_cases h:t'=t
 · subst h
   simp [List.lookup] at e
   subst e
   rw [n] at n'
   cases n'
   exact ⟨x,k⟩
 · have : (t' == t) = false := beq_eq_false_iff_ne.mpr h
   simp [List.lookup,this] at e
   exact r t' b' e C' n'
section
variable {X:Cx}
theorem pv_eqH {a b:Expr} {fa fb:FE} {pos:Pos} {k:Nat} {A0:Around} (hr:Room k A0) (ha:PVn X a fa) (hb:PVn X b fb) (hu:X.A.units=A0.units:=by rfl):PV X (.Compare a [.Eq] [b] pos) (zE eqD fa fb):=vK (op_eqD (by rw [hu]; exact hu100 hr)) on_eqD ha hb (nomark _)
end
end FL
namespace L2
open PySem PySem.Spec PyProof.Rows
open Builtin Builtin.Str
section
end
end L2
namespace FL
open PySem PySem.Spec PyProof.Rows L2
section
variable {X:Cx}
section
variable {id:String}
end
end
section
variable {X:Cx} {E:XK} {C:Addr}
theorem pe_or {e:Expr} {t u:TE} (h1:PE X e t) (h2:PE X e u):PE X e (fun σ H Q=>t σ H Q \/ u σ H Q):=fun pins s σ H Q I h=>h.elim (h1 pins s σ H Q I) (h2 pins s σ H Q I)
section
variable {x:Str} {p pos:Pos} {e:Expr} {t k j:Nat} {G:List D->Option (List D)} {y:List Sl->Bool}
end
end
end FL
namespace L2
open PySem PySem.Spec PyProof.Rows
section
variable {prog:Program} {w:World} {A:Around} {E:Value->Shared->Prop} {s:Shared}
end
section
variable {X:Cx} {pos:Pos}
end
end L2
namespace FL
open PySem PySem.Spec PyProof.Rows L2
section
variable {X:Cx}
end
section
variable {K:Frag} {H H' H₀ : Hp} {O O':Addr->Prop}
abbrev orL (fs:List Addr) (O:Addr->Prop):Addr->Prop:=fun b=>b∈fs \/ O b
theorem Rep.moreL:∀ {ps:List Addr},(∀ p∈ps,H p=none)->Rep K H O v d->Rep K H (orL ps O) v d
 | [],_,h=>h.less fun a z=>z.elim (fun q=>nomatch q) id
 | p::ps,hp,h=>((Rep.moreL (ps:=ps) (fun q hq=>hp q (.tail _ hq)) h).more (p:=p) (hp p (.head _))).less fun a z=>z.elim (fun q=>(List.mem_cons.mp q).elim .inl fun q=>.inr (.inl q)) fun q=>.inr (.inr q)
theorem Reps.moreL:∀ {ps:List Addr},(∀ p∈ps,H p=none)->Reps K H O v d->Reps K H (orL ps O) v d
 | [],_,h=>h.less fun a z=>z.elim (fun q=>nomatch q) id
 | p::ps,hp,h=>((Reps.moreL (ps:=ps) (fun q hq=>hp q (.tail _ hq)) h).more (p:=p) (hp p (.head _))).less fun a z=>z.elim (fun q=>(List.mem_cons.mp q).elim .inl fun q=>.inr (.inl q)) fun q=>.inr (.inr q)
theorem RepO.moreL:∀ {ps:List Addr},(∀ p∈ps,H p=none)->RepO K H O v t fs->RepO K H (orL ps O) v t fs
 | [],_,h=>h.less (fun a z=>z.elim (fun q=>nomatch q) id) fun b hb=>.inr (h.owns b hb).1
 | p::ps,hp,h=>((RepO.moreL (ps:=ps) (fun q hq=>hp q (.tail _ hq)) h).more (p:=p) (hp p (.head _))).less (fun a z=>z.elim (fun q=>(List.mem_cons.mp q).elim .inl fun q=>.inr (.inl q)) fun q=>.inr (.inr q)) fun b hb=>.inr (h.owns b hb).1
theorem Ok.moreL (o:Ok K H₀ H O σ ds hd) (s:Same H H') (hn:∀ b∈fs,H b=none) (hl:∀ b∈fs,∃ u:MutHO,H' b=some u.1):Ok K H₀ H' (orL fs O) σ ds hd:=by
 refine ⟨o.same.trans s,o.fresh,fun b hb=>hb.elim (hl b) fun z=>let ⟨xs,e⟩:=o.dom b z; ⟨xs,s _ _ e⟩,o.len,fun i sl e=>?_,o.apart,fun p hp=>?_,o.obs.tr (fun _ _ _ r _=>(r.moreL hn).mono s) (fun _ _ _ e=>⟨e,rfl⟩) fun _ _ oj ej=>.inl ⟨oj,ej⟩⟩
 · cases sl with
   | no=>exact qQ
   | ob r t=>exact yL
   | exc t =>
     obtain ⟨a',C',ob',u',q1,q2,q3,q4⟩:=o.readX e
     rw [q1]
     exact ⟨C',ob',u',q2,s _ _ q3,q4⟩
   | exf t fs =>
     obtain ⟨a',q1,q3⟩:=o.readE e
     rw [q1]
     exact q3.keep fun a' ob' u' q3=>s _ _ q3
   | fr l' =>
     obtain ⟨a',xs',q1,q2,q0,q3,q4⟩:=o.readF e
     rw [q1]
     exact ⟨fun z=>z.elim (fun z=>by rw [hn _ z] at q3; cases q3) q2,q0,xs',s _ _ q3,(q4.moreL hn).mono s⟩
   | v d =>
     obtain ⟨v,h1,h2⟩:=o.read e
     rw [h1]
     exact yO ((h2.moreL hn).mono s)
   | own l' =>
     obtain ⟨b,ys,h1,h2,h3,h4⟩:=o.readO e
     rw [h1]
     exact ⟨.inr h2,ys,s _ _ h3,(h4.moreL hn).mono s⟩
 · have := o.hold p hp
   cases p with
   | rep v d=>exact (Rep.moreL hn this).mono s
   | base B=>exact fun b hb=>⟨.inr (this b hb).1,(this b hb).2⟩
   | root k a=>exact True.intro
   | fz a' o' kvs' l'=>exact ⟨fun z=>z.elim (fun z=>by have:=this.2.1; rw [hn _ z] at this; cases this) this.1,s _ _ this.2.1,(Reps.moreL hn this.2.2).mono s⟩
theorem Ok.setOb (o:Ok K H₀ H O σ ds hd) (s:Same H H') (r:RepO K H' (orL fs O) v t fs) (nd:fs.Nodup) (hn:∀ b∈fs,H b=none) :
  Ok K H₀ H' (orL fs O) (σ.set i (some v)) (ds.set i (.ob none t)) hd:=by
 have o1:=o.moreL s hn fun b hb=>(r.owns b hb).2
 have own':∀ {j:Nat},IsOwn (ds.set i (.ob none t)) j->IsOwn ds j/\j≠i:=fun h=>yV (fun l=>by intro z; cases z) h
 refine ⟨o1.same,fun j l a e1 e2=>?_,o1.dom,by simpa using o1.len,fun j sl e=>?_,fun j k a hjk hj hk e1 e2=>?_,o1.hold,?_⟩
 · obtain ⟨⟨l', e'⟩, n1⟩ := own' ⟨l, e1⟩
   rw [List.getElem?_set_ne (Ne.symm n1)] at e2
   exact o1.fresh j l' a e' e2
 · by_cases hj : j = i
   · subst hj
     by_cases hl:j < ds.length
     · rw [List.getElem?_set_self hl] at e
       cases e
       exact yL
     · rw [List.getElem?_eq_none (by simpa using hl)] at e; cases e
   · rw [List.getElem?_set_ne (Ne.symm hj)] at e
     rw [List.getElem?_set_ne (Ne.symm hj)]
     exact o1.sl j sl e
 · obtain ⟨h1, n1⟩ := own' hj
   obtain ⟨h2,n2⟩:=own' hk
   rw [List.getElem?_set_ne (Ne.symm n1)] at e1
   rw [List.getElem?_set_ne (Ne.symm n2)] at e2
   exact o1.apart j k a hjk h1 h2 e1 e2
 · obtain ⟨F, hF⟩ := o.obs
   have ne:∀ {j:Nat} {r':Option Nat} {t':OT},ds[j]? = some (.ob r' t')->∀ b∈F j,b ∉ fs:=fun {j r' t'} e b hb z=>by
    obtain ⟨w,_,q,_⟩:=hF j r' t' e
    obtain ⟨_,xs,ex⟩:=q.owns b hb
    rw [hn b z] at ex; cases ex
   refine ⟨fun j=>if j=i then fs else F j,fun j r' t' e=>?_⟩
   by_cases hj:j=i
   · subst hj
     by_cases hl:j < ds.length
     · rw [List.getElem?_set_self hl] at e
       cases e
       refine ⟨v,by rw [List.getElem?_set_self (by rw [o.len]; exact hl)],by simpa using r,(fun k a z=>by cases z),by simpa using nd,fun b hb=>?_⟩
       have hb:b∈fs:=by simpa using hb
       refine ⟨o.same.free (hn b hb),fun k r2 t2 hk e2 z=>?_,fun k ok ek=>?_⟩
       · simp [hk, if_false] at z
         rw [List.getElem?_set_ne (Ne.symm hk)] at e2
         exact ne e2 b z hb
       · obtain ⟨⟨l2, e2⟩, hk⟩ := own' ok
         rw [List.getElem?_set_ne (Ne.symm hk)] at ek
         obtain ⟨b',ys,q1,_,q3,_⟩:=o.readO e2
         rw [ek] at q1; cases q1
         rw [hn b hb] at q3; cases q3
     · rw [List.getElem?_eq_none (by simpa using hl)] at e; cases e
   · rw [List.getElem?_set_ne (Ne.symm hj)] at e
     obtain ⟨w,h1,h2,h3,h4,h5⟩:=hF j r' t' e
     refine ⟨w,by rw [List.getElem?_set_ne (Ne.symm hj)]; exact h1,by simp [hj,if_false]; exact (h2.moreL hn).mono s,h3,by simpa [hj] using h4,fun b hb=>?_⟩
     have hb:b∈F j:=by simpa [hj] using hb
     refine ⟨(h5 b hb).1,fun k r2 t2 hk e2 z=>?_,fun k ok ek=>?_⟩
     · by_cases hki : k = i
       · simp [hki, if_true] at z
         exact ne e b hb z
       · simp [hki, if_false] at z
         rw [List.getElem?_set_ne (Ne.symm hki)] at e2
         exact (h5 b hb).2.1 k r2 t2 hk e2 z
     · obtain ⟨ok', hk⟩ := own' ok
       rw [List.getElem?_set_ne (Ne.symm hk)] at ek
       exact (h5 b hb).2.2 k ok' ek
inductive Kid (H:Hp) (b:Addr):List V->Prop
 | tup {xs:List V} (h:Rd H b (.tup xs)):Kid H b xs
 | lst {xs:List V} (h:H b=some (.lst xs)):Kid H b xs
 | dct {kvs:List (Key×V)} (h:H b=some (.dK kvs)):Kid H b (kvs.map (·.2))
 | ins {C dx:Addr} {kvs:List (Str×V)} (h:H b=some (.ins C dx kvs)):Kid H b (kvs.map (·.2))
noncomputable def PathV (H:Hp):V->List Nat->V->Prop
 | v,[],w=>w=v
 | v,k::p,w=>∃ b xs x,v = .ref b/\Kid H b xs/\xs[k]? = some x/\PathV H x p w
theorem Kid.det (h:Kid H b xs) (g:Kid H b ys):xs=ys:=by
 have rd:∀ {zs ws:List V},Rd H b (.tup zs)->Rd H b (.tup ws)->zs=ws:=fun h g=>by
  rcases h with h | ⟨o,h⟩ <;> rcases g with g | ⟨o',g⟩ <;> rw [h] at g <;> cases g <;> rfl
 have no:∀ {zs:List V} {u:HO},Rd H b (.tup zs)->H b=some u->(∀ ws,u≠.tup ws)->(∀ o w,u≠.frz o w)->False:=fun h g n1 n2=>by
  rcases h with h | ⟨o,h⟩ <;> rw [h] at g <;> cases g
  · exact n1 _ rfl
  · exact n2 _ _ rfl
 cases h with
 | tup h => cases g with
   | tup g=>exact rd h g
   | lst g=>exact (no h g (fun _ z=>by cases z) (fun _ _ z=>by cases z)).elim
   | dct g=>exact (no h g (fun _ z=>by cases z) (fun _ _ z=>by cases z)).elim
   | ins g=>exact (no h g (fun _ z=>by cases z) (fun _ _ z=>by cases z)).elim
 | lst h => cases g with
   | tup g=>exact (no g h (fun _ z=>by cases z) (fun _ _ z=>by cases z)).elim
   | lst g=>rw [h] at g; cases g; rfl
   | dct g=>rw [h] at g; cases g
   | ins g=>rw [h] at g; cases g
 | dct h => cases g with
   | tup g=>exact (no g h (fun _ z=>by cases z) (fun _ _ z=>by cases z)).elim
   | lst g=>rw [h] at g; cases g
   | dct g=>rw [h] at g; cases g; rfl
   | ins g=>rw [h] at g; cases g
 | ins h => cases g with
   | tup g=>exact (no g h (fun _ z=>by cases z) (fun _ _ z=>by cases z)).elim
   | lst g=>rw [h] at g; cases g
   | dct g=>rw [h] at g; cases g
   | ins g=>rw [h] at g; cases g; rfl
theorem pathV_det {p:List Nat} {v x y:V} (h:PathV H v p x) (g:PathV H v p y):x=y:=by
 induction p generalizing v with
 | nil=>exact h.trans g.symm
 | cons k p i =>
   obtain ⟨b,xs,z,h1,h2,h3,h4⟩:=h
   obtain ⟨b',xs',z',g1,g2,g3,g4⟩:=g
   rw [h1] at g1
   cases g1
   cases h2.det g2
   rw [h3] at g3
   cases g3
   exact i h4 g4
theorem RepsO.length {xs:List V} {ts:List OT} {fs:List Addr} (h:RepsO K H O xs ts fs):xs.length=ts.length:=h.ind (m:=fun v d _=>v.length=d.length) rfl fun _=>congrArg (·+1)
theorem RepsO.pick:∀ {xs:List V} {ts:List OT} {fs:List Addr} {k:Nat} {t:OT},RepsO K H O xs ts fs->ts[k]? = some t->∃ x pre f post,xs[k]? = some x/\fs=pre++(f++post)/\RepO K H O x t f ∧
  ∀ {H':Hp} {O':Addr->Prop} {g:OT->OT} {f':List Addr},RepO K H' O' x (g t) f'->(∀ y s e,RepO K H O y s e->(∀ b∈e,b∈pre \/ b∈post)->RepO K H' O' y s e)->RepsO K H' O' xs (ts.modify k g) (pre++(f'++post))
 | _, _, _, 0, t, .cons (x := x) (fs := f) (gs := gs) h r, e => by
   simp only [List.getElem?_cons_zero,Option.some.injEq] at e
   subst e
   refine ⟨x,[],f,gs,rfl,rfl,h,fun {H' O' g f'} h' ho=>?_⟩
   have:∀ {xs:List V} {ts:List OT} {gs':List Addr},RepsO K H O xs ts gs'->(∀ b∈gs',b∈gs)->RepsO K H' O' xs ts gs':=by
    intro xs ts gs' h
    induction xs generalizing ts gs' with
    | nil=>intro _; cases h; exact .nil
    | cons y ys ih =>
      intro hb
      cases h with
      | cons h1 h2=>exact .cons (ho _ _ _ h1 fun b z=>.inr (hb b (List.mem_append_left _ z))) (ih h2 fun b z=>hb b (List.mem_append_right _ z))
   show RepsO K H' O' _ _ (f'++gs)
   exact .cons h' (this r fun _ z=>z)
 | _, _, _, k + 1, t, .cons (x := x) (t := t0) (fs := f0) (gs := gs) h r, e => by
   obtain ⟨y,pre,f,post,h1,h2,h3,h4⟩:=RepsO.pick (k:=k) (t:=t) r (by simpa using e)
   refine ⟨y,f0++pre,f,post,by simpa using h1,by rw [h2]; simp,h3,fun {H' O' g f'} h' ho=>?_⟩
   have q:=h4 h' fun z s e' hz hb=>ho z s e' hz fun b hb'=>(hb b hb').elim (fun z=>.inl (List.mem_append_right _ z)) .inr
   have:=RepsO.cons (ho _ _ _ h fun b hb=>.inl (List.mem_append_left _ hb)) q
   simpa [List.append_assoc] using this
theorem nodup_mid (nd:(pre++(f++post)).Nodup):f.Nodup/\(∀ b∈f,b ∉ pre/\b ∉ post)/\∀ (f':List Addr),f'.Nodup->(∀ b∈f',b∈f \/ (b ∉ pre/\b ∉ post))->(pre++(f'++post)).Nodup:=by
 rw [List.nodup_append] at nd
 obtain ⟨n1,n2,n3⟩:=nd
 rw [List.nodup_append] at n2
 obtain ⟨n4,n5,n6⟩:=n2
 have ap:∀ b∈f,b ∉ pre/\b ∉ post:=fun b hb=>⟨fun z=>n3 b z b (List.mem_append_left _ hb) rfl,fun z=>n6 b hb b z rfl⟩
 refine ⟨n4,ap,fun f' hf hs=>?_⟩
 have ap':=fun b hb=>(hs b hb).elim (ap b) id
 rw [List.nodup_append]
 refine ⟨n1,?_,fun a ha b hb e=>?_⟩
 · rw [List.nodup_append]
   exact ⟨hf,n5,fun a ha b hb e=>(ap' a ha).2 (e ▸ hb)⟩
 · rcases List.mem_append.mp hb with z | z
   · exact (ap' b z).1 (e ▸ ha)
   · exact n3 a ha b (List.mem_append_right _ z) e
structure Chg (H H':Hp) (O O':Addr->Prop) (f:List Addr) (f':List Addr):Prop where
 keep:∀ b u,¬ O b->H b=some u->H' b=some u
 rest:∀ b u,O b->b ∉ f->H b=some u->H' b=some u
 sub:∀ b,O b->b ∉ f->O' b
 new:∀ b,O' b->O b \/ (b∈f'/\H b=none)
 fp:∀ b∈f',b∈f \/ H b=none
theorem Chg.rep (c:Chg H H' O O' f f') (r:Rep K H O v d):Rep K H' O' v d:=by
 have hn:∀ p∈f'.filter (fun b=>(H b).isNone),H p=none:=fun p hp=>by simpa using (List.mem_filter.mp hp).2
 have r1:=(r.moreL hn).keep fun b u hb e=>c.keep b u (fun z=>hb (.inr z)) e
 exact r1.less fun a z=>(c.new a z).elim .inr fun q=>.inl (List.mem_filter.mpr ⟨q.1,by rw [q.2]; rfl⟩)
theorem Chg.reps (c:Chg H H' O O' f f') (r:Reps K H O v d):Reps K H' O' v d:=by
 have hn:∀ p∈f'.filter (fun b=>(H b).isNone),H p=none:=fun p hp=>by simpa using (List.mem_filter.mp hp).2
 have r1:=(r.moreL hn).keep fun b u hb e=>c.keep b u (fun z=>hb (.inr z)) e
 exact r1.less fun a z=>(c.new a z).elim .inr fun q=>.inl (List.mem_filter.mpr ⟨q.1,by rw [q.2]; rfl⟩)
theorem Chg.repO (c:Chg H H' O O' f f') (r:RepO K H O v t e) (he:∀ b∈e,b ∉ f):RepO K H' O' v t e:=by
 have hn:∀ p∈f'.filter (fun b=>(H b).isNone),H p=none:=fun p hp=>by simpa using (List.mem_filter.mp hp).2
 have r1:=(r.moreL hn).keep (fun b u hb e=>c.keep b u (fun z=>hb (.inr z)) e) fun b hb u eb=>c.rest b u (r.owns b hb).1 (he b hb) eb
 exact r1.less (fun a z=>(c.new a z).elim .inr fun q=>.inl (List.mem_filter.mpr ⟨q.1,by rw [q.2]; rfl⟩)) fun b hb=>c.sub b (r.owns b hb).1 (he b hb)
theorem RepO.modAt:∀ p {v:V} {t u:OT} {fs:List Addr},RepO K H O v t fs->fs.Nodup->subO p t=some u->∃ w f,PathV H v p w/\RepO K H O w u f/\f.Nodup/\(∀ b∈f,b∈fs) ∧
  ∀ {H':Hp} {O':Addr->Prop} {u':OT} {f':List Addr},Chg H H' O O' f f'->RepO K H' O' w u' f'->f'.Nodup->∃ fs',RepO K H' O' v (putO u' p t) fs'/\fs'.Nodup/\(∀ b∈fs',b∈fs \/ b∈f')/\∀ b∈f',b∈fs'
 | [], v, t, u, fs, r, nd, e => by
   cases e
   exact ⟨v,fs,rfl,r,nd,fun _ h=>h,fun {H' O' u' f'} c r' nd'=>⟨f',r',nd',fun b hb=>.inr hb,fun b hb=>hb⟩⟩
 | k :: p, v, t, u, fs, r, nd, e => by
   have core:∀ {xs:List V} {ts:List OT} {gs:List Addr},RepsO K H O xs ts gs->gs.Nodup->(ts[k]?).bind (subO p)=some u->∃ x w f,xs[k]? = some x/\PathV H x p w/\RepO K H O w u f/\f.Nodup/\(∀ b∈f,b∈gs) ∧
     ∀ {H':Hp} {O':Addr->Prop} {u':OT} {f':List Addr},Chg H H' O O' f f'->RepO K H' O' w u' f'->f'.Nodup->∃ gs',RepsO K H' O' xs (ts.modify k (putO u' p)) gs'/\gs'.Nodup/\(∀ b∈gs',b∈gs \/ b∈f')/\∀ b∈f',b∈gs':=by
    intro xs ts gs rs nds es
    obtain ⟨t1,ht,es⟩:=bnd es
    obtain ⟨x,pre,f0,post,h1,rfl,h3,h4⟩:=rs.pick ht
    obtain ⟨nf,nfr,nre⟩:=nodup_mid nds
    obtain ⟨w,f,g1,g2,g3,g4,g5⟩:=RepO.modAt p h3 nf es
    have inn:∀ b∈f,b∈pre++(f0++post):=fun b hb=>List.mem_append_right _ (List.mem_append_left _ (g4 b hb))
    refine ⟨x,w,f,h1,g1,g2,g3,inn,fun {H' O' u' f'} c r' nd'=>?_⟩
    obtain ⟨f1,q1,q2,q3,q4⟩:=g5 c r' nd'
    have old:∀ b,b∈pre++(f0++post)->H b≠none:=fun b hb z=>by
     obtain ⟨_,y,ey⟩:=rs.owns b hb
     rw [z] at ey; cases ey
    refine ⟨pre++(f1++post),h4 (g:=putO u' p) q1 fun y s e hy hb=>c.repO hy fun b hb' z=>?_,nre f1 q2 fun b hb=>?_,fun b hb=>?_,fun b hb=>List.mem_append_right _ (List.mem_append_left _ (q4 b hb))⟩
    · exact (hb b hb').elim (nfr b (g4 b z)).1 (nfr b (g4 b z)).2
    · rcases q3 b hb with z | z
      · exact .inl z
      · rcases c.fp b z with y | y
        · exact .inl (g4 b y)
        · exact .inr ⟨fun q=>old b (List.mem_append_left _ q) y,fun q=>old b (List.mem_append_right _ (List.mem_append_right _ q)) y⟩
    · rcases List.mem_append.mp hb with z | z
      · exact .inl (List.mem_append_left _ z)
      · rcases List.mem_append.mp z with z | z
        · exact (q3 b z).imp (fun z=>List.mem_append_right _ (List.mem_append_left _ z)) id
        · exact .inl (List.mem_append_right _ (List.mem_append_right _ z))
   have head:∀ {a0:Addr} {gs gs' f f':List Addr} {H':Hp} {O':Addr->Prop},(a0::gs).Nodup->O a0->H a0≠none->Chg H H' O O' f f'->gs'.Nodup->(∀ b∈gs',b∈gs \/ b∈f')->(∀ b∈f,b∈gs)->(a0::gs').Nodup/\(∀ b∈a0::gs',b∈a0::gs \/ b∈f')/\a0 ∉ f:=by
    intro a0 gs gs' f f' H' O' nd0 oa ha c ndg hg hf
    obtain ⟨n0,_⟩:=List.nodup_cons.mp nd0
    refine ⟨List.nodup_cons.mpr ⟨fun z=>?_,ndg⟩,fun b hb=>?_,fun z=>n0 (hf a0 z)⟩
    · rcases hg a0 z with y | y
      · exact n0 y
      · exact (c.fp a0 y).elim (fun q=>n0 (hf a0 q)) ha
    · rcases List.mem_cons.mp hb with rfl | z
      · exact .inl (.head _)
      · exact (hg b z).imp (fun y=>.tail _ y) id
   cases r with
   | val r=>simp [subO] at e
   | tup n h r =>
     obtain ⟨x,w,f,h1,g1,g2,g3,g4,g5⟩:=core r nd e
     refine ⟨w,f,⟨_,_,x,rfl,.tup h,h1,g1⟩,g2,g3,g4,fun {H' O' u' f'} c r' nd'=>?_⟩
     obtain ⟨gs',q1,q2,q3,q4⟩:=g5 c r' nd'
     refine ⟨gs',?_,q2,q3,q4⟩
     have kk:Keep O H H':=fun b u hb eb=>c.keep b u hb eb
     exact .tup (fun z=>(c.new _ z).elim n fun q=>Rd.some h q.2) (kk.rd n h) q1
   | lst n h r =>
     obtain ⟨x,w,f,h1,g1,g2,g3,g4,g5⟩:=core r (List.nodup_cons.mp nd).2 e
     refine ⟨w,f,⟨_,_,x,rfl,.lst h,h1,g1⟩,g2,g3,fun b hb=>.tail _ (g4 b hb),fun {H' O' u' f'} c r' nd'=>?_⟩
     obtain ⟨gs',q1,q2,q3,q4⟩:=g5 c r' nd'
     obtain ⟨k1,k2,k3⟩:=head nd n (by rw [h]; simp) c q2 q3 g4
     exact ⟨_::gs',.lst (c.sub _ n k3) (c.rest _ _ n k3 h) q1,k1,k2,fun b hb=>.tail _ (q4 b hb)⟩
   | dct n h he r =>
     obtain ⟨x,w,f,h1,g1,g2,g3,g4,g5⟩:=core r (List.nodup_cons.mp nd).2 e
     refine ⟨w,f,⟨_,_,x,rfl,.dct h,h1,g1⟩,g2,g3,fun b hb=>.tail _ (g4 b hb),fun {H' O' u' f'} c r' nd'=>?_⟩
     obtain ⟨gs',q1,q2,q3,q4⟩:=g5 c r' nd'
     obtain ⟨k1,k2,k3⟩:=head nd n (by rw [h]; simp) c q2 q3 g4
     exact ⟨_::gs',.dct (c.sub _ n k3) (c.rest _ _ n k3 h) he q1,k1,k2,fun b hb=>.tail _ (q4 b hb)⟩
   | ins hc n h he r =>
     obtain ⟨x,w,f,h1,g1,g2,g3,g4,g5⟩:=core r (List.nodup_cons.mp nd).2 e
     refine ⟨w,f,⟨_,_,x,rfl,.ins h,h1,g1⟩,g2,g3,fun b hb=>.tail _ (g4 b hb),fun {H' O' u' f'} c r' nd'=>?_⟩
     obtain ⟨gs',q1,q2,q3,q4⟩:=g5 c r' nd'
     obtain ⟨k1,k2,k3⟩:=head nd n (by rw [h]; simp) c q2 q3 g4
     exact ⟨_::gs',.ins hc (c.sub _ n k3) (c.rest _ _ n k3 h) he q1,k1,k2,fun b hb=>.tail _ (q4 b hb)⟩
theorem Ok.modAt (o:Ok K H₀ H O σ ds hd) (e:ds[i]? = some (.ob r t)) (hs:subO p t=some u) :
  ∃ v w f,σ[i]? = some (some v)/\PathV H v p w/\RepO K H O w u f/\f.Nodup/\(∀ b∈f,H₀ b=none) ∧
   ∀ {H':Hp} {O':Addr->Prop} {u':OT} {f':List Addr},Chg H H' O O' f f'->(∀ b∈f,O' b->∃ y:MutHO,H' b=some y.1)->RepO K H' O' w u' f'->f'.Nodup->Ok K H₀ H' O' σ (ds.set i (.ob r (putO u' p t))) hd:=by
 obtain ⟨F,hF⟩:=o.obs
 obtain ⟨v,h1,h2,h3,h4,h5⟩:=hF i r t e
 obtain ⟨w,f,g1,g2,g3,g4,g5⟩:=h2.modAt p h4 hs
 have hl:i < ds.length:=(List.getElem?_eq_some_iff.mp e).1
 refine ⟨v,w,f,h1,g1,g2,g3,fun b hb=>(h5 b (g4 b hb)).1,fun {H' O' u' f'} c hf r' nd'=>?_⟩
 obtain ⟨fs',q1,q2,q3,q4⟩:=g5 c r' nd'
 have own':∀ {j:Nat},IsOwn (ds.set i (.ob r (putO u' p t))) j->IsOwn ds j/\j≠i:=fun h=>yV (fun l=>by intro z; cases z) h
 have nown:∀ {j:Nat} {b:Addr},IsOwn ds j->σ[j]? = some (some (.ref b))->b ∉ f:=fun {j b} oj ej z=>(h5 b (g4 b z)).2.2 j oj ej
 have free0:∀ b,H b=none->H₀ b=none:=fun b hb=>o.same.free hb
 refine ⟨fun b x eb=>?_,fun j l b e1 e2=>?_,fun b hb=>?_,by simpa using o.len,fun j sl es=>?_,fun j m b hjm hj hm e1 e2=>o.apart j m b hjm (own' hj).1 (own' hm).1 e1 e2,fun q hq=>?_,?_⟩
 · have hb := o.same b x eb
   by_cases ob:O b
   · by_cases bf : b ∈ f
     · rw [(h5 b (g4 b bf)).1] at eb; cases eb
     · exact c.rest b x ob bf hb
   · exact c.keep b x ob hb
 · obtain ⟨⟨l', e'⟩, _⟩ := own' ⟨l, e1⟩
   exact o.fresh j l' b e' e2
 · rcases c.new b hb with z | z
   · by_cases bf : b ∈ f
     · exact hf b bf hb
     · obtain ⟨y, ey⟩ := o.dom b z
       exact ⟨y,c.rest b _ z bf ey⟩
   · exact (r'.owns b z.1).2
 · by_cases hj : j = i
   · subst hj
     rw [List.getElem?_set_self hl] at es
     cases es
     exact yL
   · rw [List.getElem?_set_ne (Ne.symm hj)] at es
     cases sl with
     | no=>exact qQ
     | ob r t=>exact yL
     | exc t =>
       obtain ⟨a',C',ob',x',q1,q2,q3,q4⟩:=o.readX es
       rw [q1]
       refine ⟨C',ob',x',q2,c.keep _ _ (fun z=>?_) q3,q4⟩
       obtain ⟨y,ey⟩:=o.dom _ z
       rw [q3] at ey
       have h2:=y.2
       rw [<- Option.some.inj ey] at h2
       cases h2
     | exf t fs =>
       obtain ⟨a',q1,q3⟩:=o.readE es
       rw [q1]
       refine q3.keep fun a' ob' x' q3=>c.keep _ _ (fun z=>?_) q3
       obtain ⟨y,ey⟩:=o.dom _ z
       rw [q3] at ey
       have h2:=y.2
       rw [<- Option.some.inj ey] at h2
       cases h2
     | fr l' =>
       obtain ⟨a',xs'',q1,q2,q0,q3,q4⟩:=o.readF es
       rw [q1]
       exact ⟨fun z=>(c.new _ z).elim q2 (fun y=>by rw [y.2] at q3; cases q3),q0,xs'',c.keep _ _ q2 q3,c.reps q4⟩
     | v d =>
       obtain ⟨v,q1,q2⟩:=o.read es
       rw [q1]
       exact yO (c.rep q2)
     | own l'' =>
       obtain ⟨b,ys,q1,q2,q3,q4⟩:=o.readO es
       rw [q1]
       exact ⟨c.sub _ q2 (nown ⟨l'',es⟩ q1),ys,c.rest _ _ q2 (nown ⟨l'',es⟩ q1) q3,c.reps q4⟩
 · have := o.hold q hq
   cases q with
   | rep v d=>exact c.rep this
   | base B=>exact fun b hb=>⟨c.sub _ (this b hb).1 (fun z=>(this b hb).2 (h5 b (g4 b z)).1),(this b hb).2⟩
   | root k a=>exact True.intro
   | fz a' o' kvs' l'=>exact ⟨fun z=>(c.new _ z).elim this.1 (fun y=>by have z:=this.2.1; rw [y.2] at z; cases z),c.keep _ _ this.1 this.2.1,c.reps this.2.2⟩
 · refine ⟨fun j => if j = i then fs' else F j, fun j r2 t2 ej => ?_⟩
   have fsOld:∀ b∈fs',b∈F i \/ H b=none:=fun b hb=>(q3 b hb).elim .inl fun z=>(c.fp b z).imp (g4 b) id
   by_cases hj:j=i
   · subst hj
     rw [List.getElem?_set_self hl] at ej
     cases ej
     refine ⟨v,h1,by simpa using q1,h3,by simpa using q2,fun b hb=>?_⟩
     have hb:b∈fs':=by simpa using hb
     rcases fsOld b hb with z | z
     · refine ⟨(h5 b z).1, fun m r3 t3 hm e3 y => ?_, fun m om em => (h5 b z).2.2 m (own' om).1 em⟩
       simp only [hm,if_false] at y
       rw [List.getElem?_set_ne (Ne.symm hm)] at e3
       exact (h5 b z).2.1 m r3 t3 hm e3 y
     · refine ⟨free0 b z, fun m r3 t3 hm e3 y => ?_, fun m om em => ?_⟩
       · simp only [hm, if_false] at y
         rw [List.getElem?_set_ne (Ne.symm hm)] at e3
         obtain ⟨_,_,w3,_⟩:=hF m r3 t3 e3
         obtain ⟨_,x3,ex3⟩:=w3.owns b y
         rw [z] at ex3; cases ex3
       · obtain ⟨⟨l3, e3⟩, _⟩ := own' om
         obtain ⟨b3,ys,y1,_,y3,_⟩:=o.readO e3
         rw [em] at y1; cases y1
         rw [z] at y3; cases y3
   · rw [List.getElem?_set_ne (Ne.symm hj)] at ej
     obtain ⟨w2,y1,y2,y3,y4,y5⟩:=hF j r2 t2 ej
     have apart:∀ b∈F j,b ∉ f:=fun b hb z=>(h5 b (g4 b z)).2.1 j r2 t2 hj ej hb
     refine ⟨w2,y1,by simp only [hj,if_false]; exact c.repO y2 apart,y3,by simpa [hj] using y4,fun b hb=>?_⟩
     have hb:b∈F j:=by simpa [hj] using hb
     refine ⟨(y5 b hb).1,fun m r3 t3 hm e3 z=>?_,fun m om em=>(y5 b hb).2.2 m (own' om).1 em⟩
     by_cases hmi:m=i
     · simp only [hmi, if_true] at z
       rcases fsOld b z with x | x
       · exact (y5 b hb).2.1 i r t (fun z=>hj z.symm) e x
       · obtain ⟨_, x3, ex3⟩ := y2.owns b hb
         rw [x] at ex3; cases ex3
     · simp only [hmi, if_false] at z
       rw [List.getElem?_set_ne (Ne.symm hmi)] at e3
       exact (y5 b hb).2.1 m r3 t3 hm e3 z
end
section
variable (X:Cx)
def PVo (e:Expr) (f:FO):Prop:=∃ t,PE X e t/\∀ H₀ H O σ ds hd T Q,Ok X.K H₀ H O σ ds hd->f ds=some T->(∀ v H' fs,Same H H'->RepO X.K H' (orL fs O) v T fs->fs.Nodup->(∀ b∈fs,H b=none)->Q v H')->t σ H Q
def PVp (e:Expr) (f:FP):Prop:=∃ t,PE X e t/\∀ H₀ H O σ ds hd q Q,Ok X.K H₀ H O σ ds hd->f ds=some q->(∀ r T v w fs,ds[q.1]? = some (.ob r T)->subO q.2.1 T=some q.2.2->σ[q.1]? = some (some v)->PathV H v q.2.1 w->RepO X.K H O w q.2.2 fs->Q w H)->t σ H Q
end
section
theorem repsO_vals {K:Frag} {xs:List V} {l:List D} (h:Reps K H O xs l):RepsO K H O xs (l.map OT.val) []:=h.ind (m:=fun xs l=>RepsO K H O xs (l.map OT.val) []) .nil fun h=>.cons (fs:=[]) (gs:=[]) (.val h)
theorem pvo_l (h:PVf X e f):PVo X e (lO f):=by
 obtain ⟨t,ht,hf⟩:=h
 refine ⟨t,ht,fun H₀ H O σ ds hd T Q o e q=>?_⟩
 obtain ⟨l,h1,rfl⟩:=mpd e
 refine hf H₀ H O σ ds hd l Q o h1 fun a xs H' s hn he r=>q (.ref a) H' [a] s ?_ (by simp) fun b hb=>by rw [List.mem_singleton.mp hb]; exact hn
 exact .lst (.inl (.head _)) he (repsO_vals (r.less fun b z=>z.elim (fun q=>.inl (List.mem_singleton.mp q)) .inr))
theorem vZ (hN:X.N.Nodup) (he:PVo X e f) (hi:X.N[i]? = some x:=by rfl) (hx:Loc X.env.scope x:=by first | exact Or.inl rfl | exact Or.inr rfl) (hs:swapsWith e (some (.Name x pos')) pos.line X.env=pure false:=by rfl)
  (hf:X.fn x=true \/ X.env.scope.names.lookup x=some .local:=by first | exact .inl rfl | exact .inr rfl):PSv X (.Assign [.Name x pos'] e pos) (setB i f):=by
 obtain ⟨t,ht,hg⟩:=he
 refine ⟨_,wP hN hi hx ht hs hf,fun H₀ H O σ ds hd out E o e h=>?_⟩
 obtain ⟨T,h1,rfl⟩:=mpd e
 exact hg H₀ H O σ ds hd T _ o h1 fun v H' fs s r nd n=>h _ _ _ (o.setOb s r nd n)
theorem pvp_var i (hN:X.N[i]? = some x:=by rfl) (hv:Vis X.env.scope x:=by first | exact Or.inl rfl | exact Or.inr (Or.inl rfl) | exact Or.inr (Or.inr rfl)) (hd:(x == ("__debug__" : Str))=false:=by decide)
  (hcd:(x == ("__classdict__" : Str))=false:=by decide):PVp X (.Name x pos) (varP i):=by
 refine ⟨_,jG hN hv hd hcd,fun H₀ H O σ ds hd q Q o e h=>?_⟩
 unfold varP at e
 cases hs:ds[i]? with
 | none=>rw [hs] at e; cases e
 | some s =>
   rw [hs] at e
   cases s with
   | ob r t =>
     cases e
     obtain ⟨F,hF⟩:=o.obs
     obtain ⟨v,h1,h2,_⟩:=hF i r t hs
     exact ⟨v,h1,h r t v v _ hs rfl h1 rfl h2⟩
   | _=>cases e
theorem Chg.ofUpd (oa:O a) (ha:a∈f) (hf:∀ b∈f',b∈f):Chg H (upd H a y) O O f f' :=
 ⟨fun b u nb e=>by have z:b≠a:=fun z=>nb (by rw [z]; exact oa); rw [L2.upd_ne z]; exact e,fun b u _ nb e=>by have z:b≠a:=fun z=>nb (by rw [z]; exact ha); rw [L2.upd_ne z]; exact e,fun _ z _=>z,fun _ z=>.inl z,fun b hb=>.inl (hf b hb)⟩
section
end
theorem RepO.flatF {K:Frag} {H:Hp} {O O':Addr->Prop} (ho:∀ a,O a->∀ xs,¬ Rd H a (.tup xs)) {v:V} {t:OT} {fs:List Addr} (h:RepO K H O' v t fs):flatO t=true->(∀ b∈fs,O b)->RepO K H O v t fs :=
 h.rec (motive_1:=fun v t fs _=>flatO t=true->(∀ b∈fs,O b)->RepO K H O v t fs) (motive_2:=fun v t fs _=>flatOs t=true->(∀ b∈fs,O b)->RepsO K H O v t fs) (fun r f _=>.val (r.flatF ho f)) (fun _ h _ i f hb=>.lst (hb _ (.head _)) h (i f fun b z=>hb b (.tail _ z)))
  (fun n h _ i f hb=>.tup (fun z=>ho _ z _ h) h (i f hb)) (fun _ h e _ i f hb=>.dct (hb _ (.head _)) h e (i f fun b z=>hb b (.tail _ z))) (fun c _ h e _ i f hb=>.ins c (hb _ (.head _)) h e (i f fun b z=>hb b (.tail _ z)))
  (fun _ _ => .nil) (fun _ _ i j f hb => by
   have f:=Bool.and_eq_true_iff.1 f
   exact .cons (i f.1 fun b z=>hb b (List.mem_append_left _ z)) (j f.2 fun b z=>hb b (List.mem_append_right _ z)))
theorem RepO.flatten {K:Frag} {H:Hp} {O O':Addr->Prop} (ho:∀ a,O a->Old H a) {v:V} {t:OT} {fs:List Addr} (f:flatO t=true) (h:RepO K H O' v t fs):(∀ b∈fs,O b)->RepO K H O v t fs:=h.flatF (fun a z _=>(ho a z).tup) f
end
section
end
section
variable {K:Frag}
theorem Kid.mono (s:Same H H') (h:Kid H b xs):Kid H' b xs:=by
 cases h with
 | tup h=>exact .tup (Keep.rd (O:=jY) (.of_same s) (fun z=>z) h)
 | lst h=>exact .lst (s _ _ h)
 | dct h=>exact .dct (s _ _ h)
 | ins h=>exact .ins (s _ _ h)
theorem pathV_mono (s:Same H H') {p:List Nat} {v w:V} (h:PathV H v p w):PathV H' v p w:=by
 induction p generalizing v with
 | nil=>exact h
 | cons _ _ i =>
   obtain ⟨b,xs,x,h1,h2,h3,h4⟩:=h
   exact ⟨b,xs,x,h1,h2.mono s,h3,i h4⟩
theorem RepsO.put:∀ {xs:List V} {ts:List OT} {fs:List Addr} {k:Nat} {t:OT},RepsO K H O xs ts fs->ts[k]? = some t->∃ pre f post,fs=pre++(f++post) ∧
  ∀ {H':Hp} {O':Addr->Prop} {v:V} {T:OT} {f':List Addr},RepO K H' O' v T f'->(∀ y s e,RepO K H O y s e->(∀ b∈e,b∈pre \/ b∈post)->RepO K H' O' y s e)->RepsO K H' O' (xs.set k v) (ts.set k T) (pre++(f'++post))
 | _, _, _, 0, t, .cons (x := x) (fs := f) (gs := gs) h r, e => by
   refine ⟨[],f,gs,rfl,fun {H' O' v T f'} h' ho=>?_⟩
   have:∀ {xs:List V} {ts:List OT} {gs':List Addr},RepsO K H O xs ts gs'->(∀ b∈gs',b∈gs)->RepsO K H' O' xs ts gs':=by
    intro xs ts gs' h
    induction xs generalizing ts gs' with
    | nil=>intro _; cases h; exact .nil
    | cons y ys ih =>
      intro hb
      cases h with
      | cons h1 h2=>exact .cons (ho _ _ _ h1 fun b z=>.inr (hb b (List.mem_append_left _ z))) (ih h2 fun b z=>hb b (List.mem_append_right _ z))
   show RepsO K H' O' (v::_) (T::_) (f'++gs)
   exact .cons h' (this r fun _ z=>z)
 | _, _, _, k + 1, t, .cons (x := x) (t := t0) (fs := f0) (gs := gs) h r, e => by
   obtain ⟨pre,f,post,h2,h4⟩:=RepsO.put (k:=k) (t:=t) r (by simpa using e)
   refine ⟨f0++pre,f,post,by rw [h2]; simp,fun {H' O' v T f'} h' ho=>?_⟩
   have q:=h4 h' fun z s e' hz hb=>ho z s e' hz fun b hb'=>(hb b hb').elim (fun z=>.inl (List.mem_append_right _ z)) .inr
   have:=RepsO.cons (ho _ _ _ h fun b hb=>.inl (List.mem_append_left _ hb)) q
   simpa [List.append_assoc] using this
end
section
theorem RepsO.snoc {K:Frag} {xs:List V} {ts:List OT} {fs:List Addr} {v:V} {d:D} (h:RepsO K H O xs ts fs) (r:Rep K H O v d):RepsO K H O (xs++[v]) (ts++[.val d]) fs:=h.ind (m:=fun xs ts fs=>RepsO K H O (xs++[v]) (ts++[OT.val d]) fs) (.cons (fs:=[]) (gs:=[]) (.val r) .nil) .cons
theorem Chg.repsO {K:Frag} (c:Chg H H' O O' f f') {v:List V} {t:List OT} {e:List Addr} (h:RepsO K H O v t e):(∀ b∈e,b ∉ f)->RepsO K H' O' v t e :=
 h.ind (m:=fun v t e=>(∀ b∈e,b ∉ f)->RepsO K H' O' v t e) (fun _=>.nil) fun h j he=>.cons (c.repO h fun b z=>he b (List.mem_append_left _ z)) (j fun b z=>he b (List.mem_append_right _ z))
end
section
variable {K:Frag}
theorem RepO.frz {v:V} {t:OT} {fs:List Addr} (r:RepO K H O v t fs) (h:∀ a,O' a->O a/\a ∉ fs):Rep K H O' v (otD t):=r.val' h
theorem Ok.frz {σ : L2.St} {ds:List Sl} {hd:Hold} {i:Nat} {r:Option Nat} {T:OT} (o:Ok K H₀ H O σ ds hd) (e:ds[i]? = some (.ob r T)):∃ O',Ok K H₀ H O' σ (ds.set i (.v (otD T))) hd:=by
 obtain ⟨F,hF⟩:=o.obs
 obtain ⟨v,h1,h2,h3,h4,h5⟩:=hF i r T e
 have hl:i < ds.length:=(List.getElem?_eq_some_iff.mp e).1
 let O':Addr->Prop:=fun b=>O b/\b ∉ F i
 have sub:∀ b,O' b->O b:=fun b hb=>hb.1
 have own':∀ {j:Nat},IsOwn (ds.set i (.v (otD T))) j->IsOwn ds j/\j≠i:=fun h=>yV (fun l=>by intro z; cases z) h
 refine ⟨O',o.same,fun j l' b e1 e2=>?_,fun b hb=>o.dom b (sub b hb),by simpa using o.len,fun j s es=>?_,fun j m b hjm hj hm e1 e2=>o.apart j m b hjm (own' hj).1 (own' hm).1 e1 e2,fun p hp=>?_,?_⟩
 · obtain ⟨⟨l2, e2'⟩, _⟩ := own' ⟨l', e1⟩
   exact o.fresh j l2 b e2' e2
 · by_cases hj : j = i
   · subst hj
     rw [List.getElem?_set_self hl] at es
     cases es
     rw [h1]
     exact yO (h2.frz fun a z=>z)
   · rw [List.getElem?_set_ne (Ne.symm hj)] at es
     cases s with
     | no=>exact qQ
     | ob r t=>exact yL
     | exc t =>
       obtain ⟨a',C',ob',u',q1,q2,q3,q4⟩:=o.readX es
       rw [q1]
       exact ⟨C',ob',u',q2,q3,q4⟩
     | exf t fs =>
       obtain ⟨a',q1,q3⟩:=o.readE es
       rw [q1]
       exact q3.keep fun a' ob' u' q3=>q3
     | fr l' =>
       obtain ⟨a',xs',q1,q2,q0,q3,q4⟩:=o.readF es
       rw [q1]
       exact ⟨fun z=>q2 (sub _ z),q0,xs',q3,q4.less sub⟩
     | v d =>
       obtain ⟨v,q1,q2⟩:=o.read es
       rw [q1]
       exact yO (q2.less sub)
     | own l' =>
       obtain ⟨b,ys,q1,q2,q3,q4⟩:=o.readO es
       rw [q1]
       exact ⟨⟨q2,fun z=>(h5 b z).2.2 j ⟨l',es⟩ q1⟩,ys,q3,q4.less sub⟩
 · have := o.hold p hp
   cases p with
   | rep v d=>exact Rep.less sub this
   | base B=>exact fun b hb=>⟨⟨(this b hb).1,fun z=>(this b hb).2 (h5 b z).1⟩,(this b hb).2⟩
   | root k a=>exact True.intro
   | fz a' o' kvs' l'=>exact ⟨fun z=>this.1 (sub _ z),this.2.1,Reps.less sub this.2.2⟩
 · refine ⟨F, fun j r' t' ej => ?_⟩
   obtain ⟨ej,hj⟩:=xP (fun r t=>by intro z; cases z) ej
   obtain ⟨w,g1,g2,g3,g4,g5⟩:=hF j r' t' ej
   refine ⟨w,g1,g2.less sub fun b hb=>⟨(g2.owns b hb).1,fun z=>(h5 b z).2.1 j r' t' hj ej hb⟩,g3,g4,fun b hb=>⟨(g5 b hb).1,fun m r2 t2 hm em=>(g5 b hb).2.1 m r2 t2 hm (xP (fun r t=>by intro z; cases z) em).1,fun m om em=>(g5 b hb).2.2 m (own' om).1 em⟩⟩
end
section
end
section
end
section
variable {K:Frag}
theorem Ok.putN (y:MutHO) (o:Ok K H₀ H O σ ds hd) (e:ds[i]? = some (.ob r T)) (hs:subO p T=some u) (hv : σ[i]? = some (some v)) (hp:PathV H v p (.ref a))
  (h:∀ f,RepO K H O (.ref a) u f->f.Nodup->∃ f',O a/\a∈f/\(∀ b∈f',b∈f)/\f'.Nodup/\RepO K (upd H a y.1) O (.ref a) u' f'):Ok K H₀ (upd H a y.1) O σ (ds.set i (.ob r (putO u' p T))) hd:=by
 obtain ⟨v',w',f,y1,y2,y3,y4,y5,y6⟩:=o.modAt e hs
 rw [hv] at y1
 cases y1
 cases pathV_det hp y2
 obtain ⟨f',n,h1,h2,h3,h4⟩:=h f y3 y4
 refine y6 (.ofUpd n h1 h2) (fun b z _=>?_) h4 h3
 by_cases z':b=a
 · rw [z',upd_same]; exact ⟨y,rfl⟩
 · rw [upd_ne z']; exact (y3.owns b z).2
theorem yQ (r:Rep K H O v d) (e:keyD d=some k):v=kV k:=by
 cases d <;> first | (cases e; done) | skip
 · cases e; cases r; rfl
 · cases e; cases r; rfl
 · cases e; cases r; rfl
theorem wI (r:Rep K H O v d) (e:kdD d=some p):∃ a kvs,v = .ref a/\Rd H a (.dK kvs)/\kvs.map (·.1)=p.1/\Reps K H O (kvs.map (·.2)) p.2:=by
 cases d <;> first | (cases e; done) | skip
 · cases e
   cases r with
   | @dct a kvs _ _ n hb ek rs=>exact ⟨a,kvs,rfl,.inl hb,ek,rs⟩
 · cases e
   cases r with
   | @dcf a o kvs _ _ n hb ek rs=>exact ⟨a,kvs,rfl,.inr ⟨o,hb⟩,ek,rs⟩
theorem valV_get:∀ {kvs:List (Key×V)} {l:List D} {k:Key} {d:D},Reps K H O (kvs.map (·.2)) l->getKD k (kvs.map (·.1)) l=some d->∃ v,valV kvs k=some v/\Rep K H O v d
 | [],_,_,_,_,e=>by simp [getKD] at e
 | (k',v)::r,[],_,_,h,_=>by cases h
 | (k', v) :: r, d' :: l, k, d, .cons h t, e => by
   simp only [List.map_cons,getKD] at e
   by_cases z:k'=k
   · rw [if_pos z] at e
     cases e
     exact ⟨v,yR z,h⟩
   · rw [if_neg z] at e
     obtain ⟨w,h1,h2⟩:=valV_get t e
     exact ⟨w,by simpa [valV,List.find?_cons,z] using h1,h2⟩
theorem valV_some:∀ kvs k,(valV kvs k).isSome=hasK k (kvs.map (·.1))
 | [],k=>rfl
 | (k', v) :: r, k => by
   by_cases z:k'=k
   · simp [valV,List.find?_cons,z,hasK]
   · have := valV_some r k
     simp only [valV,hasK] at this ⊢
     rw [List.find?_cons_of_neg (by simpa using z),this]
     simp [z]
theorem wJ (h:hasK k (kvs.map (·.1))=true):putK kvs k v=kvs.map (fun kv=>if kv.1=k then (kv.1,v) else kv):=by
 unfold putK
 rw [if_pos]
 rw [hasK,List.any_map] at h
 exact h
theorem xX (h : ¬ hasK k (kvs.map (·.1))=true):putK kvs k v=kvs++[(k,v)]:=by
 unfold putK
 rw [if_neg]
 rw [hasK,List.any_map] at h
 exact h
theorem putK_map1 (kvs:List (Key×V)) k v:(kvs.map (fun kv=>if kv.1=k then (kv.1,v) else kv)).map (·.1)=kvs.map (·.1):=by
 rw [List.map_map]
 refine List.map_congr_left fun kv _=>?_
 simp only [Function.comp]
 split <;> rfl
theorem RepsO.putTs (r:Rep K H O v d):∀ {kvs:List (Key×V)} {ts:List OT} {fs:List Addr},RepsO K H O (kvs.map (·.2)) ts fs->∃ fs',fs'.Sublist fs/\RepsO K H O ((kvs.map (fun kv=>if kv.1=k then (kv.1,v) else kv)).map (·.2)) (FL.putTs k (.val d) (kvs.map (·.1)) ts) fs'
 | [],_,_,.nil=>⟨[],.slnil,.nil⟩
 | (k', w) :: kvs, _, _, .cons (t := t) (ts := ts) (fs := fs) (gs := gs) h q => by
   obtain ⟨gs',h1,h2⟩:=RepsO.putTs r q
   by_cases z:k'=k
   · refine ⟨gs', h1.trans (List.sublist_append_right _ _), ?_⟩
     simp only [List.map_cons,z,if_true,FL.putTs]
     exact .cons (fs:=[]) (.val r) h2
   · refine ⟨fs ++ gs', h1.append_left _, ?_⟩
     simp only [List.map_cons,z,if_false,FL.putTs]
     exact .cons h h2
end
section
theorem pvo_dnew:PVo X (.Dict [] [] pos) dO0:=by
 refine ⟨_,pe_dnewK,fun H₀ H O σ ds hd T Q o e q=>fun p hp=>?_⟩
 cases e
 exact q _ _ [p] (qB hp _) (.dct (.inl (.head _)) upd_same rfl .nil) (by simp) fun b hb=>by rw [List.mem_singleton.mp hb]; exact hp
theorem psv_dput (hr:Room j X.A) (ho:PVp X oe f) (hk:PV X ke fk) (he:PV X e fv) (hs:swapsWith e (some (.Subscript oe ke pos')) pos.line X.env=pure false:=by rfl) :
  PSv X (.Assign [.Subscript oe ke pos'] e pos) (dputG f fk fv):=by
 obtain ⟨tp,hp,hf⟩:=ho
 obtain ⟨tk,pk,hk⟩:=hk
 obtain ⟨te,pe,he⟩:=he
 refine ⟨_,ps_dput (Nat.lt_of_le_of_lt (by lia) (hu100 hr)) hp pk pe hs,fun H₀ H O σ ds hd out E o e h=>?_⟩
 obtain ⟨d,h1,e⟩:=bnd e
 obtain ⟨q,h2,e⟩:=bnd e
 obtain ⟨y,h3,e⟩:=bnd e
 obtain ⟨k,h4,e⟩:=bnd e
 refine he H₀ H O σ ds hd d _ o h1 fun v H1 s1 r1=>?_
 refine hf H₀ H1 O σ ds hd q _ (o.mono s1) h2 fun r T v0 w fs g1 g2 g3 g4 g5=>?_
 refine hk H₀ H1 O σ ds hd y _ (o.mono s1) h3 fun yv H2 s2 r2=>?_
 have o2:=(o.mono s1).mono s2
 cases hq:q.2.2 with
 | dct ks ts =>
   rw [hq] at e g2 g5
   simp only at e
   split at e
   · rename_i hl
     cases e
     cases g5 with
     | @dct a kvs _ _ fs' n hb ek rs =>
       have hb2:=s2 _ _ hb
       cases yQ r2 h4
       have ln:kvs.length < sizeLine:=by rw [<- ek] at hl; simpa using hl
       refine ⟨a,_,rfl,DPut.k hb2 ln,?_⟩
       have e':putP q (putKT k (.val d) ks ts) ds=ds.set q.1 (.ob r (putO (putKT k (.val d) ks ts) q.2.1 T)):=by simp [putP,g1]
       rw [e'] at h
       refine h _ _ _ (Ok.putN ⟨.dK (putK kvs k v),rfl⟩ o2 g1 g2 g3 (pathV_mono s2 g4) fun f2 k1 k2=>?_)
       cases k1 with
       | @dct _ kvs2 _ _ fs2 n2 hb3 ek2 rs2 =>
         rw [hb2] at hb3
         cases hb3
         obtain ⟨n3,n4⟩:=List.nodup_cons.mp k2
         have c:Chg H2 (upd H2 a (.dK (putK kvs k v))) O O [a] [a]:=.ofUpd n (.head _) fun _ z=>z
         have rs3:=c.repsO rs2 fun b z y=>n3 (List.mem_singleton.mp y ▸ z)
         have rv:=c.rep (r1.mono s2)
         unfold putKT
         by_cases hm:hasK k ks=true
         · rw [if_pos hm]
           have hm':hasK k (kvs.map (·.1))=true:=by rw [ek]; exact hm
           obtain ⟨fs3,w1,w2⟩:=RepsO.putTs rv rs3
           refine ⟨a::fs3,n,.head _,fun b z=>(List.mem_cons.mp z).elim (fun z=>by rw [z]; exact .head _) fun z=>.tail _ (w1.subset z),List.nodup_cons.mpr ⟨fun z=>n3 (w1.subset z),w1.nodup n4⟩,?_⟩
           refine .dct n upd_same ?_ ?_
           · rw [wJ hm',putK_map1,ek]
           · have z := congrArg (List.map (·.2)) (wJ (v := v) hm')
             rw [ek] at w2
             rw [<- z] at w2
             exact w2
         · rw [if_neg hm]
           have hm' : ¬ hasK k (kvs.map (·.1))=true:=by rw [ek]; exact hm
           refine ⟨a::fs2,n,.head _,fun b z=>z,k2,?_⟩
           refine .dct n upd_same ?_ ?_
           · rw [xX hm']; simp [ek]
           · have z : (putK kvs k v).map (·.2) = kvs.map (·.2) ++ [v] := by rw [xX hm']; simp
             rw [z]
             exact rs3.snoc rv
   · cases e
 | _=>rw [hq] at e; cases e
theorem vY (hr:Room j X.A) (ho:PV X oe fd) (hk:PV X ke fk) (hs:NoSl ke:=by exact fun _ _=>rfl):PV X (.Subscript oe ke pos) (dgetG fd fk):=by
 obtain ⟨td,pd,hd'⟩:=ho
 obtain ⟨tk,pk,hk⟩:=hk
 refine ⟨_,kL (Nat.lt_of_le_of_lt (by lia) (hu100 hr)) pd pk hs,fun H₀ H O σ ds hd d Q o e q=>?_⟩
 obtain ⟨x,h1,e⟩:=bnd e
 obtain ⟨y,h3,e⟩:=bnd e
 obtain ⟨k,h4,e⟩:=bnd e
 refine hd' H₀ H O σ ds hd x _ o h1 fun v H1 s1 r1=>?_
 refine hk H₀ H1 O σ ds hd y _ (o.mono s1) h3 fun yv H2 s2 r2=>?_
 obtain ⟨p,h6,e⟩:=bnd e
 obtain ⟨a,kvs,rfl,hb,ek,rs⟩:=wI (r1.mono s2) h6
 cases yQ r2 h4
 rw [<- ek] at e
 obtain ⟨w,h5,h6⟩:=valV_get rs e
 exact ⟨a,w,rfl,.inl ⟨kvs,k,hb,rfl,h5.symm⟩,q w H2 (s1.trans s2) h6⟩
theorem ptv_dnot (hr:Room j X.A) (hk:PVn X ke fk) (ho:PVn X oe fd) (hm:behindInMarks .NotIn oe=false:=by rfl):PTv X (.Compare ke [.NotIn] [oe] pos) (dnotG fk fd):=by
 obtain ⟨td,pd,hd'⟩:=ho
 obtain ⟨tk,pk,hk⟩:=hk
 refine ⟨_,pt_cmp (pc_dnotin (Nat.lt_of_le_of_lt (by lia) (hu100 hr)) pk pd) hm,fun H₀ H O σ ds hd b Q o e q=>?_⟩
 unfold dnotG dinG at e
 cases h3:fk ds with
 | none=>rw [h3] at e; cases e
 | some y =>
   rw [h3] at e
   simp [Option.bind_some] at e
   cases h4:keyD y with
   | none=>rw [h4] at e; cases e
   | some k =>
     rw [h4] at e
     cases h1:fd ds with
     | none=>rw [h1] at e; cases e
     | some x =>
       rw [h1] at e
       simp only [Option.bind_some] at e
       refine hk H₀ H O σ ds hd y _ o h3 fun yv H1 s1 r1=>?_
       refine hd' H₀ H1 O σ ds hd x _ (o.mono s1) h1 fun v H2 s2 r2=>?_
       cases h6:kdD x with
       | none=>rw [h6] at e; cases e
       | some p =>
         rw [h6] at e
         cases e
         obtain ⟨a,kvs,rfl,hb,ek,rs⟩:=wI r2 h6
         cases yQ r1 h4
         refine ⟨a,_,rfl,.inl ⟨kvs,k,hb,rfl,rfl⟩,_,rfl,?_⟩
         rw [valV_some,ek]
         exact q H2 (s1.trans s2)
theorem call_dict:CallR X (.type "dict") (fun xs H Q=>∃ a kvs,xs=[V.ref a]/\Rd H a (.dK kvs)/\∀ p,H p=none->Q (.ref p) (upd H p (.dK kvs))):=by
 intro pins s σ H xs us Q I r h
 obtain ⟨a,kvs,rfl,ha,q⟩:=h
 obtain ⟨u,rfl,ru⟩:=vals1 r
 cases ru
 exact d_copyOf I ha fun p s' hp I'=>⟨.ref p,_,I',rfl,q p hp⟩
theorem pvo_dcopy (hm:X.mg "dict" = none) (he:PV X e f) (hg:Gl X "dict":=by rfl) (hs:starEach [e] X.env=[(false,eval e X.env)]:=by rfl):PVo X (.Call (.Name "dict" p) [e] [] pos) (dcopyG f):=by
 obtain ⟨te,pe,he⟩:=he
 refine ⟨_,pe_callTy call_dict hg hm (by decide +kernel) (qO pe jW hs) (by decide) (by decide) hs rfl,fun H₀ H O σ ds hd T Q o e q=>?_⟩
 obtain ⟨x,h1,e⟩:=bnd e
 refine he H₀ H O σ ds hd x _ o h1 fun v H1 s1 r1=>?_
 obtain ⟨p,h6,rfl⟩:=mpd e
 obtain ⟨a,kvs,rfl,hb,ek,rs⟩:=wI r1 h6
 refine ⟨a,kvs,rfl,hb,fun c hc=>?_⟩
 refine q _ _ [c] (s1.trans (qB hc _)) (.dct (.inl (.head _)) upd_same ek (repsO_vals ?_)) (by simp) fun b hb=>by rw [List.mem_singleton.mp hb]; exact s1.free hc
 exact ((rs.moreL fun p hp=>by rw [List.mem_singleton.mp hp]; exact hc).mono (qB hc _))
end
end FL
namespace L2
open PySem PySem.Spec PyProof.Rows
section
end
theorem KV.get {kvs:List (κ×V)} {vs:List (κ×Value)} {i:Nat} {k : κ} (h:KV kvs vs) (e:kvs[i]? = some (k,x)):∃ u,vs[i]? = some (k,u)/\RelV x u:=by
 induction h generalizing i with
 | nil=>simp at e
 | @cons p q _ _ h _ ih =>
   cases i with
   | zero =>
     simp [List.getElem?_cons_zero,Option.some.injEq] at e
     subst e
     exact ⟨q.2,by simp [List.getElem?_cons_zero]; rw [show q=(k,q.2) from Prod.ext h.1.symm rfl],h.2⟩
   | succ i =>
     exact ih e
section
end
end L2
namespace FL
open PySem PySem.Spec PyProof.Rows L2
section
variable {K:Frag}
theorem valsO_some:∀ {ts:List OT} {l:List D},valsO ts=some l->ts=l.map OT.val
 | [],_,e=>by cases e; rfl
 | .val d :: r, l, e => by
   unfold valsO at e
   cases h:valsO r with
   | none=>rw [h] at e; cases e
   | some m=>rw [h] at e; cases e; rw [valsO_some h]; rfl
 | .lst _::_,_,e=>by cases e
 | .tup _::_,_,e=>by cases e
 | .dct _ _::_,_,e=>by cases e
 | .ins _ _::_,_,e=>by cases e
theorem RepsO.ofVals {l:List D} {xs:List V} {fs:List Addr} (h:RepsO K H O xs (l.map OT.val) fs):fs=[]/\Reps K H O xs l:=by
 induction l generalizing xs fs with
 | nil=>cases h; exact ⟨rfl,.nil⟩
 | cons d l i=>cases h with | cons h t=>cases h with | val r=>obtain ⟨rfl,q⟩:=i t; exact ⟨rfl,.cons r q⟩
end
section
variable {X:Cx}
end
section
variable {K:Frag}
theorem RepsO.snocO {xs:List V} {ts:List OT} {fs:List Addr} {v:V} {T:OT} {f:List Addr} (h:RepsO K H O xs ts fs) (r:RepO K H O v T f):RepsO K H O (xs++[v]) (ts++[T]) (fs++f) :=
 h.ind (m:=fun xs ts fs=>RepsO K H O (xs++[v]) (ts++[T]) (fs++f)) (by simpa using RepsO.cons (gs:=[]) r .nil) fun h j=>by rw [List.append_assoc]; exact .cons h j
end
section
variable {X:Cx}
section
end
end
section
variable {X:Cx}
section
end
end
end FL
namespace L2
open PySem PySem.Spec PyProof.Rows
section
theorem KV.at' {kvs:List (κ×V)} {vs:List (κ×Value)} {i:Nat} {k : κ} (h:KV kvs vs) (e:vs[i]? = some (k,u)):∃ x,kvs[i]? = some (k,x)/\RelV x u:=by
 induction h generalizing i with
 | nil=>simp at e
 | @cons p q _ _ h _ ih =>
   cases i with
   | zero =>
     simp [List.getElem?_cons_zero,Option.some.injEq] at e
     subst e
     exact ⟨p.2,by simp [List.getElem?_cons_zero]; rw [show p=(k,p.2) from Prod.ext h.1 rfl],h.2⟩
   | succ i =>
     exact ih e
theorem vals_at:∀ {xs:List V} {us:List Value},xs.length=us.length->(∀ (j:Nat) u,us[j]? = some u->∃ x,xs[j]? = some x/\RelV x u)->Vals xs us
 | [],[],_,_=>.nil
 | [],_::_,h,_=>by simp at h
 | _::_,[],h,_=>by simp at h
 | x :: xs, u :: us, h, H => by
   obtain ⟨y,h1,h2⟩:=H 0 u rfl
   simp only [List.getElem?_cons_zero,Option.some.injEq] at h1
   subst h1
   exact .cons h2 (vals_at (by simpa using h) fun j v e=>H (j+1) v (by simpa using e))
end
end L2
namespace FL
open PySem PySem.Spec PyProof.Rows L2
section
end
end FL
namespace L2
open PySem PySem.Spec PyProof.Rows
section
variable {X:Cx}
end
end L2
namespace FL
open PySem PySem.Spec PyProof.Rows L2
section
variable {X:Cx}
end
section
theorem Ok.look {K:Frag} (o:Ok K H₀ H O σ ds hd) i:∃ O',Ok K H₀ H O' σ (relO i ds) hd:=by
 by_cases hs:∃ r T,ds[i]? = some (.ob r T)
 · obtain ⟨r, T, hl⟩ := hs
   have e':relO i ds=ds.set i (.v (otD T)):=by unfold relO; rw [hl]
   rw [e']
   exact o.frz hl
 · have e':relO i ds=ds:=by
    unfold relO
    split
    · rename_i r T hl; exact (hs ⟨r,T,hl⟩).elim
    · rfl
   rw [e']
   exact ⟨O,o⟩
theorem ptv_relO i (h:PTv X e c):PTv X e (relTO i c):=by
 obtain ⟨t,ht,hf⟩:=h
 refine ⟨t,ht,fun H₀ H O σ ds hd b Q o e q=>?_⟩
 obtain ⟨O',o'⟩:=o.look i
 exact hf H₀ H O' σ _ hd b Q o' e q
theorem pv_relO i (h:PV X e f):PV X e (relVO i f):=by
 obtain ⟨t,ht,hf⟩:=h
 refine ⟨t,ht,fun H₀ H O σ ds hd d Q o e q=>?_⟩
 obtain ⟨O',o'⟩:=o.look i
 unfold relVO at e
 cases h1:f (relO i ds) with
 | none=>rw [h1] at e; cases e
 | some d' =>
   rw [h1] at e
   simp only [Option.bind_some,flV'] at e
   split at e
   · rename_i hfl
     cases e
     exact hf H₀ H O' σ _ hd _ Q o' h1 fun v H' s r=>q v H' s (Rep.flatten (fun a z=>((o.mono s).dom a z).elim fun u e=>⟨_,e,u.2⟩) hfl r)
   · cases e
theorem pvf_relO i (h:PVf X e f):PVf X e (relFO i f):=by
 obtain ⟨t,ht,hf⟩:=h
 refine ⟨t,ht,fun H₀ H O σ ds hd l Q o e q=>?_⟩
 obtain ⟨O',o'⟩:=o.look i
 unfold relFO at e
 cases h1:f (relO i ds) with
 | none=>rw [h1] at e; cases e
 | some l' =>
   rw [h1] at e
   simp only [Option.bind_some] at e
   split at e
   · rename_i hfl
     cases e
     refine hf H₀ H O' σ _ hd _ Q o' h1 fun a xs H' s hn he r=>q a xs H' s hn he (Reps.flatten (fun b z=>?_) hfl r)
     rcases z with rfl | z
     · exact ⟨_,he,rfl⟩
     · obtain ⟨u, eu⟩ := (o.mono s).dom b z
       exact ⟨_,eu,u.2⟩
   · cases e
end
abbrev LkF (K:Frag) (f:Addr) (oc:Value) (od:Option Addr) (nm q:Str) (st:Stmt) (dV kV dc pm:Value) (an:Option Addr) (cd ct:Value) (sl:Array (Option Value)):Prop:=K.lookup f=some ⟨oc,od,.func (PySem.W.fnOf nm q (yJ st) (jE st) (zJ st) dV kV dc pm an cd ct),sl⟩
structure FunD (K:Frag) (x qual:Str) (st:Stmt) (f:Addr) (fd:FuncData) (its:Array Value):Prop where
 ex:∃ (Tu:Addr) (ob:Obj) (n:Nat) (oc:Value) (od:Option Addr) (kV doc pm:Value) (an:Option Addr) (cdv ct:Value) (osl:Array (Option Value)),
  fd=PySem.W.fnOf x qual (yJ st) (jE st) (zJ st) (.ref Tu) kV doc pm an cdv ct/\K.lookup f=some ⟨oc,od,.func fd,osl⟩/\PySem.W.codeIn K cdv qual=true/\K.lookup Tu=some ob/\ob.data = .seq its n
 kp:PySem.W.keepIn K (.ref f)=true
section
variable {P:Program} {w:World} {K:Frag} {mg:Str->Option Value} {base:Heap} {x qual:Str} {st:Stmt} {f:Addr}
theorem FunD.binds (F:FunD K x qual st f fd its)
  (h:∀ Tu kV doc pm an cdv ct us,(us++ds).length=ps.length->∃ k,bindArgs (PySem.W.fnOf x qual (yJ st) (jE st) (zJ st) (.ref Tu) kV doc pm an cdv ct) ⟨us,[]⟩=seqItems? (.ref Tu) >>= k/\k (some its)=pure (ps.zip (us++ds))):Binds K fd ps ds:=by
 obtain ⟨Tu,ob,n,oc,od,kV,doc,pm,an,cdv,ct,osl,rfl,lk,hcd,lt,hs⟩:=F.ex
 intro s us X hl
 obtain ⟨k,h1,h2⟩:=h Tu kV doc pm an cdv ct us hl
 exact PySem.W.binds_K X rfl lt hs h1 h2
theorem len0 {P:List Value->Prop} (h:P []):∀ us,us.length=0->P us:=fun us hl=>by cases us with | nil=>exact h | cons _ _=>cases hl
theorem lenS {P:List Value->Prop} (h:∀ a us,us.length=n->P (a::us)):∀ us,us.length=n+1->P us:=fun us hl=>by cases us with | nil=>cases hl | cons a r=>exact h a r (Nat.succ.inj hl)
theorem len1 {P:List Value->Prop} (h:∀ a0,P [a0]):∀ us,us.length=1->P us:=lenS fun a=>len0 (h a)
theorem len2 {P:List Value->Prop} (h:∀ a0 a1,P [a0,a1]):∀ us,us.length=2->P us:=lenS fun a=>len1 (h a)
theorem len3 {P:List Value->Prop} (h:∀ a0 a1 a2,P [a0,a1,a2]):∀ us,us.length=3->P us:=lenS fun a=>len2 (h a)
theorem len4 {P:List Value->Prop} (h:∀ a0 a1 a2 a3,P [a0,a1,a2,a3]):∀ us,us.length=4->P us:=lenS fun a=>len3 (h a)
theorem len5 {P:List Value->Prop} (h:∀ a0 a1 a2 a3 a4,P [a0,a1,a2,a3,a4]):∀ us,us.length=5->P us:=lenS fun a=>len4 (h a)
def DefM (K:Frag) (x:Str) (st:Stmt) (f:Addr):Prop:=∃ (oc:Value) (od:Option Addr) (kV dc pm:Value) (an:Option Addr) (cd ct:Value) (sl:Array (Option Value)),PySem.W.nsIn K mainGlobals x=some (some (.ref f))/\LkF K f oc od x x st .none kV dc pm an cd ct sl/\PySem.W.codeIn K cd x=true/\PySem.W.keepIn K (.ref f)=true
def DefC (K:Frag) (C:Addr) (m q:Str) (st:Stmt) (f:Addr):Prop:=∃ (oc:Value) (od:Option Addr) (kV dc pm:Value) (an:Option Addr) (cd ct:Value) (sl:Array (Option Value)),PySem.W.findIn K (.ref C) m=some (some (.ref f))/\LkF K f oc od m q st .none kV dc pm an cd ct sl/\PySem.W.codeIn K cd q=true/\PySem.W.keepIn K (.ref f)=true/\PySem.W.isFn K (.ref f)=true
theorem DefM.get (h:DefM K x st f):∃ fd,Fun K x x st f fd/\PySem.W.nsIn K mainGlobals x=some (some (.ref f))/\PySem.W.keepIn K (.ref f)=true:=by
 obtain ⟨_,_,_,_,_,_,_,_,_,a,l,c,k⟩:=h
 exact ⟨_,fun_mk l c k,a,k⟩
theorem DefC.get (h:DefC K C m q st f):∃ fd,Fun K m q st f fd/\PySem.W.findIn K (.ref C) m=some (some (.ref f))/\PySem.W.keepIn K (.ref f)=true/\PySem.W.isFn K (.ref f)=true:=by
 obtain ⟨_,_,_,_,_,_,_,_,_,a,l,c,k,i⟩:=h
 exact ⟨_,fun_mk l c k,a,k,i⟩
theorem cal_mk (G:FnOk P w K mg base CX0 k f fd ps (spF K n F)) (b:Binds K fd ps []) (h:PySem.W.keepIn K (.ref f)=true) (m:mg x=some (.ref f)):Cal P w K mg base x k n F:=⟨f,_,_,G,b,h,m⟩
structure SysAt (P:Program) (w:World) (base:Heap) (K:Frag) (mg:Str->Option Value):Prop where
 ex:∃ h:Heap,K.In h/\h.Ns mainGlobals mg
def CN (K:Frag) (x:Str) (C:Addr):Prop:=PySem.W.nsIn K mainGlobals x=some (some (.ref C))/\PySem.W.plainGet K C Str.empty=true/\PySem.W.hasDictIn K C=true/\PySem.W.plainOver K C=true/\PySem.W.findIn K (.ref C) "__setattr__" = some (some (.builtin "object.__setattr__"))
theorem CN.get (h:CN K x C):PySem.W.nsIn K mainGlobals x=some (some (.ref C))/\Cls K C:=⟨h.1,⟨h.2.1,h.2.2.1,h.2.2.2.1,h.2.2.2.2⟩⟩
def XN (K:Frag) (A B:Addr):Prop:=PySem.W.isClsIn K B=true/\PySem.W.typeIn K (.ref B)=some (.type "type")/\PySem.W.subIn K (.ref A) (.ref B)=some false/\(Value.ref A == Value.ref B)=false
theorem XN.k (h:XN K A B):PySem.W.kitOne K (.ref A) (.ref B)=some false:=kit_no h.1 h.2.1 h.2.2.1 h.2.2.2
def XI (K:Frag) (x:Str) (C:Addr):Prop:=PySem.W.nsIn K mainGlobals x=some (some (.ref C))/\PySem.W.findIn K (.ref C) "__getattribute__" = some (some (.builtin "BaseException.__getattribute__"))/\PySem.W.findIn K (.ref C) "__getattr__" = some none/\PySem.W.findIn K (.ref C) "__class__" = some (some (.builtin "object.__class__"))/\PySem.W.mroIn K C (.type "object")=some true/\PySem.W.mroIn K C (.type "BaseException")=some true
theorem XI.i (h:XI K x C):XIn K C:=⟨h.2.1,h.2.2.1,h.2.2.2.1,h.2.2.2.2.1,h.2.2.2.2.2⟩
theorem isx_c (y:XI K (xName t) C) (k:PySem.W.kitOne K (.ref C) cv=some b) (r:IsxOk K cv tb):IsxOk K cv ((t,b)::tb):=isx_cons y.1 y.i k r
theorem DefM.cal (d:DefM K x st f) (X:SysAt P w base K mg) (hf:∀ {fd},Fun K x x st f fd->FnOk P w K mg base CX0 k f fd ps (spF K n F))
  (hb:∀ kV doc pm an cdv ct us,us.length=ps.length->bindArgs (PySem.W.fnOf x x (yJ st) (jE st) (zJ st) .none kV doc pm an cdv ct) ⟨us,[]⟩=pure (ps.zip us):=by
    intro _ _ _ _ _ _; first | exact len0 rfl | exact len1 fun _=>rfl | exact len2 fun _ _=>rfl | exact len3 fun _ _ _=>rfl | exact len4 fun _ _ _ _=>rfl | exact len5 fun _ _ _ _ _=>rfl):Cal P w K mg base x k n F:=by
 obtain ⟨_,F1,a,c⟩:=d.get
 obtain ⟨_,X,G⟩:=X.ex
 exact cal_mk (hf F1) (F1.binds hb) c (PySem.W.mg_of X G a)
end
section
end
section
end
end FL
namespace L2
open PySem PySem.Spec PyProof.Rows
section
variable {prog:Program} {w:World} {A:Around} {E:Value->Shared->Prop} {s:Shared}
end
section
variable {X:Cx}
end
section
end
section
end
end L2
namespace FL
open PySem PySem.Spec PyProof.Rows L2
section
end
section
variable {X:Cx}
section
variable {scope:Scope}
end
theorem PVo.n (h:PVo X e f):PVn X e (seeO f):=by
 obtain ⟨t,ht,hf⟩:=h
 refine ⟨t,ht,fun H₀ H O σ ds hd d Q o e q=>?_⟩
 obtain ⟨T,h1,rfl⟩:=mpd e
 exact hf H₀ H O σ ds hd T Q o h1 fun v H' fs s r nd hn=>q v H' s (r.frz fun a z=>z.elim)
end
section
end
end FL
namespace L2
open PySem PySem.Spec PyProof.Rows
section
variable {X:Cx}
end
end L2
namespace FL
open PySem PySem.Spec PyProof.Rows L2
section
variable {X:Cx}
end
section
variable {prog:Program} {w:World} {A:Around} {E:Value->Shared->Prop} {s:Shared}
end
section
variable {X:Cx} {tg:Expr}
end
section
variable {K:Frag}
end
section
variable {X:Cx}
end
section
variable {X:Cx}
section
end
end
section
variable {K:Frag}
end
open PySem.W (hideAll hideAll_get of_hideAll hideAll_none)
section
variable {M:Model} {A:Around} {E:Value->Shared->Prop} {s:Shared} {B:Heap} {l outer:List Env} {env:Env} {e L:Addr} {cls fl:Value} {a0:Value×Option Addr} {Q:Unit->Shared->Prop}
end
section
variable {X:Cx} {E:XK} {C:Addr}
end
section
variable {X:Cx} {E:XK} {C:Addr} {scope:Scope} {NY:List Str} {mp:List (Option Nat)} {tg iter elt:Expr} {pos:Pos} {fi:FA} {ga:D->List Sl->Option (List Sl)} {fe:FE} {x:List Sl->Bool}
end
section
variable {X:Cx}
end
end FL
namespace FL
open PySem PySem.Spec PyProof.Rows L2
section
variable {X:Cx} {E:XK} {C:Addr} {m:Str} {t k j n:Nat} {R:List D->Bool} {fo:FE} {g:FA}
theorem pvo_relO i (h:PVo X e f):PVo X e (relGO i f):=by
 obtain ⟨t,ht,hf⟩:=h
 refine ⟨t,ht,fun H₀ H O σ ds hd T Q ok ex q=>?_⟩
 obtain ⟨O',o'⟩:=ok.look i
 unfold relGO at ex
 obtain ⟨T',h1,ex⟩:=bnd ex
 split at ex
 · rename_i hfl
   cases ex
   refine hf H₀ H O' σ _ hd _ Q o' h1 fun v H' fs s r nd nw=>q v H' fs s ?_ nd nw
   refine RepO.flatten (fun a z=>?_) hfl r fun b hb=>.inl hb
   rcases z with z | z
   · obtain ⟨_, u, e⟩ := r.owns a z
     exact ⟨u.1,e,u.2⟩
   · obtain ⟨u, e⟩ := (ok.mono s).dom a z
     exact ⟨_,e,u.2⟩
 · cases ex
end
section
variable {X:Cx} {E:XK} {C:Addr} {m:Str} {t k j n:Nat} {R:List D->Bool} {o e:Expr} {es:List Expr} {apos pos:Pos} {fo:FE} {g:FA}
end
section
variable {X:Cx} {scope:Scope} {NY:List Str} {mp:List (Option Nat)} {tg iter elt:Expr} {ifs:List Expr} {pos:Pos} {fi:FA} {ga:D->List Sl->Option (List Sl)} {tt:FT} {fe:FE}
end
section
variable {X:Cx}
end
end FL
namespace L2
open PySem PySem.Spec PyProof.Rows
section
end
end L2
namespace FL
open PySem PySem.Spec PyProof.Rows L2
section
end
section
variable {K:Frag}
end
section
end
end FL
namespace TS
open PySem PyProof.Rows
section
variable {prog:Program} {w:World}
section
end
section
variable {s:Shared}
end
end
end TS
namespace L2
open PySem PySem.Spec PyProof.Rows
section
end
end L2
namespace FL
open PySem PySem.Spec PyProof.Rows L2
section
end
section
end
section
variable {K:Frag}
end
section
end
section
end
section
end
end FL
namespace L2
open PySem PySem.Spec PyProof.Rows
section
end
end L2
namespace FL
open PySem PySem.Spec PyProof.Rows L2
section
variable {K:Frag} {H H':Hp} {O O':Addr->Prop}
end
section
end
section
variable {X:Cx} {E:XK} {C:Addr} {k j n:Nat} {F:List D->Option Ret} {x:Str} {p pos:Pos} {e:Expr} {es:List Expr} {g:FA} {y:List Sl->Bool}
end
end FL
namespace PySem
open Sem (wp)
section
variable {prog:Program} {w:World} {A:Around} {E:Value->Shared->Prop} {h:Heap} {g:Array GenState} {d:Drawn} {t:Nat} {os:OsState}
variable {nm q:Str} {C N:Addr} {bs bm bmB:List Value} {hdct:Bool} {sn:List Str} {sub:List Value} {ab:Bool} {col:Option Bool} {dd:Option Addr} {k0 k1 k2 k3 k5:Option Value} {B Bn newId nid initId inN:String} {bmN:List Value}
end
end PySem
namespace FL
open PySem PySem.Spec PyProof.Rows L2
open PySem.Calls PySem.Builtin PySem.Builtin.ObjectAttr
open PySem.W (Looks looks_findIn looks_mroIn looks_clsIn findIn mroIn clsIn tailIn nsOkIn nsIn InstAt tail_of_in isNs_of_in)
section
variable {prog:Program} {w:World} {A:Around} {E:Value->Shared->Prop} {h:Heap} {g:Array GenState} {d:Drawn} {t:Nat} {os:OsState} {K:Frag} {x C N dx:Addr} {o:Obj} {nm q:Str} {bs bm:List Value} {sn:List Str} {sub:List Value} {ab:Bool} {col:Option Bool} {dd:Option Addr} {k0 k1 k2 k3 k5:Option Value} {name:Str} {v:Value} {mA:Str->Option Value} {newId:String}
end
end FL
namespace FL
open PySem PySem.Spec PyProof.Rows L2
open PySem.Calls PySem.Builtin PySem.Builtin.ObjectAttr
open PySem.W (Looks looks_findIn looks_mroIn looks_clsIn findIn mroIn clsIn InstAt looks_find findObj handedIn handedOut_of)
section
variable {prog:Program} {w:World} {A:Around} {E:Value->Shared->Prop} {h:Heap} {g:Array GenState} {d:Drawn} {t:Nat} {os:OsState} {K:Frag} {x C N dx:Addr} {o od:Obj} {name:Str} {v:Value}
end
section
variable {X:Cx} {pins:List (Addr×Obj)} {σ : L2.St} {H:Hp} {s:Shared} {e dx C fI:Addr} {oe:Obj} {f:Str} {y:V} {u:Value} {A:Around} {E:Value->Shared->Prop} {fs:List (Str×V)}
end
end FL
namespace FL
open PySem PySem.Spec PyProof.Rows L2
open PySem.W (findIn)
section
variable {X:Cx} {C fI:Addr} {o value:Expr} {ta tv:TE} {f:Str} {pos pos':Pos}
end
end FL
namespace PySem
open Sem (wp)
section
variable {M:Model} {prog:Program} {w:World} {A:Around} {E:Value->Shared->Prop} {s:Shared} {env:Env}
variable {nm q:Str} {C N:Addr} {bs bm bmB:List Value} {hdct:Bool} {sn:List Str} {sub:List Value} {ab:Bool} {col:Option Bool} {dd:Option Addr} {k0 k1 k2 k3 k5:Option Value} {B Bn newId nid initId inN:String} {bmN:List Value}
end
end PySem
namespace FL
open PySem PySem.Spec PyProof.Rows L2
open PySem.W (hideAll hideAll_get of_hideAll hideAll_none funFrames_hide)
end FL
namespace FL
open PySem PySem.Spec PyProof.Rows L2
open PySem.W (findIn)
section
variable (X:Cx) (C:Addr)
end
section
variable {X:Cx} {C:Addr}
end
end FL
namespace FL
open PySem PySem.Spec PyProof.Rows L2
open PySem.W (Looks looks_mroIn mroIn clsIn findIn InstAt findObj findObj_own hasDictIn)
section
variable {X:Cx} {k j n:Nat} {R:List D->Option Fls} {C:Addr} {x:Str} {p pos:Pos} {e:Expr} {es:List Expr} {g:FA}
end
section
variable {X:Cx}
end
end FL
namespace FL
open PySem PySem.Spec PyProof.Rows L2
open PySem.W (findIn InstAt findObj findObj_own hasDictIn)
section
variable {X:Cx}
end
end FL
namespace FL
open PySem PySem.Spec PyProof.Rows L2
open PySem.W (findIn hasDictIn)
section
variable {X:Cx} {C:Addr}
end
end FL
namespace FL
open PySem PySem.Spec PyProof.Rows L2
section
variable {X:Cx} {scope:Scope} {NY:List Str} {mp:List (Option Nat)} {tg iter elt:Expr} {ifs:List Expr} {pos:Pos} {fi:FA} {ga:D->List Sl->Option (List Sl)} {tt:FT} {fe:FE}
end
section
variable {X:Cx}
end
end FL
namespace L2
open PySem PySem.Spec PyProof.Rows
noncomputable def vwO (v d:Addr):HO:=.ext fun h=>h.IsValuesView v d
theorem vwO_ok {P:Program} {w:World} {H:Hp} {h:Heap} {v d:Addr} (q:h.IsValuesView v d):ObjOk P w H h v (vwO v d):=⟨q,let ⟨o,e,_⟩:=q; ⟨o,e⟩,fun _ _ ⟨o,e,r⟩ k=>⟨o,k _ e,r⟩⟩
section
variable {X:Cx} {oe:Expr} {to:TE} {apos pos:Pos}
end
end L2
namespace FL
open PySem PySem.Spec PyProof.Rows L2
end FL
namespace L2
open PySem PySem.Spec PyProof.Rows
variable {X:Cx}
theorem call_lenK:CallR X (.builtin "len") (fun xs H Q=>∃ d kvs,xs=[.ref d]/\Rd H d (.dK kvs)/\Q (.int kvs.length) H):=by
 intro pins s σ H xs us Q I r h
 obtain ⟨d,kvs,rfl,hd,q⟩:=h
 obtain ⟨u,rfl,rx⟩:=vals1 r
 cases rx
 have hn:=line63
 obtain ⟨z,hds,vs,rel,dd⟩:=kB I.hok hd
 have hl:=rel.length
 exact call_len_dict hds dd (by lia) ⟨.int kvs.length,H,I.tok _,⟨_,by rw [hl]⟩,q⟩
end L2
namespace FL
open PySem PySem.Spec PyProof.Rows L2
theorem pv_dlen {X:Cx} {e:Expr} {f:FE} {p pos:Pos} (hm:X.mg "len" = none) (he:PV X e f) (hg:Gl X "len":=by rfl) (hs:starEach [e] X.env=[(false,eval e X.env)]:=by rfl) :
  PV X (.Call (.Name "len" p) [e] [] pos) (callB lenD (zB (mkL (lvalA f)) zP)):=by
 obtain ⟨te,pe,he⟩:=he
 refine ⟨_,yA call_lenK hg hm PySem.boot_len (qO pe jW hs) (by decide) (by decide) hs rfl,fun H₀ H O σ ds hd l Q o e q=>?_⟩
 cases h1:f ds with
 | none=>simp [callB,zB,mkL,lvalA,h1] at e
 | some d =>
   cases h2:kdD d with
   | none=>simp [callB,zB,mkL,lvalA,h1,h2] at e
   | some kl =>
     simp [callB,zB,zP,mkL,lvalA,h1,h2,lenD] at e
     subst e
     refine he H₀ H O σ ds hd _ _ o h1 fun v H1 s1 r1=>?_
     obtain ⟨a,kvs,rfl,hb,ek,rs⟩:=wI r1 h2
     refine ⟨a,kvs,rfl,hb,?_⟩
     have:=rs.length
     rw [List.length_map] at this
     rw [this]
     exact q _ H1 s1 (.int _)
section
variable {K:Frag}
end
section
variable {X:Cx}
end
section
variable {K:Frag}
end
section
variable {X:Cx}
end
section
variable {X:Cx}
end
section
variable {K:Frag}
end
section
variable {X:Cx}
end
section
variable {X:Cx}
end
section
variable {K:Frag}
end
section
variable {X:Cx}
end
theorem bitOr_nat (i j:Nat):Builtin.bitOr (i:Int) (j:Int)=((i ||| j:Nat):Int):=by
 have hi : ¬ (0:Int)<=-(i:Int) - 1:=by lia
 have hj : ¬ (0:Int)<=-(j:Int) - 1:=by lia
 have e:∀ n:Nat,-(-(n:Int) - 1) - 1=n:=by lia
 simp only [Builtin.bitOr,Builtin.bitAnd,Builtin.bitNot,hi,hj,decide_false,e,Int.toNat_natCast]
theorem os_or:OpS X (rI0 fun i j=>.int (Builtin.bitOr i j)) orD:=by
 intro H O x y dx dy d Q ho rx ry e q
 cases dx <;> cases dy <;> first | (simp [orD] at e; done) | skip
 simp only [orD] at e
 split at e
 · rename_i i j hc
   cases e
   rw [rx.int',ry.int']
   have:=bitOr_nat i.toNat j.toNat
   rw [Int.toNat_of_nonneg hc.1,Int.toNat_of_nonneg hc.2] at this
   refine ⟨_,_,rfl,rfl,?_⟩
   show Q (.int (Builtin.bitOr i j)) H
   rw [this]
   exact q _ H (Same.refl _) (.int _)
 · cases e
theorem pv_orI (ha:PVw X a fa) (hb:PVw X b fb):PV X (.BinOp a .BitOr b pos) (zE orD fa fb):=wK op_or os_or ha hb
def NoT3 (K:Frag):Prop:=∀ a i j k,¬ KTup K a [.int i,.int j,.int k]
noncomputable def int3:List Value->Bool
 | [.int _ _,.int _ _,.int _ _]=>true
 | _=>false
noncomputable def t3 (o:Obj):Bool:=match o.cls,o.data with
 | .type "tuple",.seq its _=>int3 its.toList
 | _,_=>false
theorem look_mem {K:Frag} (h:K.lookup a=some o):∃ q∈K,q.2=o:=by
 induction K with
 | nil=>cases h
 | cons p r ih =>
   rw [List.lookup_cons] at h
   split at h
   · cases h; exact ⟨p,.head _,rfl⟩
   · obtain ⟨q,z,e⟩:=ih h; exact ⟨q,.tail _ z,e⟩
theorem not3 {K:Frag} (h:(K.all fun p=>!t3 p.2)=true):NoT3 K:=fun a i j k ⟨o,its,n,h1,h2,h3,h4,h5⟩=>by
 obtain ⟨q,z,rfl⟩:=look_mem h1
 have:=List.all_eq_true.mp h q z
 have l:int3 its.toList=true:=by
  generalize its.toList=us at h5
  cases h5 with | cons a1 q=>cases q with | cons a2 q=>cases q with | cons a3 q =>
  cases q
  obtain ⟨_,rfl⟩:=a1
  obtain ⟨_,rfl⟩:=a2
  obtain ⟨_,rfl⟩:=a3
  rfl
 simp [t3,h2,h3,l] at this
section
variable {K:Frag}
theorem vR (hK:NoT3 K) (r:Rep K H O v d) (e:key3 d=some k):∃ b,v = .ref b/\Rd H b (.tup (k.map kV)):=by
 unfold key3 at e
 split at e
 · cases e
   cases r with
   | @tup b xs _ n h q =>
     cases q with | cons a1 q=>cases q with | cons a2 q=>cases q with | cons a3 q =>
     cases q; cases a1; cases a2; cases a3
     exact ⟨b,rfl,h⟩
   | @tupK b xs _ h q =>
     cases q with | cons a1 q=>cases q with | cons a2 q=>cases q with | cons a3 q =>
     cases q; cases a1; cases a2; cases a3
     exact (hK _ _ _ _ h).elim
 · cases e
theorem vI (r:Rep K H O v d) (e:dttD d=some p):∃ a kvs,v = .ref a/\H a=some (.dT kvs)/\kvs.map (·.1)=p.1/\Reps K H O (kvs.map (·.2)) p.2:=by
 cases d <;> first | (cases e; done) | skip
 cases e
 cases r with
 | @dtt a kvs _ _ n hb ek rs=>exact ⟨a,kvs,rfl,hb,ek,rs⟩
theorem valT_get:∀ {kvs:List (List Key×V)} {l:List D} {k:List Key} {d:D},Reps K H O (kvs.map (·.2)) l->getT k (kvs.map (·.1)) l=some d->∃ v,valV kvs k=some v/\Rep K H O v d:=by
 intro kvs
 induction kvs with
 | nil=>intro l k d _ e; simp [getT] at e
 | cons p r ih =>
   intro l k d h e
   cases h with
   | @cons _ d' _ ds h t =>
     simp only [List.map_cons,getT] at e
     by_cases z:p.1=k
     · rw [if_pos z] at e
       cases e
       exact ⟨p.2,yR z,h⟩
     · rw [if_neg z] at e
       obtain ⟨w,h1,h2⟩:=ih t e
       exact ⟨w,by rw [xE z]; exact h1,h2⟩
end
theorem pv_tget (hK:NoT3 X.K) (hr:Room j X.A) (ho:PV X oe fd) (hk:PV X ke fk) (hs:NoSl ke:=by exact fun _ _=>rfl):PV X (.Subscript oe ke pos) (tgetG fd fk):=by
 obtain ⟨td,pd,hd'⟩:=ho
 obtain ⟨tk,pk,hk⟩:=hk
 refine ⟨_,kL (Nat.lt_of_le_of_lt (by lia) (hu100 hr)) pd pk hs,fun H₀ H O σ ds hd d Q o e q=>?_⟩
 obtain ⟨x,h1,e⟩:=bnd e
 obtain ⟨y,h3,e⟩:=bnd e
 obtain ⟨k,h4,e⟩:=bnd e
 refine hd' H₀ H O σ ds hd x _ o h1 fun v H1 s1 r1=>?_
 refine hk H₀ H1 O σ ds hd y _ (o.mono s1) h3 fun yv H2 s2 r2=>?_
 obtain ⟨p,h6,e⟩:=bnd e
 obtain ⟨a,kvs,rfl,hb,ek,rs⟩:=vI (r1.mono s2) h6
 obtain ⟨b,rfl,h7⟩:=vR hK r2 h4
 rw [<- ek] at e
 obtain ⟨w,h5,h6⟩:=valT_get rs e
 exact ⟨a,w,rfl,.inr ⟨kvs,k,b,.inl hb,rfl,h7,h5.symm⟩,q w H2 (s1.trans s2) h6⟩
theorem ptv_tin (hK:NoT3 X.K) (hr:Room j X.A) (hk:PVn X ke fk) (ho:PVn X oe fd) (hm:behindInMarks .In oe=false:=by rfl):PTv X (.Compare ke [.In] [oe] pos) (tinG fk fd):=by
 obtain ⟨td,pd,hd'⟩:=ho
 obtain ⟨tk,pk,hk⟩:=hk
 refine ⟨_,pt_cmp (pc_din (Nat.lt_of_le_of_lt (by lia) (hu100 hr)) pk pd) hm,fun H₀ H O σ ds hd b Q o e q=>?_⟩
 obtain ⟨y,h3,e⟩:=bnd e
 obtain ⟨k,h4,e⟩:=bnd e
 obtain ⟨x,h1,e⟩:=bnd e
 refine hk H₀ H O σ ds hd y _ o h3 fun yv H1 s1 r1=>?_
 refine hd' H₀ H1 O σ ds hd x _ (o.mono s1) h1 fun v H2 s2 r2=>?_
 obtain ⟨p,h6,rfl⟩:=mpd e
 obtain ⟨a,kvs,rfl,hb,ek,rs⟩:=vI r2 h6
 obtain ⟨b,rfl,h7⟩:=vR hK r1 h4
 refine ⟨a,_,rfl,.inr ⟨kvs,k,b,.inl hb,rfl,?_,rfl⟩,_,rfl,?_⟩
 · exact h7.imp (s2 _ _) fun ⟨o,z⟩=>⟨o,s2 _ _ z⟩
 · have : (valV kvs k).isSome = p.1.any fun k' => decide (k' = k) := by rw [<- xV, <- ek, List.any_map]; rfl
   rw [this]
   exact q H2 (s1.trans s2)
noncomputable def kvB (ks:List (List Key)) (i:Nat):List (List Key×V):=(ks.take i).zipIdx.map fun q=>(q.1,.int (2 ^ q.2))
theorem kvB_succ {ks:List (List Key)} (e:ks[i]? = some k):kvB ks (i+1)=kvB ks i++[(k,.int (2 ^ i))]:=by
 have h:=(List.getElem?_eq_some_iff.mp e).1
 have:min i ks.length=i:=by lia
 rw [kvB,List.take_succ,e,List.zipIdx_append]
 simp [kvB,this]
theorem wV (ks:List (List Key)) i:(kvB ks i).map (·.1)=ks.take i:=by
 simp [kvB,List.map_map,Function.comp_def]
theorem putT_new {kvs:List (List Key×V)} (h:k ∉ kvs.map (·.1)):putK kvs k v=kvs++[(k,v)]:=by
 unfold putK
 rw [if_neg]
 intro z
 obtain ⟨p,h1,h2⟩:=List.any_eq_true.mp z
 exact h (List.mem_map.mpr ⟨p,h1,of_decide_eq_true h2⟩)
theorem upd_upd {H:Hp} : upd (upd H p x) p y=upd H p y:=by
 funext b
 by_cases h:b=p
 · rw [h,upd_same,upd_same]
 · rw [upd_ne h,upd_ne h,upd_ne h]
theorem bits_vals {K:Frag} (ks:List (List Key)):Reps K H O ((kvB ks ks.length).map (·.2)) (bitsD ks):=by
 have h:=Reps.ints (K:=K) (H:=H) (O:=O) (ks.zipIdx.map fun q=>(2:Int) ^ q.2)
 rw [List.map_map,List.map_map] at h
 rw [kvB,List.take_length,List.map_map,bitsD]
 exact h
theorem mapM_get {f : α->Option β} : ∀ {l:List α} {r:List β},l.mapM f=some r->l.length=r.length/\∀ (i:Nat) a,l[i]? = some a->∃ b,r[i]? = some b/\f a=some b
 | [], r, e => by
   cases e
   exact ⟨rfl,fun i a h=>by cases h⟩
 | x :: l, r, e => by
   rw [List.mapM_cons] at e
   obtain ⟨b,h1,e⟩:=Option.bind_eq_some_iff.mp e
   obtain ⟨r',h2,e⟩:=Option.bind_eq_some_iff.mp e
   cases e
   obtain ⟨h3,h4⟩:=mapM_get h2
   refine ⟨by simp [h3],fun i a h=>?_⟩
   cases i with
   | zero=>cases h; exact ⟨b,rfl,h1⟩
   | succ i=>exact h4 i a h
theorem pssv_bits {x0 x1 x2 x3:Str} (hK:NoT3 X.K) (hr:Room j X.A) (hp:PassesOwn (model X.prog X.w) X.A X.env X.xe) (hc:X.calm=true) (hN:X.N.Nodup)
  (i0:X.N[0]? = some x0:=by rfl) (i1:X.N[1]? = some x1:=by rfl) (i2:X.N[2]? = some x2:=by rfl) (i3:X.N[3]? = some x3:=by rfl) (v0:Vis X.env.scope x0:=by first | exact Or.inl rfl | exact Or.inr (Or.inl rfl) | exact Or.inr (Or.inr rfl)) (v1:Vis X.env.scope x1:=by first | exact Or.inl rfl | exact Or.inr (Or.inl rfl) | exact Or.inr (Or.inr rfl)) (v2:Vis X.env.scope x2:=by first | exact Or.inl rfl | exact Or.inr (Or.inl rfl) | exact Or.inr (Or.inr rfl)) (v3:Vis X.env.scope x3:=by first | exact Or.inl rfl | exact Or.inr (Or.inl rfl) | exact Or.inr (Or.inr rfl))
  (d0:(x0 == ("__debug__" : Str))=false:=by decide) (e0:(x0 == ("__classdict__" : Str))=false:=by decide) (d1:(x1 == ("__debug__" : Str))=false:=by decide) (e1:(x1 == ("__classdict__" : Str))=false:=by decide) (d2:(x2 == ("__debug__" : Str))=false:=by decide) (e2:(x2 == ("__classdict__" : Str))=false:=by decide) (d3:(x3 == ("__debug__" : Str))=false:=by decide) (e3:(x3 == ("__classdict__" : Str))=false:=by decide) (l1:Loc X.env.scope x1:=by first | exact Or.inl rfl | exact Or.inr rfl) (l2:Loc X.env.scope x2:=by first | exact Or.inl rfl | exact Or.inr rfl) (l3:Loc X.env.scope x3:=by first | exact Or.inl rfl | exact Or.inr rfl)
  (f1:X.fn x1=true \/ X.env.scope.names.lookup x1=some .local:=by first | exact .inl rfl | exact .inr rfl) (f2:X.fn x2=true \/ X.env.scope.names.lookup x2=some .local:=by first | exact .inl rfl | exact .inr rfl) (f3:X.fn x3=true \/ X.env.scope.names.lookup x3=some .local:=by first | exact .inl rfl | exact .inr rfl)
  (s1:swapsWith (.Dict [] [] p2) (some (.Name x1 p1)) p3.line X.env=pure false:=by rfl) (s2:swapsWith (.Constant (.int 1) c1 p5) (some (.Name x2 p4)) p6.line X.env=pure false:=by rfl)
  (s3:swapsWith (.Name x2 p12) (some (.Subscript (.Name x1 p9) (.Name x3 p10) p11)) p13.line X.env=pure false:=by rfl)
  (s4:swapsWith (.BinOp (.Name x2 p15) .Mult (.Constant (.int 2) c2 p16) p17) (some (.Name x2 p14)) p18.line X.env=pure false:=by rfl)
  (s5:∀ x,foldedSetIterable (.Name x0 p8) X.env x=pure x:=by intro _; rfl) :
  PSsv X [.Assign [.Name x1 p1] (.Dict [] [] p2) p3,.Assign [.Name x2 p4] (.Constant (.int 1) c1 p5) p6,
   .For (.Name x3 p7) (.Name x0 p8) [.Assign [.Subscript (.Name x1 p9) (.Name x3 p10) p11] (.Name x2 p12) p13,.Assign [.Name x2 p14] (.BinOp (.Name x2 p15) .Mult (.Constant (.int 2) c2 p16) p17) p18] [] p19,
   .Return (some (.Name x1 p20)) p21] bitsG:=by
 refine ⟨_,yG (wP hN i1 l1 pe_dnewT s1 f1) (yG (wP hN i2 l2 pe_int s2 f2) (yG (ps_for hp hc (pi_list (jG i0 v0 d0 e0)) (pg_name hN i3 l3 f3)
  (yG (ps_dput (Nat.lt_of_le_of_lt (by lia) (hu100 hr)) (jG i1 v1 d1 e1) (jG i3 v3 d3 e3) (jG i2 v2 d2 e2) s3) (kG (wP hN i2 l2 (pe_mul (jG i2 v2 d2 e2) pe_int) s4 f2))) s5) (kG (wR (jG i1 v1 d1 e1))))),fun H₀ H O σ ds hd out E o e h=>?_⟩
 unfold bitsG at e
 split at e
 · rename_i l
   obtain ⟨ks,h1,e⟩:=bnd e
   split at e
   · rename_i hks
     cases e
     obtain ⟨v,q1,q2⟩:=o.read (i:=0) rfl
     obtain ⟨a,xs,rfl,hs,rs⟩:=WRep.seqL (.inl q2)
     obtain ⟨hl,hm⟩:=mapM_get h1
     have hlen:=o.len
     have hlen : σ.length=4:=hlen
     intro p hp
     have sm:∀ kvs,Same H (upd H p (.dT kvs)):=fun kvs=>qB hp _
     have sq:∀ kvs,SqL X.K (upd H p (.dT kvs)) a xs:=fun kvs=>hs.imp (fun z=>z.imp (sm kvs _ _) fun ⟨o,z⟩=>⟨o,sm kvs _ _ z⟩) id
     refine ⟨.ref a,by simpa using q1,a,rfl,⟨xs,sq _⟩,fun i m σ' H'=>i<=l.length/\m=l.length - i/\H'=upd H p (.dT (kvB ks i))/\σ'[1]? = some (some (.ref p))/\σ'[2]? = some (some (.int (2 ^ i)))/\σ'.length=4,
      ⟨l.length,Nat.zero_le _,rfl,rfl,by simp [hlen],by simp [hlen],by simp [hlen]⟩,?_⟩
     rintro i m σ1 H1 ⟨g1,rfl,rfl,g2,g3,g4⟩
     by_cases hlt:i < l.length
     · right
       have hd0:=List.getElem?_eq_getElem hlt
       obtain ⟨x,k1,k2⟩:=rs.get hd0
       obtain ⟨k,k3,k4⟩:=hm i _ hd0
       obtain ⟨b,rfl,k5⟩:=vR hK k2 k4
       refine ⟨⟨xs,_,sq _,k1⟩,fun σ' H'=>i+1<=l.length/\H'=upd H p (.dT (kvB ks (i+1)))/\σ'[1]? = some (some (.ref p))/\σ'[2]? = some (some (.int (2 ^ (i+1))))/\σ'.length=4,fun σ' H' ⟨u1,u2,u3,u4,u5⟩=>⟨l.length - (i+1),by lia,u1,rfl,u2,u3,u4,u5⟩,fun y H2 hy=>?_⟩
       obtain ⟨rfl,hy⟩:=hy
       have:=hy xs (sq _)
       rw [k1] at this
       cases this
       refine ⟨.int (2 ^ i),by simpa using g3,.ref p,by simpa using g2,.ref b,by simp [g4],p,_,rfl,DPut.t (k:=k) upd_same (k5.imp (sm _ _ _) fun ⟨o',z⟩=>⟨o',sm _ _ _ z⟩) ?_,?_⟩
       · have := congrArg List.length (wV ks i)
         rw [List.length_map,List.length_take] at this
         have:(60:Nat) < sizeLine:=by decide
         lia
       · have z : (2 : Int) ^ i < 2 ^ 64 := by exact_mod_cast Nat.pow_lt_pow_right (by decide) (show i < 64 by lia)
         have y:(0:Int)<=2 ^ i:=by exact_mod_cast Nat.zero_le (2 ^ i)
         refine ⟨.int (2 ^ i),by simpa using g3,2 ^ i,2,rfl,rfl,⟨by lia,z⟩,hlt,?_,by simpa using g2,by simp [g4,Int.pow_succ],by simp [g4]⟩
         rw [upd_upd,kvB_succ k3,putT_new]
         rw [wV]
         intro m
         obtain ⟨j,hj⟩:=List.mem_iff_getElem?.mp m
         rw [List.getElem?_take] at hj
         split at hj
         · have := (List.getElem?_inj (List.getElem?_eq_some_iff.mp hj).1 hks.1).mp (hj.trans k3.symm)
           lia
         · cases hj
     · left
       have ei:i=l.length:=by lia
       subst ei
       refine ⟨⟨xs,sq _,by rw [rs.length]; exact Nat.le_refl _⟩,.ref p,g2,h _ _ (o.same.trans (sm _)) ?_ True.intro⟩
       refine .dtt (fun z=>?_) upd_same ?_ ?_
       · obtain ⟨u, z, _⟩ := z
         rw [o.same.free hp] at z; cases z
       · rw [wV,hl,List.take_length]
       · rw [hl]; exact bits_vals ks
   · cases e
 · cases e
end FL
namespace L2
open PySem PySem.Spec PyProof.Rows
section
variable {prog:Program} {w:World} {A:Around} {E:Value->Shared->Prop} {s:Shared}
def DEs (h:Heap) (d:Addr) (es:Array DictEntry) (ep:Nat):Prop:=∃ o,h.get? d=some o/\o.ExactDict/\o.data = .dict es ep
theorem vals_call (d:Addr) (hd:(d == sysModules)=false):MeetsIn prog w (Builtin.«dict.values» ⟨[.ref d],[]⟩) (fun _ R s=>s.TypeIs (.ref d) "dict" ∧
   R (.ok (.ret (.ref s.heap.objs.size))) { s with heap:=s.heap.push { cls:=.type "dict_values",data:=.fields #[.ref d] } }):=.of_wp fun A R s ⟨ht,h⟩=>by
 refine wpAny_bind ?_; unfold Builtin.Dict.noArgs
 refine wpAny_bind (wpAny_notOrdered_dict ht ?_); show wpAny _ _ (pure d) _ _ s
 refine wpAny_pure ?_; show wpAny _ _ (Builtin.Dict.showsAll d >>= _) _ _ s
 unfold Builtin.Dict.showsAll; rw [if_neg (by rw [hd]; exact Bool.false_ne_true)]
 exact wpAny_bind (wpAny_pure (wpAny_bind (wpAny_newObj_type (wpAny_pure ⟨_,rfl,h⟩))))
theorem vals_iter {v d:Addr} {es:Array DictEntry} {ep:Nat} {Q:Value->Shared->Prop} (hv:s.heap.IsValuesView v d) (hm:DEs s.heap d es ep)
  (hQ:Q (.ref s.heap.objs.size) { s with heap:=s.heap.push { cls:=.type "dict_valueiterator",data:=.fields #[.ref d,.int 0 0,.int es.size 0,.int ep 0] } }):wpAny (model prog w) A (pyIter (.ref v)) Q E s:=by
 obtain ⟨ov,hov,hcv,hdv⟩:=id hv; obtain ⟨o,ho,hc,hdat⟩:=id hm
 refine wpAny_pyIter_slot hv.typeIs PySem.F.slot_dict_values_iter (wpAny_call_entry PySem.F.slot_dict_values_iter hv.typeIs PySem.F.entry_dict_values_iter ?_ (PySem.F.args_dict_values_iter_1 _))
 unfold Builtin.«dict_values.__iter__»; refine wpAny_bind (wpAny_pure (wpAny_bind ?_))
 unfold Builtin.Dict_items.dictOf; refine wpAny_bind (wpAny_field hov hdv (x:=.ref d) rfl (wpAny_pure (wpAny_bind ?_)))
 unfold Builtin.Dict_items.newIterator; refine wpAny_bind (wpAny_dictEntries ho hdat (wpAny_bind (wpAny_dictEpoch ho hdat ?_)))
 have hown:Builtin.Dict_items.ownsTuple "dict_valueiterator" = false:=by decide
 simp only [hown,Bool.false_eq_true,if_false]; refine wpAny_newObj_type (wpAny_pure ⟨_,rfl,"dict_valueiterator",_,⟨_,Heap.get?_push_size _ rfl,rfl⟩,PySem.F.slot_dict_valueiterator_next.lookup,?_⟩)
 simpa [rawInt] using hQ
theorem vals_next {it d:Addr} {i ep:Nat} {es:Array DictEntry} {e:DictEntry} {Q:Option Value->Shared->Prop} (hit:s.heap.IsValIter it d i es.size ep) (hm:DEs s.heap d es ep) (hx:es[i]? = some e)
  (hQ:∀ h',h'.IsValIter it d (i+1) es.size ep->Heap.SameBut it s.heap h'->Q (some e.val) { s with heap:=h' }):wpAny (model prog w) A (pyNext (.ref it)) Q E s:=by
 obtain ⟨o,ho,hc,hd⟩:=id hit; obtain ⟨od,hod,hcd,hdd⟩:=id hm
 unfold pyNext; refine wpAny_bind (wpAny_attempt (wpAny_callSpecial?_slot (name:=Str.ofString "__next__") hit.typeIs PySem.F.slot_dict_valueiterator_next
  (wpAny_call_entry PySem.F.slot_dict_valueiterator_next hit.typeIs PySem.F.entry_dict_valueiterator_next (wpAny_bind (wpAny_pure (wpAny_bind (wpAny_bind ?_)))) (PySem.F.args_dict_valueiterator_next_1 _))))
 (first | refine wpAny_bind (wpAny_typeNameOfWhole_valiter hit.typeIs (wpAny_pure ?_)) | refine wpAny_bind (wpAny_typeNameOf_valiter hit.typeIs (wpAny_pure ?_))); refine wpAny_bind (wpAny_fieldsOf ho hd ?_)
 have hown:Builtin.Dict_items.ownsTuple "dict_valueiterator" = false:=by decide
 simp only [hown,Bool.false_eq_true,if_false]; show wpAny _ _ (if (Value.ref d == Value.none)=true then _ else _) _ _ s
 rw [if_neg (show ¬ ((Value.ref d == Value.none)=true) from Bool.false_ne_true)]; refine wpAny_bind (wpAny_pure (wpAny_bind (wpAny_dictEntries hod hdd ?_)))
 rw [if_neg (by simp)]; refine wpAny_bind (wpAny_pure (wpAny_bind (wpAny_dictEpoch hod hdd ?_)))
 rw [if_neg (by simp)]; refine wpAny_pure ?_
 simp only [show ¬ ((i:Int) < 0) from by omega,if_false,Int.toNat_natCast,hx]; refine wpAny_bind ?_
 (first | refine wpAny_bind (wpAny_typeNameOfWhole_valiter hit.typeIs (wpAny_pure ?_)) | refine wpAny_bind (wpAny_typeNameOf_valiter hit.typeIs (wpAny_pure ?_))); refine wpAny_bind (wpAny_isOneOf_valiter hit.typeIs ?_)
 show wpAny _ _ (setField (.ref it) 1 (rawInt ((i:Int)+1)) >>= _) _ _ s; refine wpAny_bind (wpAny_setField ho hd (by simp) ?_)
 have hit':(s.heap.update it (Obj.mapFields (·.setIfInBounds 1 (rawInt ((i:Int)+1))))).IsValIter it d (i+1) es.size ep:=⟨_,Heap.get?_update_self _ ho (Obj.isFreed_of_fields (Obj.data_mapFields hd _)),(Obj.cls_mapFields ..).trans hc,by rw [Obj.data_mapFields hd]; simp [rawInt]⟩
 refine wpAny_bind (wpAny_holding (wpAny_bind (wpAny_isOneOf_valiter (s:={ s with heap:=s.heap.update it (Obj.mapFields (·.setIfInBounds 1 (rawInt ((i:Int)+1)))) }) hit'.typeIs (wpAny_bind (wpAny_isOneOf_valiter (s:={ s with heap:=s.heap.update it (Obj.mapFields (·.setIfInBounds 1 (rawInt ((i:Int)+1)))) }) hit'.typeIs ?_)))))
 show wpAny _ _ (pure e.val) _ _ _; exact wpAny_pure (wpAny_pure ⟨_,rfl,wpAny_pure (hQ _ hit' (Heap.SameBut.update ..))⟩)
theorem vals_end {it d:Addr} {ep:Nat} {es:Array DictEntry} {Q:Option Value->Shared->Prop} (hh:A.handled=none) (hit:s.heap.IsValIter it d es.size es.size ep) (hm:DEs s.heap d es ep)
  (hQ:∀ h',Heap.ExtBut it s.heap h'->Q none { s with heap:=h' }):wpAny (model prog w) A (pyNext (.ref it)) Q E s:=by
 obtain ⟨o,ho,hc,hd⟩:=id hit; obtain ⟨od,hod,hcd,hdd⟩:=id hm
 unfold pyNext; refine wpAny_bind (wpAny_attempt (wpAny_callSpecial?_slot (name:=Str.ofString "__next__") hit.typeIs PySem.F.slot_dict_valueiterator_next
  (wpAny_call_entry PySem.F.slot_dict_valueiterator_next hit.typeIs PySem.F.entry_dict_valueiterator_next (wpAny_bind (wpAny_pure (wpAny_bind (wpAny_bind ?_)))) (PySem.F.args_dict_valueiterator_next_1 _))))
 (first | refine wpAny_bind (wpAny_typeNameOfWhole_valiter hit.typeIs (wpAny_pure ?_)) | refine wpAny_bind (wpAny_typeNameOf_valiter hit.typeIs (wpAny_pure ?_))); refine wpAny_bind (wpAny_fieldsOf ho hd ?_)
 have hown:Builtin.Dict_items.ownsTuple "dict_valueiterator" = false:=by decide
 simp only [hown,Bool.false_eq_true,if_false]; show wpAny _ _ (if (Value.ref d == Value.none)=true then _ else _) _ _ s
 rw [if_neg (show ¬ ((Value.ref d == Value.none)=true) from Bool.false_ne_true)]; refine wpAny_bind (wpAny_pure (wpAny_bind (wpAny_dictEntries hod hdd ?_)))
 rw [if_neg (by simp)]; refine wpAny_bind (wpAny_pure (wpAny_bind (wpAny_dictEpoch hod hdd ?_)))
 rw [if_neg (by simp)]; refine wpAny_pure ?_
 simp only [show ¬ ((es.size:Int) < 0) from by omega,if_false,Int.toNat_natCast,Array.getElem?_eq_none (Nat.le_refl es.size)]; refine wpAny_bind ?_
 (first | refine wpAny_bind (wpAny_typeNameOfWhole_valiter hit.typeIs (wpAny_pure ?_)) | refine wpAny_bind (wpAny_typeNameOf_valiter hit.typeIs (wpAny_pure ?_)))
 show wpAny _ _ (setField (.ref it) 0 .none >>= _) _ _ s; refine wpAny_bind (wpAny_setField ho hd (by simp) ?_)
 show wpAny _ _ (newExc (.type "StopIteration") [] >>= _) _ _ _; refine wpAny_bind ?_
 simp only [newExc,newTuple]; refine wpAny_bind (wpAny_newObj_type ?_ (by size_fits))
 refine wpAny_bind (m:=firstArgMember _ _) (wpAny_of_eq (a:=Value.none) (by first | rfl | (simp only [firstArgMember]; rfl)) (wpAny_newObj_type ?_ (by size_fits)))
 simp only [raiseNew]; refine wpAny_bind (wpAny_handled ?_)
 rw [show A.in1.handled=none from hh]; refine wpAny_bind (wpAny_pure (wpAny_throw ?_))
 refine wpAny_bind (wpAny_isInstance (T:="StopIteration") (b:=true) ⟨_,Heap.get?_push_size _ rfl,rfl⟩ isSubtype_stop (wpAny_pure (hQ _ (((Heap.SameBut.update ..).extBut.push _).push _))))
end
section
variable {prog:Program} {w:World} {A:Around}
theorem DEs.at (x:DEs h a es ep) (e:∀ o,h.get? a=some o->h'.get? a=some o):DEs h' a es ep:=let ⟨o,ho,r⟩:=x; ⟨o,e _ ho,r⟩
theorem walk_vals (hh:A.handled=none) (I d:Addr) (hne:d≠I) (es:Array DictEntry) ep:Walks prog w A I [I,d] [I] es.size (fun i v=>∃ e,es[i]? = some e/\v=e.val) (fun i h=>h.IsValIter I d i es.size ep/\DEs h d es ep) where
 sub:=fun b z=>by cases List.mem_singleton.mp z; exact .head _
 frame:=fun _ _ _ st k=>⟨st.1.at (k I (.head _)),st.2.at (k d (.tail _ (.head _)))⟩
 item:=fun i s Q E hi st q=>vals_next st.1 st.2 (Array.getElem?_eq_getElem hi) fun h' t z=>q _ h' s.toks ⟨_,Array.getElem?_eq_getElem hi,rfl⟩ ⟨t,st.2.at fun o e=>z.extBut d o hne e⟩ fun b o hb e=>z.extBut b o (fun y=>hb (y ▸ .head _)) e
 done:=fun s Q E st q=>vals_end hh st.1 st.2 fun h' z=>q h' s.toks fun b o hb e=>z b o (fun y=>hb (y ▸ .head _)) e
 self:=fun _ _ _ _ st q=>wpAny_pyIter_valiter st.1 q
end
theorem preSum_get (ns:List Int):∀ n,preSum (fun i=>ns.getD i 0) n=(ns.take n).sum
 | 0=>by simp [preSum]
 | n + 1 => by
   rw [preSum,preSum_get ns n,List.take_succ,List.sum_append,List.getD_eq_getElem?_getD]
   cases ns[n]? <;> simp
theorem KT.ints {kvs:List (List Key×V)} (r:KT H kvs xs):∀ {ns:List Int},kvs.map (·.2)=ns.map V.int->xs.length=ns.length/\∀ (i:Nat) x,xs[i]? = some x->∃ t,x.2.2=Value.int (ns.getD i 0) t:=by
 induction r with
 | nil=>intro ns e; cases ns with | nil=>exact ⟨rfl,fun i x z=>by cases z⟩ | cons _ _=>cases e
 | cons h t ih =>
   intro ns e
   cases ns with
   | nil=>cases e
   | cons n r =>
     rw [List.map_cons,List.map_cons] at e
     injection e with e1 e2
     obtain ⟨k1,k2⟩:=ih e2
     refine ⟨by simp [k1],fun i x z=>?_⟩
     cases i with
     | zero =>
       cases z
       have:=h.2.2
       rw [e1] at this
       exact this
     | succ i=>exact k2 i x z
theorem mt_vals:MtR X "dict.values" (fun x xs H Q=>∃ a kvs,x = .ref a/\xs=[]/\H a=some (.dT kvs)/\∀ p,H p=none->Q (.ref p) (upd H p (vwO p a))):=by
 intro pins s σ H x xs v us Q I r1 r2 h
 obtain ⟨a,kvs,rfl,rfl,e,q⟩:=h
 cases r1; cases r2
 obtain ⟨_,hd,xs,_,o,es,ep,g1,g2,g3,_⟩:=I.hok a _ e
 have ht:s.TypeIs (.ref a) "dict":=⟨o,g1,g2.1⟩
 refine call_meetsIn PySem.F.slot_dict_values ht PySem.F.entry_dict_values (PySem.F.args_dict_values_1 _) (vals_call a hd) ⟨ht,.ref s.heap.objs.size,_,I.laid (o:=vwO s.heap.objs.size a) (fun _ _ z=>Heap.get?_push_of_some _ z) (Nat.le_refl _) ?_,rfl,q _ (I.hok.fresh (Nat.le_refl _))⟩
 exact vwO_ok ⟨_,Heap.get?_push_size _ rfl,rfl,rfl⟩
theorem call_sumV (hc:X.calm=true):CallR X (.builtin "sum") (fun xs H Q=>∃ p a kvs,∃ ns:List Int,xs=[.ref p]/\H p=some (vwO p a)/\H a=some (.dT kvs)/\kvs.map (·.2)=ns.map V.int/\Q (.int ns.sum) H):=by
 intro pins s σ H xs us Q I r h
 obtain ⟨p,a,kvs,ns,rfl,e1,e2,hv,q⟩:=h
 obtain ⟨u,rfl,ru⟩:=vals1 r
 cases ru
 obtain ⟨vw,_⟩:=I.hok p _ e1
 obtain ⟨_,hd,xs,rel,o,es,ep,g1,g2,g3,g4,_⟩:=I.hok a _ e2
 have de:DEs s.heap a es ep:=⟨o,g1,g2,g3⟩
 have hlt:=Heap.lt_size g1
 obtain ⟨k1,k2⟩:=KT.ints rel hv
 have hsz:es.size=ns.length:=by rw [<- k1,<- Array.length_toList,g4,List.length_map]
 refine call_sum_walkG (vals_iter vw de ⟨s.heap.objs.size,_,_,_,_,_,fun i=>ns.getD i 0,rfl,walk_vals (A:=X.A.in1) (I.ok.hd hc) _ a (Nat.ne_of_lt hlt) es ep,⟨⟨_,Heap.get?_push_size _ rfl,rfl,rfl⟩,de.at fun o z=>Heap.get?_push_of_some _ z⟩,fun b hb=>?_,fun i v ⟨e,z,y⟩=>?_,fun h' tk t' hk=>?_⟩)
 · show b < (s.heap.push _).objs.size
   rw [Heap.size_push]
   rcases List.mem_cons.mp hb with rfl | hb
   · exact Nat.lt_succ_self _
   · cases List.mem_singleton.mp hb; exact Nat.lt_succ_of_lt hlt
 · have z' : es.toList[i]? = some e := by rw [Array.getElem?_toList]; exact z
   rw [g4,List.getElem?_map] at z'
   obtain ⟨x,z1,rfl⟩:=Option.map_eq_some_iff.mp z'
   obtain ⟨t,ht⟩:=k2 i x z1
   exact ⟨t,y.trans ht⟩
 · rw [preSum_get, hsz, List.take_length]
   exact ⟨.int ns.sum,H,I.kept fun b o z=>hk b o (fun y=>by cases List.mem_singleton.mp y; exact absurd (Heap.lt_size z) (Nat.lt_irrefl _)) (Heap.get?_push_of_some _ z),⟨t',rfl⟩,q⟩
end L2
namespace FL
open PySem PySem.Spec PyProof.Rows L2
theorem pv_sumV (hc:X.calm=true) (hm:X.mg "sum" = none) (ho:PV X oe fd) (hg:Gl X "sum":=by rfl) (hb:attributeBase oe "values" X.env (eval oe X.env)=eval oe X.env:=by rfl) (hl:(ap.endLine == cp.line)=true:=by rfl)
  (he:starEach [.Call (.Attribute oe "values" ap) [] [] cp] X.env=[(false,eval (.Call (.Attribute oe "values" ap) [] [] cp) X.env)]:=by rfl) :
  PV X (.Call (.Name "sum" p) [.Call (.Attribute oe "values" ap) [] [] cp] [] pos) (sumTG fd):=by
 obtain ⟨td,pd,hd'⟩:=ho
 refine ⟨_,yA (call_sumV hc) hg hm (by decide +kernel) (qO (pe_bm0 PySem.F.plainAttrs_dict PySem.F.slot_dict_values PySem.F.type_dict_values mt_vals pd hb hl) jW) (by decide) (by decide) he rfl,fun H₀ H O σ ds hd d Q o e q=>?_⟩
 obtain ⟨x,h1,e⟩:=bnd e
 obtain ⟨pr,h2,e⟩:=bnd e
 refine hd' H₀ H O σ ds hd x _ o h1 fun v H1 s1 r1=>?_
 obtain ⟨a,kvs,rfl,hb,ek,rs⟩:=vI r1 h2
 obtain ⟨ns,h3,e⟩:=mpd e
 subst e
 refine ⟨?_,a,kvs,rfl,rfl,hb,fun p hp=>⟨p,a,kvs,ns,rfl,upd_same,?_,ints_rep rs h3,q _ _ (s1.trans (qB hp _)) (.int _)⟩⟩
 · exact .inr (.inr (.inl ⟨rfl,.inr ⟨kvs,hb⟩⟩))
 · rw [upd_ne (jO hb hp)]; exact hb
theorem putTs_not (h:k ∉ ks):putTs k T ks ts=ts:=by
 induction ks generalizing ts with
 | nil=>rfl
 | cons k' ks ih =>
   cases ts with
   | nil=>rfl
   | cons t ts =>
     rw [putTs,if_neg (fun z=>h (by rw [z]; exact .head _)),ih fun z=>h (.tail _ z)]
theorem repl_not {kvs:List (Key×V)} (h:k ∉ kvs.map (·.1)):(kvs.map fun kv=>if kv.1=k then (kv.1,v) else kv)=kvs:=by
 conv=>rhs; rw [<- List.map_id kvs]
 exact List.map_congr_left fun p hp=>if_neg fun z=>h (List.mem_map.mpr ⟨p,hp,z⟩)
theorem RepsO.putTT {K:Frag} (rT:RepO K H O v T fT):∀ {kvs:List (Key×V)} {ts:List OT} {fs:List Addr},(kvs.map (·.1)).Nodup->k∈kvs.map (·.1)->RepsO K H O (kvs.map (·.2)) ts fs →
  ∃ fs',RepsO K H O ((kvs.map fun kv=>if kv.1=k then (kv.1,v) else kv).map (·.2)) (FL.putTs k T (kvs.map (·.1)) ts) fs'/\(∀ b∈fs',b∈fs \/ b∈fT)/\(fs.Nodup->fT.Nodup->(∀ b∈fT,b ∉ fs)->fs'.Nodup)/\∀ b∈fT,b∈fs':=by
 intro kvs
 induction kvs with
 | nil=>intro ts fs _ z; cases z
 | cons p r ih =>
   intro ts fs nd z h
   cases h with
   | @cons _ t _ ts f gs h q =>
   rw [List.map_cons,List.nodup_cons] at nd
   by_cases e:p.1=k
   · refine ⟨fT ++ gs, ?_, fun b hb => (List.mem_append.mp hb).elim .inr fun z => .inl (List.mem_append_right _ z), fun n1 n2 n3 => ?_, fun b hb => List.mem_append_left _ hb⟩
     · rw [List.map_cons, List.map_cons, List.map_cons, repl_not (by rw [<- e]; exact nd.1), FL.putTs, if_pos e, if_pos e, putTs_not (by rw [<- e]; exact nd.1)]
       exact .cons rT q
     · rw [List.nodup_append]
       exact ⟨n2,(List.nodup_append.mp n1).2.1,fun x hx y hy z=>n3 x hx (by rw [z]; exact List.mem_append_right _ hy)⟩
   · have m : k ∈ r.map (·.1) := (List.mem_cons.mp z).elim (fun y => (e y.symm).elim) id
     obtain ⟨gs',w1,w2,w3,w4⟩:=ih nd.2 m q
     refine ⟨f++gs',?_,fun b hb=>(List.mem_append.mp hb).elim (fun z=>.inl (List.mem_append_left _ z)) fun z=>(w2 b z).imp (List.mem_append_right _) id,fun n1 n2 n3=>?_,fun b hb=>List.mem_append_right _ (w4 b hb)⟩
     · rw [List.map_cons, List.map_cons, List.map_cons, FL.putTs, if_neg e, if_neg e]
       exact .cons h w1
     · obtain ⟨m1, m2, m3⟩ := List.nodup_append.mp n1
       rw [List.nodup_append]
       exact ⟨m1,w3 m2 n2 fun b hb y=>n3 b hb (List.mem_append_right _ y),fun x hx y hy z=>(w2 y hy).elim (fun hy=>m3 x hx y hy z) fun hy=>n3 y hy (by rw [<- z]; exact List.mem_append_left _ hx)⟩
theorem RepsO.putKO {K:Frag} {kvs:List (Key×V)} (rT:RepO K H O v T fT) (nd:(kvs.map (·.1)).Nodup) (h:RepsO K H O (kvs.map (·.2)) ts fs) :
  ∃ fs',(O a->H a=some (.dK (putK kvs k v))->RepO K H O (.ref a) (putKT k T (kvs.map (·.1)) ts) (a::fs'))/\(∀ b∈fs',b∈fs \/ b∈fT)/\(fs.Nodup->fT.Nodup->(∀ b∈fT,b ∉ fs)->fs'.Nodup)/\∀ b∈fT,b∈fs':=by
 unfold putKT
 by_cases hm:hasK k (kvs.map (·.1))=true
 · have m : k ∈ kvs.map (·.1) := by simpa [hasK] using hm
   obtain ⟨fs',w1,w2⟩:=RepsO.putTT (k:=k) rT nd m h
   refine ⟨fs',fun oa ha=>?_,w2⟩
   rw [if_pos hm]
   rw [wJ hm] at ha
   exact .dct oa ha (putK_map1 kvs k v) w1
 · refine ⟨fs ++ fT, fun oa ha => ?_, fun b z => List.mem_append.mp z, fun n1 n2 n3 => List.nodup_append.mpr ⟨n1, n2, fun x hx y hy z => n3 y hy (by rw [<- z]; exact hx)⟩, fun b z => List.mem_append_right _ z⟩
   rw [if_neg hm]
   rw [xX hm] at ha
   exact .dct oa ha (by simp) (by rw [List.map_append]; exact h.snocO rT)
section
theorem psv_dputO (hr:Room j X.A) (ho:PVp X oe f) (hk:PV X ke fk) (he:PVo X e g) (hs:swapsWith e (some (.Subscript oe ke pos')) pos.line X.env=pure false:=by rfl) :
  PSv X (.Assign [.Subscript oe ke pos'] e pos) (dputO f fk g):=by
 obtain ⟨tp,hp,hfp⟩:=ho
 obtain ⟨tk,pk,hk⟩:=hk
 obtain ⟨te,pe,hg⟩:=he
 refine ⟨_,ps_dput (Nat.lt_of_le_of_lt (by lia) (hu100 hr)) hp pk pe hs,fun H₀ H O σ ds hd out E o e h=>?_⟩
 obtain ⟨T,h1,e⟩:=bnd e
 obtain ⟨q,h2,e⟩:=bnd e
 obtain ⟨y,h3,e⟩:=bnd e
 obtain ⟨k,h4,e⟩:=bnd e
 refine hg H₀ H O σ ds hd T _ o h1 fun v H1 fs s1 r1 nd1 n1=>?_
 have o1:=o.moreL s1 n1 fun b hb=>(r1.owns b hb).2
 refine hfp H₀ H1 (orL fs O) σ ds hd q _ o1 h2 fun r T0 v0 w fs0 g1 g2 g3 g4 g5=>?_
 refine hk H₀ H1 (orL fs O) σ ds hd y _ o1 h3 fun yv H2 s2 r2=>?_
 have s12:=s1.trans s2
 obtain ⟨v',w',f',y1,y2,y3,y4,y5,y6⟩:=o.modAt g1 g2
 rw [g3] at y1
 cases y1
 cases pathV_det g4 (pathV_mono s1 y2)
 cases hq:q.2.2 with
 | dct ks ts =>
   rw [hq] at y3 e
   simp only at e
   split at e
   · rename_i hl
     obtain ⟨hl,hnew⟩:=hl
     cases e
     cases y3 with
     | @dct a kvs _ _ fs' na ha ek rs =>
       cases yQ r2 h4
       have ha2:=s12 _ _ ha
       have ln:kvs.length < sizeLine:=by rw [<- ek] at hl; simpa using hl
       refine ⟨a,_,rfl,DPut.k ha2 ln,?_⟩
       obtain ⟨n3,n4⟩:=List.nodup_cons.mp y4
       have old:∀ b,H b=none->b ∉ a::fs':=fun b hb z=>by
        rcases List.mem_cons.mp z with z | z
        · rw [z,ha] at hb; cases hb
        · obtain ⟨_, x, ex⟩ := rs.owns b z
          rw [hb] at ex; cases ex
       have afs:a ∉ fs:=fun z=>by rw [n1 a z] at ha; cases ha
       have hs':∀ b u,b≠a->H b=some u->upd H2 a (.dK (putK kvs k v)) b=some u:=fun b u nb eb=>by rw [L2.upd_ne nb]; exact s12 _ _ eb
       have nO:∀ {b:Addr},¬ O b->b≠a:=fun nb z=>nb (by rw [z]; exact na)
       have c0:Chg H (upd H2 a (.dK (putK kvs k v))) O (orL fs O) [a] (a::fs) :=
        ⟨fun b u nb eb=>hs' b u (nO nb) eb,fun b u _ nb eb=>hs' b u (fun z=>nb (by rw [z]; exact .head _)) eb,fun b z _=>.inr z,fun b z=>z.elim (fun z=>.inr ⟨.tail _ z,n1 b z⟩) .inl,fun b z=>(List.mem_cons.mp z).elim (fun z=>.inl (by rw [z]; exact .head _)) fun z=>.inr (n1 b z)⟩
       have rT:RepO X.K (upd H2 a (.dK (putK kvs k v))) (orL fs O) v T fs:=(r1.mono s2).keep (fun b u nb eb=>by rw [L2.upd_ne (nO fun z=>nb (.inr z))]; exact eb) fun b hb u eb=>by
        have z:b≠a:=fun z=>afs (by rw [<- z]; exact hb)
        rw [L2.upd_ne z]; exact eb
       obtain ⟨fs3,w1,w2,w3⟩:=RepsO.putKO (k:=k) rT (by rw [ek]; exact hnew) (c0.repsO rs fun b hb z=>n3 (List.mem_singleton.mp z ▸ hb))
       rw [ek] at w1
       have ok:=y6 (O':=orL fs O) (u':=putKT k T ks ts) (f':=a::fs3)
        ⟨fun b u nb eb=>hs' b u (nO nb) eb,fun b u _ nb eb=>hs' b u (fun z=>nb (by rw [z]; exact .head _)) eb,fun b z _=>.inr z,fun b z=>z.elim (fun z=>.inr ⟨.tail _ (w3.2 b z),n1 b z⟩) .inl,fun b z=>?_⟩
        (fun b z _=>?_) (w1 (.inr na) upd_same) (List.nodup_cons.mpr ⟨fun z=>?_,?_⟩)
       · have e' : putP q (putKT k T ks ts) ds = ds.set q.1 (.ob r (putO (putKT k T ks ts) q.2.1 T0)) := by simp [putP, g1]
         rw [e'] at h
         exact h _ _ _ ok
       · rcases List.mem_cons.mp z with z | z
         · exact .inl (by rw [z]; exact .head _)
         · rcases w2 b z with z | z
           · exact .inl (.tail _ z)
           · exact .inr (n1 b z)
       · by_cases z' : b = a
         · rw [z',upd_same]; exact ⟨⟨.dK (putK kvs k v),rfl⟩,rfl⟩
         · rcases List.mem_cons.mp z with q' | q'
           · exact (z' q').elim
           · obtain ⟨_, y, ey⟩ := rs.owns b q'
             exact ⟨y,hs' b _ z' ey⟩
       · rcases w2 a z with z | z
         · exact n3 z
         · exact afs z
       · exact w3.1 n4 nd1 fun x hx hy=>old x (n1 x hx) (.tail _ hy)
   · cases e
 | _=>rw [hq] at e; cases e
end
theorem pvo_d1N (hk:PV X ke fk) (hv:PVo X ve g):PVo X (.Dict [some ke] [ve] pos) (dO1N fk g):=by
 obtain ⟨tk,pk,hk⟩:=hk
 obtain ⟨tv,pv,hv⟩:=hv
 refine ⟨_,pe_disp (pps_cons pk pv pps_nil) rfl rfl (by simp) (by simp),fun H₀ H O σ ds hd T Q o e q=>fun p hp=>?_⟩
 unfold dO1N at e
 obtain ⟨y,h1,e⟩:=bnd e
 obtain ⟨k,h2,e⟩:=bnd e
 obtain ⟨T1,h3,e⟩:=mpd e
 subst e
 have o1:Ok X.K H₀ (upd H p (.dK [])) (orL [p] O) σ ds hd:=o.moreL (qB hp _) (fun b hb=>by rw [List.mem_singleton.mp hb]; exact hp) fun b hb=>by rw [List.mem_singleton.mp hb]; exact ⟨⟨.dK [],rfl⟩,upd_same⟩
 refine hk H₀ _ _ σ ds hd y _ o1 h1 fun yv H1 s1 r1=>?_
 refine hv H₀ H1 _ σ ds hd T1 _ (o1.mono s1) h3 fun w H2 fs s2 r2 nd n2=>?_
 have e1:H1 p=some (.dK []):=s1 _ _ upd_same
 have e2:H2 p=some (.dK []):=s2 _ _ e1
 have pf:p ∉ fs:=fun z=>by rw [n2 p z] at e1; cases e1
 cases yQ r1 h2
 refine ⟨e2,[(k,w)],rfl,by simp,?_⟩
 have r3:RepO X.K (upd H2 p (.dK (mergeK [] [(k,w)]))) (orL fs (orL [p] O)) w T1 fs:=r2.keep (fun b u nb eb=>by rw [upd_ne (fun z=>nb (.inr (.inl (by rw [z]; exact .head _))))]; exact eb) fun b hb u eb=>by rw [upd_ne (fun z=>pf (by rw [<- z]; exact hb))]; exact eb
 have r4:RepO X.K (upd H2 p (.dK (mergeK [] [(k,w)]))) (orL (p::(fs++[])) O) w T1 fs:=r3.less (fun a z=>z.elim (fun z=>(List.mem_cons.mp z).elim (fun z=>.inr (.inl (by rw [z]; exact .head _))) fun z=>.inl (by simpa using z)) fun z=>.inr (.inr z)) fun b hb=>.inl (.tail _ (List.mem_append_left _ hb))
 have sm:Same H (upd H2 p (.dK (mergeK [] [(k,w)]))):=fun b u eb=>by
  have hb:b≠p:=fun z=>by rw [z,hp] at eb; cases eb
  rw [upd_ne hb]
  exact s2 _ _ (s1 _ _ (by rw [upd_ne hb]; exact eb))
 refine q _ _ (p::(fs++[])) sm (.dct (kvs:=[(k,w)]) (.inl (.head _)) upd_same rfl (.cons r4 .nil)) (List.nodup_cons.mpr ⟨by simpa using pf,by simpa using nd⟩) fun b hb=>?_
 rcases List.mem_cons.mp hb with z | z
 · rw [z]; exact hp
 · have z : b ∈ fs := by simpa using z
   have:b≠p:=fun y=>pf (by rw [<- y]; exact z)
   have:=(s1.free (n2 b z))
   rwa [upd_ne ‹b≠p›] at this
theorem valT_part {K:Frag} : ∀ {kvs:List (Key×V)} {ts:List OT} {fs:List Addr},RepsO K H O (kvs.map (·.2)) ts fs->getKT k (kvs.map (·.1)) ts=some T->∃ w f,valV kvs k=some w/\RepO K H O w T f/\∀ b∈f,b∈fs:=by
 intro kvs
 induction kvs with
 | nil=>intro ts fs _ e; simp [getKT] at e
 | cons p r ih =>
   intro ts fs h e
   cases h with
   | @cons _ t _ ts f gs h q =>
     simp only [List.map_cons,getKT] at e
     by_cases z:p.1=k
     · rw [if_pos z] at e
       cases e
       exact ⟨p.2,f,yR z,h,fun b=>List.mem_append_left _⟩
     · rw [if_neg z] at e
       obtain ⟨w,f',h1,h2,h3⟩:=ih q e
       exact ⟨w,f',by rw [xE z]; exact h1,h2,fun b z=>List.mem_append_right _ (h3 b z)⟩
theorem psv_retDP i (hr:Room j X.A) (hk:PV X ke fk) (hN:X.N[i]? = some x:=by rfl) (hv:Vis X.env.scope x:=by first | exact Or.inl rfl | exact Or.inr (Or.inl rfl) | exact Or.inr (Or.inr rfl)) (hd:(x == ("__debug__" : Str))=false:=by decide)
  (hcd:(x == ("__classdict__" : Str))=false:=by decide) (hs:NoSl ke:=by exact fun _ _=>rfl):PSv X (.Return (some (.Subscript (.Name x pos1) ke pos')) pos) (retDP i fk):=by
 obtain ⟨tk,pk,hk⟩:=hk
 refine ⟨_,wR (kL (Nat.lt_of_le_of_lt (by lia) (hu100 hr)) (jG hN hv hd hcd) pk hs),fun H₀ H O σ ds hd out E o e h=>?_⟩
 unfold retDP at e
 split at e
 · rename_i ks ts hds
   obtain ⟨y,h1,e⟩:=bnd e
   obtain ⟨k,h2,e⟩:=bnd e
   obtain ⟨T,h3,e⟩:=bnd e
   split at e
   · rename_i l
     obtain ⟨ds',h4,e⟩:=bnd e
     unfold flatF at e
     split at e
     · rename_i hf
       cases e
       obtain ⟨F,hF⟩:=o.obs
       obtain ⟨v,g1,g2,g3,g4,g5⟩:=hF i none _ hds
       refine ⟨v,g1,hk H₀ H O σ ds hd y _ o h1 fun yv H2 s2 r2=>?_⟩
       generalize hFi:F i=fi at g2 g4 g5
       cases g2 with
       | @dct a kvs _ _ fs n hb ek rs =>
         cases yQ r2 h2
         obtain ⟨w,f,k1,k2,k3⟩:=valT_part (rs.mono s2) (by rw [ek]; exact h3)
         cases k2 with
         | @lst b xs _ f' nb hb' rs' =>
           refine ⟨a,_,rfl,.inl ⟨kvs,k,.inl (s2 _ _ hb),rfl,k1.symm⟩,h _ _ (o.same.trans s2) ?_ True.intro⟩
           refine ⟨b,xs,rfl,(g5 b (.tail _ (k3 b (.head _)))).1,hb',?_⟩
           refine Reps.flatten (fun c z=>?_) hf (by rw [valsO_some h4] at rs'; exact rs'.ofVals.2)
           rcases z with rfl | z
           · exact ⟨_,hb',rfl⟩
           · exact Old.mono (o.same.trans s2) z
     · cases e
   · cases e
 · cases e
def N3 (K:Frag):Prop:=(K.all fun p=>!t3 p.2)=true
theorem pve_tree (i:Nat) (hN:X.N[i]? = some x:=by rfl) (hv:Vis X.env.scope x:=by first | exact Or.inl rfl | exact Or.inr (Or.inl rfl) | exact Or.inr (Or.inr rfl)) (hd:(x == ("__debug__" : Str))=false:=by decide)
  (hcd:(x == ("__classdict__" : Str))=false:=by decide):PVe X (.Name x pos) (getOT i):=by
 refine ⟨_,jG hN hv hd hcd,fun H₀ H O σ ds hd d Q o e q=>?_⟩
 unfold getOT at e
 split at e
 · rename_i T hs
   split at e
   · rename_i hf
     cases e
     obtain ⟨F,hF⟩:=o.obs
     obtain ⟨v,h1,h2,h3,h4,h5⟩:=hF i none T hs
     have r:RepO X.K H (orL (F i) (Old H₀)) v T (F i):=h2.flatten (fun a z=>z.elim (fun z=>by
      obtain ⟨_,u,eu⟩:=h2.owns a z
      exact ⟨_,eu,u.2⟩) (Old.mono o.same)) hf fun b z=>.inl z
     refine ⟨v,h1,q v H (Same.refl _) (r.val' fun a z=>⟨.inr z,fun y=>?_⟩)⟩
     obtain ⟨u,eu,_⟩:=z
     rw [(h5 a y).1] at eu
     cases eu
   · cases e
 · cases e
end FL
namespace L2
open PySem PySem.Spec PyProof.Rows
theorem call_sortedDI (hc:X.calm=true):CallR X (.builtin "sorted") (fun xs H Q=>∃ p kvs,∃ ks:List Int,xs=[.ref p]/\Rd H p (.dK kvs)/\(kvs.map (·.1))=ks.map (fun i=>Sum.inl (some i))/\∀ l,H l=none->Q (.ref l) (upd H l (.lst ((FL.srtI ks).map V.int)))):=by
 intro pins s σ H xs us Q I r h
 obtain ⟨p,kvs,ks,rfl,hq,ek,q⟩:=h
 obtain ⟨u,rfl,ru⟩:=vals1 r
 cases ru
 obtain ⟨z,hds,vs,rel,dd⟩:=kB I.hok hq
 obtain ⟨ep,hat⟩:=dd.dictAt
 have hl:=rel.length
 have hk:kvs.length=ks.length:=by have:=congrArg List.length ek; simpa using this
 refine Calls.call_function_entry kind_sorted plain_sorted entry_sorted (args_sorted1 _) ?_
 refine wpAny_bind (wpAny_pure (wpAny_bind (PySem.W.kdu_collect (PySem.W.kdl_dict hds) (by simpa using I.ok.hd hc) hat (by lia) fun h1 tk acc k1 hit=>?_)))
 have hS:IntsAre acc.toList ks:=intsAre_of (vals_at (by have:=hit.1; simp; omega) fun j v e=>by
  obtain ⟨k,x,e1,e2⟩:=hit.2 j v (by rw [<- Array.getElem?_toList]; exact e)
  obtain ⟨y,e3,_⟩:=rel.at' e1
  have e4:(kvs.map (·.1))[j]? = some k:=by rw [List.getElem?_map,e3]; rfl
  rw [ek,List.getElem?_map] at e4
  cases e5:ks[j]? with
  | none=>rw [e5] at e4; cases e4
  | some w =>
    rw [e5] at e4
    cases e4
    refine ⟨.int w,by rw [List.getElem?_map,e5]; rfl,?_⟩
    rcases qR (k:=Sum.inl (some w)) e2 with ⟨i,t,e6,e7⟩ | ⟨y,t,e6,e7⟩ | ⟨e6,_⟩
    · cases e6; exact ⟨t,e7⟩
    · cases e6
    · cases e6)
 refine TS.sorted_end hS (by have:=hit.1; show acc.size<=sizeLine; omega) fun h2 vs' ns' e p1 p2 p3 p4 p5=>?_
 have en:=FL.le_unique _ _ (p4.trans (FL.srtI_perm ks).symm) p5 (FL.srtI_le ks)
 have I1:Inv X pins σ H { s with heap:=h1,toks:=tk }:=I.kept k1
 refine ⟨.ref h1.objs.size,_,Inv.laid I1 p1 (Nat.le_refl _) (show ObjOk X.prog X.w _ h2 _ (.lst ((FL.srtI ks).map V.int)) from ⟨?_,vs',e,?_,p2⟩),rfl,q _ (I1.hok.fresh (Nat.le_refl _))⟩
 · rw [List.length_map,(FL.srtI_perm ks).length_eq,<- hk]; exact z
 · rw [<- en]; exact vals_nums p3
end L2
namespace FL
open PySem PySem.Spec PyProof.Rows L2
theorem pvf_sortedDI (hc:X.calm=true) (hm:X.mg "sorted" = none) (he:PVn X e f) (hg:Gl X "sorted":=by rfl) (hs:starEach [e] X.env=[(false,eval e X.env)]:=by rfl) :
  PVf X (.Call (.Name "sorted" p) [e] [] pos) (srtDI f):=by
 obtain ⟨te,pe,he⟩:=he
 refine ⟨_,yA (call_sortedDI hc) hg hm (by decide +kernel) (qO pe jW hs) (by decide) (by decide) hs rfl,fun H₀ H O σ ds hd l Q o e q=>?_⟩
 obtain ⟨d,h1,e⟩:=bnd e
 obtain ⟨kl,h2,e⟩:=bnd e
 obtain ⟨ks,h3,e⟩:=bnd e
 cases e
 refine he H₀ H O σ ds hd _ _ o h1 fun v H1 s1 r1=>?_
 obtain ⟨a,kvs,rfl,hb,ek,rs⟩:=wI r1 h2
 exact ⟨a,kvs,ks,rfl,hb,ek.trans (keysI_some h3),fun p hp=>q p _ _ (s1.trans (qB hp _)) (s1.free hp) upd_same (reps_ints _)⟩
theorem Ok.moveT {K:Frag} (o:Ok K H₀ H O σ ds hd) {i j:Nat} (hij:i≠j) (hs:ds[j]? = some (.ob none T)) (hv : σ[j]? = some (some v)) (hi:i < ds.length):Ok K H₀ H O (σ.set i (some v)) ((ds.set j .no).set i (.ob none T)) hd:=by
 have at_:∀ k,((ds.set j .no).set i (.ob none T))[k]? = if k=i then some (.ob none T) else if k=j then some .no else ds[k]?:=fun k=>by
  have hj:=(List.getElem?_eq_some_iff.mp hs).1
  by_cases e1:k=i
  · subst e1; rw [List.getElem?_set_self (by simpa using hi),if_pos rfl]
  · rw [List.getElem?_set_ne (fun z => e1 z.symm), if_neg e1]
    by_cases e2:k=j
    · subst e2; rw [List.getElem?_set_self hj,if_pos rfl]
    · rw [List.getElem?_set_ne (fun z=>e2 z.symm),if_neg e2]
 have other:∀ {k:Nat} {s:Sl},((ds.set j .no).set i (.ob none T))[k]? = some s->s≠.no->k≠i->k≠j/\ds[k]? = some s:=fun {k s} e n ki=>by
  rw [at_,if_neg ki] at e
  by_cases e2:k=j
  · rw [if_pos e2] at e; cases e; exact (n rfl).elim
  · rw [if_neg e2] at e; exact ⟨e2,e⟩
 have own':∀ {k:Nat} {l:List D},((ds.set j .no).set i (.ob none T))[k]? = some (.own l)->k≠i/\ds[k]? = some (.own l):=fun {k l} e=>by
  by_cases ki:k=i
  · rw [at_,if_pos ki] at e; cases e
  · exact ⟨ki,(other e (by intro z; cases z) ki).2⟩
 have sg:∀ {k:Nat},k≠i->(σ.set i (some v))[k]? = σ[k]?:=fun {k} ki=>List.getElem?_set_ne (fun z=>ki z.symm)
 refine ⟨o.same,fun k l a e1 e2=>?_,o.dom,by simpa using o.len,fun k s e=>?_,fun k m a hkm hk hm e1 e2=>?_,o.hold,?_⟩
 · obtain ⟨ki, e⟩ := own' e1
   rw [sg ki] at e2
   exact o.fresh k l a e e2
 · by_cases ki : k = i
   · subst ki
     rw [at_,if_pos rfl] at e
     cases e
     unfold SlOk
     split <;> trivial
   · rw [sg ki]
     rw [at_,if_neg ki] at e
     by_cases kj:k=j
     · rw [if_pos kj] at e; cases e; exact qQ
     · rw [if_neg kj] at e; exact o.sl k s e
 · obtain ⟨l1, hk⟩ := hk
   obtain ⟨l2,hm⟩:=hm
   obtain ⟨k1,k2⟩:=own' hk
   obtain ⟨m1,m2⟩:=own' hm
   rw [sg k1] at e1
   rw [sg m1] at e2
   exact o.apart k m a hkm ⟨l1,k2⟩ ⟨l2,m2⟩ e1 e2
 · obtain ⟨F, hF⟩ := o.obs
   obtain ⟨v',h1,h2,h3,h4,h5⟩:=hF j none T hs
   rw [hv] at h1
   cases h1
   obtain ⟨F',f1,f2⟩:∃ F':Nat->List Addr,F' i=F j/\∀ k,k≠i->F' k=F k:=⟨fun k=>if k=i then F j else F k,if_pos rfl,fun k h=>if_neg h⟩
   refine ⟨F',fun k r t e=>?_⟩
   by_cases ki:k=i
   · subst ki
     rw [at_,if_pos rfl] at e
     cases e
     refine ⟨v,List.getElem?_set_self (by rw [o.len]; exact hi),by rw [f1]; exact h2,(fun k a z=>by cases z),by rw [f1]; exact h4,fun b hb=>?_⟩
     rw [f1] at hb
     obtain ⟨g1,g2,g3⟩:=h5 b hb
     refine ⟨g1,fun m r' t' hm em=>?_,fun m hm em=>?_⟩
     · rw [f2 m hm]
       obtain ⟨mj,em⟩:=other em (by intro z; cases z) hm
       exact g2 m r' t' mj em
     · obtain ⟨l, hm⟩ := hm
       obtain ⟨m1,m2⟩:=own' hm
       rw [sg m1] at em
       exact g3 m ⟨l,m2⟩ em
   · obtain ⟨kj, ek⟩ := other e (by intro z; cases z) ki
     obtain ⟨u,w1,w2,w3,w4,w5⟩:=hF k r t ek
     refine ⟨u,by rw [sg ki]; exact w1,by rw [f2 k ki]; exact w2,w3,by rw [f2 k ki]; exact w4,fun b hb=>?_⟩
     rw [f2 k ki] at hb
     obtain ⟨g1,g2,g3⟩:=w5 b hb
     refine ⟨g1,fun m r' t' hm em=>?_,fun m hm em=>?_⟩
     · by_cases mi : m = i
       · rw [mi,f1]; exact g2 j none T (fun z=>kj z.symm) hs
       · rw [f2 m mi]
         obtain ⟨_,em⟩:=other em (by intro z; cases z) mi
         exact g2 m r' t' hm em
     · obtain ⟨l, hm⟩ := hm
       obtain ⟨m1,m2⟩:=own' hm
       rw [sg m1] at em
       exact g3 m ⟨l,m2⟩ em
theorem psv_mvT i j (hN:X.N.Nodup) (hi:X.N[i]? = some x:=by rfl) (hx:Loc X.env.scope x:=by first | exact Or.inl rfl | exact Or.inr rfl) (hf:X.fn x=true \/ X.env.scope.names.lookup x=some .local:=by first | exact .inl rfl | exact .inr rfl)
  (hj:X.N[j]? = some y:=by rfl) (hv:Vis X.env.scope y:=by first | exact Or.inl rfl | exact Or.inr (Or.inl rfl) | exact Or.inr (Or.inr rfl)) (hd:(y == ("__debug__" : Str))=false:=by decide)
  (hcd:(y == ("__classdict__" : Str))=false:=by decide) (hs:swapsWith (.Name y p2) (some (.Name x pos')) pos.line X.env=pure false:=by rfl):PSv X (.Assign [.Name x pos'] (.Name y p2) pos) (mvT i j):=by
 refine ⟨_,wP hN hi hx (jG hj hv hd hcd) hs hf,fun H₀ H O σ ds hd out E o e h=>?_⟩
 unfold mvT at e
 split at e
 · rename_i T hds
   split at e
   · rename_i hc
     cases e
     obtain ⟨F,hF⟩:=o.obs
     obtain ⟨v,h1,h2⟩:=hF j none T hds
     exact ⟨v,h1,h _ _ _ (o.moveT hc.1 hds h1 hc.2)⟩
   · cases e
 · cases e
noncomputable def oi:Option Int->D
 | none=>.non
 | some i=>.int i
@[simp] theorem oi_none:oi none = .non:=rfl
@[simp] theorem oi_some i:oi (some i) = .int i:=rfl
noncomputable def andK (r:Option D):D->Option D:=fun d=>match d with | .bl true=>r | .bl false=>some (.bl false) | _=>none
noncomputable def orK (r:Option D):D->Option D:=fun d=>match d with | .bl true=>some (.bl true) | .bl false=>r | _=>none
@[simp] theorem andK_bl r b:andK r (.bl b)=if b=true then r else some (.bl false):=by cases b <;> rfl
@[simp] theorem orK_bl r b:orK r (.bl b)=if b=true then some (.bl true) else r:=by cases b <;> rfl
@[simp] theorem ite_andD b c:(if b=true then some (D.bl c) else some (D.bl false))=some (.bl (b && c)):=by cases b <;> rfl
@[simp] theorem ite_orD b c:(if b=true then some (D.bl true) else some (D.bl c))=some (.bl (b || c)):=by cases b <;> rfl
@[simp] theorem ite_andB b c:(if b=true then some c else some false)=some (b && c):=by cases b <;> rfl
@[simp] theorem ite_orB b c:(if b=true then some true else some c)=some (b || c):=by cases b <;> rfl
@[simp] theorem ite_andD' p [Decidable p] c:(if p then some (D.bl c) else some (D.bl false))=some (.bl (decide p && c)):=by by_cases h:p <;> simp [h]
@[simp] theorem ite_andB' p [Decidable p] c:(if p then some c else some false)=some (decide p && c):=by by_cases h:p <;> simp [h]
@[simp] theorem ite_orB' p [Decidable p] c:(if p then some true else some c)=some (decide p || c):=by by_cases h:p <;> simp [h]
@[simp] theorem szl:sizeLine=16777216:=sizeLine_eq
section
variable (ds:List Sl)
@[simp] theorem getV_eq (i:Nat):zZ i ds=match ds[i]? with | some (.v d)=>some d | _=>none:=rfl
@[simp] theorem getW_eq (i:Nat):zF i ds=match ds[i]? with | some (.v d)=>some d | some (.own l)=>some (.lst l) | _=>none:=rfl
@[simp] theorem konst_eq (d:D):zA d ds=some d:=rfl
@[simp] theorem vE (op:D->D->Option D) (fa fb:FE):zE op fa fb ds=(fa ds).bind fun x=>(fb ds).bind fun y=>op x y:=rfl
@[simp] theorem un1_eq (op:D->Option D) (f:FE):un1 op f ds=(f ds).bind op:=rfl
@[simp] theorem yI (F:List D->Option D) (g:FA):callB F g ds=(g ds).bind F:=rfl
@[simp] theorem callV_eq (n:Nat) (F:List D->Option Ret) (g:FA):qF n F g ds=(g ds).bind fun l=>if l.length=n then (F l).bind retV else none:=rfl
@[simp] theorem callF_eq (n:Nat) (F:List D->Option Ret) (g:FA):callF n F g ds=(g ds).bind fun l=>if l.length=n then (F l).bind retF else none:=rfl
@[simp] theorem retV_val d:retV (.val d)=some d:=rfl
@[simp] theorem retV_fresh l:retV (.fresh l)=some (.lst l):=rfl
@[simp] theorem retF_val d:retF (.val d)=none:=rfl
@[simp] theorem retF_fresh l:retF (.fresh l)=some l:=rfl
@[simp] theorem qZ (f:FE) (g:FA):zB f g ds=(f ds).bind fun x=>(g ds).map fun r=>x::r:=rfl
@[simp] theorem yY:zP ds=some []:=rfl
@[simp] theorem sized_eq (f:FA):zU f ds=(f ds).bind fun l=>if l.length<=sizeLine then some l else none:=rfl
@[simp] theorem yT (f:FA):mkL f ds=(f ds).map D.lst:=rfl
@[simp] theorem mkT_eq (f:FA):mkT f ds=(f ds).map D.tup:=rfl
@[simp] theorem vA (f:FE):zT f ds=(f ds).bind isB:=rfl
@[simp] theorem xH (f:FE):testT f ds=(f ds).bind truD:=rfl
@[simp] theorem isB_bl b:isB (.bl b)=some b:=rfl
@[simp] theorem andT_eq (c d:FT):andT c d ds=(c ds).bind fun b=>if b=true then d ds else some false:=rfl
@[simp] theorem orT_eq (c d:FT):orT c d ds=(c ds).bind fun b=>if b=true then some true else d ds:=rfl
@[simp] theorem notT_eq (c:FT):notT c ds=(c ds).map not:=rfl
@[simp] theorem andV_eq (f g:FE):andV f g ds=(f ds).bind (andK (g ds)):=rfl
@[simp] theorem orV_eq (f g:FE):orV f g ds=(f ds).bind (orK (g ds)):=rfl
@[simp] theorem notV_eq (f:FE):notV f ds=(f ds).bind fun d=>match d with | .bl b=>some (.bl (!b)) | _=>none:=rfl
@[simp] theorem ifV_eq (c:FT) (f g:FE):ifV c f g ds=(c ds).bind fun b=>if b=true then f ds else g ds:=rfl
@[simp] theorem seqG_eq (f g:FS):qH f g ds=(f ds).bind fun o=>match o with | .nx ds'=>g ds' | o=>some o:=rfl
@[simp] theorem yM (c:FT) (f g:FS):ifG c f g ds=(c ds).bind fun b=>if b=true then f ds else g ds:=rfl
@[simp] theorem setG_eq (i:Nat) (f:FE):yK i f ds=(f ds).map fun d=>.nx (ds.set i (.v d)):=rfl
@[simp] theorem setOG_eq (i:Nat) (f:FA):setOG i f ds=(f ds).map fun l=>.nx (ds.set i (.own l)):=rfl
@[simp] theorem retG_eq (f:FE):retG f ds=(f ds).bind flatR:=rfl
@[simp] theorem vH (f:FA):retOG f ds=(f ds).bind flatF:=rfl
@[simp] theorem retXG_eq (i:Nat):retXG i ds=match ds[i]? with | some (.own l)=>flatF l | _=>none:=rfl
@[simp] theorem nextG_eq:jS ds=some (.nx ds):=rfl
@[simp] theorem appG_eq (i:Nat) (fe:FE):appG i fe ds=match ds[i]? with
 | some (.own l)=>(fe ds).bind fun d=>if l.length < sizeLine then some (.nx (ds.set i (.own (l++[d])))) else none
 | _=>none:=rfl
@[simp] theorem extG_eq (i:Nat) (fe:FA):extG i fe ds=match ds[i]? with
 | some (.own l)=>(fe ds).bind fun d=>if l.length+d.length<=sizeLine then some (.nx (ds.set i (.own (l++d)))) else none
 | _=>none:=rfl
@[simp] theorem putG_eq (i:Nat) (fk fe:FE):putG i fk fe ds=match ds[i]? with
 | some (.own l) => (fe ds).bind fun d => (fk ds).bind fun k => match k with
   | .int n=>(ixN l.length n).map fun j=>.nx (ds.set i (.own (l.set j d)))
   | _=>none
 | _=>none:=rfl
@[simp] theorem clrG_eq (i:Nat):clrG i ds=match ds[i]? with
 | some (.own l)=>some (.nx (ds.set i (.own [])))
 | _=>none:=rfl
@[simp] theorem asgG_eq (ga:D->List Sl->Option (List Sl)) (f:FE):asgG ga f ds=(f ds).bind fun d=>(ga d ds).map .nx:=rfl
@[simp] theorem relS_eq (i:Nat):relS i ds=match ds[i]? with | some (.own l)=>ds.set i (.v (.lst l)) | _=>ds:=rfl
@[simp] theorem viaA_eq (f:FE) (k:D->Option (List D)):viaA f k ds=(f ds).bind k:=rfl
@[simp] theorem asLT_lst l:asLT (.lst l)=some l:=rfl
@[simp] theorem asLT_tup l:asLT (.tup l)=some l:=rfl
@[simp] theorem catA_eq (fa fb:FE):catA fa fb ds=(fa ds).bind fun x=>(fb ds).bind fun y=>match x,y with
 | .lst a,.lst b=>if a.length+b.length<=sizeLine then some (a++b) else none
 | _,_=>none:=rfl
@[simp] theorem sliA_eq (f:FE) (lo hi:List Sl->Option (Option Int)):sliA f lo hi ds=(f ds).bind fun d=>(lo ds).bind fun a=>(hi ds).bind fun b=>match d with
 | .lst l=>some (cutD l a b)
 | _=>none:=rfl
@[simp] theorem lisA_eq (f:FE):lisA f ds=(f ds).bind asLT:=rfl
@[simp] theorem noP_eq:noP ds=some none:=rfl
@[simp] theorem soP_eq (f:FE):soP f ds=(f ds).bind fun d=>match d with | .int i=>some (some i) | _=>none:=rfl
@[simp] theorem yC (fi:FA) (ga:D->List Sl->Option (List Sl)) (body:FS):forG fi ga body ds=(fi ds).bind fun items=>qN ga body items ds:=rfl
@[simp] theorem nameG_eq (i:Nat) (d:D):zL i d ds=some (ds.set i (.v d)):=rfl
@[simp] theorem tupG_eq (n:Nat) (h:List D->List Sl->Option (List Sl)) (l:List D):tupG n h (.tup l) ds=if l.length=n then h l ds else none:=rfl
@[simp] theorem tgCons_eq (g:D->List Sl->Option (List Sl)) (h:List D->List Sl->Option (List Sl)) (d:D) (r:List D):zO g h (d::r) ds=(g d ds).bind fun ds'=>h r ds':=rfl
@[simp] theorem tgNil_eq:tgNil [] ds=some ds:=rfl
@[simp] theorem isiG_eq (T:String) (f:FE):isiG T f ds=(f ds).bind (isiD T):=rfl
@[simp] theorem chain_eq (op op':D->D->Option D) (fa fb fc:FE):chain op op' fa fb fc ds=(fa ds).bind fun x=>(fb ds).bind fun y=>(op x y).bind fun z=>match z with
 | .bl true=>(fc ds).bind fun w=>op' y w
 | .bl false=>some (.bl false)
 | _=>none:=rfl
end
@[simp] theorem addD_int i j:jD (.int i) (.int j)=some (.int (i+j)):=rfl
@[simp] theorem subD_int i j:subD (.int i) (.int j)=some (.int (i - j)):=rfl
@[simp] theorem negD_int i:negD (.int i)=some (.int (-i)):=rfl
@[simp] theorem ltD_int i j:ltD (.int i) (.int j)=some (.bl (decide (i < j))):=rfl
@[simp] theorem leD_int i j:leD (.int i) (.int j)=some (.bl (decide (i<=j))):=rfl
@[simp] theorem gtD_int i j:gtD (.int i) (.int j)=some (.bl (decide (j < i))):=rfl
@[simp] theorem geD_int i j:geD (.int i) (.int j)=some (.bl (decide (j<=i))):=rfl
@[simp] theorem yS i (h:0 < j):yB (.int i) (.int j)=some (.int (i % j)):=if_pos h
theorem divOk_small (h:0 < j) (h2:j < 1000000000):divOk j:=⟨h,by
 have h3:j.natAbs < 2 ^ 30:=by
  lia
 have h4:j.natAbs≠0:=by lia
 have:=(Nat.log2_lt h4).mpr h3
 lia⟩
@[simp] theorem fdivD_small i (h:0 < j) (h2:j < 1000000000):jK (.int i) (.int j)=some (.int (i / j)):=if_pos (divOk_small h h2)
theorem jC (h:IntMulOk i j):jL (.int i) (.int j)=some (.int (i * j)):=if_pos h
theorem powD_ok (h:CPowB i j):powD (.int i) (.int j)=some (.int (i ^ j.toNat)):=if_pos h
theorem cpow_of {i j:Int} {n m:Nat} (h:i.natAbs < 2 ^ n) (h0:0<=j) (h1:j<=m) (h2:n * m<=134217728):CPowB i j:=by
 refine ⟨h0,?_⟩
 have hb:=intBits_le_iff.mpr h
 have h3:(Builtin.Int.intBits i:Int) * j<=(n:Int) * (m:Int):=Int.mul_le_mul (by lia) h1 h0 (by lia)
 have e2:(2:Int) ^ 27=134217728:=by decide
 lia
@[simp] theorem pow10 (h0:0<=j) (h1:j<=1000):powD (.int 10) (.int j)=some (.int (10 ^ j.toNat)):=powD_ok (cpow_of (n:=4) (m:=1000) (by decide) h0 h1 (by decide))
@[simp] theorem wX l:lenD [.lst l]=some (.int l.length):=rfl
@[simp] theorem lenD_tup l:lenD [.tup l]=some (.int l.length):=rfl
@[simp] theorem isD_non:isD .non .non=some (.bl true):=rfl
@[simp] theorem isD_int i:isD (.int i) .non=some (.bl false):=rfl
@[simp] theorem isD_bl i:isD (.bl i) .non=some (.bl false):=rfl
@[simp] theorem isD_tup i:isD (.tup i) .non=some (.bl false):=rfl
@[simp] theorem isD_lst i:isD (.lst i) .non=some (.bl false):=rfl
@[simp] theorem isD_oi o:isD (oi o) .non=some (.bl o.isNone):=by cases o <;> rfl
@[simp] theorem notD_non:notD .non .non=some (.bl false):=rfl
@[simp] theorem notD_int i:notD (.int i) .non=some (.bl true):=rfl
@[simp] theorem notD_bl i:notD (.bl i) .non=some (.bl true):=rfl
@[simp] theorem notD_tup i:notD (.tup i) .non=some (.bl true):=rfl
@[simp] theorem notD_lst i:notD (.lst i) .non=some (.bl true):=rfl
@[simp] theorem notD_oi o:notD (oi o) .non=some (.bl o.isSome):=by cases o <;> rfl
@[simp] theorem truD_bl b:truD (.bl b)=some b:=rfl
@[simp] theorem truD_non:truD .non=some false:=rfl
@[simp] theorem truD_lst l:truD (.lst l)=some (!l.isEmpty):=rfl
@[simp] theorem truD_tup l:truD (.tup l)=some (!l.isEmpty):=rfl
theorem ixN_pos {n:Nat} {i:Int} (h:0<=i) (h2:i < n):ixN n i=some i.toNat:=by
 unfold ixN
 rw [if_pos h,if_pos h2]
theorem xM l (h:0<=i) (h2:i < l.length):ixD (.lst l) (.int i)=l[i.toNat]?:=by
 show atI l i=_
 unfold atI
 rw [ixN_pos h h2]
 rfl
theorem wM l (h:0<=i) (h2:i < l.length):ixD (.tup l) (.int i)=l[i.toNat]?:=by
 show atI l i=_
 unfold atI
 rw [ixN_pos h h2]
 rfl
@[simp] theorem ixT0 a l:ixD (.tup (a::l)) (.int 0)=some a:=by
 rw [wM _ (by decide) (by rw [List.length_cons]; lia)]
 rfl
@[simp] theorem ixT1 a b l:ixD (.tup (a::b::l)) (.int 1)=some b:=by
 rw [wM _ (by decide) (by rw [List.length_cons,List.length_cons]; lia)]
 rfl
@[simp] theorem ixT2 a b c l:ixD (.tup (a::b::c::l)) (.int 2)=some c:=by
 rw [wM _ (by decide) (by rw [List.length_cons,List.length_cons,List.length_cons]; lia)]
 rfl
@[simp] theorem ixL0 a l:ixD (.lst (a::l)) (.int 0)=some a:=by
 rw [xM _ (by decide) (by rw [List.length_cons]; lia)]
 rfl
@[simp] theorem ixL1 a b l:ixD (.lst (a::b::l)) (.int 1)=some b:=by
 rw [xM _ (by decide) (by rw [List.length_cons,List.length_cons]; lia)]
 rfl
theorem ixL_last l a:ixD (.lst (l++[a])) (.int (-1))=some a:=by
 show atI (l++[a]) (-1)=_
 unfold atI ixN
 rw [if_neg (by decide),if_pos (by rw [List.length_append,List.length_singleton]; lia),List.length_append,List.length_singleton]
 have e:(-1+((l.length+1:Nat):Int)).toNat=l.length:=by lia
 rw [e]
 simp
@[simp] theorem flat_non:flat .non=true:=by simp [flat]
@[simp] theorem flat_bl b:flat (.bl b)=true:=by simp [flat]
@[simp] theorem flat_int i:flat (.int i)=true:=by simp [flat]
@[simp] theorem flat_tup l:flat (.tup l)=flats l:=by simp [flat]
@[simp] theorem flats_nil:flats []=true:=by simp [flats]
@[simp] theorem flats_cons d l:flats (d::l)=(flat d && flats l):=by simp [flats]
@[simp] theorem flat_oi o:flat (oi o)=true:=by cases o <;> simp
theorem xC (h:flat d=true):flatR d=some (.rt (.val d)):=if_pos h
@[simp] theorem flatR_non:flatR .non=some (.rt (.val .non)):=xC (by simp)
@[simp] theorem flatR_bl b:flatR (.bl b)=some (.rt (.val (.bl b))):=xC (by simp)
@[simp] theorem flatR_int i:flatR (.int i)=some (.rt (.val (.int i))):=xC (by simp)
@[simp] theorem flatR_tup l (h:flats l=true):flatR (.tup l)=some (.rt (.val (.tup l))):=xC (by simpa using h)
@[simp] theorem vB l (h:flats l=true):flatF l=some (.rt (.fresh l)):=if_pos h
@[simp] theorem shal_int n i:shal n (.int i)=true:=by simp [shal]
@[simp] theorem shal_non n:shal n .non=true:=by simp [shal]
@[simp] theorem shal_bl n b:shal n (.bl b)=true:=by simp [shal]
@[simp] theorem shal_oi n o:shal n (oi o)=true:=by cases o <;> simp
@[simp] theorem shal_tup n l:shal n (.tup l)=shals n l:=by simp [shal]
@[simp] theorem shal_lst n l:shal n (.lst l)=shals n l:=by simp [shal]
@[simp] theorem shals_nil n:shals n []=true:=by cases n <;> simp [shals]
@[simp] theorem shals_cons n d l:shals (n+1) (d::l)=(shal n d && shals (n+1) l):=by simp [shals]
theorem shals_all (h:∀ d∈l,shal n d=true):shals (n+1) l=true:=by
 induction l with
 | nil=>simp
 | cons d r ih =>
   rw [shals_cons,h d List.mem_cons_self,ih fun x hx=>h x (List.mem_cons_of_mem _ hx)]
   rfl
theorem kE (h:shal 40 x=true) (h2:shal 40 y=true):eqD x y=some (.bl (eqvD x y)):=if_pos ⟨h,h2⟩
theorem neD_ok (h:shal 40 x=true) (h2:shal 40 y=true):neD x y=some (.bl (!eqvD x y)):=if_pos ⟨h,h2⟩
@[simp] theorem eqvD_int i j:eqvD (.int i) (.int j)=decide (i=j):=by
 show (i == j)=_
 rw [Bool.eq_iff_iff]; simp
@[simp] theorem eqvD_bl i j:eqvD (.bl i) (.bl j)=decide (i=j):=by
 show (i == j)=_
 rw [Bool.eq_iff_iff]; simp
@[simp] theorem eqvD_non:eqvD .non .non=true:=rfl
@[simp] theorem eqvD_non_int j:eqvD .non (.int j)=false:=rfl
@[simp] theorem eqvD_int_non j:eqvD (.int j) .non=false:=rfl
@[simp] theorem eqvD_oi o p:eqvD (oi o) (oi p)=decide (o=p):=by cases o <;> cases p <;> simp
@[simp] theorem eqvD_tup a b:eqvD (.tup a) (.tup b)=eqvs a b:=by simp [eqvD,eqvs,toPy,PyData.eqv]
@[simp] theorem xU a b:eqvD (.lst a) (.lst b)=eqvs a b:=by simp [eqvD,eqvs,toPy,PyData.eqv]
@[simp] theorem eqvs_nil:eqvs [] []=true:=by simp [eqvs,toPys,PyData.eqvAll]
@[simp] theorem eqvs_cons x y a b:eqvs (x::a) (y::b)=(eqvD x y && eqvs a b):=by simp [eqvs,eqvD,toPys,PyData.eqvAll]
@[simp] theorem eqvs_nil_cons y b:eqvs [] (y::b)=false:=by simp [eqvs,toPys,PyData.eqvAll]
@[simp] theorem eqvs_cons_nil y b:eqvs (y::b) []=false:=by simp [eqvs,toPys,PyData.eqvAll]
@[simp] theorem eqD_int i j:eqD (.int i) (.int j)=some (.bl (decide (i=j))):=by rw [kE (by simp) (by simp)]; simp
@[simp] theorem neD_int i j:neD (.int i) (.int j)=some (.bl (!decide (i=j))):=by rw [neD_ok (by simp) (by simp)]; simp
theorem eqvs_nil_r l:eqvs l []=l.isEmpty:=by cases l <;> simp
theorem eqD_nil (h:shals 40 l=true):eqD (.lst l) (.lst [])=some (.bl l.isEmpty):=by rw [kE (by simpa using h) (by simp),xU,eqvs_nil_r]
theorem wN l (k:Nat):cutD l (some (k:Int)) none=l.drop k:=by
 unfold cutD HT.sIx
 simp only [show ¬ ((k:Int) < 0) by lia,if_false,Int.toNat_natCast]
 rw [List.take_of_length_le (by rw [List.length_drop]; lia)]
 by_cases h:k<=l.length
 · rw [Nat.min_eq_left h]
 · rw [Nat.min_eq_right (by lia),List.drop_length,List.drop_of_length_le (by lia)]
theorem kits:kitF "int" "int" = some true/\kitF "NoneType" "int" = some false/\kitF "bool" "int" = some true/\kitF "tuple" "int" = some false/\kitF "list" "int" = some false/\kitF "str" "int" = some false ∧
  kitF "bool" "bool" = some true/\kitF "int" "bool" = some false/\kitF "NoneType" "bool" = some false/\kitF "tuple" "tuple" = some true/\kitF "list" "tuple" = some false/\kitF "NoneType" "tuple" = some false ∧
  kitF "list" "list" = some true/\kitF "tuple" "list" = some false/\kitF "NoneType" "list" = some false:=by
 refine ⟨?_,?_,?_,?_,?_,?_,?_,?_,?_,?_,?_,?_,?_,?_,?_⟩ <;> decide +kernel
@[simp] theorem isi_int_int i:isiD "int" (.int i)=some (.bl true):=by simp [isiD,tyD,kits.1]
@[simp] theorem isi_bool_int i:isiD "bool" (.int i)=some (.bl false):=by simp [isiD,tyD,kits.2.2.2.2.2.2.2.1]
@[simp] theorem isi_tup_tup l:isiD "tuple" (.tup l)=some (.bl true):=by simp [isiD,tyD,kits.2.2.2.2.2.2.2.2.2.1]
@[simp] theorem isi_lst_lst l:isiD "list" (.lst l)=some (.bl true):=by simp [isiD,tyD,kits.2.2.2.2.2.2.2.2.2.2.2.2.1]
@[simp] theorem bind_ite {α β : Type} [Decidable c] (a b:Option α) (f : α->Option β):(if c then a else b).bind f=if c then a.bind f else b.bind f:=by split <;> rfl
@[simp] theorem map_ite {α β : Type} [Decidable c] (a b:Option α) (f : α->β):(if c then a else b).map f=if c then a.map f else b.map f:=by split <;> rfl
theorem jP (h:fi ds=some items) (hl:items.length<=sizeLine) (hc:compL ga tt fe (jA mp ds) items=some l):compG fi mp ga tt fe ds=some l:=by
 unfold compG
 rw [h]
 show (if items.length<=sizeLine then compL ga tt fe (jA mp ds) items else none)=_
 rw [if_pos hl]
 exact hc
theorem vW:∀ bs,blsD (bs.map D.bl)=some bs
 | []=>rfl
 | b::r=>by simp [blsD,vW r]
@[simp] theorem allD_bls (bs:List Bool):allD [.lst (bs.map D.bl)]=some (.bl (bs.all id)):=by simp [allD,vW]
@[simp] theorem anyD_bls (bs:List Bool):anyD [.lst (bs.map D.bl)]=some (.bl (bs.any id)):=by simp [anyD,vW]
@[simp] theorem ixL2 a b c l:ixD (.lst (a::b::c::l)) (.int 2)=some c:=by
 rw [xM _ (by decide) (by rw [List.length_cons,List.length_cons,List.length_cons]; lia)]
 rfl
@[simp] theorem ixL3 a b c d l:ixD (.lst (a::b::c::d::l)) (.int 3)=some d:=by
 rw [xM _ (by decide) (by rw [List.length_cons,List.length_cons,List.length_cons,List.length_cons]; lia)]
 rfl
@[simp] theorem rng3_eq (fa fb fc:FE) (ds:List Sl):rng3 fa fb fc ds=(fa ds).bind fun x=>(fb ds).bind fun y=>(fc ds).bind fun z=>match x,y,z with
 | .int i,.int j,.int c=>if okR3 i j c then some (range3D i c (steps3 i j c)) else none
 | _,_,_=>none:=rfl
@[simp] theorem rng2_eq (fa fb:FE) (ds:List Sl):rng2 fa fb ds=(fa ds).bind fun x=>(fb ds).bind fun y=>match x,y with
 | .int i,.int j=>if okR i/\okR j then some (rangeD i (j - i).toNat) else none
 | _,_=>none:=rfl
@[simp] theorem rng1_eq f ds:rng1 f ds=(f ds).bind fun d=>match d with | .int j=>if okR j then some (rangeD 0 j.toNat) else none | _=>none:=rfl
theorem yE (h : -1000000000<=j) (h2:j<=1000000000):okR j:=⟨Int.le_trans (by decide) h,Int.lt_of_le_of_lt h2 (by decide)⟩
theorem wH:∀ bs,intsD (bs.map D.int)=some bs
 | []=>rfl
 | b::r=>by simp [intsD,wH r]
@[simp] theorem absD_int i:absD [.int i]=some (.int (if i < 0 then -i else i)):=rfl
@[simp] theorem int1D_int i:int1D [.int i]=some (.int i):=rfl
@[simp] theorem int1D_bl b:int1D [.bl b]=some (.int (if b then 1 else 0)):=rfl
@[simp] theorem augA_eq (i:Nat) (f:FE) (ds:List Sl):augA i f ds=(zZ i ds).bind fun x=>(f ds).bind fun y=>match x,y with
 | .int a,.int b=>some (.nx (ds.set i (.v (.int (a+b)))))
 | _,_=>none:=rfl
@[simp] theorem parG_eq (i j:Nat) (f:FA) (ds:List Sl):parG i j f ds=(f ds).bind fun l=>match l with
 | [a,b]=>some (.nx ((ds.set i (.v a)).set j (.v b)))
 | _=>none:=rfl
@[simp] theorem revA_eq (f:FE) (ds:List Sl):revA f ds=(f ds).bind fun d=>match d with
 | .lst l=>some l.reverse
 | _=>none:=rfl
theorem zM (h:f ds=some (.nx ds')):qH f g ds=g ds':=by simp [h]
theorem xF (h:f ds=some (.rt r)):qH f g ds=some (.rt r):=by simp [h]
theorem jN (h:g (args n ds)=some (.rt r)):runG g n ds=some r:=by unfold runG; rw [h]
end FL
section
open PySem PyProof.Rows L2 FL
noncomputable def GP.length.g:FS:=(qH (ifG (orT (zT (zE isD (zE ixD (zF 0) (zA (.int 0))) (zA .non))) (zT (zE isD (zE ixD (zF 0) (zA (.int 1))) (zA .non)))) (retG (zA .non)) jS)
 (retG (zE subD (zE ixD (zF 0) (zA (.int 1))) (zE ixD (zF 0) (zA (.int 0))))))
noncomputable def GP.length.f:List D->Option Ret:=runG GP.length.g 1
noncomputable def GP.is_rule.g:FS:=(qH (yK 1 (zE subD (zE ixD (zF 0) (zA (.int 1))) (zE ixD (zF 0) (zA (.int 0)))))
 (qH (yK 2 (zE ixD (zF 0) (zA (.int 2))))
 (qH (yK 3 (zE ixD (zF 0) (zA (.int 3))))
 (qH (ifG (orT (zT (zE ltD (zF 1) (zA (.int 1)))) (orT (zT (zE ltD (zF 3) (zA (.int 1)))) (zT (zE gtD (zF 3) (zA (.int 100)))))) (retG (zA (.bl false))) jS)
 (retG (ifV (zT (zE eqD (zF 3) (zA (.int 1)))) (zE eqD (zF 2) (zA (.int 0))) (zE gtD (zF 2) (zF 1))))))))
noncomputable def GP.is_rule.f:List D->Option Ret:=runG GP.is_rule.g 4
noncomputable def GP.stretches.g:FS:=(qH (ifG (notT (testT (qF 1 GP.is_rule.f (zB (zF 0) zP)))) (fun _=>none) jS)
 (qH (yK 1 (zE ixD (zF 0) (zA (.int 2))))
 (retOG (compG (rng1 (zE ixD (zF 0) (zA (.int 3)))) [none,some 0,some 1] (zL 0) (fun _=>some true) (mkT (zU (zB (zE jD (zE ixD (zF 1) (zA (.int 0))) (zE jL (zF 0) (zF 2))) (zB (zE jD (zE ixD (zF 1) (zA (.int 1))) (zE jL (zF 0) (zF 2))) zP))))))))
noncomputable def GP.stretches.f:List D->Option Ret:=runG GP.stretches.g 2
noncomputable def GP.alike.g:FS:=(retG (andV (zE eqD (zE subD (zE ixD (zF 0) (zA (.int 1))) (zE ixD (zF 0) (zA (.int 0)))) (zE subD (zE ixD (zF 1) (zA (.int 1))) (zE ixD (zF 1) (zA (.int 0))))) (zE eqD (zE ixD (zF 0) (zA (.int 2))) (zE ixD (zF 1) (zA (.int 2))))))
noncomputable def GP.alike.f:List D->Option Ret:=runG GP.alike.g 2
noncomputable def GP.bits_of.g:FS:=bitsG
noncomputable def GP.bits_of.f:List D->Option Ret:=runG GP.bits_of.g 4
noncomputable def GP.least_cover.b1:FS:=(qH (yK 6 (zE orD (zF 3) (zF 5)))
 (ifG (relTO 2 (orT (dnotG (zF 6) (zF 2)) (zT (zE gtD (callB lenD (zB (dgetG (zZ 2) (zZ 6)) zP)) (zE jD (callB lenD (zB (dgetG (zZ 2) (zZ 3)) zP)) (zA (.int 1))))))) (dputO (varP 2) (zZ 6) (lO (relFO 2 (catA (dgetG (zZ 2) (zZ 3)) (mkL (zU (zB (zZ 4) zP))))))) jS))
noncomputable def GP.least_cover.b2:FS:=(forG (viaA (zZ 0) asLT) (tupG 2 (zO (zL 4) (zO (zL 5) tgNil))) GP.least_cover.b1)
noncomputable def GP.least_cover.g:FS:=(qH (setB 2 (dO1N (zA (.int 0)) (lO (zU zP))))
 (qH (forG (rng1 (zZ 1)) (zL 3) GP.least_cover.b2)
 (retDP 2 (zZ 1))))
noncomputable def GP.least_cover.f:List D->Option Ret:=runG GP.least_cover.g 7
noncomputable def GP.bits_made.g:FS:=(retG (callB sumD (zB (mkL (compG (viaA (qF 1 GP.stretches.f (zB (zF 0) zP)) asLT) [none,none,some 1,some 0] (tupG 2 (zO (zL 0) (zO (zL 1) tgNil))) (fun _=>some true) (tgetG (zZ 2) (mkT (zU (zB (zZ 0) (zB (zZ 1) (zB (zE ixD (zF 3) (zA (.int 4))) zP)))))))) zP)))
noncomputable def GP.bits_made.f:List D->Option Ret:=runG GP.bits_made.g 2
noncomputable def GP.longest_rule.b1:FS:=(augA 3 (zA (.int 1)))
noncomputable def GP.longest_rule.g:FS:=(qH (yK 3 (zA (.int 1)))
 (qH (whileN (tinG (mkT (zU (zB (zE jD (zE ixD (zF 0) (zA (.int 0))) (zE jL (zF 3) (zF 1))) (zB (zE jD (zE ixD (zF 0) (zA (.int 1))) (zE jL (zF 3) (zF 1))) (zB (zE ixD (zF 0) (zA (.int 2))) zP))))) (zF 2)) GP.longest_rule.b1 100000)
 (retG (mkT (zU (zB (zE ixD (zF 0) (zA (.int 0))) (zB (zE ixD (zF 0) (zA (.int 1))) (zB (zZ 1) (zB (zZ 3) (zB (zE ixD (zF 0) (zA (.int 2))) zP))))))))))
noncomputable def GP.longest_rule.f:List D->Option Ret:=runG GP.longest_rule.g 4
noncomputable def GP.covers.b1:FS:=(ifG (testT (qF 2 GP.alike.f (zB (zF 4) (zB (zF 5) zP)))) (appG 2 (qF 3 GP.longest_rule.f (zB (zF 4) (zB (zE subD (zE ixD (zF 5) (zA (.int 0))) (zE ixD (zF 4) (zA (.int 0)))) (zB (zF 1) zP))))) jS)
noncomputable def GP.covers.b2:FS:=(forG (viaA (mkL (sliA (zF 0) (soP (zE jD (zF 3) (zA (.int 1)))) noP)) asLT) (zL 5) GP.covers.b1)
noncomputable def GP.covers.g:FS:=(qH (setOG 2 (compG (viaA (zZ 0) asLT) [none,none,none] (tupG 3 (zO (zL 0) (zO (zL 1) (zO (zL 2) tgNil)))) (fun _=>some true) (mkT (zU (zB (zZ 0) (zB (zZ 1) (zB (zA (.int 0)) (zB (zA (.int 1)) (zB (zZ 2) zP)))))))))
 (qH (forG (enuA (zZ 0)) (tupG 2 (zO (zL 3) (zO (zL 4) tgNil))) GP.covers.b2)
 (fun ds=>(retOG (compG (viaA (zZ 2) asLT) [none,some 1] (zL 0) (fun _=>some true) (mkT (zU (zB (zZ 0) (zB (qF 2 GP.bits_made.f (zB (zF 0) (zB (zF 1) zP))) zP)))))) (relS 2 ds))))
noncomputable def GP.covers.f:List D->Option Ret:=runG GP.covers.g 6
noncomputable def GP.fewest.g:FS:=(qH (ifG (testT (callB anyD (zB (mkL (compG (viaA (zZ 0) asLT) [none,none,none] (tupG 3 (zO (zL 0) (zO (zL 1) (zO (zL 2) tgNil)))) (fun _=>some true) (zE isD (qF 1 GP.length.f (zB (mkT (zU (zB (zZ 0) (zB (zZ 1) zP)))) zP)) (zA .non)))) zP))) (fun _=>none) jS)
 (qH (ifG (zT (zE gtD (callB lenD (zB (zF 0) zP)) (zA (.int 8)))) (fun _=>none) jS)
 (qH (yK 1 (qF 1 GP.bits_of.f (zB (zF 0) zP)))
 (retOG (callF 2 GP.least_cover.f (zB (qF 2 GP.covers.f (zB (zF 0) (zB (zF 1) zP))) (zB (sumTG (zZ 1)) zP)))))))
noncomputable def GP.fewest.f:List D->Option Ret:=runG GP.fewest.g 2
noncomputable def GL.cell_at.g:FS:=(qH (ifG (zT (zE ltD (zF 1) (callB lenD (zB (zF 0) zP)))) (retG (zE ixD (zF 0) (zF 1))) jS)
 (retG (zA (.int 0))))
noncomputable def GL.cell_at.f:List D->Option Ret:=runG GL.cell_at.g 2
noncomputable def GL.end.g:FS:=(retG (orV (zE isD (zF 0) (zA .non)) (andV (isiG "int" (zF 0)) (notV (isiG "bool" (zF 0))))))
noncomputable def GL.end.f:List D->Option Ret:=runG GL.end.g 1
noncomputable def GL.whole.g:FS:=(retG (andV (isiG "int" (zF 0)) (notV (isiG "bool" (zF 0)))))
noncomputable def GL.whole.f:List D->Option Ret:=runG GL.whole.g 1
end
namespace FL
open PySem PySem.Spec PyProof.Rows L2
abbrev Spn:=Option Int×Option Int
noncomputable def spD (s:Spn):D:=.tup [oi s.1,oi s.2]
noncomputable def oS:Option Spn->D
 | none=>.non
 | some s=>spD s
noncomputable def hasS (s:Spn) (p:Int):Bool:=(match s.1 with | none=>true | some a=>decide (a<=p)) && (match s.2 with | none=>true | some b=>decide (p < b))
def okS (s:Spn):Prop:=∀ a b,s.1=some a->s.2=some b->a < b
@[simp] theorem spD_0 s:ixD (spD s) (.int 0)=some (oi s.1):=ixT0 _ _
@[simp] theorem spD_1 s:ixD (spD s) (.int 1)=some (oi s.2):=ixT1 _ _ _
@[simp] theorem spD_isD s:isD (spD s) .non=some (.bl false):=rfl
@[simp] theorem spD_notD s:notD (spD s) .non=some (.bl true):=rfl
@[simp] theorem spD_asLT s:asLT (spD s)=some [oi s.1,oi s.2]:=rfl
@[simp] theorem oS_isD o:isD (oS o) .non=some (.bl o.isNone):=by cases o <;> rfl
@[simp] theorem oS_notD o:notD (oS o) .non=some (.bl o.isSome):=by cases o <;> rfl
theorem length_eq s:GP.length.f [spD s]=some (.val (oi (match s.1,s.2 with | some a,some b=>some (b - a) | _,_=>none))):=by
 obtain ⟨a,b⟩:=s
 unfold GP.length.f runG GP.length.g
 cases a <;> cases b <;> simp [args]
open Builtin.Int (intBits)
noncomputable def cel (ns:List Int) (k:Nat):Int:=ns.getD k 0
theorem cell_eq0 (ns:List Int) (h:0<=k):GL.cell_at.f [.lst (ns.map D.int),.int k]=some (.val (.int (ns.getD k.toNat 0))):=by
 unfold GL.cell_at.f runG GL.cell_at.g
 by_cases hk:k < (ns.length:Int)
 · have hl : k < ((ns.map D.int).length : Int) := by simpa using hk
   have e:(ns.map D.int)[k.toNat]? = some (.int (ns.getD k.toNat 0)):=by
    have:k.toNat < ns.length:=by lia
    simp [this,List.getD]
   simp [args,hk,xM _ h hl,e]
 · have:ns.getD k.toNat 0=0:=by
    have:ns.length<=k.toNat:=by lia
    simp [List.getD,List.getElem?_eq_none this]
   rw [this]
   simp [args,hk]
theorem vF ns (k:Nat):GL.cell_at.f [.lst (ns.map D.int),.int (k:Int)]=some (.val (.int (cel ns k))):=cell_eq0 ns (k:=(k:Int)) (by lia)
theorem qP (h:a.natAbs < 2 ^ m):intBits a<=m:=intBits_le_iff.mpr h
theorem pow1060:powD (.int (10 ^ 60)) (.int 8)=some (.int ((10 ^ 60) ^ 8)):=powD_ok (cpow_of (n:=200) (m:=8) (by decide) (by decide) (by decide) (by decide))
theorem end_eq o:GL.end.f [oi o]=some (.val (.bl true)):=by
 unfold GL.end.f runG GL.end.g
 cases o <;> simp [args]
end FL
namespace FL
open PySem PySem.Spec PyProof.Rows L2
abbrev Rw:=Option Int×Option Int×Option Int
noncomputable def rwD (r:Rw):D:=.tup [oi r.1,oi r.2.1,oi r.2.2]
noncomputable def has3 (r:Rw) (p:Int):Bool:=hasS (r.1,r.2.1) p
def ok3 (r:Rw):Prop:=okS (r.1,r.2.1)
@[simp] theorem rwD_0 r:ixD (rwD r) (.int 0)=some (oi r.1):=ixT0 _ _
@[simp] theorem rwD_1 r:ixD (rwD r) (.int 1)=some (oi r.2.1):=ixT1 _ _ _
@[simp] theorem rwD_2 r:ixD (rwD r) (.int 2)=some (oi r.2.2):=ixT2 _ _ _ _
@[simp] theorem rwD_flat r:flat (rwD r)=true:=by simp [rwD]
@[simp] theorem rwD_shal r n:shal (n+1) (rwD r)=true:=by simp [rwD]
@[simp] theorem rwD_eqv r t:eqvD (rwD r) (rwD t)=decide (r=t):=by
 obtain ⟨a,b,c⟩:=r
 obtain ⟨x,y,z⟩:=t
 rw [Bool.eq_iff_iff]
 simp [rwD]
theorem flats_rw (l:List Rw):flats (l.map rwD)=true:=by
 induction l with
 | nil=>simp
 | cons a r ih=>simp [ih]
theorem xG n (l:List Rw):shals (n+2) (l.map rwD)=true:=shals_all fun d hd=>by obtain ⟨r,_,rfl⟩:=List.mem_map.mp hd; simp
theorem eqvs_rw:∀ a b:List Rw,eqvs (a.map rwD) (b.map rwD)=decide (a=b)
 | [],[]=>by simp
 | [],y::b=>by simp
 | x::a,[]=>by simp
 | x :: a, y :: b => by
   simp only [List.map_cons,eqvs_cons,rwD_eqv,eqvs_rw a b]
   rw [Bool.eq_iff_iff]
   simp
theorem eqD_rw (a b:List Rw):eqD (.lst (a.map rwD)) (.lst (b.map rwD))=some (.bl (decide (a=b))):=by rw [kE (by simpa using xG 38 a) (by simpa using xG 38 b),xU,eqvs_rw]
theorem neD_rw (a b:List Rw):neD (.lst (a.map rwD)) (.lst (b.map rwD))=some (.bl (!decide (a=b))):=by rw [neD_ok (by simpa using xG 38 a) (by simpa using xG 38 b),xU,eqvs_rw]
theorem eqD_rw_nil (a:List Rw):eqD (.lst (a.map rwD)) (.lst [])=some (.bl a.isEmpty):=by
 have:=eqD_rw a []
 simp [List.map_nil] at this
 rw [this]
 cases a <;> simp
theorem neD_rw_nil (a:List Rw):neD (.lst (a.map rwD)) (.lst [])=some (.bl (!a.isEmpty)):=by
 have:=neD_rw a []
 simp [List.map_nil] at this
 rw [this]
 cases a <;> simp
def ahead (a b:Rw):Prop:=∃ x y,a.2.1=some x/\b.1=some y/\x<=y
structure Ord (rows:List Rw):Prop where
 ok:∀ r∈rows,ok3 r
 pw:rows.Pairwise ahead
noncomputable def adjOk:List Rw->Prop
 | b::a::t=>¬ (a.2.1=b.1/\a.2.2=b.2.2)/\adjOk (a::t)
 | _=>True
structure KI (acc:List Rw):Prop where
 ok:∀ r∈acc,ok3 r
 pw:acc.Pairwise fun b a=>ahead a b
 val:∀ r∈acc,r.2.2≠none
 adj:adjOk acc
theorem KI.nil:KI []:=⟨(fun _ h=>nomatch h),List.Pairwise.nil,(fun _ h=>nomatch h),trivial⟩
structure MapF (ps:List Rw):Prop where
 ord:Ord ps
 val:∀ r∈ps,r.2.2≠none
 adj:∀ (i:Nat) (a b:Rw),ps[i]? = some a->ps[i+1]? = some b->¬ (a.2.1=b.1/\a.2.2=b.2.2)
theorem adjOk_get:∀ {l:List Rw},adjOk l->∀ i b a,l[i]? = some b->l[i+1]? = some a->¬ (a.2.1=b.1/\a.2.2=b.2.2)
 | [],_,i,b,a,e,_=>by simp at e
 | [x],_,i,b,a,e,e2=>by simp at e2
 | x :: y :: t, h, 0, b, a, e, e2 => by
   simp at e e2
   subst e e2
   exact h.1
 | x::y::t,h,i+1,b,a,e,e2=>adjOk_get h.2 i b a (by simpa using e) (by simpa using e2)
theorem KI.map (k:KI acc):MapF acc.reverse:=by
 refine ⟨⟨fun r hr=>k.ok r (List.mem_reverse.mp hr),List.pairwise_reverse.mpr k.pw⟩,fun r hr=>k.val r (List.mem_reverse.mp hr),fun i a b h1 h2=>?_⟩
 have l2:=(List.getElem?_eq_some_iff.mp h2).1
 rw [List.length_reverse] at l2
 rw [List.getElem?_reverse (by lia)] at h1 h2
 refine adjOk_get k.adj (acc.length - 1 - (i+1)) b a h2 ?_
 rw [<- h1]
 congr 1
 lia
open Builtin.Int (intBits)
structure Drawn (rows:List Rw) (s:Int):Prop where
 ord:Ord rows
 fin:∀ r∈rows,∃ lo bh,r.1=some lo/\r.2.1=some bh/\bh<=s
theorem whole_int i:GL.whole.f [.int i]=some (.val (.bl true)):=by
 unfold GL.whole.f runG GL.whole.g
 simp [args]
end FL
namespace FL
open PySem PySem.Spec PyProof.Rows L2
theorem jI {α : Type} f h:∀ (xs:List α),(∀ x∈xs,∃ ds1,ga (f x) s0=some ds1/\fe ds1=some (h x))->compL ga (fun _=>some true) fe s0 (xs.map f)=some (xs.map h)
 | [],_=>rfl
 | x :: xs, H => by
   obtain ⟨ds1,e1,e2⟩:=H x List.mem_cons_self
   have ih:=jI (ga:=ga) (fe:=fe) (s0:=s0) f h xs fun y hy=>H y (List.mem_cons_of_mem _ hy)
   simp only [List.map_cons,compL,e1,e2,ih,Option.bind_some,if_true,Option.map_some]
theorem MapF.nil:MapF []:=⟨⟨(fun _ h=>nomatch h),List.Pairwise.nil⟩,(fun _ h=>nomatch h),(fun i a b h _=>by simp at h)⟩
theorem compL_filt {α : Type} f p h:∀ (xs:List α),(∀ x∈xs,∃ ds1,ga (f x) s0=some ds1/\tt ds1=some (p x)/\(p x=true->fe ds1=some (h x)))->compL ga tt fe s0 (xs.map f)=some ((xs.filter p).map h)
 | [],_=>rfl
 | x :: xs, H => by
   obtain ⟨ds1,e1,e2,e3⟩:=H x List.mem_cons_self
   have ih:=compL_filt (ga:=ga) (tt:=tt) (fe:=fe) (s0:=s0) f p h xs fun y hy=>H y (List.mem_cons_of_mem _ hy)
   cases hp:p x with
   | true=>simp [compL,e1,e2,e3 hp,ih,hp]
   | false=>simp [compL,e1,e2,ih,hp]
theorem flats_spn (l:List Spn):flats (l.map spD)=true:=by
 induction l with
 | nil=>simp
 | cons a r ih=>simp [ih,spD]
end FL
namespace FL
open PySem PyProof.Rows L2
open Builtin.Int (intBits)
abbrev Rl:=Int×Int×Int×Int×Int
noncomputable def R5 (a b s t v:Int):D:=.tup [.int a,.int b,.int s,.int t,.int v]
noncomputable def rlD (r:Rl):D:=R5 r.1 r.2.1 r.2.2.1 r.2.2.2.1 r.2.2.2.2
noncomputable def isR (a b s t:Int):Bool:=decide (a < b) && (decide (1<=t) && (decide (t<=100) && (if t=1 then decide (s=0) else decide (b - a < s))))
noncomputable def okL (r:Rl):Bool:=isR r.1 r.2.1 r.2.2.1 r.2.2.2.1
theorem ix5_3 (x y z w u:D):ixD (.tup [x,y,z,w,u]) (.int 3)=some w:=by rw [wM _ (by decide) (by simp)]; rfl
theorem ix5_4 (x y z w u:D):ixD (.tup [x,y,z,w,u]) (.int 4)=some u:=by rw [wM _ (by decide) (by simp)]; rfl
theorem rl0 (r:Rl):ixD (rlD r) (.int 0)=some (.int r.1):=by unfold rlD R5; simp
theorem rl1 (r:Rl):ixD (rlD r) (.int 1)=some (.int r.2.1):=by unfold rlD R5; simp
theorem rl2 (r:Rl):ixD (rlD r) (.int 2)=some (.int r.2.2.1):=by unfold rlD R5; simp
theorem rl3 (r:Rl):ixD (rlD r) (.int 3)=some (.int r.2.2.2.1):=by unfold rlD R5; exact ix5_3 _ _ _ _ _
theorem rl4 (r:Rl):ixD (rlD r) (.int 4)=some (.int r.2.2.2.2):=by unfold rlD R5; exact ix5_4 _ _ _ _ _
theorem flat_rl (r:Rl):flat (rlD r)=true:=by simp [rlD,R5]
theorem vQ (l:List Rl):flats (l.map rlD)=true:=by
 induction l with
 | nil=>simp
 | cons a r ih=>simp [ih,flat_rl]
theorem shals_rl (n:Nat) (l:List Rl):shals (n+2) (l.map rlD)=true:=shals_all fun d hd=>by obtain ⟨r,_,rfl⟩:=List.mem_map.mp hd; simp [rlD,R5]
theorem is_rule_eq (a b s t v:Int):GP.is_rule.f [R5 a b s t v]=some (.val (.bl (isR a b s t))):=by
 unfold GP.is_rule.f runG GP.is_rule.g isR R5
 by_cases h1:a < b
 · have e1 : ¬ b - a < 1 := by omega
   by_cases h2:1<=t
   · have e2 : ¬ t < 1 := by omega
     by_cases h3:t<=100
     · have e3 : ¬ 100 < t := by omega
       by_cases h4:t=1
       · subst h4; simp [args,ix5_3,e1,h1]
       · simp [args,ix5_3,e1,h1,h2,e2,h3,e3,h4]
     · have e3 : 100 < t := by omega
       simp [args,ix5_3,e1,h1,h2,e2,h3,e3]
   · have e2 : t < 1 := by omega
     simp [args,ix5_3,e1,h1,h2,e2]
 · have e1 : b - a < 1 := by omega
   simp [args,ix5_3,e1,h1]
theorem okL_rule (r:Rl):GP.is_rule.f [rlD r]=some (.val (.bl (okL r))):=is_rule_eq _ _ _ _ _
theorem yZ {r:Rl} (h:okL r=true):1<=r.2.2.2.1/\r.2.2.2.1<=100/\r.1 < r.2.1/\(r.2.2.2.1=1->r.2.2.1=0)/\(r.2.2.2.1≠1->r.2.1 - r.1 < r.2.2.1):=by
 unfold okL isR at h
 simp only [Bool.and_eq_true,decide_eq_true_eq] at h
 obtain ⟨h1,h2,h3,h4⟩:=h
 refine ⟨h2,h3,h1,fun z=>?_,fun z=>?_⟩
 · rw [if_pos z] at h4; simpa using h4
 · rw [if_neg z] at h4; simpa using h4
noncomputable def strP (a b s:Int) (n:Nat):List Spn:=(List.range n).map fun (k:Nat)=>(some (a+(k:Int) * s),some (b+(k:Int) * s))
noncomputable def strQ (r:Rl):List Spn:=strP r.1 r.2.1 r.2.2.1 r.2.2.2.1.toNat
theorem str_eq {r:Rl} (h:okL r=true):GP.stretches.f [rlD r]=some (.fresh ((strQ r).map spD)):=by
 have pr:=okL_rule r
 rw [h] at pr
 obtain ⟨t1,t2,_⟩:=yZ h
 have ok:okR r.2.2.2.1:=yE (by omega) (by omega)
 have i0:=rl0 r
 have i1:=rl1 r
 have i2:=rl2 r
 have i3:=rl3 r
 have fl:=flats_spn (strQ r)
 unfold GP.stretches.f
 refine jN ?_
 unfold GP.stretches.g
 unfold strQ at fl ⊢
 obtain ⟨a,b,s,t,v⟩:=r
 simp only at *
 generalize rlD (a,b,s,t,v)=R at *
 rw [zM (ds':=[.v R,.no]) (by simp [args,pr])]
 rw [zM (ds':=[.v R,.v (.int s)]) (by simp [i2])]
 have cp:(compG (rng1 (zE ixD (zF 0) (zA (.int 3)))) [none,some 0,some 1] (zL 0) (fun _=>some true) (mkT (zU (zB (zE jD (zE ixD (zF 1) (zA (.int 0))) (zE jL (zF 0) (zF 2))) (zB (zE jD (zE ixD (zF 1) (zA (.int 1))) (zE jL (zF 0) (zF 2))) zP))))) [.v R,.v (.int s)]=some ((strP a b s t.toNat).map spD):=by
  refine jP (items:=rangeD 0 t.toNat) (by simp [i3,ok]) (by simp [rangeD]; omega) ?_
  have e:rangeD 0 t.toNat=(List.range t.toNat).map (fun (k:Nat)=>D.int (k:Int)):=by simp [rangeD]
  rw [e,jI (fun (k:Nat)=>D.int (k:Int)) (fun (k:Nat)=>spD (some (a+(k:Int) * s),some (b+(k:Int) * s))),strP,List.map_map]
  · rfl
  · intro k hk
    have hk':k < t.toNat:=List.mem_range.mp hk
    have ml:jL (.int (k:Int)) (.int s)=some (.int ((k:Int) * s)):=jC (.of_left (qP (Nat.lt_of_lt_of_le (show (k:Int).natAbs < 128 by omega) (by decide))))
    exact ⟨_,rfl,by simp [jA,i0,i1,ml,spD]⟩
 simp only [vH,cp,Option.bind_some]
 simp [fl]
end FL
namespace FL
open PySem PySem.Spec PyProof.Rows L2
theorem later (o:Ord (r::t)) (hz:z∈t) (hp:has3 z p=true):∃ x y,r.2.1=some x/\z.1=some y/\x<=y/\y<=p:=by
 obtain ⟨x,y,h1,h2,h3⟩:=(List.pairwise_cons.mp o.pw).1 z hz
 refine ⟨x,y,h1,h2,h3,?_⟩
 unfold has3 hasS at hp
 simp [h2,Bool.and_eq_true,decide_eq_true_eq] at hp
 exact hp.1
end FL
namespace FL
open PySem PyProof.Rows L2
open Builtin.Int (intBits)
abbrev Pc:=Int×Int×Int
noncomputable def pcR (p:Pc):Rw:=(some p.1,some p.2.1,some p.2.2)
noncomputable def pcD (p:Pc):D:=rwD (pcR p)
noncomputable def pcK (p:Pc):List Key:=[.inl (some p.1),.inl (some p.2.1),.inl (some p.2.2)]
theorem key3_pc (p:Pc):key3 (pcD p)=some (pcK p):=rfl
theorem pcK_inj:pcK p=pcK q↔p=q:=by
 obtain ⟨a,b,v⟩:=p
 obtain ⟨a',b',v'⟩:=q
 simp [pcK]
theorem nodup_pcK {P:List Pc} (h:P.Nodup):(P.map pcK).Nodup:=List.Pairwise.map _ (fun a b h e=>h (pcK_inj.mp e)) h
noncomputable def bD (P:List Pc):D:=.dtt (P.map pcK) (bitsD (P.map pcK))
@[simp] theorem pcD_0 p:ixD (pcD p) (.int 0)=some (.int p.1):=by simp [pcD,pcR]
@[simp] theorem pcD_1 p:ixD (pcD p) (.int 1)=some (.int p.2.1):=by simp [pcD,pcR]
@[simp] theorem pcD_2 p:ixD (pcD p) (.int 2)=some (.int p.2.2):=by simp [pcD,pcR]
theorem mapM_pc:∀ P:List Pc,(P.map pcD).mapM key3=some (P.map pcK)
 | []=>rfl
 | p::r=>by rw [List.map_cons,List.mapM_cons,key3_pc,mapM_pc r]; rfl
theorem bits_of_eq {P:List Pc} (nd:P.Nodup) (h:P.length<=60):GP.bits_of.f [.lst (P.map pcD)]=some (.val (bD P)):=by
 unfold GP.bits_of.f
 refine jN ?_
 show bitsG [.v (.lst (P.map pcD)),.no,.no,.no]=_
 simp only [bitsG,mapM_pc,Option.bind_some]
 rw [if_pos ⟨nodup_pcK nd,by simpa using h⟩]
 rfl
theorem bitsD_pc (P:List Pc):bitsD (P.map pcK)=P.zipIdx.map fun q=>.int (2 ^ q.2):=by
 rw [bitsD,List.zipIdx_map,List.map_map]
 rfl
theorem getT_from (p:Pc):∀ (P:List Pc) (n:Nat),p∈P->getT (pcK p) (P.map pcK) ((P.zipIdx n).map fun q=>.int (2 ^ q.2))=some (.int (2 ^ (n+P.idxOf p)))
 | q :: P, n, h => by
   simp only [List.map_cons,List.zipIdx_cons,getT,pcK_inj]
   by_cases e:q=p
   · rw [if_pos e,e,List.idxOf_cons_self]; rfl
   · rw [if_neg e,getT_from p P (n+1) ((List.mem_cons.mp h).resolve_left fun z=>e z.symm),show (q::P).idxOf p=P.idxOf p+1 by rw [List.idxOf_cons,beq_eq_false_iff_ne.mpr e]; rfl,Nat.add_right_comm,Nat.add_assoc]
theorem getT_pc {P:List Pc} (h:p∈P):getT (pcK p) (P.map pcK) (bitsD (P.map pcK))=some (.int (2 ^ P.idxOf p)):=by
 rw [bitsD_pc]
 have:=getT_from p P 0 h
 rwa [Nat.zero_add] at this
theorem any_pc (P:List Pc) (p:Pc):((P.map pcK).any fun k=>decide (k=pcK p))=decide (p∈P):=by
 rw [Bool.eq_iff_iff]
 simp [pcK_inj]
noncomputable def alk (p q:Pc):Bool:=decide (p.2.1 - p.1=q.2.1 - q.1) && decide (p.2.2=q.2.2)
theorem alike_pc (p q:Pc):GP.alike.f [pcD p,pcD q]=some (.val (.bl (alk p q))):=by
 unfold GP.alike.f runG GP.alike.g
 have h0:=pcD_0 p
 have h1:=pcD_1 p
 have h2:=pcD_2 p
 have k0:=pcD_0 q
 have k1:=pcD_1 q
 have k2:=pcD_2 q
 generalize pcD p=A at *
 generalize pcD q=B at *
 simp [args,alk,h0,h1,h2,k0,k1,k2]
theorem ndl {α : Type} [DecidableEq α]:∀ (l E:List α),l.Nodup->(∀ x∈l,x∈E)->l.length<=E.length
 | [],_,_,_=>Nat.zero_le _
 | a :: l, E, nd, h => by
   rw [List.nodup_cons] at nd
   have ih:=ndl l (E.erase a) nd.2 fun x hx=>(List.mem_erase_of_ne (fun (e:x=a)=>nd.1 (e ▸ hx))).mpr (h x (.tail _ hx))
   have:=List.length_erase_of_mem (h a (.head _))
   have:=List.length_pos_of_mem (h a (.head _))
   rw [List.length_cons]
   omega
noncomputable def shf (p:Pc) (s:Int) (k:Nat):Pc:=(p.1+k * s,p.2.1+k * s,p.2.2)
theorem long_test {P:List Pc} {p:Pc} {s:Int} {t:Nat} (ht:t<=1000):tinG (mkT (zU (zB (zE jD (zE ixD (zF 0) (zA (.int 0))) (zE jL (zF 3) (zF 1))) (zB (zE jD (zE ixD (zF 0) (zA (.int 1))) (zE jL (zF 3) (zF 1))) (zB (zE ixD (zF 0) (zA (.int 2))) zP))))) (zF 2) [.v (pcD p),.v (.int s),.v (bD P),.v (.int (t:Int))]=some (decide (shf p s t∈P)):=by
 have ml:jL (.int (t:Int)) (.int s)=some (.int ((t:Int) * s)):=jC (.of_left (qP (Nat.lt_of_lt_of_le (show (t:Int).natAbs < 1024 by omega) (by decide))))
 have e:(mkT (zU (zB (zE jD (zE ixD (zF 0) (zA (.int 0))) (zE jL (zF 3) (zF 1))) (zB (zE jD (zE ixD (zF 0) (zA (.int 1))) (zE jL (zF 3) (zF 1))) (zB (zE ixD (zF 0) (zA (.int 2))) zP))))) [.v (pcD p),.v (.int s),.v (bD P),.v (.int (t:Int))]=some (pcD (shf p s t)):=by
  simp [ml]
  rfl
 simp only [tinG,e,Option.bind_some,key3_pc]
 simp only [getW_eq,List.getElem?_cons_succ,List.getElem?_cons_zero,Option.bind_some,bD,dttD,Option.map_some]
 rw [any_pc]
theorem long_loop {P:List Pc} {p:Pc} {s:Int} (hs:0 < s):∀ (m t n:Nat),1<=t->t+m=1000->m+1<=n->(∃ u,t<=u/\u<=1000/\shf p s u ∉ P)->∃ u,t<=u/\u<=1000/\shf p s u ∉ P/\(∀ k,t<=k->k < u->shf p s k∈P) ∧
  whileN (tinG (mkT (zU (zB (zE jD (zE ixD (zF 0) (zA (.int 0))) (zE jL (zF 3) (zF 1))) (zB (zE jD (zE ixD (zF 0) (zA (.int 1))) (zE jL (zF 3) (zF 1))) (zB (zE ixD (zF 0) (zA (.int 2))) zP))))) (zF 2)) GP.longest_rule.b1 n [.v (pcD p),.v (.int s),.v (bD P),.v (.int (t:Int))]=some (.nx [.v (pcD p),.v (.int s),.v (bD P),.v (.int (u:Int))]):=by
 intro m
 induction m with
 | zero =>
   intro t n h1 h2 h3 ⟨u,g1,g2,g3⟩
   have:t=u:=by omega
   subst this
   obtain ⟨n,rfl⟩:∃ k,n=k+1:=⟨n - 1,by omega⟩
   refine ⟨t,Nat.le_refl _,g2,g3,fun k a b=>by omega,?_⟩
   rw [whileN,long_test g2]
   simp [g3]
 | succ m ih =>
   intro t n h1 h2 h3 hu
   obtain ⟨n,rfl⟩:∃ k,n=k+1:=⟨n - 1,by omega⟩
   rw [whileN,long_test (by omega)]
   by_cases e:shf p s t∈P
   · obtain ⟨u, g1, g2, g3⟩ := hu
     have:t≠u:=fun z=>g3 (z ▸ e)
     obtain ⟨w,k1,k2,k3,k4,k5⟩:=ih (t+1) n (by omega) (by omega) (by omega) ⟨u,by omega,g2,g3⟩
     refine ⟨w,by omega,k2,k3,fun k a b=>?_,?_⟩
     · by_cases z : k = t
       · rw [z]; exact e
       · exact k4 k (by omega) b
     · have b1:GP.longest_rule.b1 [.v (pcD p),.v (.int s),.v (bD P),.v (.int (t:Int))]=some (.nx [.v (pcD p),.v (.int s),.v (bD P),.v (.int ((t+1:Nat):Int))]):=by
        unfold GP.longest_rule.b1 augA
        simp
       simp only [e,decide_true,Option.bind_some,if_true,b1]
       exact k5
   · refine ⟨t, Nat.le_refl _, by omega, e, fun k a b => by omega, ?_⟩
     simp [e]
theorem long_eq {P:List Pc} {p:Pc} {s:Int} (hs:0 < s) (hl:P.length<=900):∃ u:Nat,1<=u/\u<=P.length+1/\shf p s u ∉ P/\(∀ k,1<=k->k < u->shf p s k∈P)/\GP.longest_rule.f [pcD p,.int s,bD P]=some (.val (rlD (p.1,p.2.1,s,(u:Int),p.2.2))):=by
 have inj:∀ j k:Nat,shf p s j=shf p s k->j=k:=fun j k e=>by
  have e1:p.1+(j:Int) * s=p.1+(k:Int) * s:=congrArg Prod.fst e
  have:(j:Int)=(k:Int):=Int.eq_of_mul_eq_mul_right (Int.ne_of_gt hs) (by omega)
  omega
 have bound:∀ u:Nat,(∀ k,1<=k->k < u->shf p s k∈P)->u<=P.length+1:=fun u h=>by
  have nd:((List.range (u - 1)).map fun k=>shf p s (k+1)).Nodup:=by
   refine List.Pairwise.map _ (fun a b (h:a≠b) e=>h (by have:=inj _ _ e; omega)) List.nodup_range
  have:=ndl _ P nd (fun q hq=>by
   obtain ⟨k,hk,rfl⟩:=List.mem_map.mp hq
   have:=List.mem_range.mp hk
   exact h (k+1) (by omega) (by omega))
  simp at this
  omega
 have ex:∃ u:Nat,1<=u/\u<=1000/\shf p s u ∉ P:=by
  refine Classical.byContradiction fun n=>?_
  have:=bound 1000 fun k h1 h2=>Classical.byContradiction fun z=>n ⟨k,h1,by omega,z⟩
  omega
 obtain ⟨u,k1,k2,k3,k4,k5⟩:=long_loop (P:=P) (p:=p) hs 999 1 100000 (by omega) rfl (by omega) ex
 refine ⟨u,k1,bound u k4,k3,k4,?_⟩
 unfold GP.longest_rule.f
 refine jN ?_
 unfold GP.longest_rule.g
 have h0:=pcD_0 p
 have h1:=pcD_1 p
 have h2:=pcD_2 p
 rw [zM (ds':=[.v (pcD p),.v (.int s),.v (bD P),.v (.int ((1:Nat):Int))]) (by simp [args])]
 rw [zM k5]
 generalize pcD p=A at *
 simp [h0,h1,h2,rlD,R5]
end FL
namespace FL
open PySem PyProof.Rows L2
noncomputable def fstP (r:Rl):Pc:=(r.1,r.2.1,r.2.2.2.2)
noncomputable def pcsR (r:Rl):List Pc:=(List.range r.2.2.2.1.toNat).map (shf (fstP r) r.2.2.1)
structure Rok (P:List Pc) (r:Rl):Prop where
 ok:okL r=true
 sub:∀ p∈pcsR r,p∈P
noncomputable def mkN (P:List Pc) (r:Rl):Nat:=((pcsR r).map fun p=>2 ^ P.idxOf p).sum
theorem vG:∀ l:List Nat,(l.map fun n=>((n:Nat):Int)).sum=((l.sum:Nat):Int)
 | []=>rfl
 | a::r=>by simp [vG r]
theorem bits_made_eq {P:List Pc} {r:Rl} (h:Rok P r):GP.bits_made.f [rlD r,bD P]=some (.val (.int (mkN P r:Nat))):=by
 have st:=str_eq h.ok
 obtain ⟨t1,t2,_⟩:=yZ h.ok
 have i4:=rl4 r
 have cp:compG (viaA (qF 1 GP.stretches.f (zB (zF 0) zP)) asLT) [none,none,some 1,some 0] (tupG 2 (zO (zL 0) (zO (zL 1) tgNil))) (fun _=>some true) (tgetG (zZ 2) (mkT (zU (zB (zZ 0) (zB (zZ 1) (zB (zE ixD (zF 3) (zA (.int 4))) zP)))))) [.v (rlD r),.v (bD P)]=some (((pcsR r).map fun p=>(2:Int) ^ P.idxOf p).map D.int):=by
  refine jP (items:=(strQ r).map spD) ?_ ?_ ?_
  · generalize rlD r = R at *
    simp [st]
  · simp [strQ,strP]; omega
  · rw [show (strQ r).map spD = (List.range r.2.2.2.1.toNat).map (fun k : Nat => spD (some (r.1 + (k : Int) * r.2.2.1), some (r.2.1 + (k : Int) * r.2.2.1))) by rw [strQ, strP, List.map_map]; rfl]
    rw [jI _ (fun k:Nat=>D.int (2 ^ P.idxOf (shf (fstP r) r.2.2.1 k)))]
    · rw [pcsR,List.map_map,List.map_map]; rfl
    · intro k hk
      have hm:=h.sub (shf (fstP r) r.2.2.1 k) (List.mem_map.mpr ⟨k,hk,rfl⟩)
      refine ⟨[.v (.int (r.1+(k:Int) * r.2.2.1)),.v (.int (r.2.1+(k:Int) * r.2.2.1)),.v (bD P),.v (rlD r)],?_,?_⟩
      · simp [spD,jA]
      · generalize rlD r = R at *
        have e:(mkT (zU (zB (zZ 0) (zB (zZ 1) (zB (zE ixD (zF 3) (zA (.int 4))) zP))))) [.v (.int (r.1+(k:Int) * r.2.2.1)),.v (.int (r.2.1+(k:Int) * r.2.2.1)),.v (bD P),.v R]=some (pcD (shf (fstP r) r.2.2.1 k)):=by
         simp [i4]; rfl
        have g2:zZ 2 [.v (.int (r.1+(k:Int) * r.2.2.1)),.v (.int (r.2.1+(k:Int) * r.2.2.1)),.v (bD P),.v R]=some (bD P):=rfl
        have gd:dttD (bD P)=some (P.map pcK,bitsD (P.map pcK)):=rfl
        simp only [tgetG,e,g2,Option.bind_some,key3_pc,gd,getT_pc hm]
 have sm:sumD [.lst (((pcsR r).map fun p=>(2:Int) ^ P.idxOf p).map D.int)]=some (.int (mkN P r:Nat)):=by
  simp only [sumD,wH,Option.map_some]
  congr 2
  rw [mkN,<- vG,List.map_map]
  congr 1
 unfold GP.bits_made.f
 refine jN ?_
 unfold GP.bits_made.g
 show retG _ [.v (rlD r),.v (bD P)]=_
 simp only [retG_eq,yI,qZ,yT,cp,yY,Option.map_some,Option.bind_some,sm]
 exact xC (by simp)
structure PcsOk (P:List Pc):Prop where
 map:MapF (P.map pcR)
 few:P.length<=8
theorem PcsOk.wide (h:PcsOk P) (hp:p∈P):p.1 < p.2.1:=h.map.ord.ok (pcR p) (List.mem_map_of_mem hp) p.1 p.2.1 rfl rfl
theorem PcsOk.pw (h:PcsOk P):P.Pairwise fun p q=>p.2.1<=q.1:=(List.pairwise_map.mp h.map.ord.pw).imp fun {a b} ⟨x,y,e1,e2,e3⟩=>by
 cases e1; cases e2; exact e3
theorem PcsOk.at (h:PcsOk P) {i j:Nat} (hij:i < j) (ei:P[i]? = some p) (ej:P[j]? = some q):p.2.1<=q.1:=by
 have:=List.pairwise_iff_getElem.mp h.pw i j (List.getElem?_eq_some_iff.mp ei).1 (List.getElem?_eq_some_iff.mp ej).1 hij
 rw [(List.getElem?_eq_some_iff.mp ei).2,(List.getElem?_eq_some_iff.mp ej).2] at this
 exact this
theorem PcsOk.mem_at {P:List Pc} (h:p∈P):∃ i:Nat,P[i]? = some p:=List.mem_iff_getElem?.mp h
theorem PcsOk.nodup (h:PcsOk P):P.Nodup:=List.pairwise_iff_getElem.mpr fun i j hi hj hij e=>by
 have h1:=List.getElem?_eq_getElem hi
 have h2:=List.getElem?_eq_getElem hj
 have:=h.at hij h1 h2
 have w:=h.wide (List.getElem_mem hi)
 rw [e] at this w
 omega
theorem PcsOk.apart (h:PcsOk P) {i j:Nat} (hij:i < j) (ei:P[i]? = some p) (ej:P[j]? = some q) (hv:p.2.2=q.2.2):p.2.1 < q.1:=by
 by_cases e:j=i+1
 · subst e
   have h1:=h.at hij ei ej
   have:=h.map.adj i (pcR p) (pcR q) (by rw [List.getElem?_map,ei]; rfl) (by rw [List.getElem?_map,ej]; rfl)
   by_cases z:p.2.1=q.1
   · exact (this ⟨by simp [pcR,z],by simp [pcR,hv]⟩).elim
   · omega
 · have hk : i + 1 < P.length := by have := (List.getElem?_eq_some_iff.mp ej).1; omega
   have ek:=List.getElem?_eq_getElem hk
   have h1:=h.at (by omega) ei ek
   have h2:=h.at (by omega) ek ej
   have h3:=h.wide (List.getElem_mem hk)
   omega
theorem PcsOk.order (h:PcsOk P) (hp:p∈P) (hq:q∈P) (hl:p.1 < q.1):∃ i j:Nat,i < j/\P[i]? = some p/\P[j]? = some q:=by
 obtain ⟨i,ei⟩:=PcsOk.mem_at hp
 obtain ⟨j,ej⟩:=PcsOk.mem_at hq
 rcases Nat.lt_trichotomy i j with z | z | z
 · exact ⟨i,j,z,ei,ej⟩
 · subst z; rw [ei] at ej; cases ej; omega
 · have := h.at z ej ei
   have:=h.wide hq
   omega
noncomputable def sgR (p:Pc):Rl:=(p.1,p.2.1,0,1,p.2.2)
open Classical in
noncomputable def lgU (P:List Pc) (p:Pc) (s:Int):Nat:=if h:0 < s/\P.length<=900 then (long_eq (p:=p) h.1 h.2).choose else 1
noncomputable def lgR (P:List Pc) (p:Pc) (s:Int):Rl:=(p.1,p.2.1,s,(lgU P p s:Int),p.2.2)
theorem kH {P:List Pc} {p:Pc} {s:Int} (hs:0 < s) (hl:P.length<=900):1<=lgU P p s/\lgU P p s<=P.length+1/\shf p s (lgU P p s) ∉ P/\(∀ k,1<=k->k < lgU P p s->shf p s k∈P)/\GP.longest_rule.f [pcD p,.int s,bD P]=some (.val (rlD (lgR P p s))):=by
 have:=(long_eq (p:=p) hs hl).choose_spec
 unfold lgR lgU
 rw [dif_pos ⟨hs,hl⟩]
 exact this
theorem shf0 (p:Pc) s:shf p s 0=p:=by simp [shf]
theorem sg_ok (h:PcsOk P) (hp:p∈P):Rok P (sgR p):=by
 have w:=h.wide hp
 refine ⟨by simp [okL,isR,sgR,w],fun q hq=>?_⟩
 obtain ⟨k,hk,rfl⟩:=List.mem_map.mp hq
 have:k=0:=by have:=List.mem_range.mp hk; simp [sgR] at this; omega
 subst this
 rw [shf0]; exact hp
theorem lg_ok (h:PcsOk P) {i j:Nat} (hij:i < j) (ei:P[i]? = some p) (ej:P[j]? = some q) (ha:alk p q=true):0 < q.1 - p.1/\Rok P (lgR P p (q.1 - p.1)):=by
 simp only [alk,Bool.and_eq_true,decide_eq_true_eq] at ha
 have hp:=List.mem_of_getElem? ei
 have hq:=List.mem_of_getElem? ej
 have w:=h.wide hp
 have ap:=h.apart hij ei ej ha.2
 have hs:0 < q.1 - p.1:=by omega
 obtain ⟨u1,u2,u3,u4,_⟩:=kH (P:=P) (p:=p) hs (by have:=h.few; omega)
 have q1:shf p (q.1 - p.1) 1=q:=by
  obtain ⟨a,b,v⟩:=p
  obtain ⟨a',b',v'⟩:=q
  simp [shf] at ha ⊢
  omega
 have u5:2<=lgU P p (q.1 - p.1):=by
  by_cases z:lgU P p (q.1 - p.1)=1
  · rw [z,q1] at u3; exact (u3 hq).elim
  · omega
 have hf:=h.few
 refine ⟨hs,?_,fun x hx=>?_⟩
 · unfold okL isR lgR
   simp only [Bool.and_eq_true]
   refine ⟨decide_eq_true w,decide_eq_true (by omega),decide_eq_true (by omega),?_⟩
   rw [if_neg (by omega)]
   exact decide_eq_true (by omega)
 · obtain ⟨k, hk, rfl⟩ := List.mem_map.mp hx
   have hk:=List.mem_range.mp hk
   simp [lgR] at hk
   by_cases z:k=0
   · subst z; rw [shf0]; exact hp
   · exact u4 k (by omega) hk
noncomputable def fromR (P:List Pc) (p:Pc) (Q:List Pc):List Rl:=(Q.filter (alk p)).map fun q=>lgR P p (q.1 - p.1)
theorem cov_inner {P:List Pc} {p:Pc} (hl:P.length<=900) (x3:Sl):∀ (Q:List Pc) (acc:List Rl) (x5:Sl),(∀ q∈Q,alk p q=true->0 < q.1 - p.1)->acc.length+Q.length<=10000 →
  ∃ y5,qN (zL 5) GP.covers.b1 (Q.map pcD) [.v (.lst (P.map pcD)),.v (bD P),.own (acc.map rlD),x3,.v (pcD p),x5]=some (.nx [.v (.lst (P.map pcD)),.v (bD P),.own ((acc++fromR P p Q).map rlD),x3,.v (pcD p),y5]):=by
 intro Q
 induction Q with
 | nil=>intro acc x5 _ _; exact ⟨x5,by simp [qN,fromR]⟩
 | cons q Q ih =>
   intro acc x5 hq hz
   simp only [List.length_cons] at hz
   have h0:=pcD_0 p
   have k0:=pcD_0 q
   have al:=alike_pc p q
   by_cases e:alk p q=true
   · have hs := hq q (.head _) e
     obtain ⟨_,_,_,_,lg⟩:=kH (P:=P) (p:=p) hs hl
     obtain ⟨y,hy⟩:=ih (acc++[lgR P p (q.1 - p.1)]) (.v (pcD q)) (fun z hz=>hq z (.tail _ hz)) (by simp; omega)
     refine ⟨y,?_⟩
     have t:GP.covers.b1 [.v (.lst (P.map pcD)),.v (bD P),.own (acc.map rlD),x3,.v (pcD p),.v (pcD q)]=some (.nx [.v (.lst (P.map pcD)),.v (bD P),.own ((acc++[lgR P p (q.1 - p.1)]).map rlD),x3,.v (pcD p),.v (pcD q)]):=by
      unfold GP.covers.b1
      have hz':acc.length < 16777216:=by omega
      generalize pcD p=A at *
      generalize pcD q=B at *
      generalize bD P=C at *
      generalize P.map pcD=D' at *
      simp [al,e,h0,k0,lg,hz']
     simp only [List.map_cons,qN,zL,Option.bind_some,List.set_cons_succ,List.set_cons_zero,t]
     rw [hy]
     simp [fromR,e]
   · obtain ⟨y, hy⟩ := ih acc (.v (pcD q)) (fun z hz => hq z (.tail _ hz)) (by omega)
     refine ⟨y,?_⟩
     have e':alk p q=false:=by simpa using e
     have t:GP.covers.b1 [.v (.lst (P.map pcD)),.v (bD P),.own (acc.map rlD),x3,.v (pcD p),.v (pcD q)]=some (.nx [.v (.lst (P.map pcD)),.v (bD P),.own (acc.map rlD),x3,.v (pcD p),.v (pcD q)]):=by
      unfold GP.covers.b1
      generalize pcD p=A at *
      generalize pcD q=B at *
      generalize bD P=C at *
      simp [al,e']
     simp only [List.map_cons,qN,zL,Option.bind_some,List.set_cons_succ,List.set_cons_zero,t]
     rw [hy]
     simp [fromR,e']
noncomputable def outR (P:List Pc):List Pc->List Rl
 | []=>[]
 | p::R=>fromR P p R++outR P R
noncomputable def rulesF (P:List Pc):List Rl:=P.map sgR++outR P P
theorem at_app {A R:List Pc} (k:Nat):(A++R)[A.length+k]? = R[k]?:=by
 rw [List.getElem?_append_right (by omega)]
 congr 1
 omega
theorem at_mid {A R:List Pc} : (A++p::R)[A.length]? = some p:=by
 have:=at_app (A:=A) (R:=p::R) 0
 simpa using this
theorem alk_pos (h:PcsOk (A++p::R)) (hq:q∈R) (ha:alk p q=true):0 < q.1 - p.1/\Rok (A++p::R) (lgR (A++p::R) p (q.1 - p.1)):=by
 obtain ⟨k,ek⟩:=PcsOk.mem_at hq
 exact lg_ok h (i:=A.length) (j:=A.length+(k+1)) (by omega) at_mid (by rw [at_app]; exact ek) ha
theorem outR_len (P:List Pc):∀ R:List Pc,(outR P R).length<=R.length * R.length
 | []=>by simp [outR]
 | p :: R => by
   have h1:=outR_len P R
   have h2:(fromR P p R).length<=R.length:=by rw [fromR,List.length_map]; exact List.length_filter_le _ _
   rw [outR,List.length_append,List.length_cons,Nat.add_mul,Nat.mul_add]
   omega
theorem cov_outer {P:List Pc} (h:PcsOk P):∀ (R A:List Pc) (acc:List Rl) (x3 x4 x5:Sl),P=A++R->acc.length+R.length * R.length<=5000 →
  ∃ y3 y4 y5,qN (tupG 2 (zO (zL 3) (zO (zL 4) tgNil))) GP.covers.b2 ((R.zipIdx A.length).map fun q=>.tup [.int (q.2:Nat),pcD q.1]) [.v (.lst (P.map pcD)),.v (bD P),.own (acc.map rlD),x3,x4,x5]=some (.nx [.v (.lst (P.map pcD)),.v (bD P),.own ((acc++outR P R).map rlD),y3,y4,y5]):=by
 intro R
 induction R with
 | nil=>intro A acc x3 x4 x5 _ _; exact ⟨x3,x4,x5,by simp [qN,outR]⟩
 | cons p R ih =>
   intro A acc x3 x4 x5 e hz
   have hf:P.length<=900:=by have:=h.few; omega
   have hR:R.length<=8:=by have:=h.few; rw [e] at this; simp at this; omega
   simp only [List.length_cons,Nat.add_mul,Nat.mul_add] at hz
   obtain ⟨z5,hin⟩:=cov_inner (P:=P) (p:=p) hf (.v (.int (A.length:Nat))) R acc x5 (fun q hq ha=>(alk_pos (e ▸ h) hq ha).1) (by omega)
   have hl:(fromR P p R).length<=R.length:=by rw [fromR,List.length_map]; exact List.length_filter_le _ _
   obtain ⟨y3,y4,y5,hy⟩:=ih (A++[p]) (acc++fromR P p R) (.v (.int (A.length:Nat))) (.v (pcD p)) z5 (by rw [e]; simp) (by rw [List.length_append]; omega)
   refine ⟨y3,y4,y5,?_⟩
   have dr:(P.map pcD).drop (A.length+1)=R.map pcD:=by
    rw [e,List.map_append,List.map_cons,List.drop_append]
    simp
   have t:GP.covers.b2 [.v (.lst (P.map pcD)),.v (bD P),.own (acc.map rlD),.v (.int (A.length:Nat)),.v (pcD p),x5]=some (.nx [.v (.lst (P.map pcD)),.v (bD P),.own ((acc++fromR P p R).map rlD),.v (.int (A.length:Nat)),.v (pcD p),z5]):=by
    unfold GP.covers.b2
    have it:viaA (mkL (sliA (zF 0) (soP (zE jD (zF 3) (zA (.int 1)))) noP)) asLT [.v (.lst (P.map pcD)),.v (bD P),.own (acc.map rlD),.v (.int (A.length:Nat)),.v (pcD p),x5]=some (R.map pcD):=by
     have:=wN (P.map pcD) (A.length+1)
     rw [dr] at this
     generalize P.map pcD=L at *
     simp only [viaA_eq,yT,sliA_eq,soP_eq,noP_eq,vE,getW_eq,konst_eq,List.getElem?_cons_zero,List.getElem?_cons_succ,Option.bind_some,addD_int,Option.map_some,asLT_lst]
     exact congrArg some this
    rw [yC,it]
    exact hin
   rw [List.zipIdx_cons,List.map_cons,qN]
   have g:tupG 2 (zO (zL 3) (zO (zL 4) tgNil)) (.tup [.int (A.length:Nat),pcD p]) [.v (.lst (P.map pcD)),.v (bD P),.own (acc.map rlD),x3,x4,x5]=some [.v (.lst (P.map pcD)),.v (bD P),.own (acc.map rlD),.v (.int (A.length:Nat)),.v (pcD p),x5]:=by
    generalize P.map pcD=L
    simp
   simp only [g,Option.bind_some,t]
   rw [List.length_append] at hy
   simp only [List.length_singleton] at hy
   rw [hy]
   simp [outR]
noncomputable def rmD (P:List Pc) (r:Rl):D:=.tup [rlD r,.int (mkN P r:Nat)]
theorem flats_rm (P:List Pc) (l:List Rl):flats (l.map (rmD P))=true:=by
 induction l with
 | nil=>simp
 | cons r l ih=>simp [ih,rmD,flat_rl]
theorem enum_pc (P:List Pc):enumD (P.map pcD)=(P.zipIdx 0).map fun q=>.tup [.int (q.2:Nat),pcD q.1]:=by
 unfold enumD
 refine List.ext_getElem? fun i=>?_
 simp [List.getElem?_mapIdx,List.getElem?_map,List.getElem?_zipIdx]
 cases P[i]? <;> rfl
theorem rules_ok (h:PcsOk P):∀ r∈rulesF P,Rok P r:=by
 have aux:∀ (R A:List Pc),P=A++R->∀ r∈outR P R,Rok P r:=by
  intro R
  induction R with
  | nil=>intro A _ r hr; cases hr
  | cons p R ih =>
    intro A e r hr
    rw [outR,List.mem_append] at hr
    rcases hr with hr | hr
    · obtain ⟨q, hq, rfl⟩ := List.mem_map.mp hr
      obtain ⟨q1,q2⟩:=List.mem_filter.mp hq
      have:=(alk_pos (e ▸ h) q1 q2).2
      rw [<- e] at this
      exact this
    · exact ih (A++[p]) (by rw [e]; simp) r hr
 intro r hr
 rcases List.mem_append.mp hr with hr | hr
 · obtain ⟨p, hp, rfl⟩ := List.mem_map.mp hr
   exact sg_ok h hp
 · exact aux P [] rfl r hr
theorem rules_sg (hp:p∈P):sgR p∈rulesF P:=List.mem_append_left _ (List.mem_map_of_mem hp)
theorem rules_lg (h:PcsOk P) (hp:p∈P) (hq:q∈P) (hl:p.1 < q.1) (ha:alk p q=true):lgR P p (q.1 - p.1)∈rulesF P:=by
 obtain ⟨i,j,hij,ei,ej⟩:=h.order hp hq hl
 refine List.mem_append_right _ ?_
 have aux:∀ (R:List Pc) (i j:Nat),i < j->R[i]? = some p->R[j]? = some q->lgR P p (q.1 - p.1)∈outR P R:=by
  intro R
  induction R with
  | nil=>intro i j _ e; cases e
  | cons x R ih =>
    intro i j hij e1 e2
    obtain ⟨j,rfl⟩:∃ k,j=k+1:=⟨j - 1,by omega⟩
    rw [outR,List.mem_append]
    cases i with
    | zero =>
      cases e1
      exact .inl (List.mem_map.mpr ⟨q,List.mem_filter.mpr ⟨List.mem_of_getElem? e2,ha⟩,rfl⟩)
    | succ i=>exact .inr (ih i j (by omega) e1 e2)
 exact aux P i j hij ei ej
theorem rules_len (h:PcsOk P):(rulesF P).length<=72:=by
 have h1:=outR_len P P
 have h2:=h.few
 have h3:P.length * P.length<=8 * 8:=Nat.mul_le_mul h2 h2
 rw [rulesF,List.length_append,List.length_map]
 omega
theorem covers_eq (h:PcsOk P):GP.covers.f [.lst (P.map pcD),bD P]=some (.fresh ((rulesF P).map (rmD P))):=by
 have hf:=h.few
 have hl:=rules_len h
 have h3:P.length * P.length<=8 * 8:=Nat.mul_le_mul hf hf
 obtain ⟨y3,y4,y5,lp⟩:=cov_outer h P [] (P.map sgR) .no .no .no rfl (by rw [List.length_map]; omega)
 have c1:compG (viaA (zZ 0) asLT) [none,none,none] (tupG 3 (zO (zL 0) (zO (zL 1) (zO (zL 2) tgNil)))) (fun _=>some true) (mkT (zU (zB (zZ 0) (zB (zZ 1) (zB (zA (.int 0)) (zB (zA (.int 1)) (zB (zZ 2) zP))))))) [.v (.lst (P.map pcD)),.v (bD P),.no,.no,.no,.no]=some ((P.map sgR).map rlD):=by
  refine jP (items:=P.map pcD) rfl (by simp; omega) ?_
  rw [jI _ (fun p=>rlD (sgR p)),List.map_map]
  · rfl
  · intro p _
    exact ⟨[.v (.int p.1),.v (.int p.2.1),.v (.int p.2.2)],by simp [pcD,rwD,pcR,jA],by simp [rlD,R5,sgR]⟩
 have c2:∀ z3 z4 z5,compG (viaA (zZ 2) asLT) [none,some 1] (zL 0) (fun _=>some true) (mkT (zU (zB (zZ 0) (zB (qF 2 GP.bits_made.f (zB (zF 0) (zB (zF 1) zP))) zP)))) [.v (.lst (P.map pcD)),.v (bD P),.v (.lst ((rulesF P).map rlD)),z3,z4,z5]=some ((rulesF P).map (rmD P)):=by
  intro z3 z4 z5
  refine jP (items:=(rulesF P).map rlD) rfl (by simp; omega) ?_
  rw [jI _ (rmD P)]
  intro r hr
  have bm:=bits_made_eq (rules_ok h r hr)
  refine ⟨[.v (rlD r),.v (bD P)],rfl,?_⟩
  unfold rmD
  generalize rlD r=R at *
  generalize bD P=B at *
  simp [bm]
 have fl:=flats_rm P (rulesF P)
 unfold GP.covers.f
 refine jN ?_
 unfold GP.covers.g
 show qH _ _ [.v (.lst (P.map pcD)),.v (bD P),.no,.no,.no,.no]=_
 rw [zM (ds':=[.v (.lst (P.map pcD)),.v (bD P),.own ((P.map sgR).map rlD),.no,.no,.no]) (by rw [setOG_eq,c1]; rfl)]
 rw [zM (ds':=[.v (.lst (P.map pcD)),.v (bD P),.own ((rulesF P).map rlD),y3,y4,y5]) (by
  rw [yC]
  show (some (enumD (P.map pcD))).bind _=_
  rw [enum_pc,Option.bind_some]
  exact lp)]
 show retOG _ [.v (.lst (P.map pcD)),.v (bD P),.v (.lst ((rulesF P).map rlD)),y3,y4,y5]=_
 rw [vH,c2,Option.bind_some,vB _ fl]
abbrev Bt:=List (Nat×List Rl)
noncomputable def look (m:Nat):Bt->Option (List Rl)
 | []=>none
 | q::B=>if q.1=m then some q.2 else look m B
noncomputable def kN (m:Nat):Key:=.inl (some (m:Int))
noncomputable def vN (L:List Rl):OT:=.lst ((L.map rlD).map OT.val)
noncomputable def dB (B:Bt):OT:=.dct (B.map fun q=>kN q.1) (B.map fun q=>vN q.2)
theorem kN_inj:kN a=kN b↔a=b:=by simp [kN]; omega
theorem otDs_val:∀ l:List D,otDs (l.map OT.val)=l
 | []=>by simp [otDs]
 | a::l=>by simp [otDs,otD,otDs_val l]
theorem otD_vN (L:List Rl):otD (vN L) = .lst (L.map rlD):=by rw [vN,otD,otDs_val]
theorem otDs_vN:∀ B:Bt,otDs (B.map fun q=>vN q.2)=B.map fun q=>.lst (q.2.map rlD)
 | []=>by simp [otDs]
 | q::B=>by simp [otDs,otD_vN,otDs_vN B]
theorem otD_dB (B:Bt):otD (dB B) = .dct (B.map fun q=>kN q.1) (B.map fun q=>.lst (q.2.map rlD)):=by rw [dB,otD,otDs_vN]
theorem has_dB (m:Nat):∀ B:Bt,hasK (kN m) (B.map fun q=>kN q.1)=(look m B).isSome
 | []=>rfl
 | q :: B => by
   have ih:=has_dB m B
   unfold hasK at ih ⊢
   rw [List.map_cons,List.any_cons,ih,look]
   by_cases e:q.1=m
   · simp [e]
   · have : ¬ m = q.1 := fun z => e z.symm
     simp [kN_inj,e,this]
theorem get_dB (m:Nat):∀ B:Bt,getKD (kN m) (B.map fun q=>kN q.1) (B.map fun q=>.lst (q.2.map rlD))=(look m B).map fun L=>.lst (L.map rlD)
 | []=>rfl
 | q :: B => by
   rw [List.map_cons,List.map_cons,getKD,get_dB m B,look]
   by_cases e:q.1=m
   · simp [e]
   · have : ¬ m = q.1 := fun z => e z.symm
     simp [kN_inj,e,this]
theorem getT_dB (m:Nat):∀ B:Bt,getKT (kN m) (B.map fun q=>kN q.1) (B.map fun q=>vN q.2)=(look m B).map vN
 | []=>rfl
 | q :: B => by
   rw [List.map_cons,List.map_cons,getKT,getT_dB m B,look]
   by_cases e:q.1=m
   · simp [e]
   · have : ¬ m = q.1 := fun z => e z.symm
     simp [kN_inj,e,this]
noncomputable def putB (m:Nat) (L:List Rl) (B:Bt):Bt:=if (look m B).isSome=true then B.map (fun q=>if q.1=m then (q.1,L) else q) else B++[(m,L)]
theorem putTs_dB (m:Nat) (L:List Rl):∀ B:Bt,putTs (kN m) (vN L) (B.map fun q=>kN q.1) (B.map fun q=>vN q.2)=(B.map (fun q=>if q.1=m then (q.1,L) else q)).map fun q=>vN q.2
 | []=>rfl
 | q :: B => by
   rw [List.map_cons,List.map_cons,putTs,putTs_dB m L B,List.map_cons,List.map_cons]
   by_cases e:q.1=m <;> simp [kN_inj,e]
theorem put_dB (m:Nat) (L:List Rl) (B:Bt):putKT (kN m) (vN L) (B.map fun q=>kN q.1) (B.map fun q=>vN q.2)=dB (putB m L B):=by
 unfold putKT putB
 rw [has_dB]
 by_cases e:(look m B).isSome=true
 · rw [if_pos e, if_pos e, putTs_dB, dB, List.map_map]
   congr 1
   rw [List.map_map]
   refine List.map_congr_left fun q _=>?_
   by_cases z:q.1=m <;> simp [z]
 · rw [if_neg e, if_neg e, dB]
   simp
theorem look_repl (m x:Nat) (L:List Rl):∀ B:Bt,look x (B.map (fun q=>if q.1=m then (q.1,L) else q))=if x=m then (look x B).map fun _=>L else look x B
 | []=>by simp [look]
 | q :: B => by
   rw [List.map_cons,look,look,look_repl m x L B]
   by_cases e:q.1=m
   · by_cases z : x = m
     · simp [e,z]
     · have : ¬ m = x := fun y => z y.symm
       simp [e,z,this]
   · by_cases z : q.1 = x
     · subst z; simp [e]
     · simp [e,z]
theorem look_app (m x:Nat) (L:List Rl):∀ B:Bt,look x (B++[(m,L)])=match look x B with | some y=>some y | none=>if x=m then some L else none
 | [] => by
   by_cases z:x=m
   · subst z; simp [look]
   · have : ¬ m = x := fun y => z y.symm
     simp [look,z,this]
 | q :: B => by
   rw [List.cons_append,look,look,look_app m x L B]
   by_cases e:q.1=x <;> simp [e]
theorem look_put (m x:Nat) (L:List Rl) (B:Bt):look x (putB m L B)=if x=m then some L else look x B:=by
 unfold putB
 by_cases e:(look m B).isSome=true
 · rw [if_pos e, look_repl]
   by_cases z:x=m
   · subst z
     obtain ⟨y,hy⟩:=Option.isSome_iff_exists.mp e
     simp [hy]
   · simp [z]
 · have e' : look m B = none := by simpa using e
   rw [if_neg e,look_app]
   by_cases z:x=m
   · subst z; simp [e']
   · cases h:look x B <;> simp [z]
theorem look_none {B:Bt} (h:look m B=none):m ∉ B.map (·.1):=by
 induction B with
 | nil=>intro z; cases z
 | cons q B ih =>
   rw [look] at h
   by_cases z:q.1=m
   · rw [if_pos z] at h; cases h
   · rw [if_neg z] at h
     rw [List.map_cons,List.mem_cons]
     exact fun y=>y.elim (fun y=>z y.symm) (ih h)
theorem nd_put (nd:(B.map (·.1)).Nodup):((putB m L B).map (·.1)).Nodup:=by
 unfold putB
 by_cases e:(look m B).isSome=true
 · rw [if_pos e, List.map_map]
   have:B.map ((·.1) ∘ fun q=>if q.1=m then (q.1,L) else q)=B.map (·.1):=List.map_congr_left fun q _=>by by_cases z:q.1=m <;> simp [z]
   rw [this]; exact nd
 · rw [if_neg e, List.map_append, List.nodup_append]
   refine ⟨nd,by simp,fun a ha b hb=>?_⟩
   have hb:b=m:=by simpa using hb
   have:=look_none (B:=B) (m:=m) (by simpa using e)
   intro z
   exact this (by rw [<- hb,<- z]; exact ha)
noncomputable def betB (Lk:List Rl):Option (List Rl)->Bool
 | none=>true
 | some L=>decide (Lk.length+1 < L.length)
noncomputable def stepB (k:Nat) (B:Bt) (q:Rl×Nat):Bt:=if betB ((look k B).getD []) (look (k ||| q.2) B)=true then putB (k ||| q.2) ((look k B).getD []++[q.1]) B else B
noncomputable def encR (q:Rl×Nat):D:=.tup [rlD q.1,.int (q.2:Nat)]
theorem lc_turn {B:Bt} {k:Nat} {Lk:List Rl} (hk:look k B=some Lk) (hL:Lk.length<=100000) (nd:(B.map (·.1)).Nodup) (hB:B.length<=100000) (q:Rl×Nat) (x0 x1 x6:Sl) :
  GP.least_cover.b1 [x0,x1,.ob none (dB B),.v (.int (k:Nat)),.v (rlD q.1),.v (.int (q.2:Nat)),x6]=some (.nx [x0,x1,.ob none (dB (stepB k B q)),.v (.int (k:Nat)),.v (rlD q.1),.v (.int (q.2:Nat)),.v (.int ((k ||| q.2:Nat):Int))]):=by
 unfold GP.least_cover.b1
 rw [zM (ds':=[x0,x1,.ob none (dB B),.v (.int (k:Nat)),.v (rlD q.1),.v (.int (q.2:Nat)),.v (.int ((k ||| q.2:Nat):Int))]) (by simp)]
 have rel:relO 2 [x0,x1,.ob none (dB B),.v (.int (k:Nat)),.v (rlD q.1),.v (.int (q.2:Nat)),.v (.int ((k ||| q.2:Nat):Int))]=[x0,x1,.v (otD (dB B)),.v (.int (k:Nat)),.v (rlD q.1),.v (.int (q.2:Nat)),.v (.int ((k ||| q.2:Nat):Int))]:=rfl
 have kd:kdD (otD (dB B))=some (B.map fun q=>kN q.1,B.map fun q=>.lst (q.2.map rlD)):=by rw [otD_dB]; rfl
 have ky:∀ m:Nat,keyD (.int ((m:Nat):Int))=some (kN m):=fun m=>rfl
 have gk:dgetG (zZ 2) (zZ 3) [x0,x1,.v (otD (dB B)),.v (.int (k:Nat)),.v (rlD q.1),.v (.int (q.2:Nat)),.v (.int ((k ||| q.2:Nat):Int))]=some (.lst (Lk.map rlD)):=by
  show (some (otD (dB B))).bind (fun x=>(some (D.int (k:Nat))).bind fun y=>(keyD y).bind fun k=>(kdD x).bind fun p=>getKD k p.1 p.2)=_
  simp only [Option.bind_some,ky,kd,get_dB,hk,Option.map_some]
 have gm:dgetG (zZ 2) (zZ 6) [x0,x1,.v (otD (dB B)),.v (.int (k:Nat)),.v (rlD q.1),.v (.int (q.2:Nat)),.v (.int ((k ||| q.2:Nat):Int))]=(look (k ||| q.2) B).map fun L=>.lst (L.map rlD):=by
  show (some (otD (dB B))).bind (fun x=>(some (D.int ((k ||| q.2:Nat):Int))).bind fun y=>(keyD y).bind fun k=>(kdD x).bind fun p=>getKD k p.1 p.2)=_
  simp only [Option.bind_some,ky,kd,get_dB]
 have dn:dnotG (zF 6) (zF 2) [x0,x1,.v (otD (dB B)),.v (.int (k:Nat)),.v (rlD q.1),.v (.int (q.2:Nat)),.v (.int ((k ||| q.2:Nat):Int))]=some (!(look (k ||| q.2) B).isSome):=by
  show ((some (D.int ((k ||| q.2:Nat):Int))).bind fun y=>(keyD y).bind fun k=>(some (otD (dB B))).bind fun x=>(kdD x).map fun p=>hasK k p.1).map _=_
  simp only [Option.bind_some,ky,kd,has_dB,Option.map_some]
 have tst:relTO 2 (orT (dnotG (zF 6) (zF 2)) (zT (zE gtD (callB lenD (zB (dgetG (zZ 2) (zZ 6)) zP)) (zE jD (callB lenD (zB (dgetG (zZ 2) (zZ 3)) zP)) (zA (.int 1)))))) [x0,x1,.ob none (dB B),.v (.int (k:Nat)),.v (rlD q.1),.v (.int (q.2:Nat)),.v (.int ((k ||| q.2:Nat):Int))]=some (betB Lk (look (k ||| q.2) B)):=by
  rw [relTO,rel]
  simp only [orT_eq,dn,vA,vE,yI,qZ,gm,gk,yY,konst_eq,Option.map_some,Option.bind_some,wX,addD_int]
  cases h:look (k ||| q.2) B with
  | none=>rfl
  | some L =>
    simp only [Option.isSome_some,Bool.not_true,Bool.false_eq_true,if_false,Option.map_some,Option.bind_some,wX,gtD_int,isB_bl,List.length_map,betB]
    congr 2
    rw [eq_iff_iff]
    omega
 rw [yM,tst,Option.bind_some]
 unfold stepB
 rw [hk,Option.getD_some]
 generalize betB Lk (look (k ||| q.2) B)=c
 cases c with
 | false=>rfl
 | true =>
   rw [if_pos rfl]
   have ct:relFO 2 (catA (dgetG (zZ 2) (zZ 3)) (mkL (zU (zB (zZ 4) zP)))) [x0,x1,.ob none (dB B),.v (.int (k:Nat)),.v (rlD q.1),.v (.int (q.2:Nat)),.v (.int ((k ||| q.2:Nat):Int))]=some ((Lk++[q.1]).map rlD):=by
    rw [relFO,rel]
    have hz:Lk.length+1<=16777216:=by omega
    have fl:=vQ (Lk++[q.1])
    have one:mkL (zU (zB (zZ 4) zP)) [x0,x1,.v (otD (dB B)),.v (.int (k:Nat)),.v (rlD q.1),.v (.int (q.2:Nat)),.v (.int ((k ||| q.2:Nat):Int))]=some (.lst [rlD q.1]):=by simp
    rw [catA_eq,gk,one]
    simp only [Option.bind_some,List.length_map,List.length_singleton,szl,hz,if_true]
    rw [List.map_append] at fl ⊢
    simp only [List.map_cons,List.map_nil] at fl ⊢
    rw [if_pos fl]
   unfold dputO
   have hz:B.length < 16777216:=by omega
   have ndk:(B.map fun q=>kN q.1).Nodup:=by
    have:B.map (fun q=>kN q.1)=(B.map (·.1)).map kN:=by rw [List.map_map]; rfl
    rw [this]
    exact List.Pairwise.map _ (fun a b h e=>h (kN_inj.mp e)) nd
   simp only [lO,ct,Option.map_some,Option.bind_some]
   show ((some (2,[],dB B):Option (Nat×List Nat×OT))).bind _=_
   simp only [Option.bind_some,getV_eq,List.getElem?_cons_succ,List.getElem?_cons_zero,ky]
   rw [dB]
   simp only [List.length_map,szl,hz,ndk,and_self,if_true]
   rw [show (OT.lst (((Lk++[q.1]).map rlD).map OT.val))=vN (Lk++[q.1]) from rfl,put_dB]
   rfl
noncomputable def orM (M:List (Rl×Nat)):Nat:=M.foldr (fun q a=>q.2 ||| a) 0
theorem orM_snoc (q:Rl×Nat):∀ M,orM (M++[q])=orM M ||| q.2
 | []=>by simp [orM]
 | a :: M => by
   have:=orM_snoc q M
   simp only [orM,List.cons_append,List.foldr_cons] at this ⊢
   rw [this,Nat.or_assoc]
section
variable (RS:List (Rl×Nat)) (n:Nat)
structure Tab (k:Nat) (B:Bt):Prop where
 nd:(B.map (·.1)).Nodup
 bd:∀ x L,look x B=some L->x < 2 ^ n/\L.length<=k/\∃ M:List (Rl×Nat),M.map (·.1)=L/\(∀ q∈M,q∈RS)/\orM M=x
 dn:∀ x,x < k->∃ Lx,look x B=some Lx/\∀ q∈RS,∃ L',look (x ||| q.2) B=some L'/\L'.length<=Lx.length+1
 z:look 0 B=some []
structure Part (k:Nat) (Lk:List Rl) (S:List (Rl×Nat)) (B:Bt):Prop where
 nd:(B.map (·.1)).Nodup
 bd:∀ x L,look x B=some L->x < 2 ^ n/\L.length<=k+1/\∃ M:List (Rl×Nat),M.map (·.1)=L/\(∀ q∈M,q∈RS)/\orM M=x
 dn:∀ x,x < k->∃ Lx,look x B=some Lx/\∀ q∈RS,∃ L',look (x ||| q.2) B=some L'/\L'.length<=Lx.length+1
 z:look 0 B=some []
 here:look k B=some Lk
 hl:Lk.length<=k
 did:∀ q∈S,∃ L',look (k ||| q.2) B=some L'/\L'.length<=Lk.length+1
end
section
variable {RS:List (Rl×Nat)} {n:Nat}
theorem len_of_look {B:Bt} (nd:(B.map (·.1)).Nodup) (h:∀ x L,look x B=some L->x < 2 ^ n):B.length<=2 ^ n:=by
 have mem:∀ (B:Bt) x,x∈B.map (·.1)->∃ L,look x B=some L:=by
  intro B
  induction B with
  | nil=>intro x h; cases h
  | cons q B ih =>
    intro x h
    rw [look]
    by_cases e:q.1=x
    · exact ⟨q.2,if_pos e⟩
    · rw [if_neg e]
      exact ih x ((List.mem_cons.mp h).resolve_left fun z=>e z.symm)
 have:=ndl (B.map (·.1)) (List.range (2 ^ n)) nd fun x hx=>by
  obtain ⟨L,hL⟩:=mem B x hx
  exact List.mem_range.mpr (h x L hL)
 simpa using this
theorem Part.step (p:Part RS n k Lk S B) (hk:k < 2 ^ n) (hq:q∈RS) (hm:q.2 < 2 ^ n):Part RS n k Lk (q::S) (stepB k B q):=by
 unfold stepB
 rw [p.here,Option.getD_some]
 by_cases c:betB Lk (look (k ||| q.2) B)=true
 · rw [if_pos c]
   have ne:k ||| q.2≠k:=fun e=>by
    rw [e,p.here] at c
    have:=of_decide_eq_true c
    omega
   have ge:k < k ||| q.2:=Nat.lt_of_le_of_ne Nat.left_le_or (Ne.symm ne)
   have lk:∀ x,look x (putB (k ||| q.2) (Lk++[q.1]) B)=if x=k ||| q.2 then some (Lk++[q.1]) else look x B:=fun x=>look_put _ x _ B
   have mono:∀ x L,look x B=some L->∃ L',look x (putB (k ||| q.2) (Lk++[q.1]) B)=some L'/\L'.length<=L.length:=fun x L h=>by
    rw [lk]
    by_cases e:x=k ||| q.2
    · refine ⟨_, if_pos e, ?_⟩
      rw [e] at h
      rw [h] at c
      have:=of_decide_eq_true c
      simp
      omega
    · exact ⟨L,by rw [if_neg e]; exact h,Nat.le_refl _⟩
   refine ⟨nd_put p.nd,fun x L h=>?_,fun x hx=>?_,?_,?_,p.hl,fun q' hq'=>?_⟩
   · rw [lk] at h
     by_cases e:x=k ||| q.2
     · rw [if_pos e] at h
       cases h
       obtain ⟨_,_,M,m1,m2,m3⟩:=p.bd k Lk p.here
       refine ⟨by rw [e]; exact Nat.or_lt_two_pow hk hm,by have:=p.hl; simp; omega,M++[q],by simp [m1],fun z hz=>?_,by rw [orM_snoc,m3,e]⟩
       rcases List.mem_append.mp hz with hz | hz
       · exact m2 z hz
       · rw [List.mem_singleton.mp hz]; exact hq
     · rw [if_neg e] at h
       exact p.bd x L h
   · obtain ⟨Lx, h1, h2⟩ := p.dn x hx
     refine ⟨Lx,by rw [lk,if_neg (by omega)]; exact h1,fun q' hq'=>?_⟩
     obtain ⟨L',h3,h4⟩:=h2 q' hq'
     obtain ⟨L2,h5,h6⟩:=mono _ _ h3
     exact ⟨L2,h5,by omega⟩
   · rw [lk,if_neg (by omega)]; exact p.z
   · rw [lk,if_neg (Ne.symm ne)]; exact p.here
   · rcases List.mem_cons.mp hq' with rfl | hq'
     · exact ⟨_,by rw [lk,if_pos rfl],by simp⟩
     · obtain ⟨L', h3, h4⟩ := p.did q' hq'
       obtain ⟨L2,h5,h6⟩:=mono _ _ h3
       exact ⟨L2,h5,by omega⟩
 · rw [if_neg c]
   refine ⟨p.nd,p.bd,p.dn,p.z,p.here,p.hl,fun q' hq'=>?_⟩
   rcases List.mem_cons.mp hq' with rfl | hq'
   · cases e : look (k ||| q'.2) B with
     | none=>rw [e] at c; exact (c rfl).elim
     | some L =>
       rw [e] at c
       refine ⟨L,rfl,?_⟩
       have : ¬ Lk.length+1 < L.length:=fun z=>c (decide_eq_true z)
       omega
   · exact p.did q' hq'
theorem lc_inner (hn:n<=8) (hk:k < 2 ^ n) (hm:∀ q∈RS,q.2 < 2 ^ n) (x0 x1:Sl):∀ (R S:List (Rl×Nat)) (B:Bt) (x4 x5 x6:Sl),(∀ q∈R,q∈RS)->Part RS n k Lk S B →
  ∃ B' y4 y5 y6,(∀ q∈R,∃ L',look (k ||| q.2) B'=some L'/\L'.length<=Lk.length+1)/\Part RS n k Lk S B'/\qN (tupG 2 (zO (zL 4) (zO (zL 5) tgNil))) GP.least_cover.b1 (R.map encR) [x0,x1,.ob none (dB B),.v (.int (k:Nat)),x4,x5,x6]=some (.nx [x0,x1,.ob none (dB B'),.v (.int (k:Nat)),y4,y5,y6]):=by
 intro R
 induction R with
 | nil=>intro S B x4 x5 x6 _ p; exact ⟨B,x4,x5,x6,fun _ z=>(by cases z),p,by simp [qN]⟩
 | cons q R ih =>
   intro S B x4 x5 x6 hR p
   have pw:(2:Nat) ^ n<=256:=by have:=Nat.pow_le_pow_right (show 0 < 2 by decide) hn; simpa using this
   have t:=lc_turn p.here (by have:=p.hl; omega) p.nd (Nat.le_trans (len_of_look p.nd fun x L h=>(p.bd x L h).1) (by omega)) q x0 x1 x6
   have p2:=p.step hk (hR q (.head _)) (hm q (hR q (.head _)))
   obtain ⟨B',y4,y5,y6,g1,g2,g3⟩:=ih (q::S) (stepB k B q) (.v (rlD q.1)) (.v (.int (q.2:Nat))) (.v (.int ((k ||| q.2:Nat):Int))) (fun z hz=>hR z (.tail _ hz)) p2
   refine ⟨B',y4,y5,y6,fun z hz=>?_,⟨g2.nd,g2.bd,g2.dn,g2.z,g2.here,g2.hl,fun z hz=>g2.did z (.tail _ hz)⟩,?_⟩
   · rcases List.mem_cons.mp hz with rfl | hz
     · exact g2.did z (.head _)
     · exact g1 z hz
   · rw [List.map_cons, qN]
     have g:tupG 2 (zO (zL 4) (zO (zL 5) tgNil)) (encR q) [x0,x1,.ob none (dB B),.v (.int (k:Nat)),x4,x5,x6]=some [x0,x1,.ob none (dB B),.v (.int (k:Nat)),.v (rlD q.1),.v (.int (q.2:Nat)),x6]:=by
      unfold encR
      simp
     simp only [g,Option.bind_some,t]
     exact g3
theorem Tab.has (t:Tab RS n k B) (hk:k < 2 ^ n) (hs:∀ i < n,∃ q∈RS,q.2=2 ^ i):∃ L,look k B=some L/\L.length<=k:=by
 by_cases e:k=0
 · subst e; exact ⟨[],t.z,Nat.le_refl _⟩
 · have h1 := Nat.log2_self_le e
   have h2:=@Nat.lt_log2_self k
   have h3:k.log2 < n:=(Nat.log2_lt e).mpr hk
   have p0:=Nat.two_pow_pos k.log2
   have h4:k - 2 ^ k.log2 < 2 ^ k.log2:=by rw [Nat.pow_succ] at h2; omega
   obtain ⟨q,hq,e2⟩:=hs _ h3
   obtain ⟨Lx,_,g2⟩:=t.dn (k - 2 ^ k.log2) (by omega)
   obtain ⟨L',g3,_⟩:=g2 q hq
   have e3:(k - 2 ^ k.log2) ||| q.2=k:=by
    have:=Nat.two_pow_add_eq_or_of_lt h4 1
    rw [Nat.mul_one] at this
    rw [e2,Nat.or_comm,<- this]
    omega
   rw [e3] at g3
   exact ⟨L',g3,(t.bd _ _ g3).2.1⟩
theorem lc_outer (hn:n<=8) (hm:∀ q∈RS,q.2 < 2 ^ n) (hs:∀ i < n,∃ q∈RS,q.2=2 ^ i) (x1:Sl):∀ (j k:Nat) (B:Bt) (x3 x4 x5 x6:Sl),k+j < 2 ^ n->Tab RS n k B →
  ∃ B' y3 y4 y5 y6,Tab RS n (k+j) B'/\qN (zL 3) GP.least_cover.b2 ((List.range' k j).map fun i=>.int (i:Nat)) [.v (.lst (RS.map encR)),x1,.ob none (dB B),x3,x4,x5,x6]=some (.nx [.v (.lst (RS.map encR)),x1,.ob none (dB B'),y3,y4,y5,y6]):=by
 intro j
 induction j with
 | zero=>intro k B x3 x4 x5 x6 _ t; exact ⟨B,x3,x4,x5,x6,t,by simp [qN]⟩
 | succ j ih =>
   intro k B x3 x4 x5 x6 hk t
   obtain ⟨Lk,l1,l2⟩:=t.has (by omega) hs
   obtain ⟨B',z4,z5,z6,g1,g2,g3⟩:=lc_inner hn (by omega) hm (.v (.lst (RS.map encR))) x1 RS [] B x4 x5 x6 (fun _ h=>h) ⟨t.nd,fun x L h=>by obtain ⟨a,b,c⟩:=t.bd x L h; exact ⟨a,by omega,c⟩,t.dn,t.z,l1,l2,fun _ z=>by cases z⟩
   have t2:Tab RS n (k+1) B':=⟨g2.nd,g2.bd,fun x hx=>by
    by_cases e:x=k
    · subst e; exact ⟨Lk,g2.here,g1⟩
    · exact g2.dn x (by omega),g2.z⟩
   obtain ⟨B2,y3,y4,y5,y6,k1,k2⟩:=ih (k+1) B' (.v (.int (k:Nat))) z4 z5 z6 (by omega) t2
   refine ⟨B2,y3,y4,y5,y6,by rw [show k+(j+1)=k+1+j by omega]; exact k1,?_⟩
   rw [List.range'_succ,List.map_cons,qN]
   have b2:GP.least_cover.b2 [.v (.lst (RS.map encR)),x1,.ob none (dB B),.v (.int (k:Nat)),x4,x5,x6]=some (.nx [.v (.lst (RS.map encR)),x1,.ob none (dB B'),.v (.int (k:Nat)),z4,z5,z6]):=by
    unfold GP.least_cover.b2
    exact g3
   simp only [zL,Option.bind_some,List.set_cons_succ,List.set_cons_zero,b2]
   exact k2
theorem Tab.least (t:Tab RS n k B):∀ (M:List (Rl×Nat)) (x:Nat) (Lx:List Rl),(∀ q∈M,q∈RS)->look x B=some Lx->x ||| orM M=k->∃ L,look k B=some L/\L.length<=Lx.length+M.length
 | [], x, Lx, _, h, e => by
   have:x=k:=by simpa [orM] using e
   subst this
   exact ⟨Lx,h,by simp⟩
 | q :: M, x, Lx, hM, h, e => by
   have le:x<=k:=by rw [<- e]; exact Nat.left_le_or
   by_cases z:x=k
   · subst z; exact ⟨Lx,h,by omega⟩
   · obtain ⟨Ly, h1, h2⟩ := t.dn x (by omega)
     rw [h] at h1
     cases h1
     obtain ⟨L',h3,h4⟩:=h2 q (hM q (.head _))
     have e':(x ||| q.2) ||| orM M=k:=by rw [Nat.or_assoc]; exact e
     obtain ⟨L,h5,h6⟩:=t.least M _ L' (fun z hz=>hM z (.tail _ hz)) h3 e'
     exact ⟨L,h5,by rw [List.length_cons]; omega⟩
theorem lcov_eq (hn:n<=8) (hm:∀ q∈RS,q.2 < 2 ^ n) (hs:∀ i < n,∃ q∈RS,q.2=2 ^ i):∃ M:List (Rl×Nat),GP.least_cover.f [.lst (RS.map encR),.int ((2 ^ n - 1:Nat):Int)]=some (.fresh ((M.map (·.1)).map rlD))/\(∀ q∈M,q∈RS)/\orM M=2 ^ n - 1 ∧
  ∀ M':List (Rl×Nat),(∀ q∈M',q∈RS)->orM M'=2 ^ n - 1->M.length<=M'.length:=by
 have p0:=Nat.two_pow_pos n
 have pw:(2:Nat) ^ n<=256:=by have:=Nat.pow_le_pow_right (show 0 < 2 by decide) hn; simpa using this
 have t0:Tab RS n 0 [(0,[])]:=by
  refine ⟨by simp,fun x L h=>?_,fun x h=>by omega,rfl⟩
  rw [look] at h
  by_cases e:0=x
  · subst e
    rw [if_pos rfl] at h
    cases h
    exact ⟨p0,Nat.le_refl _,[],rfl,(fun _ z=>by cases z),rfl⟩
  · rw [if_neg e] at h; cases h
 obtain ⟨B,y3,y4,y5,y6,t,lp⟩:=lc_outer hn hm hs (.v (.int ((2 ^ n - 1:Nat):Int))) (2 ^ n - 1) 0 [(0,[])] .no .no .no .no (by omega) t0
 rw [Nat.zero_add] at t
 obtain ⟨L,l1,l2⟩:=t.has (by omega) hs
 obtain ⟨_,_,M,m1,m2,m3⟩:=t.bd _ _ l1
 refine ⟨M,?_,m2,m3,fun M' h1 h2=>?_⟩
 · have fl := vQ L
   rw [m1]
   unfold GP.least_cover.f
   refine jN ?_
   unfold GP.least_cover.g
   show qH _ _ [.v (.lst (RS.map encR)),.v (.int ((2 ^ n - 1:Nat):Int)),.no,.no,.no,.no,.no]=_
   rw [zM (ds':=[.v (.lst (RS.map encR)),.v (.int ((2 ^ n - 1:Nat):Int)),.ob none (dB [(0,[])]),.no,.no,.no,.no]) (by simp [setB,dO1N,lO,keyD,dB,kN,vN])]
   rw [zM (ds':=[.v (.lst (RS.map encR)),.v (.int ((2 ^ n - 1:Nat):Int)),.ob none (dB B),y3,y4,y5,y6]) (by
    rw [yC]
    have r:rng1 (zZ 1) [.v (.lst (RS.map encR)),.v (.int ((2 ^ n - 1:Nat):Int)),.ob none (dB [(0,[])]),.no,.no,.no,.no]=some ((List.range' 0 (2 ^ n - 1)).map fun i=>.int (i:Nat)):=by
     have ok:okR ((2 ^ n - 1:Nat):Int):=yE (by omega) (by omega)
     show (match (D.int ((2 ^ n - 1:Nat):Int)) with | .int j=>if okR j then some (rangeD 0 j.toNat) else none | _=>none)=_
     simp only [ok,if_true]
     rw [<- List.range_eq_range']
     simp [rangeD]
    rw [r,Option.bind_some]
    exact lp)]
   unfold retDP
   have gv:zZ 1 [.v (.lst (RS.map encR)),.v (.int ((2 ^ n - 1:Nat):Int)),.ob none (dB B),y3,y4,y5,y6]=some (.int ((2 ^ n - 1:Nat):Int)):=rfl
   have ky:keyD (.int ((2 ^ n - 1:Nat):Int))=some (kN (2 ^ n - 1)):=rfl
   show ((zZ 1 _).bind fun y=>(keyD y).bind fun k=>(getKT k (B.map fun q=>kN q.1) (B.map fun q=>vN q.2)).bind _)=_
   rw [gv,Option.bind_some,ky,Option.bind_some,getT_dB,l1]
   show (valsO ((L.map rlD).map OT.val)).bind flatF=_
   have vs:∀ l:List D,valsO (l.map OT.val)=some l:=by
    intro l
    induction l with
    | nil=>rfl
    | cons a l ih=>rw [List.map_cons,valsO,ih]; rfl
   rw [vs,Option.bind_some,vB _ fl]
 · obtain ⟨L', h3, h4⟩ := t.least M' 0 [] h1 t.z (by simpa using h2)
   rw [l1] at h3
   cases h3
   have:=congrArg List.length m1
   simp at this h4
   omega
end
theorem add_bit {S a:Nat} (h:S.testBit a=false) (i:Nat):(2 ^ a+S).testBit i=(decide (a=i) || S.testBit i):=by
 have hL:S % 2 ^ (a+1) < 2 ^ a:=by
  have h1:(S % 2 ^ (a+1)) < 2 ^ (a+1):=Nat.mod_lt _ (Nat.two_pow_pos _)
  refine Nat.lt_pow_two_of_testBit _ fun j hj=>?_
  rw [Nat.testBit_mod_two_pow]
  by_cases e:j=a
  · rw [e,h,Bool.and_false]
  · rw [show decide (j < a+1)=false from decide_eq_false (by omega),Bool.false_and]
 have hS:S=2 ^ (a+1) * (S / 2 ^ (a+1))+S % 2 ^ (a+1):=(Nat.div_add_mod _ _).symm
 have p0:=Nat.two_pow_pos a
 have e1:2 ^ a+S=2 ^ (a+1) * (S / 2 ^ (a+1))+(2 ^ a * 1+S % 2 ^ (a+1)):=by omega
 have b1:2 ^ a * 1+S % 2 ^ (a+1) < 2 ^ (a+1):=by rw [Nat.pow_succ]; rw [Nat.pow_succ] at hL; omega
 rw [e1,Nat.testBit_two_pow_mul_add _ b1]
 conv=>rhs; rw [hS,Nat.testBit_two_pow_mul_add _ (Nat.mod_lt _ (Nat.two_pow_pos _))]
 by_cases h1:i < a+1
 · rw [if_pos h1, if_pos h1, Nat.testBit_two_pow_mul_add _ hL]
   by_cases h2:i < a
   · rw [if_pos h2,show decide (a=i)=false from decide_eq_false (by omega),Bool.false_or]
   · have : i = a := by omega
     subst this
     rw [if_neg h2]
     simp
 · rw [if_neg h1,if_neg h1,show decide (a=i)=false from decide_eq_false (by omega),Bool.false_or]
theorem sum_bit:∀ (l:List Nat),l.Nodup->∀ i,((l.map fun k=>2 ^ k).sum).testBit i=decide (i∈l)
 | [],_,i=>by simp
 | a :: l, nd, i => by
   rw [List.nodup_cons] at nd
   have ih:=sum_bit l nd.2
   rw [List.map_cons,List.sum_cons,add_bit (by rw [ih]; exact decide_eq_false nd.1),ih,Bool.eq_iff_iff,Bool.or_eq_true,decide_eq_true_eq,decide_eq_true_eq,decide_eq_true_eq,List.mem_cons]
   exact or_congr_left eq_comm
theorem idx_inj {P:List Pc} (hp:p∈P) (hq:q∈P) (e:P.idxOf p=P.idxOf q):p=q:=by
 have h1:=List.idxOf_lt_length_of_mem hp
 have h2:=List.idxOf_lt_length_of_mem hq
 have e1:P[P.idxOf p]=p:=List.getElem_idxOf h1
 have e2:P[P.idxOf q]=q:=List.getElem_idxOf h2
 rw [<- e1,<- e2]
 congr 1
theorem pcsR_nodup {r:Rl} (h:okL r=true):(pcsR r).Nodup:=by
 obtain ⟨t1,t2,t3,t4,t5⟩:=yZ h
 unfold pcsR
 by_cases e:r.2.2.2.1=1
 · rw [e]; simp
 · have := t5 e
   refine List.Pairwise.map _ (fun a b (h:a≠b) z=>h ?_) List.nodup_range
   have z1:(fstP r).1+(a:Int) * r.2.2.1=(fstP r).1+(b:Int) * r.2.2.1:=congrArg Prod.fst z
   have:(a:Int)=(b:Int):=Int.eq_of_mul_eq_mul_right (a:=r.2.2.1) (by omega) (by omega)
   omega
theorem kA {P:List Pc} {r:Rl} (h:Rok P r) (i:Nat):(mkN P r).testBit i=true↔∃ p∈pcsR r,P.idxOf p=i:=by
 have nd:((pcsR r).map fun p=>P.idxOf p).Nodup:=by
  have:=pcsR_nodup h.ok
  refine List.pairwise_map.mpr (List.Pairwise.imp_of_mem (fun {a b} ha hb h1 e=>h1 (idx_inj (h.sub a ha) (h.sub b hb) e)) this)
 have:=sum_bit _ nd i
 rw [List.map_map] at this
 have e:mkN P r=((pcsR r).map ((fun k=>2 ^ k) ∘ fun p=>P.idxOf p)).sum:=rfl
 rw [e,this,decide_eq_true_eq,List.mem_map]
theorem orM_bit (i:Nat):∀ M:List (Rl×Nat),(orM M).testBit i=true↔∃ q∈M,q.2.testBit i=true
 | []=>by simp [orM]
 | q :: M => by
   have:=orM_bit i M
   simp only [orM,List.foldr_cons] at this ⊢
   rw [Nat.testBit_or,Bool.or_eq_true,this]
   simp
theorem mkN_lt {P:List Pc} {r:Rl} (h:Rok P r):mkN P r < 2 ^ P.length:=by
 refine Nat.lt_pow_two_of_testBit _ fun i hi=>?_
 refine Bool.eq_false_iff.mpr fun z=>?_
 obtain ⟨p,hp,e⟩:=(kA h i).mp z
 have:=List.idxOf_lt_length_of_mem (h.sub p hp)
 omega
def IsAp (l:List Pc):Prop:=∃ p s t,0 < s/\1<=t/\l=(List.range t).map (shf p s)
def Cov (P:List Pc) (n:Nat):Prop:=∃ Ls:List (List Pc),Ls.length=n/\(∀ l∈Ls,IsAp l/\∀ p∈l,p∈P)/\∀ p∈P,∃ l∈Ls,p∈l
theorem pcs_sg (p:Pc):pcsR (sgR p)=[p]:=by
 simp [pcsR,sgR,shf,fstP]
theorem ap_rule (h:PcsOk P) (ha:IsAp l) (hs:∀ p∈l,p∈P):∃ r∈rulesF P,∀ p∈l,p∈pcsR r:=by
 obtain ⟨p,s,t,s0,t1,rfl⟩:=ha
 have hp:p∈P:=by
  have:=hs (shf p s 0) (List.mem_map.mpr ⟨0,List.mem_range.mpr (by omega),rfl⟩)
  rwa [shf0] at this
 by_cases e:t=1
 · subst e
   refine ⟨sgR p,rules_sg hp,fun q hq=>?_⟩
   rw [pcs_sg]
   simpa [shf] using hq
 · have hq := hs (shf p s 1) (List.mem_map.mpr ⟨1, List.mem_range.mpr (by omega), rfl⟩)
   have e1:(shf p s 1).1 - p.1=s:=by simp [shf]; omega
   have al:alk p (shf p s 1)=true:=by simp [alk,shf]; omega
   have hr:=rules_lg h hp hq (by simp [shf]; omega) al
   rw [e1] at hr
   refine ⟨lgR P p s,hr,fun q hq=>?_⟩
   obtain ⟨k,hk,rfl⟩:=List.mem_map.mp hq
   obtain ⟨u1,u2,u3,u4,_⟩:=kH (P:=P) (p:=p) s0 (by have:=h.few; omega)
   have:t<=lgU P p s:=Nat.le_of_not_lt fun z=>u3 (hs _ (List.mem_map.mpr ⟨_,List.mem_range.mpr z,rfl⟩))
   refine List.mem_map.mpr ⟨k,List.mem_range.mpr ?_,rfl⟩
   have:=List.mem_range.mp hk
   simp [lgR]
   omega
theorem bits_sum:∀ (P:List Pc) (k:Nat),((P.zipIdx k).map fun q=>(2:Nat) ^ q.2).sum+2 ^ k=2 ^ (k+P.length)
 | [],k=>by simp
 | p :: P, k => by
   have:=bits_sum P (k+1)
   rw [List.zipIdx_cons,List.map_cons,List.sum_cons,List.length_cons,show k+(P.length+1)=k+1+P.length by omega,<- this,Nat.pow_succ]
   show 2 ^ k+_+2 ^ k=_
   omega
theorem full_eq (P:List Pc):sumTG (zZ 1) [x,.v (bD P)]=some (.int ((2 ^ P.length - 1:Nat):Int)):=by
 show (sumD [.lst (bitsD (P.map pcK))])=_
 have e:bitsD (P.map pcK)=(((P.zipIdx 0).map fun q=>(2:Nat) ^ q.2).map fun n=>((n:Nat):Int)).map D.int:=by
  rw [bitsD_pc,List.map_map,List.map_map]
  refine List.map_congr_left fun q _=>?_
  simp
 rw [e,sumD,wH,Option.map_some,vG]
 have:=bits_sum P 0
 congr 3
 simp at this
 omega
theorem fewest_eq (h:PcsOk P):∃ L:List Rl,GP.fewest.f [.lst (P.map pcD)]=some (.fresh (L.map rlD))/\(∀ r∈L,Rok P r)/\(∀ p∈P,∃ r∈L,p∈pcsR r)/\∀ n,Cov P n->L.length<=n:=by
 have hf:=h.few
 have bo:=bits_of_eq h.nodup (by omega)
 have co:=covers_eq h
 have inRS:∀ q∈(rulesF P).map (fun r=>(r,mkN P r)),Rok P q.1/\q.2=mkN P q.1:=fun q hq=>by
  obtain ⟨r,hr,rfl⟩:=List.mem_map.mp hq
  exact ⟨rules_ok h r hr,rfl⟩
 obtain ⟨M,l1,l2,l3,l4⟩:=lcov_eq (RS:=(rulesF P).map fun r=>(r,mkN P r)) (n:=P.length) hf (fun q hq=>by
   obtain ⟨a,b⟩:=inRS q hq
   rw [b]; exact mkN_lt a) (fun i hi=>by
   refine ⟨(sgR P[i],mkN P (sgR P[i])),List.mem_map.mpr ⟨_,rules_sg (List.getElem_mem hi),rfl⟩,?_⟩
   show mkN P (sgR P[i])=2 ^ i
   rw [mkN,pcs_sg,List.map_singleton,List.sum_singleton,h.nodup.idxOf_getElem])
 have full:∀ i,(2 ^ P.length - 1).testBit i=decide (i < P.length):=fun i=>Nat.testBit_two_pow_sub_one _ _
 refine ⟨M.map (·.1),?_,fun r hr=>?_,fun p hp=>?_,fun n ⟨Ls,n1,n2,n3⟩=>?_⟩
 · have en : (rulesF P).map (rmD P) = ((rulesF P).map fun r => (r, mkN P r)).map encR := by rw [List.map_map]; rfl
   rw [en] at co
   have cp:compG (viaA (zZ 0) asLT) [none,none,none] (tupG 3 (zO (zL 0) (zO (zL 1) (zO (zL 2) tgNil)))) (fun _=>some true) (zE isD (qF 1 GP.length.f (zB (mkT (zU (zB (zZ 0) (zB (zZ 1) zP)))) zP)) (zA .non)) [.v (.lst (P.map pcD)),.no]=some ((P.map fun _=>false).map D.bl):=by
    refine jP (items:=P.map pcD) rfl (by simp; omega) ?_
    rw [jI _ (fun _=>D.bl false),List.map_map]
    · rfl
    · intro p _
      have lg:GP.length.f [.tup [.int p.1,.int p.2.1]]=some (.val (.int (p.2.1 - p.1))):=length_eq (some p.1,some p.2.1)
      exact ⟨[.v (.int p.1),.v (.int p.2.1),.v (.int p.2.2)],by simp [pcD,rwD,pcR,jA],by simp [lg]⟩
   have an:(P.map fun _=>false).any id=false:=by simp
   unfold GP.fewest.f
   refine jN ?_
   unfold GP.fewest.g
   show qH _ _ [.v (.lst (P.map pcD)),.no]=_
   rw [zM (ds':=[.v (.lst (P.map pcD)),.no]) (by
    rw [yM,xH,yI,qZ,yT,cp]
    simp only [yY,Option.map_some,Option.bind_some,anyD_bls,an,truD_bl]
    rfl)]
   rw [zM (ds':=[.v (.lst (P.map pcD)),.no]) (by
    have : ¬ (8:Int) < (P.length:Int):=by omega
    have hl:((P.map pcD).length:Int)=P.length:=by simp
    generalize P.map pcD=L at *
    simp [hl,this])]
   rw [zM (ds':=[.v (.lst (P.map pcD)),.v (bD P)]) (by
    generalize P.map pcD=L at *
    simp [bo])]
   have cl:callF 2 GP.least_cover.f (zB (qF 2 GP.covers.f (zB (zF 0) (zB (zF 1) zP))) (zB (sumTG (zZ 1)) zP)) [.v (.lst (P.map pcD)),.v (bD P)]=some ((M.map (·.1)).map rlD):=by
    rw [callF_eq,qZ,qZ,full_eq]
    generalize ((2 ^ P.length - 1:Nat):Int)=F at *
    generalize P.map pcD=L at *
    generalize bD P=B at *
    generalize ((rulesF P).map fun r=>(r,mkN P r)).map encR=Q at *
    simp [co,l1]
   rw [vH,cl,Option.bind_some,vB _ (vQ _)]
 · obtain ⟨q, hq, rfl⟩ := List.mem_map.mp hr
   exact (inRS q (l2 q hq)).1
 · have hi := List.idxOf_lt_length_of_mem hp
   have b:(orM M).testBit (P.idxOf p)=true:=by rw [l3,full]; exact decide_eq_true hi
   obtain ⟨q,hq,e⟩:=(orM_bit _ M).mp b
   obtain ⟨k1,k2⟩:=inRS q (l2 q hq)
   rw [k2] at e
   obtain ⟨p',hp',e'⟩:=(kA k1 _).mp e
   rw [idx_inj (k1.sub p' hp') hp e'] at hp'
   exact ⟨q.1,List.mem_map_of_mem hq,hp'⟩
 · have ex:∀ Ls:List (List Pc),(∀ l∈Ls,IsAp l/\∀ p∈l,p∈P)->∃ M':List (Rl×Nat),M'.length=Ls.length/\(∀ q∈M',q∈(rulesF P).map fun r=>(r,mkN P r))/\∀ l∈Ls,∃ q∈M',∀ p∈l,p∈pcsR q.1:=by
    intro Ls
    induction Ls with
    | nil=>intro _; exact ⟨[],rfl,(fun _ z=>by cases z),(fun _ z=>by cases z)⟩
    | cons l Ls ih =>
      intro hh
      obtain ⟨M',m1,m2,m3⟩:=ih fun z hz=>hh z (.tail _ hz)
      obtain ⟨r,r1,r2⟩:=ap_rule h (hh l (.head _)).1 (hh l (.head _)).2
      refine ⟨(r,mkN P r)::M',by simp [m1],fun q hq=>?_,fun z hz=>?_⟩
      · rcases List.mem_cons.mp hq with rfl | hq
        · exact List.mem_map.mpr ⟨r,r1,rfl⟩
        · exact m2 q hq
      · rcases List.mem_cons.mp hz with rfl | hz
        · exact ⟨_,.head _,r2⟩
        · obtain ⟨q, q1, q2⟩ := m3 z hz
          exact ⟨q,.tail _ q1,q2⟩
   obtain ⟨M',m1,m2,m3⟩:=ex Ls n2
   rw [List.length_map,<- n1,<- m1]
   refine l4 M' m2 (Nat.eq_of_testBit_eq fun i=>?_)
   rw [full,Bool.eq_iff_iff,decide_eq_true_eq,orM_bit]
   constructor
   · rintro ⟨q, hq, e⟩
     obtain ⟨k1,k2⟩:=inRS q (m2 q hq)
     rw [k2] at e
     obtain ⟨p',hp',e'⟩:=(kA k1 _).mp e
     rw [<- e']
     exact List.idxOf_lt_length_of_mem (k1.sub p' hp')
   · intro hi
     obtain ⟨l,hl,hp⟩:=n3 P[i] (List.getElem_mem hi)
     obtain ⟨q,q1,q2⟩:=m3 l hl
     obtain ⟨k1,k2⟩:=inRS q (m2 q q1)
     refine ⟨q,q1,?_⟩
     rw [k2]
     exact (kA k1 i).mpr ⟨P[i],q2 _ hp,h.nodup.idxOf_getElem i hi⟩
def nxt (p q:Pc):Prop:=p.2.1 < q.1 \/ (p.2.1=q.1/\p.2.2≠q.2.2)
theorem pcsOk_of (h1:∀ p∈P,p.1 < p.2.1) (h2:P.Pairwise nxt) (h3:P.length<=8):PcsOk P:=by
 refine ⟨⟨⟨fun r hr=>?_,List.pairwise_map.mpr (h2.imp fun {p q} h=>⟨p.2.1,q.1,rfl,rfl,by rcases h with h | h <;> omega⟩)⟩,fun r hr=>?_,fun i a b ea eb=>?_⟩,h3⟩
 · obtain ⟨p, hp, rfl⟩ := List.mem_map.mp hr
   intro a b e1 e2
   cases e1; cases e2
   exact h1 p hp
 · obtain ⟨p, hp, rfl⟩ := List.mem_map.mp hr
   intro z; cases z
 · rw [List.getElem?_map] at ea eb
   obtain ⟨p,e1,rfl⟩:=Option.map_eq_some_iff.mp ea
   obtain ⟨q,e2,rfl⟩:=Option.map_eq_some_iff.mp eb
   have:=List.pairwise_iff_getElem.mp h2 i (i+1) (List.getElem?_eq_some_iff.mp e1).1 (List.getElem?_eq_some_iff.mp e2).1 (by omega)
   rw [(List.getElem?_eq_some_iff.mp e1).2,(List.getElem?_eq_some_iff.mp e2).2] at this
   rintro ⟨z1,z2⟩
   simp [pcR] at z1 z2
   rcases this with this | this
   · omega
   · exact this.2 z2
end FL
namespace FL
open PySem PySem.Spec PyProof.Rows L2
abbrev Ch:=Int×Option Int
def Per (g:Int->Option Int) (T:Int):Prop:=∀ p,g (p+T)=g p
theorem Per.nat {g:Int->Option Int} {T:Int} (h:Per g T) (p:Int):∀ j:Nat,g (p+(j:Int) * T)=g p
 | 0=>by simp
 | j + 1 => by
   have e:p+((j+1:Nat):Int) * T=(p+(j:Int) * T)+T:=by rw [Int.natCast_add,Int.add_mul]; simp; omega
   rw [e,h,h.nat p j]
theorem Per.int {g:Int->Option Int} {T:Int} (h:Per g T) (p j:Int):g (p+j * T)=g p:=by
 by_cases hj:0<=j
 · obtain ⟨n, rfl⟩ := Int.eq_ofNat_of_zero_le hj
   exact h.nat p n
 · obtain ⟨n, hn⟩ := Int.eq_ofNat_of_zero_le (show 0 <= -j by omega)
   have e:=h.nat (p+j * T) n
   rw [<- hn,Int.neg_mul] at e
   rw [<- e]
   congr 1
   omega
section
variable {g:Int->Option Int} {T:Int} {C:List Ch}
end
noncomputable def AdjV:List Rw->Prop
 | r::s::t=>r.2.2≠s.2.2/\AdjV (s::t)
 | _=>True
theorem AdjV.tail {r:Rw} {t:List Rw} (h:AdjV (r::t)):AdjV t:=by
 cases t with
 | nil=>trivial
 | cons s t=>exact h.2
section
variable {T:Int}
end
open Builtin.Int (intBits)
@[simp] theorem eqS_put_put:eqD (.str "put") (.str "put")=some (.bl true):=by kernel_rfl
@[simp] theorem neS_put_put:neD (.str "put") (.str "put")=some (.bl false):=by kernel_rfl
@[simp] theorem eqS_put_widen:eqD (.str "put") (.str "widen")=some (.bl false):=by kernel_rfl
@[simp] theorem neS_put_widen:neD (.str "put") (.str "widen")=some (.bl true):=by kernel_rfl
@[simp] theorem eqS_put_narrow:eqD (.str "put") (.str "narrow")=some (.bl false):=by kernel_rfl
@[simp] theorem neS_put_narrow:neD (.str "put") (.str "narrow")=some (.bl true):=by kernel_rfl
@[simp] theorem eqS_put_move:eqD (.str "put") (.str "move")=some (.bl false):=by kernel_rfl
@[simp] theorem neS_put_move:neD (.str "put") (.str "move")=some (.bl true):=by kernel_rfl
@[simp] theorem eqS_put_stretch:eqD (.str "put") (.str "stretch")=some (.bl false):=by kernel_rfl
@[simp] theorem neS_put_stretch:neD (.str "put") (.str "stretch")=some (.bl true):=by kernel_rfl
@[simp] theorem eqS_put_mirror:eqD (.str "put") (.str "mirror")=some (.bl false):=by kernel_rfl
@[simp] theorem neS_put_mirror:neD (.str "put") (.str "mirror")=some (.bl true):=by kernel_rfl
@[simp] theorem eqS_widen_put:eqD (.str "widen") (.str "put")=some (.bl false):=by kernel_rfl
@[simp] theorem neS_widen_put:neD (.str "widen") (.str "put")=some (.bl true):=by kernel_rfl
@[simp] theorem eqS_widen_widen:eqD (.str "widen") (.str "widen")=some (.bl true):=by kernel_rfl
@[simp] theorem neS_widen_widen:neD (.str "widen") (.str "widen")=some (.bl false):=by kernel_rfl
@[simp] theorem eqS_widen_narrow:eqD (.str "widen") (.str "narrow")=some (.bl false):=by kernel_rfl
@[simp] theorem neS_widen_narrow:neD (.str "widen") (.str "narrow")=some (.bl true):=by kernel_rfl
@[simp] theorem eqS_widen_move:eqD (.str "widen") (.str "move")=some (.bl false):=by kernel_rfl
@[simp] theorem neS_widen_move:neD (.str "widen") (.str "move")=some (.bl true):=by kernel_rfl
@[simp] theorem eqS_widen_stretch:eqD (.str "widen") (.str "stretch")=some (.bl false):=by kernel_rfl
@[simp] theorem neS_widen_stretch:neD (.str "widen") (.str "stretch")=some (.bl true):=by kernel_rfl
@[simp] theorem eqS_widen_mirror:eqD (.str "widen") (.str "mirror")=some (.bl false):=by kernel_rfl
@[simp] theorem neS_widen_mirror:neD (.str "widen") (.str "mirror")=some (.bl true):=by kernel_rfl
@[simp] theorem eqS_narrow_put:eqD (.str "narrow") (.str "put")=some (.bl false):=by kernel_rfl
@[simp] theorem neS_narrow_put:neD (.str "narrow") (.str "put")=some (.bl true):=by kernel_rfl
@[simp] theorem eqS_narrow_widen:eqD (.str "narrow") (.str "widen")=some (.bl false):=by kernel_rfl
@[simp] theorem neS_narrow_widen:neD (.str "narrow") (.str "widen")=some (.bl true):=by kernel_rfl
@[simp] theorem eqS_narrow_narrow:eqD (.str "narrow") (.str "narrow")=some (.bl true):=by kernel_rfl
@[simp] theorem neS_narrow_narrow:neD (.str "narrow") (.str "narrow")=some (.bl false):=by kernel_rfl
@[simp] theorem eqS_narrow_move:eqD (.str "narrow") (.str "move")=some (.bl false):=by kernel_rfl
@[simp] theorem neS_narrow_move:neD (.str "narrow") (.str "move")=some (.bl true):=by kernel_rfl
@[simp] theorem eqS_narrow_stretch:eqD (.str "narrow") (.str "stretch")=some (.bl false):=by kernel_rfl
@[simp] theorem neS_narrow_stretch:neD (.str "narrow") (.str "stretch")=some (.bl true):=by kernel_rfl
@[simp] theorem eqS_narrow_mirror:eqD (.str "narrow") (.str "mirror")=some (.bl false):=by kernel_rfl
@[simp] theorem neS_narrow_mirror:neD (.str "narrow") (.str "mirror")=some (.bl true):=by kernel_rfl
@[simp] theorem eqS_move_put:eqD (.str "move") (.str "put")=some (.bl false):=by kernel_rfl
@[simp] theorem neS_move_put:neD (.str "move") (.str "put")=some (.bl true):=by kernel_rfl
@[simp] theorem eqS_move_widen:eqD (.str "move") (.str "widen")=some (.bl false):=by kernel_rfl
@[simp] theorem neS_move_widen:neD (.str "move") (.str "widen")=some (.bl true):=by kernel_rfl
@[simp] theorem eqS_move_narrow:eqD (.str "move") (.str "narrow")=some (.bl false):=by kernel_rfl
@[simp] theorem neS_move_narrow:neD (.str "move") (.str "narrow")=some (.bl true):=by kernel_rfl
@[simp] theorem eqS_move_move:eqD (.str "move") (.str "move")=some (.bl true):=by kernel_rfl
@[simp] theorem neS_move_move:neD (.str "move") (.str "move")=some (.bl false):=by kernel_rfl
@[simp] theorem eqS_move_stretch:eqD (.str "move") (.str "stretch")=some (.bl false):=by kernel_rfl
@[simp] theorem neS_move_stretch:neD (.str "move") (.str "stretch")=some (.bl true):=by kernel_rfl
@[simp] theorem eqS_move_mirror:eqD (.str "move") (.str "mirror")=some (.bl false):=by kernel_rfl
@[simp] theorem neS_move_mirror:neD (.str "move") (.str "mirror")=some (.bl true):=by kernel_rfl
@[simp] theorem eqS_stretch_put:eqD (.str "stretch") (.str "put")=some (.bl false):=by kernel_rfl
@[simp] theorem neS_stretch_put:neD (.str "stretch") (.str "put")=some (.bl true):=by kernel_rfl
@[simp] theorem eqS_stretch_widen:eqD (.str "stretch") (.str "widen")=some (.bl false):=by kernel_rfl
@[simp] theorem neS_stretch_widen:neD (.str "stretch") (.str "widen")=some (.bl true):=by kernel_rfl
@[simp] theorem eqS_stretch_narrow:eqD (.str "stretch") (.str "narrow")=some (.bl false):=by kernel_rfl
@[simp] theorem neS_stretch_narrow:neD (.str "stretch") (.str "narrow")=some (.bl true):=by kernel_rfl
@[simp] theorem eqS_stretch_move:eqD (.str "stretch") (.str "move")=some (.bl false):=by kernel_rfl
@[simp] theorem neS_stretch_move:neD (.str "stretch") (.str "move")=some (.bl true):=by kernel_rfl
@[simp] theorem eqS_stretch_stretch:eqD (.str "stretch") (.str "stretch")=some (.bl true):=by kernel_rfl
@[simp] theorem neS_stretch_stretch:neD (.str "stretch") (.str "stretch")=some (.bl false):=by kernel_rfl
@[simp] theorem eqS_stretch_mirror:eqD (.str "stretch") (.str "mirror")=some (.bl false):=by kernel_rfl
@[simp] theorem neS_stretch_mirror:neD (.str "stretch") (.str "mirror")=some (.bl true):=by kernel_rfl
@[simp] theorem eqS_mirror_put:eqD (.str "mirror") (.str "put")=some (.bl false):=by kernel_rfl
@[simp] theorem neS_mirror_put:neD (.str "mirror") (.str "put")=some (.bl true):=by kernel_rfl
@[simp] theorem eqS_mirror_widen:eqD (.str "mirror") (.str "widen")=some (.bl false):=by kernel_rfl
@[simp] theorem neS_mirror_widen:neD (.str "mirror") (.str "widen")=some (.bl true):=by kernel_rfl
@[simp] theorem eqS_mirror_narrow:eqD (.str "mirror") (.str "narrow")=some (.bl false):=by kernel_rfl
@[simp] theorem neS_mirror_narrow:neD (.str "mirror") (.str "narrow")=some (.bl true):=by kernel_rfl
@[simp] theorem eqS_mirror_move:eqD (.str "mirror") (.str "move")=some (.bl false):=by kernel_rfl
@[simp] theorem neS_mirror_move:neD (.str "mirror") (.str "move")=some (.bl true):=by kernel_rfl
@[simp] theorem eqS_mirror_stretch:eqD (.str "mirror") (.str "stretch")=some (.bl false):=by kernel_rfl
@[simp] theorem neS_mirror_stretch:neD (.str "mirror") (.str "stretch")=some (.bl true):=by kernel_rfl
@[simp] theorem eqS_mirror_mirror:eqD (.str "mirror") (.str "mirror")=some (.bl true):=by kernel_rfl
@[simp] theorem neS_mirror_mirror:neD (.str "mirror") (.str "mirror")=some (.bl false):=by kernel_rfl
@[simp] theorem fldG_eq (ix:List (Nat×Nat)) (f:FE) (ds:List Sl):fldG ix f ds=(f ds).bind (fldD ix):=rfl
@[simp] theorem fldD_ins (ix:List (Nat×Nat)) (t:Nat) (es:List D):fldD ix (.ins t es)=(ix.lookup t).bind fun i=>es[i]?:=rfl
@[simp] theorem methV_eq (n:Nat) (cs:List Nat) (F:Nat->List D->Option Ret) (fo:FE) (g:FA) (ds:List Sl):methV n cs F fo g ds=(fo ds).bind fun o=>(g ds).bind fun l=>(methR n cs F o l).bind retV:=rfl
@[simp] theorem methF_eq (n:Nat) (cs:List Nat) (F:Nat->List D->Option Ret) (fo:FE) (g:FA) (ds:List Sl):methF n cs F fo g ds=(fo ds).bind fun o=>(g ds).bind fun l=>(methR n cs F o l).bind retF:=rfl
@[simp] theorem makeG_eq (t n:Nat) (G:List D->Option (List D)) (g:FA) (ds:List Sl):makeG t n G g ds=(g ds).bind fun l=>if l.length=n/\flats l=true then (G l).map (D.ins t) else none:=rfl
@[simp] theorem retDG_eq (f:FE) (ds:List Sl):retDG f ds=(f ds).map fun d=>.rt (.val d):=rfl
@[simp] theorem methR_ins (n:Nat) (cs:List Nat) (F:Nat->List D->Option Ret) (t:Nat) (es l:List D):methR n cs F (.ins t es) l=if t∈cs/\l.length=n then F t (.ins t es::l) else none:=rfl
end FL
namespace FL
open PySem PySem.Spec PyProof.Rows L2
open Builtin.Int (intBits)
structure DrawM (rows:List Rw) (s:Int):Prop where
 map:MapF rows
 fin:∀ r∈rows,∃ lo bh,r.1=some lo/\r.2.1=some bh/\bh<=s
 last:∀ r,rows.getLast? = some r->r.2.1=some s
theorem DrawM.nil (s:Int):DrawM [] s:=⟨MapF.nil,(fun _ h=>nomatch h),fun r h=>by simp at h⟩
@[simp] theorem notD_rw r:notD (rwD r) .non=some (.bl true):=rfl
end FL
section
open PySem PyProof.Rows L2 FL
noncomputable def K77.X_fewest_2.x:List Sl->Bool:=(ifX (testT (callB anyD (zB (mkL (compG (viaA (zZ 0) asLT) [none,none,none] (tupG 3 (zO (zL 0) (zO (zL 1) (zO (zL 2) tgNil)))) (fun _=>some true) (zE isD (qF 1 GP.length.f (zB (mkT (zU (zB (zZ 0) (zB (zZ 1) zP)))) zP)) (zA .non)))) zP))) alwaysX neverX)
noncomputable def K77.X_fewest_2.f:List D->Bool:=runX K77.X_fewest_2.x 2
noncomputable def K77.X_fewest_10.x:List Sl->Bool:=(seqX (ifG (testT (callB anyD (zB (mkL (compG (viaA (zZ 0) asLT) [none,none,none] (tupG 3 (zO (zL 0) (zO (zL 1) (zO (zL 2) tgNil)))) (fun _=>some true) (zE isD (qF 1 GP.length.f (zB (mkT (zU (zB (zZ 0) (zB (zZ 1) zP)))) zP)) (zA .non)))) zP))) (fun _=>none) jS)
 (ifX (zT (zE gtD (callB lenD (zB (zF 0) zP)) (zA (.int 8)))) alwaysX neverX))
noncomputable def K77.X_fewest_10.f:List D->Bool:=runX K77.X_fewest_10.x 2
noncomputable def K77.L_slots.b1:FS:=(dputG (varP 5) (zE jD (zE yB (zF 4) (zA (.int 7))) (zE jL (zF 6) (zE jD (zA (.int 1)) (zE yB (zE jK (zF 4) (zA (.int 7))) (zA (.int 5)))))) (mkT (zU (zB (zE jK (zE yB (zE jK (zF 4) (zA (.int 140))) (zA (.int 5))) (zA (.int 4))) (zB (zE jK (zE yB (zE jK (zF 4) (zA (.int 700))) (zA (.int 6))) (zA (.int 5))) zP)))))
noncomputable def K77.L_slots.b2:FS:=(qH (yK 4 (zE yB (zE jD (zE jD (zE jL (zE ixD (zF 0) (zF 3)) (zA (.int 48271))) (zE jL (zE jL (zF 3) (zF 3)) (zA (.int 69621)))) (zA (.int 7919))) (zA (.int 2147483647))))
 (qH (yK 4 (zE yB (zE jL (zF 4) (zF 4)) (zA (.int 2147483563))))
 (qH (setB 5 (relGO 2 (dcopyG (zZ 2))))
 (qH (forG (rng1 (zE jD (zA (.int 1)) (zE yB (zE jK (zF 4) (zA (.int 35))) (zA (.int 4))))) (zL 6) K77.L_slots.b1)
 (ifG (zT (zE leD (relVO 5 (callB lenD (zB (mkL (lvalA (zZ 5))) zP))) (zF 1))) (mvT 2 5) jS)))))
noncomputable def K77.L_slots.g:FS:=(qH (setB 2 dO0)
 (qH (forG (rng1 (callB lenD (zB (zF 0) zP))) (zL 3) K77.L_slots.b2)
 (retDG (getOT 2))))
noncomputable def K77.L_slots.f:List D->Option Ret:=runG K77.L_slots.g 7
noncomputable def K77.L_pieces.b1:FS:=(qH (asgG (tupG 2 (zO (zL 9) (zO (zL 10) tgNil))) (dgetG (zZ 0) (zZ 8)))
 (ifG (testT (zF 6)) (qH (yK 11 (zE jD (zF 1) (zE jL (zF 8) (zF 4))))
 (appG 7 (mkT (zU (zB (zZ 11) (zB (zE jD (zF 11) (zF 4)) (zB (zE jD (zE jD (zF 3) (zE jL (zA (.int 2)) (zF 9))) (zE yB (zF 8) (zA (.int 2)))) zP))))))) (qH (yK 11 (zE jD (zF 1) (zE jL (zF 8) (zF 5))))
 (appG 7 (mkT (zU (zB (zZ 11) (zB (zE jD (zE jD (zF 11) (zF 4)) (zF 10)) (zB (zE jD (zF 3) (zF 9)) zP)))))))))
noncomputable def K77.L_pieces.g:FS:=(qH (yK 4 (zE jD (zA (.int 1)) (zE ixD (mkL (zU (zB (zE yB (zE jK (zF 2) (zA (.int 8))) (zA (.int 4))) (zB (zE yB (zE jK (zF 2) (zA (.int 8))) (zE powD (zA (.int 10)) (zA (.int 40)))) zP)))) (zE jK (zE yB (zF 2) (zA (.int 8))) (zA (.int 6))))))
 (qH (yK 5 (zE jD (zE jD (zF 4) (zA (.int 2))) (zE ixD (mkL (zU (zB (zE yB (zE jK (zF 2) (zA (.int 8))) (zA (.int 3))) (zB (zE yB (zE jK (zF 2) (zA (.int 8))) (zE powD (zA (.int 10)) (zA (.int 30)))) zP)))) (zE yB (zE jK (zE yB (zF 2) (zA (.int 8))) (zA (.int 4))) (zA (.int 2))))))
 (qH (yK 6 (zE eqD (zE yB (zF 2) (zA (.int 4))) (zA (.int 3))))
 (qH (setOG 7 (zU zP))
 (qH (forG (viaA (mkL (srtDI (zF 0))) asLT) (zL 8) K77.L_pieces.b1)
 (retXG 7))))))
noncomputable def K77.L_pieces.f:List D->Option Ret:=runG K77.L_pieces.g 12
noncomputable def K77.L_refused.g:FS:=(qH (tryG2 2 2 10 (dropG (qF 1 GP.fewest.f (zB (zF 0) zP))) (callX 1 K77.X_fewest_2.f (zB (zF 0) zP)) (callX 1 K77.X_fewest_10.f (zB (zF 0) zP))
 (qH (yK 3 (isxG 2 [(2,false),(10,false)]))
 (retG (andV (notV (zZ 3)) (andV (isxG 2 [(2,true),(10,true)]) (zE eqD (mkL (zU (zB (isxG 2 [(2,true),(10,false)]) (zB (isxG 2 [(2,false),(10,true)]) zP)))) (zF 1)))))))
 (retG (zA (.bl false))))
noncomputable def K77.L_refused.f:List D->Option Ret:=runG K77.L_refused.g 4
noncomputable def K77.L_is_rule.g:FS:=(qH (ifG (orT (notT (testT (isiG "tuple" (zF 0)))) (orT (zT (zE neD (callB lenD (zB (zF 0) zP)) (zA (.int 5)))) (notT (testT (callB allD (zB (mkL (compG (viaA (zZ 0) asLT) [none] (zL 0) (fun _=>some true) (qF 1 GL.whole.f (zB (zF 0) zP)))) zP)))))) (retG (zA (.bl false))) jS)
 (qH (ifG (orT (zT (zE geD (zE ixD (zF 0) (zA (.int 0))) (zE ixD (zF 0) (zA (.int 1))))) (orT (zT (zE ltD (zE ixD (zF 0) (zA (.int 3))) (zA (.int 1)))) (zT (zE gtD (zE ixD (zF 0) (zA (.int 3))) (zA (.int 100)))))) (retG (zA (.bl false))) jS)
 (qH (ifG (zT (zE eqD (zE ixD (zF 0) (zA (.int 3))) (zA (.int 1)))) (retG (zE eqD (zE ixD (zF 0) (zA (.int 2))) (zA (.int 0)))) jS)
 (retG (zE gtD (zE ixD (zF 0) (zA (.int 2))) (zE subD (zE ixD (zF 0) (zA (.int 1))) (zE ixD (zF 0) (zA (.int 0)))))))))
noncomputable def K77.L_is_rule.f:List D->Option Ret:=runG K77.L_is_rule.g 1
noncomputable def K77.L_exact.b1:FS:=(appG 2 (mkT (zU (zB (zE jD (zE ixD (zF 3) (zA (.int 0))) (zE jL (zF 4) (zE ixD (zF 3) (zA (.int 2))))) (zB (zE jD (zE ixD (zF 3) (zA (.int 1))) (zE jL (zF 4) (zE ixD (zF 3) (zA (.int 2))))) (zB (zE ixD (zF 3) (zA (.int 4))) zP))))))
noncomputable def K77.L_exact.b2:FS:=(qH (ifG (notT (testT (qF 1 K77.L_is_rule.f (zB (zF 3) zP)))) (retG (zA (.bl false))) jS)
 (forG (rng1 (zE ixD (zF 3) (zA (.int 3)))) (zL 4) K77.L_exact.b1))
noncomputable def K77.L_exact.g:FS:=(qH (setOG 2 (zU zP))
 (qH (forG (viaA (zZ 0) asLT) (zL 3) K77.L_exact.b2)
 (fun ds=>(retG (andV (callB allD (zB (mkL (compG (viaA (zZ 2) asLT) [none,some 1] (zL 0) (fun _=>some true) (zE (inE false) (zF 0) (zF 1)))) zP)) (callB allD (zB (mkL (compG (viaA (zZ 1) asLT) [none,some 2] (zL 0) (fun _=>some true) (zE (inE false) (zF 0) (zF 1)))) zP)))) (relS 2 ds))))
noncomputable def K77.L_exact.f:List D->Option Ret:=runG K77.L_exact.g 5
noncomputable def K77.L_can.b1:FS:=(yK 9 (zE jD (zF 9) (zA (.int 1))))
noncomputable def K77.L_can.b2 (F:List D->Option Ret):FS:=(ifG (andT (zT (zE gtD (zE ixD (zF 7) (zA (.int 0))) (zF 3))) (andT (zT (zE eqD (zE subD (zE ixD (zF 7) (zA (.int 1))) (zE ixD (zF 7) (zA (.int 0)))) (zE subD (zF 4) (zF 3)))) (zT (zE eqD (zE ixD (zF 7) (zA (.int 2))) (zF 5))))) (qH (yK 6 (zA (.bl false)))
 (qH (yK 8 (zE subD (zE ixD (zF 7) (zA (.int 0))) (zF 3)))
 (qH (yK 9 (zA (.int 1)))
 (qH (whileN (zT (zE (inE false) (mkT (zU (zB (zE jD (zF 3) (zE jL (zF 9) (zF 8))) (zB (zE jD (zF 4) (zE jL (zF 9) (zF 8))) (zB (zZ 5) zP))))) (zF 0))) K77.L_can.b1 100000)
 (qH (yK 10 (mkL (compG (rng1 (zZ 9)) [none,some 5,some 3,some 4,some 8] (zL 0) (fun _=>some true) (mkT (zU (zB (zE jD (zF 2) (zE jL (zF 0) (zF 4))) (zB (zE jD (zF 3) (zE jL (zF 0) (zF 4))) (zB (zZ 1) zP))))))))
 (ifG (testT (qF 3 F (zB (zF 0) (zB (mkL (compG (viaA (zZ 1) asLT) [none,some 10] (zL 0) (zT (zE (inE true) (zF 0) (zF 1))) (zZ 0))) (zB (zE subD (zF 2) (zA (.int 1))) zP))))) (retG (zA (.bl true))) jS)))))) jS)
noncomputable def K77.L_can.g (F:List D->Option Ret):FS:=(qH (ifG (orT (zT (zE eqD (zF 1) (mkL (zU zP)))) (zT (zE eqD (zF 2) (zA (.int 0))))) (retG (zE eqD (zF 1) (mkL (zU zP)))) jS)
 (qH (asgG (tupG 3 (zO (zL 3) (zO (zL 4) (zO (zL 5) tgNil)))) (zE ixD (zF 1) (zA (.int 0))))
 (qH (yK 6 (zA (.bl true)))
 (qH (forG (viaA (zZ 0) asLT) (zL 7) (K77.L_can.b2 F))
 (retG (andV (zZ 6) (qF 3 F (zB (zF 0) (zB (mkL (sliA (zF 1) (soP (zA (.int 1))) noP)) (zB (zE subD (zF 2) (zA (.int 1))) zP))))))))))
noncomputable def K77.L_can.f:Nat->List D->Option Ret
 | 0=>runG (fun _=>none) 11
 | n+1=>runG (K77.L_can.g (K77.L_can.f n)) 11
noncomputable def K77.law.g:FS:=(qH (yK 1 (qF 2 GL.cell_at.f (zB (zF 0) (zB (zA (.int 0)) zP))))
 (qH (yK 2 (qF 2 K77.L_slots.f (zB (mkL (sliA (zF 0) (soP (zA (.int 4))) noP)) (zB (zE ixD (mkL (zU (zB (zA (.int 8)) (zB (zA (.int 8)) (zB (zA (.int 8)) (zB (zA (.int 22)) (zB (zA (.int 8)) (zB (zA (.int 8)) zP)))))))) (zE yB (zF 1) (zA (.int 6)))) zP))))
 (qH (yK 3 (zE powD (zE powD (zA (.int 10)) (zA (.int 60))) (zA (.int 8))))
 (qH (yK 4 (zE subD (zE yB (qF 2 GL.cell_at.f (zB (zF 0) (zB (zA (.int 1)) zP))) (zE jD (zE jL (zA (.int 2)) (zF 3)) (zA (.int 1)))) (zF 3)))
 (qH (yK 5 (zE subD (zE yB (qF 2 GL.cell_at.f (zB (zF 0) (zB (zA (.int 3)) zP))) (zE jD (zE jL (zA (.int 2)) (zE powD (zA (.int 10)) (zA (.int 60)))) (zA (.int 1)))) (zE powD (zA (.int 10)) (zA (.int 60)))))
 (qH (setOG 6 (callF 4 K77.L_pieces.f (zB (zF 2) (zB (zF 4) (zB (qF 2 GL.cell_at.f (zB (zF 0) (zB (zA (.int 2)) zP))) (zB (zF 5) zP))))))
 (qH (ifG (andT (zT (zE neD (zF 6) (mkL (zU zP)))) (zT (zE eqD (zE yB (zE jK (zF 1) (zA (.int 6))) (zA (.int 8))) (zA (.int 1))))) (qH (putG 6 (zA (.int 0)) (mkT (zU (zB (zA .non) (zB (zE ixD (zE ixD (zF 6) (zA (.int 0))) (zA (.int 1))) (zB (zE ixD (zE ixD (zF 6) (zA (.int 0))) (zA (.int 2))) zP))))))
 (retG (qF 2 K77.L_refused.f (zB (zF 6) (zB (mkL (zU (zB (zA (.bl true)) (zB (zA (.bl false)) zP)))) zP))))) jS)
 (qH (ifG (andT (zT (zE neD (zF 6) (mkL (zU zP)))) (zT (zE eqD (zE yB (zE jK (zF 1) (zA (.int 6))) (zA (.int 8))) (zA (.int 2))))) (qH (putG 6 (un1 negD (zA (.int 1))) (mkT (zU (zB (zE ixD (zE ixD (zF 6) (un1 negD (zA (.int 1)))) (zA (.int 0))) (zB (zA .non) (zB (zE ixD (zE ixD (zF 6) (un1 negD (zA (.int 1)))) (zA (.int 2))) zP))))))
 (retG (qF 2 K77.L_refused.f (zB (zF 6) (zB (mkL (zU (zB (zA (.bl true)) (zB (zA (.bl false)) zP)))) zP))))) jS)
 (qH (ifG (zT (zE gtD (callB lenD (zB (zF 6) zP)) (zA (.int 8)))) (retG (qF 2 K77.L_refused.f (zB (zF 6) (zB (mkL (zU (zB (zA (.bl false)) (zB (zA (.bl true)) zP)))) zP)))) jS)
 (qH (yK 7 (mkL (lisA (zF 6))))
 (qH (yK 8 (qF 1 GP.fewest.f (zB (zF 7) zP)))
 (qH (ifG (orT (notT (testT (isiG "list" (zF 8)))) (orT (zT (zE neD (zF 7) (zF 6))) (notT (testT (qF 2 K77.L_exact.f (zB (zF 8) (zB (zF 6) zP))))))) (retG (zA (.bl false))) jS)
 (retG (orV (zE eqD (zF 8) (mkL (zU zP))) (notV (qF 3 (K77.L_can.f 11) (zB (zF 6) (zB (zF 6) (zB (zE subD (callB lenD (zB (zF 8) zP)) (zA (.int 1))) zP)))))))))))))))))))
noncomputable def K77.law.f:List D->Option Ret:=runG K77.law.g 9
end
namespace K77
open PySem PyProof.Rows L2 FL
noncomputable def top (i:Nat):Stmt:=PySem.Challenge.pw_spanmap_k77_fewest.main.body.getD i (.Pass ⟨0,0,0,0⟩)
structure Glb (K:Frag) (mg:Str->Option Value):Prop where
 b_ValueError:mg "ValueError" = none
 b_all:mg "all" = none
 b_any:mg "any" = none
 b_bool:mg "bool" = none
 b_dict:mg "dict" = none
 b_enumerate:mg "enumerate" = none
 b_int:mg "int" = none
 b_isinstance:mg "isinstance" = none
 b_len:mg "len" = none
 b_list:mg "list" = none
 b_range:mg "range" = none
 b_sorted:mg "sorted" = none
 b_sum:mg "sum" = none
 b_tuple:mg "tuple" = none
 c_MOST_PIECES:∃ t,mg "MOST_PIECES" = some (.int 8 t)
 c_MOST_TIMES:∃ t,mg "MOST_TIMES" = some (.int 100 t)
 n3:NoT3 K
 isx_TooMuch_2_10:∃ D,mg "TooMuch" = some (.ref D)/\IsxOk K (.ref D) [(2,false),(10,true)]
 isx_NoEnd_2_10:∃ D,mg "NoEnd" = some (.ref D)/\IsxOk K (.ref D) [(2,true),(10,false)]
 isxB_ValueError_2_10:IsxOk K (.type "ValueError") [(2,true),(10,true)]
 isxT_0:∃ D3 D1 D4 D8 D7 D6 D12 D9 D5 D11:Addr,mg "Clash" = some (.ref D3)/\mg "Empty" = some (.ref D1)/\mg "NoCount" = some (.ref D4)/\mg "NoDeed" = some (.ref D8)/\mg "NoMark" = some (.ref D7)/\mg "NoName" = some (.ref D6)/\mg "NoRow" = some (.ref D12)/\mg "NoRule" = some (.ref D9)/\mg "NoShare" = some (.ref D5)/\mg "NoText" = some (.ref D11)/\IsxOkT K [.ref D3,.ref D1,.ref D4,.ref D8,.ref D7,.ref D6,.ref D12,.ref D9,.ref D5,.ref D11] [(2,false),(10,false)]
theorem pwI {X:Cx} {i:Int} {k:Nat} {p:Pos} : PVw X (.Constant (.int i) k p) (zA (.int i)):=PV.w jM
theorem pnI {X:Cx} {i:Int} {k:Nat} {p:Pos} : PVn X (.Constant (.int i) k p) (zA (.int i)):=PV.n jM
theorem pnV {X:Cx} (i:Nat) {x:Str} {pos:Pos} (hN:X.N[i]? = some x:=by rfl) (hv:Vis X.env.scope x:=by first | exact Or.inl rfl | exact Or.inr (Or.inl rfl) | exact Or.inr (Or.inr rfl)) (hd:(x == ("__debug__" : Str))=false:=by decide) (hcd:(x == ("__classdict__" : Str))=false:=by decide):PVn X (.Name x pos) (zF i):=(zC i hN hv hd hcd).n
section
variable {P:Program} {w:World} {K:Frag} {mg:Str->Option Value} {base:Heap}
theorem sc_length:FnScope ["one"] ["one"] (zJ (top 15)):={}
theorem fok_length {f:Addr} {fd:FuncData} (Fn:Fun K "length" "length" (top 15) f fd) (T:Glb K mg)  : FnOk P w K mg base CX0 1 f fd ["one"] (spF K 1 GP.length.f):=by
 have nd:=sc_length.nd
 refine qY (k:=0) (g:=GP.length.g) Fn sc_length (fun cdv A outer s H E hr=>?_) (fun ds r hl e=>qE e)
 exact (zD (qT (PWv.t (yN (pt_is (PV.n (zY (zC 0) pwI)) (PV.n xQ)) (yX (pt_is (PV.n (zY (zC 0) pwI)) (PV.n xQ))))) (zH (qD (PV.w xQ))) qC)
  (zH (qD (PV.w (jH (PV.w (zY (zC 0) pwI)) (PV.w (zY (zC 0) pwI)))))))
theorem sc_is_rule:FnScope ["rule","wide","step","times"] ["rule"] (zJ (top 19)):={}
theorem fok_is_rule {f:Addr} {fd:FuncData} (Fn:Fun K "is_rule" "is_rule" (top 19) f fd) (T:Glb K mg)  : FnOk P w K mg base CX0 1 f fd ["rule"] (spF K 1 GP.is_rule.f):=by
 have nd:=sc_is_rule.nd
 refine qY (k:=0) (g:=GP.is_rule.g) Fn sc_is_rule (fun cdv A outer s H E hr=>?_) (fun ds r hl e=>qE e)
 exact (zD (qA (i:=1) nd (jH (PV.w (zY (zC 0) pwI)) (PV.w (zY (zC 0) pwI))))
  (zD (qA (i:=2) nd (zY (zC 0) pwI))
  (zD (qA (i:=3) nd (zY (zC 0) pwI))
  (zD (qT (PWv.t (yN (pt_lt (zC 1) pwI) (yN (pt_lt (zC 3) pwI) (yX (pt_gt (zC 3) (PV.w (vP T.c_MOST_TIMES))))))) (zH (qD (PV.w yW))) qC)
  (zH (qD (PV.w (pv_if (kF hr (pnV 3) pnI) (pv_eq hr (pnV 2) pnI) (pv_gt (zC 2) (zC 1))))))))))
theorem sc_stretches:FnScope ["rule","step"] ["rule"] (zJ (top 18)):={}
theorem fok_stretches {f:Addr} {fd:FuncData} (Fn:Fun K "stretches" "stretches" (top 18) f fd) (T:Glb K mg) (C_is_rule:Cal P w K mg base "is_rule" 1 1 GP.is_rule.f):FnOk P w K mg base CX0 2 f fd ["rule"] (spF K 1 GP.stretches.f):=by
 have nd:=sc_stretches.nd
 have nI0:(["number","rule","step"]:List Str).Nodup:=by decide +kernel
 refine qY (k:=1) (g:=GP.stretches.g) Fn sc_stretches (fun cdv A outer s H E hr=>?_) (fun ds r hl e=>qE e)
 exact (zD (qT (xJ (PVn.t (PV.n (zS C_is_rule hr (zI (pnV 0) zX))))) (zH xA) qC)
  (zD (qA (i:=1) nd (zY (zC 0) pwI))
  (zH (vX (jB (NY:=["number","rule","step"]) (mp:=[none,some 0,some 1]) (qG (by kernel_rfl)) rfl (jU T.b_range (zY (zC 0) pwI)) (fun c=>(zK (i:=0) nI0)) (fun c=>jV) (fun c=>(jR (zG (zV (PV.w (zY (zC 1) pwI)) (PV.w (qM (zC 0) (zC 2)))) (zG (zV (PV.w (zY (zC 1) pwI)) (PV.w (qM (zC 0) (zC 2)))) zR)))))))))
theorem sc_bits_of:FnScope ["pieces","bits","bit","piece"] ["pieces"] (zJ (top 23)):={}
theorem fok_bits_of {f:Addr} {fd:FuncData} (Fn:Fun K "bits_of" "bits_of" (top 23) f fd) (T:Glb K mg)  : FnOk P w K mg base CX0 1 f fd ["pieces"] (spF K 1 GP.bits_of.f):=by
 have nd:=sc_bits_of.nd
 refine qY (k:=0) (g:=GP.bits_of.g) Fn sc_bits_of (fun cdv A outer s H E hr=>?_) (fun ds r hl e=>qE e)
 exact (pssv_bits T.n3 hr PassesOwn.never rfl nd)
theorem sc_least_cover:FnScope ["rules","full","best","made","rule","bits","more"] ["rules","full"] (zJ (top 28)):={}
theorem fok_least_cover {f:Addr} {fd:FuncData} (Fn:Fun K "least_cover" "least_cover" (top 28) f fd) (T:Glb K mg)  : FnOk P w K mg base CX0 1 f fd ["rules","full"] (spF K 2 GP.least_cover.f):=by
 have nd:=sc_least_cover.nd
 refine qY (k:=0) (g:=GP.least_cover.g) Fn sc_least_cover (fun cdv A outer s H E hr=>?_) (fun ds r hl e=>qE e)
 exact (zD (vZ (i:=2) nd (pvo_d1N jM (pvo_l (qU zR))))
  (zD (yD PassesOwn.never rfl (jU T.b_range (zN 1)) (zK (i:=3) nd) (zH (yD PassesOwn.never rfl (qX (zN 0)) (yH (n:=2) rfl (zQ (zK (i:=4) nd) (zQ (zK (i:=5) nd) jT))) (zD (qA (i:=6) nd (pv_orI (zC 3) (zC 5)))
  (zH (qT (ptv_relO 2 (PWv.t (yN (ptv_dnot hr (pnV 6) (pnV 2)) (yX (pt_gt (PV.w (xD T.b_len (qL (PV.w (vY hr (zN 2) (zN 6))) qW))) (PV.w (zV (PV.w (xD T.b_len (qL (PV.w (vY hr (zN 2) (zN 3))) qW))) pwI))))))) (zH (psv_dputO hr (pvp_var 2) (zN 6) (pvo_l (pvf_relO 2 (pvf_cat (PV.w (vY hr (zN 2) (zN 3))) (PV.w (PVf.s (qU (zG (zN 4) zR))))))))) qC))))))
  (zH (psv_retDP 2 hr (zN 1)))))
theorem sc_alike:FnScope ["piece","other"] ["piece","other"] (zJ (top 25)):={}
theorem fok_alike {f:Addr} {fd:FuncData} (Fn:Fun K "alike" "alike" (top 25) f fd) (T:Glb K mg)  : FnOk P w K mg base CX0 1 f fd ["piece","other"] (spF K 2 GP.alike.f):=by
 have nd:=sc_alike.nd
 refine qY (k:=0) (g:=GP.alike.g) Fn sc_alike (fun cdv A outer s H E hr=>?_) (fun ds r hl e=>qE e)
 exact (zH (qD (PV.w (wQ (pv_eq hr (PV.n (jH (PV.w (zY (zC 0) pwI)) (PV.w (zY (zC 0) pwI)))) (PV.n (jH (PV.w (zY (zC 1) pwI)) (PV.w (zY (zC 1) pwI))))) (wU (pv_eq hr (PV.n (zY (zC 0) pwI)) (PV.n (zY (zC 1) pwI))))))))
theorem sc_bits_made:FnScope ["rule","bits"] ["rule","bits"] (zJ (top 27)):={}
theorem fok_bits_made {f:Addr} {fd:FuncData} (Fn:Fun K "bits_made" "bits_made" (top 27) f fd) (T:Glb K mg) (C_stretches:Cal P w K mg base "stretches" 2 1 GP.stretches.f):FnOk P w K mg base CX0 3 f fd ["rule","bits"] (spF K 2 GP.bits_made.f):=by
 have nd:=sc_bits_made.nd
 have nI0:(["low","behind","bits","rule"]:List Str).Nodup:=by decide +kernel
 refine qY (k:=2) (g:=GP.bits_made.g) Fn sc_bits_made (fun cdv A outer s H E hr=>?_) (fun ds r hl e=>qE e)
 exact (zH (qD (PV.w (pv_sum rfl T.b_sum (qL (PV.w (PVf.s (jB (NY:=["low","behind","bits","rule"]) (mp:=[none,none,some 1,some 0]) (qG (by kernel_rfl)) rfl (qX (zS C_stretches hr (zI (pnV 0) zX))) (fun c=>(yH (n:=2) rfl (zQ (zK (i:=0) nI0) (zQ (zK (i:=1) nI0) jT)))) (fun c=>jV) (fun c=>(pv_tget T.n3 hr (zN 2) (jR (zG (zN 0) (zG (zN 1) (zG (zY (zC 3) pwI) zR))))))))) qW)))))
theorem sc_longest_rule:FnScope ["piece","step","bits","times"] ["piece","step","bits"] (zJ (top 26)):={}
theorem fok_longest_rule {f:Addr} {fd:FuncData} (Fn:Fun K "longest_rule" "longest_rule" (top 26) f fd) (T:Glb K mg)  : FnOk P w K mg base CX0 1 f fd ["piece","step","bits"] (spF K 3 GP.longest_rule.f):=by
 have nd:=sc_longest_rule.nd
 refine qY (k:=0) (g:=GP.longest_rule.g) Fn sc_longest_rule (fun cdv A outer s H E hr=>?_) (fun ds r hl e=>qE e)
 exact (zD (qA (i:=3) nd jM)
  (zD (psv_while 100000 PassesOwn.never (ptv_tin T.n3 hr (PV.n (jR (zG (zV (PV.w (zY (zC 0) pwI)) (PV.w (qM (zC 3) (zC 1)))) (zG (zV (PV.w (zY (zC 0) pwI)) (PV.w (qM (zC 3) (zC 1)))) (zG (zY (zC 0) pwI) zR))))) (pnV 2)) (zH (psv_augA (i:=3) nd jM)))
  (zH (qD (PV.w (jR (zG (zY (zC 0) pwI) (zG (zY (zC 0) pwI) (zG (zN 1) (zG (zN 3) (zG (zY (zC 0) pwI) zR)))))))))))
theorem sc_covers:FnScope ["pieces","bits","rules","number","piece","other"] ["pieces","bits"] (zJ (top 24)):={}
theorem fok_covers {f:Addr} {fd:FuncData} (Fn:Fun K "covers" "covers" (top 24) f fd) (T:Glb K mg) (C_alike:Cal P w K mg base "alike" 1 2 GP.alike.f) (C_bits_made:Cal P w K mg base "bits_made" 3 2 GP.bits_made.f) (C_longest_rule:Cal P w K mg base "longest_rule" 1 3 GP.longest_rule.f):FnOk P w K mg base CX0 4 f fd ["pieces","bits"] (spF K 2 GP.covers.f):=by
 have nd:=sc_covers.nd
 have nI0:(["low","behind","value"]:List Str).Nodup:=by decide +kernel
 have nI1:(["rule","bits"]:List Str).Nodup:=by decide +kernel
 refine qY (k:=3) (g:=GP.covers.g) Fn sc_covers (fun cdv A outer s H E hr=>?_) (fun ds r hl e=>qE e)
 exact (zD (psv_comp (i:=2) nd (NY:=["low","behind","value"]) (mp:=[none,none,none]) (qG (by kernel_rfl)) rfl (qX (zN 0)) (fun c=>(yH (n:=3) rfl (zQ (zK (i:=0) nI0) (zQ (zK (i:=1) nI0) (zQ (zK (i:=2) nI0) jT))))) (fun c=>jV) (fun c=>(jR (zG (zN 0) (zG (zN 1) (zG jM (zG jM (zG (zN 2) zR))))))))
  (zD (yD PassesOwn.never rfl (piv_enum T.b_enumerate (zN 0)) (yH (n:=2) rfl (zQ (zK (i:=3) nd) (zQ (zK (i:=4) nd) jT))) (zH (yD PassesOwn.never rfl (qX (PVf.s (wL (zC 0) (pov_so (PV.w (zV (zC 3) pwI))) pov_no))) (zK (i:=5) nd) (zH (qT (PVn.t (PV.n (zS C_alike hr (zI (pnV 4) (zI (pnV 5) zX))))) (zH (vM (i:=2) (zS C_longest_rule hr (zI (pnV 4) (zI (PV.n (jH (PV.w (zY (zC 5) pwI)) (PV.w (zY (zC 4) pwI)))) (zI (pnV 1) zX)))))) qC)))))
  (zH (psv_rel 2 (vX (jB (NY:=["rule","bits"]) (mp:=[none,some 1]) (qG (by kernel_rfl)) rfl (qX (zN 2)) (fun c=>(zK (i:=0) nI1)) (fun c=>jV) (fun c=>(jR (zG (zN 0) (zG (zS C_bits_made hr (zI (pnV 0) (zI (pnV 1) zX))) zR))))))))))
theorem sc_fewest:FnScope ["pieces","bits"] ["pieces"] (zJ (top 22)):={}
theorem fok_fewest {f:Addr} {fd:FuncData} (Fn:Fun K "fewest" "fewest" (top 22) f fd) (T:Glb K mg) (C_bits_of:Cal P w K mg base "bits_of" 1 1 GP.bits_of.f) (C_least_cover:Cal P w K mg base "least_cover" 1 2 GP.least_cover.f) (C_covers:Cal P w K mg base "covers" 4 2 GP.covers.f) (C_length:Cal P w K mg base "length" 1 1 GP.length.f):FnOk P w K mg base CX0 5 f fd ["pieces"] (spF K 1 GP.fewest.f):=by
 have nd:=sc_fewest.nd
 have nI0:(["low","behind","value"]:List Str).Nodup:=by decide +kernel
 refine qY (k:=4) (g:=GP.fewest.g) Fn sc_fewest (fun cdv A outer s H E hr=>?_) (fun ds r hl e=>qE e)
 exact (zD (qT (PVn.t (PV.n (pv_any rfl T.b_any (qL (PV.w (PVf.s (jB (NY:=["low","behind","value"]) (mp:=[none,none,none]) (qG (by kernel_rfl)) rfl (qX (zN 0)) (fun c=>(yH (n:=3) rfl (zQ (zK (i:=0) nI0) (zQ (zK (i:=1) nI0) (zQ (zK (i:=2) nI0) jT))))) (fun c=>jV) (fun c=>(pv_is (PV.n (zS C_length hr (zI (PV.n (jR (zG (zN 0) (zG (zN 1) zR)))) zX))) (PV.n xQ)))))) qW)))) (zH xA) qC)
  (zD (qT (pt_gt (PV.w (xD T.b_len (qL (zC 0) qW))) (PV.w (vP T.c_MOST_PIECES))) (zH xA) qC)
  (zD (qA (i:=1) nd (zS C_bits_of hr (zI (pnV 0) zX)))
  (zH (vX (pvf_callC C_least_cover hr (zI (PV.n (zS C_covers hr (zI (pnV 0) (zI (pnV 1) zX)))) (zI (PV.n (pv_sumV rfl T.b_sum (zN 1))) zX))))))))
theorem body_fewest_2 {f XC:Addr} (T:Glb K mg) (C_bits_of:Cal P w K mg base "bits_of" 1 1 GP.bits_of.f) (C_least_cover:Cal P w K mg base "least_cover" 1 2 GP.least_cover.f) (C_covers:Cal P w K mg base "covers" 4 2 GP.covers.f) (C_length:Cal P w K mg base "length" 1 1 GP.length.f) (R:XR K mg 2 XC) (cdv:Value) (A:Around) (outer:List Env) (s:Shared) (H:Hp) (E:XK) (hr:Room 4 (A.deeper (envOfC "fewest" (zJ (top 22)) s.heap.objs.size f cdv))) :
  PSsy (cxOf (CXM P w) P w K mg base ["pieces","bits"] "fewest" (zJ (top 22)) f cdv A outer s H E) E XC (jE (top 22)) K77.X_fewest_2.x:=by
 have nd:(["pieces","bits"]:List Str).Nodup:=sc_fewest.nd
 have nI0:(["low","behind","value"]:List Str).Nodup:=by decide +kernel
 exact (xB (psy_if (PVn.t (PV.n (pv_any rfl T.b_any (qL (PV.w (PVf.s (jB (NY:=["low","behind","value"]) (mp:=[none,none,none]) (qG (by kernel_rfl)) rfl (qX (zN 0)) (fun c=>(yH (n:=3) rfl (zQ (zK (i:=0) nI0) (zQ (zK (i:=1) nI0) (zQ (zK (i:=2) nI0) jT))))) (fun c=>jV) (fun c=>(pv_is (PV.n (zS C_length hr (zI (PV.n (jR (zG (zN 0) (zG (zN 1) zR)))) zX))) (PV.n xQ)))))) qW)))) (xB (PSx.y (psx_raise R.cls R.gl))
  xL) (pssy_never xL))
  xL)
theorem fokx_fewest_2 {f XC:Addr} {fd:FuncData} (Fn:Fun K "fewest" "fewest" (top 22) f fd) (T:Glb K mg) (C_bits_of:Cal P w K mg base "bits_of" 1 1 GP.bits_of.f) (C_least_cover:Cal P w K mg base "least_cover" 1 2 GP.least_cover.f) (C_covers:Cal P w K mg base "covers" 4 2 GP.covers.f) (C_length:Cal P w K mg base "length" 1 1 GP.length.f) (R:XR K mg 2 XC):FnOk P w K mg base (CXM P w) 5 f fd ["pieces"] (spX K 1 K77.X_fewest_2.f XC) :=
 fun_okY (k:=4) (g:=K77.X_fewest_2.x) Fn sc_fewest (fun cdv A outer s H E hr=>body_fewest_2 T C_bits_of C_least_cover C_covers C_length R cdv A outer s H E hr) (fun ds hl e=>e)
theorem body_fewest_10 {f XC:Addr} (T:Glb K mg) (C_bits_of:Cal P w K mg base "bits_of" 1 1 GP.bits_of.f) (C_least_cover:Cal P w K mg base "least_cover" 1 2 GP.least_cover.f) (C_covers:Cal P w K mg base "covers" 4 2 GP.covers.f) (C_length:Cal P w K mg base "length" 1 1 GP.length.f) (R:XR K mg 10 XC) (cdv:Value) (A:Around) (outer:List Env) (s:Shared) (H:Hp) (E:XK) (hr:Room 4 (A.deeper (envOfC "fewest" (zJ (top 22)) s.heap.objs.size f cdv))) :
  PSsy (cxOf (CXM P w) P w K mg base ["pieces","bits"] "fewest" (zJ (top 22)) f cdv A outer s H E) E XC (jE (top 22)) K77.X_fewest_10.x:=by
 have nd:(["pieces","bits"]:List Str).Nodup:=sc_fewest.nd
 have nI0:(["low","behind","value"]:List Str).Nodup:=by decide +kernel
 exact (pssy_tail (qT (PVn.t (PV.n (pv_any rfl T.b_any (qL (PV.w (PVf.s (jB (NY:=["low","behind","value"]) (mp:=[none,none,none]) (qG (by kernel_rfl)) rfl (qX (zN 0)) (fun c=>(yH (n:=3) rfl (zQ (zK (i:=0) nI0) (zQ (zK (i:=1) nI0) (zQ (zK (i:=2) nI0) jT))))) (fun c=>jV) (fun c=>(pv_is (PV.n (zS C_length hr (zI (PV.n (jR (zG (zN 0) (zG (zN 1) zR)))) zX))) (PV.n xQ)))))) qW)))) (zH xA) qC)
  (xB (psy_if (pt_gt (PV.w (xD T.b_len (qL (zC 0) qW))) (PV.w (vP T.c_MOST_PIECES))) (xB (PSx.y (psx_raise R.cls R.gl))
  xL) (pssy_never xL))
  xL))
theorem fokx_fewest_10 {f XC:Addr} {fd:FuncData} (Fn:Fun K "fewest" "fewest" (top 22) f fd) (T:Glb K mg) (C_bits_of:Cal P w K mg base "bits_of" 1 1 GP.bits_of.f) (C_least_cover:Cal P w K mg base "least_cover" 1 2 GP.least_cover.f) (C_covers:Cal P w K mg base "covers" 4 2 GP.covers.f) (C_length:Cal P w K mg base "length" 1 1 GP.length.f) (R:XR K mg 10 XC):FnOk P w K mg base (CXM P w) 5 f fd ["pieces"] (spX K 1 K77.X_fewest_10.f XC) :=
 fun_okY (k:=4) (g:=K77.X_fewest_10.x) Fn sc_fewest (fun cdv A outer s H E hr=>body_fewest_10 T C_bits_of C_least_cover C_covers C_length R cdv A outer s H E hr) (fun ds hl e=>e)
theorem sc__law_cell_at:FnScope ["_law_script","_law_k"] ["_law_script","_law_k"] (zJ (top 30)):={}
theorem fok__law_cell_at {f:Addr} {fd:FuncData} (Fn:Fun K "_law_cell_at" "_law_cell_at" (top 30) f fd) (T:Glb K mg)  : FnOk P w K mg base CX0 1 f fd ["_law_script","_law_k"] (spF K 2 GL.cell_at.f):=by
 have nd:=sc__law_cell_at.nd
 refine qY (k:=0) (g:=GL.cell_at.g) Fn sc__law_cell_at (fun cdv A outer s H E hr=>?_) (fun ds r hl e=>qE e)
 exact (zD (qT (pt_lt (zC 1) (PV.w (xD T.b_len (qL (zC 0) qW)))) (zH (qD (PV.w (zY (zC 0) (zC 1))))) qC)
  (zH (qD pwI)))
theorem sc__law_whole:FnScope ["_law_found"] ["_law_found"] (zJ (top 31)):={}
theorem fok__law_whole {f:Addr} {fd:FuncData} (Fn:Fun K "_law_whole" "_law_whole" (top 31) f fd) (T:Glb K mg)  : FnOk P w K mg base CX0 1 f fd ["_law_found"] (spF K 1 GL.whole.f):=by
 have nd:=sc__law_whole.nd
 refine qY (k:=0) (g:=GL.whole.g) Fn sc__law_whole (fun cdv A outer s H E hr=>?_) (fun ds r hl e=>qE e)
 exact (zH (qD (PV.w (wQ (pv_isi T.b_isinstance T.b_int (by decide +kernel) (zC 0)) (wU (pv_not (pv_isi T.b_isinstance T.b_bool (by decide +kernel) (zC 0))))))))
theorem sc__law_slots:FnScope ["_law_cells","_law_most","_law_slots_here","_law_k","_law_mixed","_law_more","_law_j"] ["_law_cells","_law_most"] (zJ (top 32)):={}
theorem fok__law_slots {f:Addr} {fd:FuncData} (Fn:Fun K "_law_slots" "_law_slots" (top 32) f fd) (T:Glb K mg)  : FnOk P w K mg base CX0 1 f fd ["_law_cells","_law_most"] (spF K 2 K77.L_slots.f):=by
 have nd:=sc__law_slots.nd
 refine qY (k:=0) (g:=K77.L_slots.g) Fn sc__law_slots (fun cdv A outer s H E hr=>?_) (fun ds r hl e=>qE e)
 exact (zD (vZ (i:=2) nd pvo_dnew)
  (zD (yD PassesOwn.never rfl (jU T.b_range (xD T.b_len (qL (zC 0) qW))) (zK (i:=3) nd) (zD (qA (i:=4) nd (qJ (PV.w (zV (PV.w (zV (PV.w (qM (PV.w (zY (zC 0) (zC 3))) pwI)) (PV.w (qM (PV.w (qM (zC 3) (zC 3))) pwI)))) pwI)) pwI))
  (zD (qA (i:=4) nd (qJ (PV.w (qM (zC 4) (zC 4))) pwI))
  (zD (vZ (i:=5) nd (pvo_relO 2 (pvo_dcopy T.b_dict (zN 2))))
  (zD (yD PassesOwn.never rfl (jU T.b_range (zV pwI (PV.w (qJ (PV.w (jJ (zC 4) pwI)) pwI)))) (zK (i:=6) nd) (zH (psv_dput hr (pvp_var 5) (zV (PV.w (qJ (zC 4) pwI)) (PV.w (qM (zC 6) (PV.w (zV pwI (PV.w (qJ (PV.w (jJ (zC 4) pwI)) pwI))))))) (jR (zG (jJ (PV.w (qJ (PV.w (jJ (zC 4) pwI)) pwI)) pwI) (zG (jJ (PV.w (qJ (PV.w (jJ (zC 4) pwI)) pwI)) pwI) zR))))))
  (zH (qT (pt_le (PV.w (pv_relO 5 (pv_dlen T.b_len (zN 5)))) (zC 1)) (zH (psv_mvT 2 5 nd)) qC)))))))
  (zH (psv_retE (pve_tree 2)))))
theorem sc__law_pieces:FnScope ["_law_slots_here","_law_begin","_law_cell","_law_value","_law_long","_law_wide","_law_touching","_law_pieces_here","_law_slot","_law_kind","_law_longer","_law_low"] ["_law_slots_here","_law_begin","_law_cell","_law_value"] (zJ (top 33)):={}
theorem fok__law_pieces {f:Addr} {fd:FuncData} (Fn:Fun K "_law_pieces" "_law_pieces" (top 33) f fd) (T:Glb K mg)  : FnOk P w K mg base CX0 1 f fd ["_law_slots_here","_law_begin","_law_cell","_law_value"] (spF K 4 K77.L_pieces.f):=by
 have nd:=sc__law_pieces.nd
 refine qY (k:=0) (g:=K77.L_pieces.g) Fn sc__law_pieces (fun cdv A outer s H E hr=>?_) (fun ds r hl e=>qE e)
 exact (zD (qA (i:=4) nd (zV pwI (PV.w (zY (PV.w (PVf.s (qU (zG (qJ (PV.w (jJ (zC 2) pwI)) pwI) (zG (qJ (PV.w (jJ (zC 2) pwI)) (PV.w (xK pwI pwI))) zR))))) (PV.w (jJ (PV.w (qJ (zC 2) pwI)) pwI))))))
  (zD (qA (i:=5) nd (zV (PV.w (zV (zC 4) pwI)) (PV.w (zY (PV.w (PVf.s (qU (zG (qJ (PV.w (jJ (zC 2) pwI)) pwI) (zG (qJ (PV.w (jJ (zC 2) pwI)) (PV.w (xK pwI pwI))) zR))))) (PV.w (qJ (PV.w (jJ (PV.w (qJ (zC 2) pwI)) pwI)) pwI))))))
  (zD (qA (i:=6) nd (pv_eq hr (PV.n (qJ (zC 2) pwI)) pnI))
  (zD (vS (i:=7) nd (qU zR))
  (zD (yD PassesOwn.never rfl (qX (PVf.s (pvf_sortedDI rfl T.b_sorted (pnV 0)))) (zK (i:=8) nd) (zD (psv_asg (vY hr (zN 0) (zN 8)) (yH (n:=2) rfl (zQ (zK (i:=9) nd) (zQ (zK (i:=10) nd) jT))))
  (zH (qT (PVn.t (pnV 6)) (zD (qA (i:=11) nd (zV (zC 1) (PV.w (qM (zC 8) (zC 4)))))
  (zH (vM (i:=7) (jR (zG (zN 11) (zG (zV (zC 11) (zC 4)) (zG (zV (PV.w (zV (zC 3) (PV.w (qM pwI (zC 9))))) (PV.w (qJ (zC 8) pwI))) zR))))))) (zD (qA (i:=11) nd (zV (zC 1) (PV.w (qM (zC 8) (zC 5)))))
  (zH (vM (i:=7) (jR (zG (zN 11) (zG (zV (PV.w (zV (zC 11) (zC 4))) (zC 10)) (zG (zV (zC 3) (zC 9)) zR)))))))))))
  (zH (psv_retX 7)))))))
theorem sc__law_refused:FnScope ["_law_pieces_here","_law_way","e","_law_other"] ["_law_pieces_here","_law_way"] (zJ (top 34)):={}
theorem fok__law_refused {f:Addr} {fd:FuncData} (Fn:Fun K "_law_refused" "_law_refused" (top 34) f fd) (T:Glb K mg) (C_fewest:Cal P w K mg base "fewest" 5 1 GP.fewest.f) {XS0:Addr} {XC2:Addr} (XT_2:XT K mg 2 "SpanError" XC2 XS0) (CX_fewest_2:CalX P w K mg base "fewest" 5 1 K77.X_fewest_2.f XC2) {XC10:Addr} (XT_10:XT K mg 10 "SpanError" XC10 XS0) (CX_fewest_10:CalX P w K mg base "fewest" 5 1 K77.X_fewest_10.f XC10):FnOk P w K mg base CX0 6 f fd ["_law_pieces_here","_law_way"] (spF K 2 K77.L_refused.f):=by
 have nd:=sc__law_refused.nd
 obtain ⟨D0_3,D0_1,D0_4,D0_8,D0_7,D0_6,D0_12,D0_9,D0_5,D0_11,m0_3,m0_1,m0_4,m0_8,m0_7,m0_6,m0_12,m0_9,m0_5,m0_11,it0⟩:=T.isxT_0
 refine qY (k:=5) (g:=K77.L_refused.g) Fn sc__law_refused (fun cdv A outer s H E hr=>?_) (fun ds r hl e=>qE e)
 exact (zD (psv_try2 (i:=2) (t:=2) (u:=10) nd XT_2.gl XT_2.cat XT_10.cat XT_2.nm XT_10.nm (fun W=>(psv_drop (zS C_fewest hr (zI (pnV 0) zX))))
  (fun W=>thr_expr CX_fewest_2 hr (zI (pnV 0) zX))
  (fun W=>thr_expr CX_fewest_10 hr (zI (pnV 0) zX))
  (fun ea oe xe hH=>(zD (qA (i:=3) nd (pv_isxT (i:=2) T.b_isinstance (jQ m0_3 (jQ m0_1 (jQ m0_4 (jQ m0_8 (jQ m0_7 (jQ m0_6 (jQ m0_12 (jQ m0_9 (jQ m0_5 (jQ m0_11 pac_nil)))))))))) it0))
  (zH (qD (PV.w (wQ (pv_not (zN 3)) (wQ (pv_isxB (i:=2) T.b_isinstance T.b_ValueError T.isxB_ValueError_2_10) (wU (pv_eqH hr (PV.n (PVf.s (qU (zG (pv_isx (i:=2) T.b_isinstance T.isx_NoEnd_2_10) (zG (pv_isx (i:=2) T.b_isinstance T.isx_TooMuch_2_10) zR))))) (pnV 1)))))))))))
  (zH (qD (PV.w yW))))
theorem sc__law_is_rule:FnScope ["_law_rule"] ["_law_rule"] (zJ (top 35)):={}
theorem fok__law_is_rule {f:Addr} {fd:FuncData} (Fn:Fun K "_law_is_rule" "_law_is_rule" (top 35) f fd) (T:Glb K mg) (C__law_whole:Cal P w K mg base "_law_whole" 1 1 GL.whole.f):FnOk P w K mg base CX0 2 f fd ["_law_rule"] (spF K 1 K77.L_is_rule.f):=by
 have nd:=sc__law_is_rule.nd
 have nI0:(["_law_one"]:List Str).Nodup:=by decide +kernel
 refine qY (k:=1) (g:=K77.L_is_rule.g) Fn sc__law_is_rule (fun cdv A outer s H E hr=>?_) (fun ds r hl e=>qE e)
 exact (zD (qT (PWv.t (yN (xJ (PVn.t (PV.n (pv_isi T.b_isinstance T.b_tuple (by decide +kernel) (zC 0))))) (yN (pt_ne hr (PV.n (xD T.b_len (qL (zC 0) qW))) pnI) (yX (xJ (PVn.t (PV.n (pv_all rfl T.b_all (qL (PV.w (PVf.s (jB (NY:=["_law_one"]) (mp:=[none]) (qG (by kernel_rfl)) rfl (qX (zN 0)) (fun c=>(zK (i:=0) nI0)) (fun c=>jV) (fun c=>(zS C__law_whole hr (zI (pnV 0) zX)))))) qW))))))))) (zH (qD (PV.w yW))) qC)
  (zD (qT (PWv.t (yN (pt_ge (PV.w (zY (zC 0) pwI)) (PV.w (zY (zC 0) pwI))) (yN (pt_lt (PV.w (zY (zC 0) pwI)) pwI) (yX (pt_gt (PV.w (zY (zC 0) pwI)) pwI))))) (zH (qD (PV.w yW))) qC)
  (zD (qT (kF hr (PV.n (zY (zC 0) pwI)) pnI) (zH (qD (PV.w (pv_eq hr (PV.n (zY (zC 0) pwI)) pnI)))) qC)
  (zH (qD (PV.w (pv_gt (PV.w (zY (zC 0) pwI)) (PV.w (jH (PV.w (zY (zC 0) pwI)) (PV.w (zY (zC 0) pwI)))))))))))
theorem sc__law_exact:FnScope ["_law_found","_law_pieces_here","_law_made","_law_rule","_law_k"] ["_law_found","_law_pieces_here"] (zJ (top 36)):={}
theorem fok__law_exact {f:Addr} {fd:FuncData} (Fn:Fun K "_law_exact" "_law_exact" (top 36) f fd) (T:Glb K mg) (C__law_is_rule:Cal P w K mg base "_law_is_rule" 2 1 K77.L_is_rule.f):FnOk P w K mg base CX0 3 f fd ["_law_found","_law_pieces_here"] (spF K 2 K77.L_exact.f):=by
 have nd:=sc__law_exact.nd
 have nI0:(["_law_one","_law_pieces_here"]:List Str).Nodup:=by decide +kernel
 have nI1:(["_law_one","_law_made"]:List Str).Nodup:=by decide +kernel
 refine qY (k:=2) (g:=K77.L_exact.g) Fn sc__law_exact (fun cdv A outer s H E hr=>?_) (fun ds r hl e=>qE e)
 exact (zD (vS (i:=2) nd (qU zR))
  (zD (yD PassesOwn.never rfl (qX (zN 0)) (zK (i:=3) nd) (zD (qT (xJ (PVn.t (PV.n (zS C__law_is_rule hr (zI (pnV 3) zX))))) (zH (qD (PV.w yW))) qC)
  (zH (yD PassesOwn.never rfl (jU T.b_range (zY (zC 3) pwI)) (zK (i:=4) nd) (zH (vM (i:=2) (jR (zG (zV (PV.w (zY (zC 3) pwI)) (PV.w (qM (zC 4) (PV.w (zY (zC 3) pwI))))) (zG (zV (PV.w (zY (zC 3) pwI)) (PV.w (qM (zC 4) (PV.w (zY (zC 3) pwI))))) (zG (zY (zC 3) pwI) zR))))))))))
  (zH (psv_rel 2 (qD (PV.w (wQ (pv_all rfl T.b_all (qL (PV.w (PVf.s (jB (NY:=["_law_one","_law_pieces_here"]) (mp:=[none,some 1]) (qG (by kernel_rfl)) rfl (qX (zN 2)) (fun c=>(zK (i:=0) nI0)) (fun c=>jV) (fun c=>(pv_inE hr (pnV 0) (pnV 1)))))) qW)) (wU (pv_all rfl T.b_all (qL (PV.w (PVf.s (jB (NY:=["_law_one","_law_made"]) (mp:=[none,some 2]) (qG (by kernel_rfl)) rfl (qX (zN 1)) (fun c=>(zK (i:=0) nI1)) (fun c=>jV) (fun c=>(pv_inE hr (pnV 0) (pnV 1)))))) qW))))))))))
theorem sc__law_can:FnScope ["_law_pieces_here","_law_left","_law_most","_law_low","_law_behind","_law_value","_law_alone","_law_other","_law_step","_law_turn","_law_run"] ["_law_pieces_here","_law_left","_law_most"] (zJ (top 37)):={}
theorem fok__law_can {f:Addr} {fd:FuncData} (Fn:Fun K "_law_can" "_law_can" (top 37) f fd) (T:Glb K mg) {kc:Nat} {F:List D->Option Ret} (C__law_can:Cal P w K mg base "_law_can" kc 3 F):FnOk P w K mg base CX0 (kc+1) f fd ["_law_pieces_here","_law_left","_law_most"] (spF K 3 (runG (K77.L_can.g F) 11)):=by
 have nd:=sc__law_can.nd
 have nI0:(["_law_k","_law_value","_law_low","_law_behind","_law_step"]:List Str).Nodup:=by decide +kernel
 have nI1:(["_law_one","_law_run"]:List Str).Nodup:=by decide +kernel
 refine qY (k:=kc) (g:=K77.L_can.g F) Fn sc__law_can (fun cdv A outer s H E hr=>?_) (fun ds r hl e=>qE e)
 exact (zD (qT (PWv.t (yN (kF hr (pnV 1) (PV.n (PVf.s (qU zR)))) (yX (kF hr (pnV 2) pnI)))) (zH (qD (PV.w (pv_eq hr (pnV 1) (PV.n (PVf.s (qU zR))))))) qC)
  (zD (psv_asg (zY (zC 1) pwI) (yH (n:=3) rfl (zQ (zK (i:=3) nd) (zQ (zK (i:=4) nd) (zQ (zK (i:=5) nd) jT)))))
  (zD (qA (i:=6) nd yW)
  (zD (yD PassesOwn.never rfl (qX (zN 0)) (zK (i:=7) nd) (zH (qT (PWv.t (vJ (pt_gt (PV.w (zY (zC 7) pwI)) (zC 3)) (vJ (kF hr (PV.n (jH (PV.w (zY (zC 7) pwI)) (PV.w (zY (zC 7) pwI)))) (PV.n (jH (zC 4) (zC 3)))) (vU (kF hr (PV.n (zY (zC 7) pwI)) (pnV 5)))))) (zD (qA (i:=6) nd yW)
  (zD (qA (i:=8) nd (jH (PV.w (zY (zC 7) pwI)) (zC 3)))
  (zD (qA (i:=9) nd jM)
  (zD (psv_while 100000 PassesOwn.never (pt_inE hr (PV.n (jR (zG (zV (zC 3) (PV.w (qM (zC 9) (zC 8)))) (zG (zV (zC 4) (PV.w (qM (zC 9) (zC 8)))) (zG (zN 5) zR))))) (pnV 0)) (zH (qA (i:=9) nd (zV (zC 9) pwI))))
  (zD (qA (i:=10) nd (PVf.s (jB (NY:=["_law_k","_law_value","_law_low","_law_behind","_law_step"]) (mp:=[none,some 5,some 3,some 4,some 8]) (qG (by kernel_rfl)) rfl (jU T.b_range (zN 9)) (fun c=>(zK (i:=0) nI0)) (fun c=>jV) (fun c=>(jR (zG (zV (zC 2) (PV.w (qM (zC 0) (zC 4)))) (zG (zV (zC 3) (PV.w (qM (zC 0) (zC 4)))) (zG (zN 1) zR))))))))
  (zH (qT (PVn.t (PV.n (zS C__law_can hr (zI (pnV 0) (zI (PV.n (PVf.s (jB (NY:=["_law_one","_law_run"]) (mp:=[none,some 10]) (qG (by kernel_rfl)) rfl (qX (zN 1)) (fun c=>(zK (i:=0) nI1)) (fun c=>(pfv_one (pt_notinE hr (pnV 0) (pnV 1)))) (fun c=>(zN 0))))) (zI (PV.n (jH (zC 2) pwI)) zX))) (Nat.le_refl _)))) (zH (qD (PV.w yW))) qC))))))) qC)))
  (zH (qD (PV.w (wQ (zN 6) (wU (zS C__law_can hr (zI (pnV 0) (zI (PV.n (PVf.s (wL (zC 1) (pov_so pwI) pov_no))) (zI (PV.n (jH (zC 2) pwI)) zX))) (Nat.le_refl _)))))))))))
theorem fok__law_can0 {f:Addr} {fd:FuncData} (Fn:Fun K "_law_can" "_law_can" (top 37) f fd):FnOk P w K mg base CX0 1 f fd ["_law_pieces_here","_law_left","_law_most"] (spF K 3 (runG (fun _=>none) 11)):=by
 refine qY (k:=0) (g:=fun _=>none) Fn sc__law_can (fun cdv A outer s H E hr=>?_) (fun ds r hl e=>qE e)
 exact ⟨_,pss_never,fun _ _ _ _ _ _ _ _ _ e _=>by cases e⟩
theorem sc_law:FnScope ["_law_script","_law_way","_law_slots_here","_law_great","_law_begin","_law_value","_law_pieces_here","_law_handed","_law_found"] ["_law_script"] (zJ (top 38)):={}
theorem fok_law {f:Addr} {fd:FuncData} (Fn:Fun K "law" "law" (top 38) f fd) (T:Glb K mg) (C__law_cell_at:Cal P w K mg base "_law_cell_at" 1 2 GL.cell_at.f) (C__law_slots:Cal P w K mg base "_law_slots" 1 2 K77.L_slots.f) (C__law_pieces:Cal P w K mg base "_law_pieces" 1 4 K77.L_pieces.f) (C_fewest:Cal P w K mg base "fewest" 5 1 GP.fewest.f) (C__law_refused:Cal P w K mg base "_law_refused" 6 2 K77.L_refused.f) (C__law_exact:Cal P w K mg base "_law_exact" 3 2 K77.L_exact.f) (C__law_can:Cal P w K mg base "_law_can" 12 3 (K77.L_can.f 11)):FnOk P w K mg base CX0 13 f fd ["_law_script"] (spF K 1 K77.law.f):=by
 have nd:=sc_law.nd
 refine qY (k:=12) (g:=K77.law.g) Fn sc_law (fun cdv A outer s H E hr=>?_) (fun ds r hl e=>qE e)
 exact (zD (qA (i:=1) nd (zS C__law_cell_at hr (zI (pnV 0) (zI pnI zX))))
  (zD (qA (i:=2) nd (zS C__law_slots hr (zI (PV.n (PVf.s (wL (zC 0) (pov_so pwI) pov_no))) (zI (PV.n (zY (PV.w (PVf.s (qU (zG jM (zG jM (zG jM (zG jM (zG jM (zG jM zR))))))))) (PV.w (qJ (zC 1) pwI)))) zX))))
  (zD (qA (i:=3) nd (xK (PV.w (xK pwI pwI)) pwI))
  (zD (qA (i:=4) nd (jH (PV.w (qJ (PV.w (zS C__law_cell_at hr (zI (pnV 0) (zI pnI zX)))) (PV.w (zV (PV.w (qM pwI (zC 3))) pwI)))) (zC 3)))
  (zD (qA (i:=5) nd (jH (PV.w (qJ (PV.w (zS C__law_cell_at hr (zI (pnV 0) (zI pnI zX)))) (PV.w (zV (PV.w (qM pwI (PV.w (xK pwI pwI)))) pwI)))) (PV.w (xK pwI pwI))))
  (zD (vS (i:=6) nd (pvf_callC C__law_pieces hr (zI (pnV 2) (zI (pnV 4) (zI (PV.n (zS C__law_cell_at hr (zI (pnV 0) (zI pnI zX)))) (zI (pnV 5) zX))))))
  (zD (qT (PWv.t (vJ (pt_ne hr (pnV 6) (PV.n (PVf.s (qU zR)))) (vU (kF hr (PV.n (qJ (PV.w (jJ (zC 1) pwI)) pwI)) pnI)))) (zD (psv_put (i:=6) (jR (zG xQ (zG (zY (PV.w (zY (zC 6) pwI)) pwI) (zG (zY (PV.w (zY (zC 6) pwI)) pwI) zR)))) jM)
  (zH (qD (PV.w (zS C__law_refused hr (zI (pnV 6) (zI (PV.n (PVf.s (qU (zG yW (zG yW zR))))) zX))))))) qC)
  (zD (qT (PWv.t (vJ (pt_ne hr (pnV 6) (PV.n (PVf.s (qU zR)))) (vU (kF hr (PV.n (qJ (PV.w (jJ (zC 1) pwI)) pwI)) pnI)))) (zD (psv_put (i:=6) (jR (zG (zY (PV.w (zY (zC 6) (PV.w (pv_neg jM)))) pwI) (zG xQ (zG (zY (PV.w (zY (zC 6) (PV.w (pv_neg jM)))) pwI) zR)))) (pv_neg jM))
  (zH (qD (PV.w (zS C__law_refused hr (zI (pnV 6) (zI (PV.n (PVf.s (qU (zG yW (zG yW zR))))) zX))))))) qC)
  (zD (qT (pt_gt (PV.w (xD T.b_len (qL (zC 6) qW))) pwI) (zH (qD (PV.w (zS C__law_refused hr (zI (pnV 6) (zI (PV.n (PVf.s (qU (zG yW (zG yW zR))))) zX)))))) qC)
  (zD (qA (i:=7) nd (PVf.s (pvf_list T.b_list (zC 6))))
  (zD (qA (i:=8) nd (zS C_fewest hr (zI (pnV 7) zX)))
  (zD (qT (PWv.t (yN (xJ (PVn.t (PV.n (pv_isi T.b_isinstance T.b_list (by decide +kernel) (zC 8))))) (yN (pt_ne hr (pnV 7) (pnV 6)) (yX (xJ (PVn.t (PV.n (zS C__law_exact hr (zI (pnV 8) (zI (pnV 6) zX)))))))))) (zH (qD (PV.w yW))) qC)
  (zH (qD (PV.w (pv_or (pv_eq hr (pnV 8) (PV.n (PVf.s (qU zR)))) (wU (pv_not (zS C__law_can hr (zI (pnV 6) (zI (pnV 6) (zI (PV.n (jH (PV.w (xD T.b_len (qL (zC 8) qW))) pwI)) zX))))))))))))))))))))))
end
end K77
namespace K77
open PySem PyProof.Rows L2 FL
open Builtin.Int (intBits)
theorem xO (P:List Pc):P.map pcD=(P.map pcR).map rwD:=by rw [List.map_map]; rfl
theorem eqD_nil (P:List Pc):eqD (.lst (P.map pcD)) (.lst [])=some (.bl P.isEmpty):=by rw [xO,eqD_rw_nil]; cases P <;> rfl
theorem neD_nil' (P:List Pc):neD (.lst (P.map pcD)) (.lst [])=some (.bl (!P.isEmpty)):=by rw [xO,neD_rw_nil]; cases P <;> rfl
theorem neD_pc (P:List Pc):neD (.lst (P.map pcD)) (.lst (P.map pcD))=some (.bl false):=by rw [xO,neD_rw]; simp
theorem eqv_pc (q p:Pc):eqvD (pcD q) (pcD p)=decide (q=p):=by
 rw [show pcD q=rwD (pcR q) from rfl,show pcD p=rwD (pcR p) from rfl,rwD_eqv,Bool.eq_iff_iff,decide_eq_true_eq,decide_eq_true_eq]
 constructor
 · intro h
   simp [pcR] at h
   exact Prod.ext h.1 (Prod.ext h.2.1 h.2.2)
 · intro h; rw [h]
theorem in_pc (neg:Bool) (p:Pc) (P:List Pc):inE neg (pcD p) (.lst (P.map pcD))=some (.bl (if neg=true then !decide (p∈P) else decide (p∈P))):=by
 have s1:shal 40 (pcD p)=true:=by simp [pcD,rwD,pcR]
 have s2:shals 40 (P.map pcD)=true:=by rw [xO]; exact xG 38 _
 have a:(P.map pcD).any (fun z=>eqvD z (pcD p))=decide (p∈P):=by
  rw [List.any_map,Bool.eq_iff_iff,List.any_eq_true,decide_eq_true_eq]
  constructor
  · rintro ⟨q, hq, e⟩
    have:q=p:=by simpa [eqv_pc] using e
    rw [<- this]; exact hq
  · intro h; exact ⟨p,h,by simp [eqv_pc]⟩
 simp only [inE,s1,s2,and_self,if_true,a]
def CovL (P left:List Pc) (n:Nat):Prop:=∃ Ls:List (List Pc),Ls.length<=n/\(∀ l∈Ls,IsAp l/\∀ p∈l,p∈P)/\∀ p∈left,∃ l∈Ls,p∈l
theorem wh_test {P:List Pc} {p:Pc} {s:Int} {t:Nat} (ht:t<=1000) (x1 x2 x6 x7 x10:Sl):zT (zE (inE false) (mkT (zU (zB (zE jD (zF 3) (zE jL (zF 9) (zF 8))) (zB (zE jD (zF 4) (zE jL (zF 9) (zF 8))) (zB (zZ 5) zP))))) (zF 0)) [.v (.lst (P.map pcD)),x1,x2,.v (.int p.1),.v (.int p.2.1),.v (.int p.2.2),x6,x7,.v (.int s),.v (.int (t:Int)),x10]=some (decide (shf p s t∈P)):=by
 have ml:jL (.int (t:Int)) (.int s)=some (.int ((t:Int) * s)):=jC (.of_left (qP (Nat.lt_of_lt_of_le (show (t:Int).natAbs < 1024 by omega) (by decide))))
 have e:(mkT (zU (zB (zE jD (zF 3) (zE jL (zF 9) (zF 8))) (zB (zE jD (zF 4) (zE jL (zF 9) (zF 8))) (zB (zZ 5) zP))))) [.v (.lst (P.map pcD)),x1,x2,.v (.int p.1),.v (.int p.2.1),.v (.int p.2.2),x6,x7,.v (.int s),.v (.int (t:Int)),x10]=some (pcD (shf p s t)):=by
  simp [ml]
  rfl
 have i:=in_pc false (shf p s t) P
 rw [vA,vE,e]
 show ((inE false (pcD (shf p s t)) (.lst (P.map pcD))).bind isB)=_
 rw [i]
 rfl
theorem wh_loop {P:List Pc} {p:Pc} {s:Int} (x1 x2 x6 x7 x10:Sl):∀ (m t n:Nat),1<=t->t+m=1000->m+1<=n->(∃ u,t<=u/\u<=1000/\shf p s u ∉ P)->∃ u,t<=u/\u<=1000/\(∀ k,t<=k->k < u->shf p s k∈P) ∧
  whileN (zT (zE (inE false) (mkT (zU (zB (zE jD (zF 3) (zE jL (zF 9) (zF 8))) (zB (zE jD (zF 4) (zE jL (zF 9) (zF 8))) (zB (zZ 5) zP))))) (zF 0))) K77.L_can.b1 n [.v (.lst (P.map pcD)),x1,x2,.v (.int p.1),.v (.int p.2.1),.v (.int p.2.2),x6,x7,.v (.int s),.v (.int (t:Int)),x10]=some (.nx [.v (.lst (P.map pcD)),x1,x2,.v (.int p.1),.v (.int p.2.1),.v (.int p.2.2),x6,x7,.v (.int s),.v (.int (u:Int)),x10]):=by
 intro m
 induction m with
 | zero =>
   intro t n h1 h2 h3 ⟨u,g1,g2,g3⟩
   have:t=u:=by omega
   subst this
   obtain ⟨n,rfl⟩:∃ k,n=k+1:=⟨n - 1,by omega⟩
   refine ⟨t,Nat.le_refl _,g2,fun k a b=>by omega,?_⟩
   rw [whileN,wh_test g2]
   simp [g3]
 | succ m ih =>
   intro t n h1 h2 h3 hu
   obtain ⟨n,rfl⟩:∃ k,n=k+1:=⟨n - 1,by omega⟩
   rw [whileN,wh_test (by omega)]
   by_cases e:shf p s t∈P
   · obtain ⟨u, g1, g2, g3⟩ := hu
     have:t≠u:=fun z=>g3 (z ▸ e)
     obtain ⟨w,k1,k2,k4,k5⟩:=ih (t+1) n (by omega) (by omega) (by omega) ⟨u,by omega,g2,g3⟩
     refine ⟨w,by omega,k2,fun k a b=>?_,?_⟩
     · by_cases z : k = t
       · rw [z]; exact e
       · exact k4 k (by omega) b
     · have b1:K77.L_can.b1 [.v (.lst (P.map pcD)),x1,x2,.v (.int p.1),.v (.int p.2.1),.v (.int p.2.2),x6,x7,.v (.int s),.v (.int (t:Int)),x10]=some (.nx [.v (.lst (P.map pcD)),x1,x2,.v (.int p.1),.v (.int p.2.1),.v (.int p.2.2),x6,x7,.v (.int s),.v (.int ((t+1:Nat):Int)),x10]):=by
        unfold K77.L_can.b1
        simp
       simp only [e,decide_true,Option.bind_some,if_true,b1]
       exact k5
   · refine ⟨t, Nat.le_refl _, by omega, fun k a b => by omega, ?_⟩
     simp [e]
def Says (P:List Pc) (F:List D->Option Ret) (m:Nat):Prop:=∀ left:List Pc,left.length<=1000->(∀ p∈left,p∈P)->∃ b,F [.lst (P.map pcD),.lst (left.map pcD),.int (m:Nat)]=some (.val (.bl b))/\(b=true->CovL P left m)
theorem can_turn {P:List Pc} (h:PcsOk P) {F:List D->Option Ret} {m:Nat} (hF:Says P F m) {left:List Pc} (hl:∀ p∈left,p∈P) {p0:Pc} {rest:List Pc} (e0:left=p0::rest) (hlen:left.length<=1000) {q:Pc} (hq:q∈P) (b:Bool) (x8 x9 x10:Sl) :
  (K77.L_can.b2 F [.v (.lst (P.map pcD)),.v (.lst (left.map pcD)),.v (.int ((m+1:Nat):Int)),.v (.int p0.1),.v (.int p0.2.1),.v (.int p0.2.2),.v (.bl b),.v (pcD q),x8,x9,x10]=some (.rt (.val (.bl true)))/\CovL P left (m+1)) ∨
  ∃ b' y8 y9 y10,K77.L_can.b2 F [.v (.lst (P.map pcD)),.v (.lst (left.map pcD)),.v (.int ((m+1:Nat):Int)),.v (.int p0.1),.v (.int p0.2.1),.v (.int p0.2.2),.v (.bl b),.v (pcD q),x8,x9,x10]=some (.nx [.v (.lst (P.map pcD)),.v (.lst (left.map pcD)),.v (.int ((m+1:Nat):Int)),.v (.int p0.1),.v (.int p0.2.1),.v (.int p0.2.2),.v (.bl b'),.v (pcD q),y8,y9,y10]):=by
 have hp0:p0∈P:=hl p0 (by rw [e0]; exact .head _)
 have q0:=pcD_0 q
 have q1:=pcD_1 q
 have q2:=pcD_2 q
 have tst:(andT (zT (zE gtD (zE ixD (zF 7) (zA (.int 0))) (zF 3))) (andT (zT (zE eqD (zE subD (zE ixD (zF 7) (zA (.int 1))) (zE ixD (zF 7) (zA (.int 0)))) (zE subD (zF 4) (zF 3)))) (zT (zE eqD (zE ixD (zF 7) (zA (.int 2))) (zF 5))))) [.v (.lst (P.map pcD)),.v (.lst (left.map pcD)),.v (.int ((m+1:Nat):Int)),.v (.int p0.1),.v (.int p0.2.1),.v (.int p0.2.2),.v (.bl b),.v (pcD q),x8,x9,x10]=some (decide (p0.1 < q.1) && (decide (q.2.1 - q.1=p0.2.1 - p0.1) && decide (q.2.2=p0.2.2))):=by
  generalize pcD q=Q at *
  generalize P.map pcD=A
  generalize left.map pcD=B
  simp [q0,q1,q2]
 unfold K77.L_can.b2
 rw [yM,tst,Option.bind_some]
 by_cases c:(decide (p0.1 < q.1) && (decide (q.2.1 - q.1=p0.2.1 - p0.1) && decide (q.2.2=p0.2.2)))=true
 · rw [if_pos c]
   simp only [Bool.and_eq_true,decide_eq_true_eq] at c
   have s0:0 < q.1 - p0.1:=by omega
   obtain ⟨u0,g1,g2,g3,g4,_⟩:=long_eq (P:=P) (p:=p0) s0 (by have:=h.few; omega)
   have hf:=h.few
   obtain ⟨u,k1,k2,k3,k4⟩:=wh_loop (P:=P) (p:=p0) (s:=q.1 - p0.1) (.v (.lst (left.map pcD))) (.v (.int ((m+1:Nat):Int))) (.v (.bl false)) (.v (pcD q)) x10 999 1 100000 (by omega) rfl (by omega) ⟨u0,g1,by omega,g3⟩
   have sub:∀ p∈(List.range u).map (shf p0 (q.1 - p0.1)),p∈P:=fun p hp=>by
    obtain ⟨k,hk,rfl⟩:=List.mem_map.mp hp
    have hk:=List.mem_range.mp hk
    by_cases z:k=0
    · subst z; rw [shf0]; exact hp0
    · exact k3 k (by omega) hk
   have ap:IsAp ((List.range u).map (shf p0 (q.1 - p0.1))):=⟨p0,_,u,s0,k1,rfl⟩
   have hu:u<=9:=by
    have nd:((List.range u).map (shf p0 (q.1 - p0.1))).Nodup:=by
     refine List.Pairwise.map _ (fun i j (h:i≠j) e=>h ?_) List.nodup_range
     have e1:p0.1+(i:Int) * (q.1 - p0.1)=p0.1+(j:Int) * (q.1 - p0.1):=congrArg Prod.fst e
     have:(i:Int)=(j:Int):=Int.eq_of_mul_eq_mul_right (a:=q.1 - p0.1) (by omega) (by omega)
     omega
    have:=ndl _ P nd sub
    simp at this
    omega
   rw [zM (ds':=[.v (.lst (P.map pcD)),.v (.lst (left.map pcD)),.v (.int ((m+1:Nat):Int)),.v (.int p0.1),.v (.int p0.2.1),.v (.int p0.2.2),.v (.bl false),.v (pcD q),x8,x9,x10]) (by simp)]
   rw [zM (ds':=[.v (.lst (P.map pcD)),.v (.lst (left.map pcD)),.v (.int ((m+1:Nat):Int)),.v (.int p0.1),.v (.int p0.2.1),.v (.int p0.2.2),.v (.bl false),.v (pcD q),.v (.int (q.1 - p0.1)),x9,x10]) (by
    generalize pcD q=Q at *
    generalize P.map pcD=A
    simp [q0])]
   rw [zM (ds':=[.v (.lst (P.map pcD)),.v (.lst (left.map pcD)),.v (.int ((m+1:Nat):Int)),.v (.int p0.1),.v (.int p0.2.1),.v (.int p0.2.2),.v (.bl false),.v (pcD q),.v (.int (q.1 - p0.1)),.v (.int ((1:Nat):Int)),x10]) (by simp)]
   rw [zM k4]
   have cp:compG (rng1 (zZ 9)) [none,some 5,some 3,some 4,some 8] (zL 0) (fun _=>some true) (mkT (zU (zB (zE jD (zF 2) (zE jL (zF 0) (zF 4))) (zB (zE jD (zF 3) (zE jL (zF 0) (zF 4))) (zB (zZ 1) zP))))) [.v (.lst (P.map pcD)),.v (.lst (left.map pcD)),.v (.int ((m+1:Nat):Int)),.v (.int p0.1),.v (.int p0.2.1),.v (.int p0.2.2),.v (.bl false),.v (pcD q),.v (.int (q.1 - p0.1)),.v (.int (u:Int)),x10]=some (((List.range u).map (shf p0 (q.1 - p0.1))).map pcD):=by
    have ok:okR (u:Int):=yE (by omega) (by omega)
    refine jP (items:=(List.range u).map fun j:Nat=>D.int (j:Int)) ?_ (by simp; omega) ?_
    · generalize P.map pcD = A
      simp [ok,rangeD]
    · rw [jI _ (fun j : Nat => pcD (shf p0 (q.1 - p0.1) j)), List.map_map]
      · rfl
      · intro j hj
        have hj:=List.mem_range.mp hj
        have ml:jL (.int (j:Int)) (.int (q.1 - p0.1))=some (.int ((j:Int) * (q.1 - p0.1))):=jC (.of_left (qP (Nat.lt_of_lt_of_le (show (j:Int).natAbs < 1024 by omega) (by decide))))
        refine ⟨[.v (.int (j:Int)),.v (.int p0.2.2),.v (.int p0.1),.v (.int p0.2.1),.v (.int (q.1 - p0.1))],rfl,?_⟩
        simp [ml]
        rfl
   generalize hR:(List.range u).map (shf p0 (q.1 - p0.1))=R at *
   rw [zM (ds':=[.v (.lst (P.map pcD)),.v (.lst (left.map pcD)),.v (.int ((m+1:Nat):Int)),.v (.int p0.1),.v (.int p0.2.1),.v (.int p0.2.2),.v (.bl false),.v (pcD q),.v (.int (q.1 - p0.1)),.v (.int (u:Int)),.v (.lst (R.map pcD))]) (by rw [setG_eq,yT,cp]; rfl)]
   have cl:compG (viaA (zZ 1) asLT) [none,some 10] (zL 0) (zT (zE (inE true) (zF 0) (zF 1))) (zZ 0) [.v (.lst (P.map pcD)),.v (.lst (left.map pcD)),.v (.int ((m+1:Nat):Int)),.v (.int p0.1),.v (.int p0.2.1),.v (.int p0.2.2),.v (.bl false),.v (pcD q),.v (.int (q.1 - p0.1)),.v (.int (u:Int)),.v (.lst (R.map pcD))]=some ((left.filter fun p=>!decide (p∈R)).map pcD):=by
    refine jP (items:=left.map pcD) rfl (by simp; omega) ?_
    refine compL_filt pcD (fun p=>!decide (p∈R)) pcD left fun p _=>⟨[.v (pcD p),.v (.lst (R.map pcD))],rfl,?_,fun _=>rfl⟩
    show ((inE true (pcD p) (.lst (R.map pcD))).bind isB)=_
    rw [in_pc]; rfl
   obtain ⟨b',f1,f2⟩:=hF (left.filter fun p=>!decide (p∈R)) (Nat.le_trans (List.length_filter_le _ _) hlen) fun p hp=>hl p (List.mem_filter.mp hp).1
   have ct:testT (qF 3 F (zB (zF 0) (zB (mkL (compG (viaA (zZ 1) asLT) [none,some 10] (zL 0) (zT (zE (inE true) (zF 0) (zF 1))) (zZ 0))) (zB (zE subD (zF 2) (zA (.int 1))) zP)))) [.v (.lst (P.map pcD)),.v (.lst (left.map pcD)),.v (.int ((m+1:Nat):Int)),.v (.int p0.1),.v (.int p0.2.1),.v (.int p0.2.2),.v (.bl false),.v (pcD q),.v (.int (q.1 - p0.1)),.v (.int (u:Int)),.v (.lst (R.map pcD))]=some b':=by
    have s1:((m+1:Nat):Int) - 1=(m:Nat):=by omega
    rw [xH,callV_eq,qZ,qZ,yT,cl]
    generalize (left.filter fun p=>!decide (p∈R)).map pcD=Lf at *
    generalize P.map pcD=A at *
    generalize ((m+1:Nat):Int)=mm at *
    simp [s1,f1]
   rw [yM,ct,Option.bind_some]
   cases b' with
   | true =>
     left
     refine ⟨rfl,?_⟩
     obtain ⟨Ls,n1,n2,n3⟩:=f2 rfl
     refine ⟨R::Ls,by simp; omega,fun l hl'=>?_,fun p hp=>?_⟩
     · rcases List.mem_cons.mp hl' with rfl | hl'
       · exact ⟨ap,sub⟩
       · exact n2 l hl'
     · by_cases z : p ∈ R
       · exact ⟨R,.head _,z⟩
       · obtain ⟨l, l1, l2⟩ := n3 p (List.mem_filter.mpr ⟨hp, by simpa using z⟩)
         exact ⟨l,.tail _ l1,l2⟩
   | false=>exact .inr ⟨false,_,_,_,rfl⟩
 · rw [if_neg c]
   exact .inr ⟨b,x8,x9,x10,rfl⟩
theorem can_loop {P:List Pc} (h:PcsOk P) {F:List D->Option Ret} {m:Nat} (hF:Says P F m) {left:List Pc} (hl:∀ p∈left,p∈P) {p0:Pc} {rest:List Pc} (e0:left=p0::rest) (hlen:left.length<=1000):∀ (R:List Pc) (b:Bool) (x7 x8 x9 x10:Sl),(∀ q∈R,q∈P) →
  (qN (zL 7) (K77.L_can.b2 F) (R.map pcD) [.v (.lst (P.map pcD)),.v (.lst (left.map pcD)),.v (.int ((m+1:Nat):Int)),.v (.int p0.1),.v (.int p0.2.1),.v (.int p0.2.2),.v (.bl b),x7,x8,x9,x10]=some (.rt (.val (.bl true)))/\CovL P left (m+1)) ∨
  ∃ b' y7 y8 y9 y10,qN (zL 7) (K77.L_can.b2 F) (R.map pcD) [.v (.lst (P.map pcD)),.v (.lst (left.map pcD)),.v (.int ((m+1:Nat):Int)),.v (.int p0.1),.v (.int p0.2.1),.v (.int p0.2.2),.v (.bl b),x7,x8,x9,x10]=some (.nx [.v (.lst (P.map pcD)),.v (.lst (left.map pcD)),.v (.int ((m+1:Nat):Int)),.v (.int p0.1),.v (.int p0.2.1),.v (.int p0.2.2),.v (.bl b'),y7,y8,y9,y10])
 | [],b,x7,x8,x9,x10,_=>.inr ⟨b,x7,x8,x9,x10,by simp [qN]⟩
 | q :: R, b, x7, x8, x9, x10, hR => by
   rw [List.map_cons,qN]
   simp only [zL,List.set_cons_succ,List.set_cons_zero,Option.bind_some]
   rcases can_turn h hF hl e0 hlen (hR q (.head _)) b x8 x9 x10 with ⟨t,c⟩ | ⟨b',y8,y9,y10,t⟩
   · rw [t]; exact .inl ⟨rfl,c⟩
   · rw [t]
     exact can_loop h hF hl e0 hlen R b' (.v (pcD q)) y8 y9 y10 fun z hz=>hR z (.tail _ hz)
theorem can_says {P:List Pc} (h:PcsOk P):∀ (m n:Nat),m < n->Says P (K77.L_can.f n) m:=by
 intro m
 induction m with
 | zero =>
   intro n hn left _ hl
   obtain ⟨n,rfl⟩:∃ k,n=k+1:=⟨n - 1,by omega⟩
   have e1:=eqD_nil left
   refine ⟨left.isEmpty,jN ?_,fun hb=>⟨[],Nat.le_refl _,(fun _ z=>by cases z),fun p hp=>?_⟩⟩
   · unfold K77.L_can.g
     generalize left.isEmpty=bb at *
     generalize left.map pcD=B at *
     generalize P.map pcD=A at *
     rw [xF (r:=.val (.bl bb)) (by cases bb <;> simp [args,e1])]
   · have : left = [] := by simpa using hb
     rw [this] at hp; cases hp
 | succ m ih =>
   intro n hn left hlen hl
   obtain ⟨n,rfl⟩:∃ k,n=k+1:=⟨n - 1,by omega⟩
   have e1:=eqD_nil left
   have hF:=ih n (by omega)
   have hm : ¬ ((m+1:Nat):Int)=0:=by omega
   cases hL:left with
   | nil =>
     refine ⟨true,jN ?_,fun _=>⟨[],by simp,(fun _ z=>by cases z),(fun _ z=>by cases z)⟩⟩
     unfold K77.L_can.g
     rw [hL] at e1
     have e2:eqD (.lst []) (.lst [])=some (.bl true):=e1
     generalize P.map pcD=A at *
     rw [xF (r:=.val (.bl true)) (by simp [args,e2])]
   | cons p0 rest =>
     rw [<- hL]
     have em:left.isEmpty=false:=by rw [hL]; rfl
     rw [em] at e1
     have i0:ixD (.lst (left.map pcD)) (.int 0)=some (pcD p0):=by rw [hL]; exact ixL0 _ _
     have cu:cutD (left.map pcD) (some 1) none=rest.map pcD:=(wN (left.map pcD) 1).trans (by rw [hL]; rfl)
     obtain ⟨b2,f1,f2⟩:=hF rest (by rw [hL,List.length_cons] at hlen; omega) fun p hp=>hl p (by rw [hL]; exact .tail _ hp)
     have lp:=can_loop h hF hl hL hlen P true .no .no .no .no fun _ z=>z
     have pre:∀ G:FS,(qH (ifG (orT (zT (zE eqD (zF 1) (mkL (zU zP)))) (zT (zE eqD (zF 2) (zA (.int 0))))) (retG (zE eqD (zF 1) (mkL (zU zP)))) jS)
       (qH (asgG (tupG 3 (zO (zL 3) (zO (zL 4) (zO (zL 5) tgNil)))) (zE ixD (zF 1) (zA (.int 0)))) (qH (yK 6 (zA (.bl true))) G))) [.v (.lst (P.map pcD)),.v (.lst (left.map pcD)),.v (.int ((m+1:Nat):Int)),.no,.no,.no,.no,.no,.no,.no,.no]=G [.v (.lst (P.map pcD)),.v (.lst (left.map pcD)),.v (.int ((m+1:Nat):Int)),.v (.int p0.1),.v (.int p0.2.1),.v (.int p0.2.2),.v (.bl true),.no,.no,.no,.no]:=fun G=>by
      generalize left.map pcD=B at *
      generalize P.map pcD=A at *
      generalize ((m+1:Nat):Int)=mm at *
      rw [zM (ds':=[.v (.lst A),.v (.lst B),.v (.int mm),.no,.no,.no,.no,.no,.no,.no,.no]) (by simp [e1,hm])]
      rw [zM (ds':=[.v (.lst A),.v (.lst B),.v (.int mm),.v (.int p0.1),.v (.int p0.2.1),.v (.int p0.2.2),.no,.no,.no,.no,.no]) (by simp [i0,pcD,rwD,pcR])]
      rw [zM (ds':=[.v (.lst A),.v (.lst B),.v (.int mm),.v (.int p0.1),.v (.int p0.2.1),.v (.int p0.2.2),.v (.bl true),.no,.no,.no,.no]) (by simp)]
     rcases lp with ⟨l1,l2⟩ | ⟨b',y7,y8,y9,y10,l1⟩
     · refine ⟨true, jN ?_, fun _ => l2⟩
       unfold K77.L_can.g
       show qH _ _ [.v (.lst (P.map pcD)),.v (.lst (left.map pcD)),.v (.int ((m+1:Nat):Int)),.no,.no,.no,.no,.no,.no,.no,.no]=_
       rw [pre,xF (r:=.val (.bl true)) (by rw [yC]; exact l1)]
     · refine ⟨b' && b2, jN ?_, fun hb => ?_⟩
       · unfold K77.L_can.g
         show qH _ _ [.v (.lst (P.map pcD)),.v (.lst (left.map pcD)),.v (.int ((m+1:Nat):Int)),.no,.no,.no,.no,.no,.no,.no,.no]=_
         rw [pre,zM (ds':=[.v (.lst (P.map pcD)),.v (.lst (left.map pcD)),.v (.int ((m+1:Nat):Int)),.v (.int p0.1),.v (.int p0.2.1),.v (.int p0.2.2),.v (.bl b'),y7,y8,y9,y10]) (by rw [yC]; exact l1)]
         have s1:((m+1:Nat):Int) - 1=(m:Nat):=by omega
         generalize hB:left.map pcD=B at *
         generalize P.map pcD=A at *
         generalize rest.map pcD=C at *
         generalize ((m+1:Nat):Int)=mm at *
         simp [cu,s1,f1]
       · simp only [Bool.and_eq_true] at hb
         obtain ⟨Ls,n1,n2,n3⟩:=f2 hb.2
         refine ⟨[p0]::Ls,by simp; omega,fun l hl'=>?_,fun p hp=>?_⟩
         · rcases List.mem_cons.mp hl' with rfl | hl'
           · exact ⟨⟨p0,1,1,by omega,by omega,by simp [shf]⟩,fun p hp=>by rw [List.mem_singleton.mp hp]; exact hl p0 (by rw [hL]; exact .head _)⟩
           · exact n2 l hl'
         · rw [hL] at hp
           rcases List.mem_cons.mp hp with rfl | hp
           · exact ⟨_,.head _,.head _⟩
           · obtain ⟨l, l1, l2⟩ := n3 p hp
             exact ⟨l,.tail _ l1,l2⟩
theorem whole_int (i:Int):GL.whole.f [.int i]=some (.val (.bl true)):=by
 unfold GL.whole.f runG GL.whole.g
 simp [args]
theorem rule_is {r:Rl} (h:okL r=true):K77.L_is_rule.f [rlD r]=some (.val (.bl true)):=by
 obtain ⟨t1,t2,t3,t4,t5⟩:=yZ h
 have cp:compG (viaA (zZ 0) asLT) [none] (zL 0) (fun _=>some true) (qF 1 GL.whole.f (zB (zF 0) zP)) [.v (rlD r)]=some ([true,true,true,true,true].map D.bl):=by
  have w:=whole_int
  refine jP (items:=[.int r.1,.int r.2.1,.int r.2.2.1,.int r.2.2.2.1,.int r.2.2.2.2]) rfl (by simp) ?_
  simp [compL,jA,w]
 have i0:=rl0 r
 have i1:=rl1 r
 have i2:=rl2 r
 have i3:=rl3 r
 have isT:isiD "tuple" (rlD r)=some (.bl true):=by simp [rlD,R5]
 have ln:lenD [rlD r]=some (.int 5):=by simp [rlD,R5]
 unfold K77.L_is_rule.f
 refine jN ?_
 unfold K77.L_is_rule.g
 have a1:(orT (notT (testT (isiG "tuple" (zF 0)))) (orT (zT (zE neD (callB lenD (zB (zF 0) zP)) (zA (.int 5)))) (notT (testT (callB allD (zB (mkL (compG (viaA (zZ 0) asLT) [none] (zL 0) (fun _=>some true) (qF 1 GL.whole.f (zB (zF 0) zP)))) zP)))))) [.v (rlD r)]=some false:=by
  have al:testT (callB allD (zB (mkL (compG (viaA (zZ 0) asLT) [none] (zL 0) (fun _=>some true) (qF 1 GL.whole.f (zB (zF 0) zP)))) zP)) [.v (rlD r)]=some true:=by
   rw [xH,yI,qZ,yT,cp]
   simp only [Option.map_some,yY,Option.bind_some,allD_bls]
   rfl
  rw [orT_eq,notT_eq,xH,isiG_eq,orT_eq,notT_eq,al]
  generalize rlD r=R at *
  simp [isT,ln]
 show qH _ _ [.v (rlD r)]=_
 rw [zM (ds':=[.v (rlD r)]) (by rw [yM,a1]; rfl)]
 generalize rlD r=R at *
 have g1 : ¬ r.2.1<=r.1:=by omega
 have g2 : ¬ r.2.2.2.1 < 1:=by omega
 have g3 : ¬ 100 < r.2.2.2.1:=by omega
 rw [zM (ds':=[.v R]) (by simp [i0,i1,i3,g1,g2,g3])]
 by_cases e:r.2.2.2.1=1
 · rw [xF (r:=.val (.bl true)) (by simp [i3,e,i2,t4 e])]
 · have g4 := t5 e
   rw [zM (ds':=[.v R]) (by simp [i3,e])]
   simp [i0,i1,i2,g4]
theorem made_inner {r:Rl} (x0 x1:Sl):∀ (n k:Nat) (M:List Pc) (x4:Sl),k+n<=100->M.length+n<=100000->∃ y4,qN (zL 4) K77.L_exact.b1 ((List.range' k n).map fun j=>.int (j:Nat)) [x0,x1,.own (M.map pcD),.v (rlD r),x4]=some (.nx [x0,x1,.own ((M++(List.range' k n).map (shf (fstP r) r.2.2.1)).map pcD),.v (rlD r),y4])
 | 0,k,M,x4,_,_=>⟨x4,by simp [qN]⟩
 | n + 1, k, M, x4, hk, hz => by
   obtain ⟨y4,e⟩:=made_inner x0 x1 n (k+1) (M++[shf (fstP r) r.2.2.1 k]) (.v (.int (k:Nat))) (by omega) (by simp; omega)
   refine ⟨y4,?_⟩
   have ml:jL (.int (k:Nat)) (.int r.2.2.1)=some (.int ((k:Int) * r.2.2.1)):=jC (.of_left (qP (Nat.lt_of_lt_of_le (show (k:Int).natAbs < 1024 by omega) (by decide))))
   have i0:=rl0 r
   have i1:=rl1 r
   have i2:=rl2 r
   have i4:=rl4 r
   have t:K77.L_exact.b1 [x0,x1,.own (M.map pcD),.v (rlD r),.v (.int (k:Nat))]=some (.nx [x0,x1,.own ((M++[shf (fstP r) r.2.2.1 k]).map pcD),.v (rlD r),.v (.int (k:Nat))]):=by
    unfold K77.L_exact.b1
    have hz':M.length < 16777216:=by omega
    have ap:(M++[shf (fstP r) r.2.2.1 k]).map pcD=M.map pcD++[.tup [.int (r.1+(k:Int) * r.2.2.1),.int (r.2.1+(k:Int) * r.2.2.1),.int r.2.2.2.2]]:=by rw [List.map_append]; rfl
    rw [ap]
    generalize rlD r=R at *
    simp [i0,i1,i2,i4,ml,hz']
   rw [List.range'_succ,List.map_cons,qN]
   simp only [zL,List.set_cons_succ,List.set_cons_zero,Option.bind_some,t]
   rw [e]
   simp
theorem made_loop (x0 x1:Sl):∀ (L:List Rl) (M:List Pc) (x3 x4:Sl),(∀ r∈L,okL r=true)->M.length+100 * L.length<=10000->∃ y3 y4,qN (zL 3) K77.L_exact.b2 (L.map rlD) [x0,x1,.own (M.map pcD),x3,x4]=some (.nx [x0,x1,.own ((M++L.flatMap pcsR).map pcD),y3,y4])
 | [],M,x3,x4,_,_=>⟨x3,x4,by simp [qN]⟩
 | r :: L, M, x3, x4, h, hz => by
   simp only [List.length_cons] at hz
   obtain ⟨t1,t2,_⟩:=yZ (h r (.head _))
   have pe:pcsR r=(List.range' 0 r.2.2.2.1.toNat).map (shf (fstP r) r.2.2.1):=by rw [pcsR,List.range_eq_range']
   obtain ⟨y4,e1⟩:=made_inner (r:=r) x0 x1 r.2.2.2.1.toNat 0 M x4 (by omega) (by omega)
   rw [<- pe] at e1
   have lp:(pcsR r).length<=100:=by rw [pe]; simp; omega
   obtain ⟨z3,z4,e2⟩:=made_loop x0 x1 L (M++pcsR r) (.v (rlD r)) y4 (fun q hq=>h q (.tail _ hq)) (by simp; omega)
   refine ⟨z3,z4,?_⟩
   have ir:=rule_is (h r (.head _))
   have i3:=rl3 r
   have t:K77.L_exact.b2 [x0,x1,.own (M.map pcD),.v (rlD r),x4]=some (.nx [x0,x1,.own ((M++pcsR r).map pcD),.v (rlD r),y4]):=by
    unfold K77.L_exact.b2
    rw [zM (ds':=[x0,x1,.own (M.map pcD),.v (rlD r),x4]) (by
     generalize rlD r=R at *
     simp [ir])]
    rw [yC]
    have ok:okR r.2.2.2.1:=yE (by omega) (by omega)
    have rg:rng1 (zE ixD (zF 3) (zA (.int 3))) [x0,x1,.own (M.map pcD),.v (rlD r),x4]=some ((List.range' 0 r.2.2.2.1.toNat).map fun j=>.int (j:Nat)):=by
     generalize rlD r=R at *
     simp [i3,ok,rangeD,List.range_eq_range']
    rw [rg]
    exact e1
   rw [List.map_cons,qN]
   simp only [zL,List.set_cons_succ,List.set_cons_zero,Option.bind_some,t]
   rw [e2]
   simp [List.flatMap_cons,List.append_assoc]
theorem all_in (A B:List Pc) (h:∀ p∈A,p∈B) (hl:A.length<=100000) (fi:FA) (mp:List (Option Nat)) (ds:List Sl) (hfi:fi ds=some (A.map pcD)) (hs:jA mp ds=[.no,.v (.lst (B.map pcD))]):callB allD (zB (mkL (compG fi mp (zL 0) (fun _=>some true) (zE (inE false) (zF 0) (zF 1)))) zP) ds=some (.bl true):=by
 have cp:compG fi mp (zL 0) (fun _=>some true) (zE (inE false) (zF 0) (zF 1)) ds=some ((A.map fun _=>true).map D.bl):=by
  refine jP hfi (by simp; omega) ?_
  rw [hs,jI _ (fun _=>D.bl true),List.map_map]
  · rfl
  · intro p hp
    refine ⟨[.v (pcD p),.v (.lst (B.map pcD))],rfl,?_⟩
    show inE false (pcD p) (.lst (B.map pcD))=_
    rw [in_pc]
    simp [h p hp]
 rw [yI,qZ,yT,cp]
 simp only [Option.map_some,yY,Option.bind_some,allD_bls]
 congr 2
 simp
theorem exact_eq {P:List Pc} {L:List Rl} (hP:P.length<=100) (hL:L.length<=50) (h1:∀ r∈L,Rok P r) (h2:∀ p∈P,∃ r∈L,p∈pcsR r):K77.L_exact.f [.lst (L.map rlD),.lst (P.map pcD)]=some (.val (.bl true)):=by
 obtain ⟨y3,y4,lp⟩:=made_loop (.v (.lst (L.map rlD))) (.v (.lst (P.map pcD))) L [] .no .no (fun r hr=>(h1 r hr).ok) (by simp; omega)
 have len:∀ L:List Rl,(∀ r∈L,Rok P r)->(L.flatMap pcsR).length<=100 * L.length:=by
  intro L
  induction L with
  | nil=>intro _; simp
  | cons r L ih =>
    intro hh
    have a:=ih fun z hz=>hh z (.tail _ hz)
    have b:=ndl (pcsR r) P (pcsR_nodup (hh r (.head _)).ok) (hh r (.head _)).sub
    rw [List.flatMap_cons,List.length_append,List.length_cons]
    omega
 have hlen:=len L h1
 rw [List.nil_append] at lp
 unfold K77.L_exact.f
 refine jN ?_
 unfold K77.L_exact.g
 show qH _ _ [.v (.lst (L.map rlD)),.v (.lst (P.map pcD)),.no,.no,.no]=_
 rw [zM (ds':=[.v (.lst (L.map rlD)),.v (.lst (P.map pcD)),.own [],.no,.no]) (by simp)]
 rw [zM (ds':=[.v (.lst (L.map rlD)),.v (.lst (P.map pcD)),.own ((L.flatMap pcsR).map pcD),y3,y4]) (by rw [yC]; exact lp)]
 show retG _ [.v (.lst (L.map rlD)),.v (.lst (P.map pcD)),.v (.lst ((L.flatMap pcsR).map pcD)),y3,y4]=_
 rw [retG_eq,andV_eq,all_in (L.flatMap pcsR) P (fun p hp=>by
   obtain ⟨r,hr,hp⟩:=List.mem_flatMap.mp hp
   exact (h1 r hr).sub p hp) (by omega) (viaA (zZ 2) asLT) [none,some 1] _ rfl rfl,
  all_in P (L.flatMap pcsR) (fun p hp=>by
   obtain ⟨r,hr,e⟩:=h2 p hp
   exact List.mem_flatMap.mpr ⟨r,hr,e⟩) (by omega) (viaA (zZ 1) asLT) [none,some 2] _ rfl rfl]
 rfl
noncomputable def lnN (r:Rw):Bool:=(match r.1,r.2.1 with | some a,some b=>some (b - a) | _,_=>none:Option Int).isNone
theorem any_len (rows:List Rw) (hl:rows.length<=1000) (x1:Sl):testT (callB anyD (zB (mkL (compG (viaA (zZ 0) asLT) [none,none,none] (tupG 3 (zO (zL 0) (zO (zL 1) (zO (zL 2) tgNil)))) (fun _=>some true) (zE isD (qF 1 GP.length.f (zB (mkT (zU (zB (zZ 0) (zB (zZ 1) zP)))) zP)) (zA .non)))) zP)) [.v (.lst (rows.map rwD)),x1]=some (rows.any lnN):=by
 have cp:compG (viaA (zZ 0) asLT) [none,none,none] (tupG 3 (zO (zL 0) (zO (zL 1) (zO (zL 2) tgNil)))) (fun _=>some true) (zE isD (qF 1 GP.length.f (zB (mkT (zU (zB (zZ 0) (zB (zZ 1) zP)))) zP)) (zA .non)) [.v (.lst (rows.map rwD)),x1]=some ((rows.map lnN).map D.bl):=by
  refine jP (items:=rows.map rwD) rfl (by simp; omega) ?_
  rw [jI _ (fun r=>D.bl (lnN r)),List.map_map]
  · rfl
  · intro r _
    have lg:GP.length.f [.tup [oi r.1,oi r.2.1]]=some (.val (oi (match r.1,r.2.1 with | some a,some b=>some (b - a) | _,_=>none))):=length_eq (r.1,r.2.1)
    refine ⟨[.v (oi r.1),.v (oi r.2.1),.v (oi r.2.2)],by simp [rwD,jA],?_⟩
    unfold lnN
    generalize (match r.1,r.2.1 with | some a,some b=>some (b - a) | _,_=>none:Option Int)=o at *
    simp [lg]
 rw [xH,yI,qZ,yT,cp]
 simp only [Option.map_some,yY,Option.bind_some,anyD_bls,truD_bl,List.any_map]
 rfl
theorem eqD_bb (a b c d:Bool):eqD (.lst [.bl a,.bl b]) (.lst [.bl c,.bl d])=some (.bl (decide (a=c) && decide (b=d))):=by
 rw [kE (by simp) (by simp)]
 simp
theorem ref_end {rows:List Rw} (hl:rows.length<=1000) (h:rows.any lnN=true):K77.L_refused.f [.lst (rows.map rwD),.lst [.bl true,.bl false]]=some (.val (.bl true)):=by
 have al:=any_len rows hl .no
 rw [h] at al
 have x2:K77.X_fewest_2.f [.lst (rows.map rwD)]=true:=by
  unfold K77.X_fewest_2.f runX K77.X_fewest_2.x ifX
  show (match testT _ [.v (.lst (rows.map rwD)),.no] with | some true=>_ | some false=>_ | none=>_)=true
  rw [al]
  rfl
 have e:=eqD_bb true false true false
 unfold K77.L_refused.f
 refine jN ?_
 unfold K77.L_refused.g
 generalize rows.map rwD=R at *
 rw [xF (r:=.val (.bl true)) (by
  unfold tryG2
  rw [if_pos (by simp [callX,args,x2])]
  simp [args,isxG,e,goneO])]
theorem ref_many {rows:List Rw} (hl:rows.length<=1000) (h:rows.any lnN=false) (h8:8 < rows.length):K77.L_refused.f [.lst (rows.map rwD),.lst [.bl false,.bl true]]=some (.val (.bl true)):=by
 have al:=any_len rows hl .no
 rw [h] at al
 have x2:K77.X_fewest_2.f [.lst (rows.map rwD)]=false:=by
  unfold K77.X_fewest_2.f runX K77.X_fewest_2.x ifX
  show (match testT _ [.v (.lst (rows.map rwD)),.no] with | some true=>_ | some false=>_ | none=>_)=false
  rw [al]
  rfl
 have x10:K77.X_fewest_10.f [.lst (rows.map rwD)]=true:=by
  unfold K77.X_fewest_10.f runX K77.X_fewest_10.x seqX
  show (match ifG (testT _) _ _ [.v (.lst (rows.map rwD)),.no] with | some (.nx ds')=>_ | _=>_)=true
  rw [yM,al,Option.bind_some,if_neg (by decide)]
  show ifX _ _ _ [.v (.lst (rows.map rwD)),.no]=true
  have hg:(8:Int) < ((rows.map rwD).length:Int):=by rw [List.length_map]; omega
  generalize rows.map rwD=R at *
  simp [ifX,hg,alwaysX]
 have e:=eqD_bb false true false true
 unfold K77.L_refused.f
 refine jN ?_
 unfold K77.L_refused.g
 generalize rows.map rwD=R at *
 rw [xF (r:=.val (.bl true)) (by
  unfold tryG2
  rw [if_neg (by simp [callX,args,x2]),if_pos (by simp [callX,args,x10])]
  have l1:List.lookup 10 [((2:Nat),false),(10,false)]=some false:=rfl
  have l2:List.lookup 10 [((2:Nat),true),(10,true)]=some true:=rfl
  have l3:List.lookup 10 [((2:Nat),true),(10,false)]=some false:=rfl
  have l4:List.lookup 10 [((2:Nat),false),(10,true)]=some true:=rfl
  simp [args,isxG,e,goneO,l1,l2,l3,l4])]
abbrev En:=List (Int×Int×Int)
noncomputable def kI (i:Int):Key:=.inl (some i)
theorem kI_inj:kI a=kI b↔a=b:=by simp [kI]
noncomputable def pv2 (v:Int×Int):D:=.tup [.int v.1,.int v.2]
noncomputable def dE (E:En):OT:=.dct (E.map fun e=>kI e.1) (E.map fun e=>.val (pv2 e.2))
noncomputable def ddE (E:En):D:=.dct (E.map fun e=>kI e.1) (E.map fun e=>pv2 e.2)
theorem otDs_E:∀ E:En,otDs (E.map fun e=>.val (pv2 e.2))=E.map fun e=>pv2 e.2
 | []=>by simp [otDs]
 | e::E=>by simp [otDs,otD,otDs_E E]
theorem otD_E (E:En):otD (dE E)=ddE E:=by rw [dE,otD,otDs_E]; rfl
theorem flatO_E (E:En):flatO (dE E)=true:=by
 have:∀ E:En,flatOs (E.map fun e=>.val (pv2 e.2))=true:=by
  intro E
  induction E with
  | nil=>simp [flatOs]
  | cons e E ih =>
    have fp:flat (pv2 e.2)=true:=by simp [pv2]
    simp [flatOs,flatO,ih,fp]
 rw [dE,flatO,this]
theorem has_E (s:Int) (E:En):hasK (kI s) (E.map fun e=>kI e.1)=decide (s∈E.map (·.1)):=by
 induction E with
 | nil=>rfl
 | cons e E ih =>
   unfold hasK at ih ⊢
   rw [List.map_cons,List.any_cons,ih,Bool.eq_iff_iff,Bool.or_eq_true,decide_eq_true_eq,decide_eq_true_eq,decide_eq_true_eq,List.map_cons,List.mem_cons,kI_inj]
   exact or_congr_left eq_comm
noncomputable def putE (s:Int) (v:Int×Int) (E:En):En:=if s∈E.map (·.1) then E.map (fun e=>if e.1=s then (e.1,v) else e) else E++[(s,v)]
theorem putTs_E (s:Int) (v:Int×Int):∀ E:En,putTs (kI s) (.val (pv2 v)) (E.map fun e=>kI e.1) (E.map fun e=>.val (pv2 e.2))=(E.map (fun e=>if e.1=s then (e.1,v) else e)).map fun e=>.val (pv2 e.2)
 | []=>rfl
 | q :: B => by
   rw [List.map_cons,List.map_cons,putTs,putTs_E s v B,List.map_cons,List.map_cons]
   by_cases e:q.1=s <;> simp [kI_inj,e]
theorem put_E (s:Int) (v:Int×Int) (E:En):putKT (kI s) (.val (pv2 v)) (E.map fun e=>kI e.1) (E.map fun e=>.val (pv2 e.2))=dE (putE s v E):=by
 unfold putKT putE
 rw [has_E]
 by_cases e:s∈E.map (·.1)
 · rw [if_pos (decide_eq_true e), if_pos e, putTs_E, dE]
   congr 1
   rw [List.map_map]
   refine List.map_congr_left fun q _=>?_
   by_cases z:q.1=s <;> simp [z]
 · rw [if_neg (by simpa using e), if_neg e, dE]
   simp
structure Slo (E:En):Prop where
 nd:(E.map (·.1)).Nodup
 bd:∀ e∈E,(0<=e.1/\e.1<=30)/\(0<=e.2.1/\e.2.1<=1)/\0<=e.2.2/\e.2.2<=1
theorem Slo.put (S:Slo E) (hs:0<=s/\s<=30) (hv:(0<=v.1/\v.1<=1)/\0<=v.2/\v.2<=1):Slo (putE s v E):=by
 unfold putE
 by_cases e:s∈E.map (·.1)
 · rw [if_pos e]
   refine ⟨?_,fun q hq=>?_⟩
   · rw [List.map_map]
     have:E.map ((·.1) ∘ fun e=>if e.1=s then (e.1,v) else e)=E.map (·.1):=List.map_congr_left fun q _=>by by_cases z:q.1=s <;> simp [z]
     rw [this]; exact S.nd
   · obtain ⟨x, hx, rfl⟩ := List.mem_map.mp hq
     by_cases z:x.1=s
     · rw [if_pos z]; exact ⟨(S.bd x hx).1,hv⟩
     · rw [if_neg z]; exact S.bd x hx
 · rw [if_neg e]
   refine ⟨?_,fun q hq=>?_⟩
   · rw [List.map_append, List.nodup_append]
     refine ⟨S.nd,by simp,fun a ha b hb z=>?_⟩
     have hb:b=s:=by simpa using hb
     exact e (by rw [<- hb,<- z]; exact ha)
   · rcases List.mem_append.mp hq with hq | hq
     · exact S.bd q hq
     · rw [List.mem_singleton.mp hq]; exact ⟨hs,hv⟩
theorem Slo.len (S:Slo E):E.length<=31:=by
 have:=ndl (E.map (·.1)) ((List.range 31).map fun n:Nat=>(n:Int)) S.nd fun x hx=>by
  obtain ⟨e,he,rfl⟩:=List.mem_map.mp hx
  have:=(S.bd e he).1
  exact List.mem_map.mpr ⟨e.1.toNat,List.mem_range.mpr (by omega),by omega⟩
 simpa using this
theorem fill_loop (x0 x1 x2 x3:Sl) {w a d:Int} {v:Int×Int} (ha:w % 7=a) (hd:1+w / 7 % 5=d) (hv1:w / 140 % 5 / 4=v.1) (hv2:w / 700 % 6 / 5=v.2) (ha0:0<=a/\a<=6) (hd0:1<=d/\d<=5) (hv:(0<=v.1/\v.1<=1)/\0<=v.2/\v.2<=1):∀ (n k:Nat) (E:En) (x6:Sl),k+n<=4->Slo E->∃ E' y6,Slo E' ∧
  qN (zL 6) K77.L_slots.b1 ((List.range' k n).map fun j=>.int (j:Nat)) [x0,x1,x2,x3,.v (.int w),.ob none (dE E),x6]=some (.nx [x0,x1,x2,x3,.v (.int w),.ob none (dE E'),y6])
 | 0,k,E,x6,_,S=>⟨E,x6,S,by simp [qN]⟩
 | n + 1, k, E, x6, hk, S => by
   have j0:0<=(k:Int) * d:=Int.mul_nonneg (by omega) (by omega)
   have j1:(k:Int) * d<=3 * 5:=Int.mul_le_mul (by omega) (by omega) (by omega) (by omega)
   have S1:Slo (putE (a+(k:Int) * d) v E):=S.put (by omega) hv
   obtain ⟨E',y6,S2,e⟩:=fill_loop x0 x1 x2 x3 ha hd hv1 hv2 ha0 hd0 hv n (k+1) (putE (a+(k:Int) * d) v E) (.v (.int (k:Nat))) (by omega) S1
   refine ⟨E',y6,S2,?_⟩
   have ml:jL (.int (k:Nat)) (.int d)=some (.int ((k:Int) * d)):=jC (.of_left (qP (Nat.lt_of_lt_of_le (show (k:Int).natAbs < 8 by omega) (by decide))))
   have hl:=S.len
   have t:K77.L_slots.b1 [x0,x1,x2,x3,.v (.int w),.ob none (dE E),.v (.int (k:Nat))]=some (.nx [x0,x1,x2,x3,.v (.int w),.ob none (dE (putE (a+(k:Int) * d) v E)),.v (.int (k:Nat))]):=by
    unfold K77.L_slots.b1 dputG
    have f1:(mkT (zU (zB (zE jK (zE yB (zE jK (zF 4) (zA (.int 140))) (zA (.int 5))) (zA (.int 4))) (zB (zE jK (zE yB (zE jK (zF 4) (zA (.int 700))) (zA (.int 6))) (zA (.int 5))) zP)))) [x0,x1,x2,x3,.v (.int w),.ob none (dE E),.v (.int (k:Nat))]=some (pv2 v):=by
     simp [hv1,hv2,pv2]
    have f2:(zE jD (zE yB (zF 4) (zA (.int 7))) (zE jL (zF 6) (zE jD (zA (.int 1)) (zE yB (zE jK (zF 4) (zA (.int 7))) (zA (.int 5)))))) [x0,x1,x2,x3,.v (.int w),.ob none (dE E),.v (.int (k:Nat))]=some (.int (a+(k:Int) * d)):=by
     simp [ha,hd,ml]
    rw [f1,f2]
    show ((some (5,[],dE E):Option (Nat×List Nat×OT)).bind fun q=>(some (D.int (a+(k:Int) * d))).bind fun y=>(keyD y).bind fun k=>_)=_
    simp only [Option.bind_some]
    rw [show keyD (.int (a+(k:Int) * d))=some (kI (a+(k:Int) * d)) from rfl,Option.bind_some]
    have hz':E.length < 16777216:=by omega
    rw [dE]
    simp only [List.length_map,szl,hz',if_true]
    rw [Option.bind_some,put_E]
    rfl
   rw [List.range'_succ,List.map_cons,qN]
   simp only [zL,List.set_cons_succ,List.set_cons_zero,Option.bind_some,t]
   exact e
theorem slot_turn (cs:List Int) (k:Nat) (hk:k < cs.length) (hk2:cs.length<=1000) {most:Nat} {E:En} (S:Slo E) (hE:E.length<=most) (x4 x5 x6:Sl) :
  ∃ E' y4 y5 y6,Slo E'/\E'.length<=most/\K77.L_slots.b2 [.v (.lst (cs.map D.int)),.v (.int (most:Nat)),.ob none (dE E),.v (.int (k:Nat)),x4,x5,x6]=some (.nx [.v (.lst (cs.map D.int)),.v (.int (most:Nat)),.ob none (dE E'),.v (.int (k:Nat)),y4,y5,y6]):=by
 have ci:ixD (.lst (cs.map D.int)) (.int (k:Nat))=some (.int cs[k]):=by
  rw [xM _ (by omega) (by simp; omega)]
  simp [hk]
 have m1:jL (.int cs[k]) (.int 48271)=some (.int (cs[k] * 48271)):=jC (.of_right (qP (by decide)))
 have m2:jL (.int (k:Nat)) (.int (k:Nat))=some (.int ((k:Int) * k)):=jC (.of_left (qP (Nat.lt_of_lt_of_le (show (k:Int).natAbs < 1024 by omega) (by decide))))
 have m3:jL (.int ((k:Int) * k)) (.int 69621)=some (.int ((k:Int) * k * 69621)):=jC (.of_right (qP (by decide)))
 have d1:∀ x,yB (.int x) (.int 2147483647)=some (.int (x % 2147483647)):=fun x=>yS x (by decide)
 have d2:∀ x,yB (.int x) (.int 2147483563)=some (.int (x % 2147483563)):=fun x=>yS x (by decide)
 obtain ⟨z,hz⟩:∃ z:Int,(cs[k] * 48271+(k:Int) * k * 69621+7919) % 2147483647=z:=⟨_,rfl⟩
 have z0:0<=z:=hz ▸ Int.emod_nonneg _ (by decide)
 have z1:z < 2147483647:=hz ▸ Int.emod_lt_of_pos _ (by decide)
 have m4:jL (.int z) (.int z)=some (.int (z * z)):=jC (.of_left (qP (Nat.lt_of_lt_of_le (show z.natAbs < 2 ^ 31 by omega) (by decide))))
 obtain ⟨w,hw⟩:∃ w:Int,z * z % 2147483563=w:=⟨_,rfl⟩
 have w0:0<=w:=hw ▸ Int.emod_nonneg _ (by decide)
 obtain ⟨c,hcn⟩:∃ c:Nat,(c:Int)=1+w / 35 % 4:=⟨(1+w / 35 % 4).toNat,by omega⟩
 have okc:okR (c:Int):=yE (by omega) (by omega)
 have ot:=otD_E E
 have fo:=flatO_E E
 have cpy:relGO 2 (dcopyG (zZ 2)) [.v (.lst (cs.map D.int)),.v (.int (most:Nat)),.ob none (dE E),.v (.int (k:Nat)),.v (.int w),x5,x6]=some (dE E):=by
  rw [relGO,show relO 2 [.v (.lst (cs.map D.int)),.v (.int (most:Nat)),.ob none (dE E),.v (.int (k:Nat)),.v (.int w),x5,x6]=[.v (.lst (cs.map D.int)),.v (.int (most:Nat)),.v (ddE E),.v (.int (k:Nat)),.v (.int w),x5,x6] by rw [<- ot]; rfl]
  show ((some (OT.dct (E.map fun e=>kI e.1) ((E.map fun e=>pv2 e.2).map OT.val))).bind fun T=>if flatO T=true then some T else none)=_
  rw [show OT.dct (E.map fun e=>kI e.1) ((E.map fun e=>pv2 e.2).map OT.val)=dE E by rw [dE,List.map_map]; rfl,Option.bind_some,if_pos fo]
 obtain ⟨E',y6,S',lp⟩:=fill_loop (.v (.lst (cs.map D.int))) (.v (.int (most:Nat))) (.ob none (dE E)) (.v (.int (k:Nat))) (w:=w) (v:=(w / 140 % 5 / 4,w / 700 % 6 / 5)) rfl rfl rfl rfl (by omega) (by omega) (by simp only; omega) c 0 E x6 (by omega) S
 have hl':=S'.len
 have ln:relVO 5 (callB lenD (zB (mkL (lvalA (zZ 5))) zP)) [.v (.lst (cs.map D.int)),.v (.int (most:Nat)),.ob none (dE E),.v (.int (k:Nat)),.v (.int w),.ob none (dE E'),y6]=some (.int (E'.length:Nat)):=by
  rw [relVO,show relO 5 [.v (.lst (cs.map D.int)),.v (.int (most:Nat)),.ob none (dE E),.v (.int (k:Nat)),.v (.int w),.ob none (dE E'),y6]=[.v (.lst (cs.map D.int)),.v (.int (most:Nat)),.ob none (dE E),.v (.int (k:Nat)),.v (.int w),.v (ddE E'),y6] by rw [<- otD_E E']; rfl]
  have lv:lvalA (zZ 5) [.v (.lst (cs.map D.int)),.v (.int (most:Nat)),.ob none (dE E),.v (.int (k:Nat)),.v (.int w),.v (ddE E'),y6]=some (E'.map fun e=>pv2 e.2):=rfl
  simp only [yI,qZ,yT,lv,yY,Option.map_some,Option.bind_some,wX,List.length_map]
  rfl
 unfold K77.L_slots.b2
 generalize cs.map D.int=CS at *
 rw [zM (ds':=[.v (.lst CS),.v (.int (most:Nat)),.ob none (dE E),.v (.int (k:Nat)),.v (.int z),x5,x6]) (by simp [ci,m1,m2,m3,d1,hz])]
 rw [zM (ds':=[.v (.lst CS),.v (.int (most:Nat)),.ob none (dE E),.v (.int (k:Nat)),.v (.int w),x5,x6]) (by simp [m4,d2,hw])]
 rw [zM (ds':=[.v (.lst CS),.v (.int (most:Nat)),.ob none (dE E),.v (.int (k:Nat)),.v (.int w),.ob none (dE E),x6]) (by rw [setB,cpy]; rfl)]
 rw [zM (ds':=[.v (.lst CS),.v (.int (most:Nat)),.ob none (dE E),.v (.int (k:Nat)),.v (.int w),.ob none (dE E'),y6]) (by
  rw [yC]
  have r:rng1 (zE jD (zA (.int 1)) (zE yB (zE jK (zF 4) (zA (.int 35))) (zA (.int 4)))) [.v (.lst CS),.v (.int (most:Nat)),.ob none (dE E),.v (.int (k:Nat)),.v (.int w),.ob none (dE E),x6]=some ((List.range' 0 c).map fun j=>.int (j:Nat)):=by
   simp [<- hcn,okc,rangeD,List.range_eq_range']
  rw [r,Option.bind_some]
  exact lp)]
 have tst:zT (zE leD (relVO 5 (callB lenD (zB (mkL (lvalA (zZ 5))) zP))) (zF 1)) [.v (.lst CS),.v (.int (most:Nat)),.ob none (dE E),.v (.int (k:Nat)),.v (.int w),.ob none (dE E'),y6]=some (decide ((E'.length:Int)<=most)):=by
  rw [vA,vE,ln]
  rfl
 rw [yM,tst,Option.bind_some]
 by_cases h:(E'.length:Int)<=most
 · rw [if_pos (decide_eq_true h)]
   exact ⟨E',.v (.int w),.no,y6,S',by omega,rfl⟩
 · rw [if_neg (by simpa using h)]
   exact ⟨E,.v (.int w),.ob none (dE E'),y6,S,hE,rfl⟩
theorem slot_loop (cs:List Int) (hk2:cs.length<=1000) {most:Nat} : ∀ (n k:Nat) (E:En) (x3 x4 x5 x6:Sl),k+n=cs.length->Slo E->E.length<=most →
  ∃ E' y3 y4 y5 y6,Slo E'/\E'.length<=most/\qN (zL 3) K77.L_slots.b2 ((List.range' k n).map fun i=>.int (i:Nat)) [.v (.lst (cs.map D.int)),.v (.int (most:Nat)),.ob none (dE E),x3,x4,x5,x6]=some (.nx [.v (.lst (cs.map D.int)),.v (.int (most:Nat)),.ob none (dE E'),y3,y4,y5,y6])
 | 0,k,E,x3,x4,x5,x6,_,S,hE=>⟨E,x3,x4,x5,x6,S,hE,by simp [qN]⟩
 | n + 1, k, E, x3, x4, x5, x6, h, S, hE => by
   obtain ⟨E1,z4,z5,z6,S1,l1,t⟩:=slot_turn cs k (by omega) hk2 S hE x4 x5 x6
   obtain ⟨E2,y3,y4,y5,y6,S2,l2,e2⟩:=slot_loop cs hk2 n (k+1) E1 (.v (.int (k:Nat))) z4 z5 z6 (by omega) S1 l1
   refine ⟨E2,y3,y4,y5,y6,S2,l2,?_⟩
   rw [List.range'_succ,List.map_cons,qN]
   simp only [zL,List.set_cons_succ,List.set_cons_zero,Option.bind_some,t]
   exact e2
theorem slots_ex (cs:List Int) (hk2:cs.length<=1000) (most:Nat):∃ E,Slo E/\E.length<=most/\K77.L_slots.f [.lst (cs.map D.int),.int (most:Nat)]=some (.val (ddE E)):=by
 obtain ⟨E,y3,y4,y5,y6,S,l,e⟩:=slot_loop cs hk2 (most:=most) cs.length 0 [] .no .no .no .no (by omega) ⟨List.nodup_nil,(fun _ z=>by cases z)⟩ (by simp)
 refine ⟨E,S,l,?_⟩
 have ok:okR (cs.length:Int):=yE (by omega) (by omega)
 have fo:=flatO_E E
 have ot:=otD_E E
 unfold K77.L_slots.f
 refine jN ?_
 unfold K77.L_slots.g
 show qH _ _ [.v (.lst (cs.map D.int)),.v (.int (most:Nat)),.no,.no,.no,.no,.no]=_
 rw [zM (ds':=[.v (.lst (cs.map D.int)),.v (.int (most:Nat)),.ob none (dE []),.no,.no,.no,.no]) (by simp [setB,dO0,dE])]
 rw [zM (ds':=[.v (.lst (cs.map D.int)),.v (.int (most:Nat)),.ob none (dE E),y3,y4,y5,y6]) (by
  rw [yC]
  have r:rng1 (callB lenD (zB (zF 0) zP)) [.v (.lst (cs.map D.int)),.v (.int (most:Nat)),.ob none (dE []),.no,.no,.no,.no]=some ((List.range' 0 cs.length).map fun i=>.int (i:Nat)):=by
   have hl:((cs.map D.int).length:Int)=(cs.length:Int):=by simp
   generalize cs.map D.int=CS at *
   simp [hl,ok,rangeD,List.range_eq_range']
  rw [r,Option.bind_some]
  exact e)]
 show ((if flatO (dE E)=true then some (otD (dE E)) else none).map fun d=>Out.rt (.val d))=_
 rw [if_pos fo,ot]
 rfl
noncomputable def pc7 (tc:Bool) (b L W v:Int) (s:Int) (k:Int×Int):Pc:=if tc=true then (b+s * L,b+s * L+L,v+2 * k.1+s % 2) else (b+s * W,b+s * W+L+k.2,v+k.1)
noncomputable def kdE (E:En) (s:Int):Int×Int:=((E.find? fun e=>decide (e.1=s)).map (·.2)).getD (0,0)
theorem get_E {E:En} (h:s∈E.map (·.1)):getKD (kI s) (E.map fun e=>kI e.1) (E.map fun e=>pv2 e.2)=some (pv2 (kdE E s)):=by
 induction E with
 | nil=>cases h
 | cons e E ih =>
   rw [List.map_cons,List.map_cons,getKD]
   by_cases z:e.1=s
   · rw [if_pos (kI_inj.mpr z)]
     simp [kdE,z]
   · rw [if_neg (fun y => z (kI_inj.mp y)), ih ((List.mem_cons.mp h).resolve_left fun y => z y.symm)]
     simp [kdE,z]
theorem kdE_mem {E:En} (h:s∈E.map (·.1)):(s,kdE E s)∈E:=by
 induction E with
 | nil=>cases h
 | cons e E ih =>
   by_cases z:e.1=s
   · have : kdE (e :: E) s = e.2 := by simp [kdE, z]
     rw [this,<- z]; exact .head _
   · have : kdE (e :: E) s = kdE E s := by simp [kdE, z]
     rw [this]
     exact .tail _ (ih ((List.mem_cons.mp h).resolve_left fun y=>z y.symm))
theorem pc_loop77 {E:En} (tc:Bool) (b cell v L W:Int) (x2:Sl):∀ (ss:List Int) (P:List Pc) (x8 x9 x10 x11:Sl),(∀ s∈ss,s∈E.map (·.1)/\0<=s/\s<=30)->P.length+ss.length<=1000->∃ y8 y9 y10 y11,
  qN (zL 8) K77.L_pieces.b1 (ss.map D.int) [.v (ddE E),.v (.int b),x2,.v (.int v),.v (.int L),.v (.int W),.v (.bl tc),.own (P.map pcD),x8,x9,x10,x11]=some (.nx [.v (ddE E),.v (.int b),x2,.v (.int v),.v (.int L),.v (.int W),.v (.bl tc),.own ((P++ss.map fun s=>pc7 tc b L W v s (kdE E s)).map pcD),y8,y9,y10,y11])
 | [],P,x8,x9,x10,x11,_,_=>⟨x8,x9,x10,x11,by simp [qN]⟩
 | s :: ss, P, x8, x9, x10, x11, hs, hz => by
   simp only [List.length_cons] at hz
   have h0:=hs s (.head _)
   have dg:dgetG (zZ 0) (zZ 8) [.v (ddE E),.v (.int b),x2,.v (.int v),.v (.int L),.v (.int W),.v (.bl tc),.own (P.map pcD),.v (.int s),x9,x10,x11]=some (pv2 (kdE E s)):=by
    show (some (ddE E)).bind (fun x=>(some (D.int s)).bind fun y=>(keyD y).bind fun k=>(kdD x).bind fun p=>getKD k p.1 p.2)=_
    rw [Option.bind_some,Option.bind_some,show keyD (.int s)=some (kI s) from rfl,Option.bind_some,show kdD (ddE E)=some (E.map fun e=>kI e.1,E.map fun e=>pv2 e.2) from rfl,Option.bind_some]
    exact get_E h0.1
   have m1:∀ x:Int,jL (.int s) (.int x)=some (.int (s * x)):=fun x=>jC (.of_left (qP (Nat.lt_of_lt_of_le (show s.natAbs < 32 by omega) (by decide))))
   have m2:∀ x:Int,jL (.int 2) (.int x)=some (.int (2 * x)):=fun x=>jC (.of_left (qP (by decide)))
   have hz':P.length < 16777216:=by omega
   have t:∃ z11,K77.L_pieces.b1 [.v (ddE E),.v (.int b),x2,.v (.int v),.v (.int L),.v (.int W),.v (.bl tc),.own (P.map pcD),.v (.int s),x9,x10,x11]=some (.nx [.v (ddE E),.v (.int b),x2,.v (.int v),.v (.int L),.v (.int W),.v (.bl tc),.own ((P++[pc7 tc b L W v s (kdE E s)]).map pcD),.v (.int s),.v (.int (kdE E s).1),.v (.int (kdE E s).2),z11]):=by
    unfold K77.L_pieces.b1
    rw [List.map_append]
    generalize kdE E s=kk at dg ⊢
    obtain ⟨k1,k2⟩:=kk
    rw [zM (ds':=[.v (ddE E),.v (.int b),x2,.v (.int v),.v (.int L),.v (.int W),.v (.bl tc),.own (P.map pcD),.v (.int s),.v (.int k1),.v (.int k2),x11]) (by
     rw [asgG_eq,dg]
     simp [pv2])]
    cases tc with
    | true =>
      refine ⟨.v (.int (b+s * L)),?_⟩
      generalize ddE E=DE
      simp [m1,m2,hz',pc7,pcD,rwD,pcR]
    | false =>
      refine ⟨.v (.int (b+s * W)),?_⟩
      generalize ddE E=DE
      simp [m1,m2,hz',pc7,pcD,rwD,pcR]
   obtain ⟨z11,t⟩:=t
   obtain ⟨y8,y9,y10,y11,e⟩:=pc_loop77 tc b cell v L W x2 ss (P++[pc7 tc b L W v s (kdE E s)]) (.v (.int s)) (.v (.int (kdE E s).1)) (.v (.int (kdE E s).2)) z11 (fun x hx=>hs x (.tail _ hx)) (by simp; omega)
   refine ⟨y8,y9,y10,y11,?_⟩
   rw [List.map_cons,qN]
   simp only [zL,List.set_cons_succ,List.set_cons_zero,Option.bind_some,t]
   rw [e]
   simp
theorem pieces77_ex {E:En} (S:Slo E) (b cell v:Int):∃ P:List Pc,(∀ p∈P,p.1 < p.2.1)/\P.Pairwise nxt/\P.length=E.length/\K77.L_pieces.f [ddE E,.int b,.int cell,.int v]=some (.fresh (P.map pcD)):=by
 have p1:powD (.int 10) (.int 40)=some (.int (10 ^ 40)):=pow10 (by decide) (by decide)
 have p2:powD (.int 10) (.int 30)=some (.int (10 ^ 30)):=pow10 (by decide) (by decide)
 have r1:∀ x,yB (.int x) (.int (10 ^ 40))=some (.int (x % 10 ^ 40)):=fun x=>yS x (by decide)
 have r2:∀ x,yB (.int x) (.int (10 ^ 30))=some (.int (x % 10 ^ 30)):=fun x=>yS x (by decide)
 obtain ⟨l,l0,e1⟩:∃ l:Int,0<=l/\ixD (.lst [.int (cell / 8 % 4),.int (cell / 8 % 10 ^ 40)]) (.int (cell % 8 / 6))=some (.int l):=by
  have m0:=Int.emod_nonneg (cell / 8) (show (10 ^ 40:Int)≠0 by decide)
  have:cell % 8 / 6=0 \/ cell % 8 / 6=1:=by omega
  rcases this with e | e
  · exact ⟨cell / 8 % 4,by omega,by rw [e]; exact ixL0 _ _⟩
  · exact ⟨_,m0,by rw [e]; exact ixL1 _ _ _⟩
 obtain ⟨w,w0,e2⟩:∃ w:Int,0<=w/\ixD (.lst [.int (cell / 8 % 3),.int (cell / 8 % 10 ^ 30)]) (.int (cell % 8 / 4 % 2))=some (.int w):=by
  have m0:=Int.emod_nonneg (cell / 8) (show (10 ^ 30:Int)≠0 by decide)
  have:cell % 8 / 4 % 2=0 \/ cell % 8 / 4 % 2=1:=by omega
  rcases this with e | e
  · exact ⟨cell / 8 % 3,by omega,by rw [e]; exact ixL0 _ _⟩
  · exact ⟨_,m0,by rw [e]; exact ixL1 _ _ _⟩
 obtain ⟨L,hL⟩:∃ L:Int,1+l=L:=⟨_,rfl⟩
 obtain ⟨W,hW⟩:∃ W:Int,L+2+w=W:=⟨_,rfl⟩
 have hs:=srtI_perm (E.map (·.1))
 have nds:(srtI (E.map (·.1))).Nodup:=hs.nodup_iff.mpr S.nd
 have lt:(srtI (E.map (·.1))).Pairwise (· < ·):=by
  have:=List.Pairwise.and (srtI_le (E.map (·.1))) (show List.Pairwise (·≠·) (srtI (E.map (·.1))) from nds)
  exact this.imp fun {a b} h=>by have:=h.1; have:=h.2; omega
 have memS:∀ s,s∈srtI (E.map (·.1))->s∈E.map (·.1)/\0<=s/\s<=30:=fun s h=>by
  have h:=hs.mem_iff.mp h
  obtain ⟨e,he,rfl⟩:=List.mem_map.mp h
  exact ⟨h,(S.bd e he).1⟩
 have kb:∀ s,s∈srtI (E.map (·.1))->(0<=(kdE E s).1/\(kdE E s).1<=1)/\0<=(kdE E s).2/\(kdE E s).2<=1:=fun s h=>(S.bd _ (kdE_mem (memS s h).1)).2
 have hlen:(srtI (E.map (·.1))).length=E.length:=by rw [hs.length_eq,List.length_map]
 have hE:=S.len
 generalize htc:decide (cell % 4=3)=tc
 refine ⟨(srtI (E.map (·.1))).map fun s=>pc7 tc b L W v s (kdE E s),fun p hp=>?_,?_,by simpa using hlen,?_⟩
 · obtain ⟨s, h, rfl⟩ := List.mem_map.mp hp
   have:=kb s h
   unfold pc7
   split
   · show b+s * L < b+s * L+L; omega
   · show b+s * W < b+s * W+L+(kdE E s).2; omega
 · rw [List.pairwise_map]
   refine List.Pairwise.imp_of_mem (fun {s t} h1 h2 h=>?_) lt
   have k1:=kb s h1
   have k2:=kb t h2
   unfold pc7
   split
   · by_cases e : t = s + 1
     · right
       subst e
       refine ⟨by show b+s * L+L=b+(s+1) * L; rw [Int.add_mul,Int.one_mul]; omega,?_⟩
       show v+2 * (kdE E s).1+s % 2≠v+2 * (kdE E (s+1)).1+(s+1) % 2
       omega
     · left
       show b+s * L+L < b+t * L
       have:(s+2) * L<=t * L:=Int.mul_le_mul_of_nonneg_right (by omega) (by omega)
       rw [Int.add_mul] at this
       omega
   · left
     show b+s * W+L+(kdE E s).2 < b+t * W
     have:(s+1) * W<=t * W:=Int.mul_le_mul_of_nonneg_right (by omega) (by omega)
     rw [Int.add_mul,Int.one_mul] at this
     omega
 · obtain ⟨y8, y9, y10, y11, lp⟩ := pc_loop77 (E := E) tc b cell v L W (.v (.int cell)) (srtI (E.map (·.1))) [] .no .no .no .no memS (by simp; omega)
   rw [List.nil_append] at lp
   have fl:flats (((srtI (E.map (·.1))).map fun s=>pc7 tc b L W v s (kdE E s)).map pcD)=true:=by rw [xO]; exact flats_rw _
   have sd:∀ x7 x8 x9 x10 x11,viaA (mkL (srtDI (zF 0))) asLT [.v (ddE E),.v (.int b),.v (.int cell),.v (.int v),.v (.int L),.v (.int W),.v (.bl tc),x7,x8,x9,x10,x11]=some ((srtI (E.map (·.1))).map D.int):=fun x7 x8 x9 x10 x11=>by
    have s1:srtDI (zF 0) [.v (ddE E),.v (.int b),.v (.int cell),.v (.int v),.v (.int L),.v (.int W),.v (.bl tc),x7,x8,x9,x10,x11]=some ((srtI (E.map (·.1))).map D.int):=by
     show (some (ddE E)).bind _=_
     rw [Option.bind_some,show kdD (ddE E)=some (E.map fun e=>kI e.1,E.map fun e=>pv2 e.2) from rfl,Option.bind_some]
     have:E.map (fun e=>kI e.1)=(E.map (·.1)).map fun i=>Sum.inl (some i):=by rw [List.map_map]; rfl
     rw [this,keysI_map]
     rfl
    simp only [viaA_eq,yT,s1,Option.map_some,Option.bind_some,asLT_lst]
   unfold K77.L_pieces.f
   refine jN ?_
   unfold K77.L_pieces.g
   generalize ((srtI (E.map (·.1))).map fun s=>pc7 tc b L W v s (kdE E s)).map pcD=A at *
   rw [zM (ds':=[.v (ddE E),.v (.int b),.v (.int cell),.v (.int v),.v (.int L),.no,.no,.no,.no,.no,.no,.no]) (by
    generalize ddE E=DE at *
    simp [-Int.reducePow,-Nat.reducePow,args,p1,r1,e1,hL])]
   rw [zM (ds':=[.v (ddE E),.v (.int b),.v (.int cell),.v (.int v),.v (.int L),.v (.int W),.no,.no,.no,.no,.no,.no]) (by
    generalize ddE E=DE at *
    simp [-Int.reducePow,-Nat.reducePow,p2,r2,e2,hW])]
   rw [zM (ds':=[.v (ddE E),.v (.int b),.v (.int cell),.v (.int v),.v (.int L),.v (.int W),.v (.bl tc),.no,.no,.no,.no,.no]) (by
    generalize ddE E=DE at *
    simp [htc])]
   rw [zM (ds':=[.v (ddE E),.v (.int b),.v (.int cell),.v (.int v),.v (.int L),.v (.int W),.v (.bl tc),.own [],.no,.no,.no,.no]) (by
    generalize ddE E=DE at *
    simp)]
   rw [zM (ds':=[.v (ddE E),.v (.int b),.v (.int cell),.v (.int v),.v (.int L),.v (.int W),.v (.bl tc),.own A,y8,y9,y10,y11]) (by
    rw [yC,sd]
    exact lp)]
   generalize ddE E=DE at *
   simp [fl]
theorem eqD_rln (a:List Rl):eqD (.lst (a.map rlD)) (.lst [])=some (.bl a.isEmpty):=by
 rw [kE (by simpa using shals_rl 38 a) (by simp),xU,eqvs_nil_r]
 cases a <;> rfl
theorem fin_ln {P:List Pc} : (P.map pcR).any lnN=false:=by
 rw [List.any_map,List.any_eq_false]
 intro p _
 simp [lnN,pcR]
theorem end_eq {P:List Pc} (h:PcsOk P) (x0 x1 x2 x3 x4 x5:Sl):(qH (yK 7 (mkL (lisA (zF 6))))
 (qH (yK 8 (qF 1 GP.fewest.f (zB (zF 7) zP)))
 (qH (ifG (orT (notT (testT (isiG "list" (zF 8)))) (orT (zT (zE neD (zF 7) (zF 6))) (notT (testT (qF 2 K77.L_exact.f (zB (zF 8) (zB (zF 6) zP))))))) (retG (zA (.bl false))) jS)
 (retG (orV (zE eqD (zF 8) (mkL (zU zP))) (notV (qF 3 (K77.L_can.f 11) (zB (zF 6) (zB (zF 6) (zB (zE subD (callB lenD (zB (zF 8) zP)) (zA (.int 1))) zP))))))))) ) [x0,x1,x2,x3,x4,x5,.own (P.map pcD),.no,.no]=some (.rt (.val (.bl true))):=by
 obtain ⟨L,h1,h2,h3,h4⟩:=fewest_eq h
 have hf:=h.few
 have c2:Cov P P.length:=⟨P.map fun p=>[p],by simp,fun l hl=>by
  obtain ⟨p,hp,rfl⟩:=List.mem_map.mp hl
  exact ⟨⟨p,1,1,by omega,by omega,by simp [shf]⟩,fun q hq=>by rw [List.mem_singleton.mp hq]; exact hp⟩,fun p hp=>⟨[p],List.mem_map.mpr ⟨p,hp,rfl⟩,.head _⟩⟩
 have hle:=h4 _ c2
 have ex:=exact_eq (P:=P) (L:=L) (by omega) (by omega) h2 h3
 have ne:=neD_pc P
 have en:=eqD_rln L
 have hln:((L.map rlD).length:Int)=L.length:=by simp
 obtain ⟨b,hb,hbt⟩:∃ b,(L≠[]->K77.L_can.f 11 [.lst (P.map pcD),.lst (P.map pcD),.int ((L.length:Int) - 1)]=some (.val (.bl b)))/\b=false:=by
  by_cases e:L=[]
  · exact ⟨false,fun z=>(z e).elim,rfl⟩
  · have pos : 0 < L.length := List.length_pos_iff.mpr e
    obtain ⟨b,f1,f2⟩:=can_says h (L.length - 1) 11 (by omega) P (by omega) fun _ z=>z
    refine ⟨b,fun _=>?_,?_⟩
    · rw [show ((L.length:Int) - 1)=((L.length - 1:Nat):Int) by omega]; exact f1
    · cases b with
      | false=>rfl
      | true =>
        obtain ⟨Ls,n1,n2,n3⟩:=f2 rfl
        have:=h4 Ls.length ⟨Ls,rfl,n2,n3⟩
        omega
 subst hbt
 have hcase:L=[] \/ L≠[]:=by
  by_cases e:L=[]
  · exact .inl e
  · exact .inr e
 have lem:L.isEmpty=true \/ (L.isEmpty=false/\K77.L_can.f 11 [.lst (P.map pcD),.lst (P.map pcD),.int ((L.length:Int) - 1)]=some (.val (.bl false))):=by
  rcases hcase with e | e
  · left; rw [e]; rfl
  · right
    refine ⟨?_,hb e⟩
    cases L with
    | nil=>exact (e rfl).elim
    | cons _ _=>rfl
 clear hb hcase
 generalize L.isEmpty=em at *
 generalize P.map pcD=A at *
 generalize L.map rlD=B at *
 rw [zM (ds':=[x0,x1,x2,x3,x4,x5,.own A,.v (.lst A),.no]) (by simp)]
 rw [zM (ds':=[x0,x1,x2,x3,x4,x5,.own A,.v (.lst A),.v (.lst B)]) (by simp [h1])]
 rw [zM (ds':=[x0,x1,x2,x3,x4,x5,.own A,.v (.lst A),.v (.lst B)]) (by simp [ne,ex])]
 rcases lem with e | ⟨e,e2⟩
 · subst e; simp [en]
 · subst e; simp [en,hln,e2]
theorem run_law (ns:List Int) (hl:ns.length<=63) (hb:∀ c∈ns,intBits c<=1048576):K77.law.f [.lst (ns.map D.int)]=some (.val (.bl true)):=by
 have c0:GL.cell_at.f [.lst (ns.map D.int),.int 0]=some (.val (.int (cel ns 0))):=vF ns 0
 have c1:GL.cell_at.f [.lst (ns.map D.int),.int 1]=some (.val (.int (cel ns 1))):=vF ns 1
 have c2:GL.cell_at.f [.lst (ns.map D.int),.int 2]=some (.val (.int (cel ns 2))):=vF ns 2
 have c3:GL.cell_at.f [.lst (ns.map D.int),.int 3]=some (.val (.int (cel ns 3))):=vF ns 3
 have p1:powD (.int 10) (.int 60)=some (.int (10 ^ 60)):=pow10 (by decide) (by decide)
 have p2:=pow1060
 have m1:jL (.int 2) (.int ((10 ^ 60) ^ 8))=some (.int (2 * (10 ^ 60) ^ 8)):=jC (.of_left (qP (by decide)))
 have a5:jL (.int 2) (.int (10 ^ 60))=some (.int (2 * 10 ^ 60)):=jC (.of_left (qP (by decide)))
 have d1:∀ x,yB (.int x) (.int (2 * (10 ^ 60) ^ 8+1))=some (.int (x % (2 * (10 ^ 60) ^ 8+1))):=fun x=>yS x (by decide)
 have r3:∀ x,yB (.int x) (.int (2 * 10 ^ 60+1))=some (.int (x % (2 * 10 ^ 60+1))):=fun x=>yS x (by decide)
 obtain ⟨G,hG⟩:∃ G:Int,(10 ^ 60) ^ 8=G:=⟨_,rfl⟩
 rw [hG] at p2 m1 d1
 have sl:cutD (ns.map D.int) (some 4) none=(ns.drop 4).map D.int:=by rw [List.map_drop]; exact wN _ 4
 obtain ⟨most,hm,em⟩:∃ most:Nat,most<=22/\ixD (.lst [.int 8,.int 8,.int 8,.int 22,.int 8,.int 8]) (.int (cel ns 0 % 6))=some (.int (most:Nat)):=by
  have q0:=Int.emod_nonneg (cel ns 0) (show (6:Int)≠0 by decide)
  have q1:=Int.emod_lt_of_pos (cel ns 0) (show (0:Int) < 6 by decide)
  generalize cel ns 0 % 6=r at *
  have:r=0 \/ r=1 \/ r=2 \/ r=3 \/ r=4 \/ r=5:=by omega
  rcases this with e | e | e | e | e | e <;> subst e
  · exact ⟨8,by omega,rfl⟩
  · exact ⟨8,by omega,rfl⟩
  · exact ⟨8,by omega,rfl⟩
  · exact ⟨22,by omega,rfl⟩
  · exact ⟨8,by omega,rfl⟩
  · exact ⟨8,by omega,rfl⟩
 obtain ⟨E,S,_,sx⟩:=slots_ex (ns.drop 4) (by simp; omega) most
 rw [<- sl] at sx
 obtain ⟨b,hbg⟩:∃ b:Int,cel ns 1 % (2 * G+1) - G=b:=⟨_,rfl⟩
 obtain ⟨v,hv⟩:∃ b:Int,cel ns 3 % (2 * 10 ^ 60+1) - 10 ^ 60=b:=⟨_,rfl⟩
 obtain ⟨P,w1,w2,w3,px⟩:=pieces77_ex S b (cel ns 2) v
 have hE:=S.len
 have nn:=neD_nil' P
 unfold K77.law.f
 refine jN ?_
 unfold K77.law.g
 have pre:∀ Q:FS,(qH (yK 1 (qF 2 GL.cell_at.f (zB (zF 0) (zB (zA (.int 0)) zP))))
   (qH (yK 2 (qF 2 K77.L_slots.f (zB (mkL (sliA (zF 0) (soP (zA (.int 4))) noP)) (zB (zE ixD (mkL (zU (zB (zA (.int 8)) (zB (zA (.int 8)) (zB (zA (.int 8)) (zB (zA (.int 22)) (zB (zA (.int 8)) (zB (zA (.int 8)) zP)))))))) (zE yB (zF 1) (zA (.int 6)))) zP))))
   (qH (yK 3 (zE powD (zE powD (zA (.int 10)) (zA (.int 60))) (zA (.int 8))))
   (qH (yK 4 (zE subD (zE yB (qF 2 GL.cell_at.f (zB (zF 0) (zB (zA (.int 1)) zP))) (zE jD (zE jL (zA (.int 2)) (zF 3)) (zA (.int 1)))) (zF 3)))
   (qH (yK 5 (zE subD (zE yB (qF 2 GL.cell_at.f (zB (zF 0) (zB (zA (.int 3)) zP))) (zE jD (zE jL (zA (.int 2)) (zE powD (zA (.int 10)) (zA (.int 60)))) (zA (.int 1)))) (zE powD (zA (.int 10)) (zA (.int 60)))))
   (qH (setOG 6 (callF 4 K77.L_pieces.f (zB (zF 2) (zB (zF 4) (zB (qF 2 GL.cell_at.f (zB (zF 0) (zB (zA (.int 2)) zP))) (zB (zF 5) zP)))))) Q)))))) [.v (.lst (ns.map D.int)),.no,.no,.no,.no,.no,.no,.no,.no]=Q [.v (.lst (ns.map D.int)),.v (.int (cel ns 0)),.v (ddE E),.v (.int G),.v (.int b),.v (.int v),.own (P.map pcD),.no,.no]:=fun Q=>by
  generalize hC:cutD (ns.map D.int) (some 4) none=C at *
  generalize ns.map D.int=NS at *
  generalize P.map pcD=A at *
  generalize ddE E=DE at *
  rw [zM (ds':=[.v (.lst NS),.v (.int (cel ns 0)),.no,.no,.no,.no,.no,.no,.no]) (by simp [c0])]
  rw [zM (ds':=[.v (.lst NS),.v (.int (cel ns 0)),.v DE,.no,.no,.no,.no,.no,.no]) (by simp [hC,em,sx])]
  rw [zM (ds':=[.v (.lst NS),.v (.int (cel ns 0)),.v DE,.v (.int G),.no,.no,.no,.no,.no]) (by simp [-Int.reducePow,-Nat.reducePow,p1,p2])]
  rw [zM (ds':=[.v (.lst NS),.v (.int (cel ns 0)),.v DE,.v (.int G),.v (.int b),.no,.no,.no,.no]) (by simp [-Int.reducePow,-Nat.reducePow,c1,m1,d1,hbg])]
  rw [zM (ds':=[.v (.lst NS),.v (.int (cel ns 0)),.v DE,.v (.int G),.v (.int b),.v (.int v),.no,.no,.no]) (by simp [-Int.reducePow,-Nat.reducePow,c3,p1,a5,r3,hv])]
  rw [zM (ds':=[.v (.lst NS),.v (.int (cel ns 0)),.v DE,.v (.int G),.v (.int b),.v (.int v),.own A,.no,.no]) (by simp [c2,px])]
 show qH _ _ [.v (.lst (ns.map D.int)),.no,.no,.no,.no,.no,.no,.no,.no]=_
 rw [pre]
 clear pre
 generalize ns.map D.int=NS
 generalize ddE E=DE
 by_cases h1:(!P.isEmpty && decide (cel ns 0 / 6 % 8=1))=true
 · simp only [Bool.and_eq_true, Bool.not_eq_true', decide_eq_true_eq] at h1
   rw [h1.1] at nn
   obtain ⟨p,P,rfl⟩:∃ p Q,P=p::Q:=by
    cases P with
    | nil=>cases h1.1
    | cons p Q=>exact ⟨p,Q,rfl⟩
   have rf:=ref_end (rows:=(none,some p.2.1,some p.2.2)::P.map pcR) (by simp at w3 ⊢; omega) (by simp [lnN])
   have q1:=pcD_1 p
   have q2:=pcD_2 p
   rw [List.map_cons,<- xO,show rwD (none,some p.2.1,some p.2.2) = .tup [.non,.int p.2.1,.int p.2.2] from rfl] at rf
   rw [List.map_cons] at nn ⊢
   generalize pcD p=Dp at *
   generalize P.map pcD=A at *
   have i0:ixD (.lst (Dp::A)) (.int 0)=some Dp:=ixL0 _ _
   have ix:ixN (A.length+1) 0=some 0:=by rw [ixN_pos (by omega) (by omega)]; rfl
   rw [xF (r:=.val (.bl true)) (by
    rw [yM,show (andT (zT (zE neD (zF 6) (mkL (zU zP)))) (zT (zE eqD (zE yB (zE jK (zF 1) (zA (.int 6))) (zA (.int 8))) (zA (.int 1))))) [.v (.lst NS),.v (.int (cel ns 0)),.v DE,.v (.int G),.v (.int b),.v (.int v),.own (Dp::A),.no,.no]=some true by simp [nn,h1.2],Option.bind_some,if_pos rfl]
    rw [zM (ds':=[.v (.lst NS),.v (.int (cel ns 0)),.v DE,.v (.int G),.v (.int b),.v (.int v),.own (.tup [.non,.int p.2.1,.int p.2.2]::A),.no,.no]) (by simp [i0,q1,q2,ix])]
    simp [rf])]
 · have t1:(andT (zT (zE neD (zF 6) (mkL (zU zP)))) (zT (zE eqD (zE yB (zE jK (zF 1) (zA (.int 6))) (zA (.int 8))) (zA (.int 1))))) [.v (.lst NS),.v (.int (cel ns 0)),.v DE,.v (.int G),.v (.int b),.v (.int v),.own (P.map pcD),.no,.no]=some false:=by
    have h1:(!P.isEmpty && decide (cel ns 0 / 6 % 8=1))=false:=by simpa using h1
    rw [<- h1]
    generalize P.isEmpty=e at *
    generalize P.map pcD=A at *
    cases e <;> simp [nn]
   rw [zM (ds':=[.v (.lst NS),.v (.int (cel ns 0)),.v DE,.v (.int G),.v (.int b),.v (.int v),.own (P.map pcD),.no,.no]) (by rw [yM,t1]; rfl)]
   by_cases h2:(!P.isEmpty && decide (cel ns 0 / 6 % 8=2))=true
   · simp only [Bool.and_eq_true, Bool.not_eq_true', decide_eq_true_eq] at h2
     rw [h2.1] at nn
     obtain ⟨Q,p,rfl⟩:∃ Q p,P=Q++[p]:=by
      rcases List.eq_nil_or_concat P with e | ⟨Q,p,e⟩
      · rw [e] at h2; cases h2.1
      · exact ⟨Q,p,by rw [e,List.concat_eq_append]⟩
     have rf:=ref_end (rows:=Q.map pcR++[(some p.1,none,some p.2.2)]) (by simp at w3 ⊢; omega) (by simp [lnN])
     have q0:=pcD_0 p
     have q2:=pcD_2 p
     rw [List.map_append,<- xO,show [(some p.1,none,some p.2.2)].map rwD=[.tup [.int p.1,.non,.int p.2.2]] from rfl] at rf
     rw [List.map_append,show [p].map pcD=[pcD p] from rfl] at nn ⊢
     generalize pcD p=Dp at *
     generalize Q.map pcD=A at *
     have i0:ixD (.lst (A++[Dp])) (.int (-1))=some Dp:=ixL_last A Dp
     have ix:ixN (A.length+1) (-1)=some A.length:=by
      unfold ixN
      rw [if_neg (by decide),if_pos (by omega)]
      congr 1
      omega
     rw [xF (r:=.val (.bl true)) (by
      rw [yM,show (andT (zT (zE neD (zF 6) (mkL (zU zP)))) (zT (zE eqD (zE yB (zE jK (zF 1) (zA (.int 6))) (zA (.int 8))) (zA (.int 2))))) [.v (.lst NS),.v (.int (cel ns 0)),.v DE,.v (.int G),.v (.int b),.v (.int v),.own (A++[Dp]),.no,.no]=some true by simp [nn,h2.2],Option.bind_some,if_pos rfl]
      rw [zM (ds':=[.v (.lst NS),.v (.int (cel ns 0)),.v DE,.v (.int G),.v (.int b),.v (.int v),.own (A++[.tup [.int p.1,.non,.int p.2.2]]),.no,.no]) (by simp [i0,q0,q2,ix])]
      simp [rf])]
   · have t2:(andT (zT (zE neD (zF 6) (mkL (zU zP)))) (zT (zE eqD (zE yB (zE jK (zF 1) (zA (.int 6))) (zA (.int 8))) (zA (.int 2))))) [.v (.lst NS),.v (.int (cel ns 0)),.v DE,.v (.int G),.v (.int b),.v (.int v),.own (P.map pcD),.no,.no]=some false:=by
      have h2:(!P.isEmpty && decide (cel ns 0 / 6 % 8=2))=false:=by simpa using h2
      rw [<- h2]
      generalize P.isEmpty=e at *
      generalize P.map pcD=A at *
      cases e <;> simp [nn]
     rw [zM (ds':=[.v (.lst NS),.v (.int (cel ns 0)),.v DE,.v (.int G),.v (.int b),.v (.int v),.own (P.map pcD),.no,.no]) (by rw [yM,t2]; rfl)]
     have hPl:((P.map pcD).length:Int)=P.length:=by simp
     by_cases h3:8 < P.length
     · have rf := ref_many (rows := P.map pcR) (by simp; omega) fin_ln (by simpa using h3)
       rw [<- xO] at rf
       have h3':(8:Int) < (P.length:Int):=by omega
       generalize P.map pcD=A at *
       rw [xF (r:=.val (.bl true)) (by simp [hPl,h3',rf])]
     · have ok : PcsOk P := pcsOk_of w1 w2 (by omega)
       have h3' : ¬ (8:Int) < (P.length:Int):=by omega
       rw [zM (ds':=[.v (.lst NS),.v (.int (cel ns 0)),.v DE,.v (.int G),.v (.int b),.v (.int v),.own (P.map pcD),.no,.no]) (by
        generalize P.map pcD=A at *
        simp [hPl,h3'])]
       exact end_eq ok _ _ _ _ _ _
end K77
namespace K77
open PySem PyProof.Rows L2 FL
set_option maxHeartbeats 0 in
theorem all_mk {l:PySem.W.OpenLaw} {w:World} {K:PySem.W.Frag} {h:Heap} {mg:Str->Option Value} {fa:Addr} (X:K.In h) (G:h.Ns mainGlobals mg) (hfa:mg "law" = some (.ref fa))
  {f0 f1 f2 f3 f4 f5 f6 f7 f8 f9 f10 f11 f12 f13 f14 f15 f16 f17 E0 E1 E2 E3 E4 E5 E6 E7 E8 E9 E10 E11 E12:Addr}
  {t0 t1:Tok}
  {f18:Addr} {od18 an18:Option Addr} {sl18:Array (Option Value)} {oc18 kV18 dc18 pm18 cd18 ct18:Value}
  (d0:DefM K "length" (top 15) f0)
  (d1:DefM K "is_rule" (top 19) f1)
  (d2:DefM K "stretches" (top 18) f2)
  (d3:DefM K "bits_of" (top 23) f3)
  (d4:DefM K "least_cover" (top 28) f4)
  (d5:DefM K "alike" (top 25) f5)
  (d6:DefM K "bits_made" (top 27) f6)
  (d7:DefM K "longest_rule" (top 26) f7)
  (d8:DefM K "covers" (top 24) f8)
  (d9:DefM K "fewest" (top 22) f9)
  (d10:DefM K "_law_cell_at" (top 30) f10)
  (d11:DefM K "_law_whole" (top 31) f11)
  (d12:DefM K "_law_slots" (top 32) f12)
  (d13:DefM K "_law_pieces" (top 33) f13)
  (d14:DefM K "_law_refused" (top 34) f14)
  (d15:DefM K "_law_is_rule" (top 35) f15)
  (d16:DefM K "_law_exact" (top 36) f16)
  (d17:DefM K "_law_can" (top 37) f17)
  (a18:PySem.W.nsIn K mainGlobals "law" = some (some (.ref f18))) (l18:LkF K f18 oc18 od18 "law" "law" (top 38) .none kV18 dc18 pm18 an18 cd18 ct18 sl18) (c18:PySem.W.codeIn K cd18 "law" = true) (k18:PySem.W.keepIn K (.ref f18)=true)
  (xn0:PySem.W.nsIn K mainGlobals "SpanError" = some (some (.ref E0)))
  (xn1:PySem.W.nsIn K mainGlobals "Empty" = some (some (.ref E1)))
  (y2:XI K "NoEnd" E2)
  (xn3:PySem.W.nsIn K mainGlobals "Clash" = some (some (.ref E3)))
  (xn4:PySem.W.nsIn K mainGlobals "NoCount" = some (some (.ref E4)))
  (xn5:PySem.W.nsIn K mainGlobals "NoShare" = some (some (.ref E5)))
  (xn6:PySem.W.nsIn K mainGlobals "NoName" = some (some (.ref E6)))
  (xn7:PySem.W.nsIn K mainGlobals "NoMark" = some (some (.ref E7)))
  (xn8:PySem.W.nsIn K mainGlobals "NoDeed" = some (some (.ref E8)))
  (xn9:PySem.W.nsIn K mainGlobals "NoRule" = some (some (.ref E9)))
  (y10:XI K "TooMuch" E10)
  (xn11:PySem.W.nsIn K mainGlobals "NoText" = some (some (.ref E11)))
  (xn12:PySem.W.nsIn K mainGlobals "NoRow" = some (some (.ref E12)))
  (xe2:PySem.W.excIn K E2 [.type "ValueError",.type "Exception",.type "BaseException",.type "object"] "ValueError.__new__" = true)
  (xe10:PySem.W.excIn K E10 [.type "ValueError",.type "Exception",.type "BaseException",.type "object"] "ValueError.__new__" = true)
  (xb0:PySem.W.mroIn K E0 (.type "BaseException")=some true)
  (xu0:PySem.W.isClsIn K E0=true) (xy0:PySem.W.typeIn K (.ref E0)=some (.type "type"))
  (xs2_0:PySem.W.subIn K (.ref E2) (.ref E0)=some true)
  (x2_1:XN K E2 E1)
  (x2_3:XN K E2 E3)
  (x2_4:XN K E2 E4)
  (x2_5:XN K E2 E5)
  (x2_6:XN K E2 E6)
  (x2_7:XN K E2 E7)
  (x2_8:XN K E2 E8)
  (x2_9:XN K E2 E9)
  (x2_10:XN K E2 E10)
  (x2_11:XN K E2 E11)
  (x2_12:XN K E2 E12)
  (xs10_0:PySem.W.subIn K (.ref E10) (.ref E0)=some true)
  (x10_1:XN K E10 E1)
  (x10_2:XN K E10 E2)
  (x10_3:XN K E10 E3)
  (x10_4:XN K E10 E4)
  (x10_5:XN K E10 E5)
  (x10_6:XN K E10 E6)
  (x10_7:XN K E10 E7)
  (x10_8:XN K E10 E8)
  (x10_9:XN K E10 E9)
  (x10_11:XN K E10 E11)
  (x10_12:XN K E10 E12)
  (xs2_ValueError:PySem.W.subIn K (.ref E2) (.type "ValueError")=some true)
  (xs10_ValueError:PySem.W.subIn K (.ref E10) (.type "ValueError")=some true)
  (z0:PySem.W.nsIn K mainGlobals "ValueError" = some none)
  (z1:PySem.W.nsIn K mainGlobals "all" = some none)
  (z2:PySem.W.nsIn K mainGlobals "any" = some none)
  (z3:PySem.W.nsIn K mainGlobals "bool" = some none)
  (z4:PySem.W.nsIn K mainGlobals "dict" = some none)
  (z5:PySem.W.nsIn K mainGlobals "enumerate" = some none)
  (z6:PySem.W.nsIn K mainGlobals "int" = some none)
  (z7:PySem.W.nsIn K mainGlobals "isinstance" = some none)
  (z8:PySem.W.nsIn K mainGlobals "len" = some none)
  (z9:PySem.W.nsIn K mainGlobals "list" = some none)
  (z10:PySem.W.nsIn K mainGlobals "range" = some none)
  (z11:PySem.W.nsIn K mainGlobals "sorted" = some none)
  (z12:PySem.W.nsIn K mainGlobals "sum" = some none)
  (z13:PySem.W.nsIn K mainGlobals "tuple" = some none)
  (v0:PySem.W.nsIn K mainGlobals "MOST_PIECES" = some (some (.int 8 t0)))
  (v1:PySem.W.nsIn K mainGlobals "MOST_TIMES" = some (some (.int 100 t1)))
  (n3:N3 K) :
  ∃ fd:FuncData,(∀ (s:Shared) (v:Value),BindsTo s fd ⟨[v],[]⟩ [("_law_script",v)])/\∀ base:Heap,K.In base->base.Ns mainGlobals mg->FnOk l.prog w K mg base CX0 13 fa fd ["_law_script"] (spLawB K 63):=by
 have e:=hfa.symm.trans (PySem.W.mg_of X G a18)
 cases e
 have y2:XI K (xName 2) E2:=y2
 have y10:XI K (xName 10) E10:=y10
 have T:Glb K mg:=⟨PySem.W.mg_none_of X G z0,PySem.W.mg_none_of X G z1,PySem.W.mg_none_of X G z2,PySem.W.mg_none_of X G z3,PySem.W.mg_none_of X G z4,PySem.W.mg_none_of X G z5,PySem.W.mg_none_of X G z6,PySem.W.mg_none_of X G z7,PySem.W.mg_none_of X G z8,PySem.W.mg_none_of X G z9,PySem.W.mg_none_of X G z10,PySem.W.mg_none_of X G z11,PySem.W.mg_none_of X G z12,PySem.W.mg_none_of X G z13,⟨_,PySem.W.mg_of X G v0⟩,⟨_,PySem.W.mg_of X G v1⟩,not3 n3,⟨E10,PySem.W.mg_of X G y10.1,(isx_c y2 x2_10.k (isx_c y10 (kit_self E10) kJ))⟩,⟨E2,PySem.W.mg_of X G y2.1,(isx_c y2 (kit_self E2) (isx_c y10 x10_2.k kJ))⟩,(isx_c y2 (kitB_yes (by decide +kernel) xs2_ValueError) (isx_c y10 (kitB_yes (by decide +kernel) xs10_ValueError) kJ)),⟨E3,E1,E4,E8,E7,E6,E12,E9,E5,E11,PySem.W.mg_of X G xn3,PySem.W.mg_of X G xn1,PySem.W.mg_of X G xn4,PySem.W.mg_of X G xn8,PySem.W.mg_of X G xn7,PySem.W.mg_of X G xn6,PySem.W.mg_of X G xn12,PySem.W.mg_of X G xn9,PySem.W.mg_of X G xn5,PySem.W.mg_of X G xn11,(isx_consT (t:=2) (by exact y2.1) y2.i (zW x2_3.k (zW x2_1.k (zW x2_4.k (zW x2_8.k (zW x2_7.k (zW x2_6.k (zW x2_12.k (zW x2_9.k (zW x2_5.k (zW x2_11.k kitAny_nil)))))))))) (isx_oneT (t:=10) (by exact y10.1) y10.i (zW x10_3.k (zW x10_1.k (zW x10_4.k (zW x10_8.k (zW x10_7.k (zW x10_6.k (zW x10_12.k (zW x10_9.k (zW x10_5.k (zW x10_11.k kitAny_nil)))))))))) ))⟩⟩
 have XR_2:XR K mg 2 E2:=⟨by exact y2.1,by exact PySem.W.mg_of X G y2.1,⟨xe2,y2.i⟩⟩
 have XR_10:XR K mg 10 E10:=⟨by exact y10.1,by exact PySem.W.mg_of X G y10.1,⟨xe10,y10.i⟩⟩
 have XT_2:XT K mg 2 "SpanError" E2 E0:=⟨by exact y2.1,PySem.W.mg_of X G xn0,⟨kitCls_yes xu0 xy0 xs2_0,xb0⟩⟩
 have XT_10:XT K mg 10 "SpanError" E10 E0:=⟨by exact y10.1,PySem.W.mg_of X G xn0,⟨kitCls_yes xu0 xy0 xs10_0,xb0⟩⟩
 obtain ⟨_,F9,a9,k9⟩:=d9.get
 have b9:=F9.binds (ps:=["pieces"]) fun _ _ _ _ _ _=>len1 fun _=>rfl
 have F18:=fun_mk (st:=(top 38)) l18 c18 k18
 refine ⟨PySem.W.fnOf "law" "law" (yJ (top 38)) (jE (top 38)) (zJ (top 38)) .none kV18 dc18 pm18 an18 cd18 ct18,fun s v=>.of_eq rfl,fun base _ _=>?_⟩
 have S:SysAt l.prog w base K mg:=⟨h,X,G⟩
 have C_length:=d0.cal S fun F=>fok_length F T
 have C_is_rule:=d1.cal S fun F=>fok_is_rule F T
 have C_stretches:=d2.cal S fun F=>fok_stretches F T C_is_rule
 have C_bits_of:=d3.cal S fun F=>fok_bits_of F T
 have C_least_cover:=d4.cal S fun F=>fok_least_cover F T
 have C_alike:=d5.cal S fun F=>fok_alike F T
 have C_bits_made:=d6.cal S fun F=>fok_bits_made F T C_stretches
 have C_longest_rule:=d7.cal S fun F=>fok_longest_rule F T
 have C_covers:=d8.cal S fun F=>fok_covers F T C_alike C_bits_made C_longest_rule
 have GX9_2:=fokx_fewest_2 (P:=l.prog) (w:=w) (base:=base) F9 T C_bits_of C_least_cover C_covers C_length XR_2
 have CX_fewest_2:CalX l.prog w K mg base "fewest" 5 1 K77.X_fewest_2.f E2:=⟨f9,_,_,GX9_2,b9,k9,PySem.W.mg_of X G a9⟩
 have GX9_10:=fokx_fewest_10 (P:=l.prog) (w:=w) (base:=base) F9 T C_bits_of C_least_cover C_covers C_length XR_10
 have CX_fewest_10:CalX l.prog w K mg base "fewest" 5 1 K77.X_fewest_10.f E10:=⟨f9,_,_,GX9_10,b9,k9,PySem.W.mg_of X G a9⟩
 have G9:=fok_fewest F9 T C_bits_of C_least_cover C_covers C_length
 have C_fewest:=cal_mk G9 b9 k9 (PySem.W.mg_of X G a9)
 have C__law_cell_at:=d10.cal S fun F=>fok__law_cell_at F T
 have C__law_whole:=d11.cal S fun F=>fok__law_whole F T
 have C__law_slots:=d12.cal S fun F=>fok__law_slots F T
 have C__law_pieces:=d13.cal S fun F=>fok__law_pieces F T
 have C__law_refused:=d14.cal S fun F=>fok__law_refused F T C_fewest XT_2 CX_fewest_2 XT_10 CX_fewest_10
 have C__law_is_rule:=d15.cal S fun F=>fok__law_is_rule F T C__law_whole
 have C__law_exact:=d16.cal S fun F=>fok__law_exact F T C__law_is_rule
 have C__law_can:∀ n,Cal l.prog w K mg base "_law_can" (n+1) 3 (K77.L_can.f n):=fun n=>by
  induction n with
  | zero=>exact d17.cal S fun F=>fok__law_can0 F
  | succ n ih=>exact d17.cal S fun F=>fok__law_can F T ih
 have C__law_can:=C__law_can 11
 exact law_ofB (F:=K77.law.f) (fok_law F18 T C__law_cell_at C__law_slots C__law_pieces C_fewest C__law_refused C__law_exact C__law_can) run_law
end K77
namespace PySem.W.Fast
def tw14407160297322621768:=0
def tw12600146698143334827:=0
def tw15338742208807512217:=0
def tw16780849783828507169:=0
def tw11405070255534310660:=0
def tw10767524520363777624:=0
def tw11891050856534090453:=0
def tw15417329543996995306:=0
def tw14903415288738873513:=0
def tw345902803070844574:=0
def tw13372086268655561198:=0
def tw437369966684727729:=0
def tw6166914891416271966:=0
def tw3677363446630182067:=0
def tw15607679712329299310:=0
def tw3037457747669898524:=0
def tw5252730707964103336:=0
def tw17410144713432378743:=0
def tw4122652414687943809:=0
def tw3193849356322327938:=0
def tw14787347356085602424:=0
def tw6242409404198263178:=0
def tw1976406538578903557:=0
def tw14666035708247510091:=0
def tw15813521658191412313:=0
def tw15530507868350697048:=0
def tw2792965179895861347:=0
def tw2777434316502020881:=0
def tw7328365977146753475:=0
def tw10253911704463714722:=0
def tw4674742549696972731:=0
def tw16667871720445932538:=0
def tw6162339128959186103:=0
def tw13639112503320062809:=0
end PySem.W.Fast
def PySem.W.Fast.tw15783714931152250516:Unit:=()
def PySem.W.Fast.tw4567361202175090960:Unit:=()
def PySem.W.Fast.tw10351746110440200671:Unit:=()
def PySem.W.Fast.tw7211816154051444606:Unit:=()
def PySem.W.Fast.tw8349556018094298778:Unit:=()
def PySem.W.Fast.tw12624953204037612124:Unit:=()
def PySem.W.Fast.tw12291234719657570925:Unit:=()
def PySem.W.Fast.tw3617463907564951099:Unit:=()
def PySem.W.Fast.tw3808764804293092062:Unit:=()
def PySem.W.Fast.tw899129131258553775:Unit:=()
def PySem.W.Fast.tw4900445237936070815:Unit:=()
def PySem.W.Fast.tw11441383201476282081:Unit:=()
def PySem.W.Fast.tw7880877692985580998:Unit:=()
def PySem.W.Fast.tw13011293155909342515:Unit:=()
def PySem.W.Fast.tw10645949682939670554:Unit:=()
def PySem.W.Fast.tw11986897753886230043:Unit:=()
def PySem.W.Fast.tw10150204870905329519:Unit:=()
def PySem.W.Fast.tw15508118623276809605:Unit:=()
open PySem PySem.W PyProof.Rows
set_option maxRecDepth 100000 in
set_option maxHeartbeats 0 in
theorem PySem.Challenge.cw_spanmap_k77_fewest_holds : PySem.Challenge.rw_spanmap_k77_fewest.Holds := by
 w_on; o_law; k_head; (case hw=>w_witness2)
 k_fill
 refine' FL.walkB (l:=PySem.Challenge.rw_spanmap_k77_fewest) (k:=13) rfl rfl ⟨rfl,by decide,by decide⟩ (ts:=[]) (fun w h Y=>⟨PySem.W.kIn_of Y,fun _ h=>nomatch h⟩) (fun w=>by kernel_rfl) ?T ?F
 case T =>
  intro w
  dsimp only [L2.makers]
  repeat (first
   | exact FL.TabL.nil
   | (apply FL.tabL_noM (x:="Bundle.crowd") (C:="Bundle") (m:="crowd") (hm:=rfl); k_is)
   | (apply FL.tabL_met (x:="Bundle.crowd") (C:="Bundle") (m:="crowd") (hm:=rfl); k_is; k_is; k_is; exact rfl; k_is; exact rfl; kernel_rfl; decide)
   | (apply FL.tabL_no; k_is)
   | (apply FL.tabL_yes; k_is; k_is; exact rfl; k_is; exact rfl; kernel_rfl))
  all_goals decide
 case F =>
  intro w mg fa h KX G hmg
  refine' K77.all_mk KX G hmg ..
  all_goals first | (unfold FL.N3; kernel_rfl) | ((first | unfold FL.DefM | unfold FL.DefC); iterate 9 (apply Exists.intro); repeat' (first | (unfold FL.LkF; k_is) | k_is | apply And.intro)) | ((first | unfold FL.CN | unfold FL.XN | unfold FL.XI); repeat' (first | k_is | apply And.intro | decide)) | (unfold L2.NoAttr; k_is) | (unfold FL.LkF; k_is) | k_is | k_exc | decide | exact rfl | kernel_rfl | skip
#print axioms PySem.Challenge.cw_spanmap_k77_fewest_holds
