import PyProof.Rows.All
import Wide.All
import OpenK.AllK
import Wide.FinOn
import Lean
import PyProof.EqAt
import PyProof.DictItems
import PyProof.DictWalks
import PyProof.Rows.SortStr
import PyProof.Rows.SortShellK
import PyProof.Rows.SortWalk
import KE.KRevIter
import KE.KDictList
import PyProof.CollectIter
import PyProof.DictValues
import KE.KDictSum
import PyProof.EqKinds
import PyProof.TupleCall
import PyProof.ListRange
import PyProof.P3In
import PyProof.NeData
import PyProof.NsDelKeeps
import PyProof.SliceList
import KE.KLam
import KE.KIntText
import PySem.Challenge.RW_spanmap_k51_begun_and_done
set_option compiler.extract_closed false
set_option bootstrap.genMatcherCode false
set_option Elab.async false
set_option linter.all false
set_option maxRecDepth 100000
namespace HT
noncomputable def sIx (n d : Nat) : Option Int -> Nat
 | none => d
 | some v => if v < 0 then (v + (n : Int)).toNat else min v.toNat n
end HT
namespace L2
open PySem
abbrev Key := Sum (Option Int) Str
noncomputable def ixN (n : Nat) (i : Int) : Option Nat := if 0 <= i then (if i < n then some i.toNat else none) else if -(n : Int) <= i then some (i + n).toNat else none
noncomputable def atI {α : Type} (xs : List α) (i : Int) : Option α := (ixN xs.length i).bind fun j => xs[j]?
end L2
namespace FL
open PySem PySem.Spec PyProof.Rows L2
theorem bnd {α β : Type} {o : Option α} {f : α -> Option β} {b : β} (h : o.bind f = some b) : ∃ a, o = some a /\ f a = some b := Option.bind_eq_some_iff.mp h
theorem mpd {α β : Type} {o : Option α} {f : α -> β} {b : β} (h : o.map f = some b) : ∃ a, o = some a /\ f a = b := Option.map_eq_some_iff.mp h
noncomputable def clsName : Nat -> Str
 | 0 => "Put" | 1 => "Widen" | 2 => "Narrow" | 3 => "Move" | 4 => "Stretch" | 5 => "Mirror" | 6 => "Deed" | 7 => "Shut" | 8 => "Open" | 9 => "Endless" | 10 => "End" | 11 => "Line" | 12 => "Bundle" | 13 => "Desk"
 | 20 => "Line" | 21 => "Line" | 22 => "Line" | 23 => "Line" | 24 => "Bundle" | 25 => "Desk" | _ => ""
noncomputable def clsFlds : Nat -> List Str
 | 0 => ["span", "fill"] | 1 => ["fill", "at", "many"] | 2 => ["fill", "at", "many"] | 3 => ["fill", "far"] | 4 => ["fill", "top", "bottom"] | 5 => ["fill"] | 6 => ["fill"] | 7 => ["place"] | 8 => ["place"] | 11 => ["pieces", "places", "earlier", "later"] | 12 => ["lying"] | 13 => ["lines"]
 | 21 => ["pieces"] | 22 => ["pieces", "places"] | 23 => ["pieces", "places", "earlier"] | _ => []
noncomputable def fnName : Nat -> Str
 | 0 => "either" | 1 => "if_both" | 2 => "if_alone" | 3 => "summed" | 4 => "_law_first" | 5 => "_law_both" | 6 => "_law_left" | 7 => "_law_sum" | 8 => "_law_none" | _ => ""
inductive D where
 | non | bl (b : Bool) | int (i : Int) | str (x : Str) | tup (ds : List D) | lst (ds : List D)
 | dct (ks : List Key) (ds : List D) | ins (t : Nat) (ds : List D) | clo (m n : Nat) (ds : List D)
 | dcf (ks : List Key) (ds : List D)
mutual
noncomputable def flat : D -> Bool
 | .non | .bl _ | .int _ | .str _ => true
 | .tup ds => flats ds
 | _ => false
noncomputable def flats : List D -> Bool
 | [] => true
 | d :: r => flat d && flats r
end
noncomputable def xName : Nat -> Str
 | 0 => "SpanError" | 1 => "Empty" | 2 => "NoEnd" | 3 => "Clash" | 4 => "NoCount" | 5 => "NoShare" | 6 => "NoName" | 7 => "NoMark" | 8 => "NoDeed" | 9 => "NoRule" | 10 => "TooMuch" | 11 => "NoText" | _ => "NoRow"
inductive OT where
 | val (d : D) | lst (l : List OT) | tup (l : List OT) | dct (ks : List Key) (l : List OT) | ins (t : Nat) (l : List OT)
mutual
noncomputable def otD : OT -> D
 | .val d => d
 | .lst l => .lst (otDs l)
 | .tup l => .tup (otDs l)
 | .dct ks l => .dct ks (otDs l)
 | .ins t l => .ins t (otDs l)
noncomputable def otDs : List OT -> List D
 | [] => []
 | t :: r => otD t :: otDs r
end
inductive Sl where
 | no | v (d : D) | own (l : List D) | exc (t : Nat) | exf (t : Nat) (fs : List (Str × Int)) | fr (l : List D) | ob (r : Option Nat) (t : OT)
abbrev FE := List Sl -> Option D
abbrev FT := List Sl -> Option Bool
abbrev FA := List Sl -> Option (List D)
noncomputable def mkL (f : FA) : FE := fun ds => (f ds).map D.lst
noncomputable def qB (i : Nat) : FE := fun ds => match ds[i]? with | some (.v d) => some d | _ => none
noncomputable def zJ (i : Nat) : FE := fun ds => match ds[i]? with | some (.v d) => some d | some (.own l) => some (.lst l) | _ => none
noncomputable def zA (d : D) : FE := fun _ => some d
noncomputable def zI (op : D -> D -> Option D) (fa fb : FE) : FE := fun ds => (fa ds).bind fun x => (fb ds).bind fun y => op x y
noncomputable def isB : D -> Option Bool
 | .bl b => some b
 | _ => none
noncomputable def zU (f : FE) : FT := fun ds => (f ds).bind isB
noncomputable def yD : D -> D -> Option D
 | .int i, .int j => some (.int (i + j))
 | .str x, .str y => if x.length + y.length <= sizeLine then some (.str (x ++ y)) else none
 | _, _ => none
noncomputable def subD : D -> D -> Option D
 | .int i, .int j => some (.int (i - j))
 | _, _ => none
def divOk (j : Int) : Prop := 0 < j /\ j.natAbs.log2 < 9000
noncomputable instance divOkD (j : Int) : Decidable (divOk j) := Classical.propDecidable _
noncomputable def qP : D -> D -> Option D
 | .int i, .int j => if divOk j then some (.int (i / j)) else none
 | _, _ => none
noncomputable def qX : D -> D -> Option D
 | .int i, .int j => if 0 < j then some (.int (i % j)) else none
 | _, _ => none
noncomputable def cmpI (p : Int -> Int -> Bool) : D -> D -> Option D
 | .int i, .int j => some (.bl (p i j))
 | _, _ => none
noncomputable def andT (c d : FT) : FT := fun ds => (c ds).bind fun b => if b = true then d ds else some false
noncomputable def orT (c d : FT) : FT := fun ds => (c ds).bind fun b => if b = true then some true else d ds
noncomputable def notT (c : FT) : FT := fun ds => (c ds).map not
noncomputable def andV (f g : FE) : FE := fun ds => (f ds).bind fun d => match d with | .bl true => g ds | .bl false => some (.bl false) | _ => none
noncomputable def orV (f g : FE) : FE := fun ds => (f ds).bind fun d => match d with | .bl true => some (.bl true) | .bl false => g ds | _ => none
noncomputable def notV (f : FE) : FE := fun ds => (f ds).bind fun d => match d with | .bl b => some (.bl (!b)) | _ => none
noncomputable def ifV (c : FT) (f g : FE) : FE := fun ds => (c ds).bind fun b => if b = true then f ds else g ds
noncomputable def chain (op op' : D -> D -> Option D) (fa fb fc : FE) : FE := fun ds => (fa ds).bind fun x => (fb ds).bind fun y => (op x y).bind fun z => match z with
 | .bl true => (fc ds).bind fun w => op' y w
 | .bl false => some (.bl false)
 | _ => none
noncomputable def zB (f : FE) (g : FA) : FA := fun ds => (f ds).bind fun x => (g ds).map fun r => x :: r
noncomputable def zQ : FA := fun _ => some []
noncomputable def zR (f : FA) : FA := fun ds => (f ds).bind fun l => if l.length <= sizeLine then some l else none
noncomputable def mkT (f : FA) : FE := fun ds => (f ds).map D.tup
noncomputable def ixD : D -> D -> Option D
 | .lst l, .int i => atI l i
 | .tup l, .int i => atI l i
 | .str x, .int i => if x.length <= sizeLine then (atI x.cps.toList i).map fun c => .str ⟨#[c]⟩ else none
 | _, _ => none
inductive Ret where
 | val (d : D) | fresh (l : List D) | any (d : D) | obj (t : OT)
noncomputable def retV : Ret -> Option D
 | .val d => some d
 | .fresh l => some (.lst l)
 | .any _ => none
 | .obj t => some (otD t)
noncomputable def retF : Ret -> Option (List D)
 | .fresh l => some l
 | _ => none
noncomputable def qK (n : Nat) (F : List D -> Option Ret) (g : FA) : FE := fun ds => (g ds).bind fun l => if l.length = n then (F l).bind retV else none
noncomputable def wQ (n : Nat) (F : List D -> Option Ret) (g : FA) : FA := fun ds => (g ds).bind fun l => if l.length = n then (F l).bind retF else none
noncomputable def callB (F : List D -> Option D) (g : FA) : FE := fun ds => (g ds).bind F
noncomputable def lenD : List D -> Option D
 | [.lst l] => some (.int l.length)
 | [.tup l] => some (.int l.length)
 | [.str x] => if x.length <= sizeLine then some (.int x.length) else none
 | _ => none
inductive Out where
 | nx (ds : List Sl) | rt (r : Ret) | bk (ds : List Sl) | ct (ds : List Sl)
abbrev FS := List Sl -> Option Out
noncomputable def qI : FS := fun ds => some (.nx ds)
noncomputable def qG (f g : FS) : FS := fun ds => (f ds).bind fun o => match o with | .nx ds' => g ds' | o => some o
noncomputable def ifG (c : FT) (f g : FS) : FS := fun ds => (c ds).bind fun b => if b = true then f ds else g ds
noncomputable def yE (i : Nat) (f : FE) : FS := fun ds => (f ds).map fun d => .nx (ds.set i (.v d))
noncomputable def setOG (i : Nat) (f : FA) : FS := fun ds => (f ds).map fun l => .nx (ds.set i (.own l))
noncomputable def flatR (d : D) : Option Out := if flat d = true then some (.rt (.val d)) else none
noncomputable def retG (f : FE) : FS := fun ds => (f ds).bind flatR
noncomputable def flatF (l : List D) : Option Out := if flats l = true then some (.rt (.fresh l)) else none
noncomputable def retOG (f : FA) : FS := fun ds => (f ds).bind flatF
noncomputable def retXG (i : Nat) : FS := fun ds => match ds[i]? with | some (.own l) => flatF l | _ => none
noncomputable def putG (i : Nat) (fk fe : FE) : FS := fun ds => match ds[i]? with
 | some (.own l) => (fe ds).bind fun d => (fk ds).bind fun k => match k with
   | .int n => (ixN l.length n).map fun j => .nx (ds.set i (.own (l.set j d)))
   | _ => none
 | _ => none
noncomputable def appG (i : Nat) (fe : FE) : FS := fun ds => match ds[i]? with
 | some (.own l) => (fe ds).bind fun d => if l.length < sizeLine then some (.nx (ds.set i (.own (l ++ [d])))) else none
 | _ => none
noncomputable def args (n : Nat) (ds : List D) : List Sl := ds.map Sl.v ++ List.replicate (n - ds.length) Sl.no
noncomputable def viaA (f : FE) (k : D -> Option (List D)) : FA := fun ds => (f ds).bind k
noncomputable def rangeD (lo : Int) (n : Nat) : List D := (List.range n).map fun (k : Nat) => D.int (lo + (k : Int))
def okR (j : Int) : Prop := -(2 ^ 62) <= j /\ j < 2 ^ 62
noncomputable instance okRD (j : Int) : Decidable (okR j) := Classical.propDecidable _
noncomputable def rng1 (f : FE) : FA := fun ds => (f ds).bind fun d => match d with | .int j => if okR j then some (rangeD 0 j.toNat) else none | _ => none
noncomputable def zW (i : Nat) : D -> List Sl -> Option (List Sl) := fun d ds => some (ds.set i (.v d))
noncomputable def tgNil : List D -> List Sl -> Option (List Sl)
 | [], ds => some ds
 | _, _ => none
noncomputable def zP (g : D -> List Sl -> Option (List Sl)) (h : List D -> List Sl -> Option (List Sl)) : List D -> List Sl -> Option (List Sl)
 | d :: r, ds => (g d ds).bind fun ds' => h r ds'
 | _, _ => none
noncomputable def tupG (n : Nat) (h : List D -> List Sl -> Option (List Sl)) : D -> List Sl -> Option (List Sl)
 | .tup l, ds => if l.length = n then h l ds else none
 | _, _ => none
noncomputable def jM (ga : D -> List Sl -> Option (List Sl)) (body : FS) : List D -> List Sl -> Option Out
 | [], ds => some (.nx ds)
 | d :: r, ds => (ga d ds).bind fun ds1 => (body ds1).bind fun o => match o with
   | .nx ds2 => jM ga body r ds2
   | .ct ds2 => jM ga body r ds2
   | .bk ds2 => some (.nx ds2)
   | .rt r => some (.rt r)
noncomputable def forG (fi : FA) (ga : D -> List Sl -> Option (List Sl)) (body : FS) : FS := fun ds => (fi ds).bind fun items => jM ga body items ds
noncomputable def compL (ga : D -> List Sl -> Option (List Sl)) (tt : FT) (fe : FE) (s0 : List Sl) : List D -> Option (List D)
 | [] => some []
 | d :: r => (ga d s0).bind fun ds1 => (tt ds1).bind fun b => if b = true then (fe ds1).bind fun y => (compL ga tt fe s0 r).map fun ys => y :: ys else compL ga tt fe s0 r
noncomputable def jD (mp : List (Option Nat)) (ds : List Sl) : List Sl := mp.map fun o => match o with
 | some j => (match ds[j]? with | some (.v d) => .v d | _ => .no)
 | none => .no
noncomputable def compG (fi : FA) (mp : List (Option Nat)) (ga : D -> List Sl -> Option (List Sl)) (tt : FT) (fe : FE) : FA := fun ds => (fi ds).bind fun items => if items.length <= sizeLine then compL ga tt fe (jD mp ds) items else none
noncomputable def tyD : D -> Option String
 | .non => some "NoneType"
 | .bl _ => some "bool"
 | .int _ => some "int"
 | .str _ => some "str"
 | .tup _ => some "tuple"
 | .lst _ => some "list"
 | .dct _ _ => some "dict"
 | .ins _ _ => none
 | .clo _ _ _ => none
 | .dcf _ _ => none
noncomputable def kitN : List String := ["NoneType", "bool", "int", "str", "tuple", "list", "dict"]
noncomputable def kitT : List String := ["bool", "int", "str", "tuple", "list", "dict"]
noncomputable def kitF (t T : String) : Option Bool := if t ∈ kitN /\ T ∈ kitT then some (t == T || (t == "bool" && T == "int")) else none
noncomputable def isiD (T : String) (d : D) : Option D := (tyD d).bind fun t => (kitF t T).map D.bl
noncomputable def isiG (T : String) (f : FE) : FE := fun ds => (f ds).bind (isiD T)
noncomputable def blsD : List D -> Option (List Bool)
 | [] => some []
 | .bl b :: r => (blsD r).map fun bs => b :: bs
 | _ => none
noncomputable def allD : List D -> Option D
 | [.lst l] => (blsD l).map fun bs => .bl (bs.all id)
 | _ => none
noncomputable def negD : D -> Option D
 | .int i => some (.int (-i))
 | _ => none
noncomputable def un1 (op : D -> Option D) (f : FE) : FE := fun ds => (f ds).bind op
noncomputable def retDG (f : FE) : FS := fun ds => (f ds).map fun d => .rt (.val d)
noncomputable def runG (g : FS) (n : Nat) : List D -> Option Ret := fun ds => match g (args n ds) with
 | some (.rt r) => some r
 | some (.nx _) => some (.val .non)
 | _ => none
def CPowB (i j : Int) : Prop := 0 <= j /\ (Builtin.Int.intBits i : Int) * j <= 2 ^ 27
mutual
noncomputable def toPy : D -> PyData
 | .non => .none
 | .bl b => .bool b
 | .int i => .int i
 | .str x => .str x
 | .tup ds => .tuple (toPys ds)
 | .lst ds => .list (toPys ds)
 | .dct _ _ => .none
 | .ins _ _ => .none
 | .clo _ _ _ => .none
 | .dcf _ _ => .none
noncomputable def toPys : List D -> List PyData
 | [] => []
 | d :: r => toPy d :: toPys r
end
mutual
noncomputable def shal : Nat -> D -> Bool
 | _, .non => true
 | _, .bl _ => true
 | _, .int _ => true
 | _, .str x => PyData.strOk x
 | n, .tup ds => shals n ds
 | n, .lst ds => shals n ds
 | _, .dct _ _ => false
 | _, .ins _ _ => false
 | _, .clo _ _ _ => false
 | _, .dcf _ _ => false
noncomputable def shals : Nat -> List D -> Bool
 | _, [] => true
 | 0, _ :: _ => false
 | n + 1, d :: r => shal n d && shals (n + 1) r
end
noncomputable def eqvD (x y : D) : Bool := PyData.eqv (toPy x) (toPy y)
noncomputable def eqvs (x y : List D) : Bool := PyData.eqvAll (toPys x) (toPys y)
noncomputable def eqD (x y : D) : Option D := if shal 40 x = true /\ shal 40 y = true then some (.bl (eqvD x y)) else none
noncomputable def neD (x y : D) : Option D := if shal 40 x = true /\ shal 40 y = true then some (.bl (!eqvD x y)) else none
noncomputable def isD : D -> D -> Option D
 | .non, .non => some (.bl true)
 | _, .non => some (.bl false)
 | _, _ => none
noncomputable def notD : D -> D -> Option D
 | .non, .non => some (.bl false)
 | _, .non => some (.bl true)
 | _, _ => none
noncomputable def asLT : D -> Option (List D)
 | .lst l => some l
 | .tup l => some l
 | _ => none
noncomputable instance mulOkD (i j : Int) : Decidable (IntMulOk i j) := Classical.propDecidable _
noncomputable instance powOkD (i j : Int) : Decidable (CPowB i j) := Classical.propDecidable _
noncomputable def xF : D -> D -> Option D
 | .int i, .int j => if IntMulOk i j then some (.int (i * j)) else none
 | _, _ => none
noncomputable def powD : D -> D -> Option D
 | .int i, .int j => if CPowB i j then some (.int (i ^ j.toNat)) else none
 | _, _ => none
noncomputable def catA (fa fb : FE) : FA := fun ds => (fa ds).bind fun x => (fb ds).bind fun y => match x, y with
 | .lst a, .lst b => if a.length + b.length <= sizeLine then some (a ++ b) else none
 | _, _ => none
noncomputable def noP : List Sl -> Option (Option Int) := fun _ => some none
noncomputable def soP (f : FE) : List Sl -> Option (Option Int) := fun ds => (f ds).bind fun d => match d with | .int i => some (some i) | _ => none
noncomputable def cutD (l : List D) (lo hi : Option Int) : List D := (l.drop (HT.sIx l.length 0 lo)).take (HT.sIx l.length l.length hi - HT.sIx l.length 0 lo)
noncomputable def sliA (f : FE) (lo hi : List Sl -> Option (Option Int)) : FA := fun ds => (f ds).bind fun d => (lo ds).bind fun a => (hi ds).bind fun b => match d with
 | .lst l => some (cutD l a b)
 | _ => none
noncomputable def lisA (f : FE) : FA := fun ds => (f ds).bind asLT
noncomputable def mxD : List D -> Option D
 | [.int i, .int j] => some (.int (if j > i then j else i))
 | _ => none
noncomputable def mnD : List D -> Option D
 | [.int i, .int j] => some (.int (if j < i then j else i))
 | _ => none
noncomputable def absD : List D -> Option D
 | [.int i] => some (.int (if i < 0 then -i else i))
 | _ => none
noncomputable def truD : D -> Option Bool
 | .non => some false
 | .bl b => some b
 | .int i => some (i != 0)
 | .str x => if x.length <= sizeLine then some ((x.length : Int) != 0) else none
 | .tup l => some (!l.isEmpty)
 | .lst l => some (!l.isEmpty)
 | _ => none
noncomputable def testT (f : FE) : FT := fun ds => (f ds).bind truD
noncomputable def relS (i : Nat) (ds : List Sl) : List Sl := match ds[i]? with | some (.own l) => ds.set i (.v (.lst l)) | _ => ds
noncomputable def asgG (ga : D -> List Sl -> Option (List Sl)) (f : FE) : FS := fun ds => (f ds).bind fun d => (ga d ds).map .nx
noncomputable def extG (i : Nat) (fe : FA) : FS := fun ds => match ds[i]? with
 | some (.own l) => (fe ds).bind fun d => if l.length + d.length <= sizeLine then some (.nx (ds.set i (.own (l ++ d)))) else none
 | _ => none
noncomputable def clrG (i : Nat) : FS := fun ds => match ds[i]? with
 | some (.own l) => some (.nx (ds.set i (.own [])))
 | _ => none
noncomputable def ltD : D -> D -> Option D := cmpI fun i j => decide (i < j)
noncomputable def leD : D -> D -> Option D := cmpI fun i j => decide (i <= j)
noncomputable def gtD : D -> D -> Option D := cmpI fun i j => decide (j < i)
noncomputable def geD : D -> D -> Option D := cmpI fun i j => decide (j <= i)
noncomputable def rng2 (fa fb : FE) : FA := fun ds => (fa ds).bind fun x => (fb ds).bind fun y => match x, y with
 | .int i, .int j => if okR i /\ okR j then some (rangeD i (j - i).toNat) else none
 | _, _ => none
noncomputable def range3D (lo c : Int) (n : Nat) : List D := (List.range n).map fun (k : Nat) => D.int (lo + (k : Int) * c)
noncomputable def steps3 (i j c : Int) : Nat := if i < j then ((j - i - 1) / c + 1).toNat else 0
def okR3 (i j c : Int) : Prop := -(2 ^ 61) <= i /\ i < 2 ^ 61 /\ -(2 ^ 61) <= j /\ j < 2 ^ 61 /\ 0 < c /\ c < 1000000
noncomputable instance okR3D (i j c : Int) : Decidable (okR3 i j c) := Classical.propDecidable _
noncomputable def rng3 (fa fb fc : FE) : FA := fun ds => (fa ds).bind fun x => (fb ds).bind fun y => (fc ds).bind fun z => match x, y, z with
 | .int i, .int j, .int c => if okR3 i j c then some (range3D i c (steps3 i j c)) else none
 | _, _, _ => none
noncomputable def revA (f : FE) : FA := fun ds => (f ds).bind fun d => match d with
 | .lst l => some l.reverse
 | _ => none
noncomputable def augA (i : Nat) (f : FE) : FS := fun ds => (qB i ds).bind fun x => (f ds).bind fun y => match x, y with
 | .int a, .int b => some (.nx (ds.set i (.v (.int (a + b)))))
 | _, _ => none
noncomputable def parG (i j : Nat) (f : FA) : FS := fun ds => (f ds).bind fun l => match l with
 | [a, b] => some (.nx ((ds.set i (.v a)).set j (.v b)))
 | _ => none
noncomputable def int1D : List D -> Option D
 | [.int i] => some (.int i)
 | [.bl b] => some (.int (if b then 1 else 0))
 | _ => none
end FL
namespace FL
open PySem PyProof.Rows L2
noncomputable def fldD (ix : List (Nat × Nat)) : D -> Option D
 | .ins t ds => (ix.lookup t).bind fun i => ds[i]?
 | _ => none
noncomputable def fldG (ix : List (Nat × Nat)) (f : FE) : FE := fun ds => (f ds).bind (fldD ix)
noncomputable def methR (n : Nat) (cs : List Nat) (F : Nat -> List D -> Option Ret) (o : D) (l : List D) : Option Ret := match o with
 | .ins t es => if t ∈ cs /\ l.length = n then F t (.ins t es :: l) else none
 | _ => none
noncomputable def methV (n : Nat) (cs : List Nat) (F : Nat -> List D -> Option Ret) (fo : FE) (g : FA) : FE := fun ds => (fo ds).bind fun o => (g ds).bind fun l => (methR n cs F o l).bind retV
noncomputable def methF (n : Nat) (cs : List Nat) (F : Nat -> List D -> Option Ret) (fo : FE) (g : FA) : FA := fun ds => (fo ds).bind fun o => (g ds).bind fun l => (methR n cs F o l).bind retF
noncomputable def makeG (t n : Nat) (G : List D -> Option (List D)) (g : FA) : FE := fun ds => (g ds).bind fun l => if l.length = n /\ flats l = true then (G l).map (D.ins t) else none
abbrev FN := List Sl -> Option (List D)
noncomputable def seqN (f g : FN) : FN := fun ds => (f ds).bind fun a => (g ds).map fun b => a ++ b
noncomputable def fldN (f : FE) : FN := fun ds => (f ds).bind fun d => if flat d = true then some [d] else none
noncomputable def dropN (f : FE) : FN := fun ds => (f ds).map fun _ => []
noncomputable def supN (G : List D -> Option (List D)) : FN := fun _ => G []
noncomputable def argsN (n : Nat) (ds : List D) : List Sl := Sl.no :: (ds.map Sl.v ++ List.replicate (n - (ds.length + 1)) Sl.no)
noncomputable def runN (g : FN) (n : Nat) : List D -> Option (List D) := fun ds => (g (argsN n ds)).bind fun new => if flats new = true then some new else none
end FL
namespace FL
open PySem
def okRB (i j : Int) : Prop := -(2 ^ 61) <= i /\ i < 2 ^ 61 /\ -(2 ^ 61) <= j /\ j < 2 ^ 61
noncomputable instance okRBD (i j : Int) : Decidable (okRB i j) := Classical.propDecidable _
end FL
namespace FL
noncomputable def sltW (f : FE) (lo hi : List Sl -> Option (Option Int)) : FE := fun ds => (f ds).bind fun d => (lo ds).bind fun a => (hi ds).bind fun b => match d with
 | .tup l => some (.tup (cutD l a b))
 | _ => none
end FL
namespace FL
open PySem PyProof.Rows L2
noncomputable def rngL (fa fb : FE) : FA := fun ds => (fa ds).bind fun x => (fb ds).bind fun y => match x, y with
 | .int i, .int j => some (rangeD i (j - i).toNat)
 | _, _ => none
@[simp] theorem rngL_eq (fa fb : FE) (ds : List Sl) : rngL fa fb ds = (fa ds).bind fun x => (fb ds).bind fun y => match x, y with
 | .int i, .int j => some (rangeD i (j - i).toNat)
 | _, _ => none := rfl
noncomputable instance mulOkSD (x : Str) (n : Int) : Decidable (MulOk x n) := Classical.propDecidable _
abbrev FO := List Sl -> Option OT
abbrev FOs := List Sl -> Option (List OT)
noncomputable def getN (i : Nat) : FE := fun ds => match ds[i]? with
 | some (.v d) => some d
 | some (.own l) => some (.lst l)
 | some (.ob _ t) => some (otD t)
 | _ => none
noncomputable def vO (f : FE) : FO := fun ds => (f ds).map OT.val
noncomputable def lO (f : FA) : FO := fun ds => (f ds).map fun l => .lst (l.map OT.val)
noncomputable def nilO : FOs := fun _ => some []
noncomputable def consO (f : FO) (g : FOs) : FOs := fun ds => (f ds).bind fun x => (g ds).map fun r => x :: r
noncomputable def tO (f : FOs) : FO := fun ds => (f ds).bind fun l => if l.length <= sizeLine then some (.tup l) else none
noncomputable def sO (f : FOs) : FO := fun ds => (f ds).bind fun l => if l.length <= sizeLine then some (.lst l) else none
noncomputable def setB (i : Nat) (f : FO) : FS := fun ds => (f ds).map fun t => .nx (ds.set i (.ob none t))
mutual
noncomputable def flatO : OT -> Bool
 | .val d => flat d
 | .lst l => flatOs l
 | .tup l => flatOs l
 | .dct _ l => flatOs l
 | .ins _ l => flatOs l
noncomputable def flatOs : List OT -> Bool
 | [] => true
 | t :: r => flatO t && flatOs r
end
noncomputable def subO : List Nat -> OT -> Option OT
 | [], t => some t
 | k :: p, .tup l => (l[k]?).bind (subO p)
 | k :: p, .lst l => (l[k]?).bind (subO p)
 | k :: p, .dct _ l => (l[k]?).bind (subO p)
 | k :: p, .ins _ l => (l[k]?).bind (subO p)
 | _ :: _, .val _ => none
noncomputable def isL : OT -> Bool
 | .lst _ => true
 | _ => false
noncomputable def putO (u : OT) : List Nat -> OT -> OT
 | [], _ => u
 | k :: p, .tup l => .tup (l.modify k (putO u p))
 | k :: p, .lst l => .lst (l.modify k (putO u p))
 | k :: p, .dct ks l => .dct ks (l.modify k (putO u p))
 | k :: p, .ins t l => .ins t (l.modify k (putO u p))
 | _ :: _, .val d => .val d
abbrev FP := List Sl -> Option (Nat × List Nat × OT)
noncomputable def varP (i : Nat) : FP := fun ds => match ds[i]? with
 | some (.ob _ t) => some (i, [], t)
 | _ => none
noncomputable def kidsI : OT -> Option (List OT)
 | .tup l => some l
 | .lst l => some l
 | _ => none
noncomputable def ixP (k : Nat) (f : FP) : FP := fun ds => (f ds).bind fun q => (kidsI q.2.2).bind fun l => (l[k]?).map fun t => (q.1, q.2.1 ++ [k], t)
noncomputable def atP (ix : List (Nat × Nat)) (f : FP) : FP := fun ds => (f ds).bind fun q => match q.2.2 with
 | .ins t l => (ix.lookup t).bind fun k => (l[k]?).map fun u => (q.1, q.2.1 ++ [k], u)
 | _ => none
noncomputable def putP (q : Nat × List Nat × OT) (u : OT) (ds : List Sl) : List Sl := match ds[q.1]? with
 | some (.ob r t) => ds.set q.1 (.ob r (putO u q.2.1 t))
 | _ => ds
noncomputable def clrP (f : FP) : FS := fun ds => (f ds).bind fun q => if isL q.2.2 = true then some (.nx (putP q (.lst []) ds)) else none
@[simp] theorem getN_eq (i : Nat) (ds : List Sl) : getN i ds = match ds[i]? with
 | some (.v d) => some d
 | some (.own l) => some (.lst l)
 | some (.ob _ t) => some (otD t)
 | _ => none := rfl
@[simp] theorem vO_eq f ds : vO f ds = (f ds).map OT.val := rfl
@[simp] theorem lO_eq f ds : lO f ds = (f ds).map fun l => .lst (l.map OT.val) := rfl
@[simp] theorem nilO_eq ds : nilO ds = some [] := rfl
@[simp] theorem consO_eq f g ds : consO f g ds = (f ds).bind fun x => (g ds).map fun r => x :: r := rfl
@[simp] theorem tO_eq f ds : tO f ds = (f ds).bind fun l => if l.length <= sizeLine then some (.tup l) else none := rfl
@[simp] theorem setB_eq i f ds : setB i f ds = (f ds).map fun t => .nx (ds.set i (.ob none t)) := rfl
theorem wY : ∀ l, otDs (l.map OT.val) = l
 | [] => by simp [otDs]
 | d :: r => by simp [otDs, otD, wY r]
noncomputable def valP (f : FP) : FE := fun ds => (f ds).bind fun q => match q.2.2 with
 | .val d => some d
 | _ => none
noncomputable def setAt (ix : List (Nat × Nat)) (f : FP) (g : FO) : FS := fun ds => (g ds).bind fun T => (f ds).bind fun q => match q.2.2 with
 | .ins t l => (ix.lookup t).bind fun k => if k < l.length /\ l.length < 900 then some (.nx (putP q (.ins t (l.set k T)) ds)) else none
 | _ => none
noncomputable def appP (f : FP) (g : FE) : FS := fun ds => (f ds).bind fun q => (g ds).bind fun d => match q.2.2 with
 | .lst l => if l.length < sizeLine then some (.nx (putP q (.lst (l ++ [.val d])) ds)) else none
 | _ => none
noncomputable def keyD : D -> Option Key
 | .int i => some (.inl (some i))
 | .non => some (.inl none)
 | .str x => some (.inr x)
 | _ => none
noncomputable def putTs (k : Key) (T : OT) : List Key -> List OT -> List OT
 | k' :: ks, t :: ts => (if k' = k then T else t) :: putTs k T ks ts
 | _, ts => ts
noncomputable def hasK (k : Key) (ks : List Key) : Bool := ks.any fun k' => decide (k' = k)
noncomputable def putKT (k : Key) (T : OT) (ks : List Key) (ts : List OT) : OT := if hasK k ks = true then .dct ks (putTs k T ks ts) else .dct (ks ++ [k]) (ts ++ [T])
noncomputable def dO0 : FO := fun _ => some (.dct [] [])
noncomputable def dputG (f : FP) (fk fv : FE) : FS := fun ds => (fv ds).bind fun d => (f ds).bind fun q => (fk ds).bind fun y => (keyD y).bind fun k => match q.2.2 with
 | .dct ks ts => if ks.length < sizeLine then some (.nx (putP q (putKT k (.val d) ks ts) ds)) else none
 | _ => none
noncomputable def valsO : List OT -> Option (List D)
 | [] => some []
 | .val d :: r => (valsO r).map fun l => d :: l
 | _ :: _ => none
noncomputable def frzDG (i : Nat) (g : FS) : FS := fun ds => match ds[i]? with
 | some (.ob _ (.dct ks ts)) => (valsO ts).bind fun l => g (ds.set i (.v (.dcf ks l)))
 | _ => none
noncomputable def keyDD : Key -> D
 | .inl (some i) => .int i
 | .inl none => .non
 | .inr x => .str x
noncomputable def itemsD (ks : List Key) (l : List D) : List D := (ks.zip l).map fun p => .tup [keyDD p.1, p.2]
noncomputable def itemsA (f : FE) : FA := fun ds => (f ds).bind fun x => match x with
 | .dcf ks l => some (itemsD ks l)
 | _ => none
noncomputable def argsL (n : Nat) (T : OT) (l : List D) : List Sl := .ob (some 0) T :: args (n - 1) l
noncomputable def ob0 : Option Sl -> Option OT
 | some (.ob (some 0) T) => some T
 | _ => none
noncomputable def lentF (g : FS) (n : Nat) (T : OT) (l : List D) : Option OT := match g (argsL n T l) with
 | some (.nx ds) => ob0 ds[0]?
 | _ => none
noncomputable def lentG (n : Nat) (cs : List Nat) (F : Nat -> OT -> List D -> Option OT) (f : FP) (g : FA) : FS := fun ds => (f ds).bind fun q => (g ds).bind fun l => match q.2.2 with
 | .ins t ts => if t ∈ cs /\ l.length = n then (F t (.ins t ts) l).map fun T' => .nx (putP q T' ds) else none
 | _ => none
noncomputable def setNw (t t' : Nat) (f : FP) (g : FO) : FS := fun ds => (g ds).bind fun T => (f ds).bind fun q => match q.2.2 with
 | .ins c l => if c = t /\ l.length < 900 then some (.nx (putP q (.ins t' (l ++ [T])) ds)) else none
 | _ => none
noncomputable def makeO (t n m : Nat) (F : OT -> List D -> Option OT) (g : FA) : FO := fun ds => (g ds).bind fun l => if l.length + m = n then F (.ins t []) (l ++ List.replicate m .non) else none
abbrev FX := List Sl -> Option (D × List Sl)
noncomputable def lentIf (h g : FS) : FS := fun ds => (h ds).bind fun o => match o with
 | .nx ds' => g ds'
 | _ => none
noncomputable def relO (i : Nat) (ds : List Sl) : List Sl := match ds[i]? with | some (.ob _ T) => ds.set i (.v (otD T)) | _ => ds
noncomputable def relFO (i : Nat) (f : FA) : FA := fun ds => (f (relO i ds)).bind fun l => if flats l = true then some l else none
noncomputable def seeO (f : FO) : FE := fun ds => (f ds).map otD
noncomputable def refO : OT -> Bool
 | .lst _ => true
 | .dct _ _ => true
 | .ins _ _ => true
 | _ => false
noncomputable def seqR (g : FS) (f : FX) : FX := fun ds => (g ds).bind fun o => match o with
 | .nx ds' => f ds'
 | _ => none
noncomputable def vR (f : FE) : FX := fun ds => (f ds).map fun d => (d, ds)
noncomputable def ifR (c : FT) (f g : FX) : FX := fun ds => (c ds).bind fun b => if b = true then f ds else g ds
noncomputable def obAt (p : Nat) : Option Sl -> Option OT
 | some (.ob (some q) T) => if q = p then some T else none
 | _ => none
noncomputable def lentR (g : FX) (n p : Nat) (T : OT) (l : List D) : Option (D × OT) := (g ((args n l).set p (.ob (some p) T))).bind fun q => (obAt p (q.2[p]?)).map fun T' => (q.1, T')
noncomputable def hereA (g : FA) : FA := fun ds => (g ds).map fun l => D.non :: l
noncomputable def callR (n i : Nat) (F : OT -> List D -> Option (D × OT)) (g : FA) : FX := fun ds => (g ds).bind fun l => match ds[i]? with
 | some (.ob r T) => if refO T = true /\ l.length = n then (F T l).map fun q => (q.1, ds.set i (.ob r q.2)) else none
 | _ => none
noncomputable def compLX (ga : D -> List Sl -> Option (List Sl)) (fe : FX) (S : OT -> List Sl) (p : Nat) : OT -> List D -> Option (List D × OT)
 | T, [] => some ([], T)
 | T, x :: r => (ga x (S T)).bind fun ds1 => (fe ds1).bind fun q => (obAt p (q.2[p]?)).bind fun T' => (compLX ga fe S p T' r).map fun z => (q.1 :: z.1, z.2)
noncomputable def compR (fi : FA) (mp : List (Option Nat)) (i p : Nat) (ga : D -> List Sl -> Option (List Sl)) (fe : FX) : FX := fun ds => (fi ds).bind fun items => match ds[i]? with
 | some (.ob r T) => if items.length <= sizeLine /\ refO T = true then (compLX ga fe (fun T => (jD mp ds).set p (.ob (some p) T)) p T items).map fun z => (.lst z.1, ds.set i (.ob r z.2)) else none
 | _ => none
noncomputable def ifNR (f : FX) (a b : FS) : FS := fun ds => (f ds).bind fun q => match q.1 with
 | .bl true => b q.2
 | .bl false => a q.2
 | _ => none
end FL
namespace FL
open PySem
end FL
namespace FL
open PySem L2
noncomputable def flatZ : D -> Bool
 | .dcf _ l => flats l
 | d => flat d
end FL
namespace FL
open PySem PyProof.Rows L2
abbrev Fls := List (Str × Int)
noncomputable def ixPV (j : Nat) (f : FP) : FP := fun ds => match ds[j]? with
 | some (.v (.int n)) => if 0 <= n then ixP n.toNat f ds else none
 | _ => none
noncomputable def frzP (i : Nat) (p : List Nat) (g : FS) : FS := fun ds => match ds[i]? with
 | some (.ob r T) => (match subO p T with
   | some u => g (ds.set i (.ob r (putO (.val (otD u)) p T)))
   | none => none)
 | _ => none
noncomputable def takeT (ts : List OT) (l l2 : List D) : OT := .lst (ts ++ [.tup [.lst (l.map .val), .lst (l2.map .val)]])
noncomputable def onlyV : Sl -> Sl
 | .v d => .v d
 | _ => .no
noncomputable def takeR (i k : Nat) (f2 : FA) (fr : FE) : FX := fun ds => match ds[i]? with
 | some (.ob r (.lst ts)) => match ds[k]? with
   | some (.own l) => (f2 ds).bind fun l2 => if ts.length < sizeLine then (fr ((ds.map onlyV).set k (.v (.lst l)))).bind fun d => if flat d = true then some (d, (ds.set k .no).set i (.ob r (takeT ts l l2))) else none else none
   | _ => none
 | _ => none
noncomputable def lk1 : Sl -> Sl
 | .v d => .v d
 | .ob _ T => .v (otD T)
 | .own l => .v (.lst l)
 | _ => .no
noncomputable def lookR (j : Nat) (f : FX) : FX := fun ds => match ds[j]? with
 | some (.ob r T) => if refO T = true then (f ((ds.map lk1).set j (.ob (some j) T))).bind fun q => (obAt j (q.2[j]?)).bind fun T' => if flatO T' = true /\ flat q.1 = true then some (q.1, ds.set j (.ob r T')) else none else none
 | _ => none
mutual
noncomputable def flatOZ : OT -> Bool
 | .val d => flatZ d
 | .lst l => flatOZs l
 | .tup l => flatOZs l
 | .dct _ l => flatOZs l
 | .ins _ l => flatOZs l
noncomputable def flatOZs : List OT -> Bool
 | [] => true
 | t :: r => flatOZ t && flatOZs r
end
noncomputable def relGZ (i : Nat) (f : FO) : FO := fun ds => (f (relO i ds)).bind fun T => if flatOZ T = true then some T else none
noncomputable def ifO (c : FT) (f g : FO) : FO := fun ds => (c ds).bind fun b => if b = true then f ds else g ds
noncomputable def allR (f : FX) : FX := fun ds => (f ds).bind fun q => (allD [q.1]).map fun d => (d, q.2)
end FL
namespace L2
open PySem PySem.Spec PyProof.Rows
noncomputable def isN0 : Value -> Bool
 | .none => true
 | _ => false
noncomputable def keyIs : Key -> Value -> Bool := fun k v => match k with
 | .inl (some n) => Value.isInt n v
 | .inl none => isN0 v
 | .inr x => Value.isStrOf x v
noncomputable def keyH (w : World) : Key -> Int := fun k => match k with
 | .inl (some n) => hashInt n
 | .inl none => 4238894112
 | .inr x => hashStr w x
theorem jF (h : keyIs k v = true) : (∃ i t, k = Sum.inl (some i) /\ v = Value.int i t) \/ (∃ x t, k = Sum.inr x /\ v = Value.str x t) \/ (k = Sum.inl none /\ v = Value.none) := by
 rcases k with (_ | i) | x
 · refine .inr (.inr ⟨rfl, ?_⟩)
   cases v <;> first | rfl | cases h
 · obtain ⟨t, e⟩ := Value.isInt_shape h
   exact .inl ⟨i, t, rfl, e⟩
 · obtain ⟨t, e⟩ := Value.isStrOf_shape h
   exact .inr (.inl ⟨x, t, rfl, e⟩)
theorem hash_none (h : Q 4238894112 { s with toks := s.toks + 1 }) : wpAny (model prog w) A (PySem.pyHash .none) Q E s := by
 have ht : s.TypeIs .none "NoneType" := rfl
 have hv : [Value.none].any Value.onHeap = false := rfl
 refine wpAny_bind ?_
 refine wpAny_pure ?_
 refine wpAny_bind (wpAny_specialOf ht PySem.F.slot_NoneType_hash.lookup ?_)
 refine wpAny_bind (wpAny_specialOf ht PySem.F.slot_NoneType_hash.lookup ?_)
 refine wpAny_bind (wpAny_callSpecialIfBoundUnlessNone?_slot ht PySem.F.slot_NoneType_hash
  (wpAny_call_entry PySem.F.slot_NoneType_hash ht PySem.F.entry_NoneType_hash
    (wpAny_ret_mkInt ?_) (PySem.F.args_NoneType_hash_1 _)))
 exact wpAny_pure h
noncomputable def mixKind (prog : Program) (w : World) : PySem.KeyKind prog w Key where
 is := keyIs
 hash := keyH w
 inj := fun v a b ha hb => by
  rcases jF ha with ⟨i, t, rfl, rfl⟩ | ⟨x, t, rfl, rfl⟩ | ⟨rfl, rfl⟩ <;> rcases jF hb with ⟨j, u, rfl, e⟩ | ⟨y, u, rfl, e⟩ | ⟨rfl, e⟩ <;> cases e <;> rfl
 byValue := fun k v h => by rcases jF h with ⟨i, t, rfl, rfl⟩ | ⟨x, t, rfl, rfl⟩ | ⟨rfl, rfl⟩ <;> rfl
 pyHash := fun hv h => by
  rcases jF hv with ⟨i, t, rfl, rfl⟩ | ⟨x, t, rfl, rfl⟩ | ⟨rfl, rfl⟩
  · exact wpAny_pyHash_int h
  · exact wpAny_pyHash_str h
  · exact hash_none h
 eqBool := fun hu hv h => by
  rcases jF hu with ⟨i, t, rfl, rfl⟩ | ⟨x, t, rfl, rfl⟩ | ⟨rfl, rfl⟩ <;> rcases jF hv with ⟨j, u, rfl, rfl⟩ | ⟨y, u, rfl, rfl⟩ | ⟨rfl, rfl⟩
  · exact wpAny_eqBool_int (by simp only [Sum.inl.injEq, Option.some.injEq] at h; exact h)
  · exact SeqAt.EqAt.int_str i t y u _ _ _ _ (by simpa using h)
  · exact SeqAt.EqAt.int_none i t _ _ _ _ (by simpa using h)
  · exact SeqAt.EqAt.str_int x t j u _ _ _ _ (by simpa using h)
  · exact wpAny_eqBool_str (by simpa using h)
  · exact SeqAt.EqAt.str_none x t _ _ _ _ (by simpa using h)
  · exact SeqAt.EqAt.none_int j u _ _ _ _ (by simpa using h)
  · exact SeqAt.EqAt.none_str y u _ _ _ _ (by simpa using h)
  · exact SeqAt.EqAt.same .none _ _ _ _ (by simpa using h)
 «strs» := fun k x t v h => by
  rcases jF h with ⟨i, u, rfl, e⟩ | ⟨y, u, rfl, e⟩ | ⟨rfl, e⟩ <;> cases e
  cases v <;> rfl
inductive V where
 | non | bl (b : Bool) | int (i : Int) | str (x : Str) | byt (b : Array UInt8) | flt (b : UInt64) | ref (a : Addr) | ty (n : String)
 deriving DecidableEq
noncomputable def RelV : V -> Value -> Prop
 | .non, u => u = Value.none
 | .bl b, u => u = Value.bool b
 | .int i, u => ∃ t, u = Value.int i t
 | .str x, u => ∃ t, u = Value.str x t
 | .byt b, u => ∃ t, u = Value.bytes b t
 | .flt b, u => ∃ t, u = Value.float b t
 | .ref a, u => u = Value.ref a
 | .ty n, u => u = Value.type n
abbrev Vals : List V -> List Value -> Prop := Paired RelV
theorem Vals.length (r : Vals xs us) : xs.length = us.length := Paired.length r
theorem Vals.get : ∀ {xs : List V} {us : List Value} {i : Nat} {x : V}, Vals xs us -> xs[i]? = some x -> ∃ u, us[i]? = some u /\ RelV x u
 | _, _, _, _, .nil, e => by simp at e
 | _, _, 0, _, .cons r _, e => by simp at e; subst e; exact ⟨_, rfl, r⟩
 | _, _, i + 1, x, .cons _ t, e => by
   obtain ⟨u, h1, h2⟩ := Vals.get (i := i) (x := x) t (by simpa using e)
   exact ⟨u, by simpa using h1, h2⟩
theorem Vals.set (r : RelV x u) : ∀ {xs : List V} {us : List Value} (i : Nat), Vals xs us -> Vals (xs.set i x) (us.set i u)
 | _, _, _, .nil => .nil
 | _, _, 0, .cons _ t => .cons r t
 | _, _, i + 1, .cons q t => .cons q (Vals.set r i t)
theorem Vals.append : ∀ {xs ys : List V} {us ws : List Value}, Vals xs us -> Vals ys ws -> Vals (xs ++ ys) (us ++ ws)
 | _, _, _, _, .nil, s => s
 | _, _, _, _, .cons r t, s => .cons r (Vals.append t s)
theorem Vals.take : ∀ {xs : List V} {us : List Value} (n : Nat), Vals xs us -> Vals (xs.take n) (us.take n)
 | _, _, 0, _ => .nil
 | _, _, _ + 1, .nil => .nil
 | _, _, n + 1, .cons r t => .cons r (Vals.take n t)
theorem Vals.drop : ∀ {xs : List V} {us : List Value} (n : Nat), Vals xs us -> Vals (xs.drop n) (us.drop n)
 | _, _, 0, r => r
 | _, _, _ + 1, .nil => .nil
 | _, _, n + 1, .cons _ t => Vals.drop n t
noncomputable def RelO : Option V -> Option Value -> Prop
 | some v, some u => RelV v u
 | none, none => True
 | _, _ => False
noncomputable def KV {κ : Type} : List (κ × V) -> List (κ × Value) -> Prop := Paired fun (p : κ × V) (q : κ × Value) => p.1 = q.1 /\ RelV p.2 q.2
noncomputable def kV : Key -> V := fun k => match k with
 | .inl (some n) => .int n
 | .inl none => .non
 | .inr x => .str x
inductive HO where
 | lst (xs : List V)
 | tup (xs : List V)
 | dK (kvs : List (Key × V)) | dT (kvs : List (List Key × V))
 | set (S : Int -> Bool) (n : Nat)
 | ins (C dx : Addr) (fs : List (Str × V))
 | own (x : Addr)
 | xd (fs : List (Str × V))
 | met (f x : Addr)
 | rng (lo hi : Int)
 | frz (o : Obj) (u : HO)
 | tbl (q : Nat -> Nat -> Str)
 | ext (φ : Heap -> Prop)
abbrev Hp := Addr -> Option HO
noncomputable def upd (H : Hp) (a : Addr) (o : HO) : Hp := fun b => if b = a then some o else H b
theorem zS : upd H a o a = some o := by unfold upd; rw [if_pos rfl]
theorem upd_ne (h : b ≠ a) : upd H a o b = H b := by unfold upd; rw [if_neg h]
theorem ne_of {H : Hp} (h : H a = some o) (h' : H b = some u) (d : o ≠ u) : a ≠ b := by
 intro e; subst e; rw [h] at h'; exact d (Option.some.inj h')
theorem qT {H : Hp} (h : H a = some o) (h' : H b = none) : a ≠ b := by
 intro e; subst e; rw [h] at h'; cases h'
def TblOk (H : Hp) (q : Nat -> Nat -> Str) (ps : Array Value) : Prop := TriplesOk ps.toList /\ ∀ pos v, codeAmong pos ps.toList = some v -> ∃ c o u vs t, v = .ref c /\ H c = some (.frz o u) /\ o.data = .fields vs /\ vs[1]? = some (.str (q pos.line pos.col) t)
noncomputable def Fixed : HO -> Prop
 | .tup _ => True
 | .frz o _ => ∃ vs, o.data = .fields vs
 | _ => False
noncomputable def Fx := { u : HO // Fixed u }
section
variable (P : Program) (w : World)
noncomputable def ObjOk (H : Hp) (h : Heap) (a : Addr) : HO -> Prop
 | .lst xs => xs.length <= sizeLine /\ ∃ (its : List Value) (n : Nat), Vals xs its /\ h.get? a = some { cls := .type "list", data := .seq its.toArray n }
 | .tup xs => xs.length <= sizeLine /\ ∃ its : List Value, Vals xs its /\ IsTup h a its.toArray
 | .dK kvs => kvs.length <= sizeLine /\ (a == sysModules) = false /\ ∃ vs, KV kvs vs /\ h.DictOf (mixKind P w) a vs
 | .dT kvs => kvs.length <= sizeLine /\ (a == sysModules) = false /\ ∃ xs : List (List Key × Addr × Value),
    Paired (fun (p : List Key × V) (q : List Key × Addr × Value) => p.1 = q.1 /\ H q.2.1 = some (.tup (p.1.map kV)) /\ RelV p.2 q.2.2) kvs xs ∧
    ∃ o es ep, h.get? a = some o /\ o.ExactDict /\ o.data = .dict es ep /\ es.toList = xs.map (entryOfKey (tupleKind (mixKind P w))) /\ (xs.map (·.1)).Nodup
 | .set S n => h.SetOf (intKind P w) a S n
 | .ins C dx fs => H dx = some (.own a) /\ fs.length <= 1000 /\ dx ≠ a /\ h.get? a = some (PySem.W.instObj C dx) ∧
    ∃ mA, h.Ns1 dx mA /\ (∀ f, RelO (fs.lookup f) (mA f)) /\ PySem.Within mA (fs.map (·.1))
 | .own _ => ∃ o, h.get? a = some o
 | .xd fs => ∃ mA, h.Ns1 a mA /\ ∀ f, RelO (fs.lookup f) (mA f)
 | .rng lo hi => ∃ t u v, h.get? a = some { cls := .type "range", data := .fields #[.int lo t, .int hi u, .int 1 v] }
 | .frz o u => h.get? a = some o /\ ObjOk H h a u
 | .tbl q => ∃ ps, h.get? a = some (PySem.W.tabObj ps) /\ TblOk H q ps
 | .met f x => h.get? a = some (PySem.W.methodObj (.ref f) (.ref x))
 | .ext φ => φ h /\ (∃ o, h.get? a = some o) /\ ∀ h1 h2 : Heap, φ h1 -> (∀ o, h1.get? a = some o -> h2.get? a = some o) -> φ h2
def HOk (H : Hp) (h : Heap) : Prop := ∀ a o, H a = some o -> ObjOk P w H h a o
end
section
theorem ObjOk.lt (x : ObjOk P w H h a o) : a < h.objs.size := by
 cases o with
 | lst xs => obtain ⟨_, _, _, _, e⟩ := x; exact Heap.lt_size e
 | tup xs => obtain ⟨_, _, _, p⟩ := x; exact p.lt
 | dK kvs => obtain ⟨_, _, _, _, o, _, _, e, _⟩ := x; exact Heap.lt_size e
 | dT kvs => obtain ⟨_, _, _, _, o, _, _, e, _⟩ := x; exact Heap.lt_size e
 | set S n => obtain ⟨o, _, _, _, e, _⟩ := x; exact Heap.lt_size e
 | ins C dx fs => obtain ⟨_, _, _, e, _⟩ := x; exact Heap.lt_size e
 | own y => obtain ⟨_, e⟩ := x; exact Heap.lt_size e
 | xd fs => obtain ⟨_, ⟨_, _, _, e, _⟩, _⟩ := x; exact Heap.lt_size e
 | rng lo hi => obtain ⟨_, _, _, e⟩ := x; exact Heap.lt_size e
 | frz ob u => obtain ⟨e, _⟩ := x; exact Heap.lt_size e
 | tbl q => obtain ⟨_, e, _⟩ := x; exact Heap.lt_size e
 | met f y => exact Heap.lt_size (show h.get? a = some _ from x)
 | ext φ => obtain ⟨_, ⟨_, e⟩, _⟩ := x; exact Heap.lt_size e
theorem Paired.mapP : ∀ {l₁ : List α} {l₂ : List β}, Paired F l₁ l₂ -> (∀ a b, F a b -> G a b) -> Paired G l₁ l₂
 | _, _, .nil, _ => .nil
 | _, _, .cons r t, f => .cons (f _ _ r) (Paired.mapP t f)
theorem ObjOk.stay (x : ObjOk P w H h a o) (k : ∀ b u, (b = a \/ H b = some (.own a)) -> h.get? b = some u -> h'.get? b = some u)
  (ho : ∀ b, H b = some (.own a) -> H' b = some (.own a)) (ht : ∀ b (xs : Fx), H b = some xs.1 -> H' b = some xs.1) : ObjOk P w H' h' a o := by
 induction o with
 | lst xs => obtain ⟨z, its, n, r, e⟩ := x; exact ⟨z, its, n, r, k _ _ (.inl rfl) e⟩
 | tup xs => obtain ⟨z, its, r, ob, e, c⟩ := x; exact ⟨z, its, r, ob, k _ _ (.inl rfl) e, c⟩
 | dK kvs => obtain ⟨z, y, vs, r, ob, es, ep, e, c⟩ := x; exact ⟨z, y, vs, r, ob, es, ep, k _ _ (.inl rfl) e, c⟩
 | dT kvs =>
   obtain ⟨z, y, xs, r, ob, es, ep, e, c⟩ := x
   exact ⟨z, y, xs, Paired.mapP r fun p q z => ⟨z.1, ht _ ⟨.tup _, trivial⟩ z.2.1, z.2.2⟩, ob, es, ep, k _ _ (.inl rfl) e, c⟩
 | set S n => obtain ⟨ob, es, ep, t, e, c⟩ := x; exact ⟨ob, es, ep, t, k _ _ (.inl rfl) e, c⟩
 | ins C dx fs =>
   obtain ⟨d, z, ne, e, mA, ⟨od, es, ep, e2, c⟩, r⟩ := x
   exact ⟨ho _ d, z, ne, k _ _ (.inl rfl) e, mA, ⟨od, es, ep, k _ _ (.inr d) e2, c⟩, r⟩
 | own y => obtain ⟨ob, e⟩ := x; exact ⟨ob, k _ _ (.inl rfl) e⟩
 | xd fs => obtain ⟨mA, ⟨od, es, ep, e, c⟩, r⟩ := x; exact ⟨mA, ⟨od, es, ep, k _ _ (.inl rfl) e, c⟩, r⟩
 | rng lo hi => obtain ⟨t, u, v, e⟩ := x; exact ⟨t, u, v, k _ _ (.inl rfl) e⟩
 | frz ob u ih => obtain ⟨e, q⟩ := x; exact ⟨k _ _ (.inl rfl) e, ih q⟩
 | tbl q =>
   obtain ⟨ps, e, t1, t2⟩ := x
   refine ⟨ps, k a _ (.inl rfl) e, t1, fun pos v z => ?_⟩
   obtain ⟨c, o, u, vs, t, h1, h2, h3, h4⟩ := t2 pos v z
   exact ⟨c, o, u, vs, t, h1, ht c ⟨.frz o u, vs, h3⟩ h2, h3, h4⟩
 | met f y =>
   have e := x
   exact k a _ (.inl rfl) e
 | ext φ => obtain ⟨p, ⟨o, e⟩, st⟩ := x; exact ⟨st _ _ p fun o q => k _ _ (.inl rfl) q, ⟨o, k _ _ (.inl rfl) e⟩, st⟩
theorem HOk.lt (x : HOk P w H h) (e : H a = some o) : a < h.objs.size := (x a o e).lt
theorem HOk.fresh (x : HOk P w H h) (e : h.objs.size <= a) : H a = none := by
 cases q : H a with
 | none => rfl
 | some u => exact absurd (Nat.lt_of_lt_of_le (x.lt q) e) (Nat.lt_irrefl _)
theorem HOk.kept (x : HOk P w H h) (k : ∀ b u, h.get? b = some u -> h'.get? b = some u) : HOk P w H h' := fun a o e =>
 (x a o e).stay (fun b u _ q => k b u q) (fun _ q => q) fun _ _ q => q
theorem HOk.laid (x : HOk P w H h) (k : ∀ b u, h.get? b = some u -> h'.get? b = some u) (hp : h.objs.size <= a) (new : ObjOk P w (upd H a o) h' a o) : HOk P w (upd H a o) h' := fun b u e => by
 have hn := x.fresh hp
 by_cases hb : b = a
 · subst hb; rw [zS] at e; cases e; exact new
 · rw [upd_ne hb] at e
   exact (x b u e).stay (fun c v _ q => k c v q) (fun c q => by rw [upd_ne (qT q hn)]; exact q) fun c xs q => by rw [upd_ne (qT q hn)]; exact q
end
def Rd (H : Hp) (a : Addr) (u : HO) : Prop := H a = some u \/ ∃ o, H a = some (.frz o u)
theorem Rd.of (h : H a = some u) : Rd H a u := .inl h
theorem Rd.ok (r : Rd H a u) (x : HOk P w H h) : ObjOk P w H h a u := by
 rcases r with r | ⟨o, r⟩
 · exact x a u r
 · obtain ⟨_, q⟩ := x a _ r
   exact q
noncomputable def Mut : Option HO -> Prop
 | some (.lst _) => True
 | some (.dK _) => True
 | some (.dT _) => True
 | some (.set _ _) => True
 | some (.ins _ _ _) => True
 | some (.ext _) => True
 | _ => False
section
theorem HOk.write (ok : HOk P w H h) (mu : Mut (H x)) (he : e = x \/ H e = some (.own x)) (k : ∀ b u, b ≠ e -> h.get? b = some u -> h'.get? b = some u) (heo : ∃ u, h'.get? e = some u)
  (new : ObjOk P w (upd H x o') h' x o') : HOk P w (upd H x o') h' := fun b u q => by
 have nown : ∀ c y, H c = some (.own y) -> c ≠ x := fun c y r z => by subst z; rw [r] at mu; exact mu
 have ntup : ∀ c (xs : Fx), H c = some xs.1 -> c ≠ x := fun c xs r z => by
  subst z; rw [r] at mu; obtain ⟨u, hu⟩ := xs
  cases u <;> first | exact False.elim mu | exact False.elim hu
 by_cases hb : b = x
 · subst hb; rw [zS] at q; cases q; exact new
 · rw [upd_ne hb] at q
   by_cases hbe : b = e
   · have q' : H b = some (.own x) := by
      rcases he with z | z
      · exact absurd (hbe.trans z) hb
      · rw [hbe]; exact z
     rw [q] at q'; cases q'
     obtain ⟨v, hv⟩ := heo
     exact ⟨v, by rw [hbe]; exact hv⟩
   · refine (ok b u q).stay (fun c v hc r => k c v ?_ r) (fun c r => by rw [upd_ne (nown c b r)]; exact r) fun c xs r => by rw [upd_ne (ntup c xs r)]; exact r
     rcases hc with rfl | hc
     · exact hbe
     · rintro rfl
       rcases he with z | z
       · exact nown c b hc z
       · rw [hc] at z; cases z; exact hb rfl
end
structure Un (fs ex : List Addr) (H H' : Hp) (h h' : Heap) : Prop where
 keep : ∀ b o, h.get? b = some o -> H b = none -> b ∉ fs -> b ∉ ex -> h'.get? b = some o
 slot : ∀ b o, h.get? b = some o -> H b = none -> b ∈ fs -> b ∉ ex -> ∃ sl, h'.get? b = some { o with slots := sl }
 free : ∀ b o, h.get? b = some o -> H b = none -> b ∉ ex -> H' b = none
 there : ∀ b o, h.get? b = some o -> b ∉ ex -> ∃ o', h'.get? b = some o'
 tups : ∀ b xs, H b = some (.tup xs) -> H' b = some (.tup xs)
 frzs : ∀ b o u, H b = some (.frz o u) -> H' b = some (.frz o u)
 tbls : ∀ b ps, H b = some (.tbl ps) -> H' b = some (.tbl ps)
section
variable {fs fs' ex ex' : List Addr} {H H1 H2 : Hp} {h h1 h2 h' : Heap} {a x e : Addr} {o : HO}
theorem Un.any (u : Un fs ex H H1 h h1) (q : h.get? b = some ob) (n : H b = none) (hx : b ∉ ex) : ∃ sl, h1.get? b = some { ob with slots := sl } := by
 by_cases hb : b ∈ fs
 · exact u.slot b ob q n hb hx
 · exact ⟨ob.slots, u.keep b ob q n hb hx⟩
theorem Un.trans (a : Un fs ex H H1 h h1) (b : Un fs ex H1 H2 h1 h2) : Un fs ex H H2 h h2 where
 keep := fun c ob q n hc hx => b.keep c ob (a.keep c ob q n hc hx) (a.free c ob q n hx) hc hx
 slot := fun c ob q n hc hx => by
  obtain ⟨sl, e1⟩ := a.slot c ob q n hc hx
  obtain ⟨sl', e2⟩ := b.slot c _ e1 (a.free c ob q n hx) hc hx
  exact ⟨sl', e2⟩
 free := fun c ob q n hx => by
  obtain ⟨o', e1⟩ := a.there c ob q hx
  exact b.free c o' e1 (a.free c ob q n hx) hx
 there := fun c ob q hx => by
  obtain ⟨o', e1⟩ := a.there c ob q hx
  exact b.there c o' e1 hx
 tups := fun c xs q => b.tups c xs (a.tups c xs q)
 frzs := fun c ob xs q => b.frzs c ob xs (a.frzs c ob xs q)
 tbls := fun c ps q => b.tbls c ps (a.tbls c ps q)
theorem Un.kept (k : ∀ b u, h.get? b = some u -> h'.get? b = some u) : Un fs ex H H h h' :=
 ⟨fun b ob q _ _ _ => k b ob q, fun b ob q _ _ _ => ⟨ob.slots, k b ob q⟩, fun _ _ _ n _ => n, fun b ob q _ => ⟨ob, k b ob q⟩, fun _ _ q => q, fun _ _ _ q => q, fun _ _ q => q⟩
theorem Un.refl : Un fs ex H H h h := Un.kept fun _ _ q => q
theorem Un.laid (k : ∀ b u, h.get? b = some u -> h'.get? b = some u) (hp : h.objs.size <= a) (hn : H a = none) : Un fs ex H (upd H a o) h h' where
 keep := fun b u q _ _ _ => k b u q
 slot := fun b u q _ _ _ => ⟨u.slots, k b u q⟩
 free := fun b u q n _ => by rw [upd_ne (Nat.ne_of_lt (Nat.lt_of_lt_of_le (Heap.lt_size q) hp))]; exact n
 there := fun b u q _ => ⟨u, k b u q⟩
 tups := fun b xs q => by rw [upd_ne (qT q hn)]; exact q
 frzs := fun b u xs q => by rw [upd_ne (qT q hn)]; exact q
 tbls := fun b ps q => by rw [upd_ne (qT q hn)]; exact q
theorem Un.write (mu : Mut (H x)) (he : e = x \/ H e = some (.own x)) (k : ∀ b u, b ≠ e -> h.get? b = some u -> h'.get? b = some u) (heo : ∃ u, h'.get? e = some u) : Un fs ex H (upd H x o) h h' := by
 have hx : ∀ b, H b = none -> b ≠ x := fun b n z => by subst z; rw [n] at mu; exact mu
 have hb : ∀ b, H b = none -> b ≠ e := fun b n z => by
  subst z
  rcases he with r | r
  · exact hx b n r
  · rw [n] at r; cases r
 have hm : ∀ b u, H b = some u -> ¬ Mut (some u) -> b ≠ x := fun b u q nm z => by subst z; rw [q] at mu; exact nm mu
 refine ⟨fun b u q n _ _ => k b u (hb b n) q, fun b u q n _ _ => ⟨u.slots, k b u (hb b n) q⟩, fun b u q n _ => by rw [upd_ne (hx b n)]; exact n, fun b u q _ => ?_,
  fun b xs q => by rw [upd_ne (hm b _ q fun z => z)]; exact q, fun b u xs q => by rw [upd_ne (hm b _ q fun z => z)]; exact q, fun b ps q => by rw [upd_ne (hm b _ q fun z => z)]; exact q⟩
 by_cases hbe : b = e
 · subst hbe; exact heo
 · exact ⟨u, k b u hbe q⟩
end
noncomputable def trk (h : Heap) (H : Hp) : List Addr := (List.range h.objs.size).filter fun a => (H a).isSome
noncomputable def hidT (h : Heap) (H : Hp) : Heap := PySem.W.hideAll h (trk h H)
theorem hidT_size h H : (hidT h H).objs.size = h.objs.size := PySem.W.hideAll_size _ _
theorem hidT_get (e : h.get? b = some o) (n : H b = none) : (hidT h H).get? b = some o :=
 PySem.W.hideAll_get _ e fun hm => by
  have q := (List.mem_filter.mp hm).2
  rw [n] at q; simp at q
theorem of_hidT (e : (hidT h H).get? b = some o) : h.get? b = some o /\ H b = none := by
 have e' := PySem.W.of_hideAll (trk h H) e
 refine ⟨e', ?_⟩
 cases q : H b with
 | none => rfl
 | some x =>
   have hm : b ∈ trk h H := List.mem_filter.mpr ⟨List.mem_range.mpr (Heap.lt_size e'), by simp [q]⟩
   have z : (hidT h H).get? b = none := PySem.W.hideAll_none (trk h H) hm
   rw [z] at e; cases e
noncomputable def allNews (g h : Heap) (L : Addr) : List (Addr × Obj) := (List.range h.objs.size).filterMap fun a => if a = L \/ (g.get? a).isSome = true then none else (h.get? a).map fun o => (a, o)
noncomputable def rest (g h : Heap) (L d : Addr) : List (Addr × Obj) := (allNews g h L).filter fun p => decide (p.1 ≠ d)
structure Mod (K : PySem.W.Frag) (mg : Str -> Option Value) (base : Heap) : Prop where
 kin : K.In base
 glob : base.Ns mainGlobals mg
 blt : ∃ mb, base.Ns builtinsNs mb /\ ∀ x : Str, x ≠ "__name__" -> mb x = bootBuiltins x
 nolimit : base.NoLimit
structure Cx where
 prog : Program
 w : World
 K : PySem.W.Frag
 mg : Str -> Option Value
 base : Heap
 A : Around
 N : List Str
 s₀ : Shared
 H₀ : Hp
 env : Env
 outer : List Env
 stack : List Env
 ex : List Addr
 fn : Str -> Bool
 calm : Bool
 pn : List (Addr × Obj)
 xe : Value -> Shared -> Prop
noncomputable def frs (l : List Env) : List Addr := l.filterMap (·.frame)
noncomputable abbrev Cx.fs (X : Cx) : List Addr := frs X.outer
def Vis (sc : Scope) (x : Str) : Prop := sc.names.lookup x = some .local \/ sc.names.lookup x = some .cell \/ sc.names.lookup x = some .free
def Loc (sc : Scope) (x : Str) : Prop := sc.names.lookup x = some .local \/ sc.names.lookup x = some .cell
def Look (env : Env) (h : Heap) (m : Str -> Option Value) (x : Str) (u : Value) : Prop :=
 (env.kindOf x = some .local /\ m x = some u) \/ ((env.kindOf x = some .cell \/ env.kindOf x = some .free) /\ ∃ c, env.cells.lookup x = some c /\ h.IsCell c (some u))
noncomputable def makers : List Str := ["law", "_law_with_itself", "_law_ways", "_law_way", "holding", "_law_any_test", "_law_test", "_law_turned", "_law_right", "wheel_run", "answer_run", "Bundle.crowd"]
noncomputable def innerN : List Stmt -> Nat -> Nat -> Str
 | [], _, _ => "<lambda>"
 | .FunctionDef n _ _ _ _ _ _ _ _ pos :: r, l, c => if pos.line = l /\ pos.col = c then n else innerN r l c
 | _ :: r, l, c => innerN r l c
noncomputable def meths : List (Str × Str × Str) := [("Bundle.crowd", "Bundle", "crowd")]
noncomputable def fnAt (K : PySem.W.Frag) (x : Str) : Option (Option Value) := match meths.lookup x with
 | none => PySem.W.nsIn K mainGlobals x
 | some (C, m) => (match PySem.W.nsIn K mainGlobals C with
   | some (some v) => PySem.W.findIn K v m
   | some none => some none
   | none => none)
noncomputable def tabM (K : PySem.W.Frag) (x : Str) : Option (Addr × Addr) := match fnAt K x with
 | some (some (.ref f)) => (match K.lookup f with
   | some ⟨_, _, .func fd, _⟩ => (match fd.code with
     | .ref c => (match K.lookup c with
       | some ⟨_, _, .fields vs, _⟩ => (match (vs[11]? : Option Value) with
         | some (.ref P) => some (c, P)
         | _ => none)
       | _ => none)
     | _ => none)
   | _ => none)
 | _ => none
theorem tabM_is {K : PySem.W.Frag} {x : Str} (h : meths.lookup x = none) : tabM K x = PySem.W.tabIn K x := by unfold tabM fnAt PySem.W.tabIn; rw [h]; rfl
noncomputable def innerQ (K : PySem.W.Frag) (x : Str) (l c : Nat) : Str := match fnAt K x with
 | some (some (.ref f)) => (match K.lookup f with
   | some ⟨_, _, .func fd, _⟩ => (match fd.body with
     | .stmts b => x ++ ".<locals>." ++ innerN b l c
     | _ => x)
   | _ => x)
 | _ => x
structure TabsK (K : PySem.W.Frag) (mg : Str -> Option Value) (base : Heap) (H : Hp) : Prop where
 bm : ∃ bm ob, mg "__builtins__" = some (.ref bm) /\ bm ≠ builtinsNs /\ base.get? bm = some ob /\ ob.cls = .type "module" /\ ob.dict = some builtinsNs /\ ob.data = .plain
 tab : ∀ x c P, x ∈ makers -> tabM K x = some (c, P) -> PySem.W.CodeHd base c P /\ H P = some (.tbl (innerQ K x))
def Bsz (K : PySem.W.Frag) (mg : Str -> Option Value) (base h : Heap) (H : Hp) : Prop := base.objs.size <= h.objs.size /\ TabsK K mg base H
def FreeC (X : Cx) (H : Hp) (x : Str) (c : Addr) : Prop := H c = none \/ (X.fn x = false /\ ∃ o u, H c = some (.frz o u))
theorem FreeC.now (h : FreeC X H x c) (hf : X.fn x = true) : H c = none := h.elim id fun z => by rw [hf] at z; cases z.1
structure Cx.Ok (X : Cx) : Prop where
 mod : Mod X.K X.mg X.base
 kind : X.env.scope.kind = .function
 glob : X.env.globals = mainGlobals
 blt : X.env.builtins = builtinsNs
 above : X.s₀.heap.objs.size <= X.env.locals
 inj : ∀ x y c, X.env.cells.lookup x = some c -> X.env.cells.lookup y = some c -> x = y
 has : ∀ x, (X.env.kindOf x = some .cell \/ X.env.kindOf x = some .free) -> ∃ c, X.env.cells.lookup x = some c
 cab : ∀ x c, X.fn x = true -> X.env.cells.lookup x = some c -> X.s₀.heap.objs.size <= c
 hd : X.calm = true -> X.A.handled = none
 frames : X.A.frames = some X.stack
 stk : X.stack = X.outer \/ (X.stack = X.env :: X.outer /\ X.env.frame = some X.env.locals)
 exf : ∀ b ∈ X.ex, b ≠ X.env.locals /\ ∀ x c, X.env.cells.lookup x = some c -> c ≠ b
 bs : ∀ b o, X.base.get? b = some o -> X.s₀.heap.get? b = some o /\ X.H₀ b = none
 bsz : Bsz X.K X.mg X.base X.s₀.heap X.H₀
 noex : ∀ b o, X.base.get? b = some o -> b ∉ X.ex
 exfs : ∀ b ∈ X.ex, b ∉ X.fs
 funs : X.s₀.heap.FunFrames X.base X.outer
 frf : ∀ b ∈ X.fs, X.H₀ b = none
structure Inv (X : Cx) (pins : List (Addr × Obj)) (σ : List (Option V)) (H : Hp) (s : Shared) : Prop where
 ok : X.Ok
 os : s.os = X.s₀.os
 bare : AllBare s.gens
 base : Un X.fs X.ex X.H₀ H X.s₀.heap s.heap
 loc : ∃ m, s.heap.Ns X.env.locals m /\ ∀ (i : Nat) (x : Str) (v : V), X.N[i]? = some x -> σ[i]? = some (some v) -> Vis X.env.scope x -> ∃ u, RelV v u /\ Look X.env s.heap m x u
 cell : ∀ x c, X.env.cells.lookup x = some c -> ∃ v, s.heap.IsCell c v
 free : H X.env.locals = none
 freeC : ∀ x c, X.env.cells.lookup x = some c -> FreeC X H x c
 pin : ∀ p ∈ X.pn ++ pins, s.heap.get? p.1 = some p.2 /\ H p.1 = none /\ p.1 ≠ X.env.locals /\ p.1 ∉ X.fs /\ ∀ v, p.2.data ≠ .cell v
 hok : HOk X.prog X.w H s.heap
 len : σ.length = X.N.length
section
variable {X : Cx}
theorem Cx.Ok.nofr (ok : X.Ok) (e : X.base.get? b = some o) : b ∉ X.fs := fun hb => by
 have := (ok.funs.mem hb).1
 rw [e] at this; cases this
theorem Inv.bs (I : Inv X pins σ H s) : ∀ b o, X.base.get? b = some o -> s.heap.get? b = some o /\ H b = none := fun b o e =>
 ⟨I.base.keep b o (I.ok.bs b o e).1 (I.ok.bs b o e).2 (I.ok.nofr e) (I.ok.noex b o e), I.base.free b o (I.ok.bs b o e).1 (I.ok.bs b o e).2 (I.ok.noex b o e)⟩
theorem Inv.bk (I : Inv X pins σ H s) : ∀ b o, X.base.get? b = some o -> s.heap.get? b = some o := fun b o e => (I.bs b o e).1
theorem Inv.mod (I : Inv X pins σ H s) : Mod X.K X.mg X.base := I.ok.mod
theorem Inv.kIn (I : Inv X pins σ H s) : X.K.In s.heap := I.ok.mod.kin.keeps I.bk
theorem Inv.lt (I : Inv X pins σ H s) : X.env.locals < s.heap.objs.size := let ⟨_, hn, _⟩ := I.loc; hn.lt
theorem Inv.sz (I : Inv X pins σ H s) : X.s₀.heap.objs.size <= s.heap.objs.size := Nat.le_trans I.ok.above (Nat.le_of_lt I.lt)
theorem Inv.nofs (I : Inv X pins σ H s) (h : s.heap.objs.size <= a) : a ∉ X.fs := fun hb => by
 obtain ⟨_, o, ho, _⟩ := I.ok.funs.mem hb
 exact absurd (Nat.lt_of_lt_of_le (Heap.lt_size ho) (Nat.le_trans I.sz h)) (Nat.lt_irrefl _)
theorem Inv.cne (I : Inv X pins σ H s) : ∀ x c, X.env.cells.lookup x = some c -> c ≠ X.env.locals := fun x c e z => by
 obtain ⟨v, o, ho, hd⟩ := I.cell x c e
 obtain ⟨m, ⟨o', es, ep, ho', hd', _⟩, _⟩ := I.loc
 rw [z, ho'] at ho; cases ho; rw [hd'] at hd; cases hd
theorem Inv.funs (I : Inv X pins σ H s) : s.heap.FunFrames X.base X.outer := by
 have all : ∀ (l : List Env), (∀ b ∈ frs l, b ∈ X.fs) -> X.s₀.heap.FunFrames X.base l -> s.heap.FunFrames X.base l := by
  intro l
  induction l with
  | nil => intro _ _; trivial
  | cons env r ih =>
    intro hs hl
    obtain ⟨hk, ⟨L, o, hf, hn, ho, hd⟩, hr⟩ := hl
    have hL : L ∈ X.fs := hs L (by unfold frs; rw [List.filterMap_cons, hf]; exact List.mem_cons_self)
    obtain ⟨sl, e⟩ := I.base.slot L o ho (I.ok.frf L hL) hL fun z => I.ok.exfs L z hL
    exact ⟨hk, ⟨L, _, hf, hn, e, hd⟩, ih (fun b hb => hs b (by unfold frs; rw [List.filterMap_cons, hf]; exact List.mem_cons_of_mem _ hb)) hr⟩
 exact all X.outer (fun _ hb => hb) I.ok.funs
theorem Inv.stack (I : Inv X pins σ H s) : s.heap.FunFrames X.base X.stack := by
 rcases I.ok.stk with e | ⟨e, hf⟩
 · rw [e]; exact I.funs
 · rw [e]
   obtain ⟨m, hn, _⟩ := I.loc
   refine .cons (by rw [I.ok.kind]; decide) hf hn ?_ I.funs
   exact Heap.get?_none_of_le (Nat.le_trans I.ok.bsz.1 I.ok.above)
theorem Inv.stkSub (I : Inv X pins σ H s) : ∀ b ∈ frs X.stack, b ∈ X.env.locals :: X.fs := fun b hb => by
 rcases I.ok.stk with e | ⟨e, hf⟩
 · rw [e] at hb; exact List.mem_cons_of_mem _ hb
 · rw [e] at hb
   unfold frs at hb
   rw [List.filterMap_cons, hf] at hb
   exact hb
theorem Inv.stkFree (I : Inv X pins σ H s) : ∀ b ∈ frs X.stack, H b = none := fun b hb => by
 rcases List.mem_cons.mp (I.stkSub b hb) with e | hb
 · rw [e]; exact I.free
 · obtain ⟨_, o, ho, _⟩ := I.ok.funs.mem hb
   exact I.base.free b o ho (I.ok.frf b hb) fun z => I.ok.exfs b z hb
theorem Inv.step {ch : List Addr} (I : Inv X pins σ H s)
  (hch : ∀ b ∈ ch, (b ∈ X.ex \/ X.s₀.heap.objs.size <= b) /\ b ≠ X.env.locals /\ (∀ x c, X.env.cells.lookup x = some c -> c ≠ b) /\ ∀ p ∈ X.pn ++ pins, p.1 ≠ b)
  (keep : ∀ b o, b ≠ X.env.locals -> b ∉ X.fs -> b ∉ ch -> s.heap.get? b = some o -> H b = none -> h'.get? b = some o)
  (slot : ∀ b o, b ≠ X.env.locals -> b ∈ X.fs -> b ∉ ch -> s.heap.get? b = some o -> H b = none -> ∃ sl, h'.get? b = some { o with slots := sl }) (free : ∀ b o, b ∉ ch -> s.heap.get? b = some o -> H b = none -> H' b = none)
  (there : ∀ b o, b ∉ ch -> s.heap.get? b = some o -> ∃ o', h'.get? b = some o')
  (tups : ∀ b xs, H b = some (.tup xs) -> H' b = some (.tup xs)) (frzs : ∀ b o u, H b = some (.frz o u) -> H' b = some (.frz o u)) (tbls : ∀ b ps, H b = some (.tbl ps) -> H' b = some (.tbl ps))
  (ns : ∀ m, s.heap.Ns X.env.locals m -> h'.Ns X.env.locals m) (hok : HOk X.prog X.w H' h') (hg : AllBare g') :
  Inv X pins σ H' { s with heap := h', gens := g', drawn := d', toks := t' } := by
 have neL : ∀ b o, X.s₀.heap.get? b = some o -> b ≠ X.env.locals := fun b o e => Nat.ne_of_lt (Nat.lt_of_lt_of_le (Heap.lt_size e) I.ok.above)
 have neC : ∀ b o, X.s₀.heap.get? b = some o -> b ∉ X.ex -> b ∉ ch := fun b o e hx hb => by
  rcases (hch b hb).1 with z | z
  · exact hx z
  · exact absurd (Nat.lt_of_lt_of_le (Heap.lt_size e) z) (Nat.lt_irrefl _)
 have cellK : ∀ x c, X.env.cells.lookup x = some c -> ∀ v, s.heap.IsCell c v -> h'.IsCell c v := fun x c e v ⟨o, ho, hd⟩ => by
  have nch := fun z => (hch c z).2.2.1 x c e rfl
  rcases I.freeC x c e with fr | ⟨_, of, uf, fr⟩
  · by_cases hc : c ∈ X.fs
    · obtain ⟨sl, q⟩ := slot c o (I.cne x c e) hc nch ho fr
      exact ⟨_, q, hd⟩
    · exact ⟨o, keep c o (I.cne x c e) hc nch ho fr, hd⟩
  · obtain ⟨e1, _⟩ := I.hok c _ fr
    obtain ⟨e2, _⟩ := hok c _ (frzs c of uf fr)
    rw [ho] at e1; cases e1
    exact ⟨o, e2, hd⟩
 refine ⟨I.ok, I.os, hg, ⟨fun b o e n hb hx => ?_, fun b o e n hb hx => ?_, fun b o e n hx => ?_, fun b o e hx => ?_, fun b xs e => tups b xs (I.base.tups b xs e), fun b o xs e => frzs b o xs (I.base.frzs b o xs e), fun b ps e => ?_⟩, ?_, fun x c e => ?_, ?_, fun x c e => ?_, fun p hp => ?_, hok, I.len⟩
 · exact keep b o (neL b o e) hb (neC b o e hx) (I.base.keep b o e n hb hx) (I.base.free b o e n hx)
 · obtain ⟨sl, e1⟩ := I.base.slot b o e n hb hx
   obtain ⟨sl', e2⟩ := slot b _ (neL b o e) hb (neC b o e hx) e1 (I.base.free b o e n hx)
   exact ⟨sl', e2⟩
 · obtain ⟨o', e1⟩ := I.base.there b o e hx
   exact free b o' (neC b o e hx) e1 (I.base.free b o e n hx)
 · obtain ⟨o', e1⟩ := I.base.there b o e hx
   exact there b o' (neC b o e hx) e1
 · exact tbls b ps (I.base.tbls b ps e)
 · obtain ⟨m, hn, hl⟩ := I.loc
   refine ⟨m, ns m hn, fun i x v e1 e2 e3 => ?_⟩
   obtain ⟨u, r, l⟩ := hl i x v e1 e2 e3
   refine ⟨u, r, ?_⟩
   rcases l with l | ⟨k, c, e, z⟩
   · exact .inl l
   · exact .inr ⟨k, c, e, cellK x c e _ z⟩
 · obtain ⟨v, z⟩ := I.cell x c e
   exact ⟨v, cellK x c e v z⟩
 · obtain ⟨m, ⟨o, _, _, ho, _⟩, _⟩ := I.loc
   exact free _ o (fun z => (hch _ z).2.1 rfl) ho I.free
 · obtain ⟨v, o, ho, hd⟩ := I.cell x c e
   exact (I.freeC x c e).elim (fun fr => .inl (free c o (fun z => (hch c z).2.2.1 x c e rfl) ho fr)) fun ⟨h1, of, uf, fr⟩ => .inr ⟨h1, of, uf, frzs c of uf fr⟩
 · obtain ⟨e, n, ne, nf, d⟩ := I.pin p hp
   have nch := fun z => (hch p.1 z).2.2.2 p hp rfl
   exact ⟨keep p.1 p.2 ne nf nch e n, free p.1 p.2 nch e n, ne, nf, d⟩
theorem Inv.un (I : Inv X pins σ H s) (u : Un X.fs [] H H' s.heap h') (hok : HOk X.prog X.w H' h') : Inv X pins σ H' { s with heap := h', toks := t' } := by
 obtain ⟨m, ⟨o, es, ep, ho, r⟩, _⟩ := id I.loc
 obtain ⟨sl, hL⟩ := u.any ho I.free (by simp)
 exact I.step (ch := []) (fun _ z => nomatch z) (fun b o _ hb _ e n => u.keep b o e n hb (by simp)) (fun b o _ hb _ e n => u.slot b o e n hb (by simp)) (fun b o _ e n => u.free b o e n (by simp)) (fun b o _ e => u.there b o e (by simp)) u.tups u.frzs u.tbls (fun m' hm => by
  obtain ⟨o', es', ep', ho', r'⟩ := hm
  rw [ho] at ho'; cases ho'
  exact ⟨_, es', ep', hL, r'⟩) hok I.bare
theorem Inv.call (I : Inv X pins σ H s) (u : Un (frs X.stack) ch H H' s.heap h') (hok : HOk X.prog X.w H' h') (hg : AllBare g')
  (hch : ∀ b ∈ ch, (b ∈ X.ex \/ X.s₀.heap.objs.size <= b) /\ b ≠ X.env.locals /\ (∀ x c, X.env.cells.lookup x = some c -> c ≠ b) /\ ∀ p ∈ X.pn ++ pins, p.1 ≠ b) :
  Inv X pins σ H' { s with heap := h', gens := g', drawn := d', toks := t' } := by
 obtain ⟨m, ⟨o, es, ep, ho, r⟩, _⟩ := id I.loc
 obtain ⟨sl, hL⟩ := u.any ho I.free fun z => (hch _ z).2.1 rfl
 exact I.step hch (fun b o hL hb hc e n => u.keep b o e n (fun z => (List.mem_cons.mp (I.stkSub b z)).elim hL hb) hc) (fun b o _ _ hc e n => u.any e n hc) (fun b o hc e n => u.free b o e n hc) (fun b o hc e => u.there b o e hc) u.tups u.frzs u.tbls (fun m' hm => by
  obtain ⟨o', es', ep', ho', r'⟩ := hm
  rw [ho] at ho'; cases ho'
  exact ⟨_, es', ep', hL, r'⟩) hok hg
theorem Inv.turned (I : Inv X pins σ H s) (k : ∀ b o, b ≠ it -> s.heap.get? b = some o -> h'.get? b = some o) (hn : H it = none) (hL : it ≠ X.env.locals)
  (h1 : it ∈ X.ex \/ X.s₀.heap.objs.size <= it) (h2 : ∀ x c, X.env.cells.lookup x = some c -> c ≠ it) (h3 : ∀ p ∈ X.pn ++ pins, p.1 ≠ it) : Inv X pins σ H { s with heap := h', toks := t' } := by
 have nit : ∀ b u, H b = some u -> b ≠ it := fun b u e z => by rw [z, hn] at e; cases e
 refine I.step (ch := [it]) (fun b hb => ?_) (fun b o _ _ hc e _ => k b o (fun z => hc (by simp [z])) e) (fun b o _ _ hc e _ => ⟨o.slots, k b o (fun z => hc (by simp [z])) e⟩) (fun _ _ _ _ n => n)
  (fun b o hc e => ⟨o, k b o (fun z => hc (by simp [z])) e⟩) (fun _ _ e => e) (fun _ _ _ e => e) (fun _ _ e => e) (fun m hm => ?_) (fun b u e => ?_) I.bare
 · have e : b = it := by simpa using hb
   subst e
   exact ⟨h1, hL, h2, h3⟩
 · obtain ⟨o, es, ep, ho, r⟩ := hm
   exact ⟨o, es, ep, k _ o (Ne.symm hL) ho, r⟩
 · refine (I.hok b u e).stay (fun c v hc q => k c v ?_ q) (fun _ q => q) fun _ _ q => q
   rcases hc with z | z
   · rw [z]; exact nit b u e
   · exact nit c _ z
theorem Inv.tok (I : Inv X pins σ H s) t : Inv X pins σ H { s with toks := t } := I.un (h' := s.heap) (t' := t) Un.refl I.hok
theorem Inv.kept (I : Inv X pins σ H s) (k : ∀ b u, s.heap.get? b = some u -> h'.get? b = some u) : Inv X pins σ H { s with heap := h', toks := t' } := I.un (Un.kept k) (I.hok.kept k)
theorem Inv.laid (I : Inv X pins σ H s) (k : ∀ b u, s.heap.get? b = some u -> h'.get? b = some u) (hp : s.heap.objs.size <= a) (new : ObjOk X.prog X.w (upd H a o) h' a o) :
  Inv X pins σ (upd H a o) { s with heap := h', toks := t' } := I.un (Un.laid k hp (I.hok.fresh hp)) (I.hok.laid k hp new)
theorem Inv.write (I : Inv X pins σ H s) (mu : Mut (H x)) (he : e = x \/ H e = some (.own x)) (k : ∀ b u, b ≠ e -> s.heap.get? b = some u -> h'.get? b = some u) (heo : ∃ u, h'.get? e = some u)
  (new : ObjOk X.prog X.w (upd H x o) h' x o) : Inv X pins σ (upd H x o) { s with heap := h', toks := t' } := I.un (Un.write mu he k heo) (I.hok.write mu he k heo new)
theorem Inv.pins_of (I : Inv X pins σ H s) (h : ∀ p ∈ pins', s.heap.get? p.1 = some p.2 /\ H p.1 = none /\ p.1 ≠ X.env.locals /\ p.1 ∉ X.fs /\ ∀ v, p.2.data ≠ .cell v) : Inv X pins' σ H s :=
 ⟨I.ok, I.os, I.bare, I.base, I.loc, I.cell, I.free, I.freeC, fun p hp => (List.mem_append.mp hp).elim (fun z => I.pin p (List.mem_append_left _ z)) (h p), I.hok, I.len⟩
theorem nodup_ix {N : List Str} (hN : N.Nodup) {i j : Nat} (a : N[i]? = some x) (b : N[j]? = some x) : i = j := by
 obtain ⟨h1, e1⟩ := List.getElem?_eq_some_iff.mp a
 obtain ⟨h2, e2⟩ := List.getElem?_eq_some_iff.mp b
 exact (List.getElem_inj hN).mp (e1.trans e2.symm)
theorem store_ok2 (I : Inv X pins σ H s) (hN : X.N.Nodup) (hi : X.N[i]? = some x) (hx : Loc X.env.scope x) (r : RelV v u)
  (h : ∀ s', Inv X pins (σ.set i (some v)) H s' -> (∃ a, Heap.SameBut a s.heap s'.heap /\ (a = X.env.locals \/ X.env.cells.lookup x = some a)) -> Q () s') (hf : X.fn x = true \/ X.env.scope.names.lookup x = some .local := by first | exact .inl rfl | exact .inr rfl | assumption) : wpAny M A (storeName X.env x u) Q E s := by
 obtain ⟨m, hn, hl⟩ := id I.loc
 have hcls : (X.env.scope.kind == .class || (X.env.scope.kind == .module && X.env.locals != X.env.globals)) = false := by rw [I.ok.kind]; rfl
 have hiσ : i < σ.length := by rw [I.len]; exact (List.getElem?_eq_some_iff.mp hi).1
 have cne := I.cne
 have tracked : ∀ {a : Addr} {h' : Heap}, (∃ o, s.heap.get? a = some o /\ H a = none) -> Heap.SameBut a s.heap h' -> HOk X.prog X.w H h' := fun {a h'} ha hs b ob e => by
  obtain ⟨_, _, hfree⟩ := ha
  refine (I.hok b ob e).stay (fun c w' hc q => (hs.2 c ?_).trans q) (fun _ q => q) fun _ _ q => q
  rintro rfl
  rcases hc with rfl | hc
  · rw [hfree] at e; cases e
  · rw [hfree] at hc; cases hc
 rcases hx with hk | hk
 · refine wpAny_storeName_local hk hn (fun h' hn' hs => ?_) hcls
   obtain ⟨oL, _, _, hoL, _⟩ := id hn
   refine h _ ⟨I.ok, I.os, I.bare, ⟨fun b o e n hb hx => ?_, fun b o e n hb hx => ?_, I.base.free, fun b o e hx => ?_, I.base.tups, I.base.frzs, I.base.tbls⟩, ⟨_, hn', fun j y v' e1 e2 e3 => ?_⟩, fun y c e => ?_, I.free, I.freeC, fun p hp => ?_, tracked ⟨oL, hoL, I.free⟩ hs, by simpa using I.len⟩ ⟨_, hs, .inl rfl⟩
   · exact (hs.2 b (Nat.ne_of_lt (Nat.lt_of_lt_of_le (Heap.lt_size e) I.ok.above))).trans (I.base.keep b o e n hb hx)
   · obtain ⟨sl, e1⟩ := I.base.slot b o e n hb hx
     exact ⟨sl, (hs.2 b (Nat.ne_of_lt (Nat.lt_of_lt_of_le (Heap.lt_size e) I.ok.above))).trans e1⟩
   · obtain ⟨o', e1⟩ := I.base.there b o e hx
     exact ⟨o', (hs.2 b (Nat.ne_of_lt (Nat.lt_of_lt_of_le (Heap.lt_size e) I.ok.above))).trans e1⟩
   · by_cases hj : j = i
     · subst hj
       rw [hi] at e1; cases e1
       rw [List.getElem?_set_self hiσ] at e2
       cases e2
       exact ⟨u, r, .inl ⟨hk, by simp⟩⟩
     · rw [List.getElem?_set_ne (Ne.symm hj)] at e2
       obtain ⟨u', r', q⟩ := hl j y v' e1 e2 e3
       refine ⟨u', r', ?_⟩
       rcases q with ⟨k, e⟩ | ⟨k, c, e, z⟩
       · refine .inl ⟨k, ?_⟩
         have : y ≠ x := fun e => hj (nodup_ix hN e1 (e ▸ hi))
         simp [this, e]
       · exact .inr ⟨k, c, e, z.sameBut hs (cne y c e)⟩
   · obtain ⟨w', z⟩ := I.cell y c e
     exact ⟨w', z.sameBut hs (cne y c e)⟩
   · obtain ⟨e, n, ne, nf, d⟩ := I.pin p hp
     exact ⟨(hs.2 p.1 ne).trans e, n, ne, nf, d⟩
 · have hfn : X.fn x = true := by
    rcases hf with z | z
    · exact z
    · rw [z] at hk; cases hk
   obtain ⟨c, hc⟩ := I.ok.has x (.inl hk)
   obtain ⟨w', z⟩ := I.cell x c hc
   refine wpAny_storeName_cell I.ok.kind hk hc z (fun h' hc' hs => ?_)
   obtain ⟨oc, hoc, hocd⟩ := id z
   refine h { s with heap := h' } ⟨I.ok, I.os, I.bare, ⟨fun b o e n hb hx => ?_, fun b o e n hb hx => ?_, I.base.free, fun b o e hx => ?_, I.base.tups, I.base.frzs, I.base.tbls⟩, ⟨m, hn.sameBut hs (Ne.symm (cne x c hc)), fun j y v' e1 e2 e3 => ?_⟩, fun y c' e => ?_, I.free, I.freeC, fun p hp => ?_, tracked ⟨oc, hoc, (I.freeC x c hc).now hfn⟩ hs, by simpa using I.len⟩ ⟨c, hs, .inr hc⟩
   · exact (hs.2 b (Nat.ne_of_lt (Nat.lt_of_lt_of_le (Heap.lt_size e) (I.ok.cab x c hfn hc)))).trans (I.base.keep b o e n hb hx)
   · obtain ⟨sl, e1⟩ := I.base.slot b o e n hb hx
     exact ⟨sl, (hs.2 b (Nat.ne_of_lt (Nat.lt_of_lt_of_le (Heap.lt_size e) (I.ok.cab x c hfn hc)))).trans e1⟩
   · obtain ⟨o', e1⟩ := I.base.there b o e hx
     exact ⟨o', (hs.2 b (Nat.ne_of_lt (Nat.lt_of_lt_of_le (Heap.lt_size e) (I.ok.cab x c hfn hc)))).trans e1⟩
   · by_cases hj : j = i
     · subst hj
       rw [hi] at e1; cases e1
       rw [List.getElem?_set_self hiσ] at e2
       cases e2
       exact ⟨u, r, .inr ⟨.inl hk, c, hc, hc'⟩⟩
     · rw [List.getElem?_set_ne (Ne.symm hj)] at e2
       obtain ⟨u', r', q⟩ := hl j y v' e1 e2 e3
       refine ⟨u', r', ?_⟩
       rcases q with q | ⟨k, c', e, z'⟩
       · exact .inl q
       · refine .inr ⟨k, c', e, z'.sameBut hs ?_⟩
         rintro rfl
         exact hj (nodup_ix hN e1 (I.ok.inj _ _ _ e hc ▸ hi))
   · by_cases hcc : c' = c
     · subst hcc; exact ⟨_, hc'⟩
     · obtain ⟨w2, z2⟩ := I.cell y c' e
       exact ⟨w2, z2.sameBut hs hcc⟩
   · obtain ⟨e, n, ne, nf, d⟩ := I.pin p hp
     refine ⟨(hs.2 p.1 ?_).trans e, n, ne, nf, d⟩
     intro q
     rw [q, hoc] at e
     have q' := Option.some.inj e
     exact d w' (by rw [<- q']; exact hocd)
theorem store_ok (I : Inv X pins σ H s) (hN : X.N.Nodup) (hi : X.N[i]? = some x) (hx : Loc X.env.scope x) (r : RelV v u)
  (h : ∀ s', Inv X pins (σ.set i (some v)) H s' -> Q () s') (hf : X.fn x = true \/ X.env.scope.names.lookup x = some .local := by first | exact .inl rfl | exact .inr rfl | assumption) : wpAny M A (storeName X.env x u) Q E s :=
 store_ok2 I hN hi hx r (fun s' I' _ => h s' I') hf
theorem Inv.call' (I : Inv X pins σ H s) (ho : s'.os = s.os) (u : Un (frs X.stack) ch H H' s.heap s'.heap) (hok : HOk X.prog X.w H' s'.heap) (hg : AllBare s'.gens)
  (hch : ∀ b ∈ ch, (b ∈ X.ex \/ X.s₀.heap.objs.size <= b) /\ b ≠ X.env.locals /\ (∀ x c, X.env.cells.lookup x = some c -> c ≠ b) /\ ∀ p ∈ X.pn ++ pins, p.1 ≠ b) : Inv X pins σ H' s' := by
 obtain ⟨h', g', d', t', o'⟩ := s'
 have e := ho
 subst e
 exact I.call u hok hg hch
end
abbrev XK := Value -> Option Addr -> Hp -> Prop
abbrev St := List (Option V)
abbrev VK := V -> Hp -> Prop
abbrev TE := St -> Hp -> VK -> Prop
abbrev TT := St -> Hp -> (Bool -> Hp -> Prop) -> Prop
abbrev TA := St -> Hp -> (List V -> Hp -> Prop) -> Prop
structure Ends where
 nx : St -> Hp -> Prop
 rt : VK
 bk : St -> Hp -> Prop := fun _ _ => False
 ct : St -> Hp -> Prop := fun _ _ => False
abbrev TS := Ends -> St -> Hp -> Prop
def EP (X : Cx) (pins : List (Addr × Obj)) (σ : St) (Q : VK) (u : Value) (s' : Shared) : Prop := ∃ v H', Inv X pins σ H' s' /\ RelV v u /\ Q v H'
def TP (X : Cx) (pins : List (Addr × Obj)) (σ : St) (Q : Bool -> Hp -> Prop) (b : Bool) (s' : Shared) : Prop := ∃ H', Inv X pins σ H' s' /\ Q b H'
def AP (X : Cx) (pins : List (Addr × Obj)) (σ : St) (Q : List V -> Hp -> Prop) (us : List Value) (s' : Shared) : Prop := ∃ vs H', Inv X pins σ H' s' /\ Vals vs us /\ Q vs H'
def SP (X : Cx) (pins : List (Addr × Obj)) (D : Ends) (f : Flow) (s' : Shared) : Prop :=
 match f with
 | .next => ∃ σ' H', Inv X pins σ' H' s' /\ D.nx σ' H'
 | .brk => ∃ σ' H', Inv X pins σ' H' s' /\ D.bk σ' H'
 | .cont => ∃ σ' H', Inv X pins σ' H' s' /\ D.ct σ' H'
 | .ret u => ∃ v σ' H', Inv X pins σ' H' s' /\ RelV v u /\ D.rt v H'
def PE (X : Cx) (e : Expr) (t : TE) : Prop :=
 ∀ (pins : List (Addr × Obj)) (s : Shared) (σ : St) (H : Hp) (Q : VK), Inv X pins σ H s -> t σ H Q -> wpAny (model X.prog X.w) X.A (eval e X.env) (EP X pins σ Q) X.xe s
def PT (X : Cx) (e : Expr) (t : TT) : Prop :=
 ∀ (pins : List (Addr × Obj)) (s : Shared) (σ : St) (H : Hp) (Q : Bool -> Hp -> Prop), Inv X pins σ H s -> t σ H Q -> wpAny (model X.prog X.w) X.A (isTrue e X.env (eval e X.env)) (TP X pins σ Q) X.xe s
def PW (X : Cx) (e : Expr) (t : TT) : Prop :=
 ∀ (whole : Sem Value) (pins : List (Addr × Obj)) (s : Shared) (σ : St) (H : Hp) (Q : Bool -> Hp -> Prop), Inv X pins σ H s -> t σ H Q -> wpAny (model X.prog X.w) X.A (isTrue e X.env whole) (TP X pins σ Q) X.xe s
theorem PW.pt (h : PW X e t) : PT X e t := h _
def PA (X : Cx) (es : List Expr) (t : TA) : Prop :=
 ∀ (pos : Pos) (pins : List (Addr × Obj)) (s : Shared) (σ : St) (H : Hp) (Q : List V -> Hp -> Prop), Inv X pins σ H s -> t σ H Q -> wpAny (model X.prog X.w) X.A (spliced (backTo pos (starEach es X.env))) (AP X pins σ Q) X.xe s
def PS (X : Cx) (st : Stmt) (t : TS) : Prop :=
 ∀ (pins : List (Addr × Obj)) (s : Shared) (σ : St) (H : Hp) (D : Ends), Inv X pins σ H s -> t D σ H -> wpAny (model X.prog X.w) X.A (exec st X.env) (SP X pins D) X.xe s
def PSs (X : Cx) (st : List Stmt) (t : TS) : Prop :=
 ∀ (pins : List (Addr × Obj)) (s : Shared) (σ : St) (H : Hp) (D : Ends), Inv X pins σ H s -> t D σ H -> wpAny (model X.prog X.w) X.A (execs st X.env) (SP X pins D) X.xe s
theorem thn (h : wpAny M A t Q E s) (hQ : ∀ a s, Q a s -> Q' a s) : wpAny M A t Q' E s := wpAny_mono h hQ fun _ _ x => x
section
variable {X : Cx}
def tVar (i : Nat) : TE := fun σ H Q => ∃ v, σ[i]? = some (some v) /\ Q v H
def tC (v : V) : TE := fun _ H Q => Q v H
theorem jZ (hN : X.N[i]? = some x) (hv : Vis X.env.scope x) (hd : (x == ("__debug__" : Str)) = false := by decide) (hcd : (x == ("__classdict__" : Str)) = false := by decide) : PE X (.Name x pos) (tVar i) := by
 intro pins s σ H Q I h
 obtain ⟨v, e, h⟩ := h
 obtain ⟨m, hn, hl⟩ := I.loc
 obtain ⟨u, r, l⟩ := hl i x v hN e hv
 have fin : EP X pins σ Q u s := ⟨v, H, I, r, h⟩
 rcases l with ⟨hk, hm⟩ | ⟨hk, c, hc, hcell⟩
 · exact wpAny_Name (wpAny_loadName_local I.ok.kind hk hn hm fin) hd
 · rcases hk with hk | hk
   · exact wpAny_Name (wpAny_loadName_cell I.ok.kind hk hc hcell fin) hd
   · exact wpAny_Name (wpAny_loadName_free I.ok.kind hk hc hcell fin hcd) hd
theorem pe_int {i j pos} : PE X (.Constant (.int i) j pos) (tC (.int i)) := fun _ _ _ H _ I h => wpAny_Constant_int ⟨.int i, H, I.tok _, ⟨_, rfl⟩, h⟩
theorem pe_bl {b j pos} : PE X (.Constant (.bool b) j pos) (tC (.bl b)) := fun _ _ _ H _ I h => Constant_bool ⟨.bl b, H, I, rfl, h⟩
theorem pe_non {j pos} : PE X (.Constant .none j pos) (tC .non) := fun _ _ _ H _ I h => Constant_none ⟨.non, H, I, rfl, h⟩
theorem pe_str {x j pos} : PE X (.Constant (.str x) j pos) (tC (.str x)) := fun _ _ _ H _ I h => Calls.Constant_str ⟨.str x, H, I.tok _, ⟨_, rfl⟩, h⟩
def Gl (X : Cx) (x : Str) : Prop := X.env.kindOf x = some .globalImplicit
theorem wP (I : Inv X pins σ H s) (hg : Gl X x) (hm : X.mg x = some u) (h : Q u s)
  (hd : (x == ("__debug__" : Str)) = false := by decide) : wpAny (model X.prog X.w) X.A (eval (.Name x pos) X.env) Q E s :=
 Calls.Name_function_global I.ok.kind hg (Calls.loadGlobal_global (by rw [I.ok.glob]; exact I.mod.glob.keeps I.bk) hm h) hd
theorem kF (I : Inv X pins σ H s) (hg : Gl X x) (hm : X.mg x = none) (hv : bootBuiltins x = some u) (h : Q u s)
  (hn : x ≠ "__name__" := by decide) (hd : (x == ("__debug__" : Str)) = false := by decide) : wpAny (model X.prog X.w) X.A (eval (.Name x pos) X.env) Q E s := by
 obtain ⟨mb, h1, h2⟩ := I.mod.blt
 exact Calls.Name_function_global I.ok.kind hg (Calls.loadGlobal_builtin (by rw [I.ok.glob]; exact I.mod.glob.keeps I.bk) hm (by rw [I.ok.blt]; exact h1.keeps I.bk) ((h2 x hn).trans hv) h) hd
theorem pe_glob (hg : Gl X x) (hm : X.mg x = some u) (r : RelV v u) (hd : (x == ("__debug__" : Str)) = false := by decide) : PE X (.Name x pos) (tC v) :=
 fun _ _ _ H _ I h => wP I hg hm ⟨v, H, I, r, h⟩ hd
theorem pe_bltn (hg : Gl X x) (hm : X.mg x = none) (hv : bootBuiltins x = some u) (r : RelV v u) (hn : x ≠ "__name__" := by decide) (hd : (x == ("__debug__" : Str)) = false := by decide) : PE X (.Name x pos) (tC v) :=
 fun _ _ _ H _ I h => kF I hg hm hv ⟨v, H, I, r, h⟩ hn hd
variable {a b : Expr} {ta tb : TE}
def PC (X : Cx) (op : CmpOp) (a b : Expr) (t : TE) : Prop :=
 ∀ (pins : List (Addr × Obj)) (s : Shared) (σ : St) (H : Hp) (Q : VK), Inv X pins σ H s -> t σ H Q →
  wpAny (model X.prog X.w) X.A (eval a X.env) (fun v s₁ => wpAny (model X.prog X.w) X.A (eval b X.env) (fun u s₂ => wpAny (model X.prog X.w) X.A (compareOp op v u) (EP X pins σ Q) X.xe s₂) X.xe s₁) X.xe s
theorem nobehind b (h : op ≠ .In) (h2 : op ≠ .NotIn) : behindInMarks op b = false := by
 have e1 : (op == CmpOp.In) = false := by cases op <;> first | rfl | exact absurd rfl h
 have e2 : (op == CmpOp.NotIn) = false := by cases op <;> first | rfl | exact absurd rfl h2
 cases b <;> simp [behindInMarks, e1, e2]
def tNotN (ta : TE) : TE := fun σ H Q => ta σ H fun x H1 => Q (.bl (!decide (x = .non))) H1
theorem RelV.none_iff (r : RelV x v) : (v == Value.none) = decide (x = .non) := by
 cases x with
 | non => cases r; rfl
 | bl _ => cases r; rfl
 | int _ => obtain ⟨t, rfl⟩ := r; rfl
 | str _ => obtain ⟨t, rfl⟩ := r; rfl
 | byt _ => obtain ⟨t, rfl⟩ := r; rfl
 | flt _ => obtain ⟨t, rfl⟩ := r; rfl
 | ref _ => cases r; rfl
 | ty _ => cases r; rfl
theorem pc_notN {j pos'} (ha : PE X a ta) : PC X .IsNot a (.Constant .none j pos') (tNotN ta) := by
 intro pins s σ H Q I h
 refine thn (ha pins s σ H _ I h) fun v s1 zq => ?_
 obtain ⟨x, H1, I1, r1, q1⟩ := zq
 exact Constant_none (isnot_none_gen ⟨.bl _, H1, I1, by rw [r1.none_iff]; rfl, q1⟩)
def tB (t : TE) : TT := fun σ H Q => t σ H fun x H1 => ∃ c, x = .bl c /\ Q c H1
theorem pt_cmp (h : PC X op a b t) (h1 : behindInMarks op b = false := by first | exact nobehind _ (by decide) (by decide) | rfl) : PT X (.Compare a [op] [b] pos) (tB t) := by
 intro pins s σ H Q I hw
 refine wpAny_isTrue_Compare1 (thn (h pins s σ H _ I hw) fun v s1 h1 => thn h1 fun u s2 h2 => thn h2 fun c s3 zq => ?_) h1
 obtain ⟨x, H1, I1, r1, q1⟩ := zq
 obtain ⟨d, rfl, q⟩ := q1
 cases r1
 exact wpAny_truthy_bool ⟨H1, I1, q⟩
theorem pt_val (h : PE X e t) (he : ∀ whole, isTrue e X.env whole = (do let v <- whole; standAt e.pos; holding [v] (truthy v)) := by intro _; rfl) : PT X e (tB t) := by
 intro pins s σ H Q I hw
 refine isTrue_plain (thn (h pins s σ H _ I hw) fun v s1 zq => ?_) (he _)
 obtain ⟨x, H1, I1, r1, q1⟩ := zq
 obtain ⟨d, rfl, q⟩ := q1
 cases r1
 exact wpAny_truthy_bool ⟨H1, I1, q⟩
variable {rest : List Expr}
def tAnd (t u : TT) : TT := fun σ H Q => t σ H fun c H1 => if c = true then u σ H1 Q else Q false H1
def tOr (t u : TT) : TT := fun σ H Q => t σ H fun c H1 => if c = true then Q true H1 else u σ H1 Q
def tNot (t : TT) : TT := fun σ H Q => t σ H fun c H1 => Q (!c) H1
theorem pw_and1 (ha : PT X a tA) : PW X (.BoolOp .And [a] pos) tA := by
 intro wh pins s σ H Q I h
 refine isTrue_and (thn (ha pins s σ H Q I h) fun c s1 e => ?_)
 cases c with
 | true => exact isTrue_and_nil e
 | false => exact e
theorem pw_or1 (ha : PT X a tA) : PW X (.BoolOp .Or [a] pos) tA := by
 intro wh pins s σ H Q I h
 refine isTrue_or (thn (ha pins s σ H Q I h) fun c s1 e => ?_)
 cases c with
 | false => exact isTrue_or_nil e
 | true => exact e
theorem pw_and (ha : PT X a tA) (hb : PW X (.BoolOp .And (b :: rest) pos) tB') : PW X (.BoolOp .And (a :: b :: rest) pos) (tAnd tA tB') := by
 intro wh pins s σ H Q I h
 refine isTrue_and (thn (ha pins s σ H _ I h) fun c s1 zq => ?_)
 obtain ⟨H1, I1, q1⟩ := zq
 cases c with
 | true => exact hb wh pins s1 σ H1 Q I1 q1
 | false => exact ⟨H1, I1, q1⟩
theorem pw_or (ha : PT X a tA) (hb : PW X (.BoolOp .Or (b :: rest) pos) tB') : PW X (.BoolOp .Or (a :: b :: rest) pos) (tOr tA tB') := by
 intro wh pins s σ H Q I h
 refine isTrue_or (thn (ha pins s σ H _ I h) fun c s1 zq => ?_)
 obtain ⟨H1, I1, q1⟩ := zq
 cases c with
 | true => exact ⟨H1, I1, q1⟩
 | false => exact hb wh pins s1 σ H1 Q I1 q1
theorem pt_not (ha : PT X a tA) : PT X (.UnaryOp .Not a pos) (tNot tA) := by
 intro pins s σ H Q I h
 exact isTrue_not (ha pins s σ H (fun c H1 => Q (!c) H1) I h)
def tAndV (ta tb : TE) : TE := fun σ H Q => ta σ H fun x H1 => ∃ c, x = .bl c /\ if c = true then tb σ H1 Q else Q (.bl false) H1
def tOrV (ta tb : TE) : TE := fun σ H Q => ta σ H fun x H1 => ∃ c, x = .bl c /\ if c = true then Q (.bl true) H1 else tb σ H1 Q
theorem pe_one {op} (h : PE X a t) : PE X (.BoolOp op [a] pos) t := fun pins s σ H Q I hw => BoolOp_one (h pins s σ H Q I hw)
theorem pe_and (ha : PE X a ta) (hb : PE X (.BoolOp .And (b :: rest) pos) tb) : PE X (.BoolOp .And (a :: b :: rest) pos) (tAndV ta tb) := by
 intro pins s σ H Q I h
 refine BoolOp_and (thn (ha pins s σ H _ I h) fun v s1 zq => ?_)
 obtain ⟨x, H1, I1, r1, q1⟩ := zq
 obtain ⟨c, rfl, q1⟩ := q1
 cases r1
 refine wpAny_truthy_bool ?_
 cases c with
 | true => exact hb pins s1 σ H1 Q I1 q1
 | false => exact ⟨.bl false, H1, I1, rfl, q1⟩
theorem pe_or (ha : PE X a ta) (hb : PE X (.BoolOp .Or (b :: rest) pos) tb) : PE X (.BoolOp .Or (a :: b :: rest) pos) (tOrV ta tb) := by
 intro pins s σ H Q I h
 refine BoolOp_or (thn (ha pins s σ H _ I h) fun v s1 zq => ?_)
 obtain ⟨x, H1, I1, r1, q1⟩ := zq
 obtain ⟨c, rfl, q1⟩ := q1
 cases r1
 refine wpAny_truthy_bool ?_
 cases c with
 | false => exact hb pins s1 σ H1 Q I1 q1
 | true => exact ⟨.bl true, H1, I1, rfl, q1⟩
def tIf (t : TT) (ta tb : TE) : TE := fun σ H Q => t σ H fun c H1 => if c = true then ta σ H1 Q else tb σ H1 Q
theorem pe_ifExp (hc : PT X c tA) (ha : PE X a ta) (hb : PE X b tb) : PE X (.IfExp c a b pos) (tIf tA ta tb) := by
 intro pins s σ H Q I h
 refine wpAny_IfExp (thn (hc pins s σ H _ I h) fun d s1 zq => ?_)
 obtain ⟨H1, I1, q1⟩ := zq
 cases d with
 | true => exact ha pins s1 σ H1 Q I1 q1
 | false => exact hb pins s1 σ H1 Q I1 q1
end
def SqL (K : PySem.W.Frag) (H : Hp) (a : Addr) (xs : List V) : Prop :=
 Rd H a (.lst xs) ∨
  ∃ (o : Obj) (its : Array Value) (n : Nat), K.lookup a = some o /\ o.cls = .type "list" /\ o.dict = none /\ o.data = .seq its n /\ its.size <= sizeLine /\ Vals xs its.toList
def SqT (K : PySem.W.Frag) (H : Hp) (a : Addr) (xs : List V) : Prop :=
 Rd H a (.tup xs) ∨
  ∃ (o : Obj) (its : Array Value) (n : Nat), K.lookup a = some o /\ o.cls = .type "tuple" /\ o.data = .seq its n /\ its.size <= sizeLine /\ Vals xs its.toList
noncomputable def absV : Value -> Option V
 | .none => some .non
 | .bool b => some (.bl b)
 | .int i _ => some (.int i)
 | .str x _ => some (.str x)
 | .bytes b _ => some (.byt b)
 | .float b _ => some (.flt b)
 | .ref a => some (.ref a)
 | .type n => some (.ty n)
 | _ => none
theorem RelV.abs (r : RelV x u) : absV u = some x := by
 cases x with
 | non => cases r; rfl
 | bl _ => cases r; rfl
 | int _ => obtain ⟨t, rfl⟩ := r; rfl
 | str _ => obtain ⟨t, rfl⟩ := r; rfl
 | byt _ => obtain ⟨t, rfl⟩ := r; rfl
 | flt _ => obtain ⟨t, rfl⟩ := r; rfl
 | ref _ => cases r; rfl
 | ty _ => cases r; rfl
theorem RelV.inj (r : RelV x u) (q : RelV y u) : x = y := Option.some.inj (r.abs.symm.trans q.abs)
theorem Vals.inj : ∀ {xs ys : List V} {us : List Value}, Vals xs us -> Vals ys us -> xs = ys
 | _, _, _, .nil, .nil => rfl
 | _, _, _, .cons r t, .cons r' t' => by rw [r.inj r', Vals.inj t t']
section
theorem SqL.of {K : PySem.W.Frag} (h : H a = some (.lst xs)) : SqL K H a xs := .inl (.inl h)
theorem SqT.of {K : PySem.W.Frag} (h : H a = some (.tup xs)) : SqT K H a xs := .inl (.inl h)
theorem Inv.list (I : Inv X pins σ H s) (h : SqL X.K H a xs) : ∃ its : List Value, Vals xs its /\ PlainL s.heap a its.toArray /\ xs.length <= sizeLine := by
 rcases h with h | ⟨o, its, n, hk, hc, hd, hs, hz, r⟩
 · obtain ⟨z, its, n, r, e⟩ := h.ok I.hok
   exact ⟨its, r, ⟨_, n, e, rfl, rfl, rfl⟩, z⟩
 · refine ⟨its.toList, r, ⟨o, n, I.kIn a o hk, hc, hd, by simpa using hs⟩, ?_⟩
   have e := r.length
   simp [Array.length_toList] at e
   lia
theorem Inv.tuple (I : Inv X pins σ H s) (h : SqT X.K H a xs) : ∃ its, Vals xs its /\ IsTup s.heap a its.toArray /\ xs.length <= sizeLine := by
 rcases h with h | ⟨o, its, n, hk, hc, hs, hz, r⟩
 · obtain ⟨z, its, r, p⟩ := h.ok I.hok
   exact ⟨its, r, p, z⟩
 · refine ⟨its.toList, r, ⟨o, I.kIn a o hk, hc, n, by simpa using hs⟩, ?_⟩
   have e := r.length
   simp [Array.length_toList] at e
   lia
theorem Inv.list_inj (I : Inv X pins σ H s) (h : SqL X.K H a xs) (h' : SqL X.K H a ys) : xs = ys := by
 obtain ⟨its, r, ⟨o, n, e, _, _, d⟩, _⟩ := I.list h
 obtain ⟨its', r', ⟨o', n', e', _, _, d'⟩, _⟩ := I.list h'
 rw [e] at e'; cases e'
 rw [d] at d'
 injection d' with d1 _
 have : its = its' := by simpa using congrArg Array.toList d1
 subst this
 exact r.inj r'
theorem Inv.tuple_inj (I : Inv X pins σ H s) (h : SqT X.K H a xs) (h' : SqT X.K H a ys) : xs = ys := by
 obtain ⟨its, r, ⟨o, e, _, n, d⟩, _⟩ := I.tuple h
 obtain ⟨its', r', ⟨o', e', _, n', d'⟩, _⟩ := I.tuple h'
 rw [e] at e'; cases e'
 rw [d] at d'
 injection d' with d1 _
 have : its = its' := by simpa using congrArg Array.toList d1
 subst this
 exact r.inj r'
end
noncomputable abbrev Cx.wish (X : Cx) (E : Value -> Shared -> Prop) : Cx := { X with xe := E }
noncomputable abbrev Cx.nox (X : Cx) : Cx := X.wish fun _ _ => False
theorem Cx.Ok.wish {X : Cx} (ok : X.Ok) E : (X.wish E).Ok :=
 ⟨ok.mod, ok.kind, ok.glob, ok.blt, ok.above, ok.inj, ok.has, ok.cab, ok.hd, ok.frames, ok.stk, ok.exf, ok.bs, ok.bsz, ok.noex, ok.exfs, ok.funs, ok.frf⟩
theorem Cx.Ok.unwish {X : Cx} (ok : (X.wish E).Ok) : X.Ok :=
 ⟨ok.mod, ok.kind, ok.glob, ok.blt, ok.above, ok.inj, ok.has, ok.cab, ok.hd, ok.frames, ok.stk, ok.exf, ok.bs, ok.bsz, ok.noex, ok.exfs, ok.funs, ok.frf⟩
section
theorem Inv.wish (I : Inv X pins σ H s) E : Inv (X.wish E) pins σ H s := ⟨I.ok.wish E, I.os, I.bare, I.base, I.loc, I.cell, I.free, I.freeC, I.pin, I.hok, I.len⟩
theorem Inv.unwish (I : Inv (X.wish E) pins σ H s) : Inv X pins σ H s := ⟨I.ok.unwish, I.os, I.bare, I.base, I.loc, I.cell, I.free, I.freeC, I.pin, I.hok, I.len⟩
theorem SP.unwish (h : SP (X.wish E) pins D f s') : SP X pins D f s' := by
 cases f with
 | next => obtain ⟨σ', H', I, q⟩ := h; exact ⟨σ', H', I.unwish, q⟩
 | brk => obtain ⟨σ', H', I, q⟩ := h; exact ⟨σ', H', I.unwish, q⟩
 | cont => obtain ⟨σ', H', I, q⟩ := h; exact ⟨σ', H', I.unwish, q⟩
 | ret u => obtain ⟨v, σ', H', I, r, q⟩ := h; exact ⟨v, σ', H', I.unwish, r, q⟩
theorem PSs.nox {st : List Stmt} (h : PSs X.nox st t) : PSs X st t := fun pins s σ H D I hw =>
 wpAny_mono (h pins s σ H D (I.wish _) hw) (fun _ _ q => q.unwish) fun _ _ z => False.elim z
end
section
variable {st : Stmt} {rest : List Stmt} {t u : TS} {te : TE}
def tNext : TS := fun D σ H => D.nx σ H
def tSeq (t u : TS) : TS := fun D σ H => t { D with nx := u D } σ H
theorem pss_nil : PSs X [] tNext := fun _ _ σ H _ I h => wpAny_execs_nil ⟨σ, H, I, h⟩
theorem xT (h1 : PS X st t) (h2 : PSs X rest u) : PSs X (st :: rest) (tSeq t u) := by
 intro pins s σ H D I h
 refine wpAny_execs_cons (thn (h1 pins s σ H { D with nx := u D } I h) fun f s1 q => ?_)
 cases f with
 | next =>
   obtain ⟨σ', H', I', q⟩ := q
   exact h2 pins s1 σ' H' D I' q
 | ret v => exact q
 | brk => exact q
 | cont => exact q
theorem kA (h1 : PS X st t) : PSs X [st] t := by
 intro pins s σ H D I h
 refine wpAny_execs_cons (thn (h1 pins s σ H D I h) fun f s1 q => ?_)
 cases f with
 | next => exact wpAny_execs_nil q
 | ret v => exact q
 | brk => exact q
 | cont => exact q
def tCont : TS := fun D σ H => D.ct σ H
theorem ps_continue : PS X (.Continue pos) tCont := fun _ _ σ H _ I h => wpAny_Continue ⟨σ, H, I, h⟩
theorem Inv.quiet (I : Inv X pins σ H s) : interactive X.env = false := by simp [interactive, I.ok.kind]
def tDrop (te : TE) : TS := fun D σ H => te σ H fun _ H1 => D.nx σ H1
theorem yR (he : PE X e te) (hs : swapsWith e none pos.line X.env = pure false := by rfl) : PS X (.Expr e pos) (tDrop te) := by
 intro pins s σ H D I h
 exact wpAny_Expr_any (thn (he pins s σ H _ I h) fun v s1 ⟨x, H1, I1, r1, q1⟩ => ⟨σ, H1, I1, q1⟩) I.quiet hs
def tRet (te : TE) : TS := fun D σ H => te σ H D.rt
theorem vC (he : PE X e te) : PS X (.Return (some e) pos) (tRet te) := by
 intro pins s σ H D I h
 exact wpAny_Return_some (thn (he pins s σ H _ I h) fun v s1 ⟨x, H1, I1, r1, q1⟩ => ⟨x, σ, H1, I1, r1, q1⟩)
def tIfS (c : TT) (t u : TS) : TS := fun D σ H => c σ H fun b H1 => if b = true then t D σ H1 else u D σ H1
theorem ps_if (hc : PT X c tc) (ha : PSs X a t) (hb : PSs X b u) : PS X (.If c a b pos) (tIfS tc t u) := by
 intro pins s σ H D I h
 refine wpAny_If (thn (hc pins s σ H _ I h) fun d s1 zq => ?_)
 obtain ⟨H1, I1, q1⟩ := zq
 cases d with
 | true => exact ha pins s1 σ H1 D I1 q1
 | false => exact hb pins s1 σ H1 D I1 q1
def tNever : TS := fun _ _ _ => False
theorem ps_never : PS X st tNever := fun _ _ _ _ _ _ h => h.elim
theorem pss_never : PSs X sts tNever := fun _ _ _ _ _ _ h => h.elim
end
abbrev TG := V -> St -> Hp -> (St -> Hp -> Prop) -> Prop
abbrev TGs := List V -> St -> Hp -> (St -> Hp -> Prop) -> Prop
def PG (X : Cx) (target : Expr) (t : TG) : Prop :=
 ∀ (pins : List (Addr × Obj)) (s : Shared) (σ : St) (H : Hp) (v : V) (u : Value) (Q : St -> Hp -> Prop), Inv X pins σ H s -> RelV v u -> t v σ H Q →
  wpAny (model X.prog X.w) X.A (assign target X.env u) (fun _ s' => ∃ σ' H', Inv X pins σ' H' s' /\ Q σ' H') X.xe s
def PGs (X : Cx) (ts : List Expr) (t : TGs) : Prop :=
 ∀ (pins : List (Addr × Obj)) (s : Shared) (σ : St) (H : Hp) (vs : List V) (us : List Value) (Q : St -> Hp -> Prop), Inv X pins σ H s -> Vals vs us -> t vs σ H Q →
  wpAny (model X.prog X.w) X.A (assignInOrder ((assignEach ts X.env).map (·.2)) us) (fun _ s' => ∃ σ' H', Inv X pins σ' H' s' /\ Q σ' H') X.xe s
abbrev TSet := V -> V -> V -> Hp -> (Hp -> Prop) -> Prop
def PSet (X : Cx) (t : TSet) : Prop :=
 ∀ (pins : List (Addr × Obj)) (s : Shared) (σ : St) (H : Hp) (o i v : V) (ov iv u : Value) (Q : Hp -> Prop), Inv X pins σ H s -> RelV o ov -> RelV i iv -> RelV v u -> t o i v H Q →
  wpAny (model X.prog X.w) X.A (setItem ov iv u) (fun _ s' => ∃ H', Inv X pins σ H' s' /\ Q H') X.xe s
section
variable {X : Cx}
def gName (i : Nat) : TG := fun v σ H Q => Q (σ.set i (some v)) H
theorem pg_name (hN : X.N.Nodup) (hi : X.N[i]? = some x) (hx : Loc X.env.scope x) (hf : X.fn x = true \/ X.env.scope.names.lookup x = some .local := by first | exact .inl rfl | exact .inr rfl | assumption) : PG X (.Name x pos) (gName i) := by
 intro pins s σ H v u Q I r h
 exact wpAny_assign_Name (store_ok I hN hi hx r (fun s' I' => ⟨_, H, I', h⟩) hf)
def gNil : TGs := fun vs σ H Q => vs = [] /\ Q σ H
def gCons (t : TG) (u : TGs) : TGs := fun vs σ H Q => ∃ v r, vs = v :: r /\ t v σ H fun σ' H' => u r σ' H' Q
theorem pgs_nil : PGs X [] gNil := by
 intro pins s σ H vs us Q I r h
 obtain ⟨e, h⟩ := h
 subst e
 exact assignInOrder_nil ⟨σ, H, I, h⟩
theorem pgs_cons (h1 : PG X e t) (h2 : PGs X es u)
  (hs : (assignEach (e :: es) X.env).map (·.2) = assign e X.env :: (assignEach es X.env).map (·.2) := by rfl) : PGs X (e :: es) (gCons t u) := by
 intro pins s σ H vs us Q I r h
 obtain ⟨v, vr, e1, h⟩ := h
 subst e1
 cases r with
 | cons r rr =>
   rw [hs]
   refine assignInOrder_cons (thn (h1 pins s σ H _ _ _ I r h) fun _ s1 zq => ?_)
   obtain ⟨σ1, H1, I1, q1⟩ := zq
   exact h2 pins s1 σ1 H1 _ _ Q I1 rr q1
def gTup (K : PySem.W.Frag) (n : Nat) (t : TGs) : TG := fun v σ H Q => ∃ a xs, v = .ref a /\ SqT K H a xs /\ xs.length = n /\ t xs σ H Q
theorem pg_tup (hc : X.calm = true) (h : PGs X es t)
  (hn : (assignEach es X.env).length = n := by rfl) (hst : (assignEach es X.env).findIdx? (·.1) = none := by rfl) : PG X (.Tuple es k pos) (gTup X.K n t) := by
 intro pins s σ H v u Q I r hw
 obtain ⟨a, xs, e1, hq, hl, hw⟩ := hw
 subst e1
 cases r
 obtain ⟨its, rv, ht, hz⟩ := I.tuple hq
 refine assign_Tuple_tuple (I.ok.hd hc) ht (by simp [hn, <- hl, rv.length]) hst fun h' hx => ?_
 have I1 := I.kept (t' := s.toks) fun b o e => hx b o (Nat.ne_of_lt (Heap.lt_size e)) e
 exact h pins _ σ H xs _ Q I1 (by simpa using rv) hw
def gSub (to ti : TE) (t : TSet) : TG := fun v σ H Q => to σ H fun o H1 => ti σ H1 fun i H2 => t o i v H2 fun H3 => Q σ H3
theorem pg_sub (ho : PE X o to) (hi : PE X i ti) (hs : PSet X t)
  (ha : ∀ v, assign (.Subscript o i pos) X.env v = (do
    let ov <- holding [v] (eval o X.env)
    let iv <- holding [v, ov] (eval i X.env)
    standAt pos
    holding [v, ov, iv] (setItem ov iv v)
    release [v, ov, iv] []) := by intro _; rfl) : PG X (.Subscript o i pos) (gSub to ti t) := by
 intro pins s σ H v u Q I r h
 refine wpAny_bind (wpAny_holding (thn (ho pins s σ H _ I h) fun ov s1 zq => ?_))
 obtain ⟨x, H1, I1, r1, q1⟩ := zq
 refine wpAny_bind (wpAny_holding (thn (hi pins s1 σ H1 _ I1 q1) fun iv s2 zq => ?_))
 obtain ⟨y, H2, I2, r2, q2⟩ := zq
 refine wpAny_bind (wpAny_standAt (wpAny_bind (wpAny_holding (thn (hs pins s2 σ H2 x y v ov iv u _ I2 r1 r2 r q2) fun _ s3 zq => ?_))))
 obtain ⟨H3, I3, q3⟩ := zq
 exact wpAny_release ⟨σ, H3, I3, q3⟩
def tAsg (te : TE) (g : TG) : TS := fun D σ H => te σ H fun x H1 => g x σ H1 D.nx
theorem ps_asg (he : PE X e te) (hg : PG X tg g) (hs : swapsWithSole [tg] e pos.line X.env = pure false := by rfl) (hw : swappedStores [tg] e X.env = pure none := by rfl)
  (h1 : (assignEach [tg] X.env).map (·.2) = [assign tg X.env] := by rfl) : PS X (.Assign [tg] e pos) (tAsg te g) := by
 intro pins s σ H D I h
 refine wpAny_Assign_stores (thn (he pins s σ H _ I h) fun v s1 zq => ?_) hs hw
 obtain ⟨x, H1, I1, r1, q1⟩ := zq
 rw [h1]
 exact thn (hg pins s1 σ H1 x v _ I1 r1 q1) fun _ s2 q => q
theorem ps_set (hN : X.N.Nodup) (hi : X.N[i]? = some x) (hx : Loc X.env.scope x) (he : PE X e te) (hs : swapsWith e (some (.Name x pos')) pos.line X.env = pure false := by rfl) (hf : X.fn x = true \/ X.env.scope.names.lookup x = some .local := by first | exact .inl rfl | exact .inr rfl | assumption) :
  PS X (.Assign [.Name x pos'] e pos) (tAsg te (gName i)) := by
 intro pins s σ H D I h
 refine wpAny_Assign_Name (thn (he pins s σ H _ I h) fun v s1 zq => ?_) hs
 obtain ⟨y, H1, I1, r1, q1⟩ := zq
 exact store_ok I1 hN hi hx r1 (fun s2 I2 => ⟨_, H1, I2, q1⟩) hf
end
section
end
structure It where
 go : Nat -> Hp -> Prop
 yld : Nat -> Hp -> V -> Hp -> Prop
 stop : Nat -> Hp -> Prop
def FpOk (X : Cx) (pins : List (Addr × Obj)) (H : Hp) (b : Addr) : Prop :=
 H b = none /\ b ≠ X.env.locals /\ b ∉ X.fs /\ (b ∈ X.ex \/ X.s₀.heap.objs.size <= b) /\ (∀ x c, X.env.cells.lookup x = some c -> c ≠ b) /\ ∀ p ∈ X.pn ++ pins, p.1 ≠ b
theorem Inv.fpOk (I : Inv X pins σ H s) (hb : s.heap.objs.size <= b) (hn : H' b = none) : FpOk X pins H' b := by
 refine ⟨hn, Nat.ne_of_gt (Nat.lt_of_lt_of_le I.lt hb), I.nofs hb, .inr (Nat.le_trans I.sz hb), fun x c e z => ?_, fun p hp z => ?_⟩
 · obtain ⟨v, q⟩ := I.cell x c e
   exact absurd (Nat.lt_of_lt_of_le q.lt (by rw [z]; exact hb)) (Nat.lt_irrefl _)
 · exact absurd (Nat.lt_of_lt_of_le (Heap.lt_size (I.pin p hp).1) (by rw [z]; exact hb)) (Nat.lt_irrefl _)
structure Turn (P : Program) (w : World) (K : PySem.W.Frag) (tg : Expr) (J : It) (fp : List Addr) (it : Addr) (tn : Nat -> Heap -> Prop) (cm : Cx -> Prop := fun X => X.calm = true) : Prop where
 mem : it ∈ fp
 obj : ∀ i h, tn i h -> ∀ b ∈ fp, ∃ o, h.get? b = some o /\ ∀ v, o.data ≠ .cell v
 keep : ∀ i h h', tn i h -> (∀ b ∈ fp, ∀ o, h.get? b = some o -> h'.get? b = some o) -> tn i h'
 item : ∀ (X : Cx), X.prog = P -> X.w = w -> X.K = K -> cm X -> ∀ (i : Nat) (pins : List (Addr × Obj)) (s : Shared) (σ : St) (H : Hp) (E : Value -> Shared -> Prop), Inv X pins σ H s -> (∀ b ∈ fp, FpOk X pins H b) -> tn i s.heap -> J.go i H →
  wpAny (model P w) X.A (pyNext (.ref it)) (fun r s1 => ∃ u, r = some u ∧
   wpAny (model P w) X.A (letOwnedTupleGo tg (.ref it) u) (fun _ s2 => ∃ x H', Inv X pins σ H' s2 /\ RelV x u /\ J.yld i H x H' /\ tn (i + 1) s2.heap /\ ∀ b ∈ fp, H' b = none) E s1) E s
 done : ∀ (X : Cx), X.prog = P -> X.w = w -> X.K = K -> cm X -> ∀ (i : Nat) (pins : List (Addr × Obj)) (s : Shared) (σ : St) (H : Hp) (E : Value -> Shared -> Prop), Inv X pins σ H s -> (∀ b ∈ fp, FpOk X pins H b) -> tn i s.heap -> J.stop i H →
  wpAny (model P w) X.A (pyNext (.ref it)) (fun r s1 => r = none /\ Inv X pins σ H s1) E s
 self : ∀ (A : Around) (i : Nat) (s : Shared) (Q : Value -> Shared -> Prop) (E : Value -> Shared -> Prop), tn i s.heap -> Q (.ref it) s -> wpAny (model P w) A (pyIter (.ref it)) Q E s
abbrev TI := St -> Hp -> (It -> Hp -> Prop) -> Prop
def PIE (X : Cx) (pins : List (Addr × Obj)) (σ : St) (tg : Expr) (R : It -> Hp -> Prop) (cm : Cx -> Prop := fun X => X.calm = true) (itv : Value) (s2 : Shared) : Prop :=
 ∃ (it : Addr) (fp : List Addr) (tn : Nat -> Heap -> Prop) (J : It) (H' : Hp), itv = .ref it /\ Inv X pins σ H' s2 /\ Turn X.prog X.w X.K tg J fp it tn cm /\ tn 0 s2.heap /\ (∀ b ∈ fp, FpOk X pins H' b) /\ R J H'
def PI (X : Cx) (tg iter : Expr) (wi : TI) (cm : Cx -> Prop := fun X => X.calm = true) : Prop :=
 ∀ (pins : List (Addr × Obj)) (s : Shared) (σ : St) (H : Hp) (R : It -> Hp -> Prop), Inv X pins σ H s -> wi σ H R →
  wpAny (model X.prog X.w) X.A (eval iter X.env) (fun v s1 => wpAny (model X.prog X.w) X.A (pyIter v) (PIE X pins σ tg R cm) X.xe s1) X.xe s
theorem go_of (ho : s.heap.get? it = some o) (hc : o.cls = .type n) (hd : o.data = .fields vs)
  (hn : ["enumerate", "zip", "dict_itemiterator", "dict_reverseitemiterator", "odict_iterator", "itertools.zip_longest", "itertools.pairwise"].contains n = false) (hQ : Q () s) : wpAny M A (letOwnedTupleGo tg (.ref it) u) Q E s := by
 cases tg <;> first
  | exact wpAny_pure hQ
  | (cases u <;> first
      | exact wpAny_pure hQ
      | (refine wpAny_bind (wpAny_load ho ?_)
         rw [hc, hd]
         show wpAny M A (if (["enumerate", "zip", "dict_itemiterator", "dict_reverseitemiterator", "odict_iterator", "itertools.zip_longest", "itertools.pairwise"].contains n && vs[0]? == some (rawInt _)) = true then _ else _) Q E s
         rw [if_neg (by intro h; rw [hn, Bool.false_and] at h; cases h)]
         exact wpAny_pure hQ))
noncomputable def Itl (K : PySem.W.Frag) (a : Addr) : It :=
 ⟨fun i H => ∃ xs x, SqL K H a xs /\ xs[i]? = some x, fun i H x H' => H' = H /\ ∀ xs, SqL K H a xs -> xs[i]? = some x, fun i H => ∃ xs, SqL K H a xs /\ xs.length <= i⟩
noncomputable def Itt (K : PySem.W.Frag) (a : Addr) : It :=
 ⟨fun i H => ∃ xs x, SqT K H a xs /\ xs[i]? = some x, fun i H x H' => H' = H /\ ∀ xs, SqT K H a xs -> xs[i]? = some x, fun i H => ∃ xs, SqT K H a xs /\ xs.length <= i⟩
noncomputable def Itr (lo : Int) (n : Nat) : It := ⟨fun i _ => i < n, fun i H x H' => H' = H /\ x = .int (lo + i), fun i _ => n <= i⟩
theorem turn_list {P : Program} {w : World} {K : PySem.W.Frag} {tg : Expr} (a it : Addr) : Turn P w K tg (Itl K a) [it] it (fun i h => h.IsListIter it a i) where
 mem := by simp
 obj := fun i h st b hb => by
  have e : b = it := by simpa using hb
  subst e
  obtain ⟨o, e, c, d⟩ := st
  exact ⟨o, e, fun v z => by rw [d] at z; cases z⟩
 keep := fun i h h' st k => st.at fun o e => k it (by simp) o e
 item := by
  intro X hP hw hK hc i pins s σ H E I hf st hg
  subst hP hw hK
  obtain ⟨xs, x, hq, hx⟩ := hg
  obtain ⟨its, rv, p, hz⟩ := I.list hq
  obtain ⟨u, hu, ru⟩ := rv.get hx
  obtain ⟨f0, f1, f2, f3, f4, f5⟩ := hf it (by simp)
  refine wpAny_pyNext_list_item st p.isList (by simpa using hu) fun h' st' sb => ?_
  have I1 := I.turned (t' := s.toks) (fun b o hb e => (sb.2 b hb).trans e) f0 f1 f3 f4 f5
  obtain ⟨o, e, c, d⟩ := id st'
  exact ⟨u, rfl, go_of e c d (by decide) ⟨x, H, I1, ru, ⟨rfl, fun ys hy => by rw [I.list_inj hy hq]; exact hx⟩, st', fun b hb => (hf b hb).1⟩⟩
 done := by
  intro X hP hw hK hc i pins s σ H E I hf st hg
  subst hP hw hK
  obtain ⟨xs, hq, hx⟩ := hg
  obtain ⟨its, rv, p, hz⟩ := I.list hq
  obtain ⟨f0, f1, f2, f3, f4, f5⟩ := hf it (by simp)
  have hl := rv.length
  exact wpAny_pyNext_list_end (I.ok.hd hc) st p.isList (by simp; lia) fun h' eb => ⟨rfl, I.turned (fun b o hb e => eb b o hb e) f0 f1 f3 f4 f5⟩
 self := fun _ _ _ _ _ st h => wpAny_pyIter_listiter st h
theorem turn_tuple {P : Program} {w : World} {K : PySem.W.Frag} {tg : Expr} (a it : Addr) : Turn P w K tg (Itt K a) [it] it (fun i h => h.IsTupleIter it a i) where
 mem := by simp
 obj := fun i h st b hb => by
  have e : b = it := by simpa using hb
  subst e
  obtain ⟨o, e, c, d⟩ := st
  exact ⟨o, e, fun v z => by rw [d] at z; cases z⟩
 keep := fun i h h' st k => st.at fun o e => k it (by simp) o e
 item := by
  intro X hP hw hK hc i pins s σ H E I hf st hg
  subst hP hw hK
  obtain ⟨xs, x, hq, hx⟩ := hg
  obtain ⟨its, rv, p, hz⟩ := I.tuple hq
  obtain ⟨u, hu, ru⟩ := rv.get hx
  obtain ⟨f0, f1, f2, f3, f4, f5⟩ := hf it (by simp)
  refine wpAny_pyNext_tuple_item st (p) (by simpa using hu) fun h' st' sb => ?_
  have I1 := I.turned (t' := s.toks) (fun b o hb e => (sb.2 b hb).trans e) f0 f1 f3 f4 f5
  obtain ⟨o, e, c, d⟩ := id st'
  exact ⟨u, rfl, go_of e c d (by decide) ⟨x, H, I1, ru, ⟨rfl, fun ys hy => by rw [I.tuple_inj hy hq]; exact hx⟩, st', fun b hb => (hf b hb).1⟩⟩
 done := by
  intro X hP hw hK hc i pins s σ H E I hf st hg
  subst hP hw hK
  obtain ⟨xs, hq, hx⟩ := hg
  obtain ⟨its, rv, p, hz⟩ := I.tuple hq
  obtain ⟨f0, f1, f2, f3, f4, f5⟩ := hf it (by simp)
  have hl := rv.length
  exact wpAny_pyNext_tuple_end (I.ok.hd hc) st (p) (by simp; lia) fun h' eb => ⟨rfl, I.turned (fun b o hb e => eb b o hb e) f0 f1 f3 f4 f5⟩
 self := fun _ _ _ _ _ st h => wpAny_pyIter_tupleiter st h
theorem turn_range {P : Program} {w : World} {K : PySem.W.Frag} {tg : Expr} (it : Addr) (lo : Int) (n : Nat) : Turn P w K tg (Itr lo n) [it] it (fun i h => IsRangeIter h it (lo + (i : Nat) * 1) ((n : Int) - (i : Nat)) 1) where
 mem := by simp
 obj := fun i h st b hb => by
  have e : b = it := by simpa using hb
  subst e
  exact ⟨_, st, fun v z => by
   have z' := z
   cases z'⟩
 keep := fun i h h' st k => k it (by simp) _ st
 item := by
  intro X hP hw hK hc i pins s σ H E I hf st hg
  subst hP hw hK
  obtain ⟨f0, f1, f2, f3, f4, f5⟩ := hf it (by simp)
  have W := Walks.range (prog := X.prog) (w := X.w) (I.ok.hd hc) it lo 1 n
  refine W.item i s _ _ hg st fun v h' tk hv st' kk => ?_
  obtain ⟨t, rfl⟩ := hv
  have I1 : Inv X pins σ H { s with heap := h', toks := tk } := I.turned (fun b o hb e => kk b o (by simpa using hb) e) f0 f1 f3 f4 f5
  refine ⟨_, rfl, go_of st' rfl rfl (by decide) ⟨.int (lo + i), H, I1, ⟨t, ?_⟩, ⟨rfl, rfl⟩, st', fun b hb => (hf b hb).1⟩⟩
  rw [Int.mul_one]
 done := by
  intro X hP hw hK hc i pins s σ H E I hf st hg
  obtain ⟨f0, f1, f2, f3, f4, f5⟩ := hf it (by simp)
  exact wpAny_pyNext_range_end (I.ok.hd hc) st (by have : n <= i := hg; lia) fun h' eb => ⟨rfl, I.turned (fun b o hb e => eb b o hb e) f0 f1 f3 f4 f5⟩
 self := fun _ _ _ _ _ st h => wpAny_pyIter_rangeiter st h
section
def iList (K : PySem.W.Frag) (tl : TE) : TI := fun σ H R => tl σ H fun x H1 => ∃ a, x = .ref a /\ (∃ xs, SqL K H1 a xs) /\ R (Itl K a) H1
def iTup (K : PySem.W.Frag) (tl : TE) : TI := fun σ H R => tl σ H fun x H1 => ∃ a, x = .ref a /\ (∃ xs, SqT K H1 a xs) /\ R (Itt K a) H1
theorem pi_list (hl : PE X l tl) : PI X tg l (iList X.K tl) := by
 intro pins s σ H R I h
 refine thn (hl pins s σ H _ I h) fun v s1 zq => ?_
 obtain ⟨x, H1, I1, r1, q1⟩ := zq
 obtain ⟨a, e, ⟨xs, hq⟩, q⟩ := q1
 subst e
 cases r1
 obtain ⟨its, rv, p, hz⟩ := I1.list hq
 refine wpAny_pyIter_list p.isList ?_
 refine ⟨s1.heap.objs.size, [s1.heap.objs.size], _, _, H1, rfl, I1.kept fun b o e => Heap.get?_push_of_some _ e, turn_list a _, ⟨_, Heap.get?_push_size _ rfl, rfl, rfl⟩, fun b hb => ?_, q⟩
 have e : b = s1.heap.objs.size := by simpa using hb
 subst e
 exact I1.fpOk (Nat.le_refl _) (I1.hok.fresh (Nat.le_refl _))
theorem pi_tup (hl : PE X l tl) : PI X tg l (iTup X.K tl) := by
 intro pins s σ H R I h
 refine thn (hl pins s σ H _ I h) fun v s1 zq => ?_
 obtain ⟨x, H1, I1, r1, q1⟩ := zq
 obtain ⟨a, e, ⟨xs, hq⟩, q⟩ := q1
 subst e
 cases r1
 obtain ⟨its, rv, p, hz⟩ := I1.tuple hq
 refine wpAny_pyIter_tuple (p) ?_
 refine ⟨s1.heap.objs.size, [s1.heap.objs.size], _, _, H1, rfl, I1.kept fun b o e => Heap.get?_push_of_some _ e, turn_tuple a _, ⟨_, Heap.get?_push_size _ rfl, rfl, rfl⟩, fun b hb => ?_, q⟩
 have e : b = s1.heap.objs.size := by simpa using hb
 subst e
 exact I1.fpOk (Nat.le_refl _) (I1.hok.fresh (Nat.le_refl _))
theorem range_it {lo hi : Int} (I : Inv X pins σ H s) (h1 : -(2 ^ 62) <= lo) (h2 : lo < 2 ^ 62) (h3 : -(2 ^ 62) <= hi) (h4 : hi < 2 ^ 62)
  (q : R (Itr lo (hi - lo).toNat) H) : wpAny (model X.prog X.w) X.A (pyIter (.ref s.heap.objs.size)) (PIE X pins σ tg R) E { s with heap := s.heap.push { cls := .type "range", data := .fields #[.int lo t, .int hi u, .int 1 v] }, toks := tk } := by
 refine wpAny_pyIter_range (IsRange.new ..) (small_one h1 h2 h3 h4) ?_
 have I1 : Inv X pins σ H { s with heap := s.heap.push { cls := .type "range", data := .fields #[.int lo t, .int hi u, .int 1 v] }, toks := tk } := I.kept fun b o e => Heap.get?_push_of_some _ e
 refine ⟨(s.heap.push { cls := .type "range", data := .fields #[.int lo t, .int hi u, .int 1 v] }).objs.size, [(s.heap.push { cls := .type "range", data := .fields #[.int lo t, .int hi u, .int 1 v] }).objs.size], _, _, H, rfl,
  I1.kept fun b o e => Heap.get?_push_of_some _ e, turn_range _ lo (hi - lo).toNat, ?_, fun b hb => ?_, q⟩
 · have e1 : lo + ((0 : Nat) : Int) * 1 = lo := by simp
   have e2 : (((hi - lo).toNat : Nat) : Int) - ((0 : Nat) : Int) = Builtin.Range.rangeSize lo hi 1 := by rw [rangeSize_one]; split <;> lia
   rw [e1, e2]
   exact Heap.get?_push_size _ rfl
 · have e : b = (s.heap.push { cls := .type "range", data := .fields #[.int lo t, .int hi u, .int 1 v] }).objs.size := by simpa using hb
   subst e
   exact I1.fpOk (Nat.le_refl _) (I1.hok.fresh (Nat.le_refl _))
def iRng1 (ta : TA) : TI := fun σ H R => ta σ H fun vs H1 => ∃ j : Int, vs = [.int j] /\ -(2 ^ 62) <= j /\ j < 2 ^ 62 /\ R (Itr 0 j.toNat) H1
theorem pi_range1 (hg : Gl X "range") (hm : X.mg "range" = none) (ha : PA X [a] ta) (hs : starEach [a] X.env = [(false, eval a X.env)] := by rfl) : PI X tg (.Call (.Name "range" p) [a] [] pos) (iRng1 ta) := by
 intro pins s σ H R I h
 refine Call_ (kF I hg hm boot_range (PyProof.Rows.callWith_type1 (thn (ha pos pins s σ H _ I h) fun us s1 zq => ?_) hs rfl))
 obtain ⟨vs, H1, I1, r1, q1⟩ := zq
 obtain ⟨j, e, q1, q2, q⟩ := q1
 subst e
 cases r1 with
 | cons r rr =>
   cases rr
   obtain ⟨t, rfl⟩ := r
   exact call_range_1 (range_it I1 (by lia) (by lia) q1 q2 (by simpa using q))
def tFor (wi : TI) (g : TG) (tb : TS) : TS := fun D σ H => wi σ H fun J H1 => ∃ W : Nat -> Nat -> St -> Hp -> Prop, (∃ m, W 0 m σ H1) /\ ∀ i m σ H, W i m σ H →
 (J.stop i H /\ D.nx σ H) \/ (J.go i H /\ ∃ N : St -> Hp -> Prop, (∀ σ' H', N σ' H' -> ∃ m', m' < m /\ W (i + 1) m' σ' H') /\ ∀ x H', J.yld i H x H' -> g x σ H' fun σ2 H2 => tb { D with nx := N, ct := N, bk := D.nx } σ2 H2)
noncomputable def pinsAt (fp : List Addr) (h : Heap) : List (Addr × Obj) := fp.filterMap fun b => (h.get? b).map fun o => (b, o)
theorem yU (hb : b ∈ fp) (e : h.get? b = some o) : (b, o) ∈ pinsAt fp h := List.mem_filterMap.mpr ⟨b, hb, by rw [e]; rfl⟩
theorem of_pinsAt (hp : p ∈ pinsAt fp h) : p.1 ∈ fp /\ h.get? p.1 = some p.2 := by
 obtain ⟨b, hb, e⟩ := List.mem_filterMap.mp hp
 cases q : h.get? b with
 | none => rw [q] at e; cases e
 | some o =>
   rw [q] at e
   have e' := Option.some.inj e
   subst e'
   exact ⟨hb, q⟩
theorem Inv.pinned (I : Inv X pins σ H s) (hf : ∀ b ∈ fp, FpOk X pins H b) (ho : ∀ b ∈ fp, ∃ o, s.heap.get? b = some o /\ ∀ v, o.data ≠ .cell v) : Inv X (pins ++ pinsAt fp s.heap) σ H s :=
 I.pins_of fun p hp => (List.mem_append.mp hp).elim (fun z => I.pin p (List.mem_append_right _ z)) fun z => by
  obtain ⟨hb, e⟩ := of_pinsAt z
  obtain ⟨f0, f1, f2, _⟩ := hf p.1 hb
  obtain ⟨o, e', d⟩ := ho p.1 hb
  rw [e] at e'; cases e'
  exact ⟨e, f0, f1, f2, d⟩
theorem Inv.unpinned (I : Inv X (pins ++ pl) σ H s) : Inv X pins σ H s := I.pins_of fun p hp => I.pin p (List.mem_append_right _ (List.mem_append_left _ hp))
theorem ps_for {iter : Expr} (hp : PassesOwn (model X.prog X.w) X.A X.env X.xe) (hc : X.calm = true) (hi : PI X tg iter wi) (hg : PG X tg g) (hb : PSs X body tb)
  (hs : ∀ x, foldedSetIterable iter X.env x = pure x := by intro _; rfl) : PS X (.For tg iter body [] pos) (tFor wi g tb) := by
 intro pins s σ H D I h
 refine wpAny_For (thn (hi pins s σ H _ I h) fun v s1 h1 => thn h1 fun itv s2 h2 => ?_) hs
 obtain ⟨it, fp, tn, J, H2, e, I2, T, st2, f2, W, ⟨m0, w0⟩, turn⟩ := h2
 subst e
 have stat : ∀ {H' : Hp}, (∀ b ∈ fp, H' b = none) -> ∀ b ∈ fp, FpOk X pins H' b := fun hn b hb => ⟨hn b hb, (f2 b hb).2⟩
 refine codeAny_forLoop_any (fun n s' => ∃ i σ' H', Inv X pins σ' H' s' /\ tn i s'.heap /\ (∀ b ∈ fp, H' b = none) /\ W i n σ' H') ?_ m0 ⟨0, σ, H2, I2, st2, fun b hb => (f2 b hb).1, w0⟩
 rintro n s3 ⟨i, σ3, H3, I3, st3, fr3, w3⟩
 rcases turn i n σ3 H3 w3 with ⟨stop, qn⟩ | ⟨go, N, hN, step⟩
 · refine wpAny_passesOwn hp (thn (T.done X rfl rfl rfl hc i pins s3 σ3 H3 X.xe I3 (stat fr3) st3 stop) fun r s4 zq => ?_)
   obtain ⟨hr, I4⟩ := zq
   subst hr
   exact wpAny_execs_nil ⟨σ3, H3, I4, qn⟩
 · refine wpAny_passesOwn hp (thn (T.item X rfl rfl rfl hc i pins s3 σ3 H3 X.xe I3 (stat fr3) st3 go) fun r s4 zq => ?_)
   obtain ⟨u, hr, h4⟩ := zq
   subst hr
   refine wpAny_passesOwn hp (thn h4 fun _ s5 zq => ?_)
   obtain ⟨x, H5, I5, r5, y5, st5, fr5⟩ := zq
   have I5' := I5.pinned (stat fr5) (T.obj _ _ st5)
   refine wpAny_passesOwn hp (thn (hg _ s5 σ3 H5 x u _ I5' r5 (step x H5 y5)) fun _ s6 zq => ?_)
   obtain ⟨σ6, H6, I6, q6⟩ := zq
   refine wpAny_passesOwn hp (thn (hb _ s6 σ6 H6 _ I6 q6) fun f s7 q7 => ?_)
   have again : ∀ {σ7 : St} {H7 : Hp}, Inv X (pins ++ pinsAt fp s5.heap) σ7 H7 s7 -> N σ7 H7 -> ∃ m, m < n /\ ∃ i σ' H', Inv X pins σ' H' s7 /\ tn i s7.heap /\ (∀ b ∈ fp, H' b = none) /\ W i m σ' H' := fun {σ7 H7} I7 n7 => by
    obtain ⟨m', hm, w7⟩ := hN σ7 H7 n7
    refine ⟨m', hm, i + 1, σ7, H7, I7.unpinned, T.keep _ _ _ st5 fun b hb o e => (I7.pin (b, o) (List.mem_append_right _ (List.mem_append_right _ (yU hb e)))).1, fun b hb => ?_, w7⟩
    obtain ⟨o, e, d⟩ := T.obj _ _ st5 b hb
    exact (I7.pin (b, o) (List.mem_append_right _ (List.mem_append_right _ (yU hb e)))).2.1
   cases f with
   | next => obtain ⟨σ7, H7, I7, n7⟩ := q7; exact again I7 n7
   | cont => obtain ⟨σ7, H7, I7, n7⟩ := q7; exact again I7 n7
   | brk => obtain ⟨σ7, H7, I7, q7⟩ := q7; exact ⟨σ7, H7, I7.unpinned, q7⟩
   | ret v => obtain ⟨x7, σ7, H7, I7, r7, q7⟩ := q7; exact ⟨x7, σ7, H7, I7.unpinned, r7, q7⟩
end
abbrev R2 := V -> V -> Hp -> VK -> Prop
def OpR (X : Cx) (f : Value -> Value -> Sem Value) (r : R2) : Prop :=
 ∀ (pins : List (Addr × Obj)) (s : Shared) (σ : St) (H : Hp) (x y : V) (v u : Value) (Q : VK), Inv X pins σ H s -> RelV x v -> RelV y u -> r x y H Q →
  wpAny (model X.prog X.w) X.A (f v u) (EP X pins σ Q) X.xe s
def UnR (X : Cx) (f : Value -> Sem Value) (r : V -> Hp -> VK -> Prop) : Prop :=
 ∀ (pins : List (Addr × Obj)) (s : Shared) (σ : St) (H : Hp) (x : V) (v : Value) (Q : VK), Inv X pins σ H s -> RelV x v -> r x H Q →
  wpAny (model X.prog X.w) X.A (f v) (EP X pins σ Q) X.xe s
def CallR (X : Cx) (f : Value) (r : List V -> Hp -> VK -> Prop) : Prop :=
 ∀ (pins : List (Addr × Obj)) (s : Shared) (σ : St) (H : Hp) (xs : List V) (us : List Value) (Q : VK), Inv X pins σ H s -> Vals xs us -> r xs H Q →
  wpAny (model X.prog X.w) X.A (call f us) (EP X pins σ Q) X.xe s
def TruR (X : Cx) (r : V -> Hp -> (Bool -> Hp -> Prop) -> Prop) : Prop :=
 ∀ (pins : List (Addr × Obj)) (s : Shared) (σ : St) (H : Hp) (x : V) (v : Value) (Q : Bool -> Hp -> Prop), Inv X pins σ H s -> RelV x v -> r x H Q →
  wpAny (model X.prog X.w) X.A (truthy v) (TP X pins σ Q) X.xe s
def tOp (r : R2) (ta tb : TE) : TE := fun σ H Q => ta σ H fun x H1 => tb σ H1 fun y H2 => r x y H2 Q
def tUn (r : V -> Hp -> VK -> Prop) (ta : TE) : TE := fun σ H Q => ta σ H fun x H1 => r x H1 Q
noncomputable def rI (C : Int -> Int -> Prop) (g : Int -> Int -> V) : R2 := fun x y H Q => ∃ i j, x = .int i /\ y = .int j /\ C i j /\ Q (g i j) H
noncomputable def rI0 (g : Int -> Int -> V) : R2 := fun x y H Q => ∃ i j, x = .int i /\ y = .int j /\ Q (g i j) H
noncomputable def rU (g : Int -> V) : V -> Hp -> VK -> Prop := fun x H Q => ∃ i, x = .int i /\ Q (g i) H
section
theorem binT (ha : PE X a ta) (hb : PE X b tb) {R : V -> V -> Hp -> Prop} (I : Inv X pins σ H s)
  (h : ta σ H fun x H1 => tb σ H1 fun y H2 => R x y H2) {f : Value -> Value -> Sem Value}
  (hf : ∀ v u s2 x y H2, Inv X pins σ H2 s2 -> RelV x v -> RelV y u -> R x y H2 -> wpAny (model X.prog X.w) X.A (f v u) Q X.xe s2) :
  wpAny (model X.prog X.w) X.A (eval a X.env) (fun v s₁ => wpAny (model X.prog X.w) X.A (eval b X.env) (fun u s₂ => wpAny (model X.prog X.w) X.A (f v u) Q X.xe s₂) X.xe s₁) X.xe s := by
 refine thn (ha pins s σ H _ I h) fun v s1 zq => ?_
 obtain ⟨x, H1, I1, r1, q1⟩ := zq
 refine thn (hb pins s1 σ H1 _ I1 q1) fun u s2 zq => ?_
 obtain ⟨y, H2, I2, r2, q2⟩ := zq
 exact hf v u s2 x y H2 I2 r1 r2 q2
theorem pe_op (ho : OpR X (binaryOp op) r) (ha : PE X a ta) (hb : PE X b tb) : PE X (.BinOp a op b pos) (tOp r ta tb) := by
 intro pins s σ H Q I h
 exact wpAny_BinOp (binT ha hb I h fun v u s2 x y H2 I2 rx ry q => ho pins s2 σ H2 x y v u Q I2 rx ry q)
theorem pe_un (ho : UnR X (unaryOp op) r) (ha : PE X a ta) : PE X (.UnaryOp op a pos) (tUn r ta) := by
 intro pins s σ H Q I h
 exact UnaryOp_ (thn (ha pins s σ H _ I h) fun v s1 ⟨x, H1, I1, r1, q1⟩ => ho pins s1 σ H1 x v Q I1 r1 q1)
theorem opI {g : Int -> Int -> Int}
  (rule : ∀ i j t u s Q E, C i j -> Q (.int (g i j) s.toks) { s with toks := s.toks + 1 } -> wpAny (model X.prog X.w) X.A (f (.int i t) (.int j u)) Q E s) :
  OpR X f (rI C fun i j => .int (g i j)) := by
 intro pins s σ H x y v u Q I rx ry h
 obtain ⟨i, j, rfl, rfl, hc, q⟩ := h
 obtain ⟨t, rfl⟩ := rx
 obtain ⟨t', rfl⟩ := ry
 exact rule i j t t' s _ _ hc ⟨.int (g i j), H, I.tok _, ⟨_, rfl⟩, q⟩
theorem opI0 {g : Int -> Int -> Int}
  (rule : ∀ i j t u s Q E, Q (.int (g i j) s.toks) { s with toks := s.toks + 1 } -> wpAny (model X.prog X.w) X.A (f (.int i t) (.int j u)) Q E s) :
  OpR X f (rI0 fun i j => .int (g i j)) := by
 intro pins s σ H x y v u Q I rx ry h
 obtain ⟨i, j, rfl, rfl, q⟩ := h
 obtain ⟨t, rfl⟩ := rx
 obtain ⟨t', rfl⟩ := ry
 exact rule i j t t' s _ _ ⟨.int (g i j), H, I.tok _, ⟨_, rfl⟩, q⟩
theorem opB0 {g : Int -> Int -> Bool}
  (rule : ∀ i j t u s Q E, Q (.bool (g i j)) s -> wpAny (model X.prog X.w) X.A (f (.int i t) (.int j u)) Q E s) :
  OpR X f (rI0 fun i j => .bl (g i j)) := by
 intro pins s σ H x y v u Q I rx ry h
 obtain ⟨i, j, rfl, rfl, q⟩ := h
 obtain ⟨t, rfl⟩ := rx
 obtain ⟨t', rfl⟩ := ry
 exact rule i j t t' s _ _ ⟨.bl (g i j), H, I, rfl, q⟩
theorem op_add : OpR X (binaryOp .Add) (rI0 fun i j => .int (i + j)) := opI0 fun _ _ _ _ _ _ _ q => add_int q
theorem op_sub : OpR X (binaryOp .Sub) (rI0 fun i j => .int (i - j)) := opI0 fun _ _ _ _ _ _ _ q => sub_int q
theorem op_mod : OpR X (binaryOp .Mod) (rI (fun _ j => 0 < j) fun i j => .int (i % j)) := opI fun i j _ _ _ _ _ hc q => by
 exact mod_int' (by lia) (by rw [Int.fmod_eq_emod_of_nonneg i (by lia)]; exact q)
theorem unI {g : Int -> Int}
  (rule : ∀ i t s Q E, Q (.int (g i) s.toks) { s with toks := s.toks + 1 } -> wpAny (model X.prog X.w) X.A (f (.int i t)) Q E s) :
  UnR X f (rU fun i => .int (g i)) := by
 intro pins s σ H x v Q I rx h
 obtain ⟨i, rfl, q⟩ := h
 obtain ⟨t, rfl⟩ := rx
 exact rule i t s _ _ ⟨.int (g i), H, I.tok _, ⟨_, rfl⟩, q⟩
theorem un_neg : UnR X (unaryOp .USub) (rU fun i => .int (-i)) := unI fun _ _ _ _ _ q => neg_int q
end
section
variable {a b c : Expr} {ta tb tc : TE}
theorem fin_bl (I : Inv X pins σ H s) (q : Q (.bl k) H) (e : k = k') : EP X pins σ Q (.bool k') s := by
 subst e
 exact ⟨.bl k, H, I, rfl, q⟩
theorem op_lt : OpR X (compareOp .Lt) (rI0 fun i j => .bl (decide (i < j))) := opB0 fun _ _ _ _ _ _ _ q => lt_int q
theorem op_le : OpR X (compareOp .LtE) (rI0 fun i j => .bl (decide (i <= j))) := opB0 fun _ _ _ _ _ _ _ q => le_int q
theorem op_gt : OpR X (compareOp .Gt) (rI0 fun i j => .bl (decide (j < i))) := opB0 fun _ _ _ _ _ _ _ q => gt_int q
theorem op_isN : OpR X (compareOp .Is) (fun x y H Q => y = .non /\ Q (.bl (decide (x = .non))) H) := by
 intro pins s σ H x y v u Q I rx ry h
 obtain ⟨rfl, q⟩ := h
 cases ry
 refine is_none_gen (fin_bl I q ?_)
 cases x <;> first
  | (cases rx; rfl)
  | (obtain ⟨t, rfl⟩ := rx; rfl)
theorem op_notN : OpR X (compareOp .IsNot) (fun x y H Q => y = .non /\ Q (.bl (!decide (x = .non))) H) := by
 intro pins s σ H x y v u Q I rx ry h
 obtain ⟨rfl, q⟩ := h
 cases ry
 refine isnot_none_gen (fin_bl I q ?_)
 cases x <;> first
  | (cases rx; rfl)
  | (obtain ⟨t, rfl⟩ := rx; rfl)
theorem OpR.or (h : OpR X f r) (h' : OpR X f r') : OpR X f (fun x y H Q => r x y H Q \/ r' x y H Q) := by
 intro pins s σ H x y v u Q I rx ry q
 rcases q with q | q
 · exact h pins s σ H x y v u Q I rx ry q
 · exact h' pins s σ H x y v u Q I rx ry q
theorem nomark b (h : op ≠ .In := by decide) (h2 : op ≠ .NotIn := by decide) : behindInMarks op b = false := by
 have e1 : (op == CmpOp.In) = false := by cases op <;> first | rfl | exact absurd rfl h
 have e2 : (op == CmpOp.NotIn) = false := by cases op <;> first | rfl | exact absurd rfl h2
 cases b <;> simp [behindInMarks, e1, e2]
theorem pe_cmpR (ho : OpR X (compareOp op) r) (ha : PE X a ta) (hb : PE X b tb) (hm : behindInMarks op b = false) : PE X (.Compare a [op] [b] pos) (tOp r ta tb) := by
 intro pins s σ H Q I h
 exact wpAny_Compare1 (binT ha hb I h fun v u s2 x y H2 I2 rx ry q => ho pins s2 σ H2 x y v u Q I2 rx ry q) hm
def tTest (t : TE) : TT := fun σ H Q => t σ H fun x H' => ∃ k, x = .bl k /\ Q k H'
theorem pt_cmpR (ho : OpR X (compareOp op) r) (ha : PE X a ta) (hb : PE X b tb) (hm : behindInMarks op b = false) : PT X (.Compare a [op] [b] pos) (tTest (tOp r ta tb)) := by
 intro pins s σ H Q I h
 refine wpAny_isTrue_Compare1 (thn (ha pins s σ H _ I h) fun v s1 ⟨x, H1, I1, r1, q1⟩ => thn (hb pins s1 σ H1 _ I1 q1) fun u s2 ⟨y, H2, I2, r2, q2⟩ =>
  thn (ho pins s2 σ H2 x y v u _ I2 r1 r2 q2) fun c s3 ⟨z, H3, I3, r3, k, e, q3⟩ => ?_) hm
 subst e
 cases r3
 exact wpAny_truthy_bool ⟨H3, I3, q3⟩
def TruV (K : PySem.W.Frag) (x : V) (H : Hp) (k : Bool) : Prop :=
 match x with
 | .non => k = false
 | .bl b => k = b
 | .int i => k = (i != 0)
 | .str y => y.length <= sizeLine /\ k = ((y.length : Int) != 0)
 | .byt y => y.size <= sizeLine /\ k = ((y.size : Int) != 0)
 | .ref p => (∃ xs, SqL K H p xs /\ k = !xs.isEmpty) \/ (∃ xs, SqT K H p xs /\ k = !xs.isEmpty) \/ ∃ kvs, H p = some (.dK kvs) /\ k = !kvs.isEmpty
 | _ => False
theorem isEmpty_kv (r : KV kvs vs) : (!vs.isEmpty) = !kvs.isEmpty := by
 cases r <;> rfl
theorem isEmpty_of (r : Vals xs its) : (!its.toArray.isEmpty) = !xs.isEmpty := by
 cases r <;> simp
theorem line63 : (sizeLine : Nat) < 2 ^ 63 := by rw [sizeLine_eq]; decide
theorem tru_ok : TruR X (fun x H Q => ∃ k, TruV X.K x H k /\ Q k H) := by
 intro pins s σ H x v Q I rx h
 obtain ⟨k, e, q⟩ := h
 have hs := sizeLine_eq
 cases x with
 | non =>
   cases rx
   have e' := e
   subst e'
   exact truthy_none ⟨H, I, q⟩
 | bl b =>
   cases rx
   have e' := e
   subst e'
   exact wpAny_truthy_bool ⟨H, I, q⟩
 | int i =>
   obtain ⟨t, rfl⟩ := rx
   have e' := e
   subst e'
   exact PySem.P.truthy_int ⟨H, I, q⟩
 | str y =>
   obtain ⟨t, rfl⟩ := rx
   obtain ⟨hy, e'⟩ := e
   subst e'
   exact PySem.P.truthy_str (by lia) ⟨H, I.tok _, q⟩
 | byt y =>
   obtain ⟨t, rfl⟩ := rx
   obtain ⟨hy, e'⟩ := e
   subst e'
   exact PySem.W.truthy_bytes (by lia) ⟨H, I.tok _, q⟩
 | ref p =>
   cases rx
   have e' := e
   rcases e' with ⟨xs, hx, e'⟩ | ⟨xs, hx, e'⟩ | ⟨kvs, hx, e'⟩
   · subst e'
     obtain ⟨its, r, pl, hz⟩ := I.list hx
     have hlen := r.length
     exact wpAny_truthy_list pl.isList (by simp [List.size_toArray]; lia) ⟨H, I.tok _, by rw [isEmpty_of r]; exact q⟩
   · subst e'
     obtain ⟨its, r, pl, hz⟩ := I.tuple hx
     have hlen := r.length
     exact truthy_tuple pl (by simp [List.size_toArray]; lia) ⟨H, I.tok _, by rw [isEmpty_of r]; exact q⟩
   · subst e'
     obtain ⟨hz, hS, vs, r, m⟩ := I.hok p _ hx
     have hlen := Paired.length r
     exact wpAny_truthy_dict hS m (by lia) ⟨H, I.tok _, by rw [isEmpty_kv r]; exact q⟩
 | _ => exact (e).elim
theorem pt_truth (ha : PE X a ta) (he : ∀ whole, isTrue a X.env whole = (do let v <- whole; standAt a.pos; holding [v] (truthy v))) :
  PT X a (fun σ H Q => ta σ H fun x H' => ∃ k, TruV X.K x H' k /\ Q k H') := by
 intro pins s σ H Q I h
 exact isTrue_plain (thn (ha pins s σ H _ I h) fun v s1 ⟨x, H1, I1, r1, q1⟩ => tru_ok pins s1 σ H1 x v Q I1 r1 q1) (he _)
theorem op_add_str : OpR X (binaryOp .Add) (fun x y H Q => ∃ i j, x = .str i /\ y = .str j /\ i.length + j.length <= sizeLine /\ Q (.str (i ++ j)) H) := by
 intro pins s σ H x y v u Q I rx ry h
 obtain ⟨i, j, rfl, rfl, hz, q⟩ := h
 obtain ⟨t, rfl⟩ := rx
 obtain ⟨t', rfl⟩ := ry
 exact add_str (fun t' tk => ⟨.str (i ++ j), H, I.tok _, ⟨_, rfl⟩, q⟩) hz
theorem vals1 (r : Vals [x] us) : ∃ u, us = [u] /\ RelV x u := by
 cases r with
 | cons r1 r2 => cases r2; exact ⟨_, rfl, r1⟩
theorem vals2 (r : Vals [x, y] us) : ∃ u w', us = [u, w'] /\ RelV x u /\ RelV y w' := by
 cases r with
 | cons r1 r2 =>
   cases r2 with
   | cons r3 r4 => cases r4; exact ⟨_, _, rfl, r1, r3⟩
theorem call_max2 (hc : X.calm = true) : CallR X (.builtin "max") (fun xs H Q => ∃ i j, xs = [.int i, .int j] /\ Q (.int (if j > i then j else i)) H) := by
 intro pins s σ H xs us Q I r h
 obtain ⟨i, j, rfl, q⟩ := h
 obtain ⟨u, w', rfl, ⟨t, rfl⟩, ⟨t', rfl⟩⟩ := vals2 r
 refine max_two_ints (I.ok.hd hc) fun h' tk k => ⟨_, H, I.kept k, ?_, q⟩
 by_cases hj : j > i
 · rw [if_pos hj, if_pos hj]; exact ⟨_, rfl⟩
 · rw [if_neg hj, if_neg hj]; exact ⟨_, rfl⟩
theorem call_min2 (hc : X.calm = true) : CallR X (.builtin "min") (fun xs H Q => ∃ i j, xs = [.int i, .int j] /\ Q (.int (if j < i then j else i)) H) := by
 intro pins s σ H xs us Q I r h
 obtain ⟨i, j, rfl, q⟩ := h
 obtain ⟨u, w', rfl, ⟨t, rfl⟩, ⟨t', rfl⟩⟩ := vals2 r
 refine min_two_ints (I.ok.hd hc) fun h' tk k => ⟨_, H, I.kept k, ?_, q⟩
 by_cases hj : j < i
 · rw [if_pos hj, if_pos hj]; exact ⟨_, rfl⟩
 · rw [if_neg hj, if_neg hj]; exact ⟨_, rfl⟩
end
structure ObjM (h : Heap) (x dx C : Addr) (mA : Str -> Option Value) : Prop where
 obj : h.get? x = some (PySem.W.instObj C dx)
 ns : h.Ns1 dx mA
 ne : dx ≠ x
theorem lookIn_ns {h : Heap} (n : h.Ns1 dx mA) : ∃ od, h.get? dx = some od /\ ∀ name, PySem.W.lookIn name od = some (mA name) := by
 obtain ⟨o, es, ep, ho, hd, hk, _, hm⟩ := n
 refine ⟨o, ho, fun name => ?_⟩
 have e := hm name
 unfold nsFind findBy at e
 rw [<- Array.find?_toList] at e
 unfold PySem.W.lookIn
 rw [hd]
 dsimp only
 split
 · rename_i y q
   rw [q] at e
   exact congrArg some e
 · rename_i q
   rw [q] at e
   have a : es.toList.any (·.refKey) = false := by
    rw [List.any_eq_false]
    intro y hy
    obtain ⟨z, t, hkey⟩ := hk y (Array.mem_toList_iff.mp hy)
    simp [DictEntry.refKey, hkey]
   have a' : ¬ es.toList.any (·.refKey) = true := by rw [a]; exact Bool.false_ne_true
   rw [if_neg a']
   exact congrArg some e
theorem ObjM.look (I : ObjM h x dx C mA) : ∃ od, PySem.W.InstAt h x (PySem.W.instObj C dx) C (some od) /\ ∀ name, PySem.W.lookIn name od = some (mA name) :=
 let ⟨od, ho, hl⟩ := lookIn_ns I.ns
 ⟨od, ⟨I.obj, rfl, rfl, ho⟩, hl⟩
section
variable {K : PySem.W.Frag}
theorem get_map (X : K.In s.heap) (I : ObjM s.heap x dx C mA) (hg : PySem.W.plainGet K C name = true) (hh : PySem.W.hasDictIn K C = true)
  (ha : PySem.W.findIn K (.ref C) name = some none) (hv : mA name = some v) (hv' : PySem.W.handedIn v = true) (h : Q v { s with toks := s.toks + 1 }) :
  wpAny (model prog w) A (getAttr (.ref x) name expr) Q E s := by
 obtain ⟨od, J, hl⟩ := I.look
 exact PySem.W.get_value X J (PySem.W.plainGet_of hg).1 (PySem.W.findObj_own hh ha rfl (by rw [hl, hv])) hv' h
theorem get_meth (X : K.In s.heap) (I : ObjM s.heap x dx C mA) (hg : PySem.W.plainGet K C name = true)
  (hf : PySem.W.findIn K (.ref C) name = some (some (.ref f))) (ht : PySem.W.isFn K (.ref f) = true) (hv : mA name = none) (h : Q (.ref f, [.ref x]) s) :
  wpAny (model prog w) A (getMethod (.ref x) name pl) Q E s := by
 obtain ⟨od, J, hl⟩ := I.look
 exact PySem.W.method_fn X J (PySem.W.plainGet_of hg).1 (PySem.W.plainGet_of hg).2 hf (beq_iff_eq.mp ht) (by show (PySem.W.lookIn name od).map (·.isSome) = some false; rw [hl, hv]; rfl) h
theorem set_map (X : K.In s.heap) (I : ObjM s.heap x dx C mA)
  (hs : PySem.W.findIn K (.ref C) "__setattr__" = some (some (.builtin "object.__setattr__"))) (hp : PySem.W.plainOver K C = true) (ht : PySem.W.takerIn K C name = some none) (hh : PySem.W.hasDictIn K C = true)
  (hw : PySem.Within mA ns) (hsz : ns.length <= sizeLine)
  (h : ∀ h', ObjM h' x dx C (fun y => if y = name then some v else mA y) -> Heap.SameBut dx s.heap h' -> Q () { s with heap := h', toks := s.toks + 2 }) :
  wpAny (model prog w) A (setAttr (.ref x) name v) Q E s := by
 obtain ⟨od, J, hl⟩ := I.look
 refine PySem.W.set_plain X J hs (PySem.W.osa_open X J hp ht fun b => ?_)
 obtain ⟨cd, hc, hd'⟩ := PySem.W.any_some hh
 have hx := I.obj
 refine wpAny_bind (wpAny_pure (wpAny_bind (wpAny_bind (wpAny_loadPart hx (wpAny_bind (PySem.W.Looks.here (PySem.W.looks_clsIn X hc) ?_))))))
 rw [hd']
 refine wpAny_pure (wpAny_bind (wpAny_pure (wpAny_bind ?_)))
 refine wpAny_nsSet1 I.ns fun h' hn2 hs2 => ?_
 obtain ⟨oD, esD, epD, hoD, hdD, hcD⟩ := hn2.count (PySem.Within.cons name v hw)
 refine wpAny_bind (wpAny_lookBehind hoD (by rw [hdD]; exact pastItsLine_dict (Nat.le_trans hcD (by rw [List.length_cons]; lia))) ?_)
 exact wpAny_pure (h _ ⟨(hs2.2 _ (Ne.symm I.ne)).trans I.obj, hn2, I.ne⟩ hs2)
theorem make_map (X : K.In s.heap) (hm : PySem.W.makesIn K C = true)
  (hi : PySem.W.findIn K (.ref C) "__init__" = some (some (.ref f))) (hf : PySem.W.typeIn K (.ref f) = some (.type "function"))
  (h : codeAny (model prog w) (A.under (.builtin "type.__call__" ⟨.ref C :: vs, kw⟩)) (.call (.ref f) ⟨.ref (s.heap.objs.size + 1) :: vs, kw⟩) (PySem.W.InitBack (s.heap.objs.size + 1) R)
    { s with heap := (s.heap.push PySem.W.emptyDict).push (PySem.W.instObj C s.heap.objs.size) }) :
  codeAny (model prog w) A (.call (.ref C) ⟨vs, kw⟩) R s := by
 exact PySem.W.make_core (PySem.W.makes_of X hm) (PySem.W.looks_findIn X hi) (fun self => PySem.W.bind_fn X self hf) (.inl rfl) h
end
noncomputable def putF (f : Str) (v : V) : List (Str × V) -> List (Str × V)
 | [] => [(f, v)]
 | (g, x) :: r => if g = f then (g, v) :: r else (g, x) :: putF f v r
theorem lookup_putF f g v : ∀ fs, (putF f v fs).lookup g = if g = f then some v else fs.lookup g
 | [] => by
   show List.lookup g [(f, v)] = _
   by_cases h : g = f
   · have hb : (g == f) = true := beq_iff_eq.mpr h
     simp only [List.lookup, hb, if_pos h]
   · have hb : (g == f) = false := beq_eq_false_iff_ne.mpr h
     simp only [List.lookup, hb, if_neg h]
 | (k, x) :: r => by
   have ih := lookup_putF f g v r
   rw [show putF f v ((k, x) :: r) = (if k = f then (k, v) :: r else (k, x) :: putF f v r) from rfl]
   by_cases hk : k = f
   · rw [if_pos hk]
     by_cases h : g = k
     · have hb : (g == k) = true := beq_iff_eq.mpr h
       simp only [List.lookup, hb, if_pos (h.trans hk)]
     · have hb : (g == k) = false := beq_eq_false_iff_ne.mpr h
       simp only [List.lookup, hb, if_neg (fun e : g = f => h (e.trans hk.symm))]
   · rw [if_neg hk]
     by_cases h : g = k
     · have hb : (g == k) = true := beq_iff_eq.mpr h
       simp only [List.lookup, hb, if_neg (fun e : g = f => hk (h.symm.trans e))]
     · have hb : (g == k) = false := beq_eq_false_iff_ne.mpr h
       simp only [List.lookup, hb]
       exact ih
theorem wV f v : ∀ fs, f ∈ (putF f v fs).map (·.1) /\ ∀ g, g ∈ fs.map (·.1) -> g ∈ (putF f v fs).map (·.1)
 | [] => ⟨by simp [putF], fun g h => by simp at h⟩
 | (k, x) :: r => by
   obtain ⟨i1, i2⟩ := wV f v r
   rw [show putF f v ((k, x) :: r) = (if k = f then (k, v) :: r else (k, x) :: putF f v r) from rfl]
   by_cases hk : k = f
   · rw [if_pos hk]
     subst hk
     exact ⟨by simp, fun g h => by simpa using h⟩
   · rw [if_neg hk]
     refine ⟨?_, fun g h => ?_⟩
     · rw [List.map_cons]
       exact List.mem_cons_of_mem _ i1
     · rw [List.map_cons] at h ⊢
       rcases List.mem_cons.mp h with e | e
       · exact List.mem_cons.mpr (.inl e)
       · exact List.mem_cons_of_mem _ (i2 g e)
theorem xA f v : ∀ fs, (putF f v fs).length <= fs.length + 1
 | [] => by simp [putF]
 | (k, x) :: r => by
   have ih := xA f v r
   rw [show putF f v ((k, x) :: r) = (if k = f then (k, v) :: r else (k, x) :: putF f v r) from rfl]
   by_cases hk : k = f
   · rw [if_pos hk, List.length_cons, List.length_cons]; omega
   · rw [if_neg hk, List.length_cons, List.length_cons]; omega
theorem RelO.some_of (r : RelO (some v) o) : ∃ u, o = some u /\ RelV v u := by
 cases o with
 | none => exact (r).elim
 | some u => exact ⟨u, rfl, r⟩
theorem RelO.none_of (r : RelO none o) : o = none := by
 cases o with
 | none => rfl
 | some u => exact (r).elim
theorem handed_of (r : RelV v u) : PySem.W.handedIn u = true := by
 cases v with
 | non => cases (r); rfl
 | bl b => cases (r); rfl
 | int i => obtain ⟨t, e⟩ := (r); cases e; rfl
 | str x => obtain ⟨t, e⟩ := (r); cases e; rfl
 | byt b => obtain ⟨t, e⟩ := (r); cases e; rfl
 | flt b => obtain ⟨t, e⟩ := (r); cases e; rfl
 | ref a => cases (r); rfl
 | ty n => cases (r); rfl
section
theorem kC (hok : HOk P w H h) (e : H a = some (.ins C dx fs)) : ∃ mA, ObjM h a dx C mA /\ (∀ f, RelO (fs.lookup f) (mA f)) /\ PySem.Within mA (fs.map (·.1)) /\ fs.length <= 1000 /\ H dx = some (.own a) := by
 obtain ⟨d, z, ne, ob, mA, n, r, q⟩ := (hok a _ e)
 exact ⟨mA, ⟨ob, n, ne⟩, r, q, z, d⟩
end
structure Cls (K : PySem.W.Frag) (C : Addr) : Prop where
 pg : PySem.W.plainGet K C Str.empty = true
 hd : PySem.W.hasDictIn K C = true
 po : PySem.W.plainOver K C = true
 sa : PySem.W.findIn K (.ref C) "__setattr__" = some (some (.builtin "object.__setattr__"))
theorem Cls.get {K : PySem.W.Frag} (c : Cls K C) f : PySem.W.plainGet K C f = true := c.pg
def NoAttr (K : PySem.W.Frag) (C : Addr) (f : Str) : Prop := PySem.W.findIn K (.ref C) f = some none
theorem NoAttr.taker {K : PySem.W.Frag} (n : NoAttr K C f) : PySem.W.takerIn K C f = some none := by
 unfold PySem.W.takerIn
 rw [show PySem.W.findIn K (.ref C) f = some none from n]
 rfl
structure Meth (K : PySem.W.Frag) (C : Addr) (m : Str) (f : Addr) : Prop where
 at_ : PySem.W.findIn K (.ref C) m = some (some (.ref f))
 fn : PySem.W.isFn K (.ref f) = true
 kp : PySem.W.keepIn K (.ref f) = true
section
theorem getattr_ok (I : Inv X pins σ H s) (e : H a = some (.ins C dx fs)) (c : Cls X.K C) (n : NoAttr X.K C f) (l : fs.lookup f = some v)
  (h : ∀ u s', Inv X pins σ H s' -> RelV v u -> Q u s') : wpAny (model X.prog X.w) A (getAttr (.ref a) f b) Q E s := by
 obtain ⟨mA, O, r, _, _, _⟩ := kC I.hok e
 obtain ⟨u, hu, ru⟩ := RelO.some_of (by rw [<- l]; exact r f)
 exact get_map I.kIn O (c.get f) c.hd n hu (handed_of ru) (h u _ (I.tok _) ru)
theorem getmeth_ok (I : Inv X pins σ H s) (e : H a = some (.ins C dx fs)) (c : Cls X.K C) (k : Meth X.K C m g) (l : fs.lookup m = none)
  (h : Q (.ref g, [.ref a]) s) : wpAny (model X.prog X.w) A (getMethod (.ref a) m pl) Q E s := by
 obtain ⟨mA, O, r, _, _, _⟩ := kC I.hok e
 have hn := RelO.none_of (by rw [<- l]; exact r m)
 exact get_meth I.kIn O (c.get m) k.at_ k.fn hn h
theorem setattr_ok (I : Inv X pins σ H s) (e : H a = some (.ins C dx fs)) (c : Cls X.K C) (n : NoAttr X.K C f) (hl : fs.length < 1000) (ry : RelV y u)
  (h : ∀ s', Inv X pins σ (upd H a (.ins C dx (putF f y fs))) s' -> Q () s') : wpAny (model X.prog X.w) A (setAttr (.ref a) f u) Q E s := by
 obtain ⟨mA, O, r, wi, _, ho⟩ := kC I.hok e
 have hz : (fs.map (·.1)).length <= sizeLine := by rw [List.length_map, sizeLine_eq]; lia
 refine set_map I.kIn O c.sa c.po n.taker c.hd wi hz fun h' O' sb => h _ ?_
 have hd : ∃ o, h'.get? dx = some o := let ⟨o, _, _, e', _⟩ := O'.ns; ⟨o, e'⟩
 refine I.write (by rw [e]; exact True.intro) (.inr ho) (fun b q hb z => (sb.2 b hb).trans z) hd ?_
 refine ⟨by rw [upd_ne O.ne]; exact ho, ?_, O.ne, O'.obj, _, O'.ns, fun g => ?_, fun g hg => ?_⟩
 · have := xA f y fs; lia
 · show RelO ((putF f y fs).lookup g) (if g = f then some u else mA g)
   rw [lookup_putF]
   by_cases q : g = f
   · rw [if_pos q, if_pos q]; exact ry
   · rw [if_neg q, if_neg q]; exact r g
 · by_cases q : g = f
   · rw [q]; exact (wV f y fs).1
   · refine (wV f y fs).2 g (wi g fun z => hg ?_)
     show (if g = f then some u else mA g) = none
     rw [if_neg q]; exact z
theorem Inv.made (I : Inv X pins σ H s) : Inv X pins σ (upd (upd H s.heap.objs.size (.own (s.heap.objs.size + 1))) (s.heap.objs.size + 1) (.ins C s.heap.objs.size []))
  { s with heap := (s.heap.push PySem.W.emptyDict).push (PySem.W.instObj C s.heap.objs.size) } := by
 have e1 : (s.heap.push PySem.W.emptyDict).get? s.heap.objs.size = some PySem.W.emptyDict := Heap.get?_push_size s.heap rfl
 have e2 : ((s.heap.push PySem.W.emptyDict).push (PySem.W.instObj C s.heap.objs.size)).get? (s.heap.objs.size + 1) = some (PySem.W.instObj C s.heap.objs.size) := by
  have := Heap.get?_push_size (s.heap.push PySem.W.emptyDict) (o := PySem.W.instObj C s.heap.objs.size) rfl
  rwa [Heap.size_push] at this
 have e3 : (s.heap.push PySem.W.emptyDict).Ns s.heap.objs.size (fun _ => none) := ⟨PySem.W.emptyDict, #[], _, e1, rfl, (fun e he => absurd he (by simp)), fun _ => rfl⟩
 have I1 := I.laid (o := .own (s.heap.objs.size + 1)) (t' := s.toks) (fun b u q => Heap.get?_push_of_some _ q) (Nat.le_refl _) ⟨_, e1⟩
 refine I1.laid (fun b u q => Heap.get?_push_of_some _ q) (Nat.le_of_eq (Heap.size_push _ _)) ?_
 have ne : s.heap.objs.size ≠ s.heap.objs.size + 1 := Nat.ne_of_lt (Nat.lt_succ_self _)
 refine ⟨by rw [upd_ne ne, zS], Nat.zero_le _, ne, e2, fun _ => none, (Heap.Ns1.of_empty e3).at fun o q => Heap.get?_push_of_some _ q, fun _ => True.intro, fun y hy => absurd rfl hy⟩
theorem attr_of (hb : attributeBase e f env (eval e env) = eval e env)
  (h : wpAny (model prog w) A (eval e env) (fun o s₁ => wpAny (model prog w) A (getAttr o f true) Q E s₁) E s) : wpAny (model prog w) A (eval (.Attribute e f pos) env) Q E s :=
 Attribute_any_ h (by rw [arm_eval_Attribute, hb])
end
def tFld (K : PySem.W.Frag) (ta : TE) (f : Str) : TE := fun σ H Q => ta σ H fun x H1 => ∃ a C dx fs v, x = .ref a /\ H1 a = some (.ins C dx fs) /\ Cls K C /\ NoAttr K C f /\ fs.lookup f = some v /\ Q v H1
def sFld (K : PySem.W.Frag) (ta tv : TE) (f : Str) : TS := fun D σ H => tv σ H fun y H1 => ta σ H1 fun x H2 => ∃ a C dx fs, x = .ref a /\ H2 a = some (.ins C dx fs) /\ Cls K C /\ NoAttr K C f /\ fs.length < 1000 ∧
 D.nx σ (upd H2 a (.ins C dx (putF f y fs)))
section
theorem pe_fld (he : PE X e ta) (hb : attributeBase e f X.env (eval e X.env) = eval e X.env) : PE X (.Attribute e f pos) (tFld X.K ta f) := by
 intro pins s σ H Q I h
 refine attr_of hb (thn (he pins s σ H _ I h) fun u s1 zq => ?_)
 obtain ⟨x, H1, I1, rx, a, C, dx, fs, v, ex, ea, c, n, l, q⟩ := zq
 subst ex
 obtain rfl : u = Value.ref a := rx
 exact getattr_ok I1 ea c n l fun u' s2 I2 ru => ⟨v, H1, I2, ru, q⟩
theorem ps_fld (ha : PE X o ta) (hv : PE X value tv) (hs : swapsWith value (some (.Attribute o f pos')) pos.line X.env = pure false) : PS X (.Assign [.Attribute o f pos'] value pos) (sFld X.K ta tv f) := by
 intro pins s σ H D I h
 refine plainObj_wpAny_Assign_Attribute (thn (hv pins s σ H _ I h) fun u s1 ⟨y, H1, I1, ry, q⟩ => thn (ha pins s1 σ H1 _ I1 q) fun ov s2 zq => ?_) hs
 obtain ⟨x, H2, I2, rx, a, C, dx, fs, ex, ea, c, n, l, q2⟩ := zq
 subst ex
 obtain rfl : ov = Value.ref a := rx
 exact setattr_ok I2 ea c n l ry fun s3 I3 => ⟨σ, _, I3, q2⟩
end
section
variable {H : Hp}
inductive TyOf (K : PySem.W.Frag) (H : Hp) : V -> Value -> Prop where
 | non : TyOf K H .non (.type "NoneType")
 | bl (x : Bool) : TyOf K H (.bl x) (.type "bool")
 | int (i : Int) : TyOf K H (.int i) (.type "int")
 | str (x : Str) : TyOf K H (.str x) (.type "str")
 | flt (x : UInt64) : TyOf K H (.flt x) (.type "float")
 | lst {a : Addr} {xs : List V} (e : H a = some (.lst xs)) : TyOf K H (.ref a) (.type "list")
 | frz {a : Addr} {o : Obj} {xs : List V} (e : H a = some (.frz o (.lst xs))) : TyOf K H (.ref a) (.type "list")
 | tup {a : Addr} {xs : List V} (e : H a = some (.tup xs)) : TyOf K H (.ref a) (.type "tuple")
 | dK {a : Addr} {kvs : List (Key × V)} (e : H a = some (.dK kvs)) : TyOf K H (.ref a) (.type "dict")
 | dT {a : Addr} {kvs : List (List Key × V)} (e : H a = some (.dT kvs)) : TyOf K H (.ref a) (.type "dict")
 | ins {a C dx : Addr} {fs : List (Str × V)} (e : H a = some (.ins C dx fs)) (cl : Cls K C) (ha : PySem.W.findIn K (.ref C) "__class__" = some (some (.builtin "object.__class__")))
    (hn : PySem.W.specialIn K (.builtin "object.__class__") "__get__" = some (some (.builtin "getset_descriptor.__get__"))) (htk : PySem.W.takesIn K (.builtin "object.__class__") = some true)
    (hm : PySem.W.mroIn K C (.type "object") = some true) : TyOf K H (.ref a) (.ref C)
theorem isinst_ok (I : Inv X pins σ H s) (rx : RelV x u) (ty : TyOf X.K H x t) (e : PySem.W.kitOne X.K t c = some b) (h : ∀ tk, Q (.bool b) { s with toks := tk }) :
  wpAny (model X.prog X.w) A (call (.builtin "isinstance") [u, c]) Q E s := by
 cases ty with
 | non => cases (rx); exact PySem.W.kia_one PySem.W.kitx_none I.kIn True.intro e (fun z => nomatch z) h
 | bl y => cases (rx); exact PySem.W.kia_one PySem.W.kitx_bool I.kIn True.intro e (fun z => nomatch z) h
 | int i => obtain ⟨t, q⟩ := (rx); cases q; exact PySem.W.kia_one PySem.W.kitx_int I.kIn True.intro e (fun z => nomatch z) h
 | str y => obtain ⟨t, q⟩ := (rx); cases q; exact PySem.W.kia_one PySem.W.kitx_str I.kIn True.intro e (fun z => nomatch z) h
 | flt y => obtain ⟨t, q⟩ := (rx); cases q; exact PySem.W.kia_one PySem.W.kitx_float I.kIn True.intro e (fun z => nomatch z) h
 | @lst a xs ea =>
   cases (rx)
   obtain ⟨_, _, n, _, h1⟩ := (I.hok a _ ea)
   exact PySem.W.kia_one PySem.W.kitx_list I.kIn ⟨_, h1, rfl⟩ e (fun z => nomatch z) h
 | @frz a ob xs ea =>
   cases (rx)
   obtain ⟨_, _, _, n, _, h1⟩ := (I.hok a _ ea)
   exact PySem.W.kia_one PySem.W.kitx_list I.kIn ⟨_, h1, rfl⟩ e (fun z => nomatch z) h
 | @tup a xs ea =>
   cases (rx)
   obtain ⟨_, _, _, p⟩ := (I.hok a _ ea)
   obtain ⟨o, h1, h2, _⟩ := p
   exact PySem.W.kia_one PySem.W.kitx_tuple I.kIn ⟨o, h1, h2⟩ e (fun z => nomatch z) h
 | @dK a kvs ea =>
   cases (rx)
   obtain ⟨_, _, vs, _, p⟩ := (I.hok a _ ea)
   obtain ⟨o, es, ep, h1, h2, _⟩ := p
   exact PySem.W.kia_one PySem.W.kitx_dict I.kIn ⟨o, h1, h2.1⟩ e (fun z => nomatch z) h
 | @dT a kvs ea =>
   cases (rx)
   obtain ⟨_, _, xs, _, o, es, ep, h1, h2, _⟩ := (I.hok a _ ea)
   exact PySem.W.kia_one PySem.W.kitx_dict I.kIn ⟨o, h1, h2.1⟩ e (fun z => nomatch z) h
 | @ins a C dx fs ea cl ha hn htk hm =>
   cases (rx)
   obtain ⟨mA, O, _⟩ := kC I.hok ea
   obtain ⟨od, J, _⟩ := O.look
   exact PySem.W.kia_one (PySem.W.kitx_own (cl.get _) cl.hd ha hn htk hm) I.kIn J e (fun z => nomatch z) h
end
structure Room (k : Nat) (A : Around) : Prop where
 hd : A.handled = none
 dp : A.depth + 3 * k + 5 < recursionLimit
 un : A.units + 16 * k + 200 < cLine
theorem Room.mono (r : Room k A) (h : j <= k) : Room j A := ⟨r.hd, by have := r.dp; lia, by have := r.un; lia⟩
theorem Room.deeper (r : Room (k + 1) A) env : Room k (A.deeper env) :=
 ⟨r.hd, by have := r.dp; show A.depth + 1 + 3 * k + 5 < _; omega, by have := r.un; show A.units + 3 + 16 * k + 200 < _; omega⟩
theorem make_depth {A : Around} : (A.under (.builtin "type.__call__" ⟨.ref C :: us, kw⟩)).depth = A.depth + 1 := by
 first | rfl | simp [Around.under, Code.weight, Code.isCreation, Code.isGuard, Code.isCaller, Code.frames, Code.isFrame, guardIds]
theorem make_units {A : Around} : (A.under (.builtin "type.__call__" ⟨.ref C :: us, kw⟩)).units = A.units + 1 := by
 first | rfl | simp [Around.under, Code.cUnits, Code.frames, Code.isFrame]
theorem Room.make (r : Room (k + 1) A) C us kw : Room k (A.under (.builtin "type.__call__" ⟨.ref C :: us, kw⟩)) :=
 ⟨r.hd, by have := r.dp; rw [make_depth]; lia, by have := r.un; rw [make_units]; lia⟩
theorem Room.depth (r : Room k A) : A.depth < recursionLimit := by have := r.dp; lia
theorem Room.units (r : Room k A) : A.units + 64 < cLine := by have := r.un; lia
def tNil : TA := fun _ H Q => Q [] H
def tCons (ta : TE) (tr : TA) : TA := fun σ H Q => ta σ H fun x H1 => tr σ H1 fun xs H2 => Q (x :: xs) H2
section
variable {t : TA}
theorem yF : PA X [] tNil := fun _ _ _ _ H Q I h => Calls.spliced_nil ⟨[], H, I, .nil, h⟩
theorem jC (ha : PE X e te) (hr : PA X es t) (hs : starEach (e :: es) X.env = (false, eval e X.env) :: starEach es X.env := by rfl) : PA X (e :: es) (tCons te t) := by
 intro pos pins s σ H Q I h
 rw [hs]
 refine Calls.spliced_cons (thn (ha pins s σ H _ I h) fun u s1 zq => ?_)
 obtain ⟨x, H1, I1, r1, q1⟩ := zq
 exact thn (hr pos pins s1 σ H1 _ I1 q1) fun us s2 ⟨xs, H2, I2, r2, q2⟩ => ⟨x :: xs, H2, I2, .cons r1 r2, q2⟩
def tTup (t : TA) : TE := fun σ H Q => t σ H fun xs H1 => xs.length <= sizeLine /\ ∀ p, H1 p = none -> Q (.ref p) (upd H1 p (.tup xs))
def tLst (t : TA) : TE := fun σ H Q => t σ H fun xs H1 => xs.length <= sizeLine /\ ∀ p, H1 p = none -> Q (.ref p) (upd H1 p (.lst xs))
theorem pe_tup {x1} (h : PA X es t) : PE X (.Tuple es x1 pos) (tTup t) := by
 intro pins s σ H Q I hq
 refine wpAny_Tuple_spliced (thn (h pos pins s σ H _ I hq) fun us s1 ⟨xs, H1, I1, r, z, q⟩ => ⟨by rw [<- r.length]; exact z, ?_⟩)
 have hf := I1.hok.fresh (Nat.le_refl _)
 refine ⟨.ref s1.heap.objs.size, upd H1 s1.heap.objs.size (.tup xs), I1.laid (fun b u e => Heap.get?_push_of_some _ e) (Nat.le_refl _) ?_, rfl, q _ hf⟩
 exact ⟨z, us, r, ⟨_, Heap.get?_push_size _ rfl, rfl, _, rfl⟩⟩
theorem pe_lst (h : PA X es t) : PE X (.List es pos) (tLst t) := by
 intro pins s σ H Q I hq
 refine wpAny_List_spliced (thn (h pos pins s σ H _ I hq) fun us s1 ⟨xs, H1, I1, r, z, q⟩ => ⟨by rw [<- r.length]; exact z, ?_⟩)
 have hf := I1.hok.fresh (Nat.le_refl _)
 refine ⟨.ref s1.heap.objs.size, upd H1 s1.heap.objs.size (.lst xs), I1.laid (fun b u e => Heap.get?_push_of_some _ e) (Nat.le_refl _) ?_, rfl, q _ hf⟩
 exact ⟨z, us, 0, r, Heap.get?_push_size _ rfl⟩
end
abbrev Sp := List V -> Hp -> VK -> XK -> Prop
abbrev CXT := List Env -> Hp -> Shared -> XK -> Value -> Shared -> Prop
structure Env0 (P : Program) (w : World) (K : PySem.W.Frag) (mg : Str -> Option Value) (base : Heap) (A : Around) (outer : List Env) (s : Shared) (H : Hp) : Prop where
 frames : A.frames = some outer
 mod : Mod K mg base
 bs : ∀ b o, base.get? b = some o -> s.heap.get? b = some o /\ H b = none
 bsz : Bsz K mg base s.heap H
 funs : s.heap.FunFrames base outer
 frf : ∀ b ∈ frs outer, H b = none
 hok : HOk P w H s.heap
 bare : AllBare s.gens
def CE (outer : List Env) (P : Program) (w : World) (H : Hp) (s : Shared) (Q : VK) (u : Value) (s' : Shared) : Prop :=
 ∃ v H', s'.os = s.os /\ AllBare s'.gens /\ Un (frs outer) [] H H' s.heap s'.heap /\ HOk P w H' s'.heap /\ RelV v u /\ Q v H'
def CR (CX : CXT) (outer : List Env) (P : Program) (w : World) (H : Hp) (s : Shared) (Q : VK) (E : XK) (r : Result) (s' : Shared) : Prop :=
 match r with
 | .ok (.ret u) => CE outer P w H s Q u s'
 | .ok _ => False
 | .error e => CX outer H s E e s'
structure FnOk (P : Program) (w : World) (K : PySem.W.Frag) (mg : Str -> Option Value) (base : Heap) (CX : CXT) (k : Nat) (f : Addr) (fd : FuncData) (ps : List Str) (sp : Sp) : Prop where
 len : ∀ vs H Q E, sp vs H Q E -> vs.length = ps.length
 run : ∀ (A : Around) (outer : List Env) (s : Shared) (H : Hp) (args : Args) (us : List Value) (vs : List V) (Q : VK) (E : XK), Room k A -> Env0 P w K mg base A outer s H -> BindsTo s fd args (ps.zip us) -> Vals vs us -> sp vs H Q E →
  codeAny (model P w) A (.call (.ref f) args) (CR CX outer P w H s Q E) s
theorem FnOk.mono {K : PySem.W.Frag} (F : FnOk P w K mg base CX j f fd ps sp) (h : j <= k) :
  FnOk P w K mg base CX k f fd ps sp := ⟨F.len, fun A outer s H args us vs Q E hr => F.run A outer s H args us vs Q E (hr.mono h)⟩
theorem FnOk.imp {K : PySem.W.Frag} (F : FnOk P w K mg base CX k f fd ps sp)
  (h : ∀ vs H Q E, sp' vs H Q E -> sp vs H Q E) : FnOk P w K mg base CX k f fd ps sp' :=
 ⟨fun vs H Q E q => F.len vs H Q E (h _ _ _ _ q), fun A outer s H args us vs Q E hr he hb hv hs => F.run A outer s H args us vs Q E hr he hb hv (h _ _ _ _ hs)⟩
theorem Env0.make {K : PySem.W.Frag} (e : Env0 P w K mg base A outer s H) C us kw :
  Env0 P w K mg base (A.under (.builtin "type.__call__" ⟨.ref C :: us, kw⟩)) outer s H := ⟨by first | exact e.frames | (simpa [Around.under, Code.envs, Code.isFrame, pushEnvs] using e.frames), e.mod, e.bs, e.bsz, e.funs, e.frf, e.hok, e.bare⟩
section
theorem Inv.tabsH (I : Inv X pins σ H s) : TabsK X.K X.mg X.base H := ⟨I.ok.bsz.2.bm, fun x c P hx ht => ⟨(I.ok.bsz.2.tab x c P hx ht).1, I.base.tbls _ _ (I.ok.bsz.2.tab x c P hx ht).2⟩⟩
theorem Inv.env0 (I : Inv X pins σ H s) : Env0 X.prog X.w X.K X.mg X.base X.A X.stack s H :=
 ⟨I.ok.frames, I.ok.mod, I.bs, ⟨Nat.le_trans I.ok.bsz.1 I.sz, I.tabsH⟩, I.stack, I.stkFree, I.hok, I.bare⟩
theorem Inv.after (I : Inv X pins σ H s) (h : CE X.stack X.prog X.w H s Q u s') : EP X pins σ Q u s' := by
 obtain ⟨v, H', os, bare, un, hok, r, q⟩ := h
 obtain ⟨hh, g, d, t, os'⟩ := s'
 obtain rfl : os' = s.os := os
 exact ⟨v, H', I.call un hok bare (fun b z => absurd z (by simp)), r, q⟩
end
def tCall (sp : Sp) (dvs : List V) (E : XK) (t : TA) : TE := fun σ H Q => t σ H fun vs H1 => sp (vs ++ dvs) H1 Q E
def tMake (C : Addr) (sp : Sp) (dvs : List V) (E : XK) (t : TA) : TE := fun σ H Q => t σ H fun vs H1 => ∀ x dx, H1 x = none -> H1 dx = none -> dx ≠ x →
 sp (.ref x :: (vs ++ dvs)) (upd (upd H1 dx (.own x)) x (.ins C dx [])) (fun v H2 => v = .non /\ Q (.ref x) H2) E
def Binds (K : PySem.W.Frag) (fd : FuncData) (ps : List Str) (ds : List Value) : Prop :=
 ∀ (s : Shared) (us : List Value), K.In s.heap -> (us ++ ds).length = ps.length -> BindsTo s fd ⟨us, []⟩ (ps.zip (us ++ ds))
theorem Binds.all {K : PySem.W.Frag} (h : ∀ us, us.length = ps.length -> bindArgs fd ⟨us, []⟩ = pure (ps.zip us)) : Binds K fd ps [] := fun s us _ hl => by
 rw [List.append_nil] at hl ⊢
 exact .of_eq (h us hl)
def Passes (CX : CXT) (X : Cx) (E : XK) : Prop := ∀ (pins : List (Addr × Obj)) (σ : St) (H : Hp) (s : Shared) (e : Value) (s' : Shared), Inv X pins σ H s -> CX X.stack H s E e s' -> X.xe e s'
section
variable {f C : Addr}
theorem run_fn (F : FnOk X.prog X.w X.K X.mg X.base CX k f fd ps sp) (hr : Room k X.A) (hb : Binds X.K fd ps ds) (hd : Vals dvs ds) (hx : Passes CX X E)
  (I : Inv X pins σ H s) (r : Vals vs us) (h : sp (vs ++ dvs) H Q E) : wpAny (model X.prog X.w) X.A (call (.ref f) us) (EP X pins σ Q) X.xe s := by
 have r2 := r.append hd
 have hl : (us ++ ds).length = ps.length := by rw [<- r2.length]; exact F.len _ _ _ _ h
 refine wpAny_call (codeAny_mono (F.run X.A X.stack s H ⟨us, []⟩ (us ++ ds) (vs ++ dvs) Q E hr I.env0 (hb s us I.kIn hl) r2 h) fun r s' hq => ?_)
 cases r with
 | error e => exact hx pins σ H s e s' I hq
 | ok fl =>
   cases fl with
   | ret u => exact I.after hq
   | next => exact False.elim hq
   | brk => exact False.elim hq
   | cont => exact False.elim hq
theorem kJ (F : FnOk X.prog X.w X.K X.mg X.base CX k f fd ps sp) (hr : Room k X.A) (hg : Gl X x) (hm : X.mg x = some (.ref f)) (hk : PySem.W.keepIn X.K (.ref f) = true) (hb : Binds X.K fd ps ds) (hd : Vals dvs ds) (hx : Passes CX X E)
  (ha : PA X (e :: es) t) (hdb : (x == ("__debug__" : Str)) = false := by decide) (he : starEach (e :: es) X.env = (false, eval e X.env) :: starEach es X.env := by rfl) (hpl : (backTo pos (starEach es X.env)).any (·.1) = false := by rfl) :
  PE X (.Call (.Name x p) (e :: es) [] pos) (tCall sp dvs E t) := by
 intro pins s σ H Q I h
 refine wpAny_Call_Name_kw (wP I hg hm ?_ hdb)
 refine PySem.W.callWith_K I.ok.mod.kin hk (thn (ha pos pins s σ H _ I h) fun us s1 ⟨vs, H1, I1, r, q⟩ => ⟨I1.kIn, ?_⟩) he hpl
 exact run_fn F hr hb hd hx I1 r q
structure Mk (K : PySem.W.Frag) (C f : Addr) : Prop where
 makes : PySem.W.makesIn K C = true
 init : PySem.W.findIn K (.ref C) "__init__" = some (some (.ref f))
 fn : PySem.W.isFn K (.ref f) = true
 kp : PySem.W.keepIn K (.ref C) = true
theorem run_make (M : Mk X.K C f) (F : FnOk X.prog X.w X.K X.mg X.base CX k f fd ps sp) (hr : Room (k + 1) X.A) (hb : Binds X.K fd ps ds) (hd : Vals dvs ds)
  (hx : Passes CX X E) (I : Inv X pins σ H s) (r : Vals vs us)
  (h : ∀ x dx, H x = none -> H dx = none -> dx ≠ x -> sp (.ref x :: (vs ++ dvs)) (upd (upd H dx (.own x)) x (.ins C dx [])) (fun v H2 => v = .non /\ Q (.ref x) H2) E) :
  wpAny (model X.prog X.w) X.A (call (.ref C) us) (EP X pins σ Q) X.xe s := by
 have hq := h (s.heap.objs.size + 1) s.heap.objs.size (I.hok.fresh (Nat.le_succ _)) (I.hok.fresh (Nat.le_refl _)) (Nat.ne_of_lt (Nat.lt_succ_self _))
 have I2 := Inv.made (C := C) I
 have r2 : Vals (V.ref (s.heap.objs.size + 1) :: (vs ++ dvs)) (Value.ref (s.heap.objs.size + 1) :: (us ++ ds)) := .cons rfl (r.append hd)
 have hl : (Value.ref (s.heap.objs.size + 1) :: us ++ ds).length = ps.length := by
  have e := r2.length
  rw [F.len _ _ _ _ hq] at e
  exact e.symm
 refine wpAny_call (make_map I.kIn M.makes M.init (beq_iff_eq.mp M.fn) (codeAny_mono (F.run _ X.stack _ _ ⟨Value.ref (s.heap.objs.size + 1) :: us, []⟩ (Value.ref (s.heap.objs.size + 1) :: (us ++ ds)) _ _ E (hr.make C us [])
  (I2.env0.make C us []) (hb _ (Value.ref (s.heap.objs.size + 1) :: us) I2.kIn hl) r2 hq) fun r s' hq' => ?_))
 cases r with
 | error e => exact hx pins σ _ _ e s' I2 hq'
 | ok fl =>
   cases fl with
   | ret u =>
     obtain ⟨v, H', I3, rv, ev, q3⟩ := I2.after hq'
     subst ev
     exact ⟨rv, ⟨V.ref (s.heap.objs.size + 1), H', I3, rfl, q3⟩⟩
   | next => exact False.elim hq'
   | brk => exact False.elim hq'
   | cont => exact False.elim hq'
theorem pe_make (M : Mk X.K C f) (F : FnOk X.prog X.w X.K X.mg X.base CX k f fd ps sp) (hr : Room (k + 1) X.A) (hg : Gl X x) (hm : X.mg x = some (.ref C)) (hb : Binds X.K fd ps ds) (hd : Vals dvs ds) (hx : Passes CX X E)
  (ha : PA X (e :: es) t) (hdb : (x == ("__debug__" : Str)) = false := by decide) (he : starEach (e :: es) X.env = (false, eval e X.env) :: starEach es X.env := by rfl) (hpl : (backTo pos (starEach es X.env)).any (·.1) = false := by rfl) :
  PE X (.Call (.Name x p) (e :: es) [] pos) (tMake C sp dvs E t) := by
 intro pins s σ H Q I h
 refine wpAny_Call_Name_kw (wP I hg hm ?_ hdb)
 refine PySem.W.callWith_K I.ok.mod.kin M.kp (thn (ha pos pins s σ H _ I h) fun us s1 ⟨vs, H1, I1, r, q⟩ => ⟨I1.kIn, ?_⟩) he hpl
 exact run_make M F hr hb hd hx I1 r q
theorem pe_make0 (M : Mk X.K C f) (F : FnOk X.prog X.w X.K X.mg X.base CX k f fd ps sp) (hr : Room (k + 1) X.A) (hg : Gl X x) (hm : X.mg x = some (.ref C)) (hb : Binds X.K fd ps ds) (hd : Vals dvs ds) (hx : Passes CX X E)
  (hdb : (x == ("__debug__" : Str)) = false := by decide) : PE X (.Call (.Name x p) [] [] pos) (tMake C sp dvs E tNil) := by
 intro pins s σ H Q I h
 refine wpAny_Call_Name_kw (wP I hg hm ?_ hdb)
 exact PySem.W.callWith_K0 I.kIn M.kp (run_make M F hr hb hd hx I .nil h)
end
section
variable {fd : FuncData} {ps ks : List Str} {sp : Sp} {E : XK} {t tk : TA}
end
structure FnScope (N P : List Str) (sc : Scope) : Prop where
 kind : sc.kind = .function := by rfl
 co : sc.isCoroutine = false := by rfl
 gen : sc.isGenerator = false := by rfl
 nd : N.Nodup := by decide +kernel
 pre : N.take P.length = P := by rfl
 par : ∀ x ∈ P, sc.names.lookup x = some .local \/ sc.names.lookup x = some .cell := by decide +kernel
 nofree : ∀ y ∈ sc.names, y.2 ≠ .free := by decide +kernel
theorem bindL_out {kindOf : Str -> Option NameKind} : ∀ {binds : List (Str × Value)} {m : Str -> Option Value}, (∀ v, (x, v) ∉ binds) -> bindL kindOf binds m x = m x
 | [], _, _ => rfl
 | (n, v) :: r, m, h => by
   unfold bindL
   rw [bindL_out fun w hw => h w (List.mem_cons_of_mem _ hw)]
   split
   · have : x ≠ n := by rintro rfl; exact h v List.mem_cons_self
     simp [this]
   · rfl
theorem bindC_out {kindOf : Str -> Option NameKind} : ∀ {binds : List (Str × Value)} {m : Str -> Option Value}, (∀ v, (x, v) ∉ binds) -> bindC kindOf binds m x = m x
 | [], _, _ => rfl
 | (n, v) :: r, m, h => by
   unfold bindC
   rw [bindC_out fun w hw => h w (List.mem_cons_of_mem _ hw)]
   split
   · rfl
   · have : x ≠ n := by rintro rfl; exact h v List.mem_cons_self
     simp [this]
theorem bindL_get {kindOf : Str -> Option NameKind} : ∀ {P : List Str} {vs : List Value} {i : Nat} {m : Str -> Option Value}, P.Nodup -> P[i]? = some x -> vs[i]? = some v -> kindOf x = some .local →
  bindL kindOf (P.zip vs) m x = some v
 | [], _, _, _, _, h, _, _ => by simp at h
 | _ :: _, [], _, _, _, _, h, _ => by simp at h
 | p :: P, w :: vs, 0, m, nd, h1, h2, hk => by
   simp at h1 h2; subst h1; subst h2
   show bindL kindOf ((p, w) :: P.zip vs) m p = _
   unfold bindL
   rw [bindL_out fun v hv => (List.nodup_cons.mp nd).1 (List.of_mem_zip hv).1, if_pos hk]
   simp
 | p :: P, w :: vs, i + 1, m, nd, h1, h2, hk => by
   show bindL kindOf ((p, w) :: P.zip vs) m x = _
   unfold bindL
   exact bindL_get (i := i) (List.nodup_cons.mp nd).2 (by simpa using h1) (by simpa using h2) hk
theorem bindC_get {kindOf : Str -> Option NameKind} : ∀ {P : List Str} {vs : List Value} {i : Nat} {m : Str -> Option Value}, P.Nodup -> P[i]? = some x -> vs[i]? = some v -> kindOf x ≠ some .local →
  bindC kindOf (P.zip vs) m x = some v
 | [], _, _, _, _, h, _, _ => by simp at h
 | _ :: _, [], _, _, _, _, h, _ => by simp at h
 | p :: P, w :: vs, 0, m, nd, h1, h2, hk => by
   simp at h1 h2; subst h1; subst h2
   show bindC kindOf ((p, w) :: P.zip vs) m p = _
   unfold bindC
   rw [bindC_out fun v hv => (List.nodup_cons.mp nd).1 (List.of_mem_zip hv).1, if_neg hk]
   simp
 | p :: P, w :: vs, i + 1, m, nd, h1, h2, hk => by
   show bindC kindOf ((p, w) :: P.zip vs) m x = _
   unfold bindC
   exact bindC_get (i := i) (List.nodup_cons.mp nd).2 (by simpa using h1) (by simpa using h2) hk
noncomputable def start (N : List Str) (vs : List V) : St := vs.map some ++ List.replicate (N.length - vs.length) none
noncomputable def cxOf (CX : CXT) (P : Program) (w : World) (K : PySem.W.Frag) (mg : Str -> Option Value) (base : Heap) (N : List Str) (qual : Str) (scope : Scope) (f : Addr) (cd : Value) (A : Around) (outer : List Env) (s : Shared) (H : Hp) (E : XK) : Cx where
 prog := P
 w := w
 K := K
 mg := mg
 base := base
 A := A.deeper (envOfC qual scope s.heap.objs.size f cd)
 N := N
 s₀ := s
 H₀ := H
 env := envOfC qual scope s.heap.objs.size f cd
 outer := outer
 stack := envOfC qual scope s.heap.objs.size f cd :: outer
 ex := []
 calm := true
 fn := fun _ => true
 pn := []
 xe := fun e s' => wpAny (model P w) (A.deeper (envOfC qual scope s.heap.objs.size f cd)) (leaving (envOfC qual scope s.heap.objs.size f cd) e) (fun _ s'' => CX outer H s E e s'') (fun e' s'' => CX outer H s E e' s'') s'
theorem cell_has {sc : Scope} (h : sc.names.lookup x = some .cell) : ∃ c, (cellsFrom n sc.names []).lookup x = some c := by
 have q := PySem.W.cellsFrom_some sc.names n [] (.inl h)
 exact Option.isSome_iff_exists.mp q
theorem inv_start {K : PySem.W.Frag}
  (S : FnScope N ps scope) (hd : A.handled = none) (e0 : Env0 P w K mg base A outer s H) (hl : vs.length = ps.length) (r : Vals vs us)
  (x : InCallC s s.heap.objs.size (bindL (envOfC qual scope s.heap.objs.size f cd).kindOf (ps.zip us) fun _ => none) (cellsFrom (s.heap.objs.size + 1) scope.names []) (bindC (envOfC qual scope s.heap.objs.size f cd).kindOf (ps.zip us) fun _ => none) s1) :
  Inv (cxOf CX P w K mg base N qual scope f cd A outer s H E) [] (start N vs) H s1 := by
 have hpl : ps.length <= N.length := by have := congrArg List.length S.pre; rw [List.length_take] at this; lia
 obtain ⟨h1, tk, rfl, hk⟩ := x.done
 have noA : ∀ b : Addr, b ∉ (cxOf CX P w K mg base N qual scope f cd A outer s H E).ex := fun b z => absurd (show b ∈ ([] : List Addr) from z) (by simp)
 refine ⟨⟨e0.mod, S.kind, rfl, rfl, Nat.le_refl _, fun y z c h1 h2 => ?_, fun y hy => ?_, fun y c _ h => ?_, fun _ => hd, Around.frames_deeper e0.frames, .inr ⟨rfl, rfl⟩, fun b z => absurd z (noA b), e0.bs, e0.bsz, fun b _ _ => noA b, fun b z => absurd z (noA b), e0.funs, e0.frf⟩,
  rfl, e0.bare, Un.kept hk, ⟨_, x.toInCall.ns, fun i y v h1 h2 h3 => ?_⟩, fun y c h => ⟨_, x.cell y c h⟩, e0.hok.fresh (Nat.le_refl _), fun y c h => ?_, fun p hp => absurd (show p ∈ ([] : List (Addr × Obj)) from hp) (by simp), e0.hok.kept hk, ?_⟩
 · exact name_of_addr x.apart (PySem.mem_of_lookup h1) (PySem.mem_of_lookup h2)
 · have hy : scope.names.lookup y = some .cell \/ scope.names.lookup y = some .free := hy
   rcases hy with hy | hy
   · exact cell_has hy
   · exact absurd rfl (S.nofree _ (PySem.mem_of_lookup hy))
 · exact Nat.le_of_lt (x.above y c (PySem.mem_of_lookup h))
 · have hi : i < vs.length := by
    unfold start at h2
    by_cases hi : i < vs.length
    · exact hi
    · rw [List.getElem?_append_right (by simpa using hi)] at h2
      rw [List.getElem?_replicate] at h2
      split at h2 <;> cases h2
   have ha : vs[i]? = some v := by
    unfold start at h2
    rw [List.getElem?_append_left (by simpa using hi), List.getElem?_map] at h2
    cases e : vs[i]? with
    | none => rw [e] at h2; cases h2
    | some a => rw [e] at h2; cases h2; rfl
   obtain ⟨u, hu, rv⟩ := r.get ha
   have hp : ps[i]? = some y := by
    rw [<- S.pre, List.getElem?_take_of_lt (by lia)]; exact h1
   have ndP : ps.Nodup := by rw [<- S.pre]; exact S.nd.sublist (List.take_sublist _ _)
   refine ⟨u, rv, ?_⟩
   rcases S.par y (List.mem_of_getElem? hp) with k | k
   · exact .inl ⟨k, bindL_get ndP hp hu k⟩
   · obtain ⟨c, e⟩ := cell_has k
     refine .inr ⟨.inl k, c, e, ?_⟩
     have q := x.cell y c e
     rw [bindC_get ndP hp hu (by show scope.names.lookup y ≠ _; rw [k]; decide)] at q
     exact q
 · exact .inl (e0.hok.fresh (Nat.le_of_lt (x.above y c (PySem.mem_of_lookup h))))
 · unfold start
   show _ = N.length
   rw [List.length_append, List.length_map, List.length_replicate]
   lia
theorem fn_of {K : PySem.W.Frag} {dV kV doc pm cdv ct oc : Value}
  (lk : K.lookup f = some ⟨oc, od, .func (PySem.W.fnOf name qual params body scope dV kV doc pm an cdv ct), osl⟩) (hcd : PySem.W.codeIn K cdv qual = true) (S : FnScope N ps scope)
  (len : ∀ vs H Q E, sp vs H Q E -> vs.length = ps.length)
  (hbody : ∀ A outer s H vs Q E, Room k (A.deeper (envOfC qual scope s.heap.objs.size f cdv)) -> sp vs H Q E →
    ∃ t, PSs (cxOf CX P w K mg base N qual scope f cdv A outer s H E) body t /\ t { nx := fun _ H' => Q .non H', rt := Q } (start N vs) H) :
  FnOk P w K mg base CX (k + 1) f (PySem.W.fnOf name qual params body scope dV kV doc pm an cdv ct) ps sp := by
 refine ⟨len, fun A outer s H args us vs Q E hr e0 hb r hsp => ?_⟩
 have hl := len _ _ _ _ hsp
 have KX := e0.mod.kin.keeps fun b o e => (e0.bs b o e).1
 have lim := e0.mod.nolimit.keeps fun b o e => (e0.bs b o e).1
 have hkind : ∀ y ∈ ps.zip us, scope.names.lookup y.1 = some .local \/ (scope.names.lookup y.1 = some .cell /\ ((cellsFrom (s.heap.objs.size + 1) scope.names []).lookup y.1).isSome = true) := fun ⟨n, v⟩ hy => by
  rcases S.par n (List.of_mem_zip hy).1 with q | q
  · exact .inl q
  · exact .inr ⟨q, PySem.W.cellsFrom_some _ _ _ (.inl q)⟩
 refine codeAny_call_function hr.depth (KX _ _ lk) rfl S.co S.gen rfl (PySem.W.codeRec_of KX hcd) (hb _ _ _ _ ?_)
 refine wpAny_newFunctionEnv_cells S.kind hkind fun env he s1 x => ?_
 subst he
 refine ⟨lim.keeps x.toInCall.keep, codeAny_func ?_⟩
 obtain ⟨t, ht, hq⟩ := hbody A outer s H vs Q E (hr.deeper _) hsp
 have I : Inv (cxOf CX P w K mg base N qual scope f cdv A outer s H E) [] (start N vs) H s1 := inv_start S hr.hd e0 hl r x
 refine wpAny_mono (ht [] s1 (start N vs) H _ I hq) (fun fl s' hs => ?_) fun e s' hs => hs
 have fin : ∀ {σ' : St} {H' : Hp} {v : V} {u : Value}, Inv (cxOf CX P w K mg base N qual scope f cdv A outer s H E) [] σ' H' s' -> RelV v u -> Q v H' -> CE outer P w H s Q u s' :=
  fun {σ' H' v u} J rv q => ⟨v, H', J.os, J.bare, J.base, J.hok, rv, q⟩
 cases fl with
 | ret u =>
   obtain ⟨v, σ', H', J, rv, q⟩ := hs
   exact fin J rv q
 | next =>
   obtain ⟨σ', H', J, q⟩ := hs
   exact fin (v := V.non) J rfl q
 | brk =>
   obtain ⟨_, _, _, q⟩ := hs
   exact False.elim q
 | cont =>
   obtain ⟨_, _, _, q⟩ := hs
   exact False.elim q
section
variable {t : TA} {id T : String} {r : List V -> Hp -> VK -> Prop}
def tCB (r : List V -> Hp -> VK -> Prop) (t : TA) : TE := fun σ H Q => t σ H fun vs H1 => r vs H1 Q
theorem vE (hc : CallR X (.builtin id) r) (hg : Gl X x) (hm : X.mg x = none) (hv : bootBuiltins x = some (.builtin id)) (ha : PA X (e :: es) t) (hn : x ≠ "__name__" := by decide) (hdb : (x == ("__debug__" : Str)) = false := by decide)
  (he : starEach (e :: es) X.env = (false, eval e X.env) :: starEach es X.env := by rfl) (hpl : (backTo pos (starEach es X.env)).any (·.1) = false := by rfl) : PE X (.Call (.Name x p) (e :: es) [] pos) (tCB r t) := by
 intro pins s σ H Q I h
 refine wpAny_Call_Name_kw (kF I hg hm hv ?_ hn hdb)
 exact PyProof.Rows.callWith_builtin1 (thn (ha pos pins s σ H _ I h) fun us s1 ⟨vs, H1, I1, r1, q1⟩ => hc pins s1 σ H1 vs us Q I1 r1 q1) he hpl
theorem pe_callTy (hc : CallR X (.type T) r) (hg : Gl X x) (hm : X.mg x = none) (hv : bootBuiltins x = some (.type T)) (ha : PA X (e :: es) t) (hn : x ≠ "__name__" := by decide) (hdb : (x == ("__debug__" : Str)) = false := by decide)
  (he : starEach (e :: es) X.env = (false, eval e X.env) :: starEach es X.env := by rfl) (hpl : (backTo pos (starEach es X.env)).any (·.1) = false := by rfl) : PE X (.Call (.Name x p) (e :: es) [] pos) (tCB r t) := by
 intro pins s σ H Q I h
 refine wpAny_Call_Name_kw (kF I hg hm hv ?_ hn hdb)
 exact PyProof.Rows.callWith_type1 (thn (ha pos pins s σ H _ I h) fun us s1 ⟨vs, H1, I1, r1, q1⟩ => hc pins s1 σ H1 vs us Q I1 r1 q1) he hpl
end
end L2
namespace HT
open PySem PyProof.Rows
section
open PySem.SeqAt
open PySem.AutoSeq1 (wpAny_loadPart')
open PySem.MeetsSeq PySem.MeetsSeq2 PySem.MeetsSeq3
end
section
end
end HT
namespace L2
open PySem PySem.Spec PyProof.Rows
abbrev TO := St -> Hp -> (Option Int -> Hp -> Prop) -> Prop
def PO (X : Cx) (e : Option Expr) (t : TO) : Prop :=
 ∀ (pins : List (Addr × Obj)) (s : Shared) (σ : St) (H : Hp) (Q : Option Int -> Hp -> Prop), Inv X pins σ H s -> t σ H Q →
  wpAny (model X.prog X.w) X.A (evalPart e X.env) (fun u s' => ∃ o H', Inv X pins σ H' s' /\ IsPart u o /\ Q o H') X.xe s
def tPart (t : TE) : TO := fun σ H Q => t σ H fun x H1 => ∃ i, x = .int i /\ Q (some i) H1
section
variable {X : Cx} {te : TE} {lo hi : Option Expr} {tl th : TO}
theorem po_some (h : PE X e te) : PO X (some e) (tPart te) := by
 intro pins s σ H Q I hw
 refine thn (h pins s σ H _ I hw) fun u s1 zq => ?_
 obtain ⟨x, H1, I1, r1, q1⟩ := zq
 obtain ⟨i, rfl, q⟩ := q1
 obtain ⟨t, rfl⟩ := r1
 exact ⟨some i, H1, I1, .int i t, q⟩
def SlR (X : Cx) (r : V -> Option Int -> Option Int -> Hp -> VK -> Prop) : Prop :=
 ∀ (pins : List (Addr × Obj)) (s : Shared) (σ : St) (H : Hp) (x : V) (v vl vu : Value) (lo hi : Option Int) (sl : Addr) (Q : VK), Inv X pins σ H s -> RelV x v -> s.heap.IsSliceOf sl vl vu .none -> IsPart vl lo -> IsPart vu hi -> r x lo hi H Q →
  ∃ T id, typeLookup (.type T) "__getitem__" = pure (some (.builtin id)) /\ s.TypeIs v T /\ wpAny (model X.prog X.w) X.A (getItem v (.ref sl)) (EP X pins σ Q) X.xe s
def tSl (r : V -> Option Int -> Option Int -> Hp -> VK -> Prop) (te : TE) (tl th : TO) : TE := fun σ H Q => te σ H fun x H1 => tl σ H1 fun l H2 => th σ H2 fun u H3 => r x l u H3 Q
theorem pe_slice (hr : SlR X r) (he : PE X e te) (hl : PO X lo tl) (hu : PO X hi th) : PE X (.Subscript e (.Slice lo hi none p2) pos) (tSl r te tl th) := by
 intro pins s σ H Q I h
 refine Subscript_ (thn (he pins s σ H _ I h) fun v s1 zq => ?_)
 obtain ⟨x, H1, I1, r1, q1⟩ := zq
 refine wpAny_Slice (thn (hl pins s1 σ H1 _ I1 q1) fun vl s2 ⟨l, H2, I2, pl, q2⟩ => thn (hu pins s2 σ H2 _ I2 q2) fun vu s3 zq => ?_)
 obtain ⟨u, H3, I3, pu, q3⟩ := zq
 refine wpAny_pure ?_
 have I4 : Inv X pins σ H3 { s3 with heap := s3.heap.push { cls := .type "slice", data := .fields #[vl, vu, .none] } } := I3.kept fun b ob q => Heap.get?_push_of_some _ q
 obtain ⟨T, id, hT, ht, hg⟩ := hr pins { s3 with heap := s3.heap.push { cls := .type "slice", data := .fields #[vl, vu, .none] } } σ H3 x v vl vu l u s3.heap.objs.size Q I4 r1 (Heap.IsSliceOf.new ..) pl pu q3
 exact tail_any ht hT hg (by with_unfolding_all rfl)
noncomputable def cutV (xs : List V) (lo hi : Option Int) : List V := (xs.drop (HT.sIx xs.length 0 lo)).take (HT.sIx xs.length xs.length hi - HT.sIx xs.length 0 lo)
theorem cutV_length xs lo hi : (cutV xs lo hi).length <= xs.length := by
 unfold cutV
 rw [List.length_take, List.length_drop]
 lia
end
theorem ixN_seq (h : ixN n i = some j) : seqIndex? i n = some j /\ j < n /\ -(n : Int) <= i /\ i < n := by
 unfold ixN at h
 by_cases h0 : 0 <= i
 · rw [if_pos h0] at h
   by_cases h1 : i < n
   · rw [if_pos h1] at h
     have e := Option.some.inj h
     exact ⟨by rw [seqIndex_of h0 h1, e], by lia, by lia, h1⟩
   · rw [if_neg h1] at h; cases h
 · rw [if_neg h0] at h
   by_cases h1 : -(n : Int) <= i
   · rw [if_pos h1] at h
     have e := Option.some.inj h
     exact ⟨by rw [seqIndex_neg (by lia) h1, e], by lia, h1, by lia⟩
   · rw [if_neg h1] at h; cases h
theorem atI_get (h : atI xs i = some v) : ∃ j, seqIndex? i xs.length = some j /\ xs[j]? = some v /\ j < xs.length /\ -(xs.length : Int) <= i /\ i < xs.length := by
 unfold atI at h
 cases e : ixN xs.length i with
 | none => rw [e] at h; cases h
 | some j =>
   rw [e] at h
   obtain ⟨h1, h2, h3, h4⟩ := ixN_seq e
   exact ⟨j, h1, h, h2, h3, h4⟩
theorem atI_nat {xs : List α} {j : Nat} {v : α} (h : xs[j]? = some v) : atI xs (j : Int) = some v := by
 have hj := (List.getElem?_eq_some_iff.mp h).1
 have e : ixN xs.length (j : Int) = some j := by
  unfold ixN
  rw [if_pos (by lia), if_pos (by lia)]; simp
 unfold atI; rw [e]; exact h
def PlainIx (b : Expr) : Prop := ∀ o i, subscripted b false o i = operate [o, i] (getItem o i)
def IxR (X : Cx) (r : R2) : Prop :=
 ∀ (value slice : Expr) (pins : List (Addr × Obj)) (s : Shared) (σ : St) (H : Hp) (x y : V) (v u : Value) (Q : VK), Inv X pins σ H s -> RelV x v -> RelV y u -> r x y H Q →
  subscripted slice false v u = operate [v, u] (getItem v u) -> wpAny (model X.prog X.w) X.A (subscriptTail value slice v u) (EP X pins σ Q) X.xe s
def MtR (X : Cx) (id : String) (r : V -> List V -> Hp -> VK -> Prop) : Prop :=
 ∀ (pins : List (Addr × Obj)) (s : Shared) (σ : St) (H : Hp) (x : V) (xs : List V) (v : Value) (us : List Value) (Q : VK), Inv X pins σ H s -> RelV x v -> Vals xs us -> r x xs H Q →
  wpAny (model X.prog X.w) X.A (call (.builtin id) (v :: us)) (EP X pins σ Q) X.xe s
section
variable {a b : Expr}
theorem IxR.or (h : IxR X r) (h' : IxR X r') : IxR X (fun x y H Q => r x y H Q \/ r' x y H Q) := by
 intro value slice pins s σ H x y v u Q I rx ry q hs
 rcases q with q | q
 · exact h value slice pins s σ H x y v u Q I rx ry q hs
 · exact h' value slice pins s σ H x y v u Q I rx ry q hs
theorem pe_ix (hr : IxR X r) (ha : PE X a ta) (hb : PE X b tb) (hs : PlainIx b) : PE X (.Subscript a b pos) (tOp r ta tb) := by
 intro pins s σ H Q I h
 exact Subscript_ (binT ha hb I h fun v u s2 x y H2 I2 rx ry q => hr a b pins s2 σ H2 x y v u Q I2 rx ry q (hs _ _))
noncomputable def rIxL (K : PySem.W.Frag) : R2 := fun x y H Q => ∃ p xs i v, x = .ref p /\ y = .int i /\ SqL K H p xs /\ atI xs i = some v /\ Q v H
noncomputable def rIxT (K : PySem.W.Frag) : R2 := fun x y H Q => ∃ p xs i v, x = .ref p /\ y = .int i /\ SqT K H p xs /\ atI xs i = some v /\ Q v H
noncomputable def rIxS : R2 := fun x y H Q => ∃ z i c, x = .str z /\ y = .int i /\ z.length <= sizeLine /\ atI z.cps.toList i = some c /\ Q (.str ⟨#[c]⟩) H
theorem ix_list : IxR X (rIxL X.K) := by
 intro value slice pins s σ H x y v u Q I rx ry h hs
 obtain ⟨p, xs, i, z, rfl, rfl, hq, he, q⟩ := h
 cases rx
 obtain ⟨t, rfl⟩ := ry
 obtain ⟨its, r, pl, hz⟩ := I.list hq
 obtain ⟨j, h1, h2, h3, h4, h5⟩ := atI_get he
 obtain ⟨w, ew, rw'⟩ := r.get h2
 have hl := r.length
 have hn := line63
 have fin : EP X pins σ Q w s := ⟨z, H, I, rw', q⟩
 by_cases h0 : 0 <= i
 · have hj : i.toNat = j := by
    rw [seqIndex_of h0 h5] at h1
    exact Option.some.inj h1
   exact item_listR pl.isList h0 (by lia) (by rw [hj]; simpa using ew) fin hs
 · have hj : (i + (its.toArray.size : Int)).toNat = j := by
    rw [seqIndex_neg (by lia) h4] at h1
    rw [List.size_toArray, <- hl]
    exact Option.some.inj h1
   exact subscriptTail_builtinR pl.isList.typeIs slot_list_getitem.lookup
    (wpAny_getItem_list_neg pl.isList (by lia) (by rw [List.size_toArray] <;> lia) (by lia) (by rw [hj]; simpa using ew) ⟨rfl, fin⟩) hs
theorem ix_tup : IxR X (rIxT X.K) := by
 intro value slice pins s σ H x y v u Q I rx ry h hs
 obtain ⟨p, xs, i, z, rfl, rfl, hq, he, q⟩ := h
 cases rx
 obtain ⟨t, rfl⟩ := ry
 obtain ⟨its, r, pl, hz⟩ := I.tuple hq
 obtain ⟨j, h1, h2, h3, h4, h5⟩ := atI_get he
 obtain ⟨w, ew, rw'⟩ := r.get h2
 have hl := r.length
 have hn := line63
 have fin : EP X pins σ Q w s := ⟨z, H, I, rw', q⟩
 exact subscriptTail_builtinR pl.typeIs slot_tuple_getitem.lookup
  (getItem_tuple pl (by lia) (by lia) (by rw [List.size_toArray, <- hl]; exact h1) (by simpa using ew) ⟨rfl, fin⟩) hs
theorem ix_str : IxR X rIxS := by
 intro value slice pins s σ H x y v u Q I rx ry h hs
 obtain ⟨z, i, c, rfl, rfl, hz, he, q⟩ := h
 obtain ⟨t, rfl⟩ := rx
 obtain ⟨t', rfl⟩ := ry
 obtain ⟨j, h1, h2, h3, h4, h5⟩ := atI_get he
 have hl : z.cps.toList.length = z.length := by simp [Str.length]
 rw [hl] at h1 h4 h5
 have hn := line63
 exact tail_any (typeIs_str s z t) slot_str_getitem.lookup (getItem_str (by
  have e1 : decide (i < -(2 ^ 63 : Int)) = false := decide_eq_false (by lia)
  have e2 : decide (i ≥ 2 ^ 63) = false := decide_eq_false (by lia)
  rw [e1, e2, Bool.or_false]) (by rw [h1]; simpa using h2) ⟨.str ⟨#[c]⟩, H, I.tok _, ⟨_, rfl⟩, q⟩) hs
noncomputable def rIx (K : PySem.W.Frag) : R2 := fun x y H Q => rIxL K x y H Q \/ rIxT K x y H Q \/ rIxS x y H Q
theorem ix_seq : IxR X (rIx X.K) := ix_list.or (ix_tup.or ix_str)
theorem mapSeq_set (its : List Value) n j u : Obj.mapSeq (·.setIfInBounds j u) { cls := .type "list", data := .seq its.toArray n } = { cls := .type "list", data := .seq (its.set j u).toArray n } := by
 simp [Obj.mapSeq]
theorem Inv.lst {pins : List (Addr × Obj)} {σ : St} {H : Hp} {s : Shared} {p : Addr} {xs : List V} (I : Inv X pins σ H s) (h : H p = some (.lst xs)) :
  ∃ (its : List Value) (n : Nat), Vals xs its /\ s.heap.get? p = some { cls := .type "list", data := .seq its.toArray n } /\ xs.length <= sizeLine := by
 obtain ⟨z, its, n, r, e⟩ := I.hok p _ h
 exact ⟨its, n, r, e, z⟩
theorem Inv.lstUpd {its its' : List Value} (I : Inv X pins σ H s) (h : H p = some (.lst xs))
  (ho : s.heap.get? p = some { cls := .type "list", data := .seq its.toArray n }) (hf : f { cls := .type "list", data := .seq its.toArray n } = { cls := .type "list", data := .seq its'.toArray n' }) (r : Vals ys its') (hz : ys.length <= sizeLine) t :
  Inv X pins σ (upd H p (.lst ys)) { s with heap := s.heap.update p f, toks := t } := by
 have e : (s.heap.update p f).get? p = some { cls := .type "list", data := .seq its'.toArray n' } := by
  rw [Heap.get?_update_self f ho (by rw [hf] <;> rfl), hf]
 refine I.write (x := p) (e := p) (by rw [h]; trivial) (.inl rfl) (fun b u hb q => (Heap.get?_update_other _ _ (Ne.symm hb)).trans q) ⟨_, e⟩ ?_
 exact ⟨hz, its', n', r, e⟩
noncomputable def rSetL : V -> V -> V -> Hp -> (Hp -> Prop) -> Prop := fun o i v H Q => ∃ p xs k j, o = .ref p /\ i = .int k /\ H p = some (.lst xs) /\ ixN xs.length k = some j /\ Q (upd H p (.lst (xs.set j v)))
theorem set_list : PSet X rSetL := by
 intro pins s σ H o i v ov iv u Q I ro ri rv h
 obtain ⟨p, xs, k, j, rfl, rfl, hp, hj, q⟩ := h
 cases ro
 obtain ⟨t, rfl⟩ := ri
 obtain ⟨its, n, r, ho, hz⟩ := I.lst hp
 obtain ⟨h1, h2, h3, h4⟩ := ixN_seq hj
 have hl := r.length
 have hn := line63
 have I' : Inv X pins σ (upd H p (.lst (xs.set j v))) { s with heap := s.heap.update p (Obj.mapSeq (·.setIfInBounds j u)) } :=
  I.lstUpd hp ho (mapSeq_set its n j u) (r.set rv j) (by rw [List.length_set]; exact hz) s.toks
 by_cases h0 : 0 <= k
 · have hk : k.toNat = j := by
    rw [seqIndex_of h0 h4] at h1
    exact Option.some.inj h1
   exact PySem.W.ki_setAt ho h0 (by lia) (by rw [List.size_toArray, <- hl]; exact h4) (by rw [hk]; exact ⟨_, I', q⟩)
 · have hk : (k + (its.toArray.size : Int)).toNat = j := by
    rw [seqIndex_neg (by lia) h3] at h1
    rw [List.size_toArray, <- hl]
    exact Option.some.inj h1
   exact PySem.W.ki_setBack ho (by lia) (by rw [List.size_toArray, <- hl]; exact h3) (by lia) (by rw [hk]; exact ⟨_, I', q⟩)
theorem slice_bounds lo hi n : (sliceBounds lo hi none n).1 = ((HT.sIx n 0 lo : Nat) : Int) /\ (sliceBounds lo hi none n).2.1 = ((HT.sIx n n hi : Nat) : Int) /\ (sliceBounds lo hi none n).2.2 = 1 := by
 refine ⟨?_, ?_, rfl⟩
 · cases lo with
   | none => simp [sliceBounds, HT.sIx]
   | some i =>
     simp only [sliceBounds, HT.sIx, Option.getD_none, show (1 : Int) > 0 by decide, if_true]
     by_cases h : i < 0
     · simp only [h, if_true] <;> lia
     · simp only [h, if_false] <;> lia
 · cases hi with
   | none => simp [sliceBounds, HT.sIx]
   | some i =>
     simp only [sliceBounds, HT.sIx, Option.getD_none, show (1 : Int) > 0 by decide, if_true]
     by_cases h : i < 0
     · simp only [h, if_true] <;> lia
     · simp only [h, if_false] <;> lia
theorem slicePick_cut (its : List Value) lo hi : slicePick its.toArray lo hi none = ((its.drop (HT.sIx its.length 0 lo)).take (HT.sIx its.length its.length hi - HT.sIx its.length 0 lo)).toArray := by
 obtain ⟨h1, h2, h3⟩ := slice_bounds lo hi its.toArray.size
 unfold slicePick
 rw [h1, h2, h3]
 simp only [sliceRange_one, pick_run, List.size_toArray] <;> rfl
noncomputable def rSlL (K : PySem.W.Frag) : V -> Option Int -> Option Int -> Hp -> VK -> Prop := fun x lo hi H Q => ∃ a xs, x = .ref a /\ SqL K H a xs /\ ∀ p, H p = none -> Q (.ref p) (upd H p (.lst (cutV xs lo hi)))
theorem sl_list : SlR X (rSlL X.K) := by
 intro pins s σ H x v vl vu lo hi sl Q I rx hs pl pu h
 obtain ⟨a, xs, rfl, hx, q⟩ := h
 cases rx
 obtain ⟨its, r, ht, hz⟩ := I.list hx
 have hlen := r.length
 refine ⟨"list", _, slot_list_getitem.lookup, ht.isList.typeIs, ?_⟩
 refine wpAny_getItem_list_slice ht.isList hs pl pu .none (by simp) ?_ (by rw [List.size_toArray] <;> lia)
 rw [slicePick_cut, <- hlen]
 refine ⟨.ref s.heap.objs.size, _, I.laid (fun b ob q => Heap.get?_push_of_some _ q) (Nat.le_refl _) ?_, rfl, q _ (I.hok.fresh (Nat.le_refl _))⟩
 exact ⟨Nat.le_trans (cutV_length xs lo hi) hz, _, 0, (r.drop (HT.sIx xs.length 0 lo)).take (HT.sIx xs.length xs.length hi - HT.sIx xs.length 0 lo), Heap.get?_push_size _ rfl⟩
theorem call_len_seq : CallR X (.builtin "len") (fun xs H Q => ∃ p ys, xs = [.ref p] /\ (SqL X.K H p ys \/ SqT X.K H p ys) /\ Q (.int ys.length) H) := by
 intro pins s σ H xs us Q I r h
 obtain ⟨p, ys, rfl, hq, q⟩ := h
 obtain ⟨u, rfl, rx⟩ := vals1 r
 cases rx
 have hn := line63
 rcases hq with hq | hq
 · obtain ⟨its, r', pl, hz⟩ := I.list hq
   have hlen := r'.length
   exact Calls.call_len_list pl.isList (by simp [List.size_toArray] <;> lia) ⟨.int ys.length, H, I.tok _, ⟨s.toks + 1, by rw [List.size_toArray, hlen]⟩, q⟩
 · obtain ⟨its, r', pl, hz⟩ := I.tuple hq
   have hlen := r'.length
   exact len_tuple pl (by simp [List.size_toArray] <;> lia) ⟨.int ys.length, H, I.tok _, ⟨s.toks + 1, by rw [List.size_toArray, hlen]⟩, q⟩
theorem call_len_str : CallR X (.builtin "len") (fun xs H Q => ∃ z, xs = [.str z] /\ z.length <= sizeLine /\ Q (.int z.length) H) := by
 intro pins s σ H xs us Q I r h
 obtain ⟨z, rfl, hz, q⟩ := h
 obtain ⟨u, rfl, t, rfl⟩ := vals1 r
 have hn := line63
 exact len_str (by lia) ⟨.int z.length, H, I.tok _, ⟨_, rfl⟩, q⟩
theorem CallR.or (h : CallR X f r) (h' : CallR X f r') : CallR X f (fun xs H Q => r xs H Q \/ r' xs H Q) := by
 intro pins s σ H xs us Q I rs q
 rcases q with q | q
 · exact h pins s σ H xs us Q I rs q
 · exact h' pins s σ H xs us Q I rs q
theorem call_list_of : CallR X (.type "list") (fun xs H Q => ∃ p ys, xs = [.ref p] /\ (SqL X.K H p ys \/ SqT X.K H p ys) /\ ∀ l, H l = none -> Q (.ref l) (upd H l (.lst ys))) := by
 intro pins s σ H xs us Q I r h
 obtain ⟨p, ys, rfl, hq, q⟩ := h
 obtain ⟨u, rfl, rx⟩ := vals1 r
 cases rx
 have fin : ∀ (its : List Value), Vals ys its -> ys.length <= sizeLine -> ∀ (h' : Heap) (c' : Nat), (∀ b o', s.heap.get? b = some o' -> h'.get? b = some o') →
   h'.get? s.heap.objs.size = some { cls := .type "list", dict := none, data := .seq its.toArray c', slots := #[] } -> EP X pins σ Q (.ref s.heap.objs.size) { s with heap := h' } := fun its r' hz h' c' kp e =>
  ⟨.ref s.heap.objs.size, _, I.laid kp (Nat.le_refl _) (show ObjOk X.prog X.w _ h' _ (.lst ys) from ⟨hz, its, c', r', e⟩), rfl, q _ (I.hok.fresh (Nat.le_refl _))⟩
 rcases hq with hq | hq
 · obtain ⟨its, r', pl, hz⟩ := I.list hq
   have hlen := r'.length
   obtain ⟨o, ho, hc, n, hd⟩ := pl.isList
   exact call_list_seq p (.inl rfl) ho hc hd (fun h' c' kp e => fin its r' hz h' c' kp e) (by simp [List.size_toArray] <;> lia)
 · obtain ⟨its, r', pl, hz⟩ := I.tuple hq
   have hlen := r'.length
   obtain ⟨o, ho, hc, n, hd⟩ := pl
   exact call_list_seq p (.inr rfl) ho hc hd (fun h' c' kp e => fin its r' hz h' c' kp e) (by simp [List.size_toArray] <;> lia)
def tyV (K : PySem.W.Frag) (T : String) (x : V) (H : Hp) : Prop := match x with
 | .str _ => T = "str"
 | .int _ => T = "int"
 | .ref p => (T = "list" /\ ∃ xs, SqL K H p xs) \/ (T = "tuple" /\ ∃ o, K.lookup p = some o /\ o.cls = .type "tuple" /\ o.dict = none) ∨
    (T = "dict" /\ ((∃ kvs, H p = some (.dK kvs)) \/ ∃ kvs, H p = some (.dT kvs))) \/ (T = "set" /\ ∃ S n, H p = some (.set S n))
 | _ => False
theorem tyV_is (I : Inv X pins σ H s) (r : RelV x v) (ty : tyV X.K T x H) :
  s.TypeIs v T /\ ∀ a, v = .ref a -> ∃ ob, s.heap.get? a = some ob /\ ob.dict = none := by
 cases x with
 | str z =>
   obtain ⟨t, rfl⟩ := r
   cases (ty)
   exact ⟨typeIs_str s z t, fun _ e => nomatch e⟩
 | int i =>
   obtain ⟨t, rfl⟩ := r
   cases (ty)
   exact ⟨typeIs_int s i t, fun _ e => nomatch e⟩
 | ref p =>
   cases r
   rcases ty with ⟨rfl, xs, hq⟩ | ⟨rfl, o, hk, hc, hd⟩ | ⟨rfl, hk⟩ | ⟨rfl, S, n, hk⟩
   · obtain ⟨its, _, pl, _⟩ := I.list hq
     refine ⟨pl.isList.typeIs, fun a e => ?_⟩
     cases e
     obtain ⟨o, n, e, c, hd, _⟩ := pl
     exact ⟨o, e, hd⟩
   · refine ⟨⟨o, I.kIn p o hk, hc⟩, fun a e => ?_⟩
     cases e
     exact ⟨o, I.kIn _ o hk, hd⟩
   · have z : ∃ o, s.heap.get? p = some o /\ o.ExactDict := by
      rcases hk with ⟨kvs, hk⟩ | ⟨kvs, hk⟩
      · obtain ⟨_, _, _, _, o, _, _, e, ex, _⟩ := I.hok p _ hk
        exact ⟨o, e, ex⟩
      · obtain ⟨_, _, _, _, o, _, _, e, ex, _⟩ := I.hok p _ hk
        exact ⟨o, e, ex⟩
     obtain ⟨o, e, ex⟩ := z
     refine ⟨⟨o, e, ex.1⟩, fun a e2 => ?_⟩
     cases e2
     exact ⟨o, e, ex.2.1⟩
   · obtain ⟨o, _, _, _, e, ex, _⟩ := I.hok p _ hk
     refine ⟨⟨o, e, ex.1⟩, fun a e2 => ?_⟩
     cases e2
     exact ⟨o, e, ex.2.1⟩
 | _ => exact False.elim ty
def tBM0 (K : PySem.W.Frag) (T : String) (r : V -> List V -> Hp -> VK -> Prop) (to : TE) : TE := fun σ H Q => to σ H fun x H1 => tyV K T x H1 /\ r x [] H1 Q
def tBM (K : PySem.W.Frag) (T : String) (r : V -> List V -> Hp -> VK -> Prop) (to : TE) (t : TA) : TE := fun σ H Q => to σ H fun x H1 => tyV K T x H1 /\ t σ H1 fun xs H2 => r x xs H2 Q
variable {T id : String}
theorem pe_bm0 (pa : PlainAttrs T) (slot : Slot T name id) (hty : typeOf (.builtin id) = pure (.type "method_descriptor")) (hm : MtR X id r) (ho : PE X o to)
  (hbase : attributeBase o name X.env (eval o X.env) = eval o X.env := by rfl) (hline : (apos.endLine == cpos.line) = true := by rfl) : PE X (.Call (.Attribute o name apos) [] [] cpos) (tBM0 X.K T r to) := by
 intro pins s σ H Q I h
 refine wpAny_Call_method0_late hbase hline (thn (ho pins s σ H _ I h) fun v s1 zq => ?_)
 obtain ⟨x, H1, I1, r1, ty, q1⟩ := zq
 obtain ⟨h1, h2⟩ := tyV_is I1 r1 ty
 exact ⟨T, id, pa, slot, hty, h1, h2, Calls.callWith_builtin rfl (PySem.evalArgs_none (hm pins s1 σ H1 x [] v [] Q I1 r1 .nil q1))⟩
theorem pe_bm (pa : PlainAttrs T) (slot : Slot T name id) (hty : typeOf (.builtin id) = pure (.type "method_descriptor")) (hm : MtR X id r) (ho : PE X o to) (ha : PA X (e :: es) t)
  (hbase : attributeBase o name X.env (eval o X.env) = eval o X.env := by rfl)
  (hfew : ((backTo cpos (starEach (e :: es) X.env)).all (fun x => !x.1) && (backToKw cpos (keywordEach [] X.env)).all (fun x => x.1.isSome)
    && decide ((e :: es).length + ([] : List Keyword).length + (if ([] : List Keyword).isEmpty then 0 else 1) < 30)) = true := by rfl)
  (hline : (apos.endLine == cpos.line) = true := by rfl) (hs : starEach (e :: es) X.env = (false, eval e X.env) :: starEach es X.env := by rfl) (hplain : (backTo cpos (starEach es X.env)).any (·.1) = false := by rfl) :
  PE X (.Call (.Attribute o name apos) (e :: es) [] cpos) (tBM X.K T r to t) := by
 intro pins s σ H Q I h
 refine wpAny_Call_method_late hbase hfew hline rfl (thn (ho pins s σ H _ I h) fun v s1 zq => ?_)
 obtain ⟨x, H1, I1, r1, ty, q1⟩ := zq
 obtain ⟨h1, h2⟩ := tyV_is I1 r1 ty
 refine ⟨T, id, pa, slot, hty, h1, h2, ?_⟩
 have hA := ha cpos pins s1 σ H1 _ I1 q1
 rw [hs] at hA ⊢
 refine Calls.callWith_builtin (by show (false || (backTo cpos (starEach es X.env)).any (·.1)) = false; rw [hplain] <;> rfl) (Calls.evalArgs_plain ?_)
 exact thn hA fun us s2 ⟨vs, H2, I2, r2, q2⟩ => hm pins s2 σ H2 x vs v us Q I2 r1 r2 q2
/- xs.append(e), list.index on a module's tuple .. are MtR facts of 06m -/
end
def MtM (X : Cx) (id : String) (r : V -> List V -> Hp -> VK -> Prop) : Prop :=
 ∀ (pins : List (Addr × Obj)) (s : Shared) (σ : St) (H : Hp) (x : V) (xs : List V) (v : Value) (us : List Value) (Q : VK), Inv X pins σ H s -> RelV x v -> Vals xs us -> r x xs H Q →
  wpAny (model X.prog X.w) X.A (call (.builtin id) (v :: us)) (EP X pins σ Q) X.xe s
theorem Vals.one : ∀ {x : V} {us : List Value}, Vals [x] us -> ∃ u, us = [u] /\ RelV x u
 | _, _, .cons r .nil => ⟨_, rfl, r⟩
theorem Vals.zero : ∀ {us : List Value}, Vals [] us -> us = []
 | _, .nil => rfl
theorem Vals.reverse (h : Vals xs us) : Vals xs.reverse us.reverse := by
 induction h with
 | nil => exact .nil
 | cons r t ih => rw [List.reverse_cons, List.reverse_cons]; exact Vals.append ih (.cons r .nil)
section
theorem Inv.lset {its its' : List Value} (I : Inv X pins σ H s) (hH : H l = some (.lst xs))
  (e : s.heap.get? l = some { cls := .type "list", data := .seq its.toArray n }) (hf : f its.toArray = its'.toArray) (hv : Vals ys its') (hz : ys.length <= sizeLine) :
  Inv X pins σ (upd H l (.lst ys)) { s with heap := s.heap.update l (Obj.mapSeq f), toks := t' } := by
 have q := PySem.IsL.update e f
 rw [hf] at q
 refine I.write (by rw [hH]; exact trivial) (.inl rfl) (fun b' u hb hu => (Heap.get?_update_other s.heap (Obj.mapSeq f) (Ne.symm hb)).trans hu) ⟨_, q⟩ ?_
 exact ⟨hz, its', _, hv, q⟩
theorem Inv.lnew (I : Inv X pins σ H s) (hv : Vals ys its) (hz : ys.length <= sizeLine) :
  Inv X pins σ (upd H s.heap.objs.size (.lst ys)) { s with heap := s.heap.push { cls := .type "list", data := .seq its.toArray }, toks := t' } :=
 I.laid (fun _ _ q => Heap.get?_push_of_some _ q) (Nat.le_refl _) ⟨hz, its, 0, hv, Heap.get?_push_size _ rfl⟩
theorem Inv.fresh (I : Inv X pins σ H s) : H s.heap.objs.size = none := I.hok.fresh (Nat.le_refl _)
theorem Inv.lstM (I : Inv X pins σ H s) (hH : H l = some (.lst xs)) : xs.length <= sizeLine /\ ∃ its n, Vals xs its /\ xs.length = its.length /\ s.heap.get? l = some { cls := .type "list", data := .seq its.toArray n } := by
 obtain ⟨z, its, n, r, e⟩ := I.hok l _ hH
 exact ⟨z, its, n, r, r.length, e⟩
theorem notLongL (h : n <= sizeLine) : Builtin.List.listTooLong n = false := by
 exact decide_eq_false (by lia)
end
section
noncomputable def rAppend : V -> List V -> Hp -> VK -> Prop := fun x vs H Q => ∃ l xs y, x = .ref l /\ vs = [y] /\ H l = some (.lst xs) /\ xs.length < sizeLine /\ Q .non (upd H l (.lst (xs ++ [y])))
theorem wO : MtM X "list.append" rAppend := by
 intro pins s σ H x vs v us Q I rx rv h
 obtain ⟨l, xs, y, rfl, rfl, hH, hz, q⟩ := h
 cases rx
 obtain ⟨u, rfl, ru⟩ := rv.one
 obtain ⟨z, its, n, r, hl, e⟩ := I.lstM hH
 refine call_meets F.slot_list_append ⟨_, e, rfl⟩ F.entry_list_append (F.args_list_append_2 _ _) (PySem.list_append l its.toArray n u (by rw [List.size_toArray]; lia)) ⟨e, ?_⟩
 refine ⟨.non, _, I.lset hH e (by simp) (r.append (.cons ru .nil)) ?_, rfl, q⟩
 rw [List.length_append, List.length_singleton]
 lia
noncomputable def rExtend : V -> List V -> Hp -> VK -> Prop := fun x vs H Q => ∃ l b xs zs, x = .ref l /\ vs = [.ref b] /\ H l = some (.lst xs) /\ H b = some (.lst zs) /\ xs.length + zs.length <= sizeLine /\ Q .non (upd H l (.lst (xs ++ zs)))
theorem mt_extend : MtM X "list.extend" rExtend := by
 intro pins s σ H x vs v us Q I rx rv h
 obtain ⟨l, b, xs, zs, rfl, rfl, hH, hB, hz, q⟩ := h
 cases rx
 obtain ⟨u, rfl, ru⟩ := rv.one
 cases ru
 obtain ⟨z, its, n, r, hl, e⟩ := I.lstM hH
 obtain ⟨z2, its2, n2, r2, hl2, e2⟩ := I.lstM hB
 have hsz : its.toArray.size + its2.toArray.size <= sizeLine := by rw [List.size_toArray, List.size_toArray]; lia
 have hlong : ¬ (!its.toArray.isEmpty && Builtin.List.listTooLong (its.toArray.size + its2.toArray.size)) = true := by
  rw [notLongL hsz, Bool.and_false]
  exact Bool.false_ne_true
 refine call_meets F.slot_list_extend ⟨_, e, rfl⟩ F.entry_list_extend (F.args_list_extend_2 _ _)
  (AutoSeq1.list_extend_list_list_0 l its.toArray n b its2.toArray n2 hlong (by rw [List.size_toArray]; lia) (by lia)) ⟨e, e2, ?_⟩
 refine ⟨.non, _, I.lset hH e (by simp) (r.append r2) ?_, rfl, q⟩
 rw [List.length_append]
 lia
noncomputable def rClear : V -> List V -> Hp -> VK -> Prop := fun x vs H Q => ∃ l xs, x = .ref l /\ vs = [] /\ H l = some (.lst xs) /\ Q .non (upd H l (.lst []))
theorem mt_clear : MtM X "list.clear" rClear := by
 intro pins s σ H x vs v us Q I rx rv h
 obtain ⟨l, xs, rfl, rfl, hH, q⟩ := h
 cases rx
 have hus := rv.zero
 subst hus
 obtain ⟨z, its, n, r, hl, e⟩ := I.lstM hH
 refine call_meets F.slot_list_clear ⟨_, e, rfl⟩ F.entry_list_clear (F.args_list_clear_1 _) (AutoSeq1.list_clear_list_0 l its.toArray n (by rw [List.size_toArray]; lia)) ⟨e, ?_⟩
 exact ⟨.non, _, I.lset hH e rfl .nil (Nat.zero_le _), rfl, q⟩
end
section
end
section
end
section
variable {κ : Type} [DecidableEq κ]
noncomputable def valV (kvs : List (κ × V)) (k : κ) : Option V := (kvs.find? fun kv => decide (kv.1 = k)).map (·.2)
noncomputable def putK (kvs : List (κ × V)) (k : κ) (v : V) : List (κ × V) :=
 if (kvs.any fun kv => decide (kv.1 = k)) = true then kvs.map (fun kv => if kv.1 = k then (kv.1, v) else kv) else kvs ++ [(k, v)]
noncomputable def dropK (kvs : List (κ × V)) (k : κ) : List (κ × V) := kvs.filter fun kv => decide (kv.1 ≠ k)
theorem vT {k : κ} (e : p.1 = k) : valV (p :: r) k = some p.2 := by simp [valV, List.find?_cons, e]
theorem kB {k : κ} (e : ¬ p.1 = k) : valV (p :: r) k = valV r k := by simp [valV, List.find?_cons, e]
theorem vJ (k : κ) : ∀ kvs, (kvs.any fun kv => decide (kv.1 = k)) = (valV kvs k).isSome
 | [] => rfl
 | p :: r => by
   rw [List.any_cons]
   by_cases e : p.1 = k
   · simp only [vT e, decide_eq_true e, Bool.true_or, Option.isSome_some]
   · rw [kB e, decide_eq_false e, Bool.false_or]; exact vJ k r
theorem length_putK kvs (k : κ) v : (putK kvs k v).length <= kvs.length + 1 := by
 unfold putK
 split
 · rw [List.length_map]; lia
 · rw [List.length_append, List.length_cons, List.length_nil]; lia
theorem vU {k : κ} v (h : valV kvs k = none) : putK kvs k v = kvs ++ [(k, v)] := by
 unfold putK
 rw [vJ, h]
 exact if_neg (by decide)
theorem RelO.isSome_eq (r : RelO o u) : o.isSome = u.isSome := by
 cases o with
 | none => cases u with
   | none => rfl
   | some _ => exact (r).elim
 | some _ => cases u with
   | none => exact (r).elim
   | some _ => rfl
theorem RelO.getD (r : RelO o u) (rd : RelV d d') : RelV (o.getD d) (u.getD d') := by
 cases o with
 | none => cases u with
   | none => exact rd
   | some _ => exact (r).elim
 | some _ => cases u with
   | none => exact (r).elim
   | some _ => exact r
theorem KV.val (r : KV kvs vs) (k : κ) : RelO (valV kvs k) (valueAt vs k) := by
 induction r with
 | nil => exact True.intro
 | @cons p q ps qs h t ih =>
   obtain ⟨h1, h2⟩ := h
   by_cases e : p.1 = k
   · have e' : q.1 = k := h1.symm.trans e
     have b : valueAt (q :: qs) k = some q.2 := by simp [valueAt, List.find?_cons, e']
     rw [vT e, b]; exact h2
   · have e' : ¬ q.1 = k := fun z => e (h1.trans z)
     have b : valueAt (q :: qs) k = valueAt qs k := by simp [valueAt, List.find?_cons, e']
     rw [kB e, b]; exact ih
theorem KV.any (r : KV kvs vs) (k : κ) : (kvs.any fun kv => decide (kv.1 = k)) = vs.any fun kv => decide (kv.1 = k) := by
 induction r with
 | nil => rfl
 | cons h t ih => rw [List.any_cons, List.any_cons, ih, h.1]
theorem KV.repl (r : KV kvs vs) (k : κ) (ry : RelV y u) :
  KV (kvs.map fun kv => if kv.1 = k then (kv.1, y) else kv) (vs.map fun kv => if kv.1 = k then (kv.1, u) else kv) := by
 induction r with
 | nil => exact .nil
 | @cons p q ps qs h t ih =>
   rw [List.map_cons, List.map_cons]
   refine .cons ?_ ih
   obtain ⟨h1, h2⟩ := h
   by_cases e : p.1 = k
   · rw [if_pos e, if_pos (h1.symm.trans e)]; exact ⟨h1, ry⟩
   · rw [if_neg e, if_neg (fun z => e (h1.trans z))]; exact ⟨h1, h2⟩
theorem KV.put (r : KV kvs vs) (k : κ) (ry : RelV y u) : KV (putK kvs k y) (stored vs k u) := by
 unfold putK stored
 rw [r.any k]
 by_cases e : (vs.any fun kv => decide (kv.1 = k)) = true
 · rw [if_pos e, if_pos e]; exact r.repl k ry
 · rw [if_neg e, if_neg e]; exact Paired.snoc r ⟨rfl, ry⟩
theorem KV.drop (r : KV kvs vs) (k : κ) : KV (dropK kvs k) (without vs k) := by
 unfold dropK without
 induction r with
 | nil => exact .nil
 | @cons p q ps qs h t ih =>
   obtain ⟨h1, h2⟩ := h
   rw [List.filter_cons, List.filter_cons]
   by_cases e : p.1 = k
   · have a : ¬ decide (p.1 ≠ k) = true := by simp [e]
     have b : ¬ decide (q.1 ≠ k) = true := by simp [h1.symm.trans e]
     rw [if_neg a, if_neg b]; exact ih
   · have e' : ¬ q.1 = k := fun z => e (h1.trans z)
     have a : decide (p.1 ≠ k) = true := by simp [e]
     have b : decide (q.1 ≠ k) = true := by simp [e']
     rw [if_pos a, if_pos b]; exact .cons ⟨h1, h2⟩ ih
theorem KV.length {kvs : List (κ × V)} (r : KV kvs vs) : kvs.length = vs.length := Paired.length r
end
theorem kV_is (r : RelV (kV k) u) : (mixKind P w).is k u = true := by
 rcases k with (_ | i) | x
 · cases (r); rfl
 · obtain ⟨t, rfl⟩ := (r); simp [mixKind, keyIs, Value.isInt]
 · obtain ⟨t, rfl⟩ := (r); simp [mixKind, keyIs, Value.isStrOf]
theorem items_are : ∀ {ks : List Key} {us : List Value}, Vals (ks.map kV) us -> ItemsAre (mixKind P w) ks us
 | [], _, r => by rw [List.map_nil] at r; cases r; exact .nil
 | k :: ks, _, r => by
   rw [List.map_cons] at r
   cases r with
   | cons h t => exact .cons (kV_is h) (items_are t)
abbrev KT (H : Hp) : List (List Key × V) -> List (List Key × Addr × Value) -> Prop := Paired fun p q => p.1 = q.1 /\ H q.2.1 = some (.tup (p.1.map kV)) /\ RelV p.2 q.2.2
theorem KT.val (r : KT H kvs xs) k : RelO (valV kvs k) ((atKey xs k).map (·.2)) := by
 induction r with
 | nil => exact True.intro
 | @cons p q ps qs h t ih =>
   obtain ⟨h1, _, h2⟩ := h
   by_cases e : p.1 = k
   · have e' : q.1 = k := h1.symm.trans e
     have b : atKey (q :: qs) k = some q.2 := by simp [atKey, List.find?_cons, e']
     rw [vT e, b]; exact h2
   · have e' : ¬ q.1 = k := fun z => e (h1.trans z)
     have b : atKey (q :: qs) k = atKey qs k := by simp [atKey, List.find?_cons, e']
     rw [kB e, b]; exact ih
theorem KT.repl (r : KT H kvs xs) k (ry : RelV y u) :
  KT H (kvs.map fun kv => if kv.1 = k then (kv.1, y) else kv) (xs.map (putAt k u)) := by
 induction r with
 | nil => exact .nil
 | @cons p q ps qs h t ih =>
   rw [List.map_cons, List.map_cons]
   refine .cons ?_ ih
   obtain ⟨h1, h2, h3⟩ := h
   unfold putAt
   by_cases e : p.1 = k
   · rw [if_pos e, if_pos (h1.symm.trans e)]; exact ⟨h1, h2, ry⟩
   · rw [if_neg e, if_neg (fun z => e (h1.trans z))]; exact ⟨h1, h2, h3⟩
theorem KT.put (r : KT H kvs xs) k (hb : H b = some (.tup (k.map kV))) (ry : RelV y u) :
  KT H (putK kvs k y) (storedH xs k b u) := by
 have e : (kvs.any fun kv => decide (kv.1 = k)) = (atKey xs k).isSome := by
  rw [vJ, (r.val k).isSome_eq, Option.isSome_map]
 unfold putK storedH
 rw [e]
 by_cases q : (atKey xs k).isSome = true
 · rw [if_pos q, if_pos q]; exact r.repl k ry
 · rw [if_neg q, if_neg q]; exact Paired.snoc r ⟨rfl, hb, ry⟩
theorem KT.keeps (r : KT H kvs xs) (ht : ∀ b ys, H b = some (.tup ys) -> H' b = some (.tup ys)) : KT H' kvs xs :=
 Paired.mapP r fun _ _ z => ⟨z.1, ht _ _ z.2.1, z.2.2⟩
section
theorem rd_of (ok : HOk P w H h) (e : Rd H a u) : ObjOk P w H h a u := e.ok ok
theorem dk_rd (ok : HOk P w H h) (e : Rd H a (.dK kvs)) : kvs.length <= sizeLine /\ (a == sysModules) = false /\ ∃ vs, KV kvs vs /\ h.DictOf (mixKind P w) a vs :=
 show ObjOk P w H h a (.dK kvs) from rd_of ok e
theorem dk_of (ok : HOk P w H h) (e : H a = some (.dK kvs)) : kvs.length <= sizeLine /\ (a == sysModules) = false /\ ∃ vs, KV kvs vs /\ h.DictOf (mixKind P w) a vs := dk_rd ok (.inl e)
theorem key_of (ok : HOk P w H h) (e : H a = some (.tup (ks.map kV))) : (tupleKind (mixKind P w)).is h ks a := by
 obtain ⟨_, its, r, o, h1, h2, n, h3⟩ := (ok a _ e)
 exact ⟨o, its.toArray, n, h1, h2, h3, by simpa using items_are r⟩
theorem dt_rd (ok : HOk P w H h) (e : Rd H a (.dT kvs)) : kvs.length <= sizeLine /\ (a == sysModules) = false ∧
  ∃ xs, KT H kvs xs /\ h.DictOfH (tupleKind (mixKind P w)) a xs := by
 obtain ⟨z, y, xs, r, o, es, ep, h1, h2, h3, h4, h5⟩ := (rd_of ok e)
 refine ⟨z, y, xs, r, o, es, ep, h1, h2, h3, h4, fun x hx => ?_, h5⟩
 have all : ∀ {l : List (List Key × V)} {m : List (List Key × Addr × Value)}, KT H l m -> ∀ x ∈ m, (tupleKind (mixKind P w)).is h x.1 x.2.1 := by
  intro l m q
  induction q with
  | nil => intro x hx; exact nomatch hx
  | @cons p q ps qs hq t ih =>
    intro x hx
    rcases List.mem_cons.mp hx with e | hx
    · subst e
      exact key_of ok (by rw [<- hq.1]; exact hq.2.1)
    · exact ih x hx
 exact all r x hx
theorem dt_of (ok : HOk P w H h) (e : H a = some (.dT kvs)) : kvs.length <= sizeLine /\ (a == sysModules) = false ∧
  ∃ xs, KT H kvs xs /\ h.DictOfH (tupleKind (mixKind P w)) a xs := dt_rd ok (.inl e)
end
def DGet (H : Hp) (a : Addr) (y : V) (r : Option V) : Prop :=
 (∃ kvs k, Rd H a (.dK kvs) /\ y = kV k /\ r = valV kvs k) \/ ∃ kvs k b, Rd H a (.dT kvs) /\ y = .ref b /\ H b = some (.tup (k.map kV)) /\ r = valV kvs k
def DPut (H : Hp) (a : Addr) (y v : V) (H' : Hp) : Prop :=
 (∃ kvs k, H a = some (.dK kvs) /\ y = kV k /\ kvs.length < sizeLine /\ H' = upd H a (.dK (putK kvs k v))) ∨
 ∃ kvs k b, H a = some (.dT kvs) /\ y = .ref b /\ H b = some (.tup (k.map kV)) /\ kvs.length < sizeLine /\ H' = upd H a (.dT (putK kvs k v))
theorem DGet.t {k : List Key} (e : H a = some (.dT kvs)) (eb : H b = some (.tup (k.map kV))) : DGet H a (.ref b) (valV kvs k) := .inr ⟨kvs, k, b, .inl e, rfl, eb, rfl⟩
theorem DPut.k {k : Key} (e : H a = some (.dK kvs)) (hl : kvs.length < sizeLine) : DPut H a (kV k) v (upd H a (.dK (putK kvs k v))) := .inl ⟨kvs, k, e, rfl, hl, rfl⟩
theorem DPut.t {k : List Key} (e : H a = some (.dT kvs)) (eb : H b = some (.tup (k.map kV))) (hl : kvs.length < sizeLine) :
  DPut H a (.ref b) v (upd H a (.dT (putK kvs k v))) := .inr ⟨kvs, k, b, e, rfl, eb, hl, rfl⟩
section
theorem Inv.big (I : Inv X pins σ H s) : sysModules < s.heap.objs.size := by
 have h := (I.mod.glob.keeps I.bk).lt
 exact Nat.lt_trans (by decide) h
theorem d_write (I : Inv X pins σ H s) (mu : Mut (H a)) (hs : Heap.SameBut a s.heap h') (he : ∃ q, h'.get? a = some q) (new : ObjOk X.prog X.w (upd H a ob) h' a ob) :
  Inv X pins σ (upd H a ob) { s with heap := h', toks := t' } :=
 I.write mu (.inl rfl) (fun b q hb z => (hs.2 b hb).trans z) he new
theorem dk_new (z : kvs.length <= sizeLine) (hd : (a == sysModules) = false) (rel : KV kvs vs) (dd : h'.DictOf (mixKind P w) a vs) :
  ObjOk P w H' h' a (.dK kvs) := ⟨z, hd, vs, rel, dd⟩
theorem d_setItem (hu : A.units + 1 < cLine) (I : Inv X pins σ H s) (g : DPut H a y v H') (ry : RelV y u) (rv : RelV v r) (h : ∀ s', Inv X pins σ H' s' -> Q () s') :
  wpAny (model X.prog X.w) A (setItem (.ref a) u r) Q E s := by
 rcases g with ⟨kvs, k, e, ey, l, eH⟩ | ⟨kvs, k, b, e, ey, eb, l, eH⟩
 · subst ey eH
   obtain ⟨z, hd, vs, rel, dd⟩ := dk_of I.hok e
   have hz : vs.length <= sizeLine := by rw [<- rel.length]; exact z
   have hl : (putK kvs k v).length <= sizeLine := by have := length_putK kvs k v; lia
   refine wpAny_setItem_pairs (kV_is ry) dd fun h' dd' hs => h _ ?_
   have he : ∃ q, h'.get? a = some q := let ⟨q, _, _, hq, _⟩ := dd'; ⟨q, hq⟩
   exact d_write I (by rw [e]; exact True.intro) hs he (dk_new hl hd (rel.put k rv) dd')
 · subst ey eH
   cases (ry)
   obtain ⟨z, hd, xs, rel, dd⟩ := dt_of I.hok e
   have hz : xs.length <= sizeLine := by rw [<- Paired.length rel]; exact z
   have hl : (putK kvs k v).length <= sizeLine := by have := length_putK kvs k v; lia
   refine wpAny_setItem_heap (tupleKind_room_in1 hu) (key_of I.hok eb) dd fun h' dd' hs => h _ ?_
   obtain ⟨q, es, ep, hq, h2, h3, h4, _, h5⟩ := dd'
   refine d_write I (by rw [e]; exact True.intro) hs ⟨q, hq⟩ ⟨hl, hd, _, (rel.put k eb rv).keeps fun c ys ec => ?_, q, es, ep, hq, h2, h3, h4, h5⟩
   rw [upd_ne (ne_of ec e (fun z => nomatch z))]
   exact ec
end
section
end
def sDPut (td ty tv : TE) : TS := fun D σ H => tv σ H fun v H1 => td σ H1 fun x H2 => ty σ H2 fun y H3 => ∃ a H4, x = .ref a /\ DPut H3 a y v H4 /\ D.nx σ H4
section
theorem ps_dput (hu : X.A.units + 1 < cLine) (ho : PE X o td) (hi : PE X i ty) (hv : PE X value tv) (hs : swapsWith value (some (.Subscript o i pos')) pos.line X.env = pure false) :
  PS X (.Assign [.Subscript o i pos'] value pos) (sDPut td ty tv) := by
 intro pins s σ H D I h
 refine wpAny_Assign_Subscript (thn (hv pins s σ H _ I h) fun r s1 ⟨v, H1, I1, rv, q1⟩ => thn (ho pins s1 σ H1 _ I1 q1) fun u s2 ⟨x, H2, I2, rx, q2⟩ => thn (hi pins s2 σ H2 _ I2 q2) fun iv s3 zq => ?_) hs
 obtain ⟨y, H3, I3, ry, a, H4, ex, g, q3⟩ := zq
 subst ex
 obtain rfl : u = Value.ref a := rx
 exact d_setItem hu I3 g ry rv fun s4 I4 => ⟨σ, H4, I4, q3⟩
end
theorem dk_empty (h : Heap) (hb : sysModules < h.objs.size) : ObjOk P w H (h.push { cls := .type "dict", data := .dict #[] }) h.objs.size (.dK []) :=
 ⟨Nat.zero_le _, beq_eq_false_iff_ne.mpr (Ne.symm (Nat.ne_of_lt hb)), [], .nil, Heap.DictOf.new h⟩
def tDNewK : TE := fun _ H Q => ∀ p, H p = none -> Q (.ref p) (upd H p (.dK []))
section
theorem pe_dnewK : PE X (.Dict [] [] pos) tDNewK := fun pins s σ H Q I h =>
 wpAny_Dict_empty ⟨.ref s.heap.objs.size, _, I.laid (fun _ _ q => Heap.get?_push_of_some _ q) (Nat.le_refl _) (dk_empty s.heap I.big), rfl, h _ (I.hok.fresh (Nat.le_refl _))⟩
end
section
end
section
end
section
end
section
end
end L2
namespace Att
open PySem PySem.W PySem.Calls PyProof.Rows
theorem ints_of_wellAll : ∀ ns vs, WellAll P h vs (ns.map WData.int) -> IntsAre vs ns := by
 intro ns
 induction ns with
 | nil =>
   intro vs w
   cases w
   exact .nil
 | cons n ns ih =>
   intro vs w
   cases w with
   | cons a b =>
     cases a
     exact .cons _ _ (ih _ b)
theorem script_of {l : OpenLaw} (hn : l.most = some n)
  (hpre : l.row.toRowW.claim.pre args = true) (hwl : WellAll P h vals args) :
  ∃ a vs ns, vals = [Value.ref a] /\ args = [WData.list (ns.map WData.int)] /\ h.get? a = some { cls := .type "list", data := .seq vs.toArray } /\ IntsAre vs ns /\ ns.length <= n := by
 have hsh := (pre_splitW hpre).1
 have hc : l.pre.holds [] { args := args } = true := (pre_splitW hpre).2
 obtain ⟨d, r, rfl, h1, h2⟩ := hasAllW_cons hsh
 obtain rfl := hasAllW_nil h2
 obtain ⟨xs, rfl, h3⟩ := hasW_list h1
 obtain ⟨ns, rfl⟩ := items_int h3
 have hlen : ns.length <= n := by
  have h4 : (WTm.not (.lt (.lit (.int (n : Int))) (.len (.arg 0)))).holds [] { args := [.list (ns.map .int)] } = true := by
   have h4 := (holds_andW hc).1
   rw [hn] at h4
   exact h4
  have h5 := condW_of h4 (w_not (w_lt w_lit (w_len_list (w_arg rfl))))
  refine Nat.le_of_not_lt fun q => ?_
  first
   | (rw [decide_eq_true q'] at h5; exact absurd h5 (by decide))
   | (simp at h5; lia)
 cases hwl with
 | cons w1 w2 =>
   cases w2
   cases w1 with
   | list ho hall => exact ⟨_, _, ns, rfl, rfl, ho, ints_of_wellAll ns _ hall, hlen⟩
theorem post_true (l : OpenLaw) args : l.row.toRowW.claim.post args (.bool true) args = true :=
 postW_of (r := l.row.toRowW) (X := (true == true))
  (show WShape.has [] (.bool true) .bool = true by first | rfl | decide | simp [WShape.has, WShape.arms, WShape.armsAll])
  (show (WTm.eq .res (.lit (.bool true))).value [] { args := args, res := some (.bool true), after := args } = some (.bool (true == true)) from w_eq_bool (w_res rfl) w_lit) rfl
section
variable {K : Frag}
end
end Att
namespace L2
open PySem PySem.Spec PyProof.Rows
theorem vals_ints : ∀ {vs : List Value} {ns : List Int}, IntsAre vs ns -> Vals (ns.map V.int) vs
 | _, _, .nil => .nil
 | _, _, .cons n t h => .cons ⟨t, rfl⟩ (vals_ints h)
noncomputable def inClass (s : Stmt) (j : Nat) : Stmt := match s with
 | .ClassDef _ _ _ body _ _ _ _ _ _ _ => body.getD j (.Pass ⟨0, 0, 0, 0⟩)
 | _ => .Pass ⟨0, 0, 0, 0⟩
noncomputable def jL (s : Stmt) : Arguments := match s with
 | .FunctionDef _ a _ _ _ _ _ _ _ _ => a
 | _ => { posonlyargs := [], args := [], vararg := none, kwonlyargs := [], kw_defaults := [], kwarg := none, defaults := [] }
noncomputable def qV (s : Stmt) : List Stmt := match s with
 | .FunctionDef _ _ b _ _ _ _ _ _ _ => b
 | _ => []
noncomputable def zF (s : Stmt) : Scope := match s with
 | .FunctionDef _ _ _ _ _ _ sc _ _ _ => sc
 | _ => { kind := .function, names := [], isGenerator := false, isCoroutine := false }
abbrev CX0 : CXT := fun _ _ _ _ _ _ => False
abbrev E0 : XK := fun _ _ _ => False
theorem pass0 : Passes CX0 X E0 := fun _ _ _ _ _ _ _ h => h.elim
structure Fun (K : PySem.W.Frag) (x qual : Str) (st : Stmt) (f : Addr) (fd : FuncData) : Prop where
 ex : ∃ (oc : Value) (od : Option Addr) (kV doc pm : Value) (an : Option Addr) (cdv ct : Value) (osl : Array (Option Value)),
  fd = PySem.W.fnOf x qual (jL st) (qV st) (zF st) .none kV doc pm an cdv ct /\ K.lookup f = some ⟨oc, od, .func fd, osl⟩ /\ PySem.W.codeIn K cdv qual = true
 kp : PySem.W.keepIn K (.ref f) = true
section
variable {K : PySem.W.Frag}
theorem Fun.ok {st : Stmt} (F : Fun K x qual st f fd) (S : FnScope N ps (zF st)) (len : ∀ vs H Q E, sp vs H Q E -> vs.length = ps.length)
  (hbody : ∀ cdv A outer s H vs Q E, Room k (A.deeper (envOfC qual (zF st) s.heap.objs.size f cdv)) -> sp vs H Q E →
    ∃ t, PSs (cxOf CX0 P w K mg base N qual (zF st) f cdv A outer s H E).nox (qV st) t /\ t { nx := fun _ H' => Q .non H', rt := Q } (start N vs) H) : FnOk P w K mg base CX0 (k + 1) f fd ps sp := by
 obtain ⟨oc, od, kV, doc, pm, an, cdv, ct, osl, rfl, lk, hcd⟩ := F.ex
 refine fn_of lk hcd S len fun A outer s H vs Q E hr hsp => ?_
 obtain ⟨t, h, q⟩ := hbody cdv A outer s H vs Q E hr hsp
 exact ⟨t, h.nox, q⟩
theorem Fun.binds {st : Stmt} (F : Fun K x qual st f fd)
  (h : ∀ kV doc pm an cdv ct us, us.length = ps.length -> bindArgs (PySem.W.fnOf x qual (jL st) (qV st) (zF st) .none kV doc pm an cdv ct) ⟨us, []⟩ = pure (ps.zip us)) : Binds K fd ps [] := by
 obtain ⟨oc, od, kV, doc, pm, an, cdv, ct, osl, rfl, lk, hcd⟩ := F.ex
 exact .all (h kV doc pm an cdv ct)
theorem fun_mk {st : Stmt} {kV doc pm cdv ct : Value} (l : K.lookup f = some ⟨oc, od, .func (PySem.W.fnOf x qual (jL st) (qV st) (zF st) .none kV doc pm an cdv ct), osl⟩)
  (c : PySem.W.codeIn K cdv qual = true) (k : PySem.W.keepIn K (.ref f) = true) : Fun K x qual st f (PySem.W.fnOf x qual (jL st) (qV st) (zF st) .none kV doc pm an cdv ct) := ⟨⟨oc, od, kV, doc, pm, an, cdv, ct, osl, rfl, l, c⟩, k⟩
end
section
theorem pv i (hN : X.N[i]? = some x := by rfl) (hv : Vis X.env.scope x := by first | exact Or.inl rfl | exact Or.inr (Or.inl rfl) | exact Or.inr (Or.inr rfl)) (hd : (x == ("__debug__" : Str)) = false := by decide)
  (hcd : (x == ("__classdict__" : Str)) = false := by decide) : PE X (.Name x pos) (tVar i) := jZ hN hv hd hcd
end
theorem iteF {A B : Prop} (h : B) : if false = true then A else B := by
 exact h
theorem iteT {A B : Prop} (h : A) : if true = true then A else B := by
 exact h
def Same (H H' : Hp) : Prop := ∀ b o, H b = some o -> H' b = some o
theorem Same.refl H : Same H H := fun _ _ h => h
theorem Same.trans (a : Same H H1) (b : Same H1 H2) : Same H H2 := fun c o h => b c o (a c o h)
theorem Same.free (e : Same H H') (h : H' l = Option.none) : H l = Option.none := by
 cases q : H l with
 | none => rfl
 | some o =>
   rw [e l o q] at h
   cases h
theorem Same.seq {K : PySem.W.Frag} (e : Same H H') (h : SqL K H a xs) : SqL K H' a xs := by
 rcases h with (h | ⟨o, h⟩) | h
 · exact .inl (.inl (e _ _ h))
 · exact .inl (.inr ⟨o, e _ _ h⟩)
 · exact .inr h
section
end
section
variable {κ : Type} [DecidableEq κ]
end
noncomputable def wE (env : Env) : List (Str × NameKind) -> List (Str × Addr) -> List (Str × Addr)
 | [], cs => cs
 | (n, k) :: r, cs => wE env r (if k == NameKind.free then (match env.cells.lookup n with | some c => (n, c) :: cs | none => cs) else cs)
theorem closureFor_of (h : ∀ y ∈ scope.names, y.2 = NameKind.free -> ∃ c, env.cells.lookup y.1 = some c) : closureFor scope env = pure (wE env scope.names []) := by
 simp only [closureFor]
 generalize ([] : List (Str × Addr)) = cs
 revert h cs
 generalize scope.names = l
 intro h
 induction l with
 | nil => intro cs; rfl
 | cons y r ih =>
   intro cs
   obtain ⟨n, k⟩ := y
   have ihr := ih fun z hz => h z (List.mem_cons_of_mem _ hz)
   simp only [List.forIn_cons, wE]
   by_cases hk : k = NameKind.free
   · obtain ⟨c, hc⟩ := h (n, k) List.mem_cons_self hk
     have hc' := hc
     have hcell : cellOf env n = pure c := by unfold cellOf; rw [hc']
     subst hk
     simp [hcell, hc', beq_self_eq_true, if_true, pure_bind, bind_pure_comp, map_pure, bind_assoc]
     first
      | exact ihr _
      | simpa using ihr _
   · have hb : (k == NameKind.free) = false := by simpa using hk
     simp [hb, Bool.false_eq_true, if_false, pure_bind]
     first
      | exact ihr _
      | simpa using ihr _
theorem closL_from : ∀ l cs, (∀ x c, cs.lookup x = some c -> env.cells.lookup x = some c) -> ∀ x c, (wE env l cs).lookup x = some c -> env.cells.lookup x = some c
 | [], _, h => h
 | (n, k) :: r, cs, h => by
   unfold wE
   refine closL_from r _ fun x c e => ?_
   split at e
   · cases hc : env.cells.lookup n with
     | none => rw [hc] at e; exact h x c e
     | some c' =>
       rw [hc] at e
       simp only [List.lookup_cons] at e
       by_cases hx : x == n
       · rw [hx] at e
         cases e
         rw [beq_iff_eq] at hx
         rw [hx]
         exact hc
       · have hx' : (x == n) = false := by simpa using hx
         rw [hx'] at e
         exact h x c e
   · exact h x c e
theorem closL_keep : ∀ l cs x, (∃ c, cs.lookup x = some c) -> ∃ c, (wE env l cs).lookup x = some c
 | [], _, _, h => h
 | (n, k) :: r, cs, x, h => by
   unfold wE
   refine closL_keep r _ x ?_
   split
   · cases hc : env.cells.lookup n with
     | none => exact h
     | some c' =>
       simp only [List.lookup_cons]
       by_cases hx : x == n
       · rw [hx]; exact ⟨_, rfl⟩
       · have hx' : (x == n) = false := by simpa using hx
         rw [hx']; exact h
   · exact h
theorem wT : ∀ l cs x c, (x, NameKind.free) ∈ l -> env.cells.lookup x = some c -> ∃ c, (wE env l cs).lookup x = some c
 | [], _, _, _, h, _ => nomatch h
 | (n, k) :: r, cs, x, c, h, hc => by
   unfold wE
   rcases List.mem_cons.mp h with e | e
   · cases e
     refine closL_keep r _ _ ?_
     simp only [beq_self_eq_true, if_true, hc, List.lookup_cons]
     exact ⟨_, rfl⟩
   · exact wT r _ x c e hc
theorem lookup_relabel_free {env : Env} : ∀ {names : List (Str × NameKind)} {x : Str}, names.lookup x = some NameKind.free →
  (names.map fun (n, k) => if (k == NameKind.free && env.scope.kind == .function && env.kindOf n == some .cell) then (n, NameKind.cell) else (n, k)).lookup x = some NameKind.cell ∨
  (names.map fun (n, k) => if (k == NameKind.free && env.scope.kind == .function && env.kindOf n == some .cell) then (n, NameKind.cell) else (n, k)).lookup x = some NameKind.free
 | [], _, h => by simp at h
 | (n, k) :: r, x, h => by
   have ih := @lookup_relabel_free env r x
   simp only [List.map_cons]
   cases hx : x == n with
   | true =>
     simp only [List.lookup_cons, hx] at h
     cases h
     by_cases hc : (NameKind.free == NameKind.free && env.scope.kind == .function && env.kindOf n == some .cell) = true
     · rw [if_pos hc]; left; simp only [List.lookup_cons, hx]
     · rw [if_neg hc]; right; simp only [List.lookup_cons, hx]
   | false =>
     simp only [List.lookup_cons, hx] at h
     by_cases hc : (k == NameKind.free && env.scope.kind == .function && env.kindOf n == some .cell) = true
     · rw [if_pos hc]; simp only [List.lookup_cons, hx]; exact ih h
     · rw [if_neg hc]; simp only [List.lookup_cons, hx]; exact ih h
theorem xX {env : Env} : ∀ {names : List (Str × NameKind)} {x : Str} {k' : NameKind}, (∀ y ∈ names, y.2 ≠ NameKind.cell) →
  (names.map fun (n, k) => if (k == NameKind.free && env.scope.kind == .function && env.kindOf n == some .cell) then (n, NameKind.cell) else (n, k)).lookup x = some k' -> (k' = NameKind.cell \/ k' = NameKind.free) -> (x, NameKind.free) ∈ names
 | [], _, _, _, h, _ => by simp at h
 | (n, k) :: r, x, k', hn, h, hk => by
   have ih := @xX env r x k' fun y hy => hn y (List.mem_cons_of_mem _ hy)
   simp only [List.map_cons] at h
   cases hx : x == n with
   | true =>
     have ex : x = n := by simpa using hx
     by_cases hc : (k == NameKind.free && env.scope.kind == .function && env.kindOf n == some .cell) = true
     · have : k = NameKind.free := by
        simp only [Bool.and_eq_true, beq_iff_eq] at hc
        exact hc.1.1
       subst this; subst ex
       exact List.mem_cons_self
     · rw [if_neg hc] at h
       simp only [List.lookup_cons, hx] at h
       cases h
       rcases hk with hk | hk
       · exact absurd hk (hn (n, k) List.mem_cons_self)
       · subst hk; subst ex; exact List.mem_cons_self
   | false =>
     by_cases hc : (k == NameKind.free && env.scope.kind == .function && env.kindOf n == some .cell) = true
     · rw [if_pos hc] at h; simp only [List.lookup_cons, hx] at h; exact List.mem_cons_of_mem _ (ih h hk)
     · rw [if_neg hc] at h; simp only [List.lookup_cons, hx] at h; exact List.mem_cons_of_mem _ (ih h hk)
section
variable {X : Cx}
structure CI where
 C : Addr
 s : Shared
 H : Hp
 ex : List Addr
noncomputable def jB (X : Cx) (scope : Scope) (NY : List Str) (c : CI) : Cx where
 prog := X.prog
 w := X.w
 K := X.K
 mg := X.mg
 base := X.base
 A := X.A
 N := NY
 s₀ := c.s
 H₀ := c.H
 env := compEnvC scope (wE X.env scope.names []) c.C X.env
 outer := X.stack
 stack := X.stack
 ex := c.ex
 fn := fun _ => false
 calm := X.calm
 pn := []
 xe := fun _ _ => False
theorem Inv.adopt (I : Inv X pins σ H s) (hn : H a = none) (young : X.s₀.heap.objs.size <= a) (hL : a ≠ X.env.locals)
  (hc : ∀ x c, X.env.cells.lookup x = some c -> c ≠ a) (hp : ∀ p ∈ X.pn ++ pins, p.1 ≠ a) (new : ObjOk X.prog X.w (upd H a o) s.heap a o) : Inv X pins σ (upd H a o) s := by
 have ne : ∀ {b : Addr} {u : HO}, H b = some u -> b ≠ a := fun e z => by rw [z, hn] at e; cases e
 refine ⟨I.ok, I.os, I.bare, ⟨I.base.keep, I.base.slot, fun b ob q n hx => ?_, I.base.there, fun b xs q => ?_, fun b ob u q => ?_, fun b ps q => ?_⟩, I.loc, I.cell, ?_, fun x c e => ?_, fun p hpm => ?_, fun b u e => ?_, I.len⟩
 · rw [upd_ne (Nat.ne_of_lt (Nat.lt_of_lt_of_le (Heap.lt_size q) young))]
   exact I.base.free b ob q n hx
 · have := I.base.tups b xs q
   rw [upd_ne (ne this)]; exact this
 · have := I.base.frzs b ob u q
   rw [upd_ne (ne this)]; exact this
 · have := I.base.tbls b ps q
   rw [upd_ne (ne this)]; exact this
 · rw [upd_ne (Ne.symm hL)]; exact I.free
 · have := I.freeC x c e
   unfold FreeC at this ⊢
   rw [upd_ne (hc x c e)]; exact this
 · obtain ⟨h1, h2, h3⟩ := I.pin p hpm
   exact ⟨h1, by rw [upd_ne (hp p hpm)]; exact h2, h3⟩
 · by_cases hb : b = a
   · subst hb; rw [zS] at e; cases e; exact new
   · rw [upd_ne hb] at e
     exact (I.hok b u e).stay (fun c v _ q => q) (fun c q => by rw [upd_ne (ne q)]; exact q) fun c xs q => by rw [upd_ne (ne q)]; exact q
def PF (X : Cx) (ifs : List Expr) (t : TT) : Prop :=
 ∀ (pins : List (Addr × Obj)) (s : Shared) (σ : St) (H : Hp) (Q : Bool -> Hp -> Prop), Inv X pins σ H s -> t σ H Q →
  wpAny (model X.prog X.w) X.A (forIn ifs true fun c r => if r = true then do let ok <- isTrue c X.env (eval c X.env); pure (ForInStep.yield ok) else pure (ForInStep.yield r)) (TP X pins σ Q) X.xe s
def tNoIf : TT := fun _ H Q => Q true H
theorem pf_nil : PF X [] tNoIf := fun _ _ _ H _ I h => wpAny_tests_nil ⟨H, I, h⟩
theorem pf_one (h : PT X c t) : PF X [c] t := fun pins s σ H Q I q => wpAny_tests_one (h pins s σ H Q I q)
noncomputable def slotsY (mp : List (Option Nat)) (σ : St) : St := mp.map fun o => o.bind fun j => σ[j]?.join
def tCompK (J : It) (mp : List (Option Nat)) (g : CI -> TG) (tt : CI -> TT) (te : CI -> TE) (σ : St) (H1 : Hp) (R : List V -> Hp -> Prop) : Prop :=
 ∀ c : CI, ∃ W : Nat -> Nat -> List V -> Hp -> Prop, (∃ m, W 0 m [] H1) /\ ∀ i m ys H, W i m ys H →
  (J.stop i H /\ R ys H) ∨
  (J.go i H /\ ys.length < sizeLine /\ ∀ x H', J.yld i H x H' -> g c x (slotsY mp σ) H' fun σ2 H2 => tt c σ2 H2 fun b H3 =>
    if b = true then te c σ2 H3 fun y H4 => ∃ m', m' < m /\ W (i + 1) m' (ys ++ [y]) H4 else ∃ m', m' < m /\ W (i + 1) m' ys H3)
def tComp (wi : TI) (mp : List (Option Nat)) (g : CI -> TG) (tt : CI -> TT) (te : CI -> TE) : TE := fun σ H Q => wi σ H fun J H1 =>
 tCompK J mp g tt te σ H1 fun ys H' => ys.length <= sizeLine /\ ∀ p, H' p = none -> Q (.ref p) (upd H' p (.lst ys))
structure CompScope (X : Cx) (scope : Scope) (NY : List Str) (mp : List (Option Nat)) : Prop where
 kind : scope.kind = .function
 nocell : ∀ y ∈ scope.names, y.2 ≠ .cell
 names : ∀ y ∈ scope.names, y.2 = .local -> scope.names.lookup y.1 = some .local
 free : ∀ y ∈ scope.names, y.2 = .free -> (X.env.kindOf y.1 = some .cell \/ X.env.kindOf y.1 = some .free)
 len : mp.length = NY.length
 map : ∀ (i : Nat) (x : Str) (j : Nat), NY[i]? = some x -> mp[i]? = some (some j) -> X.N[j]? = some x /\ scope.names.lookup x = some .free
theorem compLoop_own (hZ : ∀ e s, Z e s -> notedBy (model prog w) A env (fun x s' => R (.error x) s') e s) (I : Nat -> Shared -> Prop)
  (turn : ∀ n s, I n s -> wpAny (model prog w) A (pyNext it) (fun r s₁ => match r with
    | none => R (.ok .next) s₁
    | some v => wpAny (model prog w) A (letOwnedTupleGo target it v) (fun _ s₁' => wpAny (model prog w) A (assign target env v) (fun _ s₂ =>
       wpAny (model prog w) A (forIn ifs true fun c r => if r = true then do let ok <- isTrue c env (eval c env); pure (ForInStep.yield ok) else pure (ForInStep.yield r)) (fun ok s₃ =>
        if ok = true then wpAny (model prog w) A (eval elt env) (fun x s₄ =>
         wpAny (model prog w) A (call (.builtin "list.append") [acc, x]) (fun _ s₅ => ∃ m, m < n /\ I m s₅) (fun _ _ => False) s₄) Z s₃
        else ∃ m, m < n /\ I m s₃) (fun _ _ => False) s₂) (fun _ _ => False) s₁') (fun _ _ => False) s₁) (fun _ _ => False) s)
  n (h : I n s) :
  codeAny (model prog w) A (.compLoop (.ListComp elt [⟨target, iter, ifs, 0⟩] scope pos) 0 it acc env) R s := by
 refine codeAny_loop rfl I (fun n s hI => ?_) n h
 show wpAny _ A ((compTurn (.ListComp elt [⟨target, iter, ifs, 0⟩] scope pos) 0 it acc env).onRaise (fun x => do noteFrame x env; theTreesLotGoes x)) _ _ s
 refine wpAny_noted ?_
 rw [compTurn_list]
 refine wpAny_bind (wpAny_standAt (wpAny_bind (wpAny_mono (turn n s hI) (fun r s₁ h₁ => ?_) fun _ _ h' => h'.elim)))
 cases r with
 | none => exact wpAny_pure h₁
 | some v =>
   refine wpAny_bind (wpAny_mono h₁ (fun _ s₁' h₁' => ?_) fun _ _ h' => h'.elim)
   refine wpAny_bind (wpAny_mono h₁' (fun _ s₂ h₂ => wpAny_bind (wpAny_mono h₂ (fun ok s₃ h₃ => ?_) fun _ _ h' => h'.elim)) fun _ _ h' => h'.elim)
   cases ok with
   | false => exact wpAny_pure ⟨rfl, h₃⟩
   | true =>
     exact wpAny_bind (wpAny_bind (wpAny_mono h₃ (fun x s₄ h₄ => wpAny_bind (wpAny_mono h₄ (fun _ s₅ h₅ => wpAny_pure (wpAny_pure ⟨rfl, h₅⟩)) fun _ _ h' => h'.elim)) fun e s' h' => hZ e s' h'))
theorem comp_block {iter : Expr}
  {RR : Value -> Addr -> Result -> Shared -> Prop}
  {WW : CI -> Value -> Shared -> Prop} (S : CompScope X scope NY mp) (hc : ∀ c, c.H = H -> cm (jB X scope NY c)) (I : Inv X pins σ H s₂) (T : Turn X.prog X.w X.K tg J fp it tn cm) (st : tn 0 s₂.heap) (hf : ∀ b ∈ fp, FpOk X pins H b)
  (hg : ∀ c, PG (jB X scope NY c) tg (g c)) (ht : ∀ c, PF (jB X scope NY c) ifs (tt c)) (he : ∀ c, PE ((jB X scope NY c).wish (WW c)) elt (te c))
  (err : ∀ c, X.s₀.heap.objs.size <= c.C -> c.C ∉ frs X.stack -> (∀ pl σ' H' s1, Inv (jB X scope NY c) pl σ' H' s1 -> Inv X pins σ H' s1) -> ∀ e s', WW c e s' -> notedBy (model X.prog X.w) X.A (jB X scope NY c).env (fun x s'' => RR (.ref s₂.heap.objs.size) c.C (.error x) s'') e s')
  (h : tCompK J mp g tt te σ H R)
  (fin : ∀ s' C m ys H', R ys H' -> H' s₂.heap.objs.size = none -> H' C = none -> C ≠ s₂.heap.objs.size -> s'.heap.Ns C m →
    (ys.length <= sizeLine -> Inv X pins σ (upd H' s₂.heap.objs.size (.lst ys)) s') →
    (C ≠ X.env.locals /\ X.s₀.heap.objs.size <= C /\ (∀ x c, X.env.cells.lookup x = some c -> c ≠ C) /\ ∀ p ∈ X.pn ++ pins, p.1 ≠ C) -> RR (.ref s₂.heap.objs.size) C (.ok .next) s') :
  wpAny (model X.prog X.w) X.A (newList []) (fun acc s₃ => wpAny (model X.prog X.w) X.A (newFunctionEnv scope X.env.globals (wE X.env scope.names []) [] X.env.qual none .none (some X.env)) (fun cenv s₄ =>
   codeAny (model X.prog X.w) X.A (.compStart (.ListComp elt [⟨tg, iter, ifs, 0⟩] scope pos) 0 (.ref it) acc { cenv with scope := relabel scope X.env }) (RR acc cenv.locals) s₄) E s₃) E s₂ := by
 refine wpAny_newObj_type (wpAny_newFunctionEnv S.nocell (by intro y hy; simp at hy) (fun h₁ hns₁ hsb₁ => ?_) S.kind)
 generalize hH2 : s₂.heap.push { cls := .type "list", dict := none, data := .seq ([] : List Value).toArray } = H2 at hns₁ hsb₁ ⊢
 have hC : (H2.objs.size : Nat) = s₂.heap.objs.size + 1 := by rw [<- hH2, Heap.size_push]
 generalize hDd : s₂.heap.objs.size = D at fin err hC ⊢
 generalize hCC : H2.objs.size = C at hns₁ hsb₁ hC ⊢
 have hDC : D ≠ C := fun z => absurd (z.trans hC) (Nat.ne_of_lt (Nat.lt_succ_self _))
 have ltC : ∀ {b : Addr}, b < D -> b ≠ C := fun {b} h => Nat.ne_of_lt (Nat.lt_of_lt_of_eq (Nat.lt_succ_of_lt h) hC.symm)
 have ltD : ∀ {b : Addr}, b < D -> b ≠ D := fun {b} h => Nat.ne_of_lt h
 have hlt : ∀ {b : Addr} {o : Obj}, s₂.heap.get? b = some o -> (b : Nat) < D := fun e => hDd ▸ Heap.lt_size e
 have k2 : ∀ b o, s₂.heap.get? b = some o -> H2.get? b = some o := fun b o e => hH2 ▸ Heap.get?_push_of_some _ e
 have k1 : ∀ b o, H2.get? b = some o -> h₁.get? b = some o := fun b o e => by
  have hb := hCC ▸ Heap.lt_size e
  exact hsb₁.extBut b o (Nat.ne_of_lt hb) (Heap.get?_push_of_some _ e)
 have fr : ∀ a, D <= a -> H a = none := fun a ha => I.hok.fresh (hDd ▸ ha)
 have accP : h₁.PlainList D #[] := ⟨_, k1 _ _ (by rw [<- hH2, <- hDd]; exact Heap.get?_push_size _ rfl)⟩
 have fpo := fun b hb => let ⟨o, e, _⟩ := T.obj 0 _ st b hb; hlt e
 have clF : ∀ x c, (wE X.env scope.names []).lookup x = some c -> X.env.cells.lookup x = some c := closL_from _ _ fun x c e => nomatch e
 have cellLt : ∀ x c, X.env.cells.lookup x = some c -> (c : Nat) < D := fun x c e => by
  obtain ⟨v, o, ho, _⟩ := I.cell x c e
  exact hlt ho
 have locLt := hDd ▸ I.lt
 have stkLt : ∀ b ∈ frs X.stack, (b : Nat) < D := fun b hb => by
  obtain ⟨_, o, ho, _⟩ := I.stack.mem hb
  exact hlt ho
 have fpStk : ∀ b ∈ fp, b ∉ frs X.stack := fun b hb z => by
  obtain ⟨_, f1, f2, _⟩ := hf b hb
  rcases List.mem_cons.mp (I.stkSub b z) with q | q
  · exact f1 q
  · exact f2 q
 have pinLt := fun p hp => hlt (I.pin p hp).1
 let Y : Cx := jB X scope NY ⟨C, { s₂ with heap := H2 }, H, D :: fp⟩
 obtain ⟨W, ⟨m0, w0⟩, turn⟩ := h ⟨C, { s₂ with heap := H2 }, H, D :: fp⟩
 have okY : Y.Ok := by
  refine ⟨I.ok.mod, S.kind, I.ok.glob, I.ok.blt, Nat.le_of_eq hCC, fun x y c h1 h2 => I.ok.inj x y c (clF _ _ h1) (clF _ _ h2), fun x hx => ?_, fun x c hfn => absurd hfn (by intro z; cases z), I.ok.hd, I.ok.frames, .inl rfl, fun b hb => ?_, fun b o e => ?_, ?_, fun b o e => ?_, fun b hb => ?_, ?_, I.stkFree⟩
  · have hx' : (x, NameKind.free) ∈ scope.names := by
     rcases hx with hx | hx
     · exact xX S.nocell hx (.inl rfl)
     · exact xX S.nocell hx (.inr rfl)
    obtain ⟨c, e⟩ := I.ok.has x (S.free _ hx' rfl)
    exact wT _ _ x c hx' e
  · rcases List.mem_cons.mp hb with z | z
    · subst z
      exact ⟨hDC, fun x c e q => absurd (cellLt x c (clF x c e)) (by rw [q]; exact Nat.lt_irrefl _)⟩
    · have := fpo b z
      exact ⟨ltC this, fun x c e q => (hf b z).2.2.2.2.1 x c (clF x c e) q⟩
  · have := I.bs b o e
    exact ⟨k2 b o this.1, this.2⟩
  · refine ⟨?_, I.tabsH⟩
    show (X.base.objs.size : Nat) <= H2.objs.size
    have h1 := Nat.le_trans I.ok.bsz.1 I.sz
    lia
  · have hb := I.bs b o e
    have hb' := hlt hb.1
    intro z
    rcases List.mem_cons.mp z with z | z
    · rw [z] at hb'; exact Nat.lt_irrefl _ hb'
    · rcases (hf b z).2.2.2.1 with q | q
      · exact I.ok.noex b o e q
      · exact absurd (Nat.lt_of_lt_of_le (Heap.lt_size (I.ok.bs b o e).1) q) (Nat.lt_irrefl _)
  · rcases List.mem_cons.mp hb with z | z
    · subst z
      exact fun q => absurd (stkLt _ q) (Nat.lt_irrefl _)
    · exact fpStk b z
  · exact I.stack.of_keeps fun b o e _ => ⟨o, k2 b o e, rfl⟩
 have capt : ∀ (i : Nat) (x : Str) (v : V), NY[i]? = some x -> (slotsY mp σ)[i]? = some (some v) -> ∃ u c, RelV v u /\ (Y.env.kindOf x = some .cell \/ Y.env.kindOf x = some .free) /\ Y.env.cells.lookup x = some c /\ H2.IsCell c (some u) /\ (H c = none \/ ∃ o u, H c = some (.frz o u)) /\ c ∉ D :: fp := by
  intro i x v e1 e2
  have e2' : (mp[i]?.map fun o => o.bind fun j => σ[j]?.join) = some (some v) := by
   unfold slotsY at e2
   rwa [List.getElem?_map] at e2
  cases hm : mp[i]? with
  | none => rw [hm] at e2'; cases e2'
  | some o =>
    rw [hm] at e2'
    cases o with
    | none => simp at e2'
    | some j =>
      simp only [Option.map_some, Option.bind_some, Option.some.injEq] at e2'
      have e4 : σ[j]? = some (some v) := by
       cases hs : σ[j]? with
       | none => rw [hs] at e2'; cases e2'
       | some q => rw [hs] at e2'; simp at e2'; rw [e2']
      obtain ⟨hXj, hfr⟩ := S.map i x j e1 hm
      have hmem := PySem.mem_of_lookup hfr
      have hk := S.free _ hmem rfl
      obtain ⟨m, hn, hl⟩ := I.loc
      obtain ⟨u, ru, l⟩ := hl j x v hXj e4 (hk.elim (fun z => .inr (.inl z)) fun z => .inr (.inr z))
      have hlook : ∃ c, X.env.cells.lookup x = some c /\ s₂.heap.IsCell c (some u) := by
       rcases l with ⟨kl, _⟩ | ⟨_, c, ec, hcell⟩
       · rcases hk with q | q
         · exact absurd (kl.symm.trans q) (by intro z; cases z)
         · exact absurd (kl.symm.trans q) (by intro z; cases z)
       · exact ⟨c, ec, hcell⟩
      obtain ⟨c, ec, oc, hoc, hocd⟩ := hlook
      obtain ⟨c', ec'⟩ := wT (env := X.env) scope.names [] x c hmem ec
      have := Option.some.inj ((clF x c' ec').symm.trans ec)
      subst this
      refine ⟨u, c', ru, lookup_relabel_free hfr, ec', ⟨oc, k2 _ _ hoc, hocd⟩, (I.freeC x c' ec).imp id And.right, fun z => ?_⟩
      rcases List.mem_cons.mp z with z | z
      · have := cellLt x c' ec; rw [z] at this; exact Nat.lt_irrefl _ this
      · exact (hf c' z).2.2.2.2.1 x c' ec rfl
 have lenY : (slotsY mp σ).length = NY.length := by
  unfold slotsY
  rw [List.length_map]
  exact S.len
 have I0 : ∀ tk, Inv Y [] (slotsY mp σ) H { s₂ with heap := h₁, toks := tk } := by
  intro tk
  refine ⟨okY, rfl, I.bare, Un.kept k1, ⟨_, hns₁, fun i x v e1 e2 e3 => ?_⟩, fun x c e => ?_, fr C (by show (D : Nat) <= C; lia), fun x c e => (I.freeC x c (clF x c e)).imp id fun z => ⟨rfl, z.2⟩, fun p hp => absurd (show p ∈ ([] : List (Addr × Obj)) from hp) (by simp), I.hok.kept fun b o e => k1 b o (k2 b o e), lenY⟩
  · obtain ⟨u, c, ru, hk, ec, ⟨oc, hoc, hocd⟩, _⟩ := capt i x v e1 e2
    exact ⟨u, ru, .inr ⟨hk, c, ec, oc, k1 _ _ hoc, hocd⟩⟩
  · obtain ⟨v, o, ho, hd⟩ := I.cell x c (clF x c e)
    exact ⟨v, o, k1 _ _ (k2 _ _ ho), hd⟩
 have stat : ∀ {H' : Hp} {pl : List (Addr × Obj)}, (∀ p ∈ pl, p.1 ∉ fp) -> (∀ b ∈ fp, H' b = none) -> ∀ b ∈ fp, FpOk Y pl H' b := fun hpl hn b hb => by
  have hbD := fpo b hb
  refine ⟨hn b hb, ltC hbD, fpStk b hb, .inl (List.mem_cons_of_mem _ hb), fun x c e => (hf b hb).2.2.2.2.1 x c (clF x c e), fun p hp z => hpl p (show p ∈ _ from hp) (z ▸ hb)⟩
 have dN : D ∉ Y.fs := fun q => absurd (stkLt _ q) (Nat.lt_irrefl _)
 have dFp : D ∉ fp := fun q => absurd (fpo _ q) (Nat.lt_irrefl _)
 have plD : ∀ (o : Obj), ∀ p ∈ [(D, o)], p.1 ∉ fp := fun o p hp => by
  have e : p = (D, o) := by simpa using hp
  rw [e]; exact dFp
 have toX : ∀ pl σ' H3 s4, Inv Y pl σ' H3 s4 -> Inv X pins σ H3 s4 := fun pl σ' H3 s4 I4 => by
  have u : Un (frs X.stack) fp H H3 s₂.heap s4.heap := by
   have B := I4.base
   have nx : ∀ {b : Addr} {o : Obj}, s₂.heap.get? b = some o -> b ∉ fp -> b ∉ D :: fp := fun e hb z => by
    rcases List.mem_cons.mp z with z | z
    · have := hlt e; rw [z] at this; exact Nat.lt_irrefl _ this
    · exact hb z
   exact ⟨fun b o q n hb hx => B.keep b o (k2 b o q) n hb (nx q hx), fun b o q n hb hx => B.slot b o (k2 b o q) n hb (nx q hx), fun b o q n hx => B.free b o (k2 b o q) n (nx q hx), fun b o q hx => B.there b o (k2 b o q) (nx q hx), B.tups, B.frzs, B.tbls⟩
  exact I.call' I4.os u I4.hok I4.bare fun b hb => ⟨(hf b hb).2.2.2.1, (hf b hb).2.1, (hf b hb).2.2.2.2.1, (hf b hb).2.2.2.2.2⟩
 have keyC : ∀ (tk : Nat) (it' : Value), it' = .ref it -> codeAny (model X.prog X.w) X.A (.compLoop (.ListComp elt [⟨tg, iter, ifs, 0⟩] scope pos) 0 it' (.ref D) Y.env) (RR (.ref D) C) { s₂ with heap := h₁, toks := tk } := by
  rintro tk _ rfl
  refine compLoop_own (Z := WW ⟨C, { s₂ with heap := H2 }, H, D :: fp⟩) (fun e s' z => err ⟨C, { s₂ with heap := H2 }, H, D :: fp⟩ (by have : (X.s₀.heap.objs.size : Nat) <= D := hDd ▸ I.sz; show (X.s₀.heap.objs.size : Nat) <= C; lia) (fun q => absurd (stkLt _ q) (by show ¬ (C : Nat) < D; lia)) toX e s' z) (fun n s' => ∃ i ys H' its, Inv Y [] (slotsY mp σ) H' s' /\ tn i s'.heap /\ (∀ b ∈ fp, H' b = none) /\ H' D = none /\ s'.heap.PlainList D its /\ Vals ys its.toList /\ W i n ys H') ?_ m0
   ⟨0, [], H, #[], I0 tk, T.keep 0 _ _ st fun b _ o e => k1 b o (k2 b o e), fun b hb => (hf b hb).1, fr D (Nat.le_refl _), accP, .nil, w0⟩
  rintro n s3 ⟨i, ys, H3, its, I3, st3, fr3, d3, ⟨kk, pl3⟩, rv3, w3⟩
  have I3' : Inv Y [(D, { cls := .type "list", data := .seq its kk })] (slotsY mp σ) H3 s3 := I3.pins_of fun p hp => by
   have e : p = (D, { cls := .type "list", data := .seq its kk }) := by simpa using hp
   subst e
   exact ⟨pl3, d3, hDC, dN, fun v z => nomatch (show Data.seq its kk = Data.cell v from z)⟩
  rcases turn i n ys H3 w3 with ⟨stop, qn⟩ | ⟨go, hsz, step⟩
  · refine thn (T.done Y rfl rfl rfl (hc ⟨C, { s₂ with heap := H2 }, H, D :: fp⟩ rfl) i _ s3 _ H3 _ I3' (stat (plD _) fr3) st3 stop) fun r s4 zq => ?_
    obtain ⟨hr, I4⟩ := zq
    subst hr
    have hD4 : s4.heap.get? D = some { cls := .type "list", data := .seq its kk } := (I4.pin (D, _) (by simp)).1
    have J4 : Inv X pins σ H3 s4 := toX _ _ _ _ I4
    obtain ⟨m4, hn4, _⟩ := I4.loc
    refine fin s4 C m4 ys H3 qn d3 I4.free (Ne.symm hDC) hn4 (fun hz => ?_) ⟨(ltC locLt).symm, ?_, fun x c e => ?_, fun p hp => ?_⟩
    · refine J4.adopt d3 ?_ (ltD locLt).symm (fun x c e => ?_) (fun p hp => ?_) ⟨hz, its.toList, kk, rv3, hD4⟩
      · exact hDd ▸ I.sz
      · exact ltD (cellLt x c e)
      · exact ltD (pinLt p hp)
    · have : (X.s₀.heap.objs.size : Nat) <= D := hDd ▸ I.sz
      show (X.s₀.heap.objs.size : Nat) <= C
      lia
    · exact ltC (cellLt x c e)
    · exact ltC (pinLt p hp)
  · refine thn (T.item Y rfl rfl rfl (hc ⟨C, { s₂ with heap := H2 }, H, D :: fp⟩ rfl) i _ s3 _ H3 _ I3' (stat (plD _) fr3) st3 go) fun r s4 zq => ?_
    obtain ⟨u, hr, h4⟩ := zq
    subst hr
    refine thn h4 fun _ s5 zq => ?_
    obtain ⟨x, H5, I5, r5, y5, st5, fr5⟩ := zq
    have I5' := I5.pinned (stat (plD _) fr5) (T.obj _ _ st5)
    refine thn (hg _ _ s5 _ H5 x u _ I5' r5 (step x H5 y5)) fun _ s6 zq => ?_
    obtain ⟨σ6, H6, I6, q6⟩ := zq
    refine thn (ht _ _ s6 σ6 H6 _ I6 q6) fun ok s7 zq => ?_
    obtain ⟨H7, I7, q7⟩ := zq
    have back : ∀ {s8 : Shared} {σ8 : St} {H8 : Hp}, Inv Y ([(D, { cls := .type "list", data := .seq its kk })] ++ pinsAt fp s5.heap) σ8 H8 s8 →
      tn (i + 1) s8.heap /\ (∀ b ∈ fp, H8 b = none) /\ H8 D = none /\ s8.heap.get? D = some { cls := .type "list", data := .seq its kk } := fun {s8 σ8 H8} I8 => by
     refine ⟨T.keep _ _ _ st5 fun b hb o e => (I8.pin (b, o) (List.mem_append_right _ (List.mem_append_right _ (yU hb e)))).1, fun b hb => ?_, ?_, ?_⟩
     · obtain ⟨o, e, d⟩ := T.obj _ _ st5 b hb
       exact (I8.pin (b, o) (List.mem_append_right _ (List.mem_append_right _ (yU hb e)))).2.1
     · exact (I8.pin (D, _) (List.mem_append_right _ (List.mem_append_left _ (List.mem_singleton.mpr rfl)))).2.1
     · exact (I8.pin (D, _) (List.mem_append_right _ (List.mem_append_left _ (List.mem_singleton.mpr rfl)))).1
    have drop : ∀ {s8 : Shared} {σ8 : St} {H8 : Hp} {pl : List (Addr × Obj)}, Inv Y pl σ8 H8 s8 -> Inv Y [] (slotsY mp σ) H8 s8 := fun {s8 σ8 H8 pl} I8 => by
     obtain ⟨m8, hn8, _⟩ := I8.loc
     refine ⟨I8.ok, I8.os, I8.bare, I8.base, ⟨m8, hn8, fun i x v e1 e2 e3 => ?_⟩, I8.cell, I8.free, I8.freeC, fun p hp => absurd (show p ∈ ([] : List (Addr × Obj)) from hp) (by simp), I8.hok, lenY⟩
     obtain ⟨u, c, ru, hk, ec, ⟨oc, hoc, hocd⟩, hn, hx⟩ := capt i x v e1 e2
     rcases hn with hn | ⟨ob, ub, hn⟩
     · obtain ⟨sl, e⟩ := I8.base.any hoc hn hx
       exact ⟨u, ru, .inr ⟨hk, c, ec, _, e, hocd⟩⟩
     · obtain ⟨e1, _⟩ := I.hok c _ hn
       obtain ⟨e2, _⟩ := I8.hok c _ (I8.base.frzs c ob ub hn)
       have e3 := k2 _ _ e1
       rw [hoc] at e3; cases e3
       exact ⟨u, ru, .inr ⟨hk, c, ec, oc, e2, hocd⟩⟩
    cases ok with
    | false =>
      obtain ⟨m', hm', w'⟩ := q7
      obtain ⟨b1, b2, b3, b4⟩ := back I7
      exact ⟨m', hm', i + 1, ys, H7, its, drop I7, b1, b2, b3, ⟨kk, b4⟩, rv3, w'⟩
    | true =>
      refine thn (he _ _ s7 σ6 H7 _ (I7.wish _) q7) fun y s8 zq => ?_
      obtain ⟨yv, H8, I8w, r8, q8⟩ := zq
      have I8 := I8w.unwish
      obtain ⟨b1, b2, b3, b4⟩ := back I8
      have hl : ys.length = its.size := by simpa using rv3.length
      refine wpAny_list_append_plain (items := its) ⟨kk, b4⟩ (fun h' pl' sb => ?_) (by lia)
      obtain ⟨m', hm', w'⟩ := q8
      have I9 : Inv Y [] (slotsY mp σ) H8 { s8 with heap := h' } := (drop I8).turned (it := D) (t' := s8.toks) (fun b o hb e => (sb.2 b hb).trans e) b3 hDC (.inl List.mem_cons_self) (fun x c e => ltD (cellLt x c (clF x c e))) fun p hp => absurd (show p ∈ ([] : List (Addr × Obj)) from hp) (by simp)
      refine ⟨m', hm', i + 1, ys ++ [yv], H8, its.push y, I9, ?_, b2, b3, pl', ?_, w'⟩
      · exact T.keep _ _ _ b1 fun b hb o e => (sb.2 b (fun z => dFp (z ▸ hb))).trans e
      · rw [Array.toList_push]
        exact rv3.append (.cons r8 .nil)
 exact codeAny_compStart_list (keyC _ _ rfl) (T.self _ 0 _ _ _ (T.keep 0 _ _ st fun b _ o e => k1 b o (k2 b o e)) (keyC _ _ rfl))
theorem pe_compC {iter : Expr}
  (S : CompScope X scope NY mp) (hc : ∀ pins σ H s, Inv X pins σ H s -> ∀ c, c.H = H -> cm (jB X scope NY c)) (hi : PI X tg iter wi cm)
  (hg : ∀ c, PG (jB X scope NY c) tg (g c)) (ht : ∀ c, PF (jB X scope NY c) ifs (tt c)) (he : ∀ c, PE (jB X scope NY c) elt (te c))
  (hs : ∀ x, foldedSetIterable iter X.env x = pure x := by intro _; rfl) : PE X (.ListComp elt [⟨tg, iter, ifs, 0⟩] scope pos) (tComp wi mp g tt te) := by
 intro pins s σ H Q I h
 refine wpAny_comprehension_free rfl hs (closureFor_of fun y hy hk => I.ok.has y.1 (S.free y hy hk)) S.kind S.names (thn (hi pins s σ H _ I h) fun v s1 h1 => thn h1 fun itv s2 h2 => ?_)
 obtain ⟨it, fp, tn, J, H2, e, I2, T, st2, f2, hk⟩ := h2
 subst e
 refine comp_block S (hc _ _ _ _ I2) I2 T st2 f2 hg ht he (fun _ _ _ _ _ _ z => z.elim) hk ?_
 intro s' C m ys H' q hD hC hCD hn hI hct
 refine ⟨m, hn, fun h' sb => ?_⟩
 have J' := hI q.1
 refine ⟨.ref s2.heap.objs.size, _, J'.turned (fun b o hb e => (sb.2 b hb).trans e) (by rw [upd_ne hCD]; exact hC) hct.1 (.inr hct.2.1) hct.2.2.1 hct.2.2.2, rfl, q.2 _ hD⟩
theorem pe_comp {iter : Expr}
  (S : CompScope X scope NY mp) (hc : X.calm = true) (hi : PI X tg iter wi)
  (hg : ∀ c, PG (jB X scope NY c) tg (g c)) (ht : ∀ c, PF (jB X scope NY c) ifs (tt c)) (he : ∀ c, PE (jB X scope NY c) elt (te c))
  (hs : ∀ x, foldedSetIterable iter X.env x = pure x := by intro _; rfl) : PE X (.ListComp elt [⟨tg, iter, ifs, 0⟩] scope pos) (tComp wi mp g tt te) := pe_compC S (fun _ _ _ _ _ _ _ => hc) hi hg ht he hs
def tCompS (wi : TI) (mp : List (Option Nat)) (g : CI -> TG) (tt : CI -> TT) (te : CI -> TE) (i : Nat) : TS := fun D σ H => tComp wi mp g tt te σ H fun v H1 => D.nx (σ.set i (some v)) H1
theorem ps_comp {iter : Expr}
  (hN : X.N.Nodup) (hy : X.N[i]? = some y) (hl : X.env.scope.names.lookup y = some .local)
  (hsw : swapsWith (.ListComp elt [⟨tg, iter, ifs, 0⟩] scope pos) (some (.Name y py)) spos.line X.env = pure true)
  (S : CompScope X scope NY mp) (hc : X.calm = true) (hi : PI X tg iter wi)
  (hg : ∀ c, PG (jB X scope NY c) tg (g c)) (ht : ∀ c, PF (jB X scope NY c) ifs (tt c)) (he : ∀ c, PE (jB X scope NY c) elt (te c))
  (hs : ∀ x, foldedSetIterable iter X.env x = pure x := by intro _; rfl) : PS X (.Assign [.Name y py] (.ListComp elt [⟨tg, iter, ifs, 0⟩] scope pos) spos) (tCompS wi mp g tt te i) := by
 intro pins s σ H D I h
 rw [exec_Assign_Name_used _ _ _ _ hsw]
 refine wpAny_bind (wpAny_standAt (wpAny_bind ?_))
 refine wpAny_bind (wpAny_mono (wpAny_comprehension_free rfl hs (closureFor_of fun y hy hk => I.ok.has y.1 (S.free y hy hk)) S.kind S.names
  (thn (hi pins s σ H _ I h) fun v s1 h1 => thn h1 fun itv s2 h2 => ?_)) (fun _ s' hq => wpAny_pure (wpAny_pure hq)) fun _ _ e => e)
 obtain ⟨it, fp, tn, J, H2, e, I2, T, st2, f2, hk⟩ := h2
 subst e
 refine comp_block S (fun _ _ => hc) I2 T st2 f2 hg ht he (fun _ _ _ _ _ _ z => z.elim) hk ?_
 intro s' C m ys H' q hD hC hCD hn hI hct
 have J' := hI q.1
 refine wpAny_assign_Name (store_ok2 J' hN hy (.inl hl) (v := .ref s2.heap.objs.size) rfl (fun s'' I'' sb => ?_) (.inr hl))
 obtain ⟨a, sba, ha⟩ := sb
 have haC : C ≠ a := by
  rcases ha with rfl | ha
  · exact hct.1
  · exact fun z => hct.2.2.1 _ _ ha z.symm
 refine ⟨m, hn.sameBut sba haC, fun h' sb' => ?_⟩
 exact ⟨_, _, I''.turned (fun b o hb e => (sb'.2 b hb).trans e) (by rw [upd_ne hCD]; exact hC) hct.1 (.inr hct.2.1) hct.2.2.1 hct.2.2.2, q.2 _ hD⟩
end
end L2
namespace FL
open PySem PySem.Spec PyProof.Rows L2
abbrev Frag := PySem.W.Frag
def KLst (K : Frag) (a : Addr) (xs : List V) : Prop := ∃ (o : Obj) (its : Array Value) (n : Nat), K.lookup a = some o /\ o.cls = .type "list" /\ o.dict = none /\ o.data = .seq its n /\ its.size <= sizeLine /\ Vals xs its.toList
def KTup (K : Frag) (a : Addr) (xs : List V) : Prop := ∃ (o : Obj) (its : Array Value) (n : Nat), K.lookup a = some o /\ o.cls = .type "tuple" /\ o.data = .seq its n /\ its.size <= sizeLine /\ Vals xs its.toList
structure LamT where
 qual : Str
 params : Arguments
 body : FuncBody
 scope : Scope
noncomputable def lamsE (q : Str) : Nat -> Expr -> List LamT
 | 0, _ => []
 | n + 1, e => match e with
   | .Lambda a b sc _ => [⟨q ++ "<lambda>", a, .expr b, sc⟩]
   | .Call _ as _ _ => as.flatMap (lamsE q n)
   | .Compare l _ cs _ => lamsE q n l ++ cs.flatMap (lamsE q n)
   | .BoolOp _ vs _ => vs.flatMap (lamsE q n)
   | .UnaryOp _ o _ => lamsE q n o
   | .BinOp l _ r _ => lamsE q n l ++ lamsE q n r
   | .IfExp t b o _ => lamsE q n t ++ (lamsE q n b ++ lamsE q n o)
   | .List es _ => es.flatMap (lamsE q n)
   | .Tuple es _ _ => es.flatMap (lamsE q n)
   | .Subscript v i _ => lamsE q n v ++ lamsE q n i
   | _ => []
noncomputable def lamsS (q : Str) : Nat -> Stmt -> List LamT
 | 0, _ => []
 | n + 1, s => match s with
   | .FunctionDef x a b _ _ _ sc _ _ _ => [⟨q ++ x, a, .stmts b, sc⟩]
   | .Assign _ e _ => lamsE q 12 e
   | .Return (some e) _ => lamsE q 12 e
   | .Expr e _ => lamsE q 12 e
   | .If t a b _ => lamsE q 12 t ++ (a.flatMap (lamsS q n) ++ b.flatMap (lamsS q n))
   | .For _ _ a _ _ => a.flatMap (lamsS q n)
   | .While _ a _ _ => a.flatMap (lamsS q n)
   | _ => []
noncomputable def lamsOf (x : Str) (b : List Stmt) : List LamT := b.flatMap (lamsS (x ++ ".<locals>.") 8)
noncomputable def textIn (K : PySem.W.Frag) (m n : Nat) : Option LamT := (makers[m]?).bind fun x => match fnAt K x with
 | some (some (.ref f)) => (match K.lookup f with
   | some ⟨_, _, .func fd, _⟩ => (match fd.body with
     | .stmts b => (lamsOf x b)[n]?
     | _ => none)
   | _ => none)
 | _ => none
noncomputable def freeR (l : List (Str × NameKind)) : List Str := ((l.filter fun y => y.2 == NameKind.free).map (·.1)).reverse
inductive ClosOk (H : Hp) (O : Addr -> Prop) : List (Str × Addr) -> List V -> Prop
 | nil : ClosOk H O [] []
 | cons {n : Str} {c : Addr} {o : Obj} {u : HO} {w : Value} {x : V} {cl : List (Str × Addr)} {xs : List V} (no : ¬ O c) (h : H c = some (.frz o u)) (d : o.data = .cell (some w)) (r : RelV x w) (t : ClosOk H O cl xs) : ClosOk H O ((n, c) :: cl) (x :: xs)
def LamAt (H : Hp) (O : Addr -> Prop) (f : Addr) (t : LamT) (cl : List (Str × Addr)) : Prop := ¬ O f /\ ∃ (o oc : Obj) (u uc : HO) (fd : FuncData) (c : Addr) (vs : Array Value) (tq : Tok),
 H f = some (.frz o u) /\ o.cls = .type "function" /\ o.data = .func fd /\ fd.qualname = t.qual /\ fd.params = t.params /\ fd.body = t.body /\ fd.scope = t.scope /\ fd.globals = mainGlobals /\ fd.closure = cl /\ fd.defaults = .none /\ fd.kwdefaults = .none /\ fd.code = .ref c /\ fd.builtins = builtinsNs ∧
 ¬ O c /\ H c = some (.frz oc uc) /\ oc.data = .fields vs /\ vs[1]? = some (.str t.qual tq)
mutual
inductive Rep (K : Frag) (H : Hp) (O : Addr -> Prop) : V -> D -> Prop
 | non : Rep K H O .non .non
 | bl (b : Bool) : Rep K H O (.bl b) (.bl b)
 | int (i : Int) : Rep K H O (.int i) (.int i)
 | str (x : Str) : Rep K H O (.str x) (.str x)
 | tup {a : Addr} {xs : List V} {ds : List D} (n : ¬ O a) (h : Rd H a (.tup xs)) (r : Reps K H O xs ds) : Rep K H O (.ref a) (.tup ds)
 | tupK {a : Addr} {xs : List V} {ds : List D} (h : KTup K a xs) (r : Reps K H O xs ds) : Rep K H O (.ref a) (.tup ds)
 | lst {a : Addr} {xs : List V} {ds : List D} (n : ¬ O a) (h : Rd H a (.lst xs)) (r : Reps K H O xs ds) : Rep K H O (.ref a) (.lst ds)
 | lstK {a : Addr} {xs : List V} {ds : List D} (h : KLst K a xs) (r : Reps K H O xs ds) : Rep K H O (.ref a) (.lst ds)
 | dct {a : Addr} {kvs : List (Key × V)} {ks : List Key} {ds : List D} (n : ¬ O a) (h : H a = some (.dK kvs)) (e : kvs.map (·.1) = ks) (r : Reps K H O (kvs.map (·.2)) ds) : Rep K H O (.ref a) (.dct ks ds)
 | dcf {a : Addr} {o : Obj} {kvs : List (Key × V)} {ks : List Key} {ds : List D} (n : ¬ O a) (h : H a = some (.frz o (.dK kvs))) (e : kvs.map (·.1) = ks) (r : Reps K H O (kvs.map (·.2)) ds) : Rep K H O (.ref a) (.dcf ks ds)
 | ins {a C dx : Addr} {t : Nat} {kvs : List (Str × V)} {ds : List D} (c : PySem.W.nsIn K mainGlobals (clsName t) = some (some (.ref C))) (n : ¬ O a) (h : H a = some (.ins C dx kvs)) (e : kvs.map (·.1) = clsFlds t) (r : Reps K H O (kvs.map (·.2)) ds) : Rep K H O (.ref a) (.ins t ds)
 | clo {f : Addr} {m n : Nat} {t : LamT} {cl : List (Str × Addr)} {xs : List V} {ds : List D} (tx : textIn K m n = some t) (h : LamAt H O f t cl) (e : cl.map (·.1) = freeR t.scope.names) (nd : (cl.map (·.2)).Nodup) (c : ClosOk H O cl xs) (r : Reps K H O xs ds) : Rep K H O (.ref f) (.clo m n ds)
 | fnK {f : Addr} {k : Nat} (h : PySem.W.nsIn K mainGlobals (fnName k) = some (some (.ref f))) : Rep K H O (.ref f) (.clo 1000 k [])
inductive Reps (K : Frag) (H : Hp) (O : Addr -> Prop) : List V -> List D -> Prop
 | nil : Reps K H O [] []
 | cons {x : V} {d : D} {xs : List V} {ds : List D} (h : Rep K H O x d) (t : Reps K H O xs ds) : Reps K H O (x :: xs) (d :: ds)
end
section
variable {K : Frag} {H H' : Hp} {O O' : Addr -> Prop}
def Keep (O : Addr -> Prop) (H H' : Hp) : Prop := ∀ b o, ¬ O b -> H b = some o -> H' b = some o
theorem Keep.of_same (h : Same H H') : Keep O H H' := fun b o _ e => h b o e
theorem Keep.rd (k : Keep O H H') (n : ¬ O a) (h : Rd H a u) : Rd H' a u := by
 rcases h with h | ⟨o, h⟩
 · exact .inl (k _ _ n h)
 · exact .inr ⟨o, k _ _ n h⟩
def Kp (O O' : Addr -> Prop) (H H' : Hp) : Prop := ∀ b o, ¬ O b -> H b = some o -> ¬ O' b /\ H' b = some o
theorem Kp.rd (k : Kp O O' H H') (n : ¬ O a) (h : Rd H a u) : ¬ O' a /\ Rd H' a u := by
 rcases h with h | ⟨o, h⟩
 · exact ⟨(k _ _ n h).1, .inl (k _ _ n h).2⟩
 · exact ⟨(k _ _ n h).1, .inr ⟨o, (k _ _ n h).2⟩⟩
theorem ClosOk.gen (k : Kp O O' H H') (h : ClosOk H O cl xs) : ClosOk H' O' cl xs := by
 induction h with
 | nil => exact .nil
 | cons no h d r _ ih => exact .cons (k _ _ no h).1 (k _ _ no h).2 d r ih
theorem LamAt.gen (k : Kp O O' H H') (h : LamAt H O f t cl) : LamAt H' O' f t cl := by
 obtain ⟨n, o, oc, u, uc, fd, c, vs, tq, h1, h2, h3, h4, h5, h6, h7, h8, h9, h10, h11, h12, h13, h14, h15, h16, h17⟩ := h
 exact ⟨(k _ _ n h1).1, o, oc, u, uc, fd, c, vs, tq, (k _ _ n h1).2, h2, h3, h4, h5, h6, h7, h8, h9, h10, h11, h12, h13, (k _ _ h14 h15).1, (k _ _ h14 h15).2, h16, h17⟩
theorem Kp.of (k : Keep O H H') : Kp O O H H' := fun b o n e => ⟨n, k b o n e⟩
theorem Kp.less (k : ∀ a, O' a -> O a) : Kp O O' H H := fun b o n e => ⟨fun z => n (k _ z), e⟩
theorem ClosOk.keep (k : Keep O H H') (h : ClosOk H O cl xs) : ClosOk H' O cl xs := h.gen (.of k)
theorem LamAt.keep (k : Keep O H H') (h : LamAt H O f t cl) : LamAt H' O f t cl := h.gen (.of k)
theorem ClosOk.of (k : ∀ a o u, H a = some (.frz o u) -> ¬ O' a) : ∀ {cl : List (Str × Addr)} {xs : List V}, ClosOk H O cl xs -> ClosOk H O' cl xs
 | _, _, .nil => .nil
 | _, _, .cons no h d r t => .cons (k _ _ _ h) h d r (ClosOk.of k t)
theorem LamAt.of (k : ∀ a o u, H a = some (.frz o u) -> ¬ O' a) (h : LamAt H O f t cl) : LamAt H O' f t cl := by
 obtain ⟨n, o, oc, u, uc, fd, c, vs, tq, h1, h2, h3, h4, h5, h6, h7, h8, h9, h10, h11, h12, h13, h14, h15, h16, h17⟩ := h
 exact ⟨k _ _ _ h1, o, oc, u, uc, fd, c, vs, tq, h1, h2, h3, h4, h5, h6, h7, h8, h9, h10, h11, h12, h13, k _ _ _ h15, h15, h16, h17⟩
noncomputable def ins1 (p : Addr) (O : Addr -> Prop) : Addr -> Prop := fun b => b = p \/ O b
theorem Kp.ins {p : Addr} (hp : H p = none) : Kp O (ins1 p O) H H := fun b o n e => ⟨fun z => z.elim (fun q => by rw [q, hp] at e; cases e) n, e⟩
mutual
theorem Rep.gen (k : Kp O O' H H') : ∀ {v : V} {d : D}, Rep K H O v d -> Rep K H' O' v d
 | _, _, .non => .non
 | _, _, .bl b => .bl b
 | _, _, .int i => .int i
 | _, _, .str x => .str x
 | _, _, .tup n h r => .tup (k.rd n h).1 (k.rd n h).2 (Reps.gen k r)
 | _, _, .tupK h r => .tupK h (Reps.gen k r)
 | _, _, .lst n h r => .lst (k.rd n h).1 (k.rd n h).2 (Reps.gen k r)
 | _, _, .lstK h r => .lstK h (Reps.gen k r)
 | _, _, .dct n h e r => .dct (k _ _ n h).1 (k _ _ n h).2 e (Reps.gen k r)
 | _, _, .dcf n h e r => .dcf (k _ _ n h).1 (k _ _ n h).2 e (Reps.gen k r)
 | _, _, .ins c n h e r => .ins c (k _ _ n h).1 (k _ _ n h).2 e (Reps.gen k r)
 | _, _, .clo tx h e nd c r => .clo tx (h.gen k) e nd (c.gen k) (Reps.gen k r)
 | _, _, .fnK h => .fnK h
theorem Reps.gen (k : Kp O O' H H') : ∀ {vs : List V} {ds : List D}, Reps K H O vs ds -> Reps K H' O' vs ds
 | _, _, .nil => .nil
 | _, _, .cons h t => .cons (Rep.gen k h) (Reps.gen k t)
end
theorem Rep.keep (k : Keep O H H') (h : Rep K H O v d) : Rep K H' O v d := h.gen (.of k)
theorem Reps.keep (k : Keep O H H') (h : Reps K H O v d) : Reps K H' O v d := h.gen (.of k)
theorem Rep.mono (k : Same H H') (h : Rep K H O v d) : Rep K H' O v d := h.keep (.of_same k)
theorem Reps.mono (k : Same H H') (h : Reps K H O v d) : Reps K H' O v d := h.keep (.of_same k)
theorem Rep.less (k : ∀ a, O' a -> O a) (h : Rep K H O v d) : Rep K H O' v d := h.gen (.less k)
theorem Reps.less (k : ∀ a, O' a -> O a) (h : Reps K H O v d) : Reps K H O' v d := h.gen (.less k)
theorem Rd.some (h : Rd H a u) : H a ≠ none := by
 rcases h with h | ⟨o, h⟩ <;> (rw [h]; simp)
theorem Rep.more (hp : H p = none) (h : Rep K H O v d) : Rep K H (ins1 p O) v d := h.gen (.ins hp)
theorem Reps.more (hp : H p = none) (h : Reps K H O v d) : Reps K H (ins1 p O) v d := h.gen (.ins hp)
noncomputable def mutO : HO -> Bool
 | .lst _ | .dK _ | .dT _ | .set _ _ | .ins _ _ _ => true
 | _ => false
noncomputable def MutHO := { u : HO // mutO u = true }
noncomputable def Old (H : Hp) : Addr -> Prop := fun a => ∃ o, H a = some o /\ mutO o = true
theorem Old.mono (k : Same H H') (h : Old H a) : Old H' a := let ⟨o, e, m⟩ := h; ⟨o, k _ _ e, m⟩
noncomputable def jH : Addr -> Prop := fun _ => False
mutual
theorem Rep.flattn (ho : ∀ a, O a -> Old H a) : ∀ {v : V} {d : D}, Rep K H O' v d -> flat d = true -> Rep K H O v d
 | _, _, .non => fun _ => .non
 | _, _, .bl b => fun _ => .bl b
 | _, _, .int i => fun _ => .int i
 | _, _, .str x => fun _ => .str x
 | _, _, .tup n h r => fun f => .tup (fun z => by
    obtain ⟨u, e, m⟩ := ho _ z
    rcases h with h | ⟨o, h⟩
    · rw [e] at h; cases h; cases m
    · rw [e] at h; cases h; cases m) h (Reps.flattn ho r (by simpa [flat] using f))
 | _, _, .tupK h r => fun f => .tupK h (Reps.flattn ho r (by simpa [flat] using f))
 | _, _, .lst _ _ _ => fun f => by simp [flat] at f
 | _, _, .lstK _ _ => fun f => by simp [flat] at f
 | _, _, .dct _ _ _ _ => fun f => by simp [flat] at f
 | _, _, .dcf _ _ _ _ => fun f => by simp [flat] at f
 | _, _, .ins _ _ _ _ _ => fun f => by simp [flat] at f
 | _, _, .clo _ _ _ _ _ _ => fun f => by simp [flat] at f
 | _, _, .fnK _ => fun f => by simp [flat] at f
theorem Reps.flattn (ho : ∀ a, O a -> Old H a) : ∀ {vs : List V} {ds : List D}, Reps K H O' vs ds -> flats ds = true -> Reps K H O vs ds
 | _, _, .nil => fun _ => .nil
 | _, _, .cons h t => fun f => by
   simp only [flats, Bool.and_eq_true] at f
   exact .cons (Rep.flattn ho h f.1) (Reps.flattn ho t f.2)
end
theorem Rep.flatten (ho : ∀ a, O a -> Old H a) (f : flat d = true) (r : Rep K H O' v d) : Rep K H O v d := r.flattn ho f
theorem Reps.flatten (ho : ∀ a, O a -> Old H a) (f : flats d = true) (r : Reps K H O' v d) : Reps K H O v d := r.flattn ho f
theorem Reps.length : ∀ {vs : List V} {ds : List D}, Reps K H O vs ds -> vs.length = ds.length
 | _, _, .nil => rfl
 | _, _, .cons _ t => by simp [Reps.length t]
theorem Reps.get : ∀ {vs : List V} {ds : List D} {i : Nat} {d : D}, Reps K H O vs ds -> ds[i]? = some d -> ∃ v, vs[i]? = some v /\ Rep K H O v d
 | _, _, _, _, .nil, e => by simp at e
 | _, _, 0, _, .cons h _, e => by simp at e; subst e; exact ⟨_, rfl, h⟩
 | _, _, i + 1, d, .cons _ t, e => by
   obtain ⟨v, h1, h2⟩ := Reps.get (i := i) (d := d) t (by simpa using e)
   exact ⟨v, by simpa using h1, h2⟩
theorem Reps.append : ∀ {xs ys : List V} {ds es : List D}, Reps K H O xs ds -> Reps K H O ys es -> Reps K H O (xs ++ ys) (ds ++ es)
 | _, _, _, _, .nil, s => s
 | _, _, _, _, .cons r t, s => .cons r (Reps.append t s)
theorem Reps.set (r : Rep K H O x d) : ∀ {xs : List V} {ds : List D} (i : Nat), Reps K H O xs ds -> Reps K H O (xs.set i x) (ds.set i d)
 | _, _, _, .nil => .nil
 | _, _, 0, .cons _ t => .cons r t
 | _, _, i + 1, .cons q t => .cons q (Reps.set r i t)
theorem Reps.drop : ∀ {xs : List V} {ds : List D} (n : Nat), Reps K H O xs ds -> Reps K H O (xs.drop n) (ds.drop n)
 | _, _, 0, r => r
 | _, _, _ + 1, .nil => .nil
 | _, _, n + 1, .cons _ t => Reps.drop n t
theorem Reps.take : ∀ {xs : List V} {ds : List D} (n : Nat), Reps K H O xs ds -> Reps K H O (xs.take n) (ds.take n)
 | _, _, 0, _ => .nil
 | _, _, _ + 1, .nil => .nil
 | _, _, n + 1, .cons r t => .cons r (Reps.take n t)
theorem Reps.ints : ∀ (ns : List Int), Reps K H O (ns.map V.int) (ns.map D.int)
 | [] => .nil
 | n :: r => .cons (.int n) (Reps.ints r)
def WRep (K : Frag) (H : Hp) (O : Addr -> Prop) (v : V) (d : D) : Prop := Rep K H O v d \/ ∃ a xs l, v = .ref a /\ d = .lst l /\ O a /\ H a = some (.lst xs) /\ Reps K H O xs l
theorem WRep.mono (k : Same H H') (h : WRep K H O v d) : WRep K H' O v d := by
 rcases h with h | ⟨a, xs, l, e1, e2, ho, h, r⟩
 · exact .inl (h.mono k)
 · exact .inr ⟨a, xs, l, e1, e2, ho, k _ _ h, r.mono k⟩
theorem WRep.any (h : WRep K H O v d) : Rep K H jH v d := by
 rcases h with h | ⟨a, xs, l, rfl, rfl, ho, h, r⟩
 · exact h.less (fun _ z => z.elim)
 · exact .lst (fun z => z.elim) (.inl h) (r.less fun _ z => z.elim)
theorem WRep.seqL (h : WRep K H O v (.lst l)) : ∃ a xs, v = .ref a /\ SqL K H a xs /\ Reps K H O xs l := by
 rcases h with h | ⟨a, xs, l', rfl, e, ho, h, r⟩
 · cases h with
   | lst n h r => exact ⟨_, _, rfl, .inl h, r⟩
   | lstK h r => exact ⟨_, _, rfl, .inr h, r⟩
 · cases e; exact ⟨a, xs, rfl, .inl (.inl h), r⟩
theorem WRep.seqT (h : WRep K H O v (.tup l)) : ∃ a xs, v = .ref a /\ SqT K H a xs /\ Reps K H O xs l := by
 rcases h with h | ⟨a, xs, l', rfl, e, ho, h, r⟩
 · cases h with
   | tup n h r => exact ⟨_, _, rfl, .inl h, r⟩
   | tupK h r => exact ⟨_, _, rfl, .inr h, r⟩
 · cases e
theorem WRep.int' (h : WRep K H O v (.int i)) : v = .int i := by
 rcases h with h | ⟨a, xs, l', rfl, e, _⟩
 · cases h; rfl
 · cases e
theorem WRep.str' (h : WRep K H O v (.str i)) : v = .str i := by
 rcases h with h | ⟨a, xs, l', rfl, e, _⟩
 · cases h; rfl
 · cases e
end
mutual
inductive RepO (K : Frag) (H : Hp) (O : Addr -> Prop) : V -> OT -> List Addr -> Prop
 | val {v : V} {d : D} (r : Rep K H O v d) : RepO K H O v (.val d) []
 | lst {a : Addr} {xs : List V} {ts : List OT} {fs : List Addr} (n : O a) (h : H a = some (.lst xs)) (r : RepsO K H O xs ts fs) : RepO K H O (.ref a) (.lst ts) (a :: fs)
 | tup {a : Addr} {xs : List V} {ts : List OT} {fs : List Addr} (n : ¬ O a) (h : Rd H a (.tup xs)) (r : RepsO K H O xs ts fs) : RepO K H O (.ref a) (.tup ts) fs
 | dct {a : Addr} {kvs : List (Key × V)} {ks : List Key} {ts : List OT} {fs : List Addr} (n : O a) (h : H a = some (.dK kvs)) (e : kvs.map (·.1) = ks) (r : RepsO K H O (kvs.map (·.2)) ts fs) : RepO K H O (.ref a) (.dct ks ts) (a :: fs)
 | ins {a C dx : Addr} {t : Nat} {kvs : List (Str × V)} {ts : List OT} {fs : List Addr} (c : PySem.W.nsIn K mainGlobals (clsName t) = some (some (.ref C))) (n : O a) (h : H a = some (.ins C dx kvs)) (e : kvs.map (·.1) = clsFlds t) (r : RepsO K H O (kvs.map (·.2)) ts fs) : RepO K H O (.ref a) (.ins t ts) (a :: fs)
inductive RepsO (K : Frag) (H : Hp) (O : Addr -> Prop) : List V -> List OT -> List Addr -> Prop
 | nil : RepsO K H O [] [] []
 | cons {x : V} {t : OT} {xs : List V} {ts : List OT} {fs gs : List Addr} (h : RepO K H O x t fs) (r : RepsO K H O xs ts gs) : RepsO K H O (x :: xs) (t :: ts) (fs ++ gs)
end
section
variable {K : Frag} {H H' : Hp} {O O' : Addr -> Prop}
mutual
theorem RepO.gen (k : Kp O O' H H') : ∀ {v : V} {t : OT} {fs : List Addr}, RepO K H O v t fs -> (∀ b ∈ fs, ∀ u, O b -> H b = some u -> O' b /\ H' b = some u) -> RepO K H' O' v t fs
 | _, _, _, .val r => fun _ => .val (r.gen k)
 | _, _, _, .lst n h r => fun hb => .lst (hb _ (.head _) _ n h).1 (hb _ (.head _) _ n h).2 (RepsO.gen k r fun b z => hb b (.tail _ z))
 | _, _, _, .tup n h r => fun hb => .tup (k.rd n h).1 (k.rd n h).2 (RepsO.gen k r hb)
 | _, _, _, .dct n h e r => fun hb => .dct (hb _ (.head _) _ n h).1 (hb _ (.head _) _ n h).2 e (RepsO.gen k r fun b z => hb b (.tail _ z))
 | _, _, _, .ins c n h e r => fun hb => .ins c (hb _ (.head _) _ n h).1 (hb _ (.head _) _ n h).2 e (RepsO.gen k r fun b z => hb b (.tail _ z))
theorem RepsO.gen (k : Kp O O' H H') : ∀ {v : List V} {t : List OT} {fs : List Addr}, RepsO K H O v t fs -> (∀ b ∈ fs, ∀ u, O b -> H b = some u -> O' b /\ H' b = some u) -> RepsO K H' O' v t fs
 | _, _, _, .nil => fun _ => .nil
 | _, _, _, .cons h r => fun hb => .cons (RepO.gen k h fun b z => hb b (List.mem_append_left _ z)) (RepsO.gen k r fun b z => hb b (List.mem_append_right _ z))
end
theorem RepO.keep (k : Keep O H H') (h : RepO K H O v t fs) (hb : ∀ b ∈ fs, ∀ u, H b = some u -> H' b = some u) : RepO K H' O v t fs := h.gen (.of k) fun b z u o e => ⟨o, hb b z u e⟩
theorem RepsO.keep (k : Keep O H H') (h : RepsO K H O v t fs) (hb : ∀ b ∈ fs, ∀ u, H b = some u -> H' b = some u) : RepsO K H' O v t fs := h.gen (.of k) fun b z u o e => ⟨o, hb b z u e⟩
theorem RepO.mono (k : Same H H') (h : RepO K H O v t fs) : RepO K H' O v t fs := h.keep (.of_same k) fun b _ u e => k b u e
theorem RepsO.mono (k : Same H H') (h : RepsO K H O v t fs) : RepsO K H' O v t fs := h.keep (.of_same k) fun b _ u e => k b u e
theorem RepO.less (k : ∀ a, O' a -> O a) (h : RepO K H O v t fs) (hb : ∀ b ∈ fs, O' b) : RepO K H O' v t fs := h.gen (.less k) fun b z _ _ e => ⟨hb b z, e⟩
theorem RepsO.less (k : ∀ a, O' a -> O a) (h : RepsO K H O v t fs) (hb : ∀ b ∈ fs, O' b) : RepsO K H O' v t fs := h.gen (.less k) fun b z _ _ e => ⟨hb b z, e⟩
theorem RepO.more (hp : H p = none) (h : RepO K H O v t fs) : RepO K H (ins1 p O) v t fs := h.gen (.ins hp) fun _ _ _ o e => ⟨.inr o, e⟩
theorem RepsO.more (hp : H p = none) (h : RepsO K H O v t fs) : RepsO K H (ins1 p O) v t fs := h.gen (.ins hp) fun _ _ _ o e => ⟨.inr o, e⟩
mutual
theorem RepO.owns : ∀ {v : V} {t : OT} {fs : List Addr}, RepO K H O v t fs -> ∀ b ∈ fs, O b /\ ∃ u : MutHO, H b = some u.1
 | _, _, _, .val r => fun b z => nomatch z
 | _, _, _, .lst n h r => fun b z => (List.mem_cons.mp z).elim (fun q => q ▸ ⟨n, ⟨_, rfl⟩, h⟩) (RepsO.owns r b)
 | _, _, _, .tup n h r => RepsO.owns r
 | _, _, _, .dct n h e r => fun b z => (List.mem_cons.mp z).elim (fun q => q ▸ ⟨n, ⟨_, rfl⟩, h⟩) (RepsO.owns r b)
 | _, _, _, .ins c n h e r => fun b z => (List.mem_cons.mp z).elim (fun q => q ▸ ⟨n, ⟨_, rfl⟩, h⟩) (RepsO.owns r b)
theorem RepsO.owns : ∀ {v : List V} {t : List OT} {fs : List Addr}, RepsO K H O v t fs -> ∀ b ∈ fs, O b /\ ∃ u : MutHO, H b = some u.1
 | _, _, _, .nil => fun b z => nomatch z
 | _, _, _, .cons h r => fun b z => (List.mem_append.mp z).elim (RepO.owns h b) (RepsO.owns r b)
end
mutual
theorem RepO.val' : ∀ {v : V} {t : OT} {fs : List Addr}, RepO K H O v t fs -> (∀ a, O' a -> O a /\ a ∉ fs) -> Rep K H O' v (otD t)
 | _, _, _, .val r => fun k => r.less fun a z => (k a z).1
 | _, _, _, .lst n h r => fun k => by unfold otD; exact .lst (fun z => (k _ z).2 (.head _)) (.inl h) (RepsO.val' r fun a z => ⟨(k a z).1, fun q => (k a z).2 (.tail _ q)⟩)
 | _, _, _, .tup n h r => fun k => by unfold otD; exact .tup (fun z => n (k _ z).1) h (RepsO.val' r k)
 | _, _, _, .dct n h e r => fun k => by unfold otD; exact .dct (fun z => (k _ z).2 (.head _)) h e (RepsO.val' r fun a z => ⟨(k a z).1, fun q => (k a z).2 (.tail _ q)⟩)
 | _, _, _, .ins c n h e r => fun k => by unfold otD; exact .ins c (fun z => (k _ z).2 (.head _)) h e (RepsO.val' r fun a z => ⟨(k a z).1, fun q => (k a z).2 (.tail _ q)⟩)
theorem RepsO.val' : ∀ {v : List V} {t : List OT} {fs : List Addr}, RepsO K H O v t fs -> (∀ a, O' a -> O a /\ a ∉ fs) -> Reps K H O' v (otDs t)
 | _, _, _, .nil => fun _ => by unfold otDs; exact .nil
 | _, _, _, .cons h r => fun k => by unfold otDs; exact .cons (RepO.val' h fun a z => ⟨(k a z).1, fun q => (k a z).2 (List.mem_append_left _ q)⟩) (RepsO.val' r fun a z => ⟨(k a z).1, fun q => (k a z).2 (List.mem_append_right _ q)⟩)
end
end
noncomputable def xdO (dx : Addr) (fs : List (Str × V)) : HO := .ext fun h => ∃ mA, h.Ns1 dx mA /\ (∀ f, RelO (fs.lookup f) (mA f)) /\ Within mA (fs.map (·.1))
def XfOk (K : Frag) (H : Hp) (a : Addr) (t : Nat) (fs : List (Str × Int)) : Prop := ∃ C o u dx od, PySem.W.nsIn K mainGlobals (xName t) = some (some (.ref C)) /\ H a = some (.frz o u) /\ o.cls = .ref C /\ o.dict = some dx /\ (∀ c, o.data ≠ .cls c) /\ H dx = some (.frz od (xdO dx (fs.map fun p => (p.1, .int p.2))))
theorem XfOk.keep {K : Frag} {H H' : Hp} {a : Addr} {t : Nat} {fs : List (Str × Int)} (x : XfOk K H a t fs) (k : ∀ b o u, H b = some (.frz o u) -> H' b = some (.frz o u)) : XfOk K H' a t fs :=
 let ⟨C, o, u, dx, od, h1, h2, h3, h4, h5, h6⟩ := x; ⟨C, o, u, dx, od, h1, k _ _ _ h2, h3, h4, h5, k _ _ _ h6⟩
noncomputable def SlOk (K : Frag) (H₀ H : Hp) (O : Addr -> Prop) : Option V -> Sl -> Prop
 | _, .no => True
 | some x, .v d => Rep K H O x d
 | some (.ref a), .own l => O a /\ ∃ xs, H a = some (.lst xs) /\ Reps K H O xs l
 | some (.ref a), .fr l => ¬ O a /\ H₀ a = none /\ ∃ xs, H a = some (.lst xs) /\ Reps K H O xs l
 | _, .ob _ _ => True
 | some (.ref a), .exf t fs => XfOk K H a t fs
 | some (.ref a), .exc t => ∃ C o u, PySem.W.nsIn K mainGlobals (xName t) = some (some (.ref C)) /\ H a = some (.frz o u) /\ o.cls = .ref C
 | _, _ => False
def IsOwn (ds : List Sl) (i : Nat) : Prop := ∃ l, ds[i]? = some (.own l)
inductive HI where
 | rep (v : V) (d : D) | base (B : Addr -> Prop) | root (k a : Nat) | fz (a : Addr) (o : Obj) (kvs : List (Key × V)) (l : List D)
abbrev Hold := List HI
noncomputable def HOk (K : Frag) (H₀ H : Hp) (O : Addr -> Prop) : HI -> Prop
 | .rep v d => Rep K H O v d
 | .base B => ∀ a, B a -> O a /\ H₀ a ≠ none
 | .root _ _ => True
 | .fz a o kvs l => ¬ O a /\ H a = some (.frz o (.dK kvs)) /\ Reps K H O (kvs.map (·.2)) l
def Obs (K : Frag) (H₀ H : Hp) (O : Addr -> Prop) (σ : L2.St) (ds : List Sl) (hd : Hold) : Prop := ∃ F : Nat -> List Addr, ∀ (i : Nat) (r : Option Nat) (t : OT), ds[i]? = some (.ob r t) -> ∃ v, σ[i]? = some (some v) /\ RepO K H O v t (F i) /\ (∀ k a, r = some k -> HI.root k a ∈ hd -> v = .ref a) /\ (F i).Nodup ∧
 ∀ b ∈ F i, H₀ b = none /\ (∀ j r' t', j ≠ i -> ds[j]? = some (.ob r' t') -> b ∉ F j) /\ ∀ j, IsOwn ds j -> σ[j]? ≠ some (some (.ref b))
structure Ok (K : Frag) (H₀ H : Hp) (O : Addr -> Prop) (σ : L2.St) (ds : List Sl) (hd : Hold) : Prop where
 same : Same H₀ H
 fresh : ∀ (i : Nat) (l : List D) (a : Addr), ds[i]? = some (.own l) -> σ[i]? = some (some (.ref a)) -> H₀ a = none
 dom : ∀ a, O a -> ∃ u : MutHO, H a = some u.1
 len : σ.length = ds.length
 sl : ∀ (i : Nat) (s : Sl), ds[i]? = some s -> SlOk K H₀ H O (σ[i]?.join) s
 apart : ∀ (i j : Nat) (a : Addr), i ≠ j -> IsOwn ds i -> IsOwn ds j -> σ[i]? = some (some (.ref a)) -> σ[j]? = some (some (.ref a)) -> False
 hold : ∀ p ∈ hd, HOk K H₀ H O p
 obs : Obs K H₀ H O σ ds hd
section
variable {K : Frag} {ds : List Sl}
theorem HOk.mono (k : Same H H') : ∀ {p : HI}, HOk K H₀ H O p -> HOk K H₀ H' O p
 | .rep _ _, h => Rep.mono k h
 | .base _, h => h
 | .root _ _, h => h
 | .fz _ _ _ _, h => ⟨h.1, k _ _ h.2.1, Reps.mono k h.2.2⟩
theorem HOk.keep (k : Keep O H H') : ∀ {p : HI}, HOk K H₀ H O p -> HOk K H₀ H' O p
 | .rep _ _, h => Rep.keep k h
 | .base _, h => h
 | .root _ _, h => h
 | .fz _ _ _ _, h => ⟨h.1, k _ _ h.1 h.2.1, Reps.keep k h.2.2⟩
theorem Obs.tr (h : Obs K H₀ H O σ ds hd) (tr : ∀ v t fs, RepO K H O v t fs -> (∀ b ∈ fs, H₀ b = none /\ ∀ j, IsOwn ds j -> σ[j]? ≠ some (some (.ref b))) -> RepO K H' O' v t fs)
  (hob : ∀ (i : Nat) r t, ds'[i]? = some (.ob r t) -> ds[i]? = some (.ob r t) /\ σ'[i]? = σ[i]?)
  (hown : ∀ j b, IsOwn ds' j -> σ'[j]? = some (some (.ref b)) -> (IsOwn ds j /\ σ[j]? = some (some (.ref b))) \/ H b = none) : Obs K H₀ H' O' σ' ds' hd := by
 obtain ⟨F, hF⟩ := h
 refine ⟨F, fun i r t e => ?_⟩
 obtain ⟨e1, e2⟩ := hob i r t e
 obtain ⟨v, h1, h2, h3, h4, h5⟩ := hF i r t e1
 refine ⟨v, e2.trans h1, tr v t _ h2 fun b hb => ⟨(h5 b hb).1, (h5 b hb).2.2⟩, h3, h4, fun b hb => ⟨(h5 b hb).1, fun j r' t' hj ej => (h5 b hb).2.1 j r' t' hj (hob j r' t' ej).1, fun j oj ej => ?_⟩⟩
 rcases hown j b oj ej with ⟨o1, o2⟩ | hn
 · exact (h5 b hb).2.2 j o1 o2
 · obtain ⟨_, xs, z⟩ := h2.owns b hb
   rw [hn] at z; cases z
theorem Obs.no (h : ∀ (i : Nat) r t, ds[i]? ≠ some (.ob r t)) : Obs K H₀ H O σ ds hd := ⟨fun _ => [], fun i r t e => (h i r t e).elim⟩
theorem Obs.mono (k : Same H H') (h : Obs K H₀ H O σ ds hd) : Obs K H₀ H' O σ ds hd := h.tr (fun _ _ _ r _ => r.mono k) (fun _ _ _ e => ⟨e, rfl⟩) fun _ _ o e => .inl ⟨o, e⟩
theorem wD (hs : ∀ r t, s ≠ .ob r t) (e : (ds.set i s)[j]? = some (.ob r t)) : ds[j]? = some (.ob r t) /\ j ≠ i := by
 by_cases hj : j = i
 · subst hj
   by_cases hl : j < ds.length
   · rw [List.getElem?_set_self hl] at e
     cases e
     exact (hs r t rfl).elim
   · rw [List.getElem?_eq_none (by simpa using hl)] at e; cases e
 · rw [List.getElem?_set_ne (Ne.symm hj)] at e
   exact ⟨e, hj⟩
theorem xG (hs : ∀ l, s ≠ .own l) (e : IsOwn (ds.set i s) j) : IsOwn ds j /\ j ≠ i := by
 obtain ⟨l, e⟩ := e
 by_cases hj : j = i
 · subst hj
   by_cases hl : j < ds.length
   · rw [List.getElem?_set_self hl] at e
     cases e
     exact (hs l rfl).elim
   · rw [List.getElem?_eq_none (by simpa using hl)] at e; cases e
 · rw [List.getElem?_set_ne (Ne.symm hj)] at e
   exact ⟨⟨l, e⟩, hj⟩
theorem SlOk.mono (k : Same H H') : ∀ {x : Option V} {s : Sl}, SlOk K H₀ H O x s -> SlOk K H₀ H' O x s
 | none, .no, _ => trivial
 | some (.ref _), .no, _ => trivial
 | some _, .no, _ => by simp [SlOk]
 | x, .ob _ _, _ => by cases x with
   | none => trivial
   | some x => cases x <;> trivial
 | some x, .v d, h => by
   have h : Rep K H O x d := by cases x <;> exact h
   show SlOk K H₀ H' O (some x) (.v d)
   have := h.mono k
   cases x <;> exact this
 | some (.ref a), .own l, ⟨ho, xs, h, r⟩ => ⟨ho, xs, k _ _ h, r.mono k⟩
 | some (.ref a), .fr l, ⟨ho, h0, xs, h, r⟩ => ⟨ho, h0, xs, k _ _ h, r.mono k⟩
 | some (.ref a), .exc t, ⟨C, o, u, h1, h2, h3⟩ => ⟨C, o, u, h1, k _ _ h2, h3⟩
 | some (.ref a), .exf t fs, x => x.keep fun _ _ _ e => k _ _ e
theorem Ok.old (o : Ok K H₀ H O σ ds hd) {a : Addr} (h : O a) : Old H a := let ⟨xs, e⟩ := o.dom a h; ⟨_, e, xs.2⟩
theorem Ok.mono (k : Same H H') (o : Ok K H₀ H O σ ds hd) : Ok K H₀ H' O σ ds hd :=
 ⟨o.same.trans k, o.fresh, fun a h => let ⟨xs, e⟩ := o.dom a h; ⟨xs, k _ _ e⟩, o.len, fun i s e => (o.sl i s e).mono k, o.apart, fun p hp => (o.hold p hp).mono k, o.obs.mono k⟩
theorem Ok.free (o : Ok K H₀ H O σ ds hd) (h : H p = none) : ¬ O p := fun z => by
 obtain ⟨xs, e⟩ := o.dom p z
 rw [h] at e; cases e
theorem Ok.read {i : Nat} (o : Ok K H₀ H O σ ds hd) (e : ds[i]? = some (.v d)) : ∃ v, σ[i]? = some (some v) /\ Rep K H O v d := by
 have h := o.sl i _ e
 cases q : σ[i]? with
 | none => rw [q] at h; exact h.elim
 | some x =>
   rw [q] at h
   cases x with
   | none => exact h.elim
   | some x => exact ⟨x, rfl, by cases x <;> exact h⟩
theorem Ok.readO {i : Nat} (o : Ok K H₀ H O σ ds hd) (e : ds[i]? = some (.own l)) : ∃ a xs, σ[i]? = some (some (.ref a)) /\ O a /\ H a = some (.lst xs) /\ Reps K H O xs l := by
 have h := o.sl i _ e
 cases q : σ[i]? with
 | none => rw [q] at h; exact h.elim
 | some x =>
   rw [q] at h
   cases x with
   | none => exact h.elim
   | some x =>
     cases x with
     | ref a => obtain ⟨ho, xs, h1, h2⟩ := h; exact ⟨a, xs, rfl, ho, h1, h2⟩
     | _ => exact h.elim
theorem Ok.readX {i t : Nat} (o : Ok K H₀ H O σ ds hd) (e : ds[i]? = some (.exc t)) : ∃ a C ob u, σ[i]? = some (some (.ref a)) /\ PySem.W.nsIn K mainGlobals (xName t) = some (some (.ref C)) /\ H a = some (.frz ob u) /\ ob.cls = .ref C := by
 have h := o.sl i _ e
 cases q : σ[i]? with
 | none => rw [q] at h; exact h.elim
 | some x =>
   rw [q] at h
   cases x with
   | none => exact h.elim
   | some x =>
     cases x with
     | ref a => obtain ⟨C, ob, u, h1, h2, h3⟩ := h; exact ⟨a, C, ob, u, rfl, h1, h2, h3⟩
     | _ => exact h.elim
theorem Ok.readE {i t : Nat} {fs : List (Str × Int)} (o : Ok K H₀ H O σ ds hd) (e : ds[i]? = some (.exf t fs)) : ∃ a, σ[i]? = some (some (.ref a)) /\ XfOk K H a t fs := by
 have h := o.sl i _ e
 cases q : σ[i]? with
 | none => rw [q] at h; exact h.elim
 | some x =>
   rw [q] at h
   cases x with
   | none => exact h.elim
   | some x =>
     cases x with
     | ref a => exact ⟨a, rfl, h⟩
     | _ => exact h.elim
theorem Ok.readF {i : Nat} {l : List D} (o : Ok K H₀ H O σ ds hd) (e : ds[i]? = some (.fr l)) : ∃ a xs, σ[i]? = some (some (.ref a)) /\ ¬ O a /\ H₀ a = none /\ H a = some (.lst xs) /\ Reps K H O xs l := by
 have h := o.sl i _ e
 cases q : σ[i]? with
 | none => rw [q] at h; exact h.elim
 | some x =>
   rw [q] at h
   cases x with
   | none => exact h.elim
   | some x =>
     cases x with
     | ref a => obtain ⟨ho, h0, xs, h1, h2⟩ := h; exact ⟨a, xs, rfl, ho, h0, h1, h2⟩
     | _ => exact h.elim
theorem qW : SlOk K H₀ H O x .no := by
 cases x with
 | none => trivial
 | some x => cases x <;> trivial
theorem jV : SlOk K H₀ H O x (.ob r t) := by
 cases x with
 | none => trivial
 | some x => cases x <;> trivial
theorem jT (h : Rep K H O x d) : SlOk K H₀ H O (some x) (.v d) := by
 cases x <;> exact h
theorem Ok.set (o : Ok K H₀ H O σ ds hd) (r : Rep K H O v d) : Ok K H₀ H O (σ.set i (some v)) (ds.set i (.v d)) hd := by
 have own' : ∀ {j : Nat}, IsOwn (ds.set i (.v d)) j -> j ≠ i /\ IsOwn ds j := fun {j} ⟨l, e⟩ => by
  by_cases hj : j = i
  · subst hj
    by_cases hl : j < ds.length
    · rw [List.getElem?_set_self hl] at e; cases e
    · rw [List.getElem?_eq_none (by simpa using hl)] at e; cases e
  · rw [List.getElem?_set_ne (Ne.symm hj)] at e
    exact ⟨hj, l, e⟩
 refine ⟨o.same, fun j l a e1 e2 => ?_, o.dom, by simpa using o.len, fun j s e => ?_, fun j k a hjk hj hk e1 e2 => ?_, o.hold, o.obs.tr (fun _ _ _ r _ => r) (fun j r t e => by
  obtain ⟨e1, hj⟩ := wD (fun r t => by intro z; cases z) e
  exact ⟨e1, by rw [List.getElem?_set_ne (Ne.symm hj)]⟩) (fun j b oj ej => by
  obtain ⟨o1, hj⟩ := xG (fun l => by intro z; cases z) oj
  rw [List.getElem?_set_ne (Ne.symm hj)] at ej
  exact .inl ⟨o1, ej⟩)⟩
 · obtain ⟨n1, h1⟩ := own' ⟨l, e1⟩
   rw [List.getElem?_set_ne (Ne.symm n1)] at e1 e2
   exact o.fresh j l a e1 e2
 · by_cases hj : j = i
   · subst hj
     by_cases hl : j < ds.length
     · rw [List.getElem?_set_self hl] at e
       cases e
       rw [List.getElem?_set_self (by rw [o.len]; exact hl)]
       exact jT r
     · rw [List.getElem?_eq_none (by simpa using hl)] at e; cases e
   · rw [List.getElem?_set_ne (Ne.symm hj)] at e
     rw [List.getElem?_set_ne (Ne.symm hj)]
     exact o.sl j s e
 · obtain ⟨n1, h1⟩ := own' hj
   obtain ⟨n2, h2⟩ := own' hk
   rw [List.getElem?_set_ne (Ne.symm n1)] at e1
   rw [List.getElem?_set_ne (Ne.symm n2)] at e2
   exact o.apart j k a hjk h1 h2 e1 e2
theorem Ok.setO (o : Ok K H₀ H O σ ds hd) (k : Same H H') (hn : H a = none) (e : H' a = some (.lst xs)) (r : Reps K H' (ins1 a O) xs l) :
  Ok K H₀ H' (ins1 a O) (σ.set i (some (.ref a))) (ds.set i (.own l)) hd := by
 have up : ∀ {v : V} {d : D}, Rep K H O v d -> Rep K H' (ins1 a O) v d := fun h => (h.more hn).mono k
 have ups : ∀ {v : List V} {d : List D}, Reps K H O v d -> Reps K H' (ins1 a O) v d := fun h => (h.more hn).mono k
 have other : ∀ j : Nat, IsOwn ds j -> σ[j]? = some (some (.ref a)) -> False := fun j ⟨l', e'⟩ q => by
  obtain ⟨b, ys, h1, h2, h3, _⟩ := o.readO e'
  rw [q] at h1; cases h1
  rw [hn] at h3; cases h3
 have own' : ∀ {j : Nat}, j ≠ i -> IsOwn (ds.set i (.own l)) j -> IsOwn ds j := fun {j} hj ⟨l', e'⟩ => ⟨l', by rwa [List.getElem?_set_ne (Ne.symm hj)] at e'⟩
 refine ⟨o.same.trans k, fun j l' b e1 e2 => ?_, fun b hb => ?_, by simpa using o.len, fun j s es => ?_, fun j m b hjm hj hm e1 e2 => ?_, fun p hp => ?_, o.obs.tr (fun _ _ _ r _ => (r.more hn).mono k) (fun j r t e => by
  obtain ⟨e1, hj⟩ := wD (fun r t => by intro z; cases z) e
  exact ⟨e1, by rw [List.getElem?_set_ne (Ne.symm hj)]⟩) (fun j b oj ej => by
  by_cases hj : j = i
  · subst hj
    by_cases hl : j < σ.length
    · rw [List.getElem?_set_self hl] at ej; cases ej; exact .inr hn
    · rw [List.getElem?_eq_none (by simpa using hl)] at ej; cases ej
  · rw [List.getElem?_set_ne (Ne.symm hj)] at ej
    obtain ⟨l', e'⟩ := oj
    rw [List.getElem?_set_ne (Ne.symm hj)] at e'
    exact .inl ⟨⟨l', e'⟩, ej⟩)⟩
 rotate_left 4
 · have := o.hold p hp
   cases p with
   | rep v d => exact up this
   | base B => exact fun b hb => ⟨.inr (this b hb).1, (this b hb).2⟩
   | root k a => exact True.intro
   | fz a' o' kvs' l' => exact ⟨fun z => z.elim (fun z => by have := this.2.1; rw [z, hn] at this; cases this) this.1, k _ _ this.2.1, (Reps.more hn this.2.2).mono k⟩
 · by_cases hj : j = i
   · subst hj
     by_cases hl : j < σ.length
     · rw [List.getElem?_set_self hl] at e2
       cases e2
       exact o.same.free hn
     · rw [List.getElem?_eq_none (by simpa using hl)] at e2; cases e2
   · rw [List.getElem?_set_ne (Ne.symm hj)] at e1 e2
     exact o.fresh j l' b e1 e2
 · rcases hb with rfl | hb
   · exact ⟨⟨.lst xs, rfl⟩, e⟩
   · obtain ⟨ys, q⟩ := o.dom b hb
     exact ⟨ys, k _ _ q⟩
 · by_cases hj : j = i
   · subst hj
     by_cases hl : j < ds.length
     · rw [List.getElem?_set_self hl] at es
       cases es
       rw [List.getElem?_set_self (by rw [o.len]; exact hl)]
       exact ⟨.inl rfl, xs, e, r⟩
     · rw [List.getElem?_eq_none (by simpa using hl)] at es; cases es
   · rw [List.getElem?_set_ne (Ne.symm hj)] at es
     rw [List.getElem?_set_ne (Ne.symm hj)]
     cases s with
     | no => exact qW
     | ob r t => exact jV
     | exc t =>
       obtain ⟨a', C', ob', u', q1, q2, q3, q4⟩ := o.readX es
       rw [q1]
       exact ⟨C', ob', u', q2, k _ _ q3, q4⟩
     | exf t fs =>
       obtain ⟨a', q1, q3⟩ := o.readE es
       rw [q1]
       exact q3.keep fun a' ob' u' q3 => k _ _ q3
     | fr l' =>
       obtain ⟨a', xs', q1, q2, q0, q3, q4⟩ := o.readF es
       rw [q1]
       exact ⟨fun z => z.elim (fun e' => by rw [e', hn] at q3; cases q3) q2, q0, xs', k _ _ q3, ups q4⟩
     | v d =>
       obtain ⟨v, h1, h2⟩ := o.read es
       rw [h1]
       exact jT (up h2)
     | own l' =>
       obtain ⟨b, ys, h1, h2, h3, h4⟩ := o.readO es
       rw [h1]
       exact ⟨.inr h2, ys, k _ _ h3, ups h4⟩
 · have hs : ∀ {q : Nat}, q = i -> (σ.set i (some (V.ref a)))[q]? = some (some (.ref b)) -> b = a := fun {q} hq eq => by
    subst hq
    by_cases hl : q < σ.length
    · rw [List.getElem?_set_self hl] at eq
      cases eq; rfl
    · rw [List.getElem?_eq_none (by simpa using hl)] at eq; cases eq
   by_cases h1 : j = i
   · have hb := hs h1 e1
     have h2 : m ≠ i := fun z => hjm (h1.trans z.symm)
     rw [List.getElem?_set_ne (Ne.symm h2), hb] at e2
     exact other m (own' h2 hm) e2
   · by_cases h2 : m = i
     · have hb := hs h2 e2
       rw [List.getElem?_set_ne (Ne.symm h1), hb] at e1
       exact other j (own' h1 hj) e1
     · rw [List.getElem?_set_ne (Ne.symm h1)] at e1
       rw [List.getElem?_set_ne (Ne.symm h2)] at e2
       exact o.apart j m b hjm (own' h1 hj) (own' h2 hm) e1 e2
theorem Ok.modify (o : Ok K H₀ H O σ ds hd) (e : ds[i]? = some (.own l)) (ea : σ[i]? = some (some (.ref a))) (r : Reps K H O xs' l') :
  Ok K H₀ (upd H a (.lst xs')) O σ (ds.set i (.own l')) hd := by
 obtain ⟨a', xs, h1, h2, h3, h4⟩ := o.readO e
 rw [ea] at h1; cases h1
 have hl := (List.getElem?_eq_some_iff.mp e).1
 have k : Keep O H (upd H a (.lst xs')) := fun b u hb eb => by
  rw [upd_ne (fun (z : b = a) => hb (z.symm ▸ h2))]; exact eb
 refine ⟨fun b u eb => ?_, fun j l2 b e1 e2 => ?_, fun b hb => ?_, by simpa using o.len, fun j s es => ?_, fun j m b hjm hj hm e1 e2 => ?_, fun p hp => (o.hold p hp).keep k, o.obs.tr (fun _ _ _ r hb => r.keep k fun b z u eu => by rw [upd_ne (fun q => (hb b z).2 i ⟨l, e⟩ (by rw [q]; exact ea))]; exact eu) (fun j r t ej => by
  obtain ⟨e1, hj⟩ := wD (fun r t => by intro z; cases z) ej
  exact ⟨e1, rfl⟩) (fun j b oj ej => by
  by_cases hj : j = i
  · subst hj; exact .inl ⟨⟨l, e⟩, ej⟩
  · obtain ⟨l', e'⟩ := oj
    rw [List.getElem?_set_ne (Ne.symm hj)] at e'
    exact .inl ⟨⟨l', e'⟩, ej⟩)⟩
 rotate_left 1
 · by_cases hj : j = i
   · subst hj; exact o.fresh j l b e e2
   · rw [List.getElem?_set_ne (Ne.symm hj)] at e1; exact o.fresh j l2 b e1 e2
 rotate_right 1
 · rw [upd_ne (fun z => by rw [z, o.fresh i l a e ea] at eb; cases eb)]
   exact o.same b u eb
 · by_cases hba : b = a
   · subst hba; exact ⟨⟨.lst xs', rfl⟩, zS⟩
   · rw [upd_ne hba]; exact o.dom b hb
 · by_cases hj : j = i
   · subst hj
     rw [List.getElem?_set_self hl] at es
     cases es
     rw [ea]
     exact ⟨h2, xs', zS, r.keep k⟩
   · rw [List.getElem?_set_ne (Ne.symm hj)] at es
     cases s with
     | no => exact qW
     | ob r t => exact jV
     | exc t =>
       obtain ⟨a', C', ob', u', q1, q2, q3, q4⟩ := o.readX es
       rw [q1]
       exact ⟨C', ob', u', q2, by rw [upd_ne (fun z => by rw [z, h3] at q3; cases q3)]; exact q3, q4⟩
     | exf t fs =>
       obtain ⟨a', q1, q3⟩ := o.readE es
       rw [q1]
       exact q3.keep fun a' ob' u' q3 => by rw [upd_ne (fun z => by rw [z, h3] at q3; cases q3)]; exact q3
     | fr l' =>
       obtain ⟨a', xs'', q1, q2, q0, q3, q4⟩ := o.readF es
       rw [q1]
       exact ⟨q2, q0, xs'', by rw [upd_ne (fun z => q2 (by rw [z]; exact h2))]; exact q3, q4.keep k⟩
     | v d =>
       obtain ⟨v, q1, q2⟩ := o.read es
       rw [q1]
       exact jT (q2.keep k)
     | own l'' =>
       obtain ⟨b, ys, q1, q2, q3, q4⟩ := o.readO es
       rw [q1]
       refine ⟨q2, ys, ?_, q4.keep k⟩
       rw [upd_ne (fun z => ?_)]
       · exact q3
       · subst z
         exact o.apart j i b hj ⟨_, es⟩ ⟨l, e⟩ q1 ea
 · have own' : ∀ {j : Nat}, IsOwn (ds.set i (.own l')) j -> IsOwn ds j := fun {j} ⟨l'', e'⟩ => by
    by_cases hj : j = i
    · subst hj; exact ⟨l, e⟩
    · rw [List.getElem?_set_ne (Ne.symm hj)] at e'; exact ⟨l'', e'⟩
   exact o.apart j m b hjm (own' hj) (own' hm) e1 e2
theorem Ok.holdMore (o : Ok K H₀ H O σ ds hd) (r : HOk K H₀ H O p) (hp : ∀ k a, HI.root k a ≠ p := by intro _ _ z; cases z) : Ok K H₀ H O σ ds (p :: hd) :=
 ⟨o.same, o.fresh, o.dom, o.len, o.sl, o.apart, fun q hq => (List.mem_cons.mp hq).elim (fun e => e ▸ r) (o.hold q), let ⟨F, hF⟩ := o.obs; ⟨F, fun i r t e => let ⟨v, h1, h2, h3, h4⟩ := hF i r t e; ⟨v, h1, h2, fun k a z y => (List.mem_cons.mp y).elim (fun y => (hp k a y).elim) (h3 k a z), h4⟩⟩⟩
theorem Ok.holdLess (o : Ok K H₀ H O σ ds (p :: hd)) : Ok K H₀ H O σ ds hd :=
 ⟨o.same, o.fresh, o.dom, o.len, o.sl, o.apart, fun q hq => o.hold q (List.mem_cons_of_mem _ hq), let ⟨F, hF⟩ := o.obs; ⟨F, fun i r t e => let ⟨v, h1, h2, h3, h4⟩ := hF i r t e; ⟨v, h1, h2, fun k a z y => h3 k a z (List.mem_cons_of_mem _ y), h4⟩⟩⟩
end
section
variable (X : Cx)
def PV (e : Expr) (f : FE) : Prop := ∃ t, PE X e t /\ ∀ H₀ H O σ ds hd d Q, Ok X.K H₀ H O σ ds hd -> f ds = some d -> (∀ v H', Same H H' -> Rep X.K H' O v d -> Q v H') -> t σ H Q
def PVw (e : Expr) (f : FE) : Prop := ∃ t, PE X e t /\ ∀ H₀ H O σ ds hd d Q, Ok X.K H₀ H O σ ds hd -> f ds = some d -> (∀ v H', Same H H' -> WRep X.K H' O v d -> Q v H') -> t σ H Q
def PVf (e : Expr) (f : FA) : Prop := ∃ t, PE X e t /\ ∀ H₀ H O σ ds hd l Q, Ok X.K H₀ H O σ ds hd -> f ds = some l →
 (∀ a xs H', Same H H' -> H a = none -> H' a = some (.lst xs) -> Reps X.K H' (ins1 a O) xs l -> Q (.ref a) H') -> t σ H Q
def PTv (e : Expr) (c : FT) : Prop := ∃ t, PT X e t /\ ∀ H₀ H O σ ds hd b Q, Ok X.K H₀ H O σ ds hd -> c ds = some b -> (∀ H', Same H H' -> Q b H') -> t σ H Q
def PWv (e : Expr) (c : FT) : Prop := ∃ t, PW X e t /\ ∀ H₀ H O σ ds hd b Q, Ok X.K H₀ H O σ ds hd -> c ds = some b -> (∀ H', Same H H' -> Q b H') -> t σ H Q
def PAv (es : List Expr) (f : FA) : Prop := ∃ t, PA X es t /\ ∀ H₀ H O σ ds hd l Q, Ok X.K H₀ H O σ ds hd -> f ds = some l -> (∀ vs H', Same H H' -> Paired (WRep X.K H' O) vs l -> Q vs H') -> t σ H Q
def PAs (es : List Expr) (f : FA) : Prop := ∃ t, PA X es t /\ ∀ H₀ H O σ ds hd l Q, Ok X.K H₀ H O σ ds hd -> f ds = some l -> (∀ vs H', Same H H' -> Reps X.K H' O vs l -> Q vs H') -> t σ H Q
end
section
variable {X : Cx}
theorem PV.w (h : PV X e f) : PVw X e f := by
 obtain ⟨t, ht, hf⟩ := h
 exact ⟨t, ht, fun H₀ H O σ ds hd d Q o e q => hf H₀ H O σ ds hd d Q o e fun v H' s r => q v H' s (.inl r)⟩
theorem PVf.s (h : PVf X e f) : PV X e (mkL f) := by
 obtain ⟨t, ht, hf⟩ := h
 refine ⟨t, ht, fun H₀ H O σ ds hd d Q o e q => ?_⟩
 unfold mkL at e
 obtain ⟨l, hl, rfl⟩ := mpd e
 rw [hl] at e; cases e
 refine hf H₀ H O σ ds hd l Q o hl fun a xs H' s hn he r => q _ _ s ?_
 exact .lst (o.free hn) (.inl he) (r.less fun _ z => .inr z)
theorem zK i (hN : X.N[i]? = some x := by rfl) (hv : Vis X.env.scope x := by first | exact Or.inl rfl | exact Or.inr (Or.inl rfl) | exact Or.inr (Or.inr rfl)) (hd : (x == ("__debug__" : Str)) = false := by decide)
  (hcd : (x == ("__classdict__" : Str)) = false := by decide) : PV X (.Name x pos) (qB i) := by
 refine ⟨_, jZ hN hv hd hcd, fun H₀ H O σ ds hd d Q o e q => ?_⟩
 unfold qB at e
 cases hs : ds[i]? with
 | none => rw [hs] at e; cases e
 | some s =>
   rw [hs] at e
   cases s with
   | v d' =>
     cases e
     obtain ⟨v, h1, h2⟩ := o.read hs
     exact ⟨v, h1, q v H (Same.refl _) h2⟩
   | no => cases e
   | exc _ => cases e
   | exf _ _ => cases e
   | fr _ => cases e
   | ob _ _ => cases e
   | own l => cases e
theorem zH i (hN : X.N[i]? = some x := by rfl) (hv : Vis X.env.scope x := by first | exact Or.inl rfl | exact Or.inr (Or.inl rfl) | exact Or.inr (Or.inr rfl)) (hd : (x == ("__debug__" : Str)) = false := by decide)
  (hcd : (x == ("__classdict__" : Str)) = false := by decide) : PVw X (.Name x pos) (zJ i) := by
 refine ⟨_, jZ hN hv hd hcd, fun H₀ H O σ ds hd d Q o e q => ?_⟩
 unfold zJ at e
 cases hs : ds[i]? with
 | none => rw [hs] at e; cases e
 | some s =>
   rw [hs] at e
   cases s with
   | v d' =>
     cases e
     obtain ⟨v, h1, h2⟩ := o.read hs
     exact ⟨v, h1, q v H (Same.refl _) (.inl h2)⟩
   | no => cases e
   | exc _ => cases e
   | exf _ _ => cases e
   | fr _ => cases e
   | ob _ _ => cases e
   | own l =>
     cases e
     obtain ⟨a, xs, h1, h2, h3, h4⟩ := o.readO hs
     exact ⟨.ref a, h1, q _ H (Same.refl _) (.inr ⟨a, xs, l, rfl, rfl, h2, h3, h4⟩)⟩
theorem qH {j pos} : PV X (.Constant (.int i) j pos) (zA (.int i)) := ⟨_, pe_int, fun _ H _ _ _ _ _ _ _ e q => by cases e; exact q _ H (Same.refl _) (.int i)⟩
theorem pv_bl {j pos} : PV X (.Constant (.bool b) j pos) (zA (.bl b)) := ⟨_, pe_bl, fun _ H _ _ _ _ _ _ _ e q => by cases e; exact q _ H (Same.refl _) (.bl b)⟩
theorem qD {j pos} : PV X (.Constant .none j pos) (zA .non) := ⟨_, pe_non, fun _ H _ _ _ _ _ _ _ e q => by cases e; exact q _ H (Same.refl _) .non⟩
theorem yT {j pos} : PV X (.Constant (.str x) j pos) (zA (.str x)) := ⟨_, pe_str, fun _ H _ _ _ _ _ _ _ e q => by cases e; exact q _ H (Same.refl _) (.str x)⟩
theorem pv_glob (hg : Gl X x) (hm : X.mg x = some u) (r : RelV v u) (hr : ∀ H O, Rep X.K H O v d) (hd : (x == ("__debug__" : Str)) = false := by decide) : PV X (.Name x pos) (zA d) :=
 ⟨_, pe_glob hg hm r hd, fun _ H O _ _ _ _ _ _ e q => by cases e; exact q _ H (Same.refl _) (hr H O)⟩
def OpS (X : Cx) (r : R2) (op : D -> D -> Option D) : Prop := ∀ H O x y dx dy d Q, (∀ a, O a -> ∃ u : MutHO, H a = some u.1) -> WRep X.K H O x dx -> WRep X.K H O y dy -> op dx dy = some d -> (∀ v H', Same H H' -> Rep X.K H' O v d -> Q v H') -> r x y H Q
theorem pv_tOp {r : R2} {op : D -> D -> Option D} (hs : OpS X r op) {a b : Expr} {fa fb : FE} {ta tb : TE} (ha : ∀ H₀ H O σ ds hd d Q, Ok X.K H₀ H O σ ds hd -> fa ds = some d -> (∀ v H', Same H H' -> WRep X.K H' O v d -> Q v H') -> ta σ H Q)
  (hb : ∀ H₀ H O σ ds hd d Q, Ok X.K H₀ H O σ ds hd -> fb ds = some d -> (∀ v H', Same H H' -> WRep X.K H' O v d -> Q v H') -> tb σ H Q) :
  ∀ H₀ H O σ ds hd d Q, Ok X.K H₀ H O σ ds hd -> zI op fa fb ds = some d -> (∀ v H', Same H H' -> Rep X.K H' O v d -> Q v H') -> tOp r ta tb σ H Q := by
 intro H₀ H O σ ds hd d Q o e q
 obtain ⟨dx, h1, e⟩ := bnd e
 obtain ⟨dy, h2, e⟩ := bnd e
 refine ha H₀ H O σ ds hd dx _ o h1 fun x H1 s1 r1 => ?_
 refine hb H₀ H1 O σ ds hd dy _ (o.mono s1) h2 fun y H2 s2 r2 => ?_
 exact hs H2 O x y dx dy d Q ((o.mono s1).mono s2).dom (r1.mono s2) r2 e fun v H' s r => q v H' ((s1.trans s2).trans s) r
theorem vD (ho : OpR X (binaryOp op) r) (hs : OpS X r opD) (ha : PVw X a fa) (hb : PVw X b fb) : PV X (.BinOp a op b pos) (zI opD fa fb) := by
 obtain ⟨ta, pa, ha⟩ := ha
 obtain ⟨tb, pb, hb⟩ := hb
 exact ⟨_, pe_op ho pa pb, pv_tOp hs (a := a) (b := b) ha hb⟩
theorem pv_cmp (ho : OpR X (compareOp op) r) (hs : OpS X r opD) (ha : PVw X a fa) (hb : PVw X b fb) (hm : behindInMarks op b = false) : PV X (.Compare a [op] [b] pos) (zI opD fa fb) := by
 obtain ⟨ta, pa, ha⟩ := ha
 obtain ⟨tb, pb, hb⟩ := hb
 exact ⟨_, pe_cmpR ho pa pb hm, pv_tOp hs (a := a) (b := b) ha hb⟩
theorem pt_cmpV (ho : OpR X (compareOp op) r) (hs : OpS X r opD) (ha : PVw X a fa) (hb : PVw X b fb) (hm : behindInMarks op b = false) : PTv X (.Compare a [op] [b] pos) (zU (zI opD fa fb)) := by
 obtain ⟨ta, pa, ha⟩ := ha
 obtain ⟨tb, pb, hb⟩ := hb
 refine ⟨_, pt_cmpR ho pa pb hm, fun H₀ H O σ ds hd k Q o e q => ?_⟩
 obtain ⟨d, h, e⟩ := bnd e
 refine pv_tOp hs (a := a) (b := b) ha hb H₀ H O σ ds hd d _ o h fun v H' s r => ?_
 cases d with
 | bl c => cases e; cases r; exact ⟨_, rfl, q H' s⟩
 | _ => cases e
theorem os_add : OpS X (fun x y H Q => rI0 (fun i j => .int (i + j)) x y H Q \/ ∃ i j, x = .str i /\ y = .str j /\ i.length + j.length <= sizeLine /\ Q (.str (i ++ j)) H) yD := by
 intro H O x y dx dy d Q ho rx ry e q
 cases dx <;> cases dy <;> first | (simp [yD] at e; done) | skip
 · cases e
   rw [rx.int', ry.int']
   exact .inl ⟨_, _, rfl, rfl, q _ H (Same.refl _) (.int _)⟩
 · rename_i x y
   simp only [yD] at e
   split at e
   · rename_i hl
     cases e
     rw [rx.str', ry.str']
     exact .inr ⟨_, _, rfl, rfl, hl, q _ H (Same.refl _) (.str _)⟩
   · cases e
theorem op_addU : OpR X (binaryOp .Add) (fun x y H Q => rI0 (fun i j => .int (i + j)) x y H Q \/ ∃ i j, x = .str i /\ y = .str j /\ i.length + j.length <= sizeLine /\ Q (.str (i ++ j)) H) := op_add.or op_add_str
theorem os_sub : OpS X (rI0 fun i j => .int (i - j)) subD := by
 intro H O x y dx dy d Q ho rx ry e q
 cases dx <;> cases dy <;> first | (simp [subD] at e; done) | skip
 cases e
 rw [rx.int', ry.int']
 exact ⟨_, _, rfl, rfl, q _ H (Same.refl _) (.int _)⟩
def CDivB (i j : Int) : Prop := divOk j
theorem op_fdivB : OpR X (binaryOp .FloorDiv) (rI CDivB fun i j => .int (i / j)) := opI fun i j _ _ _ _ _ hc q => by
 have e : i.fdiv j = i / j := Int.fdiv_eq_ediv_of_nonneg _ (Int.le_of_lt hc.1)
 refine floordiv_int (by have := hc.1; lia) ?_ (.inl (PyProof.noPylong_of_log2 hc.2))
 rw [e]; exact q
theorem os_fdiv : OpS X (rI CDivB fun i j => .int (i / j)) qP := by
 intro H O x y dx dy d Q ho rx ry e q
 cases dx <;> cases dy <;> first | (simp [qP] at e; done) | skip
 simp only [qP] at e
 split at e
 · rename_i hc
   cases e
   rw [rx.int', ry.int']
   exact ⟨_, _, rfl, rfl, hc, q _ H (Same.refl _) (.int _)⟩
 · cases e
theorem os_mod : OpS X (rI (fun _ j => 0 < j) fun i j => .int (i % j)) qX := by
 intro H O x y dx dy d Q ho rx ry e q
 cases dx <;> cases dy <;> first | (simp [qX] at e; done) | skip
 simp only [qX] at e
 split at e
 · rename_i hc
   cases e
   rw [rx.int', ry.int']
   exact ⟨_, _, rfl, rfl, hc, q _ H (Same.refl _) (.int _)⟩
 · cases e
theorem vL : OpS X (rI0 fun i j => .bl (p i j)) (cmpI p) := by
 intro H O x y dx dy d Q ho rx ry e q
 cases dx <;> cases dy <;> first | (simp [cmpI] at e; done) | skip
 cases e
 rw [rx.int', ry.int']
 exact ⟨_, _, rfl, rfl, q _ H (Same.refl _) (.bl _)⟩
end
section
theorem PV.t (h : PV X e f) (he : ∀ whole, isTrue e X.env whole = (do let v <- whole; standAt e.pos; holding [v] (truthy v)) := by intro _; rfl) : PTv X e (zU f) := by
 obtain ⟨t, ht, hf⟩ := h
 refine ⟨_, pt_val ht he, fun H₀ H O σ ds hd k Q o e q => ?_⟩
 unfold zU at e
 obtain ⟨d, h, e⟩ := bnd e
 refine hf H₀ H O σ ds hd d _ o h fun v H' s r => ?_
 cases d with
 | bl c => cases e; cases r; exact ⟨_, rfl, q H' s⟩
 | _ => cases e
theorem xJ (ha : PTv X a c) : PWv X (.BoolOp .And [a] pos) c := by
 obtain ⟨t, ht, hf⟩ := ha
 exact ⟨_, pw_and1 ht, hf⟩
theorem pwv_or1 (ha : PTv X a c) : PWv X (.BoolOp .Or [a] pos) c := by
 obtain ⟨t, ht, hf⟩ := ha
 exact ⟨_, pw_or1 ht, hf⟩
theorem xC {rest : List Expr} (ha : PTv X a c) (hb : PWv X (.BoolOp .And (b :: rest) pos) d) : PWv X (.BoolOp .And (a :: b :: rest) pos) (andT c d) := by
 obtain ⟨t, ht, hf⟩ := ha
 obtain ⟨u, hu, hg⟩ := hb
 refine ⟨_, pw_and ht hu, fun H₀ H O σ ds hd k Q o e q => ?_⟩
 obtain ⟨b, h, e⟩ := bnd e
 refine hf H₀ H O σ ds hd b _ o h fun H' s => ?_
 cases b with
 | true => exact iteT (hg H₀ H' O σ ds hd k Q (o.mono s) (by simpa using e) fun H'' s' => q H'' (s.trans s'))
 | false =>
   have : false = k := by simpa using e
   subst this
   exact iteF (q H' s)
theorem pwv_or {rest : List Expr} (ha : PTv X a c) (hb : PWv X (.BoolOp .Or (b :: rest) pos) d) : PWv X (.BoolOp .Or (a :: b :: rest) pos) (orT c d) := by
 obtain ⟨t, ht, hf⟩ := ha
 obtain ⟨u, hu, hg⟩ := hb
 refine ⟨_, pw_or ht hu, fun H₀ H O σ ds hd k Q o e q => ?_⟩
 obtain ⟨b, h, e⟩ := bnd e
 refine hf H₀ H O σ ds hd b _ o h fun H' s => ?_
 cases b with
 | false => exact iteF (hg H₀ H' O σ ds hd k Q (o.mono s) (by simpa using e) fun H'' s' => q H'' (s.trans s'))
 | true =>
   have : true = k := by simpa using e
   subst this
   exact iteT (q H' s)
theorem PWv.t (h : PWv X e c) : PTv X e c := by
 obtain ⟨t, ht, hf⟩ := h
 exact ⟨t, ht.pt, hf⟩
theorem ptv_not (ha : PTv X a c) : PTv X (.UnaryOp .Not a pos) (notT c) := by
 obtain ⟨t, ht, hf⟩ := ha
 refine ⟨_, pt_not ht, fun H₀ H O σ ds hd k Q o e q => ?_⟩
 obtain ⟨b, h, rfl⟩ := mpd e
 exact hf H₀ H O σ ds hd b _ o h fun H' s => q H' s
theorem kH {op} (ha : PV X a f) : PV X (.BoolOp op [a] pos) f := by
 obtain ⟨t, ht, hf⟩ := ha
 exact ⟨_, pe_one ht, hf⟩
theorem pv_and {rest : List Expr} (ha : PV X a f) (hb : PV X (.BoolOp .And (b :: rest) pos) g) : PV X (.BoolOp .And (a :: b :: rest) pos) (andV f g) := by
 obtain ⟨t, ht, hf⟩ := ha
 obtain ⟨u, hu, hg⟩ := hb
 refine ⟨_, pe_and ht hu, fun H₀ H O σ ds hd d Q o e q => ?_⟩
 obtain ⟨dd, h, e⟩ := bnd e
 refine hf H₀ H O σ ds hd dd _ o h fun v H' s r => ?_
 cases dd with
 | bl c =>
   cases r
   cases c with
   | true => exact ⟨true, rfl, iteT (hg H₀ H' O σ ds hd d Q (o.mono s) e fun v H'' s' => q v H'' (s.trans s'))⟩
   | false =>
     have := Option.some.inj e
     subst this
     exact ⟨false, rfl, iteF (q _ H' s (.bl false))⟩
 | _ => cases e
theorem pv_or {rest : List Expr} (ha : PV X a f) (hb : PV X (.BoolOp .Or (b :: rest) pos) g) : PV X (.BoolOp .Or (a :: b :: rest) pos) (orV f g) := by
 obtain ⟨t, ht, hf⟩ := ha
 obtain ⟨u, hu, hg⟩ := hb
 refine ⟨_, pe_or ht hu, fun H₀ H O σ ds hd d Q o e q => ?_⟩
 obtain ⟨dd, h, e⟩ := bnd e
 refine hf H₀ H O σ ds hd dd _ o h fun v H' s r => ?_
 cases dd with
 | bl c =>
   cases r
   cases c with
   | false => exact ⟨false, rfl, iteF (hg H₀ H' O σ ds hd d Q (o.mono s) e fun v H'' s' => q v H'' (s.trans s'))⟩
   | true =>
     have := Option.some.inj e
     subst this
     exact ⟨true, rfl, iteT (q _ H' s (.bl true))⟩
 | _ => cases e
theorem kI (hc : PTv X c fc) (ha : PV X a f) (hb : PV X b g) : PV X (.IfExp c a b pos) (ifV fc f g) := by
 obtain ⟨tc, pc, hc⟩ := hc
 obtain ⟨t, ht, hf⟩ := ha
 obtain ⟨u, hu, hg⟩ := hb
 refine ⟨_, pe_ifExp pc ht hu, fun H₀ H O σ ds hd d Q o e q => ?_⟩
 obtain ⟨k, h, e⟩ := bnd e
 refine hc H₀ H O σ ds hd k _ o h fun H' s => ?_
 cases k with
 | true => exact iteT (hf H₀ H' O σ ds hd d Q (o.mono s) (by simpa using e) fun v H'' s' => q v H'' (s.trans s'))
 | false => exact iteF (hg H₀ H' O σ ds hd d Q (o.mono s) (by simpa using e) fun v H'' s' => q v H'' (s.trans s'))
theorem xH : PAv X [] zQ := ⟨_, yF, fun _ H _ _ _ _ _ _ _ e q => by cases e; exact q _ H (Same.refl _) .nil⟩
theorem zL : PAs X [] zQ := ⟨_, yF, fun _ H _ _ _ _ _ _ _ e q => by cases e; exact q _ H (Same.refl _) .nil⟩
theorem jW (ha : PVw X e f) (hr : PAv X es g) (hs : starEach (e :: es) X.env = (false, eval e X.env) :: starEach es X.env := by rfl) : PAv X (e :: es) (zB f g) := by
 obtain ⟨t, ht, hf⟩ := ha
 obtain ⟨u, hu, hg⟩ := hr
 refine ⟨_, jC ht hu hs, fun H₀ H O σ ds hd l Q o e q => ?_⟩
 obtain ⟨x, h, e⟩ := bnd e
 obtain ⟨r, h2, rfl⟩ := mpd e
 refine hf H₀ H O σ ds hd x _ o h fun v H1 s1 r1 => ?_
 refine hg H₀ H1 O σ ds hd r _ (o.mono s1) h2 fun vs H2 s2 r2 => ?_
 exact q _ H2 (s1.trans s2) (.cons (r1.mono s2) r2)
theorem zC (ha : PV X e f) (hr : PAs X es g) (hs : starEach (e :: es) X.env = (false, eval e X.env) :: starEach es X.env := by rfl) : PAs X (e :: es) (zB f g) := by
 obtain ⟨t, ht, hf⟩ := ha
 obtain ⟨u, hu, hg⟩ := hr
 refine ⟨_, jC ht hu hs, fun H₀ H O σ ds hd l Q o e q => ?_⟩
 obtain ⟨x, h, e⟩ := bnd e
 obtain ⟨r, h2, rfl⟩ := mpd e
 refine hf H₀ H O σ ds hd x _ o h fun v H1 s1 r1 => ?_
 refine hg H₀ H1 O σ ds hd r _ (o.mono s1) h2 fun vs H2 s2 r2 => ?_
 exact q _ H2 (s1.trans s2) (.cons (r1.mono s2) r2)
theorem qL (h : H p = none) o : Same H (upd H p o) := fun b u q => by rw [upd_ne (qT q h)]; exact q
theorem qO (h : PAs X es g) : PVf X (.List es pos) (zR g) := by
 obtain ⟨t, ht, hf⟩ := h
 refine ⟨_, pe_lst ht, fun H₀ H O σ ds hd l Q o e q => ?_⟩
 unfold zR at e
 cases h : g ds with
 | none => rw [h] at e; cases e
 | some l' =>
   rw [h] at e
   simp only [Option.bind_some] at e
   split at e
   · rename_i hl
     cases e
     refine hf H₀ H O σ ds hd l _ o h fun vs H1 s1 r1 => ⟨by rw [r1.length]; exact hl, fun p hp => ?_⟩
     refine q p vs _ (s1.trans (qL hp _)) (s1.free hp) zS ?_
     exact (r1.more hp).mono (qL hp _)
   · cases e
theorem qS {x1} (h : PAs X es g) : PV X (.Tuple es x1 pos) (mkT (zR g)) := by
 obtain ⟨t, ht, hf⟩ := h
 refine ⟨_, pe_tup ht, fun H₀ H O σ ds hd d Q o e q => ?_⟩
 unfold mkT zR at e
 cases h : g ds with
 | none => rw [h] at e; cases e
 | some l' =>
   rw [h] at e
   simp only [Option.bind_some] at e
   split at e
   · rename_i hl
     cases e
     refine hf H₀ H O σ ds hd l' _ o h fun vs H1 s1 r1 => ⟨by rw [r1.length]; exact hl, fun p hp => ?_⟩
     refine q _ _ (s1.trans (qL hp _)) ?_
     exact .tup ((o.mono s1).free hp) (.inl zS) (r1.mono (qL hp _))
   · cases e
theorem atI_rep {K : Frag} (r : Reps K H O xs l) (e : atI l i = some d) : ∃ v, atI xs i = some v /\ Rep K H O v d := by
 unfold atI at e ⊢
 rw [r.length]
 cases h : ixN l.length i with
 | none => rw [h] at e; cases e
 | some j =>
   rw [h] at e
   exact r.get e
theorem ix_sem {K : Frag} (rx : WRep K H O x dx) (ry : WRep K H O y dy) (e : ixD dx dy = some d) (q : ∀ v H', Same H H' -> Rep K H' O v d -> Q v H') : rIx K x y H Q := by
 cases dx <;> cases dy <;> first | (simp [ixD] at e; done) | skip
 · simp only [ixD] at e
   split at e
   · rename_i hl
     rw [rx.str', ry.int']
     obtain ⟨c, hc, rfl⟩ := mpd e
     exact .inr (.inr ⟨_, _, c, rfl, rfl, hl, hc, q _ H (Same.refl _) (.str _)⟩)
   · cases e
 · obtain ⟨a, xs, rfl, hs, r⟩ := rx.seqT
   rw [ry.int']
   obtain ⟨v, h1, h2⟩ := atI_rep r e
   exact .inr (.inl ⟨a, xs, _, v, rfl, rfl, hs, h1, q _ H (Same.refl _) h2⟩)
 · obtain ⟨a, xs, rfl, hs, r⟩ := rx.seqL
   rw [ry.int']
   obtain ⟨v, h1, h2⟩ := atI_rep r e
   exact .inl ⟨a, xs, _, v, rfl, rfl, hs, h1, q _ H (Same.refl _) h2⟩
theorem os_ix : OpS X (rIx X.K) ixD := fun H O x y dx dy d Q ho rx ry e q => ix_sem rx ry e q
theorem qE (ha : PVw X a fa) (hb : PVw X b fb) (hs : PlainIx b := by exact fun _ _ => rfl) : PV X (.Subscript a b pos) (zI ixD fa fb) := by
 obtain ⟨ta, pa, ha⟩ := ha
 obtain ⟨tb, pb, hb⟩ := hb
 exact ⟨_, pe_ix ix_seq pa pb hs, pv_tOp os_ix (a := a) (b := b) ha hb⟩
end
noncomputable def RetOk (K : Frag) (H H' : Hp) (v : V) : Ret -> Prop
 | .val d => Rep K H' (Old H) v d
 | .fresh l => ∃ a xs, v = .ref a /\ H a = none /\ H' a = some (.lst xs) /\ Reps K H' (ins1 a (Old H)) xs l
 | .any d => Rep K H' jH v d
 | .obj t => ∃ fs, RepO K H' (fun b => b ∈ fs \/ Old H b) v t fs /\ fs.Nodup /\ ∀ b ∈ fs, H b = none
noncomputable def RetB (K : Frag) (H : Hp) (hd : Hold) (v : V) : Ret -> Prop
 | .any d => ∀ B, HI.base B ∈ hd -> Rep K H B v d
 | _ => True
noncomputable def spF (K : Frag) (n : Nat) (F : List D -> Option Ret) : Sp := fun vs H Q _ => vs.length = n /\ ∃ ds r, Reps K H jH vs ds /\ F ds = some r /\ ∀ v H', Same H H' -> RetOk K H H' v r -> Q v H'
section
variable {X : Cx}
theorem retV_ok {K : Frag} (h : RetOk K H H' v r) (e : retV r = some d) (ho : ∀ a, O a -> Old H a) : Rep K H' O v d := by
 cases r with
 | any d' => cases e
 | val d' => cases e; exact h.less ho
 | obj t =>
   cases e
   obtain ⟨fs, h1, h2, h3⟩ := h
   refine h1.val' fun a z => ⟨.inr (ho a z), fun q => ?_⟩
   obtain ⟨o, e, _⟩ := ho a z
   rw [h3 a q] at e; cases e
 | fresh l =>
   cases e
   obtain ⟨a, xs, rfl, h1, h2, h3⟩ := h
   refine .lst (fun z => ?_) (.inl h2) (h3.less fun b z => .inr (ho b z))
   obtain ⟨o, e, _⟩ := ho a z
   rw [h1] at e; cases e
theorem retF_ok {K : Frag} (h : RetOk K H H' v r) (e : retF r = some l) (ho : ∀ a, O a -> Old H a) : ∃ a xs, v = .ref a /\ H a = none /\ H' a = some (.lst xs) /\ Reps K H' (ins1 a O) xs l := by
 cases r with
 | any d' => cases e
 | val d' => cases e
 | obj t => cases e
 | fresh l' =>
   cases e
   obtain ⟨a, xs, rfl, h1, h2, h3⟩ := h
   exact ⟨a, xs, rfl, h1, h2, h3.less fun b z => z.elim .inl fun z => .inr (ho b z)⟩
section
end
def CallS (X : Cx) (r : List V -> Hp -> VK -> Prop) (F : List D -> Option D) : Prop := ∀ H O vs l d Q, (∀ a, O a -> ∃ u : MutHO, H a = some u.1) -> Paired (WRep X.K H O) vs l -> F l = some d -> (∀ v H', Same H H' -> Rep X.K H' O v d -> Q v H') -> r vs H Q
theorem wI {id : String} (hc : CallR X (.builtin id) r) (hs : CallS X r F) (hm : X.mg x = none) (hv : bootBuiltins x = some (.builtin id)) (ha : PAv X (e :: es) g)
  (hg : Gl X x) (hn : x ≠ "__name__" := by decide) (hdb : (x == ("__debug__" : Str)) = false := by decide) (he : starEach (e :: es) X.env = (false, eval e X.env) :: starEach es X.env := by rfl) (hpl : (backTo pos (starEach es X.env)).any (·.1) = false := by rfl) :
  PV X (.Call (.Name x p) (e :: es) [] pos) (callB F g) := by
 obtain ⟨t, ht, hf⟩ := ha
 refine ⟨_, vE hc hg hm hv ht hn hdb he hpl, fun H₀ H O σ ds hd d Q o e q => ?_⟩
 obtain ⟨l, h, e⟩ := bnd e
 refine hf H₀ H O σ ds hd l _ o h fun vs H1 s1 r1 => ?_
 exact hs H1 O vs l d Q (o.mono s1).dom r1 e fun v H' s' r => q v H' (s1.trans s') r
theorem call_lenU : CallR X (.builtin "len") (fun xs H Q => (∃ p ys, xs = [.ref p] /\ (SqL X.K H p ys \/ SqT X.K H p ys) /\ Q (.int ys.length) H) \/ ∃ z, xs = [.str z] /\ z.length <= sizeLine /\ Q (.int z.length) H) := call_len_seq.or call_len_str
theorem cs_len : CallS X (fun xs H Q => (∃ p ys, xs = [.ref p] /\ (SqL X.K H p ys \/ SqT X.K H p ys) /\ Q (.int ys.length) H) \/ ∃ z, xs = [.str z] /\ z.length <= sizeLine /\ Q (.int z.length) H) lenD := by
 intro H O vs l d Q ho r e q
 unfold lenD at e
 split at e
 · cases e
   cases r with
   | cons r rn =>
     cases rn
     obtain ⟨a, xs, rfl, hs, rs⟩ := r.seqL
     refine .inl ⟨a, xs, rfl, .inl hs, ?_⟩
     rw [rs.length]
     exact q _ H (Same.refl _) (.int _)
 · cases e
   cases r with
   | cons r rn =>
     cases rn
     obtain ⟨a, xs, rfl, hs, rs⟩ := r.seqT
     refine .inl ⟨a, xs, rfl, .inr hs, ?_⟩
     rw [rs.length]
     exact q _ H (Same.refl _) (.int _)
 · split at e
   · rename_i hl
     cases e
     cases r with
     | cons r rn =>
       cases rn
       rw [r.str']
       exact .inr ⟨_, rfl, hl, q _ H (Same.refl _) (.int _)⟩
   · cases e
 · cases e
theorem pv_len (hm : X.mg "len" = none) (ha : PAv X [e] g) (hg : Gl X "len" := by rfl) (he : starEach [e] X.env = [(false, eval e X.env)] := by rfl) :
  PV X (.Call (.Name "len" p) [e] [] pos) (callB lenD g) := wI call_lenU cs_len hm PySem.boot_len ha hg (by decide) (by decide) he rfl
noncomputable def After (X : Cx) (H₀ : Hp) (hd : Hold) (E : Ends) : Out -> Prop
 | .nx ds => ∀ σ H O, Ok X.K H₀ H O σ ds hd -> E.nx σ H
 | .bk ds => ∀ σ H O, Ok X.K H₀ H O σ ds hd -> E.bk σ H
 | .ct ds => ∀ σ H O, Ok X.K H₀ H O σ ds hd -> E.ct σ H
 | .rt r => ∀ v H, Same H₀ H -> RetOk X.K H₀ H v r -> RetB X.K H hd v r -> E.rt v H
variable (X) in
def PSv (st : Stmt) (g : FS) : Prop := ∃ t, PS X st t /\ ∀ H₀ H O σ ds hd out E, Ok X.K H₀ H O σ ds hd -> g ds = some out -> After X H₀ hd E out -> t E σ H
variable (X) in
def PSsv (st : List Stmt) (g : FS) : Prop := ∃ t, PSs X st t /\ ∀ H₀ H O σ ds hd out E, Ok X.K H₀ H O σ ds hd -> g ds = some out -> After X H₀ hd E out -> t E σ H
theorem zX : PSsv X [] qI := ⟨_, pss_nil, fun _ H O σ ds hd out E o e h => by cases e; exact h σ H O o⟩
theorem zE {st : Stmt} {rest : List Stmt} (h1 : PSv X st f) (h2 : PSsv X rest g) : PSsv X (st :: rest) (qG f g) := by
 obtain ⟨t, ht, hf⟩ := h1
 obtain ⟨u, hu, hg⟩ := h2
 refine ⟨_, xT ht hu, fun H₀ H O σ ds hd out E o e h => ?_⟩
 obtain ⟨o1, h1, e⟩ := bnd e
 refine hf H₀ H O σ ds hd o1 _ o h1 ?_
 cases o1 with
 | nx ds' => exact fun σ' H' O' o' => hg H₀ H' O' σ' ds' hd out E o' e h
 | rt r => cases e; exact h
 | bk ds' => cases e; exact h
 | ct ds' => cases e; exact h
theorem zG {st : Stmt} (h1 : PSv X st f) : PSsv X [st] f := by
 obtain ⟨t, ht, hf⟩ := h1
 exact ⟨_, kA ht, hf⟩
theorem psv_continue : PSv X (.Continue pos) (fun ds => some (.ct ds)) := ⟨_, ps_continue, fun _ H O σ ds hd out E o e h => by cases e; exact h σ H O o⟩
theorem qN (hc : PTv X c fc) (ha : PSsv X a f) (hb : PSsv X b g) : PSv X (.If c a b pos) (ifG fc f g) := by
 obtain ⟨tc, pc, hc⟩ := hc
 obtain ⟨t, ht, hf⟩ := ha
 obtain ⟨u, hu, hg⟩ := hb
 refine ⟨_, ps_if pc ht hu, fun H₀ H O σ ds hd out E o e h => ?_⟩
 obtain ⟨k, h1, e⟩ := bnd e
 refine hc H₀ H O σ ds hd k _ o h1 fun H' s => ?_
 cases k with
 | true => exact iteT (hf H₀ H' O σ ds hd out E (o.mono s) (by simpa using e) h)
 | false => exact iteF (hg H₀ H' O σ ds hd out E (o.mono s) (by simpa using e) h)
theorem qJ (hN : X.N.Nodup) (he : PV X e f) (hi : X.N[i]? = some x := by rfl) (hx : Loc X.env.scope x := by first | exact Or.inl rfl | exact Or.inr rfl) (hs : swapsWith e (some (.Name x pos')) pos.line X.env = pure false := by rfl)
  (hf : X.fn x = true \/ X.env.scope.names.lookup x = some .local := by first | exact .inl rfl | exact .inr rfl) : PSv X (.Assign [.Name x pos'] e pos) (yE i f) := by
 obtain ⟨t, ht, hg⟩ := he
 refine ⟨_, ps_set hN hi hx ht hs hf, fun H₀ H O σ ds hd out E o e h => ?_⟩
 obtain ⟨d, h1, rfl⟩ := mpd e
 exact hg H₀ H O σ ds hd d _ o h1 fun v H' s r => h _ _ _ ((o.mono s).set r)
theorem yH (hN : X.N.Nodup) (he : PVf X e f) (hi : X.N[i]? = some x := by rfl) (hx : Loc X.env.scope x := by first | exact Or.inl rfl | exact Or.inr rfl) (hs : swapsWith e (some (.Name x pos')) pos.line X.env = pure false := by rfl)
  (hf : X.fn x = true \/ X.env.scope.names.lookup x = some .local := by first | exact .inl rfl | exact .inr rfl) : PSv X (.Assign [.Name x pos'] e pos) (setOG i f) := by
 obtain ⟨t, ht, hg⟩ := he
 refine ⟨_, ps_set hN hi hx ht hs hf, fun H₀ H O σ ds hd out E o e h => ?_⟩
 obtain ⟨l, h1, rfl⟩ := mpd e
 exact hg H₀ H O σ ds hd l _ o h1 fun a xs H' s hn he r => h _ _ _ (o.setO s hn he r)
theorem zV (he : PVw X e f) : PSv X (.Return (some e) pos) (retG f) := by
 obtain ⟨t, ht, hg⟩ := he
 refine ⟨_, vC ht, fun H₀ H O σ ds hd out E o e h => ?_⟩
 obtain ⟨d, h1, e⟩ := bnd e
 simp only [Option.bind_some, flatR] at e
 split at e
 · rename_i hf
   cases e
   exact hg H₀ H O σ ds hd d _ o h1 fun v H' s r => h _ _ (o.same.trans s) (Rep.flatten (fun a z => Old.mono (o.same.trans s) z) hf r.any) True.intro
 · cases e
theorem jR (he : PVf X e f) : PSv X (.Return (some e) pos) (retOG f) := by
 obtain ⟨t, ht, hg⟩ := he
 refine ⟨_, vC ht, fun H₀ H O σ ds hd out E o e h => ?_⟩
 obtain ⟨l, h1, e⟩ := bnd e
 simp only [Option.bind_some, flatF] at e
 split at e
 · rename_i hf
   cases e
   refine hg H₀ H O σ ds hd l _ o h1 fun a xs H' s hn he r => h _ _ (o.same.trans s) ⟨a, xs, rfl, o.same.free hn, he, Reps.flatten (fun b z => ?_) hf r⟩ True.intro
   rcases z with rfl | z
   · exact ⟨_, he, rfl⟩
   · exact Old.mono (o.same.trans s) z
 · cases e
theorem wH i (hN : X.N[i]? = some x := by rfl) (hv : Vis X.env.scope x := by first | exact Or.inl rfl | exact Or.inr (Or.inl rfl) | exact Or.inr (Or.inr rfl)) (hd : (x == ("__debug__" : Str)) = false := by decide)
  (hcd : (x == ("__classdict__" : Str)) = false := by decide) : PSv X (.Return (some (.Name x pos')) pos) (retXG i) := by
 refine ⟨_, vC (jZ hN hv hd hcd), fun H₀ H O σ ds hd out E o e h => ?_⟩
 unfold retXG at e
 cases hs : ds[i]? with
 | none => rw [hs] at e; cases e
 | some s =>
   rw [hs] at e
   cases s with
   | v d' => cases e
   | no => cases e
   | exc _ => cases e
   | exf _ _ => cases e
   | fr _ => cases e
   | ob _ _ => cases e
   | own l =>
     simp only [flatF] at e
     split at e
     · rename_i hf
       cases e
       obtain ⟨a, xs, h1, h2, h3, h4⟩ := o.readO hs
       refine ⟨.ref a, h1, h _ _ o.same ⟨a, xs, rfl, o.fresh i l a hs h1, h3, Reps.flatten (fun b z => ?_) hf h4⟩ True.intro⟩
       rcases z with rfl | z
       · exact ⟨_, h3, rfl⟩
       · exact Old.mono o.same z
     · cases e
theorem vQ (he : PV X e fe) (hk : PV X ek fk) (hN : X.N[i]? = some x := by rfl) (hv : Vis X.env.scope x := by first | exact Or.inl rfl | exact Or.inr (Or.inl rfl) | exact Or.inr (Or.inr rfl)) (hd : (x == ("__debug__" : Str)) = false := by decide)
  (hcd : (x == ("__classdict__" : Str)) = false := by decide)
  (ha : ∀ v, assign (.Subscript (.Name x p1) ek p2) X.env v = (do
    let ov <- holding [v] (eval (.Name x p1) X.env)
    let iv <- holding [v, ov] (eval ek X.env)
    standAt p2
    holding [v, ov, iv] (setItem ov iv v)
    release [v, ov, iv] []) := by intro _; rfl)
  (hs : swapsWithSole [.Subscript (.Name x p1) ek p2] e pos.line X.env = pure false := by rfl) (hw : swappedStores [.Subscript (.Name x p1) ek p2] e X.env = pure none := by rfl)
  (h1 : (assignEach [.Subscript (.Name x p1) ek p2] X.env).map (·.2) = [assign (.Subscript (.Name x p1) ek p2) X.env] := by rfl) : PSv X (.Assign [.Subscript (.Name x p1) ek p2] e pos) (putG i fk fe) := by
 obtain ⟨te, pe, he⟩ := he
 obtain ⟨tk, pk, hk⟩ := hk
 refine ⟨_, ps_asg pe (pg_sub (jZ hN hv hd hcd) pk set_list ha) hs hw h1, fun H₀ H O σ ds hd out E o e h => ?_⟩
 unfold putG at e
 cases hsl : ds[i]? with
 | none => rw [hsl] at e; cases e
 | some s =>
   rw [hsl] at e
   cases s with
   | v d' => cases e
   | no => cases e
   | exc _ => cases e
   | exf _ _ => cases e
   | fr _ => cases e
   | ob _ _ => cases e
   | own l =>
     obtain ⟨d, h1, e⟩ := bnd e
     obtain ⟨kd, h2, e⟩ := bnd e
     cases kd with
     | int n =>
       obtain ⟨j, h3, rfl⟩ := mpd e
       refine he H₀ H O σ ds hd d _ o h1 fun v H1 s1 r1 => ?_
       obtain ⟨a, xs, q1, q2, q3, q4⟩ := (o.mono s1).readO hsl
       refine ⟨.ref a, q1, ?_⟩
       refine hk H₀ H1 O σ ds hd _ _ (o.mono s1) h2 fun kv H2 s2 r2 => ?_
       cases r2
       refine ⟨a, xs, n, j, rfl, rfl, s2 _ _ q3, by rw [q4.length]; exact h3, ?_⟩
       exact h _ _ _ (((o.mono s1).mono s2).modify hsl q1 ((q4.mono s2).set (r1.mono s2) j))
     | _ => cases e
theorem wX (he : PV X e fe) (hN : X.N[i]? = some x := by rfl) (hv : Vis X.env.scope x := by first | exact Or.inl rfl | exact Or.inr (Or.inl rfl) | exact Or.inr (Or.inr rfl)) (hd : (x == ("__debug__" : Str)) = false := by decide)
  (hcd : (x == ("__classdict__" : Str)) = false := by decide)
  (hfew : ((backTo p3 (starEach [e] X.env)).all (fun x => !x.1) && (backToKw p3 (keywordEach [] X.env)).all (fun x => x.1.isSome)
    && decide ([e].length + ([] : List Keyword).length + (if ([] : List Keyword).isEmpty then 0 else 1) < 30)) = true := by rfl)
  (hline : (p2.endLine == p3.line) = true := by rfl) (hs : starEach [e] X.env = (false, eval e X.env) :: starEach [] X.env := by rfl)
  (hbase : attributeBase (.Name x p1) "append" X.env (eval (.Name x p1) X.env) = eval (.Name x p1) X.env := by rfl) (hsw : swapsWith (.Call (.Attribute (.Name x p1) "append" p2) [e] [] p3) none pos.line X.env = pure false := by rfl) :
  PSv X (.Expr (.Call (.Attribute (.Name x p1) "append" p2) [e] [] p3) pos) (appG i fe) := by
 obtain ⟨te, pe, he⟩ := he
 refine ⟨_, yR (pe_bm PySem.F.plainAttrs_list PySem.F.slot_list_append PySem.F.type_list_append wO (jZ hN hv hd hcd) (jC pe yF hs) hbase hfew hline hs rfl) hsw, fun H₀ H O σ ds hd out E o e h => ?_⟩
 unfold appG at e
 cases hsl : ds[i]? with
 | none => rw [hsl] at e; cases e
 | some s =>
   rw [hsl] at e
   cases s with
   | v d' => cases e
   | no => cases e
   | exc _ => cases e
   | exf _ _ => cases e
   | fr _ => cases e
   | ob _ _ => cases e
   | own l =>
     obtain ⟨d, h1, e⟩ := bnd e
     split at e
     · rename_i hl
       cases e
       obtain ⟨a, xs, q1, q2, q3, q4⟩ := o.readO hsl
       refine ⟨.ref a, q1, .inl ⟨rfl, xs, SqL.of q3⟩, ?_⟩
       refine he H₀ H O σ ds hd d _ o h1 fun v H1 s1 r1 => ?_
       refine ⟨a, xs, v, rfl, rfl, s1 _ _ q3, by rw [q4.length]; exact hl, ?_⟩
       exact h _ _ _ ((o.mono s1).modify hsl q1 ((q4.mono s1).append (.cons r1 .nil)))
     · cases e
theorem args_ob n ds (i : Nat) r t : (args n ds)[i]? ≠ some (.ob r t) := fun e => by
 unfold args at e
 by_cases hi : i < ds.length
 · rw [List.getElem?_append_left (by simpa using hi), List.getElem?_map] at e
   cases h : ds[i]? with
   | none => rw [h] at e; cases e
   | some d => rw [h] at e; cases e
 · rw [List.getElem?_append_right (by simpa using hi), List.getElem?_replicate] at e
   split at e <;> cases e
theorem ok_start {K : Frag} (r : Reps K H jH vs ds) : Ok K H H jH (L2.start N vs) (args N.length ds) [] := by
 have hl := r.length
 have no : ∀ i, IsOwn (args N.length ds) i -> False := fun i ⟨l, e⟩ => by
  unfold args at e
  by_cases hi : i < ds.length
  · rw [List.getElem?_append_left (by simpa using hi), List.getElem?_map] at e
    cases h : ds[i]? with
    | none => rw [h] at e; cases e
    | some d => rw [h] at e; cases e
  · rw [List.getElem?_append_right (by simpa using hi), List.getElem?_replicate] at e
    split at e <;> cases e
 refine ⟨Same.refl _, fun i l a e _ => (no i ⟨l, e⟩).elim, fun _ z => z.elim, by simp [L2.start, args, hl], fun i s e => ?_, fun i j a _ hi _ _ _ => no i hi, (fun p hp => nomatch hp), .no (args_ob _ _)⟩
 unfold args at e
 unfold L2.start
 by_cases hi : i < ds.length
 · rw [List.getElem?_append_left (by simpa using hi), List.getElem?_map] at e
   rw [List.getElem?_append_left (by simpa [hl] using hi), List.getElem?_map]
   obtain ⟨d, h, rfl⟩ := mpd e
   obtain ⟨v, h1, h2⟩ := r.get h
   rw [h1]
   exact jT h2
 · rw [List.getElem?_append_right (by simpa using hi), List.getElem?_replicate] at e
   split at e
   · cases e; exact qW
   · cases e
def Does (g : FS) (n : Nat) (ds : List D) (r : Ret) : Prop := g (args n ds) = some (.rt r) \/ (r = .val .non /\ ∃ ds', g (args n ds) = some (.nx ds'))
theorem qC {K : Frag} {st : Stmt} (Fn : Fun K x qual st f fd) (S : FnScope N ps (zF st))
  (hbody : ∀ cdv A outer s H E, Room k (A.deeper (envOfC qual (zF st) s.heap.objs.size f cdv)) -> PSsv (cxOf CX0 P w K mg base N qual (zF st) f cdv A outer s H E).nox (qV st) g)
  (hg : ∀ ds r, ds.length = ps.length -> F ds = some r -> Does g N.length ds r) : FnOk P w K mg base CX0 (k + 1) f fd ps (spF K ps.length F) := by
 refine Fn.ok S (fun vs H Q E h => h.1) (fun cdv A outer s H vs Q E hr h => ?_)
 obtain ⟨hl, ds, r, rv, e, q⟩ := h
 obtain ⟨t, ht, hf⟩ := hbody cdv A outer s H E hr
 refine ⟨t, ht, ?_⟩
 have o := ok_start (N := N) rv
 rcases hg ds r (by rw [<- rv.length]; exact hl) e with e' | ⟨rfl, ds', e'⟩
 · exact hf H H jH _ _ [] _ _ o e' (fun v H' s r _ => q v H' s r)
 · exact hf H H jH _ _ [] _ _ o e' (fun σ H' O o' => q .non H' o'.same .non)
end
end FL
namespace L2
open PySem PySem.Spec PyProof.Rows
section
end
end L2
namespace FL
open PySem PySem.Spec PyProof.Rows L2
def Wlk (K : Frag) (J : It) (p : V × D) (items : List D) : Prop := ∀ H O, (∀ a, O a -> ∃ u : MutHO, H a = some u.1) -> Rep K H O p.1 p.2 →
 (∀ i d, items[i]? = some d -> J.go i H /\ ∀ x H', J.yld i H x H' -> Same H H' /\ Rep K H' O x d) /\ J.stop items.length H
section
variable {X : Cx}
variable (X) in
def PIv (tg iter : Expr) (fi : FA) : Prop := ∃ wi, PI X tg iter wi /\ ∀ H₀ H O σ ds hd items R, Ok X.K H₀ H O σ ds hd -> fi ds = some items →
 (∀ J p H', Same H H' -> Rep X.K H' O p.1 p.2 -> Wlk X.K J p items -> R J H') -> wi σ H R
theorem wlk_list {K : Frag} : Wlk K (Itl K a) (.ref a, .lst l) l := by
 intro H O _ r
 obtain ⟨b, xs, e, hs, rs⟩ := WRep.seqL (.inl r)
 cases e
 refine ⟨fun i d hd => ?_, ⟨xs, hs, by rw [rs.length]; exact Nat.le_refl _⟩⟩
 obtain ⟨v, h1, h2⟩ := rs.get hd
 refine ⟨⟨xs, v, hs, h1⟩, fun x H' y => ?_⟩
 obtain ⟨rfl, y⟩ := y
 have := y xs hs
 rw [h1] at this; cases this
 exact ⟨Same.refl _, h2⟩
theorem wlk_tup {K : Frag} : Wlk K (Itt K a) (.ref a, .tup l) l := by
 intro H O _ r
 obtain ⟨b, xs, e, hs, rs⟩ := WRep.seqT (.inl r)
 cases e
 refine ⟨fun i d hd => ?_, ⟨xs, hs, by rw [rs.length]; exact Nat.le_refl _⟩⟩
 obtain ⟨v, h1, h2⟩ := rs.get hd
 refine ⟨⟨xs, v, hs, h1⟩, fun x H' y => ?_⟩
 obtain ⟨rfl, y⟩ := y
 have := y xs hs
 rw [h1] at this; cases this
 exact ⟨Same.refl _, h2⟩
theorem wlk_range {K : Frag} {lo : Int} : Wlk K (Itr lo n) (.non, .non) (rangeD lo n) := by
 intro H O _ r
 have hl : (rangeD lo n).length = n := by simp [rangeD]
 refine ⟨fun i d hd => ?_, show n <= _ by rw [hl]; exact Nat.le_refl _⟩
 have hi : i < n := by
  have := (List.getElem?_eq_some_iff.mp hd).1
  rwa [hl] at this
 refine ⟨hi, fun x H' y => ?_⟩
 obtain ⟨rfl, rfl⟩ := y
 have : d = D.int (lo + (i : Int)) := by
  simp only [rangeD, List.getElem?_map, List.getElem?_range hi, Option.map_some] at hd
  exact (Option.some.inj hd).symm
 subst this
 exact ⟨Same.refl _, .int _⟩
theorem piv_range1 (hm : X.mg "range" = none) (h : PV X e f) (hg : Gl X "range" := by rfl) (hs : starEach [e] X.env = [(false, eval e X.env)] := by rfl) : PIv X tg (.Call (.Name "range" p) [e] [] pos) (rng1 f) := by
 obtain ⟨t, ht, hf⟩ := h
 refine ⟨_, pi_range1 hg hm (jC ht yF hs) hs, fun H₀ H O σ ds hd items R o e q => ?_⟩
 obtain ⟨d, h1, e⟩ := bnd e
 cases d with
 | int j =>
   simp only at e
   split at e
   · rename_i hj
     cases e
     refine hf H₀ H O σ ds hd _ _ o h1 fun v H' s r => ?_
     cases r
     exact ⟨j, rfl, hj.1, hj.2, q _ (.non, .non) H' s .non wlk_range⟩
   · cases e
 | _ => cases e
variable (X) in
def PGv (tg : Expr) (ga : D -> List Sl -> Option (List Sl)) : Prop := ∃ g, PG X tg g /\ ∀ H₀ H O σ ds hd v d ds' Q, Ok X.K H₀ H O σ ds hd -> Rep X.K H O v d -> ga d ds = some ds' -> (∀ σ', Ok X.K H₀ H O σ' ds' hd -> Q σ' H) -> g v σ H Q
variable (X) in
def PGsv (tgs : List Expr) (ga : List D -> List Sl -> Option (List Sl)) : Prop := ∃ g, PGs X tgs g /\ ∀ H₀ H O σ ds hd vs l ds' Q, Ok X.K H₀ H O σ ds hd -> Reps X.K H O vs l -> ga l ds = some ds' -> (∀ σ', Ok X.K H₀ H O σ' ds' hd -> Q σ' H) -> g vs σ H Q
theorem qA (hN : X.N.Nodup) (hi : X.N[i]? = some x := by rfl) (hx : Loc X.env.scope x := by first | exact Or.inl rfl | exact Or.inr rfl)
  (hf : X.fn x = true \/ X.env.scope.names.lookup x = some .local := by first | exact .inl rfl | exact .inr rfl) : PGv X (.Name x pos) (zW i) :=
 ⟨_, pg_name hN hi hx hf, fun H₀ H O σ ds hd v d ds' Q o r e q => by cases e; exact q _ (o.set r)⟩
theorem jS : PGsv X [] tgNil := ⟨_, pgs_nil, fun H₀ H O σ ds hd vs l ds' Q o r e q => by
 cases r with
 | nil => cases e; exact ⟨rfl, q _ o⟩
 | cons _ _ => cases e⟩
theorem zY (h1 : PGv X e g) (h2 : PGsv X es h)
  (hs : (assignEach (e :: es) X.env).map (·.2) = assign e X.env :: (assignEach es X.env).map (·.2) := by rfl) : PGsv X (e :: es) (zP g h) := by
 obtain ⟨t, ht, hf⟩ := h1
 obtain ⟨u, hu, hg⟩ := h2
 refine ⟨_, pgs_cons ht hu hs, fun H₀ H O σ ds hd vs l ds' Q o r e q => ?_⟩
 cases r with
 | nil => cases e
 | cons r1 rr =>
   rename_i v d vr dr
   obtain ⟨ds1, h1, e⟩ := bnd e
   exact ⟨v, vr, rfl, hf H₀ H O σ ds hd v d ds1 _ o r1 h1 fun σ' o' => hg H₀ H O σ' ds1 hd vr dr ds' Q o' rr e q⟩
theorem yJ (hc : X.calm = true) (hh : PGsv X es h)
  (hn : (assignEach es X.env).length = n := by rfl) (hst : (assignEach es X.env).findIdx? (·.1) = none := by rfl) : PGv X (.Tuple es k pos) (tupG n h) := by
 obtain ⟨t, ht, hf⟩ := hh
 refine ⟨_, pg_tup hc ht hn hst, fun H₀ H O σ ds hd v d ds' Q o r e q => ?_⟩
 cases d with
 | tup l =>
   simp only [tupG] at e
   split at e
   · rename_i hl
     obtain ⟨a, xs, rfl, hs, rs⟩ := WRep.seqT (.inl r)
     exact ⟨a, xs, rfl, hs, by rw [rs.length]; exact hl, hf H₀ H O σ ds hd xs l ds' Q o rs e q⟩
   · cases e
 | _ => cases e
theorem retB_less {K : Frag} (h : RetB K H (q :: hd) v r) : RetB K H hd v r := by
 cases r with
 | any d => exact fun B hB => h B (List.mem_cons_of_mem _ hB)
 | _ => exact True.intro
theorem wZ {iter : Expr} (hp : PassesOwn (model X.prog X.w) X.A X.env X.xe) (hc : X.calm = true) (hi : PIv X tg iter fi) (hg : PGv X tg ga) (hb : PSsv X body g)
  (hs : ∀ x, foldedSetIterable iter X.env x = pure x := by intro _; rfl) : PSv X (.For tg iter body [] pos) (forG fi ga g) := by
 obtain ⟨wi, pi, hi⟩ := hi
 obtain ⟨tg', pg, hg⟩ := hg
 obtain ⟨tb, pb, hb⟩ := hb
 refine ⟨_, ps_for hp hc pi pg pb hs, fun H₀ H O σ ds hd out E o e h => ?_⟩
 obtain ⟨items, h1, e⟩ := bnd e
 refine hi H₀ H O σ ds hd items _ o h1 fun J p H' s r wk => ?_
 refine ⟨fun i m σ' H' => i <= items.length /\ m = items.length - i /\ ∃ O' ds', Ok X.K H₀ H' O' σ' ds' (HI.rep p.1 p.2 :: hd) /\ jM ga g (items.drop i) ds' = some out, ⟨items.length, Nat.zero_le _, rfl, O, ds, (o.mono s).holdMore r, by simpa using e⟩, ?_⟩
 rintro i m σ1 H1 ⟨hi1, rfl, O1, ds1, o1, e1⟩
 obtain ⟨go, stop⟩ := wk H1 O1 o1.dom (o1.hold (HI.rep p.1 p.2) List.mem_cons_self)
 by_cases hlt : i < items.length
 · right
   have hd0 := List.getElem?_eq_getElem hlt
   obtain ⟨hgo, hy⟩ := go i _ hd0
   rw [List.drop_eq_getElem_cons hlt, jM] at e1
   refine ⟨hgo, fun σ' H' => i + 1 <= items.length /\ ∃ O' ds', Ok X.K H₀ H' O' σ' ds' (HI.rep p.1 p.2 :: hd) /\ jM ga g (items.drop (i + 1)) ds' = some out, fun σ' H' ⟨q1, q2⟩ => ⟨items.length - (i + 1), by lia, q1, rfl, q2⟩, fun x H2 y => ?_⟩
   obtain ⟨s2, r2⟩ := hy x H2 y
   obtain ⟨ds2, h2, e1⟩ := bnd e1
   obtain ⟨o3, h3, e1⟩ := bnd e1
   refine hg H₀ H2 O1 σ1 ds1 (HI.rep p.1 p.2 :: hd) x _ ds2 _ (o1.mono s2) r2 h2 fun σ' o' => ?_
   refine hb H₀ H2 O1 σ' ds2 (HI.rep p.1 p.2 :: hd) o3 _ o' h3 ?_
   cases o3 with
   | nx ds3 => exact fun σ3 H3 O3 ok3 => ⟨hlt, O3, ds3, ok3, e1⟩
   | ct ds3 => exact fun σ3 H3 O3 ok3 => ⟨hlt, O3, ds3, ok3, e1⟩
   | bk ds3 => cases e1; exact fun σ3 H3 O3 ok3 => h σ3 H3 O3 ok3.holdLess
   | rt rr => cases e1; exact fun v H s r b => h v H s r (retB_less b)
 · left
   have ei : i = items.length := by lia
   subst ei
   rw [List.drop_length, jM] at e1
   cases e1
   exact ⟨stop, h σ1 H1 O1 o1.holdLess⟩
variable (X) in
def PFv (ifs : List Expr) (c : FT) : Prop := ∃ t, PF X ifs t /\ ∀ H₀ H O σ ds hd b Q, Ok X.K H₀ H O σ ds hd -> c ds = some b -> (∀ H', Same H H' -> Q b H') -> t σ H Q
theorem vP : PFv X [] (fun _ => some true) := ⟨_, pf_nil, fun _ H _ _ _ _ _ _ _ e q => by cases e; exact q H (Same.refl _)⟩
theorem pfv_one (h : PTv X c fc) : PFv X [c] fc := by
 obtain ⟨t, ht, hf⟩ := h
 exact ⟨_, pf_one ht, hf⟩
theorem Ok.inner {K : Frag} (o : Ok K H₀ H O σ ds hd) mp : Ok K H₀ H O (slotsY mp σ) (jD mp ds) hd := by
 have no : ∀ {i : Nat} {l : List D}, (jD mp ds)[i]? = some (.own l) -> False := fun {i l} e => by
  unfold jD at e
  rw [List.getElem?_map] at e
  cases hm : mp[i]? with
  | none => rw [hm] at e; cases e
  | some m =>
    rw [hm] at e
    simp only [Option.map_some, Option.some.injEq] at e
    cases m with
    | none => cases e
    | some j =>
      simp only at e
      split at e <;> cases e
 refine ⟨o.same, fun i l a e _ => (no e).elim, o.dom, by simp [slotsY, jD], fun i s e => ?_, fun i j a hij hi hj e1 e2 => ?_, o.hold, .no fun i r t e => by
  unfold jD at e
  rw [List.getElem?_map] at e
  cases hm : mp[i]? with
  | none => rw [hm] at e; cases e
  | some m =>
    rw [hm] at e
    simp only [Option.map_some, Option.some.injEq] at e
    cases m with
    | none => cases e
    | some j =>
      simp only at e
      split at e <;> cases e⟩
 · unfold jD at e
   unfold slotsY
   rw [List.getElem?_map] at e ⊢
   cases hm : mp[i]? with
   | none => rw [hm] at e; cases e
   | some m =>
     rw [hm] at e
     simp only [Option.map_some, Option.some.injEq] at e
     cases m with
     | none =>
       simp only at e
       subst e; exact qW
     | some j =>
       simp only at e
       cases hj : ds[j]? with
       | none => rw [hj] at e; subst e; exact qW
       | some s' =>
         rw [hj] at e
         cases s' with
         | no => subst e; exact qW
         | exc _ => subst e; exact qW
         | exf _ _ => subst e; exact qW
         | fr _ => subst e; exact qW
         | ob _ _ => subst e; exact qW
         | own l => subst e; exact qW
         | v d =>
           simp only at e
           subst e
           obtain ⟨v, h1, h2⟩ := o.read hj
           simp only [Option.map_some, Option.bind_some, h1, Option.join_some]
           exact jT h2
 · obtain ⟨l, e⟩ := hi
   unfold jD at e
   rw [List.getElem?_map] at e
   cases hm : mp[i]? with
   | none => rw [hm] at e; cases e
   | some m =>
     rw [hm] at e
     simp only [Option.map_some, Option.some.injEq] at e
     cases m with
     | none => cases e
     | some j =>
       simp only at e
       cases hj : ds[j]? with
       | none => rw [hj] at e; cases e
       | some s' => rw [hj] at e; cases s' <;> cases e
section
theorem comp_sem
  (hi : ∀ H₀ H O σ ds hd items R, Ok X.K H₀ H O σ ds hd -> fi ds = some items -> (∀ J p H', Same H H' -> Rep X.K H' O p.1 p.2 -> Wlk X.K J p items -> R J H') -> wi σ H R)
  (hg : ∀ c H₀ H O σ ds hd v d ds' Q, Ok X.K H₀ H O σ ds hd -> Rep X.K H O v d -> ga d ds = some ds' -> (∀ σ', Ok X.K H₀ H O σ' ds' hd -> Q σ' H) -> g c v σ H Q)
  (ht : ∀ c H₀ H O σ ds hd b Q, Ok X.K H₀ H O σ ds hd -> tt ds = some b -> (∀ H', Same H H' -> Q b H') -> t1 c σ H Q)
  (he : ∀ c H₀ H O σ ds hd d Q, Ok X.K H₀ H O σ ds hd -> fe ds = some d -> (∀ v H', Same H H' -> Rep X.K H' O v d -> Q v H') -> t2 c σ H Q) :
  ∀ H₀ H O σ ds hd l Q, Ok X.K H₀ H O σ ds hd -> compG fi mp ga tt fe ds = some l →
   (∀ a xs H', Same H H' -> H a = none -> H' a = some (.lst xs) -> Reps X.K H' (ins1 a O) xs l -> Q (.ref a) H') -> tComp wi mp g t1 t2 σ H Q := by
 intro H₀ H O σ ds hd l Q o e q
 obtain ⟨items, h1, e⟩ := bnd e
 split at e
 · rename_i hsz
   refine hi H₀ H O σ ds hd items _ o h1 fun J p H1 s1 r1 wk => fun c => ?_
   have oI := ((o.mono s1).holdMore (p := HI.rep p.1 p.2) r1).inner mp
   refine ⟨fun i m ys H2 => i <= items.length /\ m = items.length - i /\ Same H1 H2 /\ ys.length <= i /\ ∃ l' rest, Reps X.K H2 O ys l' /\ compL ga tt fe (jD mp ds) (items.drop i) = some rest /\ l = l' ++ rest,
    ⟨items.length, Nat.zero_le _, rfl, Same.refl _, Nat.le_refl _, [], l, .nil, by simpa using e, rfl⟩, ?_⟩
   rintro i m ys H2 ⟨hi1, rfl, s2, hy, l', rest, ry, er, el⟩
   have o2 := oI.mono s2
   obtain ⟨go, stop⟩ := wk H2 O o2.dom (o2.hold (HI.rep p.1 p.2) List.mem_cons_self)
   by_cases hlt : i < items.length
   · right
     have hd0 := List.getElem?_eq_getElem hlt
     obtain ⟨hgo, hyl⟩ := go i _ hd0
     refine ⟨hgo, by lia, fun x H3 y => ?_⟩
     obtain ⟨s3, r3⟩ := hyl x H3 y
     rw [List.drop_eq_getElem_cons hlt, compL] at er
     obtain ⟨ds1, h2, er⟩ := bnd er
     refine hg c H₀ H3 O _ _ (HI.rep p.1 p.2 :: hd) x _ ds1 _ (o2.mono s3) r3 h2 fun σ' o3 => ?_
     obtain ⟨b, h3, er⟩ := bnd er
     refine ht c H₀ H3 O σ' ds1 (HI.rep p.1 p.2 :: hd) b _ o3 h3 fun H4 s4 => ?_
     cases b with
     | false =>
       refine iteF ⟨items.length - (i + 1), by lia, hlt, rfl, (s2.trans s3).trans s4, Nat.le_succ_of_le hy, l', rest, (ry.mono s3).mono s4, by simpa using er, el⟩
     | true =>
       obtain ⟨yd, h4, er⟩ := bnd er
       cases h5 : compL ga tt fe (jD mp ds) (items.drop (i + 1)) with
       | none => rw [h5] at er; cases er
       | some rest' =>
         rw [h5] at er
         cases er
         refine he c H₀ H4 O σ' ds1 (HI.rep p.1 p.2 :: hd) yd _ (o3.mono s4) h4 fun v H5 s5 r5 => ?_
         refine ⟨items.length - (i + 1), by lia, hlt, rfl, ((s2.trans s3).trans s4).trans s5, by simp; lia, l' ++ [yd], rest', (((ry.mono s3).mono s4).mono s5).append (.cons r5 .nil), h5, ?_⟩
         rw [el]; simp
   · left
     have ei : i = items.length := by lia
     subst ei
     rw [List.drop_length, compL] at er
     cases er
     rw [List.append_nil] at el
     subst el
     refine ⟨stop, by lia, fun a ha => ?_⟩
     refine q a ys _ ((s1.trans s2).trans (qL ha _)) ((s1.trans s2).free ha) zS ?_
     exact (ry.more ha).mono (qL ha _)
 · cases e
theorem xM {iter : Expr} (S : CompScope X scope NY mp) (hc : X.calm = true) (hi : PIv X tg iter fi) (hg : ∀ c, PGv (jB X scope NY c) tg ga) (ht : ∀ c, PFv (jB X scope NY c) ifs tt) (he : ∀ c, PV (jB X scope NY c) elt fe)
  (hs : ∀ x, foldedSetIterable iter X.env x = pure x := by intro _; rfl) : PVf X (.ListComp elt [⟨tg, iter, ifs, 0⟩] scope pos) (compG fi mp ga tt fe) := by
 obtain ⟨wi, pi, hi⟩ := hi
 refine ⟨_, pe_comp S hc pi (fun c => (Classical.choose_spec (hg c)).1) (fun c => (Classical.choose_spec (ht c)).1) (fun c => (Classical.choose_spec (he c)).1) hs, ?_⟩
 exact comp_sem hi (fun c => (Classical.choose_spec (hg c)).2) (fun c => (Classical.choose_spec (ht c)).2) (fun c => (Classical.choose_spec (he c)).2)
end
end
end FL
namespace L2
open PySem PySem.Spec PyProof.Rows
section
inductive TyV (K : PySem.W.Frag) (H : Hp) : V -> Value -> Prop where
 | of {x : V} {t : Value} (h : TyOf K H x t) : TyV K H x t
 | lstK {a : Addr} {o : Obj} (h : K.lookup a = some o) (c : o.cls = .type "list") : TyV K H (.ref a) (.type "list")
 | tupK {a : Addr} {o : Obj} (h : K.lookup a = some o) (c : o.cls = .type "tuple") : TyV K H (.ref a) (.type "tuple")
 | tupF {a : Addr} {o : Obj} {xs : List V} (h : H a = some (.frz o (.tup xs))) : TyV K H (.ref a) (.type "tuple")
noncomputable def clsV : V -> Value -> Prop
 | .ty n, u => u = .type n
 | .ref a, u => u = .ref a
 | _, _ => False
theorem call_isi : CallR X (.builtin "isinstance") (fun xs H Q => ∃ x c cv t b, xs = [x, c] /\ clsV c cv /\ TyV X.K H x t /\ PySem.W.kitOne X.K t cv = some b /\ Q (.bl b) H) := by
 intro pins s σ H xs us Q I r h
 obtain ⟨x, c, cv, t, b, rfl, hc, ty, e, q⟩ := h
 obtain ⟨u, u2, rfl, ru, ru2⟩ := vals2 r
 have e2 : u2 = cv := by
  cases c with
  | ty n => cases (hc); cases (ru2); rfl
  | ref a => cases (hc); cases (ru2); rfl
  | _ => exact (hc).elim
 subst e2
 have fin : ∀ tk, EP X pins σ Q (.bool b) { s with toks := tk } := fun tk => ⟨.bl b, H, I.tok tk, rfl, q⟩
 cases ty with
 | of h => exact isinst_ok I ru h e fin
 | @lstK a o h c =>
   cases (ru)
   exact PySem.W.kia_one PySem.W.kitx_list I.kIn ⟨o, I.kIn _ _ h, c⟩ e (fun z => nomatch z) fin
 | @tupK a o h c =>
   cases (ru)
   exact PySem.W.kia_one PySem.W.kitx_tuple I.kIn ⟨o, I.kIn _ _ h, c⟩ e (fun z => nomatch z) fin
 | @tupF a o xs ea =>
   cases (ru)
   obtain ⟨e0, _, _, _, p⟩ := (I.hok a _ ea)
   obtain ⟨o', h1, h2, _⟩ := p
   exact PySem.W.kia_one PySem.W.kitx_tuple I.kIn ⟨o', h1, h2⟩ e (fun z => nomatch z) fin
theorem bools_of : ∀ {bs : List Bool} {us : List Value}, Vals (bs.map V.bl) us -> LSm.BoolsAre us bs
 | [], _, .nil => .nil
 | b :: r, _, .cons h t => by
   cases (show _ = Value.bool b from h)
   exact .cons b (bools_of t)
theorem call_allB (hc : X.calm = true) : CallR X (.builtin "all") (fun xs H Q => ∃ (p : Addr) (bs : List Bool), xs = [.ref p] /\ SqL X.K H p (bs.map V.bl) /\ Q (.bl (bs.all id)) H) := by
 intro pins s σ H xs us Q I r h
 obtain ⟨p, bs, rfl, hq, q⟩ := h
 obtain ⟨u, rfl, ru⟩ := vals1 r
 cases ru
 obtain ⟨its, rv, pl, hz⟩ := I.list hq
 have hlt : p < s.heap.objs.size := by obtain ⟨_, e, _⟩ := pl.isList; exact Heap.lt_size e
 have hb := bools_of rv
 refine call_all_walk (wpAny_pyIter_list pl.isList ?_)
 refine ⟨s.heap.objs.size, [s.heap.objs.size, p], [s.heap.objs.size], its.toArray.size, _, _, fun i => (bs[i]?).getD true, rfl, Walks.list (A := X.A.in1) (I.ok.hd hc) _ p (Nat.ne_of_lt hlt) its.toArray,
  ⟨⟨_, Heap.get?_push_size _ rfl, rfl, rfl⟩, pl.isList.push _⟩, fun i v s' Q' E' hP hQ => ?_, fun h' tk hk => ?_⟩
 · obtain ⟨b, e, rfl⟩ := hb.get i v (by simpa using hP)
   simp [e, Option.getD_some] at hQ
   exact wpAny_truthy_bool hQ
 · have e : ((List.range its.toArray.size).all fun i => (bs[i]?).getD true) = bs.all id := by
    rw [List.size_toArray, hb.length]; exact LSm.range_all bs
   rw [e]
   exact ⟨.bl _, H, I.kept (LSm.kept_iter hk), rfl, q⟩
end
end L2
namespace FL
open PySem PySem.Spec PyProof.Rows L2
section
variable {X : Cx}
noncomputable def kitO (t T : String) : Option Bool := if ((Value.type t) == (Value.type T)) = true then some true else if PySem.W.kitMeta T = true then (fastBuiltinMro t).map (·.contains (.type T)) else none
theorem kit_all : ∀ t ∈ kitN, ∀ T ∈ kitT, kitO t T = some (t == T || (t == "bool" && T == "int")) := by decide +kernel
theorem kit_of {K : Frag} (h : kitF t T = some b) : PySem.W.kitOne K (.type t) (.type T) = some b := by
 unfold kitF at h
 split at h
 · rename_i hm
   cases h
   exact kit_all t hm.1 T hm.2
 · cases h
theorem ty_of {K : Frag} (r : WRep K H O v d) (e : tyD d = some t) : TyV K H v (.type t) := by
 rcases r with r | ⟨a, xs, l, rfl, rfl, ho, h, rs⟩
 · cases r with
   | non => cases e; exact .of .non
   | bl b => cases e; exact .of (.bl b)
   | int i => cases e; exact .of (.int i)
   | str x => cases e; exact .of (.str x)
   | tup n h r =>
     cases e
     rcases h with h | ⟨o, h⟩
     · exact .of (.tup h)
     · exact .tupF h
   | tupK h r => cases e; obtain ⟨o, its, m, hk, hc, _⟩ := h; exact .tupK hk hc
   | lst n h r =>
     cases e
     rcases h with h | ⟨o, h⟩
     · exact .of (.lst h)
     · exact .of (.frz h)
   | lstK h r => cases e; obtain ⟨o, its, m, hk, hc, _⟩ := h; exact .lstK hk hc
   | dct n h e' r => cases e; exact .of (.dK h)
   | dcf n h e' r => cases e
   | ins c n h e' r => cases e
   | clo tx h e' nd c r => cases e
   | fnK h => cases e
 · cases e; exact .of (.lst h)
theorem pv_isi (hm : X.mg "isinstance" = none) (hT : X.mg x = none) (hv : bootBuiltins x = some (.type T)) (he : PVw X e f) (hg : Gl X "isinstance" := by rfl) (hgT : Gl X x := by rfl)
  (h1 : starEach [e, .Name x pT] X.env = (false, eval e X.env) :: starEach [.Name x pT] X.env := by rfl) (h2 : starEach [.Name x pT] X.env = (false, eval (.Name x pT) X.env) :: starEach [] X.env := by rfl) (h3 : (backTo pos (starEach [.Name x pT] X.env)).any (·.1) = false := by rfl)
  (hn : x ≠ "__name__" := by decide) (hd : (x == ("__debug__" : Str)) = false := by decide) : PV X (.Call (.Name "isinstance" p) [e, .Name x pT] [] pos) (isiG T f) := by
 obtain ⟨t, ht, hf⟩ := he
 refine ⟨_, vE call_isi hg hm (by decide +kernel) (jC ht (jC (pe_bltn (v := .ty T) hgT hT hv rfl hn hd) yF h2) h1) (by decide) (by decide) h1 h3, fun H₀ H O σ ds hd d Q o e q => ?_⟩
 obtain ⟨dx, hh, e⟩ := bnd e
 obtain ⟨t, ht, e⟩ := bnd e
 obtain ⟨b, hk, rfl⟩ := mpd e
 refine hf H₀ H O σ ds hd dx _ o hh fun v H' s r => ?_
 exact ⟨v, .ty T, .type T, .type t, b, rfl, rfl, ty_of r ht, kit_of hk, q _ H' s (.bl b)⟩
theorem bls_rep {K : Frag} : ∀ {xs : List V} {l : List D} {bs : List Bool}, Reps K H O xs l -> blsD l = some bs -> xs = bs.map V.bl
 | _, _, _, .nil, e => by cases e; rfl
 | _, _, bs, .cons (d := d) h t, e => by
   cases d with
   | bl b =>
     rename_i ds
     simp only [blsD] at e
     obtain ⟨r, hr, rfl⟩ := mpd e
     cases h
     rw [bls_rep t hr]
     rfl
   | _ => cases e
theorem cs_all : CallS X (fun xs H Q => ∃ (p : Addr) (bs : List Bool), xs = [.ref p] /\ SqL X.K H p (bs.map V.bl) /\ Q (.bl (bs.all id)) H) allD := by
 intro H O vs l d Q ho r e q
 unfold allD at e
 split at e
 · obtain ⟨bs, hb, rfl⟩ := mpd e
   cases r with
   | cons r rn =>
     cases rn
     obtain ⟨a, xs, rfl, hs, rs⟩ := r.seqL
     refine ⟨a, bs, rfl, ?_, q _ H (Same.refl _) (.bl _)⟩
     rw [<- bls_rep rs hb]
     exact hs
 · cases e
theorem pv_all (hc : X.calm = true) (hm : X.mg "all" = none) (ha : PAv X [e] g) (hg : Gl X "all" := by rfl) (he : starEach [e] X.env = [(false, eval e X.env)] := by rfl) :
  PV X (.Call (.Name "all" p) [e] [] pos) (callB allD g) := wI (call_allB hc) cs_all hm (by decide +kernel) ha hg (by decide) (by decide) he rfl
theorem yG (ha : PV X a f) : PV X (.UnaryOp .USub a pos) (un1 negD f) := by
 obtain ⟨ta, pa, ha⟩ := ha
 refine ⟨_, pe_un un_neg pa, fun H₀ H O σ ds hd d Q o e q => ?_⟩
 obtain ⟨dx, h1, e⟩ := bnd e
 cases dx with
 | int i =>
   cases e
   refine ha H₀ H O σ ds hd _ _ o h1 fun x H1 s1 r1 => ?_
   cases r1
   exact ⟨i, rfl, q _ H1 s1 (.int _)⟩
 | _ => cases e
variable (X) in
def PVd (e : Expr) (f : FE) : Prop := ∃ t, PE X e t /\ ∀ H₀ H O σ ds hd d Q, Ok X.K H₀ H O σ ds hd -> f ds = some d -> (∀ v H', Same H H' -> Rep X.K H' (Old H) v d -> Q v H') -> t σ H Q
theorem not_old (h : H p = none) : ¬ Old H p := fun ⟨o, e, _⟩ => by rw [h] at e; cases e
theorem yV (he : PVd X e f) : PSv X (.Return (some e) pos) (retDG f) := by
 obtain ⟨t, ht, hg⟩ := he
 refine ⟨_, vC ht, fun H₀ H O σ ds hd out E o e h => ?_⟩
 obtain ⟨d, h1, rfl⟩ := mpd e
 exact hg H₀ H O σ ds hd d _ o h1 fun v H' s r => h _ _ (o.same.trans s) (r.less fun a z => Old.mono o.same z) True.intro
end
section
noncomputable def compOk (sc scope : Scope) (N NY : List Str) (mp : List (Option Nat)) : Bool :=
 scope.kind == .function && scope.names.all (fun y => y.2 != .cell) && scope.names.all (fun y => y.2 != .local || scope.names.lookup y.1 == some .local)
 && scope.names.all (fun y => y.2 != .free || (sc.names.lookup y.1 == some .cell || sc.names.lookup y.1 == some .free)) && mp.length == NY.length
 && (List.range NY.length).all (fun i => match NY[i]?, mp[i]? with | some x, some (some j) => N[j]? == some x && scope.names.lookup x == some .free | _, _ => true)
theorem jK (h : compOk X.env.scope scope X.N NY mp = true) : CompScope X scope NY mp := by
 unfold compOk at h
 simp only [Bool.and_eq_true, List.all_eq_true, beq_iff_eq] at h
 obtain ⟨⟨⟨⟨⟨h1, h2⟩, h3⟩, h4⟩, h5⟩, h6⟩ := h
 refine ⟨h1, fun y hy => by simpa using h2 y hy, fun y hy hk => ?_, fun y hy hk => ?_, h5, fun i x j e1 e2 => ?_⟩
 · have := h3 y hy
   simpa [hk] using this
 · have := h4 y hy
   simp [hk, bne_self_eq_false, Bool.false_or, Bool.or_eq_true, beq_iff_eq] at this
   exact this
 · have hi : i ∈ List.range NY.length := List.mem_range.mpr (List.getElem?_eq_some_iff.mp e1).1
   have := h6 i hi
   rw [e1, e2] at this
   simpa using this
end
theorem zO (e : runG g n ds = some r) : Does g n ds r := by
 unfold runG at e
 cases h : g (args n ds) with
 | none => rw [h] at e; cases e
 | some o =>
   rw [h] at e
   cases o with
   | rt r' => cases e; exact .inl h
   | nx ds' => cases e; exact .inr ⟨rfl, ds', h⟩
   | bk ds' => cases e
   | ct ds' => cases e
end FL
namespace L2
open PySem PySem.Spec PyProof.Rows
section
theorem op_mulB : OpR X (binaryOp .Mult) (rI IntMulOk fun i j => .int (i * j)) := opI fun _ _ _ _ _ _ _ hc q => mul_int q hc
theorem op_powB : OpR X (binaryOp .Pow) (rI FL.CPowB fun i j => .int (i ^ j.toNat)) := opI fun _ _ _ _ _ _ _ hc q => pow_int hc.1 hc.2 q
noncomputable def rCatS (K : PySem.W.Frag) : R2 := fun x y H Q => ∃ l b xs zs, x = .ref l /\ y = .ref b /\ SqL K H l xs /\ SqL K H b zs /\ xs.length + zs.length <= sizeLine /\ ∀ p, H p = none -> Q (.ref p) (upd H p (.lst (xs ++ zs)))
theorem op_catS : OpR X (binaryOp .Add) (rCatS X.K) := by
 intro pins s σ H x y v u Q I rx ry h
 obtain ⟨l, b, xs, zs, rfl, rfl, hH, hB, hz, q⟩ := h
 cases rx
 cases ry
 obtain ⟨its, r, pl, z⟩ := I.list hH
 obtain ⟨its2, r2, pl2, z2⟩ := I.list hB
 obtain ⟨⟨cls, dd, data, sl⟩, ho, hc, n, hd⟩ := pl.isList
 obtain ⟨⟨cls2, dd2, data2, sl2⟩, ho2, hc2, n2, hd2⟩ := pl2.isList
 subst hc hd hc2 hd2
 have hl := r.length
 have hl2 := r2.length
 refine concat_meets ⟨_, ho, rfl⟩ ⟨_, ho2, rfl⟩ noFill_list_add seq_list_add PySem.F.slot_list_add PySem.F.entry_list_add (PySem.F.args_list_add_2 _ _) (list_addW l b its.toArray its2.toArray n n2 dd dd2 sl sl2 (by simp [List.size_toArray]; lia)) ⟨ho, ho2, ?_⟩
 have ea : its.toArray ++ its2.toArray = (its ++ its2).toArray := by simp
 rw [ea]
 exact ⟨.ref _, _, I.lnew (r.append r2) (by rw [List.length_append]; lia), rfl, q _ I.fresh⟩
end
end L2
namespace FL
open PySem PySem.Spec PyProof.Rows L2
section
variable {X : Cx}
variable (X) in
def PVn (e : Expr) (f : FE) : Prop := ∃ t, PE X e t /\ ∀ H₀ H O σ ds hd d Q, Ok X.K H₀ H O σ ds hd -> f ds = some d -> (∀ v H', Same H H' -> Rep X.K H' jH v d -> Q v H') -> t σ H Q
variable (X) in
def PAn (es : List Expr) (f : FA) : Prop := ∃ t, PA X es t /\ ∀ H₀ H O σ ds hd l Q, Ok X.K H₀ H O σ ds hd -> f ds = some l -> (∀ vs H', Same H H' -> Reps X.K H' jH vs l -> Q vs H') -> t σ H Q
theorem PVw.n (h : PVw X e f) : PVn X e f := by
 obtain ⟨t, ht, hf⟩ := h
 exact ⟨t, ht, fun H₀ H O σ ds hd d Q o e q => hf H₀ H O σ ds hd d Q o e fun v H' s r => q v H' s r.any⟩
theorem PV.n (h : PV X e f) : PVn X e f := h.w.n
theorem zM : PAn X [] zQ := ⟨_, yF, fun _ H _ _ _ _ _ _ _ e q => by cases e; exact q _ H (Same.refl _) .nil⟩
theorem zD (ha : PVn X e f) (hr : PAn X es g) (hs : starEach (e :: es) X.env = (false, eval e X.env) :: starEach es X.env := by rfl) : PAn X (e :: es) (zB f g) := by
 obtain ⟨t, ht, hf⟩ := ha
 obtain ⟨u, hu, hg⟩ := hr
 refine ⟨_, jC ht hu hs, fun H₀ H O σ ds hd l Q o e q => ?_⟩
 obtain ⟨x, h, e⟩ := bnd e
 obtain ⟨r, h2, rfl⟩ := mpd e
 refine hf H₀ H O σ ds hd x _ o h fun v H1 s1 r1 => ?_
 refine hg H₀ H1 O σ ds hd r _ (o.mono s1) h2 fun vs H2 s2 r2 => ?_
 exact q _ H2 (s1.trans s2) (.cons (r1.mono s2) r2)
section
theorem pv_callN (Fn : FnOk X.prog X.w X.K X.mg X.base CX0 k f fd ps (spF X.K n F)) (hr : Room k X.A) (hm : X.mg x = some (.ref f)) (hk : PySem.W.keepIn X.K (.ref f) = true) (hb : Binds X.K fd ps []) (ha : PAn X (e :: es) g)
  (hg : Gl X x := by rfl) (hdb : (x == ("__debug__" : Str)) = false := by decide) (he : starEach (e :: es) X.env = (false, eval e X.env) :: starEach es X.env := by rfl) (hpl : (backTo pos (starEach es X.env)).any (·.1) = false := by rfl) :
  PV X (.Call (.Name x p) (e :: es) [] pos) (qK n F g) := by
 obtain ⟨t, ht, hf⟩ := ha
 refine ⟨_, kJ Fn hr hg hm hk hb .nil pass0 ht hdb he hpl, fun H₀ H O σ ds hd d Q o e q => ?_⟩
 obtain ⟨l, h, e⟩ := bnd e
 split at e
 · rename_i hln
   obtain ⟨r, h2, e⟩ := bnd e
   refine hf H₀ H O σ ds hd l _ o h fun vs H1 s1 r1 => ?_
   have hl := r1.length
   refine ⟨by simp [List.append_nil]; lia, l, r, by simpa using r1, h2, fun v H' s' ro => q v H' (s1.trans s') ?_⟩
   exact retV_ok ro e fun a ha => (o.mono s1).old ha
 · cases e
theorem pvf_callN (Fn : FnOk X.prog X.w X.K X.mg X.base CX0 k f fd ps (spF X.K n F)) (hr : Room k X.A) (hm : X.mg x = some (.ref f)) (hk : PySem.W.keepIn X.K (.ref f) = true) (hb : Binds X.K fd ps []) (ha : PAn X (e :: es) g)
  (hg : Gl X x := by rfl) (hdb : (x == ("__debug__" : Str)) = false := by decide) (he : starEach (e :: es) X.env = (false, eval e X.env) :: starEach es X.env := by rfl) (hpl : (backTo pos (starEach es X.env)).any (·.1) = false := by rfl) :
  PVf X (.Call (.Name x p) (e :: es) [] pos) (wQ n F g) := by
 obtain ⟨t, ht, hf⟩ := ha
 refine ⟨_, kJ Fn hr hg hm hk hb .nil pass0 ht hdb he hpl, fun H₀ H O σ ds hd d Q o e q => ?_⟩
 obtain ⟨l, h, e⟩ := bnd e
 split at e
 · rename_i hln
   obtain ⟨r, h2, e⟩ := bnd e
   refine hf H₀ H O σ ds hd l _ o h fun vs H1 s1 r1 => ?_
   have hl := r1.length
   refine ⟨by simp [List.append_nil]; lia, l, r, by simpa using r1, h2, fun v H' s' ro => ?_⟩
   obtain ⟨a, xs, rfl, h3, h4, h5⟩ := retF_ok ro e fun a ha => (o.mono s1).old ha
   exact q a xs H' (s1.trans s') (s1.free h3) h4 h5
 · cases e
end
def OpN (X : Cx) (r : R2) (op : D -> D -> Option D) : Prop := ∀ H O x y dx dy d Q, Rep X.K H jH x dx -> Rep X.K H jH y dy -> op dx dy = some d -> (∀ v H', Same H H' -> Rep X.K H' O v d -> Q v H') -> r x y H Q
theorem pvn_tOp (hs : OpN X r op) (ha : ∀ H₀ H O σ ds hd d Q, Ok X.K H₀ H O σ ds hd -> fa ds = some d -> (∀ v H', Same H H' -> Rep X.K H' jH v d -> Q v H') -> ta σ H Q)
  (hb : ∀ H₀ H O σ ds hd d Q, Ok X.K H₀ H O σ ds hd -> fb ds = some d -> (∀ v H', Same H H' -> Rep X.K H' jH v d -> Q v H') -> tb σ H Q) :
  ∀ H₀ H O σ ds hd d Q, Ok X.K H₀ H O σ ds hd -> zI op fa fb ds = some d -> (∀ v H', Same H H' -> Rep X.K H' O v d -> Q v H') -> tOp r ta tb σ H Q := by
 intro H₀ H O σ ds hd d Q o e q
 obtain ⟨dx, h1, e⟩ := bnd e
 obtain ⟨dy, h2, e⟩ := bnd e
 refine ha H₀ H O σ ds hd dx _ o h1 fun x H1 s1 r1 => ?_
 refine hb H₀ H1 O σ ds hd dy _ (o.mono s1) h2 fun y H2 s2 r2 => ?_
 exact hs H2 O x y dx dy d Q (r1.mono s2) r2 e fun v H' s r => q v H' ((s1.trans s2).trans s) r
theorem pv_cmpN (ho : OpR X (compareOp op) r) (hs : OpN X r opD) (ha : PVn X a fa) (hb : PVn X b fb) (hm : behindInMarks op b = false) : PV X (.Compare a [op] [b] pos) (zI opD fa fb) := by
 obtain ⟨ta, pa, ha⟩ := ha
 obtain ⟨tb, pb, hb⟩ := hb
 exact ⟨_, pe_cmpR ho pa pb hm, pvn_tOp hs ha hb⟩
theorem vY (ho : OpR X (compareOp op) r) (hs : OpN X r opD) (ha : PVn X a fa) (hb : PVn X b fb) (hm : behindInMarks op b = false) : PTv X (.Compare a [op] [b] pos) (zU (zI opD fa fb)) := by
 obtain ⟨ta, pa, ha⟩ := ha
 obtain ⟨tb, pb, hb⟩ := hb
 refine ⟨_, pt_cmpR ho pa pb hm, fun H₀ H O σ ds hd k Q o e q => ?_⟩
 obtain ⟨d, h, e⟩ := bnd e
 refine pvn_tOp hs ha hb H₀ H O σ ds hd d _ o h fun v H' s r => ?_
 cases d with
 | bl c => cases e; cases r; exact ⟨_, rfl, q H' s⟩
 | _ => cases e
mutual
theorem Rep.reads {pins : List (Addr × Obj)} {σ : L2.St} {H : Hp} {s : Shared} {O : Addr -> Prop} (I : Inv X pins σ H s) : ∀ {v : V} {d : D}, Rep X.K H O v d -> ∀ {u : Value} {n : Nat}, RelV v u -> shal n d = true -> ∃ as, Reads s.heap u (toPy d) as /\ (toPy d).canLay0 = true /\ (toPy d).depth <= n + 1
 | _, _, .non => fun r _ => by cases r; exact ⟨[], .none, rfl, Nat.zero_le _⟩
 | _, _, .bl b => fun r _ => by cases r; exact ⟨[], .bool b, rfl, Nat.zero_le _⟩
 | _, _, .int i => fun r _ => by obtain ⟨t, rfl⟩ := r; exact ⟨[], .int i t, rfl, Nat.zero_le _⟩
 | _, _, .str x => fun r h => by obtain ⟨t, rfl⟩ := r; exact ⟨[], .str x t, by simpa [toPy, PyData.canLay0, shal] using h, Nat.zero_le _⟩
 | _, _, .tup m h q => fun r hs => by
   cases r
   obtain ⟨its, rv, ⟨o, ho, hc, k, hd⟩, hz⟩ := I.tuple (.inl h)
   obtain ⟨as, h1, h2, h3⟩ := Reps.reads I q rv (by simpa [shal] using hs)
   exact ⟨as, .tuple ho hc hd (by simpa using h1), by simpa [toPy, PyData.canLay0] using h2, by simpa [toPy, PyData.depth] using h3⟩
 | _, _, .tupK h q => fun r hs => by
   cases r
   obtain ⟨its, rv, ⟨o, ho, hc, k, hd⟩, hz⟩ := I.tuple (.inr h)
   obtain ⟨as, h1, h2, h3⟩ := Reps.reads I q rv (by simpa [shal] using hs)
   exact ⟨as, .tuple ho hc hd (by simpa using h1), by simpa [toPy, PyData.canLay0] using h2, by simpa [toPy, PyData.depth] using h3⟩
 | _, _, .lst m h q => fun r hs => by
   cases r
   obtain ⟨its, rv, pl, hz⟩ := I.list (.inl h)
   obtain ⟨o, ho, hc, k, hd⟩ := pl.isList
   obtain ⟨as, h1, h2, h3⟩ := Reps.reads I q rv (by simpa [shal] using hs)
   exact ⟨_, .list ho hc hd (by simpa using h1), by simpa [toPy, PyData.canLay0] using h2, by simpa [toPy, PyData.depth] using h3⟩
 | _, _, .lstK h q => fun r hs => by
   cases r
   obtain ⟨its, rv, pl, hz⟩ := I.list (.inr h)
   obtain ⟨o, ho, hc, k, hd⟩ := pl.isList
   obtain ⟨as, h1, h2, h3⟩ := Reps.reads I q rv (by simpa [shal] using hs)
   exact ⟨_, .list ho hc hd (by simpa using h1), by simpa [toPy, PyData.canLay0] using h2, by simpa [toPy, PyData.depth] using h3⟩
 | _, _, .dct _ _ _ _ => fun _ hs => by simp [shal] at hs
 | _, _, .dcf _ _ _ _ => fun _ hs => by simp [shal] at hs
 | _, _, .ins _ _ _ _ _ => fun _ hs => by simp [shal] at hs
 | _, _, .clo _ _ _ _ _ _ => fun _ hs => by simp [shal] at hs
 | _, _, .fnK _ => fun _ hs => by simp [shal] at hs
theorem Reps.reads {pins : List (Addr × Obj)} {σ : L2.St} {H : Hp} {s : Shared} {O : Addr -> Prop} (I : Inv X pins σ H s) : ∀ {vs : List V} {ds : List D}, Reps X.K H O vs ds -> ∀ {us : List Value} {n : Nat}, Vals vs us -> shals n ds = true -> ∃ as, ReadsAll s.heap us (toPys ds) as /\ PyData.canLayAll0 (toPys ds) = true /\ PyData.depthAll (toPys ds) <= n
 | _, _, .nil => fun r _ => by cases r; exact ⟨[], .nil, rfl, Nat.zero_le _⟩
 | _, _, .cons h t => fun r hs => by
   rename Nat => n
   cases n with
   | zero => simp [shals] at hs
   | succ n =>
    cases r with
    | cons r1 r2 =>
     simp only [shals, Bool.and_eq_true] at hs
     obtain ⟨as, h1, h2, h3⟩ := Rep.reads I h r1 hs.1
     obtain ⟨bs, k1, k2, k3⟩ := Reps.reads I t r2 hs.2
     exact ⟨_, .cons h1 k1, by simp [toPys, PyData.canLayAll0, h2, k2], by simp only [toPys, PyData.depthAll]; omega⟩
end
noncomputable def rEqD (X : Cx) (neg : Bool) : R2 := fun x y H Q => ∃ dx dy, Rep X.K H jH x dx /\ Rep X.K H jH y dy /\ shal 40 dx = true /\ shal 40 dy = true /\ Q (.bl (if neg then !eqvD dx dy else eqvD dx dy)) H
theorem op_eqD (hu : X.A.units + 100 < cLine) : OpR X (compareOp .Eq) (rEqD X false) := by
 intro pins s σ H x y v u Q I rx ry h
 obtain ⟨dx, dy, r1, r2, s1, s2, q⟩ := h
 obtain ⟨as, a1, a2, a3⟩ := r1.reads I rx s1
 obtain ⟨bs, b1, b2, b3⟩ := r2.reads I ry s2
 exact SeqAt.compareEq_reads a1 b1 a2 b2 (by lia) ⟨.bl _, H, I, rfl, q⟩
theorem op_neD (hu : X.A.units + 100 < cLine) : OpR X (compareOp .NotEq) (rEqD X true) := by
 intro pins s σ H x y v u Q I rx ry h
 obtain ⟨dx, dy, r1, r2, s1, s2, q⟩ := h
 obtain ⟨as, a1, a2, a3⟩ := r1.reads I rx s1
 obtain ⟨bs, b1, b2, b3⟩ := r2.reads I ry s2
 exact SeqAt.compareNe_reads a1 b1 a2 b2 (by lia) ⟨.bl _, H, I, rfl, q⟩
theorem on_eqD : OpN X (rEqD X false) eqD := by
 intro H O x y dx dy d Q rx ry e q
 unfold eqD at e
 split at e
 · rename_i hs
   cases e
   exact ⟨dx, dy, rx, ry, hs.1, hs.2, q _ H (Same.refl _) (.bl _)⟩
 · cases e
theorem on_neD : OpN X (rEqD X true) neD := by
 intro H O x y dx dy d Q rx ry e q
 unfold neD at e
 split at e
 · rename_i hs
   cases e
   exact ⟨dx, dy, rx, ry, hs.1, hs.2, q _ H (Same.refl _) (.bl _)⟩
 · cases e
theorem hu100 (hr : Room k A) : A.units + 100 < cLine := by have := hr.un; lia
theorem pv_eq (hr : Room k X.A) (ha : PVn X a fa) (hb : PVn X b fb) : PV X (.Compare a [.Eq] [b] pos) (zI eqD fa fb) := pv_cmpN (op_eqD (hu100 hr)) on_eqD ha hb (nomark _)
theorem yC (hr : Room k X.A) (ha : PVn X a fa) (hb : PVn X b fb) : PTv X (.Compare a [.Eq] [b] pos) (zU (zI eqD fa fb)) := vY (op_eqD (hu100 hr)) on_eqD ha hb (nomark _)
theorem pt_ne (hr : Room k X.A) (ha : PVn X a fa) (hb : PVn X b fb) : PTv X (.Compare a [.NotEq] [b] pos) (zU (zI neD fa fb)) := vY (op_neD (hu100 hr)) on_neD ha hb (nomark _)
theorem non_iff {K : Frag} {H : Hp} {O : Addr -> Prop} {v : V} (r : Rep K H O v d) : decide (v = .non) = (match d with | .non => true | _ => false) := by
 cases r <;> rfl
theorem on_is : OpN X (fun x y H Q => y = .non /\ Q (.bl (decide (x = .non))) H) isD := by
 intro H O x y dx dy d Q rx ry e q
 cases dy <;> first | (cases dx <;> simp [isD] at e; done) | skip
 cases ry
 refine ⟨rfl, ?_⟩
 rw [non_iff rx]
 cases dx <;> (simp [isD, Option.some.injEq] at e; subst e; exact q _ H (Same.refl _) (.bl _))
theorem on_not : OpN X (fun x y H Q => y = .non /\ Q (.bl (!decide (x = .non))) H) notD := by
 intro H O x y dx dy d Q rx ry e q
 cases dy <;> first | (cases dx <;> simp [notD] at e; done) | skip
 cases ry
 refine ⟨rfl, ?_⟩
 rw [non_iff rx]
 cases dx <;> (simp [notD, Option.some.injEq] at e; subst e; exact q _ H (Same.refl _) (.bl _))
theorem pv_is (ha : PVn X a fa) (hb : PVn X b fb) : PV X (.Compare a [.Is] [b] pos) (zI isD fa fb) := pv_cmpN op_isN on_is ha hb (nomark _)
theorem pv_isnot (ha : PVn X a fa) (hb : PVn X b fb) : PV X (.Compare a [.IsNot] [b] pos) (zI notD fa fb) := pv_cmpN op_notN on_not ha hb (nomark _)
theorem vB (ha : PVn X a fa) (hb : PVn X b fb) : PTv X (.Compare a [.Is] [b] pos) (zU (zI isD fa fb)) := vY op_isN on_is ha hb (nomark _)
theorem xL (ha : PVn X a fa) (hb : PVn X b fb) : PTv X (.Compare a [.IsNot] [b] pos) (zU (zI notD fa fb)) := vY op_notN on_not ha hb (nomark _)
theorem os_mul : OpS X (rI IntMulOk fun i j => .int (i * j)) xF := by
 intro H O x y dx dy d Q ho rx ry e q
 cases dx <;> cases dy <;> first | (simp [xF] at e; done) | skip
 simp only [xF] at e
 split at e
 · rename_i hc
   cases e
   rw [rx.int', ry.int']
   exact ⟨_, _, rfl, rfl, hc, q _ H (Same.refl _) (.int _)⟩
 · cases e
theorem os_pow : OpS X (rI CPowB fun i j => .int (i ^ j.toNat)) powD := by
 intro H O x y dx dy d Q ho rx ry e q
 cases dx <;> cases dy <;> first | (simp [powD] at e; done) | skip
 simp only [powD] at e
 split at e
 · rename_i hc
   cases e
   rw [rx.int', ry.int']
   exact ⟨_, _, rfl, rfl, hc, q _ H (Same.refl _) (.int _)⟩
 · cases e
theorem pvf_cat (ha : PVw X a fa) (hb : PVw X b fb) : PVf X (.BinOp a .Add b pos) (catA fa fb) := by
 obtain ⟨ta, pa, ha⟩ := ha
 obtain ⟨tb, pb, hb⟩ := hb
 refine ⟨_, pe_op op_catS pa pb, fun H₀ H O σ ds hd l Q o e q => ?_⟩
 obtain ⟨dx, h1, e⟩ := bnd e
 obtain ⟨dy, h2, e⟩ := bnd e
 cases dx <;> cases dy <;> first | (simp at e; done) | skip
 simp only at e
 split at e
 · rename_i hz
   cases e
   refine ha H₀ H O σ ds hd _ _ o h1 fun x H1 s1 r1 => ?_
   refine hb H₀ H1 O σ ds hd _ _ (o.mono s1) h2 fun y H2 s2 r2 => ?_
   obtain ⟨a1, xs, rfl, hq1, rs1⟩ := (r1.mono s2).seqL
   obtain ⟨a2, ys, rfl, hq2, rs2⟩ := r2.seqL
   refine ⟨a1, a2, xs, ys, rfl, rfl, hq1, hq2, by rw [rs1.length, rs2.length]; exact hz, fun p hp => ?_⟩
   refine q p _ _ ((s1.trans s2).trans (qL hp _)) ((s1.trans s2).free hp) zS ?_
   exact ((rs1.append rs2).more hp).mono (qL hp _)
 · cases e
variable (X) in
def POv (e : Option Expr) (f : List Sl -> Option (Option Int)) : Prop := ∃ t, PO X e t /\ ∀ H₀ H O σ ds hd i Q, Ok X.K H₀ H O σ ds hd -> f ds = some i -> (∀ H', Same H H' -> Q i H') -> t σ H Q
theorem pov_so (h : PVw X e f) : POv X (some e) (soP f) := by
 obtain ⟨t, ht, hf⟩ := h
 refine ⟨_, po_some ht, fun H₀ H O σ ds hd i Q o e q => ?_⟩
 obtain ⟨d, h1, e⟩ := bnd e
 cases d <;> first | (cases e; done) | skip
 cases e
 refine hf H₀ H O σ ds hd _ _ o h1 fun v H' s r => ?_
 rw [r.int']
 exact ⟨_, rfl, q H' s⟩
theorem cut_reps {K : Frag} (rs : Reps K H O xs l) : Reps K H O (cutV xs a b) (cutD l a b) := by
 unfold cutV cutD
 rw [rs.length]
 exact (rs.drop _).take _
theorem pvf_slice {lo hi : Option Expr} (he : PVw X e f) (hl : POv X lo gl) (hh : POv X hi gh) : PVf X (.Subscript e (.Slice lo hi none p2) pos) (sliA f gl gh) := by
 obtain ⟨te, pe, he⟩ := he
 obtain ⟨tl, pl, hl⟩ := hl
 obtain ⟨th, ph, hh⟩ := hh
 refine ⟨_, pe_slice sl_list pe pl ph, fun H₀ H O σ ds hd l Q o e q => ?_⟩
 obtain ⟨d, h1, e⟩ := bnd e
 obtain ⟨a, h2, e⟩ := bnd e
 obtain ⟨b, h3, e⟩ := bnd e
 cases d <;> first | (cases e; done) | skip
 cases e
 refine he H₀ H O σ ds hd _ _ o h1 fun v H1 s1 r1 => ?_
 refine hl H₀ H1 O σ ds hd _ _ (o.mono s1) h2 fun H2 s2 => ?_
 refine hh H₀ H2 O σ ds hd _ _ ((o.mono s1).mono s2) h3 fun H3 s3 => ?_
 obtain ⟨a1, xs, rfl, hq, rs⟩ := ((r1.mono s2).mono s3).seqL
 refine ⟨a1, xs, rfl, hq, fun p hp => ?_⟩
 have ss := (s1.trans s2).trans s3
 refine q p _ _ (ss.trans (qL hp _)) (ss.free hp) zS ?_
 exact ((cut_reps rs).more hp).mono (qL hp _)
theorem xS (hm : X.mg "list" = none) (he : PVw X e f) (hg : Gl X "list" := by rfl) (hs : starEach [e] X.env = [(false, eval e X.env)] := by rfl) : PVf X (.Call (.Name "list" p) [e] [] pos) (lisA f) := by
 obtain ⟨te, pe, he⟩ := he
 refine ⟨_, pe_callTy call_list_of hg hm (by decide +kernel) (jC pe yF hs) (by decide) (by decide) hs rfl, fun H₀ H O σ ds hd l Q o e q => ?_⟩
 obtain ⟨d, h1, e⟩ := bnd e
 refine he H₀ H O σ ds hd _ _ o h1 fun v H1 s1 r1 => ?_
 cases d <;> first | (cases e; done) | skip
 · cases e
   obtain ⟨a1, xs, rfl, hq, rs⟩ := r1.seqT
   refine ⟨a1, xs, rfl, .inr hq, fun p hp => ?_⟩
   exact q p _ _ (s1.trans (qL hp _)) (s1.free hp) zS ((rs.more hp).mono (qL hp _))
 · cases e
   obtain ⟨a1, xs, rfl, hq, rs⟩ := r1.seqL
   refine ⟨a1, xs, rfl, .inl hq, fun p hp => ?_⟩
   exact q p _ _ (s1.trans (qL hp _)) (s1.free hp) zS ((rs.more hp).mono (qL hp _))
theorem cs_max : CallS X (fun xs H Q => ∃ i j, xs = [.int i, .int j] /\ Q (.int (if j > i then j else i)) H) mxD := by
 intro H O vs l d Q ho r e q
 unfold mxD at e
 split at e
 · cases e
   cases r with
   | cons r1 rn =>
     cases rn with
     | cons r2 rm =>
       cases rm
       exact ⟨_, _, by rw [r1.int', r2.int'], q _ H (Same.refl _) (.int _)⟩
 · cases e
theorem cs_min : CallS X (fun xs H Q => ∃ i j, xs = [.int i, .int j] /\ Q (.int (if j < i then j else i)) H) mnD := by
 intro H O vs l d Q ho r e q
 unfold mnD at e
 split at e
 · cases e
   cases r with
   | cons r1 rn =>
     cases rn with
     | cons r2 rm =>
       cases rm
       exact ⟨_, _, by rw [r1.int', r2.int'], q _ H (Same.refl _) (.int _)⟩
 · cases e
theorem pv_max2 (hc : X.calm = true) (hm : X.mg "max" = none) (ha : PAv X [a, b] g) (hg : Gl X "max" := by rfl) (he : starEach [a, b] X.env = (false, eval a X.env) :: starEach [b] X.env := by rfl) (hpl : (backTo pos (starEach [b] X.env)).any (·.1) = false := by rfl) :
  PV X (.Call (.Name "max" p) [a, b] [] pos) (callB mxD g) := wI (call_max2 hc) cs_max hm (by decide +kernel) ha hg (by decide) (by decide) he hpl
theorem pv_min2 (hc : X.calm = true) (hm : X.mg "min" = none) (ha : PAv X [a, b] g) (hg : Gl X "min" := by rfl) (he : starEach [a, b] X.env = (false, eval a X.env) :: starEach [b] X.env := by rfl) (hpl : (backTo pos (starEach [b] X.env)).any (·.1) = false := by rfl) :
  PV X (.Call (.Name "min" p) [a, b] [] pos) (callB mnD g) := wI (call_min2 hc) cs_min hm (by decide +kernel) ha hg (by decide) (by decide) he hpl
theorem isEmpty_len {α β : Type} {xs : List α} {ys : List β} (h : xs.length = ys.length) : xs.isEmpty = ys.isEmpty := by
 cases xs <;> cases ys <;> simp_all
theorem PVn.t (h : PVn X e f) (he : ∀ whole, isTrue e X.env whole = (do let v <- whole; standAt e.pos; holding [v] (truthy v)) := by intro _; rfl) : PTv X e (testT f) := by
 obtain ⟨t, ht, hf⟩ := h
 refine ⟨_, pt_truth ht he, fun H₀ H O σ ds hd k Q o e q => ?_⟩
 unfold testT at e
 obtain ⟨d, h, e⟩ := bnd e
 refine hf H₀ H O σ ds hd d _ o h fun v H' s r => ⟨k, ?_, q H' s⟩
 cases d with
 | non => cases e; cases r; exact rfl
 | bl b => cases e; cases r; exact rfl
 | int i => cases e; cases r; exact rfl
 | str x =>
   simp only [truD] at e
   split at e
   · rename_i hz; cases e; cases r; exact ⟨hz, rfl⟩
   · cases e
 | tup l =>
   cases e
   obtain ⟨a, xs, rfl, hq, rs⟩ := WRep.seqT (.inl r)
   exact .inr (.inl ⟨xs, hq, by rw [isEmpty_len rs.length]⟩)
 | lst l =>
   cases e
   obtain ⟨a, xs, rfl, hq, rs⟩ := WRep.seqL (.inl r)
   exact .inl ⟨xs, hq, by rw [isEmpty_len rs.length]⟩
 | _ => cases e
theorem psv_never {st : Stmt} : PSv X st (fun _ => none) := ⟨_, ps_never, fun _ _ _ _ _ _ _ _ _ e _ => by cases e⟩
theorem psv_asg (he : PV X e f) (hg : PGv X tg ga) (hs : swapsWithSole [tg] e pos.line X.env = pure false := by rfl) (hw : swappedStores [tg] e X.env = pure none := by rfl)
  (h1 : (assignEach [tg] X.env).map (·.2) = [assign tg X.env] := by rfl) : PSv X (.Assign [tg] e pos) (asgG ga f) := by
 obtain ⟨te, pe, he⟩ := he
 obtain ⟨tg', pg, hg⟩ := hg
 refine ⟨_, ps_asg pe pg hs hw h1, fun H₀ H O σ ds hd out E o e h => ?_⟩
 obtain ⟨d, h2, e⟩ := bnd e
 cases h3 : ga d ds with
 | none => rw [h3] at e; cases e
 | some ds' =>
   rw [h3] at e
   cases e
   refine he H₀ H O σ ds hd d _ o h2 fun v H1 s1 r1 => ?_
   exact hg H₀ H1 O σ ds hd v d ds' _ (o.mono s1) r1 h3 fun σ' o' => h σ' H1 O o'
theorem psv_ext (he : PVf X e fe) (hN : X.N[i]? = some x := by rfl) (hv : Vis X.env.scope x := by first | exact Or.inl rfl | exact Or.inr (Or.inl rfl) | exact Or.inr (Or.inr rfl)) (hd : (x == ("__debug__" : Str)) = false := by decide)
  (hcd : (x == ("__classdict__" : Str)) = false := by decide)
  (hfew : ((backTo p3 (starEach [e] X.env)).all (fun x => !x.1) && (backToKw p3 (keywordEach [] X.env)).all (fun x => x.1.isSome)
    && decide ([e].length + ([] : List Keyword).length + (if ([] : List Keyword).isEmpty then 0 else 1) < 30)) = true := by rfl)
  (hline : (p2.endLine == p3.line) = true := by rfl) (hs : starEach [e] X.env = (false, eval e X.env) :: starEach [] X.env := by rfl)
  (hbase : attributeBase (.Name x p1) "extend" X.env (eval (.Name x p1) X.env) = eval (.Name x p1) X.env := by rfl) (hsw : swapsWith (.Call (.Attribute (.Name x p1) "extend" p2) [e] [] p3) none pos.line X.env = pure false := by rfl) :
  PSv X (.Expr (.Call (.Attribute (.Name x p1) "extend" p2) [e] [] p3) pos) (extG i fe) := by
 obtain ⟨te, pe, he⟩ := he
 refine ⟨_, yR (pe_bm PySem.F.plainAttrs_list PySem.F.slot_list_extend PySem.F.type_list_extend mt_extend (jZ hN hv hd hcd) (jC pe yF hs) hbase hfew hline hs rfl) hsw, fun H₀ H O σ ds hd out E o e h => ?_⟩
 unfold extG at e
 cases hsl : ds[i]? with
 | none => rw [hsl] at e; cases e
 | some s =>
   rw [hsl] at e
   cases s with
   | v d' => cases e
   | no => cases e
   | exc _ => cases e
   | exf _ _ => cases e
   | fr _ => cases e
   | ob _ _ => cases e
   | own l =>
     obtain ⟨d, h1, e⟩ := bnd e
     split at e
     · rename_i hl
       cases e
       obtain ⟨a, xs, q1, q2, q3, q4⟩ := o.readO hsl
       refine ⟨.ref a, q1, .inl ⟨rfl, xs, SqL.of q3⟩, ?_⟩
       refine he H₀ H O σ ds hd d _ o h1 fun b ys H1 s1 hn hb r1 => ?_
       refine ⟨a, b, xs, ys, rfl, rfl, s1 _ _ q3, hb, by rw [q4.length, r1.length]; exact hl, ?_⟩
       exact h _ _ _ ((o.mono s1).modify hsl q1 ((q4.mono s1).append (r1.less fun a z => .inr z)))
     · cases e
theorem psv_clr (hN : X.N[i]? = some x := by rfl) (hv : Vis X.env.scope x := by first | exact Or.inl rfl | exact Or.inr (Or.inl rfl) | exact Or.inr (Or.inr rfl)) (hd : (x == ("__debug__" : Str)) = false := by decide)
  (hcd : (x == ("__classdict__" : Str)) = false := by decide) (hline : (p2.endLine == p3.line) = true := by rfl)
  (hbase : attributeBase (.Name x p1) "clear" X.env (eval (.Name x p1) X.env) = eval (.Name x p1) X.env := by rfl) (hsw : swapsWith (.Call (.Attribute (.Name x p1) "clear" p2) [] [] p3) none pos.line X.env = pure false := by rfl) :
  PSv X (.Expr (.Call (.Attribute (.Name x p1) "clear" p2) [] [] p3) pos) (clrG i) := by
 refine ⟨_, yR (pe_bm0 PySem.F.plainAttrs_list PySem.F.slot_list_clear PySem.F.type_list_clear mt_clear (jZ hN hv hd hcd) hbase hline) hsw, fun H₀ H O σ ds hd out E o e h => ?_⟩
 unfold clrG at e
 cases hsl : ds[i]? with
 | none => rw [hsl] at e; cases e
 | some s =>
   rw [hsl] at e
   cases s with
   | v d' => cases e
   | no => cases e
   | exc _ => cases e
   | exf _ _ => cases e
   | fr _ => cases e
   | ob _ _ => cases e
   | own l =>
     cases e
     obtain ⟨a, xs, q1, q2, q3, q4⟩ := o.readO hsl
     refine ⟨.ref a, q1, .inl ⟨rfl, xs, SqL.of q3⟩, ?_⟩
     exact ⟨a, xs, rfl, rfl, q3, h _ _ _ (o.modify hsl q1 .nil)⟩
theorem psv_compV {iter : Expr} (hN : X.N.Nodup)
  (S : CompScope X scope NY mp) (hc : X.calm = true) (hi : PIv X tg iter fi) (hg : ∀ c, PGv (jB X scope NY c) tg ga) (ht : ∀ c, PFv (jB X scope NY c) ifs tt) (he : ∀ c, PV (jB X scope NY c) elt fe)
  (hy : X.N[i]? = some y := by rfl) (hl : X.env.scope.names.lookup y = some .local := by rfl)
  (hsw : swapsWith (.ListComp elt [⟨tg, iter, ifs, 0⟩] scope pos) (some (.Name y py)) spos.line X.env = pure true := by rfl)
  (hs : ∀ x, foldedSetIterable iter X.env x = pure x := by intro _; rfl) : PSv X (.Assign [.Name y py] (.ListComp elt [⟨tg, iter, ifs, 0⟩] scope pos) spos) (yE i (mkL (compG fi mp ga tt fe))) := by
 obtain ⟨wi, pi, hi⟩ := hi
 refine ⟨_, ps_comp hN hy hl hsw S hc pi (fun c => (Classical.choose_spec (hg c)).1) (fun c => (Classical.choose_spec (ht c)).1) (fun c => (Classical.choose_spec (he c)).1) hs, fun H₀ H O σ ds hd out E o e h => ?_⟩
 unfold yE mkL at e
 cases h1 : compG fi mp ga tt fe ds with
 | none => rw [h1] at e; cases e
 | some l =>
   rw [h1] at e
   cases e
   exact comp_sem hi (fun c => (Classical.choose_spec (hg c)).2) (fun c => (Classical.choose_spec (ht c)).2) (fun c => (Classical.choose_spec (he c)).2) H₀ H O σ ds hd l _ o h1 fun a xs H' s hn he r =>
    h _ _ _ ((o.mono s).set (.lst (o.free hn) (.inl he) (r.less fun _ z => .inr z)))
end
end FL
namespace L2
open PySem PySem.Spec PyProof.Rows
section
end
end L2
namespace Att
open PySem PySem.W PySem.Calls PyProof.Rows
theorem bits_script : ∀ {ns : List Int} {b : Nat}, WData.weightAll (ns.map WData.int) <= b -> ∀ c ∈ ns, Builtin.Int.intBits c <= b
 | [], _, _ => fun c hc => by cases hc
 | n :: r, b, h => fun c hc => by
   simp only [List.map_cons, WData.weightAll, WData.weight] at h
   rcases List.mem_cons.mp hc with rfl | hc
   · unfold Builtin.Int.intBits
     omega
   · exact bits_script (ns := r) (b := b) (by omega) c hc
theorem attach_callB {l : OpenLaw}
  (hn : l.most = some n) (hdf : d.params.defaults = [])
  (call : ∀ w s₀ s₁ mg mb fa o pm cd doc a vs ns,
    Ground q loose [] XP w s₀ mg mb s₁.heap -> YP w s₁.heap →
    s₁.heap.get? fa = some o -> o.data = .func (docDef d.name d.params d.body d.scope pm cd doc) -> s₁.heap.CodeRec cd d.name -> mg d.name = some (.ref fa) →
    s₁.heap.get? a = some { cls := .type "list", data := .seq vs.toArray } -> IntsAre vs ns -> ns.length <= n -> (∀ c ∈ ns, Builtin.Int.intBits c <= 1048576) -> s₁.gens = #[] →
    codeAny (model l.prog w) callerA (.call (.ref fa) ⟨[.ref a], []⟩) (fun r s' => r = .ok (.ret (.bool true)) /\ OldK s₁.heap s'.heap /\ s'.os = s₁.os /\ AllBare s'.gens) s₁) :
  WalkO q loose XP YP l.row.toRowW d [] (fun f vs => PySem.call f vs) := by
 intro w s₀ s₁ mg mb G Y fa o pm cd doc dV kV ho hd hcd hD hmg hg args vals as hpre hlay hrd hwl hlo
 obtain rfl : dV = .none := Dflts.none hD hdf
 obtain rfl : kV = .none := Dflts.noKw hD
 obtain ⟨a, vs, ns, rfl, rfl, hobj, hints, hlen⟩ := script_of hn hpre hwl
 have hb : ∀ c ∈ ns, Builtin.Int.intBits c <= 1048576 := by
  have h1 := (layableW_iff.mp (layW_cons hlay).1).2.2
  exact bits_script (Nat.le_trans h1 (by decide))
 refine enter_call (codeAny_mono (call w s₀ s₁ mg mb fa o pm cd doc a vs ns G Y ho (fd_plain hd) hcd hmg hobj hints hlen hb hg) fun r s' hq => ?_)
 obtain ⟨rfl, h2, h3, h4⟩ := hq
 exact ⟨.inl ⟨.bool true, .bool true, [], rfl, fun _ => rfl, .bool true, post_true l _, fun _ => ⟨List.Pairwise.nil, fun _ hm => (nomatch hm)⟩⟩, h2, h3, h4⟩
end Att
namespace FL
open PySem PySem.Spec PyProof.Rows L2
noncomputable def spLawB (K : Frag) (n : Nat) : Sp := fun vs H Q _ => ∃ (a : Addr) (ns : List Int), vs = [.ref a] /\ SqL K H a (ns.map V.int) /\ ns.length <= n /\ (∀ c ∈ ns, Builtin.Int.intBits c <= 1048576) /\ ∀ H', Q (.bl true) H'
theorem law_ofB {K : Frag} (Fn : FnOk P w K mg base CX0 k f fd [x] (spF K 1 F))
  (h : ∀ ns : List Int, ns.length <= n -> (∀ c ∈ ns, Builtin.Int.intBits c <= 1048576) -> F [.lst (ns.map D.int)] = some (.val (.bl true))) : FnOk P w K mg base CX0 k f fd [x] (spLawB K n) := by
 refine Fn.imp fun vs H Q E hq => ?_
 obtain ⟨a, ns, rfl, hS, hl, hb, q⟩ := hq
 refine ⟨rfl, [.lst (ns.map D.int)], .val (.bl true), .cons ?_ .nil, h ns hl hb, fun v H' s r => ?_⟩
 · rcases hS with hS | hS
   · exact .lst (fun z => z.elim) hS (Reps.ints ns)
   · exact .lstK hS (Reps.ints ns)
 · cases r; exact q H'
open PySem.W (tabIn CodeHd tabObj noTabs tab_of) in
inductive TabL (K : Frag) (q : Program) (ts : List Addr) : List Str -> List (Str × Addr × Addr) -> Prop
 | nil : TabL K q ts [] []
 | yes {x : Str} {xs : List Str} {c P : Addr} {tl : List (Str × Addr × Addr)} (h : tabM K x = some (c, P)) (r : (meths.lookup x = none /\ ((recsOf q).find? (fun e => e.name == x)).isSome = true) \/ (PySem.W.codeHdIn K c P = true /\ P ∈ ts)) (ap : (tl.all fun p => p.2.2 != P) = true) (t : TabL K q ts xs tl) : TabL K q ts (x :: xs) ((x, c, P) :: tl)
 | no {x : Str} {xs : List Str} {tl : List (Str × Addr × Addr)} (h : tabM K x = none) (t : TabL K q ts xs tl) : TabL K q ts (x :: xs) tl
theorem tabL_no {K : Frag} (h : PySem.W.nsIn K mainGlobals x = some none) (t : TabL K q ts xs tl) (hm : meths.lookup x = none := by rfl) : TabL K q ts (x :: xs) tl := .no (by rw [tabM_is hm]; unfold PySem.W.tabIn; rw [h]) t
theorem tabL_noM {K : Frag} (h : PySem.W.nsIn K mainGlobals C = some none) (t : TabL K q ts xs tl) (hm : meths.lookup x = some (C, m) := by rfl) : TabL K q ts (x :: xs) tl := .no (by unfold tabM fnAt; simp [hm, h]) t
theorem tabL_yes {K : Frag} (h1 : PySem.W.nsIn K mainGlobals x = some (some (.ref f))) (h2 : K.lookup f = some ⟨oc, od, .func fd, sl⟩)
  (h3 : fd.code = .ref c) (h4 : K.lookup c = some ⟨oc', od', .fields vs, sl'⟩) (h5 : (vs[11]? : Option Value) = some (.ref P)) (r : ((recsOf q).find? (fun e => e.name == x)).isSome = true) (t : TabL K q ts xs tl) (ap : (tl.all fun p => p.2.2 != P) = true) (hm : meths.lookup x = none := by rfl) : TabL K q ts (x :: xs) ((x, c, P) :: tl) :=
 .yes (by rw [tabM_is hm]; unfold PySem.W.tabIn; simp [h1, h2, h3, h4, h5]) (.inl ⟨hm, r⟩) ap t
theorem tabL_met {K : Frag} (h0 : PySem.W.nsIn K mainGlobals C = some (some v)) (h1 : PySem.W.findIn K v m = some (some (.ref f))) (h2 : K.lookup f = some ⟨oc, od, .func fd, sl⟩)
  (h3 : fd.code = .ref c) (h4 : K.lookup c = some ⟨oc', od', .fields vs, sl'⟩) (h5 : (vs[11]? : Option Value) = some (.ref P)) (r : PySem.W.codeHdIn K c P = true) (hp : P ∈ ts) (t : TabL K q ts xs tl) (ap : (tl.all fun p => p.2.2 != P) = true) (hm : meths.lookup x = some (C, m) := by rfl) : TabL K q ts (x :: xs) ((x, c, P) :: tl) :=
 .yes (by unfold tabM fnAt; simp [hm, h0, h1, h2, h3, h4, h5]) (.inr ⟨r, hp⟩) ap t
section
variable {K : Frag} {tl : List (Str × Addr × Addr)}
theorem TabL.get (h : TabL K q ts xs tl) : ∀ {x : Str} {c P : Addr}, x ∈ xs -> tabM K x = some (c, P) -> (x, c, P) ∈ tl := by
 induction h with
 | nil => intro x c P hx; cases hx
 | yes h r ap t ih =>
   intro x c P hx ht
   rcases List.mem_cons.mp hx with e | e
   · subst e
     rw [h] at ht
     cases ht
     exact List.mem_cons_self
   · exact List.mem_cons_of_mem _ (ih e ht)
 | no h t ih =>
   intro x c P hx ht
   rcases List.mem_cons.mp hx with e | e
   · subst e
     rw [h] at ht
     cases ht
   · exact ih e ht
theorem TabL.fact (h : TabL K q ts xs tl) : ∀ p ∈ tl, tabM K p.1 = some (p.2.1, p.2.2) /\ ((meths.lookup p.1 = none /\ ((recsOf q).find? (fun e => e.name == p.1)).isSome = true) \/ (PySem.W.codeHdIn K p.2.1 p.2.2 = true /\ p.2.2 ∈ ts)) := by
 induction h with
 | nil => intro p hp; cases hp
 | yes h r ap t ih =>
   intro p hp
   rcases List.mem_cons.mp hp with e | e
   · subst e; exact ⟨h, r⟩
   · exact ih p e
 | no h t ih => exact ih
noncomputable def tabH (K : Frag) (tl : List (Str × Addr × Addr)) : Hp := fun b => (tl.find? fun p => p.2.2 == b).map fun p => .tbl (innerQ K p.1)
theorem vX (e : tabH K tl b = some u) : ∃ p ∈ tl, b = p.2.2 /\ u = .tbl (innerQ K p.1) := by
 obtain ⟨p, h, rfl⟩ := mpd e
 exact ⟨p, List.mem_of_find?_eq_some h, (beq_iff_eq.mp (List.find?_some (p := fun p : Str × Addr × Addr => p.2.2 == b) h)).symm, rfl⟩
theorem TabL.at (h : TabL K q ts xs tl) : ∀ p ∈ tl, tabH K tl p.2.2 = some (.tbl (innerQ K p.1)) := by
 induction h with
 | nil => intro p hp; cases hp
 | yes h r ap t ih =>
   intro p hp
   rename_i x xs c P tl
   unfold tabH
   rcases List.mem_cons.mp hp with e | e
   · subst e
     simp
   · have : (P == p.2.2) = false := by
      have := List.all_eq_true.mp ap p e
      simp only [bne_iff_ne, ne_eq] at this
      exact beq_eq_false_iff_ne.mpr (Ne.symm this)
     rw [List.find?_cons, this]
     exact ih p e
 | no h t ih => exact ih
end
theorem no_cls {K : Frag} (X : K.In h) (hK : PySem.W.noTabs K = true) (e : K.lookup b = some o) (hb : h.get? b = some (PySem.W.tabObj ps)) : False := by
 have q := X b o e
 rw [hb] at q
 cases q
 have h2 := List.all_eq_true.mp hK (b, _) (PySem.W.mem_of_lookupK e)
 exact absurd (h2) Bool.false_ne_true
theorem law_callT {K : Frag}
  (KX : K.In s₁.heap) (T : Top q loose mean mg mb s₁.heap) (hts : ∀ P ∈ ts, s₁.heap.get? P = some (PySem.W.tabObj #[])) (hT : TabL K q ts makers tl) (hK : PySem.W.noTabs K = true) (hg : s₁.gens = #[]) (ha : s₁.heap.get? a = some { cls := .type "list", data := .seq vs.toArray }) (hi : IntsAre vs ns) (hl : ns.length <= sizeLine) (hr : Room k callerA)
  (F : ∀ base, K.In base -> base.Ns mainGlobals mg -> FnOk P w K mg base CX0 k fa fd [x] sp) (hbind : ∀ s u, BindsTo s fd ⟨[u], []⟩ [(x, u)])
  (hsp : ∀ H, SqL K H a (ns.map V.int) -> sp [.ref a] H (fun v _ => v = .bl true) fun _ _ _ => False) :
  codeAny (model P w) callerA (.call (.ref fa) ⟨[.ref a], []⟩) (fun r s' => r = .ok (.ret (.bool true)) /\ OldK s₁.heap s'.heap /\ s'.os = s₁.os /\ AllBare s'.gens) s₁ := by
 have rv := vals_ints hi
 have tf : ∀ p ∈ tl, PySem.W.CodeHd s₁.heap p.2.1 p.2.2 /\ s₁.heap.get? p.2.2 = some (PySem.W.tabObj #[]) := fun p hp => by
  obtain ⟨h1, h2⟩ := hT.fact p hp
  rcases h2 with ⟨hm, h2⟩ | ⟨h2, h3⟩
  · obtain ⟨d, hd⟩ := Option.isSome_iff_exists.mp h2
    exact PySem.W.tab_of T KX hd ((tabM_is hm).symm.trans h1)
  · exact ⟨PySem.W.codeHd_of_K KX h2, hts _ h3⟩
 have core : ∀ H : Hp, SqL K H a (ns.map V.int) -> L2.HOk P w H s₁.heap -> (∀ b u, H b = some u -> (b = a /\ K.lookup a = none /\ ∃ o xs, u = .frz o (.lst xs)) \/ ∃ p ∈ tl, b = p.2.2 /\ u = .tbl (innerQ K p.1)) -> (∀ p ∈ tl, H p.2.2 = some (.tbl (innerQ K p.1))) →
   codeAny (model P w) callerA (.call (.ref fa) ⟨[.ref a], []⟩) (fun r s' => r = .ok (.ret (.bool true)) /\ OldK s₁.heap s'.heap /\ s'.os = s₁.os /\ AllBare s'.gens) s₁ := by
  intro H hS hok hA hP
  have free_of : ∀ {b : Addr} {o : Obj}, s₁.heap.get? b = some o -> (∀ its n, o.data ≠ .seq its n) -> o.data ≠ .fields #[] -> H b = none := fun {b o} e n1 n2 => by
   cases qb : H b with
   | none => rfl
   | some u =>
     rcases hA b u qb with ⟨rfl, _, _⟩ | ⟨p, hp, rfl, _⟩
     · rw [ha] at e; cases e; exact (n1 _ _ rfl).elim
     · rw [(tf p hp).2] at e; cases e; exact (n2 rfl).elim
  have base_of : ∀ {b : Addr} {o : Obj}, s₁.heap.get? b = some o -> (∀ its n, o.data ≠ .seq its n) -> o.data ≠ .fields #[] -> (hidT s₁.heap H).get? b = some o := fun e n1 n2 => hidT_get e (free_of e n1 n2)
  have nsK : ∀ {b : Addr} {m : Str -> Option Value}, s₁.heap.Ns b m -> (hidT s₁.heap H).Ns b m := fun {b m} ⟨o, es, ep, e, d, r⟩ => ⟨o, es, ep, base_of e (fun _ _ z => by rw [d] at z; cases z) (fun z => by rw [d] at z; cases z), d, r⟩
  have hKb : K.In (hidT s₁.heap H) := fun b o e => hidT_get (KX b o e) (by
   cases qb : H b with
   | none => rfl
   | some u =>
     rcases hA b u qb with ⟨rfl, z, _⟩ | ⟨p, hp, rfl, _⟩
     · rw [z] at e; cases e
     · exact (no_cls KX hK e (tf p hp).2).elim)
  have hM : Mod K mg (hidT s₁.heap H) := ⟨hKb, nsK T.g, ⟨mb, nsK T.b, T.builtins⟩, let ⟨mc, h1, h2⟩ := T.nolimit; ⟨mc, nsK h1, h2⟩⟩
  have hTab : TabsK K mg (hidT s₁.heap H) H := by
   refine ⟨?_, fun y c P' hy ht => ?_⟩
   · obtain ⟨bm, ob, b1, b2, b3, b4, b5, b6⟩ := T.bmain
     exact ⟨bm, ob, b1, b2, base_of b3 (fun _ _ z => by rw [b6] at z; cases z) (fun z => by rw [b6] at z; cases z), b4, b5, b6⟩
   · have hm := hT.get hy ht
     refine ⟨?_, hP _ hm⟩
     obtain ⟨o, ws, file, tf', flags, tg, inF, text, tt, e1, r1, r2, r3, rest⟩ := (tf _ hm).1
     refine ⟨o, ws, file, tf', flags, tg, inF, text, tt, base_of e1 (fun _ _ z => by rw [r2] at z; cases z) (fun z => ?_), r1, r2, r3, rest⟩
     rw [r2] at z
     cases z
     cases r3
  have e0 : Env0 P w K mg (hidT s₁.heap H) callerA [] s₁ H := ⟨rfl, hM, fun b o e => of_hidT e, ⟨Nat.le_of_eq (hidT_size _ _), hTab⟩, trivial, fun b hb => absurd (show b ∈ ([] : List Addr) from hb) (by simp), hok, .of_eq hg⟩
  refine codeAny_mono ((F _ hKb (nsK T.g)).run callerA [] s₁ H ⟨[.ref a], []⟩ [.ref a] [.ref a] _ _ hr e0 (hbind s₁ (.ref a)) (.cons rfl .nil) (hsp H hS)) fun r s' h => ?_
  cases r with
  | error e => exact False.elim h
  | ok fl =>
    cases fl with
    | next => exact False.elim h
    | brk => exact False.elim h
    | cont => exact False.elim h
    | ret u =>
      obtain ⟨v, H', os, bare, un, hok', r', hv⟩ := h
      have hv' := hv
      subst hv'
      obtain rfl : u = Value.bool true := r'
      refine ⟨rfl, ⟨fun b o e => ?_, fun b o e => un.there b o e (by simp)⟩, os, bare⟩
      cases qb : H b with
      | none => exact .inl (un.keep b o e qb (by intro z; exact absurd (show b ∈ ([] : List Addr) from z) (by simp)) (by simp))
      | some u =>
        rcases hA b u qb with ⟨_, _, ob, xs, rfl⟩ | ⟨p, hp, rfl, rfl⟩
        · obtain ⟨e1, _⟩ := hok b _ qb
          obtain ⟨e2, _⟩ := hok' b _ (un.frzs b ob _ qb)
          rw [e] at e1; cases e1
          exact .inl e2
        · have t2 := (tf p hp).2
          rw [e] at t2
          cases t2
          obtain ⟨ps, e2, _⟩ := hok' _ _ (un.tbls _ _ qb)
          exact .inr (.inl ⟨((tf p hp).1.tab (tf p hp).2).isCodeTable, rfl, #[], ps, rfl, by rw [Array.empty_append]; exact e2⟩)
 have tabOk : ∀ (H : Hp) (p : Str × Addr × Addr), p ∈ tl -> ObjOk P w H s₁.heap p.2.2 (.tbl (innerQ K p.1)) := fun H p hp => ⟨#[], (tf p hp).2, trivial, fun pos v z => by cases z⟩
 cases hk : K.lookup a with
 | some o =>
   have e := KX a o hk
   rw [ha] at e
   cases e
   refine core (tabH K tl) (.inr ⟨_, vs.toArray, _, hk, rfl, rfl, rfl, by rw [List.size_toArray, hi.length]; exact hl, by simpa using rv⟩) (fun b u z => ?_) (fun b u z => .inr (vX z)) fun p hp => hT.at p hp
   obtain ⟨p, hp, rfl, rfl⟩ := vX z
   exact tabOk _ p hp
 | none =>
   have na : ∀ p ∈ tl, p.2.2 ≠ a := fun p hp z => by
    have := (tf p hp).2
    rw [z, ha] at this; cases this
   refine core (upd (tabH K tl) a (.frz { cls := .type "list", data := .seq vs.toArray } (.lst (ns.map V.int)))) (.inl (.inr ⟨_, zS⟩)) (fun b u z => ?_) (fun b u z => ?_) fun p hp => by rw [upd_ne (na p hp)]; exact hT.at p hp
   · by_cases hb : b = a
     · subst hb
       rw [zS] at z
       cases z
       exact ⟨ha, by rw [List.length_map]; exact hl, vs, _, rv, ha⟩
     · rw [upd_ne hb] at z
       obtain ⟨p, hp, rfl, rfl⟩ := vX z
       exact tabOk _ p hp
   · by_cases hb : b = a
     · subst hb
       rw [zS] at z
       cases z
       exact .inl ⟨rfl, hk, _, _, rfl⟩
     · rw [upd_ne hb] at z
       exact .inr (vX z)
theorem walkB {l : PySem.W.OpenLaw} {K : Params -> PySem.W.Frag} (hn : l.most = some 63) (hdf : d.params.defaults = []) (hr : Room k callerA)
  (hY : ∀ w h, YP w h -> (K w.params).In h /\ ∀ P ∈ ts, h.get? P = some (PySem.W.tabObj #[])) (hK : ∀ w : World, PySem.W.noTabs (K w.params) = true) (hT : ∀ w : World, TabL (K w.params) q ts makers tl)
  (F : ∀ w mg fa h, (K w.params).In h -> h.Ns mainGlobals mg -> mg d.name = some (.ref fa) →
    ∃ fd, (∀ s u, BindsTo s fd ⟨[u], []⟩ [("_law_script", u)]) /\ ∀ base, (K w.params).In base -> base.Ns mainGlobals mg -> FnOk l.prog w (K w.params) mg base CX0 k fa fd ["_law_script"] (spLawB (K w.params) 63)) :
  PySem.W.WalkO q loose XP YP l.row.toRowW d [] (fun f vs => PySem.call f vs) := by
 refine Att.attach_callB hn hdf fun w s₀ s₁ mg mb fa o pm cd doc a vs ns G Y ho hd hcd hmg hobj hints hlen hb hg => ?_
 obtain ⟨KX, KT⟩ := hY w _ Y
 obtain ⟨fd, hbd, hF⟩ := F w mg fa _ KX G.T.g hmg
 exact law_callT KX G.T KT (hT w) (hK w) hg hobj hints (Nat.le_trans hlen (by decide)) hr hF hbd fun H hS => ⟨a, ns, rfl, hS, hlen, hb, fun _ => rfl⟩
structure Cal (P : Program) (w : World) (K : Frag) (mg : Str -> Option Value) (base : Heap) (x : Str) (k n : Nat) (F : List D -> Option Ret) : Prop where
 ex : ∃ (f : Addr) (fd : FuncData) (ps : List Str), FnOk P w K mg base CX0 k f fd ps (spF K n F) /\ Binds K fd ps [] /\ PySem.W.keepIn K (.ref f) = true /\ mg x = some (.ref f)
section
section
theorem zT (C : Cal X.prog X.w X.K X.mg X.base x k n F) (hr : Room j X.A) (ha : PAn X (e :: es) g) (hj : k <= j := by decide)
  (hg : Gl X x := by rfl) (hdb : (x == ("__debug__" : Str)) = false := by decide) (he : starEach (e :: es) X.env = (false, eval e X.env) :: starEach es X.env := by rfl) (hpl : (backTo pos (starEach es X.env)).any (·.1) = false := by rfl) :
  PV X (.Call (.Name x p) (e :: es) [] pos) (qK n F g) := by
 obtain ⟨f, fd, ps, Fn, hb, hk, hm⟩ := C.ex
 exact pv_callN Fn (hr.mono hj) hm hk hb ha hg hdb he hpl
theorem jU (C : Cal X.prog X.w X.K X.mg X.base x k n F) (hr : Room j X.A) (ha : PAn X (e :: es) g) (hj : k <= j := by decide)
  (hg : Gl X x := by rfl) (hdb : (x == ("__debug__" : Str)) = false := by decide) (he : starEach (e :: es) X.env = (false, eval e X.env) :: starEach es X.env := by rfl) (hpl : (backTo pos (starEach es X.env)).any (·.1) = false := by rfl) :
  PVf X (.Call (.Name x p) (e :: es) [] pos) (wQ n F g) := by
 obtain ⟨f, fd, ps, Fn, hb, hk, hm⟩ := C.ex
 exact pvf_callN Fn (hr.mono hj) hm hk hb ha hg hdb he hpl
end
end
section
theorem pv_lt (ha : PVw X a fa) (hb : PVw X b fb) : PV X (.Compare a [.Lt] [b] pos) (zI ltD fa fb) := pv_cmp op_lt vL ha hb (nomark _)
theorem pv_le (ha : PVw X a fa) (hb : PVw X b fb) : PV X (.Compare a [.LtE] [b] pos) (zI leD fa fb) := pv_cmp op_le vL ha hb (nomark _)
theorem pt_lt (ha : PVw X a fa) (hb : PVw X b fb) : PTv X (.Compare a [.Lt] [b] pos) (zU (zI ltD fa fb)) := pt_cmpV op_lt vL ha hb (nomark _)
theorem pt_gt (ha : PVw X a fa) (hb : PVw X b fb) : PTv X (.Compare a [.Gt] [b] pos) (zU (zI gtD fa fb)) := pt_cmpV op_gt vL ha hb (nomark _)
theorem qF (ha : PVw X a fa) (hb : PVw X b fb) : PV X (.BinOp a .Add b pos) (zI yD fa fb) := vD op_addU os_add ha hb
theorem jN (ha : PVw X a fa) (hb : PVw X b fb) : PV X (.BinOp a .Sub b pos) (zI subD fa fb) := vD op_sub os_sub ha hb
theorem jP (ha : PVw X a fa) (hb : PVw X b fb) : PV X (.BinOp a .Mult b pos) (zI xF fa fb) := vD op_mulB os_mul ha hb
theorem jO (ha : PVw X a fa) (hb : PVw X b fb) : PV X (.BinOp a .Pow b pos) (zI powD fa fb) := vD op_powB os_pow ha hb
theorem zZ (ha : PVw X a fa) (hb : PVw X b fb) : PV X (.BinOp a .Mod b pos) (zI qX fa fb) := vD op_mod os_mod ha hb
theorem qR (ha : PVw X a fa) (hb : PVw X b fb) : PV X (.BinOp a .FloorDiv b pos) (zI qP fa fb) := vD op_fdivB os_fdiv ha hb
end
end FL
namespace L2
open PySem PySem.Spec PyProof.Rows
section
theorem pi_seq (hl : PE X l tl) : PI X tg l (fun σ H R => iList X.K tl σ H R \/ iTup X.K tl σ H R) := by
 intro pins s σ H R I h
 rcases h with h | h
 · exact pi_list hl pins s σ H R I h
 · exact pi_tup hl pins s σ H R I h
end
end L2
namespace FL
open PySem PySem.Spec PyProof.Rows L2
section
theorem yB (h : PV X e f) : PIv X tg e (viaA f asLT) := by
 obtain ⟨t, ht, hf⟩ := h
 refine ⟨_, pi_seq ht, fun H₀ H O σ ds hd items R o e q => ?_⟩
 obtain ⟨d, h1, e⟩ := bnd e
 cases d with
 | lst l =>
   cases e
   refine .inl (hf H₀ H O σ ds hd _ _ o h1 fun v H' s r => ?_)
   obtain ⟨a, xs, rfl, hs, rs⟩ := WRep.seqL (.inl r)
   exact ⟨a, rfl, ⟨xs, hs⟩, q _ (.ref a, .lst items) H' s r wlk_list⟩
 | tup l =>
   cases e
   refine .inr (hf H₀ H O σ ds hd _ _ o h1 fun v H' s r => ?_)
   obtain ⟨a, xs, rfl, hs, rs⟩ := WRep.seqT (.inl r)
   exact ⟨a, rfl, ⟨xs, hs⟩, q _ (.ref a, .tup items) H' s r wlk_tup⟩
 | _ => cases e
end
end FL
namespace L2
open PySem PySem.Spec PyProof.Rows
section
variable {X : Cx} {tg : Expr}
noncomputable def Itv (K : PySem.W.Frag) (a : Addr) (n : Nat) : It :=
 ⟨fun i H => ∃ xs x, SqL K H a xs /\ xs.length = n /\ i < n /\ xs[n - 1 - i]? = some x, fun i H x H' => H' = H /\ ∀ xs, SqL K H a xs -> xs[n - 1 - i]? = some x, fun i _ => i = n⟩
theorem turn_rev {P : Program} {w : World} {K : PySem.W.Frag} {tg : Expr} (a it : Addr) (n : Nat) : Turn P w K tg (Itv K a n) [it] it (fun i h => i <= n /\ h.IsRevIter it a ((n : Int) - 1 - (i : Int))) where
 mem := by simp
 obj := fun i h st b hb => by
  have e : b = it := by simpa using hb
  subst e
  obtain ⟨_, o, e, c, d⟩ := st
  exact ⟨o, e, fun v z => by rw [d] at z; cases z⟩
 keep := fun i h h' st k => ⟨st.1, st.2.at fun o e => k it (by simp) o e⟩
 item := by
  intro X hP hw hK hc i pins s σ H E I hf st hg
  subst hP hw hK
  obtain ⟨xs, x, hq, hn, hi, hx⟩ := hg
  obtain ⟨its, rv, p, hz⟩ := I.list hq
  obtain ⟨u, hu, ru⟩ := rv.get hx
  obtain ⟨f0, f1, f2, f3, f4, f5⟩ := hf it (by simp)
  have e : (n : Int) - 1 - (i : Int) = ((n - 1 - i : Nat) : Int) := by lia
  have hit := st.2
  rw [e] at hit
  refine wpAny_pyNext_rev_item hit p.isList (by simpa using hu) fun h' st' sb => ?_
  have I1 := I.turned (t' := s.toks) (fun b o hb e => (sb.2 b hb).trans e) f0 f1 f3 f4 f5
  have e2 : ((n - 1 - i : Nat) : Int) - 1 = (n : Int) - 1 - ((i + 1 : Nat) : Int) := by lia
  rw [e2] at st'
  obtain ⟨o, eo, co, d⟩ := id st'
  exact ⟨u, rfl, go_of eo co d (by decide) ⟨x, H, I1, ru, ⟨rfl, fun ys hy => by rw [I.list_inj hy hq]; exact hx⟩, ⟨hi, st'⟩, fun b hb => (hf b hb).1⟩⟩
 done := by
  intro X hP hw hK hc i pins s σ H E I hf st hg
  have hg' := hg
  subst hg'
  obtain ⟨f0, f1, f2, f3, f4, f5⟩ := hf it (by simp)
  have e : (i : Int) - 1 - (i : Int) = -1 := by lia
  have hit := st.2
  rw [e] at hit
  exact wpAny_pyNext_rev_end (I.ok.hd hc) hit fun h' eb => ⟨rfl, I.turned (fun b o hb e => eb b o hb e) f0 f1 f3 f4 f5⟩
 self := fun _ _ _ _ _ st h => wpAny_pyIter_revIter st.2 h
def iRev (K : PySem.W.Frag) (ta : TA) : TI := fun σ H R => ta σ H fun vs H1 => ∃ a xs, vs = [.ref a] /\ SqL K H1 a xs /\ R (Itv K a xs.length) H1
theorem pi_rev (hg : Gl X "reversed") (hm : X.mg "reversed" = none) (ha : PA X [l] ta) (hs : starEach [l] X.env = [(false, eval l X.env)] := by rfl) : PI X tg (.Call (.Name "reversed" p) [l] [] pos) (iRev X.K ta) := by
 intro pins s σ H R I h
 refine Call_ (kF I hg hm (show bootBuiltins "reversed" = some (.type "reversed") by decide +kernel) (PyProof.Rows.callWith_type1 (thn (ha pos pins s σ H _ I h) fun us s1 zq => ?_) hs rfl))
 obtain ⟨vs, H1, I1, r1, q1⟩ := zq
 obtain ⟨a, xs, e, hq, q⟩ := q1
 subst e
 obtain ⟨u, rfl, ru⟩ := vals1 r1
 cases ru
 obtain ⟨its, rv, pl, hz⟩ := I1.list hq
 have hlen := rv.length
 refine call_reversed_list pl.isList ?_
 have hst : Heap.IsRevIter (s1.heap.push (revObj a ((its.toArray.size : Int) - 1))) s1.heap.objs.size a ((its.toArray.size : Int) - 1) := ⟨_, Heap.get?_push_size _ rfl, rfl, rfl⟩
 refine wpAny_pyIter_revIter hst ?_
 refine ⟨s1.heap.objs.size, [s1.heap.objs.size], _, _, H1, rfl, I1.kept fun b o e => Heap.get?_push_of_some _ e, turn_rev a _ xs.length, ⟨Nat.zero_le _, ?_⟩, fun b hb => ?_, q⟩
 · have e1 : ((its.toArray.size : Nat) : Int) - 1 = (xs.length : Int) - 1 - ((0 : Nat) : Int) := by simp [List.size_toArray]; lia
   rw [<- e1]
   exact hst
 · have e : b = s1.heap.objs.size := by simpa using hb
   subst e
   exact I1.fpOk (Nat.le_refl _) (I1.hok.fresh (Nat.le_refl _))
end
end L2
namespace FL
open PySem PySem.Spec PyProof.Rows L2
section
theorem wlk_rev {K : Frag} : Wlk K (Itv K a l.length) (.ref a, .lst l) l.reverse := by
 intro H O _ r
 obtain ⟨b, xs, e, hs, rs⟩ := WRep.seqL (.inl r)
 cases e
 have hlen := rs.length
 refine ⟨fun i d hd => ?_, show _ = l.length from List.length_reverse⟩
 have hi : i < l.length := by
  have := (List.getElem?_eq_some_iff.mp hd).1
  rwa [List.length_reverse] at this
 rw [List.getElem?_reverse hi] at hd
 obtain ⟨v, h1, h2⟩ := rs.get hd
 refine ⟨⟨xs, v, hs, hlen, hi, h1⟩, fun x H' y => ?_⟩
 obtain ⟨rfl, y⟩ := y
 have := y xs hs
 rw [h1] at this; cases this
 exact ⟨Same.refl _, h2⟩
theorem piv_rev (hc : True) (hm : X.mg "reversed" = none) (h : PV X e f) (hg : Gl X "reversed" := by rfl) (hs : starEach [e] X.env = [(false, eval e X.env)] := by rfl) : PIv X tg (.Call (.Name "reversed" p) [e] [] pos) (revA f) := by
 obtain ⟨t, ht, hf⟩ := zC h zL hs
 refine ⟨_, pi_rev hg hm ht hs, fun H₀ H O σ ds hd items R o e q => ?_⟩
 obtain ⟨d, h1, e⟩ := bnd e
 cases d <;> first | (cases e; done) | skip
 rename_i l
 cases e
 refine hf H₀ H O σ ds hd [.lst l] _ o (by simp [zB, h1, zQ]) fun vs H' s r => ?_
 cases r with
 | cons r1 rr =>
   cases rr
   obtain ⟨a, xs, rfl, hq, rs⟩ := WRep.seqL (.inl r1)
   refine ⟨a, xs, rfl, hq, ?_⟩
   rw [rs.length]
   exact q _ (.ref a, .lst l) H' s r1 wlk_rev
end
end FL
namespace L2
open PySem PySem.Spec PyProof.Rows
section
theorem Inv.turnedS {ch : List Addr} (I : Inv X pins σ H s) (k : ∀ b o, b ∉ ch -> s.heap.get? b = some o -> h'.get? b = some o) (hf : ∀ b ∈ ch, FpOk X pins H b) : Inv X pins σ H { s with heap := h', toks := t' } := by
 have nit : ∀ b u, H b = some u -> b ∉ ch := fun b u e z => by rw [(hf b z).1] at e; cases e
 refine I.step (fun b hb => ?_) (fun b o _ _ hc e _ => k b o hc e) (fun b o _ _ hc e _ => ⟨o.slots, k b o hc e⟩) (fun _ _ _ _ n => n)
  (fun b o hc e => ⟨o, k b o hc e⟩) (fun _ _ e => e) (fun _ _ _ e => e) (fun _ _ e => e) (fun m hm => ?_) (fun b u e => ?_) I.bare
 · obtain ⟨f0, f1, f2, f3, f4, f5⟩ := hf b hb
   exact ⟨f3, f1, f4, f5⟩
 · obtain ⟨o, es, ep, ho, r⟩ := hm
   exact ⟨o, es, ep, k _ o (fun z => (hf _ z).2.1 rfl) ho, r⟩
 · refine (I.hok b u e).stay (fun c v hc q => k c v ?_ q) (fun _ q => q) fun _ _ q => q
   rcases hc with z | z
   · rw [z]; exact nit b u e
   · exact nit c _ z
end
section
end
end L2
namespace FL
open PySem PySem.Spec PyProof.Rows L2
section
variable {X : Cx}
section
end
end
end FL
namespace L2
open PySem PySem.Spec PyProof.Rows
section
variable {X : Cx}
end
end L2
namespace FL
open PySem PySem.Spec PyProof.Rows L2
section
variable {X : Cx}
end
section
variable {X : Cx}
end
section
variable {X : Cx}
end
end FL
namespace L2
open PySem PySem.Spec PyProof.Rows
section
end
end L2
namespace FL
open PySem PySem.Spec PyProof.Rows L2
section
end
end FL
namespace L2
open PySem PySem.Spec PyProof.Rows
section
variable {X : Cx}
def tMethD (X : Cx) (m : Str) (k : Nat) (ta : TE) (t : TA) : TE := fun σ H Q => ta σ H fun x H1 => ∃ (a C dx : Addr) (fs : List (Str × V)) (f : Addr) (fd : FuncData) (ps : List Str) (sp : Sp), x = .ref a /\ H1 a = some (.ins C dx fs) /\ fs.lookup m = none ∧
 Cls X.K C /\ Meth X.K C m f /\ FnOk X.prog X.w X.K X.mg X.base CX0 k f fd ps sp /\ Binds X.K fd ps [] /\ t σ H1 fun vs H2 => sp (x :: vs) H2 Q E0
theorem kE (he : PE X o ta) (hr : Room k X.A) (ha : PA X (e :: es) t)
  (hst : starEach (e :: es) X.env = (false, eval e X.env) :: starEach es X.env := by rfl) (hpl : (backTo pos (starEach es X.env)).any (·.1) = false := by rfl)
  (ht : eval (.Call (.Attribute o m apos) (e :: es) [] pos) X.env = (do
    let ov <- eval o X.env
    standAt apos.atName
    let (f, first) <- holding [ov] (getMethod ov m pl)
    callWith pos f first (backTo pos (starEach (e :: es) X.env)) (backToKw pos (keywordEach [] X.env))) := by rfl) :
  PE X (.Call (.Attribute o m apos) (e :: es) [] pos) (tMethD X m k ta t) := by
 intro pins s σ H Q I h
 refine PySem.W.methodCall_KW (thn (he pins s σ H _ I h) fun u s1 zq => ?_) ht
 obtain ⟨x, H1, I1, rx, a, C, dx, fs, f, fd, ps, sp, ex, ea, l, c, hm, F, hb, q⟩ := zq
 subst ex
 obtain rfl : u = Value.ref a := rx
 refine getmeth_ok I1 ea c hm l ?_
 refine PySem.W.callWith_K I.ok.mod.kin hm.kp (thn (ha pos pins s1 σ H1 _ I1 q) fun us s2 ⟨vs, H2, I2, r, q2⟩ => ⟨I2.kIn, ?_⟩) hst hpl
 exact run_fn (vs := .ref a :: vs) F hr hb .nil pass0 I2 (.cons rfl r) (by simpa using q2)
theorem pe_methD0 (he : PE X o ta) (hr : Room k X.A)
  (ht : eval (.Call (.Attribute o m apos) [] [] pos) X.env = (do
    let ov <- eval o X.env
    standAt apos.atName
    let (f, first) <- holding [ov] (getMethod ov m pl)
    callWith pos f first (backTo pos (starEach [] X.env)) (backToKw pos (keywordEach [] X.env))) := by rfl) :
  PE X (.Call (.Attribute o m apos) [] [] pos) (tMethD X m k ta tNil) := by
 intro pins s σ H Q I h
 refine PySem.W.methodCall_KW (thn (he pins s σ H _ I h) fun u s1 zq => ?_) ht
 obtain ⟨x, H1, I1, rx, a, C, dx, fs, f, fd, ps, sp, ex, ea, l, c, hm, F, hb, q⟩ := zq
 subst ex
 obtain rfl : u = Value.ref a := rx
 refine getmeth_ok I1 ea c hm l ?_
 exact PySem.W.callWith_K0 I1.kIn hm.kp (run_fn (vs := [.ref a]) F hr hb .nil pass0 I1 (.cons rfl .nil) q)
structure Sup (K : PySem.W.Frag) (C : Addr) (m : Str) (f : Addr) : Prop where
 ex : ∃ mc, PySem.W.specialIn K (.ref C) "__getattribute__" = some (some (.builtin "type.__getattribute__")) /\ PySem.W.readsIn K C mc = true /\ PySem.W.findCls K (.ref C) mc m = some (.val (.ref f)) /\ PySem.W.keepIn K (.ref f) = true
theorem pe_sup (hg : Gl X x) (hmg : X.mg x = some (.ref C)) (hs : Sup X.K C m f)
  (F : FnOk X.prog X.w X.K X.mg X.base CX0 k f fd ps sp) (hr : Room k X.A) (hb : Binds X.K fd ps []) (ha : PA X (e :: es) t) (hdb : (x == ("__debug__" : Str)) = false := by decide)
  (hst : starEach (e :: es) X.env = (false, eval e X.env) :: starEach es X.env := by rfl) (hpl : (backTo pos (starEach es X.env)).any (·.1) = false := by rfl)
  (ht : eval (.Call (.Attribute (.Name x p) m apos) (e :: es) [] pos) X.env = (do
    let ov <- eval (.Name x p) X.env
    standAt apos.atName
    let (f, first) <- holding [ov] (getMethod ov m pl)
    callWith pos f first (backTo pos (starEach (e :: es) X.env)) (backToKw pos (keywordEach [] X.env))) := by rfl) :
  PE X (.Call (.Attribute (.Name x p) m apos) (e :: es) [] pos) (fun σ H Q => t σ H fun vs H2 => sp vs H2 Q E0) := by
 intro pins s σ H Q I h
 obtain ⟨mc, h1, h2, h3, h4⟩ := hs.ex
 refine PySem.W.methodCall_KW (wP I hg hmg ?_ hdb) ht
 refine PySem.W.method_cls I.kIn h1 (PySem.W.cls_value I.kIn h2 h3 rfl ?_)
 have I' := I.tok (s.toks + 1)
 refine PySem.W.callWith_K I.ok.mod.kin h4 (thn (ha pos pins _ σ H _ I' h) fun us s2 ⟨vs, H2, I2, r, q2⟩ => ⟨I2.kIn, ?_⟩) hst hpl
 exact run_fn F hr hb .nil pass0 I2 r (by simpa using q2)
end
end L2
namespace FL
open PySem PySem.Spec PyProof.Rows L2
section
theorem PVd.v (h : PVd X e f) : PV X e f := by
 obtain ⟨t, ht, hf⟩ := h
 exact ⟨t, ht, fun H₀ H O σ ds hd d Q o e q => hf H₀ H O σ ds hd d Q o e fun v H' s r => q v H' s (r.less fun a z => o.old z)⟩
def FldOk (K : Frag) (f : Str) (ix : List (Nat × Nat)) : Prop := ∀ t i, ix.lookup t = some i -> (clsFlds t)[i]? = some f /\ (∀ j, j < i -> (clsFlds t)[j]? ≠ some f) /\ ∀ C, PySem.W.nsIn K mainGlobals (clsName t) = some (some (.ref C)) -> Cls K C /\ NoAttr K C f
theorem jE {K : Frag} : FldOk K f [] := fun t i h => by simp at h
theorem fldOk_cons {K : Frag} (a : PySem.W.nsIn K mainGlobals (clsName t) = some (some (.ref C))) (c : Cls K C) (n : NoAttr K C f) (h1 : (clsFlds t)[i]? = some f) (h2 : ∀ j, j < i -> (clsFlds t)[j]? ≠ some f)
  (h : FldOk K f ix) : FldOk K f ((t, i) :: ix) := by
 intro t' i' e
 by_cases q : t' = t
 · subst q
   simp at e
   subst e
   refine ⟨h1, h2, fun C' e' => ?_⟩
   rw [a] at e'
   cases e'
   exact ⟨c, n⟩
 · have : (t' == t) = false := by simpa using q
   rw [List.lookup_cons, this] at e
   exact h t' i' e
theorem wC : ∀ {kvs : List (Str × V)} {i : Nat} {v : V}, (kvs.map (·.1))[i]? = some f -> (∀ j, j < i -> (kvs.map (·.1))[j]? ≠ some f) -> (kvs.map (·.2))[i]? = some v -> kvs.lookup f = some v
 | [], _, _, h, _, _ => by simp at h
 | (g, x) :: r, 0, v, h1, _, h3 => by
   simp at h1 h3
   subst h1 h3
   simp [List.lookup]
 | (g, x) :: r, i + 1, v, h1, h2, h3 => by
   have hg : g ≠ f := fun z => h2 0 (by omega) (by simp [z])
   have : (f == g) = false := by simpa using fun z => hg z.symm
   rw [List.lookup_cons, this]
   exact wC (i := i) (by simpa using h1) (fun j hj => by have := h2 (j + 1) (by omega); simpa using this) (by simpa using h3)
theorem qZ (hF : FldOk X.K f ix) (he : PV X e fe) (hb : attributeBase e f X.env (eval e X.env) = eval e X.env := by rfl) : PV X (.Attribute e f pos) (fldG ix fe) := by
 obtain ⟨t, ht, hf⟩ := he
 refine ⟨_, pe_fld ht hb, fun H₀ H O σ ds hd d Q o e q => ?_⟩
 obtain ⟨x, h, e⟩ := bnd e
 refine hf H₀ H O σ ds hd x _ o h fun v H1 s1 r1 => ?_
 cases x with
 | ins t es =>
   obtain ⟨i, hl, e⟩ := bnd e
   obtain ⟨h1, h2, h3⟩ := hF t i hl
   cases r1 with
   | @ins a C dx _ kvs _ c n ha ek rr =>
     obtain ⟨cl, na⟩ := h3 C c
     obtain ⟨w, hw, rw'⟩ := rr.get e
     refine ⟨a, C, dx, kvs, w, rfl, ha, cl, na, wC (by rw [ek]; exact h1) (by rw [ek]; exact h2) hw, ?_⟩
     exact q w H1 s1 rw'
 | _ => simp [fldD] at e
structure MCal (P : Program) (w : World) (K : Frag) (mg : Str -> Option Value) (base : Heap) (m : Str) (k n : Nat) (cs : List Nat) (F : Nat -> List D -> Option Ret) : Prop where
 no : ∀ t ∈ cs, m ∉ clsFlds t
 of : ∀ t ∈ cs, ∀ C, PySem.W.nsIn K mainGlobals (clsName t) = some (some (.ref C)) -> ∃ (f : Addr) (fd : FuncData) (ps : List Str), Cls K C /\ Meth K C m f /\ FnOk P w K mg base CX0 k f fd ps (spF K (n + 1) (F t)) /\ Binds K fd ps []
theorem xP {K : Frag} : MCal P w K mg base m k n [] F := ⟨fun _ h => (nomatch h), fun _ h => (nomatch h)⟩
theorem mcal_cons {K : Frag} (a : PySem.W.nsIn K mainGlobals (clsName t) = some (some (.ref C)))
  (c : Cls K C) (hm : Meth K C m f) (G : FnOk P w K mg base CX0 j f fd ps (spF K (n + 1) (F t))) (hj : j <= k) (b : Binds K fd ps []) (hn : m ∉ clsFlds t) (h : MCal P w K mg base m k n cs F) : MCal P w K mg base m k n (t :: cs) F := by
 refine ⟨fun t' ht => (List.mem_cons.mp ht).elim (fun e => e ▸ hn) (h.no t'), fun t' ht C' e => ?_⟩
 rcases List.mem_cons.mp ht with rfl | ht
 · rw [a] at e
   cases e
   exact ⟨f, fd, ps, c, hm, G.mono hj, b⟩
 · exact h.of t' ht C' e
theorem yI : ∀ {kvs : List (Str × V)}, m ∉ kvs.map (·.1) -> kvs.lookup m = none
 | [], _ => rfl
 | (g, x) :: r, h => by
   have hg : (m == g) = false := by simpa using fun z => h (by simp [z])
   rw [List.lookup_cons, hg]
   exact yI fun z => h (by simp at z ⊢; exact .inr z)
theorem meth_sem (M : MCal X.prog X.w X.K X.mg X.base m k n cs F) {fo : FE} {g : FA}
  (hfo : ∀ H₀ H O σ ds hd d Q, Ok X.K H₀ H O σ ds hd -> fo ds = some d -> (∀ v H', Same H H' -> Rep X.K H' O v d -> Q v H') -> ta σ H Q)
  (hfg : ∀ H₀ H O σ ds hd l Q, Ok X.K H₀ H O σ ds hd -> g ds = some l -> (∀ vs H', Same H H' -> Reps X.K H' jH vs l -> Q vs H') -> t σ H Q)
  (o : Ok X.K H₀ H O σ ds hd) (h1 : fo ds = some x) (h2 : g ds = some l) (h3 : methR n cs F x l = some r)
  (q : ∀ v H1 H', Same H H1 -> Same H1 H' -> RetOk X.K H1 H' v r -> Q v H') : tMethD X m k ta t σ H Q := by
 refine hfo H₀ H O σ ds hd x _ o h1 fun v H1 s1 r1 => ?_
 cases x with
 | ins c es =>
   simp only [methR] at h3
   split at h3
   · rename_i hc
     cases r1 with
     | @ins a C dx _ kvs _ cc nn ha ek rr =>
       obtain ⟨f, fd, ps, cl, hm, Fn, hb⟩ := M.of c hc.1 C cc
       refine ⟨a, C, dx, kvs, f, fd, ps, _, rfl, ha, yI (by rw [ek]; exact M.no c hc.1), cl, hm, Fn, hb, ?_⟩
       refine hfg H₀ H1 O σ ds hd l _ (o.mono s1) h2 fun vs H2 s2 r2 => ?_
       have hl := r2.length
       have r1' : Rep X.K H2 jH (.ref a) (.ins c es) := (Rep.ins cc (fun z => z.elim) (s2 _ _ ha) ek ((rr.mono s2).less fun _ z => z.elim))
       exact ⟨by simp [List.length_cons]; lia, _, r, .cons r1' r2, h3, fun v H' s' ro => q v H2 H' (s1.trans s2) s' ro⟩
   · cases h3
 | _ => simp [methR] at h3
section
theorem xB (M : MCal X.prog X.w X.K X.mg X.base m k n cs F) (hr : Room j X.A) (ho : PV X o fo) (ha : PAn X (e :: es) g) (hj : k <= j := by decide)
  (hst : starEach (e :: es) X.env = (false, eval e X.env) :: starEach es X.env := by rfl) (hpl : (backTo pos (starEach es X.env)).any (·.1) = false := by rfl)
  (ht : eval (.Call (.Attribute o m apos) (e :: es) [] pos) X.env = (do
    let ov <- eval o X.env
    standAt apos.atName
    let (f, first) <- holding [ov] (getMethod ov m pl)
    callWith pos f first (backTo pos (starEach (e :: es) X.env)) (backToKw pos (keywordEach [] X.env))) := by rfl) : PV X (.Call (.Attribute o m apos) (e :: es) [] pos) (methV n cs F fo g) := by
 obtain ⟨ta, pa, hfo⟩ := ho
 obtain ⟨t, pt, hfg⟩ := ha
 refine ⟨_, kE pa (hr.mono hj) pt hst hpl ht, fun H₀ H O σ ds hd d Q o e q => ?_⟩
 obtain ⟨x, h1, e⟩ := bnd e
 obtain ⟨l, h2, e⟩ := bnd e
 obtain ⟨r, h3, e⟩ := bnd e
 refine meth_sem M hfo hfg o h1 h2 h3 fun v H1 H' s1 s' ro => q v H' (s1.trans s') ?_
 exact retV_ok ro e fun a ha => (o.mono s1).old ha
end
end
noncomputable def eH : Hp := fun _ => none
def Keepx (x : Addr) (H H' : Hp) : Prop := ∀ b o, b ≠ x -> H b = some o -> H' b = some o
theorem Keepx.trans (a : Keepx x H H1) (b : Keepx x H1 H2) : Keepx x H H2 := fun c o n e => b c o n (a c o n e)
theorem Keepx.of_same (s : Same H H1) : Keepx x H H1 := fun c o _ e => s c o e
section
variable {K : Frag} {H H' : Hp} {O : Addr -> Prop} {x : Addr}
theorem Keepx.rd (k : Keepx x H H') (hx : H x = some (.ins C dx kvs)) (h : Rd H a (.tup xs)) : Rd H' a (.tup xs) := by
 rcases h with h | ⟨o, h⟩
 · exact .inl (k _ _ (fun z => by rw [z, hx] at h; cases h) h)
 · exact .inr ⟨o, k _ _ (fun z => by rw [z, hx] at h; cases h) h⟩
mutual
theorem Rep.flatKeep {C dx : Addr} {kvs : List (Str × V)} (k : Keepx x H H') (hx : H x = some (.ins C dx kvs)) : ∀ {v : V} {d : D}, flat d = true -> Rep K H O v d -> Rep K H' O v d
 | _, _, _, .non => .non
 | _, _, _, .bl b => .bl b
 | _, _, _, .int i => .int i
 | _, _, _, .str y => .str y
 | _, _, f, .tup n h r => .tup n (k.rd hx h) (Reps.flatKeep k hx (by simpa [flat] using f) r)
 | _, _, f, .tupK h r => .tupK h (Reps.flatKeep k hx (by simpa [flat] using f) r)
 | _, _, f, .lst _ _ _ => by simp [flat] at f
 | _, _, f, .lstK _ _ => by simp [flat] at f
 | _, _, f, .dct _ _ _ _ => by simp [flat] at f
 | _, _, f, .dcf _ _ _ _ => by simp [flat] at f
 | _, _, f, .ins _ _ _ _ _ => by simp [flat] at f
 | _, _, f, .clo _ _ _ _ _ _ => by simp [flat] at f
 | _, _, f, .fnK _ => by simp [flat] at f
theorem Reps.flatKeep {C dx : Addr} {kvs : List (Str × V)} (k : Keepx x H H') (hx : H x = some (.ins C dx kvs)) : ∀ {vs : List V} {ds : List D}, flats ds = true -> Reps K H O vs ds -> Reps K H' O vs ds
 | _, _, _, .nil => .nil
 | _, _, f, .cons h t => by
   simp only [flats, Bool.and_eq_true] at f
   exact .cons (Rep.flatKeep k hx f.1 h) (Reps.flatKeep k hx f.2 t)
end
end
def FlatS (ds : List Sl) : Prop := ∀ i : Nat, ds[i]? = none \/ ds[i]? = some Sl.no \/ ∃ d, ds[i]? = some (Sl.v d) /\ flat d = true
noncomputable def putAll (kvs : List (Str × V)) (l : List (Str × V)) : List (Str × V) := l.foldl (fun k p => putF p.1 p.2 k) kvs
theorem putAll_append kvs l m : putAll kvs (l ++ m) = putAll (putAll kvs l) m := by simp [putAll]
theorem length_putAll : ∀ l kvs, (putAll kvs l).length <= kvs.length + l.length
 | [], kvs => by simp [putAll]
 | p :: r, kvs => by
   have h1 := length_putAll r (putF p.1 p.2 kvs)
   have h2 := xA p.1 p.2 kvs
   simp only [putAll, List.foldl_cons, List.length_cons] at h1 ⊢
   omega
theorem kD : ∀ {kvs : List (Str × V)}, f ∉ kvs.map (·.1) -> putF f v kvs = kvs ++ [(f, v)]
 | [], _ => rfl
 | (g, x) :: r, h => by
   have hg : ¬ g = f := fun z => h (by simp [z])
   rw [show putF f v ((g, x) :: r) = (if g = f then (g, v) :: r else (g, x) :: putF f v r) from rfl, if_neg hg, kD fun z => h (by simp at z ⊢; exact .inr z)]
   rfl
theorem putAll_new : ∀ {l kvs : List (Str × V)}, (kvs.map (·.1) ++ l.map (·.1)).Nodup -> putAll kvs l = kvs ++ l
 | [], kvs, _ => by simp [putAll]
 | p :: r, kvs, h => by
   have hp : p.1 ∉ kvs.map (·.1) := fun z => by
    rw [List.nodup_append] at h
    exact h.2.2 _ z _ (by simp) rfl
   have : putAll kvs (p :: r) = putAll (putF p.1 p.2 kvs) r := rfl
   rw [this, kD hp, putAll_new (by simpa [List.append_assoc] using h)]
   simp
theorem ok_flat {K : Frag} (o : Ok K eH H jH σ ds []) (f : FlatS ds) (k : Keepx x H H') (hx : H x = some (.ins C dx kvs)) : Ok K eH H' jH σ ds [] := by
 refine ⟨(fun b u e => by cases e), (fun i l a hi _ => by rcases f i with h | h | ⟨d, h, hf⟩ <;> rw [h] at hi <;> cases hi), fun _ z => z.elim, o.len, fun i s e => ?_, fun i j a _ ⟨l, hi⟩ _ _ _ => ?_, (fun p hp => by cases hp), .no fun i r t e => by rcases f i with h | h | ⟨d, h, hf⟩ <;> rw [h] at e <;> cases e⟩
 · rcases f i with h | h | ⟨d, h, hf⟩
   · rw [h] at e; cases e
   · rw [h] at e; cases e; exact qW
   · rw [h] at e; cases e
     obtain ⟨v, h1, h2⟩ := o.read h
     rw [h1]
     exact jT (h2.flatKeep k hx hf)
 · rcases f i with h | h | ⟨d, h, hf⟩ <;> rw [h] at hi <;> cases hi
noncomputable def spN (K : Frag) (n : Nat) (ns : List Str) (G : List D -> Option (List D)) : Sp := fun vs H Q _ => ∃ (x C dx : Addr) (kvs : List (Str × V)) (vs' : List V) (ds new : List D), vs = .ref x :: vs' /\ vs'.length = n /\ H x = some (.ins C dx kvs) /\ Cls K C ∧
 Reps K H jH vs' ds /\ flats ds = true /\ G ds = some new /\ (∀ f ∈ ns, NoAttr K C f) /\ kvs.length + ns.length < 1000 ∧
 ∀ ws H', Keepx x H H' -> H' x = some (.ins C dx (putAll kvs (ns.zip ws))) -> Reps K H' jH ws new -> new.length = ns.length -> flats new = true -> Q .non H'
section
variable {X : Cx}
variable (X) in
def PIs (st : List Stmt) (ns : List Str) (g : FN) : Prop := ∃ t, PSs X st t /\ ∀ H σ ds x C dx kvs new E, Ok X.K eH H jH σ ds [] -> FlatS ds -> σ[0]? = some (some (.ref x)) -> H x = some (.ins C dx kvs) -> Cls X.K C -> g ds = some new -> flats new = true →
 (∀ f ∈ ns, NoAttr X.K C f) -> kvs.length + ns.length < 1000 -> (∀ ws H', Keepx x H H' -> H' x = some (.ins C dx (putAll kvs (ns.zip ws))) -> Reps X.K H' jH ws new -> new.length = ns.length -> E.nx σ H') -> t E σ H
variable (X) in
def PI1 (st : Stmt) (ns : List Str) (g : FN) : Prop := ∃ t, PS X st t /\ ∀ H σ ds x C dx kvs new E, Ok X.K eH H jH σ ds [] -> FlatS ds -> σ[0]? = some (some (.ref x)) -> H x = some (.ins C dx kvs) -> Cls X.K C -> g ds = some new -> flats new = true →
 (∀ f ∈ ns, NoAttr X.K C f) -> kvs.length + ns.length < 1000 -> (∀ ws H', Keepx x H H' -> H' x = some (.ins C dx (putAll kvs (ns.zip ws))) -> Reps X.K H' jH ws new -> new.length = ns.length -> E.nx σ H') -> t E σ H
theorem xW {st : Stmt} (h : PI1 X st ns g) : PIs X [st] ns g := by
 obtain ⟨t, ht, hf⟩ := h
 exact ⟨_, kA ht, hf⟩
theorem flats_append : ∀ {a b : List D}, flats (a ++ b) = true -> flats a = true /\ flats b = true
 | [], b, h => ⟨rfl, h⟩
 | d :: r, b, h => by
   simp only [List.cons_append, flats, Bool.and_eq_true] at h ⊢
   have := flats_append h.2
   exact ⟨⟨h.1, this.1⟩, this.2⟩
theorem jJ {st : Stmt} {rest : List Stmt} (h1 : PI1 X st ns f) (h2 : PIs X rest ms g) (el : l = ns ++ ms := by rfl) : PIs X (st :: rest) l (seqN f g) := by
 subst el
 obtain ⟨t, ht, hf⟩ := h1
 obtain ⟨u, hu, hg⟩ := h2
 refine ⟨_, xT ht hu, fun H σ ds x C dx kvs new E o fl h0 hx cl e hfl hn hk q => ?_⟩
 obtain ⟨a, e1, e⟩ := bnd e
 obtain ⟨b, e2, rfl⟩ := mpd e
 obtain ⟨fa, fb⟩ := flats_append hfl
 simp [List.length_append] at hk
 refine hf H σ ds x C dx kvs a _ o fl h0 hx cl e1 fa (fun f hf => hn f (by simp [hf])) (by lia) fun ws1 H1 k1 x1 r1 l1 => ?_
 have hz : (ns.zip ws1).length <= ns.length := by rw [List.length_zip]; lia
 have hkl := length_putAll (ns.zip ws1) kvs
 refine hg H1 σ ds x C dx _ b _ (ok_flat o fl k1 hx) fl h0 x1 cl e2 fb (fun f hf => hn f (by simp [hf])) (by lia) fun ws2 H2 k2 x2 r2 l2 => ?_
 refine q (ws1 ++ ws2) H2 (k1.trans k2) ?_ ((r1.flatKeep k2 x1 fa).append r2) (by simp; lia)
 have hl : ns.length = ws1.length := by rw [r1.length]; exact l1.symm
 rw [List.zip_append hl, putAll_append]
 exact x2
theorem yZ (he : PV X e fe) (hN : X.N[0]? = some y := by rfl) (hv : Vis X.env.scope y := by first | exact Or.inl rfl | exact Or.inr (Or.inl rfl) | exact Or.inr (Or.inr rfl)) (hd : (y == ("__debug__" : Str)) = false := by decide)
  (hcd : (y == ("__classdict__" : Str)) = false := by decide) (hs : swapsWith e (some (.Attribute (.Name y p) f pos')) pos.line X.env = pure false := by rfl) : PI1 X (.Assign [.Attribute (.Name y p) f pos'] e pos) [f] (fldN fe) := by
 obtain ⟨t, ht, hf⟩ := he
 refine ⟨_, ps_fld (jZ hN hv hd hcd) ht hs, fun H σ ds x C dx kvs new E o fl h0 hx cl e hfl hn hk q => ?_⟩
 obtain ⟨d, e1, e⟩ := bnd e
 split at e
 · rename_i hd1
   cases e
   refine hf eH H jH σ ds [] d _ o e1 fun v H1 s1 r1 => ?_
   refine ⟨.ref x, h0, x, C, dx, kvs, rfl, s1 _ _ hx, cl, hn f (by simp), by lia, ?_⟩
   have k2 : Keepx x H1 (upd H1 x (.ins C dx (putF f v kvs))) := fun b u hb e => by rw [upd_ne hb]; exact e
   exact q [v] _ ((Keepx.of_same s1).trans k2) zS (.cons (r1.flatKeep k2 (s1 _ _ hx) hd1) .nil) rfl
 · cases e
theorem vG (he : PV X e fe) (hs : swapsWith e none pos.line X.env = pure false := by rfl) : PI1 X (.Expr e pos) [] (dropN fe) := by
 obtain ⟨t, ht, hf⟩ := he
 refine ⟨_, yR ht hs, fun H σ ds x C dx kvs new E o fl h0 hx cl e hfl hn hk q => ?_⟩
 obtain ⟨d, e1, rfl⟩ := mpd e
 exact hf eH H jH σ ds [] d _ o e1 fun v H1 s1 r1 => q [] H1 (.of_same s1) (s1 _ _ hx) .nil rfl
structure SCal (P : Program) (w : World) (K : Frag) (mg : Str -> Option Value) (base : Heap) (x : Str) (k : Nat) (ns : List Str) (G : List D -> Option (List D)) : Prop where
 ex : ∃ (C f : Addr) (fd : FuncData) (ps : List Str), mg x = some (.ref C) /\ Sup K C "__init__" f /\ FnOk P w K mg base CX0 k f fd ps (spN K 0 ns G) /\ Binds K fd ps []
theorem pi_sup (S : SCal X.prog X.w X.K X.mg X.base x k ns G) (hr : Room j X.A) (hj : k <= j := by decide) (hg : Gl X x := by rfl) (hN : X.N[0]? = some y := by rfl)
  (hv : Vis X.env.scope y := by first | exact Or.inl rfl | exact Or.inr (Or.inl rfl) | exact Or.inr (Or.inr rfl)) (hd : (y == ("__debug__" : Str)) = false := by decide) (hcd : (y == ("__classdict__" : Str)) = false := by decide) (hdb : (x == ("__debug__" : Str)) = false := by decide)
  (h1 : starEach [.Name y p1] X.env = (false, eval (.Name y p1) X.env) :: starEach [] X.env := by rfl) (hpl : (backTo pos (starEach [] X.env)).any (·.1) = false := by rfl)
  (hs : swapsWith (.Call (.Attribute (.Name x p) "__init__" apos) [.Name y p1] [] pos) none pos'.line X.env = pure false := by rfl)
  (ht : eval (.Call (.Attribute (.Name x p) "__init__" apos) [.Name y p1] [] pos) X.env = (do
    let ov <- eval (.Name x p) X.env
    standAt apos.atName
    let (f, first) <- holding [ov] (getMethod ov "__init__" pl)
    callWith pos f first (backTo pos (starEach [.Name y p1] X.env)) (backToKw pos (keywordEach [] X.env))) := by rfl) :
  PI1 X (.Expr (.Call (.Attribute (.Name x p) "__init__" apos) [.Name y p1] [] pos) pos') ns (supN G) := by
 obtain ⟨C0, f0, fd, ps, hmg, hsu, Fn, hb⟩ := S.ex
 refine ⟨_, yR (pe_sup hg hmg hsu Fn (hr.mono hj) hb (jC (jZ hN hv hd hcd) yF h1) hdb h1 hpl ht) hs, fun H σ ds x C dx kvs new E o fl h0 hx cl e hfl hn hk q => ?_⟩
 refine ⟨.ref x, h0, x, C, dx, kvs, [], [], new, rfl, rfl, hx, cl, .nil, rfl, e, hn, hk, fun ws H' k' x' r' l' _ => q ws H' k' x' r' l'⟩
end
theorem flats_mem : ∀ {ds : List D} {i : Nat} {d : D}, flats ds = true -> ds[i]? = some d -> flat d = true
 | [], _, _, _, e => by simp at e
 | c :: r, 0, d, h, e => by
   simp only [flats, Bool.and_eq_true] at h
   simp at e; subst e; exact h.1
 | c :: r, i + 1, d, h, e => by
   simp only [flats, Bool.and_eq_true] at h
   exact flats_mem h.2 (by simpa using e)
theorem yS (e : (argsN n ds)[i]? = some s) : s = .no \/ ∃ j d, i = j + 1 /\ ds[j]? = some d /\ s = .v d := by
 unfold argsN at e
 cases i with
 | zero => simp at e; exact .inl e.symm
 | succ j =>
   rw [List.getElem?_cons_succ] at e
   by_cases hj : j < ds.length
   · rw [List.getElem?_append_left (by simpa using hj), List.getElem?_map] at e
     cases h : ds[j]? with
     | none => rw [h] at e; cases e
     | some d => rw [h] at e; cases e; exact .inr ⟨j, d, rfl, h, rfl⟩
   · rw [List.getElem?_append_right (by simpa using hj), List.getElem?_replicate] at e
     split at e
     · cases e; exact .inl rfl
     · cases e
theorem wB {K : Frag} {st : Stmt} (Fn : Fun K x qual st f fd) (S : FnScope N ps (zF st))
  (hbody : ∀ cdv A outer s H E, Room k (A.deeper (envOfC qual (zF st) s.heap.objs.size f cdv)) -> PIs (cxOf CX0 P w K mg base N qual (zF st) f cdv A outer s H E).nox (qV st) ns g)
  (hn : ps.length = n + 1) (hN : n + 1 <= m) (hm : N.length = m) : FnOk P w K mg base CX0 (k + 1) f fd ps (spN K n ns (runN g m)) := by
 subst hm
 refine Fn.ok S (fun vs H Q E h => ?_) (fun cdv A outer s H vs Q E hr h => ?_)
 · obtain ⟨x, C, dx, kvs, vs', ds, new, rfl, hl, _⟩ := h
   simp [hl, hn]
 · obtain ⟨x, C, dx, kvs, vs', ds, new, rfl, hl, hx, cl, rv, hfl, e, hna, hk, q⟩ := h
   obtain ⟨t, ht, hf⟩ := hbody cdv A outer s H E hr
   refine ⟨t, ht, ?_⟩
   have hld : ds.length = n := by rw [<- rv.length]; exact hl
   unfold runN at e
   cases e1 : g (argsN N.length ds) with
   | none => rw [e1] at e; cases e
   | some new' =>
     rw [e1] at e
     simp only [Option.bind_some] at e
     split at e
     · rename_i hfn
       cases e
       have o : Ok K eH H jH (L2.start N (.ref x :: vs')) (argsN N.length ds) [] := by
        refine ⟨(fun b u e => by cases e), (fun i l a hi _ => by rcases yS hi with h | ⟨j, d, _, _, h⟩ <;> cases h), fun _ z => z.elim, by simp [L2.start, argsN, hl, hld], fun i s e => ?_, fun i j a _ ⟨l, hi⟩ _ _ _ => ?_, (fun p hp => by cases hp), .no fun i r t e => by rcases yS e with h | ⟨j, d, _, _, h⟩ <;> cases h⟩
        · rcases yS e with rfl | ⟨j, d, rfl, hj, rfl⟩
          · exact qW
          · obtain ⟨v, h1, h2⟩ := rv.get hj
            have hjl := (List.getElem?_eq_some_iff.mp h1).1
            have : (L2.start N (.ref x :: vs'))[j + 1]? = some (some v) := by
             unfold L2.start
             rw [List.getElem?_append_left (by simpa using hjl)]
             simp [h1]
            rw [this]
            exact jT h2
        · rcases yS hi with h | ⟨j, d, _, _, h⟩ <;> cases h
       have fl : FlatS (argsN N.length ds) := fun i => by
        cases e : (argsN N.length ds)[i]? with
        | none => exact .inl rfl
        | some s =>
          rcases yS e with rfl | ⟨j, d, rfl, hj, rfl⟩
          · exact .inr (.inl rfl)
          · exact .inr (.inr ⟨d, rfl, flats_mem hfl hj⟩)
       exact hf H _ _ x C dx kvs new _ o fl (by simp [L2.start]) hx cl e1 hfn hna hk fun ws H' k' x' r' l' => q ws H' k' x' r' l' hfn
     · cases e
structure MkC (P : Program) (w : World) (K : Frag) (mg : Str -> Option Value) (base : Heap) (t k n : Nat) (G : List D -> Option (List D)) : Prop where
 ex : ∃ (C f : Addr) (fd : FuncData) (ps : List Str), PySem.W.nsIn K mainGlobals (clsName t) = some (some (.ref C)) /\ mg (clsName t) = some (.ref C) /\ Mk K C f /\ Cls K C /\ FnOk P w K mg base CX0 k f fd ps (spN K n (clsFlds t) G) /\ Binds K fd ps [] /\ (∀ f ∈ clsFlds t, NoAttr K C f)
section
variable {X : Cx} {g : FA}
theorem make_sem (hc : PySem.W.nsIn X.K mainGlobals (clsName t) = some (some (.ref C))) (hcl : Cls X.K C) (hna : ∀ f ∈ clsFlds t, NoAttr X.K C f) (hnd : (clsFlds t).Nodup) (hln : (clsFlds t).length < 900)
  (hfa : ∀ H₀ H O σ ds hd l Q, Ok X.K H₀ H O σ ds hd -> g ds = some l -> (∀ vs H', Same H H' -> Reps X.K H' jH vs l -> Q vs H') -> ta σ H Q) (o : Ok X.K H₀ H O σ ds hd) (h1 : g ds = some l) (hl : l.length = n /\ flats l = true) (h2 : G l = some new)
  (q : ∀ v H', Same H H' -> Rep X.K H' (Old H) v (.ins t new) -> Q v H') : tMake C (spN X.K n (clsFlds t) G) [] E0 ta σ H Q := by
 refine hfa H₀ H O σ ds hd l _ o h1 fun vs H1 s1 r1 => ?_
 intro x dx nx ndx nex
 have s2 : Same H1 (upd (upd H1 dx (.own x)) x (.ins C dx [])) := fun b o e => by
  rw [upd_ne (qT e nx), upd_ne (qT e ndx)]
  exact e
 refine ⟨x, C, dx, [], vs, l, new, by simp, by rw [r1.length]; exact hl.1, zS, hcl, r1.mono s2, hl.2, h2, hna, by simp; lia, fun ws H' k' x' r' l' f' => ⟨rfl, ?_⟩⟩
 have s3 := fun b o e => k' b o (qT e nx) (s2 b o e)
 have hlw : (clsFlds t).length = ws.length := by rw [r'.length]; exact l'.symm
 have ek : putAll [] ((clsFlds t).zip ws) = (clsFlds t).zip ws := by
  rw [putAll_new (by simpa [List.map_fst_zip (Nat.le_of_eq hlw)] using hnd)]
  simp
 rw [ek] at x'
 have nx0 := s1.free nx
 refine q (.ref x) H' (s1.trans s3) (.ins hc (not_old nx0) x' (List.map_fst_zip (Nat.le_of_eq hlw)) ?_)
 rw [List.map_snd_zip (Nat.le_of_eq hlw.symm)]
 exact Reps.flatten (fun a z => Old.mono (s1.trans s3) z) f' r'
theorem xV (M : MkC X.prog X.w X.K X.mg X.base t k n G) (hr : Room j X.A) (ha : PAn X (e :: es) g) (hj : k + 1 <= j := by decide) (hx : clsName t = x := by rfl) (hnd : (clsFlds t).Nodup := by decide +kernel) (hln : (clsFlds t).length < 900 := by decide)
  (hg : Gl X x := by rfl) (hdb : (x == ("__debug__" : Str)) = false := by decide) (he : starEach (e :: es) X.env = (false, eval e X.env) :: starEach es X.env := by rfl) (hpl : (backTo pos (starEach es X.env)).any (·.1) = false := by rfl) :
  PVd X (.Call (.Name x p) (e :: es) [] pos) (makeG t n G g) := by
 obtain ⟨C, f, fd, ps, hc, hm, mk, cl, Fn, hb, hna⟩ := M.ex
 obtain ⟨ta, pa, hfa⟩ := ha
 subst hx
 refine ⟨_, pe_make mk Fn (hr.mono hj) hg hm hb .nil pass0 pa hdb he hpl, fun H₀ H O σ ds hd d Q o e q => ?_⟩
 obtain ⟨l, h1, e⟩ := bnd e
 split at e
 · rename_i hl
   obtain ⟨new, h2, rfl⟩ := mpd e
   exact make_sem hc cl hna hnd hln hfa o h1 hl h2 q
 · cases e
theorem pvd_make0 (M : MkC X.prog X.w X.K X.mg X.base t k 0 G) (hr : Room j X.A) (hj : k + 1 <= j := by decide) (hx : clsName t = x := by rfl) (hnd : (clsFlds t).Nodup := by decide +kernel) (hln : (clsFlds t).length < 900 := by decide)
  (hg : Gl X x := by rfl) (hdb : (x == ("__debug__" : Str)) = false := by decide) :
  PVd X (.Call (.Name x p) [] [] pos) (makeG t 0 G zQ) := by
 obtain ⟨C, f, fd, ps, hc, hm, mk, cl, Fn, hb, hna⟩ := M.ex
 subst hx
 refine ⟨_, pe_make0 mk Fn (hr.mono hj) hg hm hb .nil pass0 hdb, fun H₀ H O σ ds hd d Q o e q => ?_⟩
 obtain ⟨new, h2, rfl⟩ := mpd e
 exact make_sem (g := zQ) hc cl hna hnd hln (fun _ H _ _ _ _ _ _ _ e q => by cases e; exact q _ H (Same.refl _) .nil) o rfl ⟨rfl, rfl⟩ h2 q
end
section
end
section
theorem pv_globI (hm : ∃ t, X.mg x = some (.int i t)) (hg : Gl X x := by rfl) (hd : (x == ("__debug__" : Str)) = false := by decide) : PV X (.Name x pos) (zA (.int i)) :=
 let ⟨t, h⟩ := hm
 pv_glob (v := .int i) hg h ⟨t, rfl⟩ (fun _ _ => .int i) hd
end
inductive NoAll (K : Frag) (C : Addr) : List Str -> Prop
 | nil : NoAll K C []
 | cons {f : Str} {l : List Str} (h : NoAttr K C f) (t : NoAll K C l) : NoAll K C (f :: l)
theorem yK {K : Frag} : NoAll K C [] := .nil
theorem qM {K : Frag} (h : NoAttr K C f) (t : NoAll K C l) : NoAll K C (f :: l) := .cons h t
theorem yA {K : Frag} : ∀ {l : List Str}, NoAll K C l -> ∀ f ∈ l, NoAttr K C f
 | _, .nil, f, h => (nomatch h)
 | _, .cons q t, f, h => (List.mem_cons.mp h).elim (fun e => e ▸ q) (yA t f)
section
variable {X : Cx}
end
section
variable {X : Cx} {k j n : Nat} {F : List D -> Option Ret} {x : Str} {p pos : Pos} {e : Expr} {es : List Expr} {g : FA}
end
end FL
namespace PySem
open Sem (wp)
section
variable {prog : Program} {w : World} {A : Around} {R : Result -> Shared -> Prop} {I : Addr} {fp wr : List Addr} {n : Nat} {P : Nat -> Value -> Prop} {St : Nat -> Heap -> Prop} {kw : List (Str × Value)}
end
section
variable {prog : Program} {w : World} {A : Around} {E : Value -> Shared -> Prop} {s : Shared}
end
end PySem
namespace FL
open PySem PySem.Spec PyProof.Rows L2
section
variable {X : Cx}
end
end FL
namespace FL
open PySem PySem.Spec PyProof.Rows L2
open PySem.Calls PySem.Builtin PySem.Builtin.ObjectAttr PySem.Builtin.Getset_descriptor
open PySem.W (Looks looks_findIn looks_mroIn findIn mroIn specialIn takesIn KitX)
structure XIn (K : Frag) (C : Addr) : Prop where
 ga : findIn K (.ref C) "__getattribute__" = some (some (.builtin "BaseException.__getattribute__"))
 gt : findIn K (.ref C) "__getattr__" = some none
 cl : findIn K (.ref C) "__class__" = some (some (.builtin "object.__class__"))
 ob : mroIn K C (.type "object") = some true
 be : mroIn K C (.type "BaseException") = some true
section
variable {prog : Program} {w : World} {A : Around} {E : Value -> Shared -> Prop} {h : Heap} {g : Array GenState} {d : Drawn} {t : Nat} {os : OsState} {a C : Addr} {o : Obj} {K : Frag}
end
end FL
namespace FL
open PySem PySem.Spec PyProof.Rows L2
def Fl2 (B : Heap) (l : List Env) (e : Addr) (cls : Value) (a0 : Value × Option Addr) (fl : Value) (h : Heap) : Prop := B.StaysIn h /\ B.get? e = none /\ h.FunFrames B l ∧
 ∃ oe vs T oT ts, h.get? e = some oe /\ ((oe.cls = cls /\ oe.dict = a0.2) /\ vs[0]? = some a0.1 /\ vs[2]? = some .none) /\ oe.data = .fields vs /\ vs[1]? = some (.ref T) /\ B.get? T = none /\ T ≠ e /\ h.get? T = some oT /\ oT.data = .fields ts /\ ts[3]? = some fl
section
variable {M : Model} {A : Around} {E : Value -> Shared -> Prop} {s : Shared} {B : Heap} {l outer : List Env} {env : Env} {e L : Addr} {cls fl : Value} {a0 : Value × Option Addr} {oe : Obj} {vs : Array Value} {Q : Unit -> Shared -> Prop}
theorem Fl2.tail (R : Fl2 B (env :: outer) e cls a0 fl s.heap) : Fl2 B outer e cls a0 fl s.heap := let ⟨k1, k2, ⟨_, _, k3⟩, k4⟩ := R; ⟨k1, k2, k3, k4⟩
end
end FL
namespace FL
open PySem PySem.Spec PyProof.Rows L2
open PySem.W (hideAll hideAll_get of_hideAll hideAll_none funFrames_hide excIn tail_of_in nsMap_none_of_in isNs_of_in)
theorem obj_get {P : Program} {w : World} {H : Hp} {h : Heap} {a : Addr} {o : HO} (x : ObjOk P w H h a o) : ∃ u, h.get? a = some u := by
 cases o with
 | lst xs => obtain ⟨_, _, _, _, e⟩ := x; exact ⟨_, e⟩
 | tup xs => obtain ⟨_, _, _, _, e, _⟩ := x; exact ⟨_, e⟩
 | dK kvs => obtain ⟨_, _, _, _, o, _, _, e, _⟩ := x; exact ⟨_, e⟩
 | dT kvs => obtain ⟨_, _, _, _, o, _, _, e, _⟩ := x; exact ⟨_, e⟩
 | set S n => obtain ⟨o, _, _, _, e, _⟩ := x; exact ⟨_, e⟩
 | ins C dx fs => obtain ⟨_, _, _, e, _⟩ := x; exact ⟨_, e⟩
 | own y => obtain ⟨_, e⟩ := x; exact ⟨_, e⟩
 | xd fs => obtain ⟨_, ⟨_, _, _, e, _⟩, _⟩ := x; exact ⟨_, e⟩
 | rng lo hi => obtain ⟨_, _, _, e⟩ := x; exact ⟨_, e⟩
 | frz ob u => obtain ⟨e, _⟩ := x; exact ⟨_, e⟩
 | tbl ps => obtain ⟨_, e, _⟩ := x; exact ⟨_, e⟩
 | met f y => exact ⟨_, (show h.get? a = some _ from x)⟩
 | ext φ => obtain ⟨_, ⟨_, e⟩, _⟩ := x; exact ⟨_, e⟩
structure Thrown (P : Program) (w : World) (outer : List Env) (H : Hp) (s : Shared) (cls : Value) (ea : Addr) (a0 : Value × Option Addr) (B : Heap) (H' : Hp) (h : Heap) : Prop where
 fly : Fl2 B outer ea cls a0 .none h
 keep : ∀ b o, s.heap.get? b = some o -> H b = none -> b ∉ frs outer -> B.get? b = some o
 there : ∀ b o, s.heap.get? b = some o -> b ∉ frs outer -> ∃ o', B.get? b = some o'
 slot : ∀ b o, s.heap.get? b = some o -> b ∈ frs outer -> ∃ sl, h.get? b = some { o with slots := sl }
 free : ∀ b o, s.heap.get? b = some o -> H b = none -> H' b = none
 tups : ∀ b xs, H b = some (.tup xs) -> H' b = some (.tup xs)
 frzs : ∀ b o u, H b = some (.frz o u) -> H' b = some (.frz o u)
 tbls : ∀ b ps, H b = some (.tbl ps) -> H' b = some (.tbl ps)
 hok : L2.HOk P w H' B
section
variable {P : Program} {w : World} {outer : List Env} {H H' : Hp} {s : Shared} {cls : Value} {a0 : Value × Option Addr} {ea : Addr} {B h h' : Heap}
theorem Thrown.un (t : Thrown P w outer H s cls ea a0 B H' h) : Un (frs outer) [] H H' s.heap h where
 keep := fun b o e n hb _ => t.fly.1 b o (t.keep b o e n hb)
 slot := fun b o e n hb _ => t.slot b o e hb
 free := fun b o e n _ => t.free b o e n
 there := fun b o e _ => by
  by_cases hb : b ∈ frs outer
  · obtain ⟨sl, q⟩ := t.slot b o e hb; exact ⟨_, q⟩
  · obtain ⟨o', q⟩ := t.there b o e hb; exact ⟨o', t.fly.1 b o' q⟩
 tups := t.tups
 frzs := t.frzs
 tbls := t.tbls
theorem Thrown.no (t : Thrown P w outer H s cls ea a0 B H' h) : H' ea = none := by
 cases q : H' ea with
 | none => rfl
 | some u =>
   obtain ⟨o, e⟩ := obj_get (t.hok _ _ q)
   rw [t.fly.2.1] at e; cases e
end
section
variable (X : Cx) (C : Addr)
end
section
variable {X : Cx} {C : Addr}
end
end FL
namespace FL
open PySem PySem.Spec PyProof.Rows L2
open PySem.W (Looks looks_mroIn mroIn)
section
end
section
end
end FL
namespace FL
open PySem PySem.Spec PyProof.Rows L2
open PySem.W (Looks looks_mroIn mroIn clsIn)
section
variable {prog : Program} {w : World} {A : Around} {E : Value -> Shared -> Prop} {h : Heap} {g : Array GenState} {d : Drawn} {t : Nat} {os : OsState} {a C S : Addr} {o : Obj} {K : Frag}
end
section
variable {X : Cx}
end
end FL
namespace FL
open PySem PySem.Spec PyProof.Rows L2
section
variable {X : Cx}
section
variable {en : Str} {i : Nat} {p pe pT pos : Pos} {tb : List (Nat × Bool)}
end
end
section
variable {X : Cx} {m : Str} {k j : Nat} {cs : List Nat} {F : Nat -> List D -> Option Ret} {o : Expr} {apos pos : Pos} {fo : FE}
end
section
variable {X : Cx} {C : Addr} {x : Str} {p pos : Pos}
end
section
variable {K : Frag} {H : Hp} {O : Addr -> Prop} {a : Addr} {xs ys : List V}
end
section
variable {X : Cx}
end
section
variable (X : Cx) (E : XK) (C : Addr)
end
section
variable {X : Cx} {E : XK} {C : Addr}
section
variable {k j n : Nat} {R : List D -> Bool} {x : Str} {p pos : Pos} {e : Expr} {es : List Expr} {g : FA}
end
end
section
variable {X : Cx} {E : XK} {C : Addr} {t k j n : Nat} {R : List D -> Bool} {x : Str} {p pos : Pos} {e : Expr} {es : List Expr} {g : FA}
end
section
variable {X : Cx}
end
structure RoomH (k : Nat) (A : Around) : Prop where
 dp : A.depth + 3 * k + 5 < recursionLimit
 un : A.units + 16 * k + 200 < cLine
theorem RoomH.of {k : Nat} {A : Around} {v : Option Value} (r : Room k A) : RoomH k (A.mark v) := ⟨r.dp, r.un⟩
theorem RoomH.depth {k : Nat} {A : Around} (r : RoomH k A) : A.depth < recursionLimit := by have := r.dp; omega
section
variable {X : Cx} {k j i : Nat} {F : Nat -> Option Ret} {x en : Str} {p pe pos : Pos}
end
end FL
namespace L2
open PySem PySem.Spec PyProof.Rows
section
variable {X : Cx}
end
end L2
namespace FL
open PySem PySem.Spec PyProof.Rows L2
section
variable {X : Cx}
end
section
variable {X : Cx}
end
end FL
namespace L2
open PySem PySem.Spec PyProof.Rows
section
end
end L2
namespace FL
open PySem PySem.Spec PyProof.Rows L2
section
end
end FL
namespace L2
open PySem PySem.Spec PyProof.Rows
section
end
section
end
end L2
namespace FL
open PySem PySem.Spec PyProof.Rows L2
section
end
end FL
namespace FL
open PySem PySem.Spec PyProof.Rows L2
open PySem.W (tabIn CodeHd tabObj kla_eval kla_makeFunction kla_makeFunctionHit kla_obj kla_fn kla_callFunE kla_codeExpr FnAt callWith_F envX)
section
variable {X : Cx}
end
section
variable {X : Cx} {pins : List (Addr × Obj)} {σ : L2.St} {H H' : Hp} {s s' : Shared} {cs : List Addr}
end
section
variable {K : Frag} {H : Hp} {O : Addr -> Prop} {cs : List Addr}
end
section
variable {X : Cx}
end
end FL
namespace FL
open PySem PySem.Spec PyProof.Rows L2
open PySem.W (tabIn CodeHd tabObj kla_callFunE kla_codeExpr FnAt callWith_F envX)
section
section
variable {st : Stmt}
end
end
theorem ClosOk.get : ∀ {cl : List (Str × Addr)} {xs : List V}, ClosOk H O cl xs -> ∀ {i : Nat} {v : V}, xs[i]? = some v -> ∃ p o u w, cl[i]? = some p /\ H p.2 = some (.frz o u) /\ o.data = .cell (some w) /\ RelV v w
 | _, _, .nil, _, _, h => by cases h
 | _, _, .cons no h d r t, 0, v, hv => by cases hv; exact ⟨_, _, _, _, rfl, h, d, r⟩
 | _, _, .cons no h d r t, i + 1, v, hv => t.get hv
theorem ClosOk.length : ∀ {cl : List (Str × Addr)} {xs : List V}, ClosOk H O cl xs -> cl.length = xs.length
 | _, _, .nil => rfl
 | _, _, .cons no h d r t => by simp [t.length]
section
end
end FL
namespace FL
open PySem PySem.Spec PyProof.Rows L2
section
variable {X : Cx}
end
end FL
namespace FL
open PySem PySem.Spec PyProof.Rows L2
open PySem.W (tabIn CodeHd tabObj makeFunction_K makeFunction_hit fnMade fnX nestDef_K kla_callFunE envX)
section
end
section
end
section
end
section
end
end FL
namespace FL
open PySem PySem.Spec PyProof.Rows L2
section
variable {X : Cx} {tg : Expr}
end
section
variable {X : Cx}
end
end FL
namespace FL
open PySem PySem.Spec PyProof.Rows L2
open PySem.W (tabIn CodeHd)
section
variable {X : Cx}
end
section
variable {X : Cx} {E : XK} {C : Addr}
end
section
variable {X : Cx} {k j : Nat} {n : Nat} {F : List D -> Option Ret} {x : Str} {p pos : Pos} {e : Expr} {es : List Expr} {g : FA}
end
end FL
namespace FL
open PySem PySem.Spec PyProof.Rows L2
section
variable {X : Cx} {E : XK} {C : Addr}
end
section
variable {X : Cx} {E : XK} {C : Addr}
end
end FL
namespace L2
open PySem PySem.Spec PyProof.Rows
section
variable {X : Cx}
end
end L2
namespace FL
open PySem PySem.Spec PyProof.Rows L2
section
variable {X : Cx} {E : XK} {C : Addr}
end
section
variable {X : Cx}
end
end FL
namespace L2
open PySem PySem.Spec PyProof.Rows
open Builtin Builtin.Str
section
theorem vA x y : (Txt.split x y).length <= x.length + 2 := by
 unfold Txt.split
 have e1 := StrLaws.occ_length_le x y 0 x.length (x.length + 1)
 split
 · simp
 · split
   · simp
   · rw [length_partsBetween]; lia
end
end L2
namespace FL
open PySem PySem.Spec PyProof.Rows L2
section
variable {X : Cx}
section
variable {id : String}
end
end
section
variable {X : Cx} {E : XK} {C : Addr}
theorem pe_or {e : Expr} {t u : TE} (h1 : PE X e t) (h2 : PE X e u) : PE X e (fun σ H Q => t σ H Q \/ u σ H Q) := fun pins s σ H Q I h => h.elim (h1 pins s σ H Q I) (h2 pins s σ H Q I)
section
variable {x : Str} {p pos : Pos} {e : Expr} {t k j : Nat} {G : List D -> Option (List D)} {y : List Sl -> Bool}
end
end
end FL
namespace L2
open PySem PySem.Spec PyProof.Rows
section
variable {prog : Program} {w : World} {A : Around} {E : Value -> Shared -> Prop} {s : Shared}
end
section
variable {X : Cx} {pos : Pos}
end
end L2
namespace FL
open PySem PySem.Spec PyProof.Rows L2
section
variable {X : Cx}
end
section
variable {K : Frag} {H H' H₀ : Hp} {O O' : Addr -> Prop}
abbrev orL (fs : List Addr) (O : Addr -> Prop) : Addr -> Prop := fun b => b ∈ fs \/ O b
theorem Rep.moreL : ∀ {ps : List Addr}, (∀ p ∈ ps, H p = none) -> Rep K H O v d -> Rep K H (orL ps O) v d
 | [], _, h => h.less fun a z => z.elim (fun q => nomatch q) id
 | p :: ps, hp, h => ((Rep.moreL (ps := ps) (fun q hq => hp q (.tail _ hq)) h).more (p := p) (hp p (.head _))).less fun a z => z.elim (fun q => (List.mem_cons.mp q).elim .inl fun q => .inr (.inl q)) fun q => .inr (.inr q)
theorem Reps.moreL : ∀ {ps : List Addr}, (∀ p ∈ ps, H p = none) -> Reps K H O v d -> Reps K H (orL ps O) v d
 | [], _, h => h.less fun a z => z.elim (fun q => nomatch q) id
 | p :: ps, hp, h => ((Reps.moreL (ps := ps) (fun q hq => hp q (.tail _ hq)) h).more (p := p) (hp p (.head _))).less fun a z => z.elim (fun q => (List.mem_cons.mp q).elim .inl fun q => .inr (.inl q)) fun q => .inr (.inr q)
theorem RepO.moreL : ∀ {ps : List Addr}, (∀ p ∈ ps, H p = none) -> RepO K H O v t fs -> RepO K H (orL ps O) v t fs
 | [], _, h => h.less (fun a z => z.elim (fun q => nomatch q) id) fun b hb => .inr (h.owns b hb).1
 | p :: ps, hp, h => ((RepO.moreL (ps := ps) (fun q hq => hp q (.tail _ hq)) h).more (p := p) (hp p (.head _))).less (fun a z => z.elim (fun q => (List.mem_cons.mp q).elim .inl fun q => .inr (.inl q)) fun q => .inr (.inr q)) fun b hb => .inr (h.owns b hb).1
theorem Ok.moreL (o : Ok K H₀ H O σ ds hd) (s : Same H H') (hn : ∀ b ∈ fs, H b = none) (hl : ∀ b ∈ fs, ∃ u : MutHO, H' b = some u.1) : Ok K H₀ H' (orL fs O) σ ds hd := by
 refine ⟨o.same.trans s, o.fresh, fun b hb => hb.elim (hl b) fun z => let ⟨xs, e⟩ := o.dom b z; ⟨xs, s _ _ e⟩, o.len, fun i sl e => ?_, o.apart, fun p hp => ?_, o.obs.tr (fun _ _ _ r _ => (r.moreL hn).mono s) (fun _ _ _ e => ⟨e, rfl⟩) fun _ _ oj ej => .inl ⟨oj, ej⟩⟩
 · cases sl with
   | no => exact qW
   | ob r t => exact jV
   | exc t =>
     obtain ⟨a', C', ob', u', q1, q2, q3, q4⟩ := o.readX e
     rw [q1]
     exact ⟨C', ob', u', q2, s _ _ q3, q4⟩
   | exf t fs =>
     obtain ⟨a', q1, q3⟩ := o.readE e
     rw [q1]
     exact q3.keep fun a' ob' u' q3 => s _ _ q3
   | fr l' =>
     obtain ⟨a', xs', q1, q2, q0, q3, q4⟩ := o.readF e
     rw [q1]
     exact ⟨fun z => z.elim (fun z => by rw [hn _ z] at q3; cases q3) q2, q0, xs', s _ _ q3, (q4.moreL hn).mono s⟩
   | v d =>
     obtain ⟨v, h1, h2⟩ := o.read e
     rw [h1]
     exact jT ((h2.moreL hn).mono s)
   | own l' =>
     obtain ⟨b, ys, h1, h2, h3, h4⟩ := o.readO e
     rw [h1]
     exact ⟨.inr h2, ys, s _ _ h3, (h4.moreL hn).mono s⟩
 · have := o.hold p hp
   cases p with
   | rep v d => exact (Rep.moreL hn this).mono s
   | base B => exact fun b hb => ⟨.inr (this b hb).1, (this b hb).2⟩
   | root k a => exact True.intro
   | fz a' o' kvs' l' => exact ⟨fun z => z.elim (fun z => by have := this.2.1; rw [hn _ z] at this; cases this) this.1, s _ _ this.2.1, (Reps.moreL hn this.2.2).mono s⟩
theorem Ok.setOb (o : Ok K H₀ H O σ ds hd) (s : Same H H') (r : RepO K H' (orL fs O) v t fs) (nd : fs.Nodup) (hn : ∀ b ∈ fs, H b = none) :
  Ok K H₀ H' (orL fs O) (σ.set i (some v)) (ds.set i (.ob none t)) hd := by
 have o1 := o.moreL s hn fun b hb => (r.owns b hb).2
 have own' : ∀ {j : Nat}, IsOwn (ds.set i (.ob none t)) j -> IsOwn ds j /\ j ≠ i := fun h => xG (fun l => by intro z; cases z) h
 refine ⟨o1.same, fun j l a e1 e2 => ?_, o1.dom, by simpa using o1.len, fun j sl e => ?_, fun j k a hjk hj hk e1 e2 => ?_, o1.hold, ?_⟩
 · obtain ⟨⟨l', e'⟩, n1⟩ := own' ⟨l, e1⟩
   rw [List.getElem?_set_ne (Ne.symm n1)] at e2
   exact o1.fresh j l' a e' e2
 · by_cases hj : j = i
   · subst hj
     by_cases hl : j < ds.length
     · rw [List.getElem?_set_self hl] at e
       cases e
       exact jV
     · rw [List.getElem?_eq_none (by simpa using hl)] at e; cases e
   · rw [List.getElem?_set_ne (Ne.symm hj)] at e
     rw [List.getElem?_set_ne (Ne.symm hj)]
     exact o1.sl j sl e
 · obtain ⟨h1, n1⟩ := own' hj
   obtain ⟨h2, n2⟩ := own' hk
   rw [List.getElem?_set_ne (Ne.symm n1)] at e1
   rw [List.getElem?_set_ne (Ne.symm n2)] at e2
   exact o1.apart j k a hjk h1 h2 e1 e2
 · obtain ⟨F, hF⟩ := o.obs
   have ne : ∀ {j : Nat} {r' : Option Nat} {t' : OT}, ds[j]? = some (.ob r' t') -> ∀ b ∈ F j, b ∉ fs := fun {j r' t'} e b hb z => by
    obtain ⟨w, _, q, _⟩ := hF j r' t' e
    obtain ⟨_, xs, ex⟩ := q.owns b hb
    rw [hn b z] at ex; cases ex
   refine ⟨fun j => if j = i then fs else F j, fun j r' t' e => ?_⟩
   by_cases hj : j = i
   · subst hj
     by_cases hl : j < ds.length
     · rw [List.getElem?_set_self hl] at e
       cases e
       refine ⟨v, by rw [List.getElem?_set_self (by rw [o.len]; exact hl)], by simpa using r, (fun k a z => by cases z), by simpa using nd, fun b hb => ?_⟩
       have hb : b ∈ fs := by simpa using hb
       refine ⟨o.same.free (hn b hb), fun k r2 t2 hk e2 z => ?_, fun k ok ek => ?_⟩
       · simp [hk, if_false] at z
         rw [List.getElem?_set_ne (Ne.symm hk)] at e2
         exact ne e2 b z hb
       · obtain ⟨⟨l2, e2⟩, hk⟩ := own' ok
         rw [List.getElem?_set_ne (Ne.symm hk)] at ek
         obtain ⟨b', ys, q1, _, q3, _⟩ := o.readO e2
         rw [ek] at q1; cases q1
         rw [hn b hb] at q3; cases q3
     · rw [List.getElem?_eq_none (by simpa using hl)] at e; cases e
   · rw [List.getElem?_set_ne (Ne.symm hj)] at e
     obtain ⟨w, h1, h2, h3, h4, h5⟩ := hF j r' t' e
     refine ⟨w, by rw [List.getElem?_set_ne (Ne.symm hj)]; exact h1, by simp [hj, if_false]; exact (h2.moreL hn).mono s, h3, by simpa [hj] using h4, fun b hb => ?_⟩
     have hb : b ∈ F j := by simpa [hj] using hb
     refine ⟨(h5 b hb).1, fun k r2 t2 hk e2 z => ?_, fun k ok ek => ?_⟩
     · by_cases hki : k = i
       · simp [hki, if_true] at z
         exact ne e b hb z
       · simp [hki, if_false] at z
         rw [List.getElem?_set_ne (Ne.symm hki)] at e2
         exact (h5 b hb).2.1 k r2 t2 hk e2 z
     · obtain ⟨ok', hk⟩ := own' ok
       rw [List.getElem?_set_ne (Ne.symm hk)] at ek
       exact (h5 b hb).2.2 k ok' ek
inductive Kid (H : Hp) (b : Addr) : List V -> Prop
 | tup {xs : List V} (h : Rd H b (.tup xs)) : Kid H b xs
 | lst {xs : List V} (h : H b = some (.lst xs)) : Kid H b xs
 | dct {kvs : List (Key × V)} (h : H b = some (.dK kvs)) : Kid H b (kvs.map (·.2))
 | ins {C dx : Addr} {kvs : List (Str × V)} (h : H b = some (.ins C dx kvs)) : Kid H b (kvs.map (·.2))
noncomputable def PathV (H : Hp) : V -> List Nat -> V -> Prop
 | v, [], w => w = v
 | v, k :: p, w => ∃ b xs x, v = .ref b /\ Kid H b xs /\ xs[k]? = some x /\ PathV H x p w
theorem Kid.det (h : Kid H b xs) (g : Kid H b ys) : xs = ys := by
 have rd : ∀ {zs ws : List V}, Rd H b (.tup zs) -> Rd H b (.tup ws) -> zs = ws := fun h g => by
  rcases h with h | ⟨o, h⟩ <;> rcases g with g | ⟨o', g⟩ <;> rw [h] at g <;> cases g <;> rfl
 have no : ∀ {zs : List V} {u : HO}, Rd H b (.tup zs) -> H b = some u -> (∀ ws, u ≠ .tup ws) -> (∀ o w, u ≠ .frz o w) -> False := fun h g n1 n2 => by
  rcases h with h | ⟨o, h⟩ <;> rw [h] at g <;> cases g
  · exact n1 _ rfl
  · exact n2 _ _ rfl
 cases h with
 | tup h => cases g with
   | tup g => exact rd h g
   | lst g => exact (no h g (fun _ z => by cases z) (fun _ _ z => by cases z)).elim
   | dct g => exact (no h g (fun _ z => by cases z) (fun _ _ z => by cases z)).elim
   | ins g => exact (no h g (fun _ z => by cases z) (fun _ _ z => by cases z)).elim
 | lst h => cases g with
   | tup g => exact (no g h (fun _ z => by cases z) (fun _ _ z => by cases z)).elim
   | lst g => rw [h] at g; cases g; rfl
   | dct g => rw [h] at g; cases g
   | ins g => rw [h] at g; cases g
 | dct h => cases g with
   | tup g => exact (no g h (fun _ z => by cases z) (fun _ _ z => by cases z)).elim
   | lst g => rw [h] at g; cases g
   | dct g => rw [h] at g; cases g; rfl
   | ins g => rw [h] at g; cases g
 | ins h => cases g with
   | tup g => exact (no g h (fun _ z => by cases z) (fun _ _ z => by cases z)).elim
   | lst g => rw [h] at g; cases g
   | dct g => rw [h] at g; cases g
   | ins g => rw [h] at g; cases g; rfl
theorem jY : ∀ {p : List Nat} {v x y : V}, PathV H v p x -> PathV H v p y -> x = y
 | [], v, x, y, h, g => h.trans g.symm
 | k :: p, v, x, y, ⟨b, xs, z, h1, h2, h3, h4⟩, ⟨b', xs', z', g1, g2, g3, g4⟩ => by
   rw [h1] at g1
   cases g1
   cases h2.det g2
   rw [h3] at g3
   cases g3
   exact jY h4 g4
theorem xR : ∀ {p : List Nat} {k : Nat} {v x : V} {b : Addr} {xs : List V}, PathV H v p (.ref b) -> Kid H b xs -> xs[k]? = some x -> PathV H v (p ++ [k]) x
 | [], k, v, x, b, xs, h, hk, hx => ⟨b, xs, x, h.symm, hk, hx, rfl⟩
 | j :: p, k, v, x, b, xs, ⟨c, ys, y, h1, h2, h3, h4⟩, hk, hx => ⟨c, ys, y, h1, h2, h3, xR h4 hk hx⟩
theorem yO : ∀ p k t, subO (p ++ [k]) t = (subO p t).bind (subO [k])
 | [], k, t => by simp [subO]
 | j :: p, k, t => by
   cases t with
   | val d => simp [subO]
   | lst l => simp only [List.cons_append, subO]; cases l[j]? <;> simp [yO p k]
   | tup l => simp only [List.cons_append, subO]; cases l[j]? <;> simp [yO p k]
   | dct ks l => simp only [List.cons_append, subO]; cases l[j]? <;> simp [yO p k]
   | ins c l => simp only [List.cons_append, subO]; cases l[j]? <;> simp [yO p k]
theorem RepsO.length : ∀ {xs : List V} {ts : List OT} {fs : List Addr}, RepsO K H O xs ts fs -> xs.length = ts.length
 | _, _, _, .nil => rfl
 | _, _, _, .cons _ r => by simp [RepsO.length r]
theorem RepsO.pick : ∀ {xs : List V} {ts : List OT} {fs : List Addr} {k : Nat} {t : OT}, RepsO K H O xs ts fs -> ts[k]? = some t -> ∃ x pre f post, xs[k]? = some x /\ fs = pre ++ (f ++ post) /\ RepO K H O x t f ∧
  ∀ {H' : Hp} {O' : Addr -> Prop} {g : OT -> OT} {f' : List Addr}, RepO K H' O' x (g t) f' -> (∀ y s e, RepO K H O y s e -> (∀ b ∈ e, b ∈ pre \/ b ∈ post) -> RepO K H' O' y s e) -> RepsO K H' O' xs (ts.modify k g) (pre ++ (f' ++ post))
 | _, _, _, 0, t, .cons (x := x) (fs := f) (gs := gs) h r, e => by
   simp only [List.getElem?_cons_zero, Option.some.injEq] at e
   subst e
   refine ⟨x, [], f, gs, rfl, rfl, h, fun {H' O' g f'} h' ho => ?_⟩
   have : ∀ {xs : List V} {ts : List OT} {gs' : List Addr}, RepsO K H O xs ts gs' -> (∀ b ∈ gs', b ∈ gs) -> RepsO K H' O' xs ts gs' := by
    intro xs ts gs' h
    induction xs generalizing ts gs' with
    | nil => intro _; cases h; exact .nil
    | cons y ys ih =>
      intro hb
      cases h with
      | cons h1 h2 => exact .cons (ho _ _ _ h1 fun b z => .inr (hb b (List.mem_append_left _ z))) (ih h2 fun b z => hb b (List.mem_append_right _ z))
   show RepsO K H' O' _ _ (f' ++ gs)
   exact .cons h' (this r fun _ z => z)
 | _, _, _, k + 1, t, .cons (x := x) (t := t0) (fs := f0) (gs := gs) h r, e => by
   obtain ⟨y, pre, f, post, h1, h2, h3, h4⟩ := RepsO.pick (k := k) (t := t) r (by simpa using e)
   refine ⟨y, f0 ++ pre, f, post, by simpa using h1, by rw [h2]; simp, h3, fun {H' O' g f'} h' ho => ?_⟩
   have q := h4 h' fun z s e' hz hb => ho z s e' hz fun b hb' => (hb b hb').elim (fun z => .inl (List.mem_append_right _ z)) .inr
   have := RepsO.cons (ho _ _ _ h fun b hb => .inl (List.mem_append_left _ hb)) q
   simpa [List.append_assoc] using this
theorem nodup_mid (nd : (pre ++ (f ++ post)).Nodup) : f.Nodup /\ (∀ b ∈ f, b ∉ pre /\ b ∉ post) /\ ∀ (f' : List Addr), f'.Nodup -> (∀ b ∈ f', b ∈ f \/ (b ∉ pre /\ b ∉ post)) -> (pre ++ (f' ++ post)).Nodup := by
 rw [List.nodup_append] at nd
 obtain ⟨n1, n2, n3⟩ := nd
 rw [List.nodup_append] at n2
 obtain ⟨n4, n5, n6⟩ := n2
 have ap : ∀ b ∈ f, b ∉ pre /\ b ∉ post := fun b hb => ⟨fun z => n3 b z b (List.mem_append_left _ hb) rfl, fun z => n6 b hb b z rfl⟩
 refine ⟨n4, ap, fun f' hf hs => ?_⟩
 have ap' := fun b hb => (hs b hb).elim (ap b) id
 rw [List.nodup_append]
 refine ⟨n1, ?_, fun a ha b hb e => ?_⟩
 · rw [List.nodup_append]
   exact ⟨hf, n5, fun a ha b hb e => (ap' a ha).2 (e ▸ hb)⟩
 · rcases List.mem_append.mp hb with z | z
   · exact (ap' b z).1 (e ▸ ha)
   · exact n3 a ha b (List.mem_append_right _ z) e
structure Chg (H H' : Hp) (O O' : Addr -> Prop) (f : List Addr) (f' : List Addr) : Prop where
 keep : ∀ b u, ¬ O b -> H b = some u -> H' b = some u
 rest : ∀ b u, O b -> b ∉ f -> H b = some u -> H' b = some u
 sub : ∀ b, O b -> b ∉ f -> O' b
 new : ∀ b, O' b -> O b \/ (b ∈ f' /\ H b = none)
 fp : ∀ b ∈ f', b ∈ f \/ H b = none
theorem Chg.rep (c : Chg H H' O O' f f') (r : Rep K H O v d) : Rep K H' O' v d := by
 have hn : ∀ p ∈ f'.filter (fun b => (H b).isNone), H p = none := fun p hp => by simpa using (List.mem_filter.mp hp).2
 have r1 := (r.moreL hn).keep fun b u hb e => c.keep b u (fun z => hb (.inr z)) e
 exact r1.less fun a z => (c.new a z).elim .inr fun q => .inl (List.mem_filter.mpr ⟨q.1, by rw [q.2]; rfl⟩)
theorem Chg.reps (c : Chg H H' O O' f f') (r : Reps K H O v d) : Reps K H' O' v d := by
 have hn : ∀ p ∈ f'.filter (fun b => (H b).isNone), H p = none := fun p hp => by simpa using (List.mem_filter.mp hp).2
 have r1 := (r.moreL hn).keep fun b u hb e => c.keep b u (fun z => hb (.inr z)) e
 exact r1.less fun a z => (c.new a z).elim .inr fun q => .inl (List.mem_filter.mpr ⟨q.1, by rw [q.2]; rfl⟩)
theorem Chg.repO (c : Chg H H' O O' f f') (r : RepO K H O v t e) (he : ∀ b ∈ e, b ∉ f) : RepO K H' O' v t e := by
 have hn : ∀ p ∈ f'.filter (fun b => (H b).isNone), H p = none := fun p hp => by simpa using (List.mem_filter.mp hp).2
 have r1 := (r.moreL hn).keep (fun b u hb e => c.keep b u (fun z => hb (.inr z)) e) fun b hb u eb => c.rest b u (r.owns b hb).1 (he b hb) eb
 exact r1.less (fun a z => (c.new a z).elim .inr fun q => .inl (List.mem_filter.mpr ⟨q.1, by rw [q.2]; rfl⟩)) fun b hb => c.sub b (r.owns b hb).1 (he b hb)
theorem RepO.modAt : ∀ p {v : V} {t u : OT} {fs : List Addr}, RepO K H O v t fs -> fs.Nodup -> subO p t = some u -> ∃ w f, PathV H v p w /\ RepO K H O w u f /\ f.Nodup /\ (∀ b ∈ f, b ∈ fs) ∧
  ∀ {H' : Hp} {O' : Addr -> Prop} {u' : OT} {f' : List Addr}, Chg H H' O O' f f' -> RepO K H' O' w u' f' -> f'.Nodup -> ∃ fs', RepO K H' O' v (putO u' p t) fs' /\ fs'.Nodup /\ (∀ b ∈ fs', b ∈ fs \/ b ∈ f') /\ ∀ b ∈ f', b ∈ fs'
 | [], v, t, u, fs, r, nd, e => by
   cases e
   exact ⟨v, fs, rfl, r, nd, fun _ h => h, fun {H' O' u' f'} c r' nd' => ⟨f', r', nd', fun b hb => .inr hb, fun b hb => hb⟩⟩
 | k :: p, v, t, u, fs, r, nd, e => by
   have core : ∀ {xs : List V} {ts : List OT} {gs : List Addr}, RepsO K H O xs ts gs -> gs.Nodup -> (ts[k]?).bind (subO p) = some u -> ∃ x w f, xs[k]? = some x /\ PathV H x p w /\ RepO K H O w u f /\ f.Nodup /\ (∀ b ∈ f, b ∈ gs) ∧
     ∀ {H' : Hp} {O' : Addr -> Prop} {u' : OT} {f' : List Addr}, Chg H H' O O' f f' -> RepO K H' O' w u' f' -> f'.Nodup -> ∃ gs', RepsO K H' O' xs (ts.modify k (putO u' p)) gs' /\ gs'.Nodup /\ (∀ b ∈ gs', b ∈ gs \/ b ∈ f') /\ ∀ b ∈ f', b ∈ gs' := by
    intro xs ts gs rs nds es
    obtain ⟨t1, ht, es⟩ := bnd es
    obtain ⟨x, pre, f0, post, h1, rfl, h3, h4⟩ := rs.pick ht
    obtain ⟨nf, nfr, nre⟩ := nodup_mid nds
    obtain ⟨w, f, g1, g2, g3, g4, g5⟩ := RepO.modAt p h3 nf es
    have inn : ∀ b ∈ f, b ∈ pre ++ (f0 ++ post) := fun b hb => List.mem_append_right _ (List.mem_append_left _ (g4 b hb))
    refine ⟨x, w, f, h1, g1, g2, g3, inn, fun {H' O' u' f'} c r' nd' => ?_⟩
    obtain ⟨f1, q1, q2, q3, q4⟩ := g5 c r' nd'
    have old : ∀ b, b ∈ pre ++ (f0 ++ post) -> H b ≠ none := fun b hb z => by
     obtain ⟨_, y, ey⟩ := rs.owns b hb
     rw [z] at ey; cases ey
    refine ⟨pre ++ (f1 ++ post), h4 (g := putO u' p) q1 fun y s e hy hb => c.repO hy fun b hb' z => ?_, nre f1 q2 fun b hb => ?_, fun b hb => ?_, fun b hb => List.mem_append_right _ (List.mem_append_left _ (q4 b hb))⟩
    · exact (hb b hb').elim (nfr b (g4 b z)).1 (nfr b (g4 b z)).2
    · rcases q3 b hb with z | z
      · exact .inl z
      · rcases c.fp b z with y | y
        · exact .inl (g4 b y)
        · exact .inr ⟨fun q => old b (List.mem_append_left _ q) y, fun q => old b (List.mem_append_right _ (List.mem_append_right _ q)) y⟩
    · rcases List.mem_append.mp hb with z | z
      · exact .inl (List.mem_append_left _ z)
      · rcases List.mem_append.mp z with z | z
        · exact (q3 b z).imp (fun z => List.mem_append_right _ (List.mem_append_left _ z)) id
        · exact .inl (List.mem_append_right _ (List.mem_append_right _ z))
   have head : ∀ {a0 : Addr} {gs gs' f f' : List Addr} {H' : Hp} {O' : Addr -> Prop}, (a0 :: gs).Nodup -> O a0 -> H a0 ≠ none -> Chg H H' O O' f f' -> gs'.Nodup -> (∀ b ∈ gs', b ∈ gs \/ b ∈ f') -> (∀ b ∈ f, b ∈ gs) -> (a0 :: gs').Nodup /\ (∀ b ∈ a0 :: gs', b ∈ a0 :: gs \/ b ∈ f') /\ a0 ∉ f := by
    intro a0 gs gs' f f' H' O' nd0 oa ha c ndg hg hf
    obtain ⟨n0, _⟩ := List.nodup_cons.mp nd0
    refine ⟨List.nodup_cons.mpr ⟨fun z => ?_, ndg⟩, fun b hb => ?_, fun z => n0 (hf a0 z)⟩
    · rcases hg a0 z with y | y
      · exact n0 y
      · exact (c.fp a0 y).elim (fun q => n0 (hf a0 q)) ha
    · rcases List.mem_cons.mp hb with rfl | z
      · exact .inl (.head _)
      · exact (hg b z).imp (fun y => .tail _ y) id
   cases r with
   | val r => simp [subO] at e
   | tup n h r =>
     obtain ⟨x, w, f, h1, g1, g2, g3, g4, g5⟩ := core r nd e
     refine ⟨w, f, ⟨_, _, x, rfl, .tup h, h1, g1⟩, g2, g3, g4, fun {H' O' u' f'} c r' nd' => ?_⟩
     obtain ⟨gs', q1, q2, q3, q4⟩ := g5 c r' nd'
     refine ⟨gs', ?_, q2, q3, q4⟩
     have kk : Keep O H H' := fun b u hb eb => c.keep b u hb eb
     exact .tup (fun z => (c.new _ z).elim n fun q => Rd.some h q.2) (kk.rd n h) q1
   | lst n h r =>
     obtain ⟨x, w, f, h1, g1, g2, g3, g4, g5⟩ := core r (List.nodup_cons.mp nd).2 e
     refine ⟨w, f, ⟨_, _, x, rfl, .lst h, h1, g1⟩, g2, g3, fun b hb => .tail _ (g4 b hb), fun {H' O' u' f'} c r' nd' => ?_⟩
     obtain ⟨gs', q1, q2, q3, q4⟩ := g5 c r' nd'
     obtain ⟨k1, k2, k3⟩ := head nd n (by rw [h]; simp) c q2 q3 g4
     exact ⟨_ :: gs', .lst (c.sub _ n k3) (c.rest _ _ n k3 h) q1, k1, k2, fun b hb => .tail _ (q4 b hb)⟩
   | dct n h he r =>
     obtain ⟨x, w, f, h1, g1, g2, g3, g4, g5⟩ := core r (List.nodup_cons.mp nd).2 e
     refine ⟨w, f, ⟨_, _, x, rfl, .dct h, h1, g1⟩, g2, g3, fun b hb => .tail _ (g4 b hb), fun {H' O' u' f'} c r' nd' => ?_⟩
     obtain ⟨gs', q1, q2, q3, q4⟩ := g5 c r' nd'
     obtain ⟨k1, k2, k3⟩ := head nd n (by rw [h]; simp) c q2 q3 g4
     exact ⟨_ :: gs', .dct (c.sub _ n k3) (c.rest _ _ n k3 h) he q1, k1, k2, fun b hb => .tail _ (q4 b hb)⟩
   | ins hc n h he r =>
     obtain ⟨x, w, f, h1, g1, g2, g3, g4, g5⟩ := core r (List.nodup_cons.mp nd).2 e
     refine ⟨w, f, ⟨_, _, x, rfl, .ins h, h1, g1⟩, g2, g3, fun b hb => .tail _ (g4 b hb), fun {H' O' u' f'} c r' nd' => ?_⟩
     obtain ⟨gs', q1, q2, q3, q4⟩ := g5 c r' nd'
     obtain ⟨k1, k2, k3⟩ := head nd n (by rw [h]; simp) c q2 q3 g4
     exact ⟨_ :: gs', .ins hc (c.sub _ n k3) (c.rest _ _ n k3 h) he q1, k1, k2, fun b hb => .tail _ (q4 b hb)⟩
theorem Ok.modAt (o : Ok K H₀ H O σ ds hd) (e : ds[i]? = some (.ob r t)) (hs : subO p t = some u) :
  ∃ v w f, σ[i]? = some (some v) /\ PathV H v p w /\ RepO K H O w u f /\ f.Nodup /\ (∀ b ∈ f, H₀ b = none) ∧
   ∀ {H' : Hp} {O' : Addr -> Prop} {u' : OT} {f' : List Addr}, Chg H H' O O' f f' -> (∀ b ∈ f, O' b -> ∃ y : MutHO, H' b = some y.1) -> RepO K H' O' w u' f' -> f'.Nodup -> Ok K H₀ H' O' σ (ds.set i (.ob r (putO u' p t))) hd := by
 obtain ⟨F, hF⟩ := o.obs
 obtain ⟨v, h1, h2, h3, h4, h5⟩ := hF i r t e
 obtain ⟨w, f, g1, g2, g3, g4, g5⟩ := h2.modAt p h4 hs
 have hl : i < ds.length := (List.getElem?_eq_some_iff.mp e).1
 refine ⟨v, w, f, h1, g1, g2, g3, fun b hb => (h5 b (g4 b hb)).1, fun {H' O' u' f'} c hf r' nd' => ?_⟩
 obtain ⟨fs', q1, q2, q3, q4⟩ := g5 c r' nd'
 have own' : ∀ {j : Nat}, IsOwn (ds.set i (.ob r (putO u' p t))) j -> IsOwn ds j /\ j ≠ i := fun h => xG (fun l => by intro z; cases z) h
 have nown : ∀ {j : Nat} {b : Addr}, IsOwn ds j -> σ[j]? = some (some (.ref b)) -> b ∉ f := fun {j b} oj ej z => (h5 b (g4 b z)).2.2 j oj ej
 have free0 : ∀ b, H b = none -> H₀ b = none := fun b hb => o.same.free hb
 refine ⟨fun b x eb => ?_, fun j l b e1 e2 => ?_, fun b hb => ?_, by simpa using o.len, fun j sl es => ?_, fun j m b hjm hj hm e1 e2 => o.apart j m b hjm (own' hj).1 (own' hm).1 e1 e2, fun q hq => ?_, ?_⟩
 · have hb := o.same b x eb
   by_cases ob : O b
   · by_cases bf : b ∈ f
     · rw [(h5 b (g4 b bf)).1] at eb; cases eb
     · exact c.rest b x ob bf hb
   · exact c.keep b x ob hb
 · obtain ⟨⟨l', e'⟩, _⟩ := own' ⟨l, e1⟩
   exact o.fresh j l' b e' e2
 · rcases c.new b hb with z | z
   · by_cases bf : b ∈ f
     · exact hf b bf hb
     · obtain ⟨y, ey⟩ := o.dom b z
       exact ⟨y, c.rest b _ z bf ey⟩
   · exact (r'.owns b z.1).2
 · by_cases hj : j = i
   · subst hj
     rw [List.getElem?_set_self hl] at es
     cases es
     exact jV
   · rw [List.getElem?_set_ne (Ne.symm hj)] at es
     cases sl with
     | no => exact qW
     | ob r t => exact jV
     | exc t =>
       obtain ⟨a', C', ob', x', q1, q2, q3, q4⟩ := o.readX es
       rw [q1]
       refine ⟨C', ob', x', q2, c.keep _ _ (fun z => ?_) q3, q4⟩
       obtain ⟨y, ey⟩ := o.dom _ z
       rw [q3] at ey
       have h2 := y.2
       rw [<- Option.some.inj ey] at h2
       cases h2
     | exf t fs =>
       obtain ⟨a', q1, q3⟩ := o.readE es
       rw [q1]
       refine q3.keep fun a' ob' x' q3 => c.keep _ _ (fun z => ?_) q3
       obtain ⟨y, ey⟩ := o.dom _ z
       rw [q3] at ey
       have h2 := y.2
       rw [<- Option.some.inj ey] at h2
       cases h2
     | fr l' =>
       obtain ⟨a', xs'', q1, q2, q0, q3, q4⟩ := o.readF es
       rw [q1]
       exact ⟨fun z => (c.new _ z).elim q2 (fun y => by rw [y.2] at q3; cases q3), q0, xs'', c.keep _ _ q2 q3, c.reps q4⟩
     | v d =>
       obtain ⟨v, q1, q2⟩ := o.read es
       rw [q1]
       exact jT (c.rep q2)
     | own l'' =>
       obtain ⟨b, ys, q1, q2, q3, q4⟩ := o.readO es
       rw [q1]
       exact ⟨c.sub _ q2 (nown ⟨l'', es⟩ q1), ys, c.rest _ _ q2 (nown ⟨l'', es⟩ q1) q3, c.reps q4⟩
 · have := o.hold q hq
   cases q with
   | rep v d => exact c.rep this
   | base B => exact fun b hb => ⟨c.sub _ (this b hb).1 (fun z => (this b hb).2 (h5 b (g4 b z)).1), (this b hb).2⟩
   | root k a => exact True.intro
   | fz a' o' kvs' l' => exact ⟨fun z => (c.new _ z).elim this.1 (fun y => by have z := this.2.1; rw [y.2] at z; cases z), c.keep _ _ this.1 this.2.1, c.reps this.2.2⟩
 · refine ⟨fun j => if j = i then fs' else F j, fun j r2 t2 ej => ?_⟩
   have fsOld : ∀ b ∈ fs', b ∈ F i \/ H b = none := fun b hb => (q3 b hb).elim .inl fun z => (c.fp b z).imp (g4 b) id
   by_cases hj : j = i
   · subst hj
     rw [List.getElem?_set_self hl] at ej
     cases ej
     refine ⟨v, h1, by simpa using q1, h3, by simpa using q2, fun b hb => ?_⟩
     have hb : b ∈ fs' := by simpa using hb
     rcases fsOld b hb with z | z
     · refine ⟨(h5 b z).1, fun m r3 t3 hm e3 y => ?_, fun m om em => (h5 b z).2.2 m (own' om).1 em⟩
       simp only [hm, if_false] at y
       rw [List.getElem?_set_ne (Ne.symm hm)] at e3
       exact (h5 b z).2.1 m r3 t3 hm e3 y
     · refine ⟨free0 b z, fun m r3 t3 hm e3 y => ?_, fun m om em => ?_⟩
       · simp only [hm, if_false] at y
         rw [List.getElem?_set_ne (Ne.symm hm)] at e3
         obtain ⟨_, _, w3, _⟩ := hF m r3 t3 e3
         obtain ⟨_, x3, ex3⟩ := w3.owns b y
         rw [z] at ex3; cases ex3
       · obtain ⟨⟨l3, e3⟩, _⟩ := own' om
         obtain ⟨b3, ys, y1, _, y3, _⟩ := o.readO e3
         rw [em] at y1; cases y1
         rw [z] at y3; cases y3
   · rw [List.getElem?_set_ne (Ne.symm hj)] at ej
     obtain ⟨w2, y1, y2, y3, y4, y5⟩ := hF j r2 t2 ej
     have apart : ∀ b ∈ F j, b ∉ f := fun b hb z => (h5 b (g4 b z)).2.1 j r2 t2 hj ej hb
     refine ⟨w2, y1, by simp only [hj, if_false]; exact c.repO y2 apart, y3, by simpa [hj] using y4, fun b hb => ?_⟩
     have hb : b ∈ F j := by simpa [hj] using hb
     refine ⟨(y5 b hb).1, fun m r3 t3 hm e3 z => ?_, fun m om em => (y5 b hb).2.2 m (own' om).1 em⟩
     by_cases hmi : m = i
     · simp only [hmi, if_true] at z
       rcases fsOld b z with x | x
       · exact (y5 b hb).2.1 i r t (fun z => hj z.symm) e x
       · obtain ⟨_, x3, ex3⟩ := y2.owns b hb
         rw [x] at ex3; cases ex3
     · simp only [hmi, if_false] at z
       rw [List.getElem?_set_ne (Ne.symm hmi)] at e3
       exact (y5 b hb).2.1 m r3 t3 hm e3 z
end
section
variable (X : Cx)
def PVo (e : Expr) (f : FO) : Prop := ∃ t, PE X e t /\ ∀ H₀ H O σ ds hd T Q, Ok X.K H₀ H O σ ds hd -> f ds = some T -> (∀ v H' fs, Same H H' -> RepO X.K H' (orL fs O) v T fs -> fs.Nodup -> (∀ b ∈ fs, H b = none) -> Q v H') -> t σ H Q
def PAo (es : List Expr) (f : FOs) : Prop := ∃ t, PA X es t /\ ∀ H₀ H O σ ds hd T Q, Ok X.K H₀ H O σ ds hd -> f ds = some T -> (∀ vs H' fs, Same H H' -> RepsO X.K H' (orL fs O) vs T fs -> fs.Nodup -> (∀ b ∈ fs, H b = none) -> Q vs H') -> t σ H Q
def PVp (e : Expr) (f : FP) : Prop := ∃ t, PE X e t /\ ∀ H₀ H O σ ds hd q Q, Ok X.K H₀ H O σ ds hd -> f ds = some q -> (∀ r T v w fs, ds[q.1]? = some (.ob r T) -> subO q.2.1 T = some q.2.2 -> σ[q.1]? = some (some v) -> PathV H v q.2.1 w -> RepO X.K H O w q.2.2 fs -> Q w H) -> t σ H Q
end
section
theorem repsO_vals {K : Frag} : ∀ {xs : List V} {l : List D}, Reps K H O xs l -> RepsO K H O xs (l.map OT.val) []
 | _, _, .nil => .nil
 | _, _, .cons h t => .cons (fs := []) (gs := []) (.val h) (repsO_vals t)
theorem pvo_v (h : PV X e f) : PVo X e (vO f) := by
 obtain ⟨t, ht, hf⟩ := h
 refine ⟨t, ht, fun H₀ H O σ ds hd T Q o e q => ?_⟩
 obtain ⟨d, h1, rfl⟩ := mpd e
 exact hf H₀ H O σ ds hd d Q o h1 fun v H' s r => q v H' [] s (.val (r.less fun a z => z.elim (fun q => nomatch q) id)) .nil (fun b hb => nomatch hb)
theorem pvo_l (h : PVf X e f) : PVo X e (lO f) := by
 obtain ⟨t, ht, hf⟩ := h
 refine ⟨t, ht, fun H₀ H O σ ds hd T Q o e q => ?_⟩
 obtain ⟨l, h1, rfl⟩ := mpd e
 refine hf H₀ H O σ ds hd l Q o h1 fun a xs H' s hn he r => q (.ref a) H' [a] s ?_ (by simp) fun b hb => by rw [List.mem_singleton.mp hb]; exact hn
 exact .lst (.inl (.head _)) he (repsO_vals (r.less fun b z => z.elim (fun q => .inl (List.mem_singleton.mp q)) .inr))
theorem xY : PAo X [] nilO := ⟨_, yF, fun _ H _ _ _ _ _ _ _ e q => by cases e; exact q [] H [] (Same.refl _) .nil .nil (fun b hb => nomatch hb)⟩
theorem pao_cons (ha : PVo X e f) (hr : PAo X es g) (hs : starEach (e :: es) X.env = (false, eval e X.env) :: starEach es X.env := by rfl) : PAo X (e :: es) (consO f g) := by
 obtain ⟨t, ht, hf⟩ := ha
 obtain ⟨t2, ht2, hg⟩ := hr
 refine ⟨_, jC ht ht2 hs, fun H₀ H O σ ds hd T Q o e q => ?_⟩
 obtain ⟨x, h1, e⟩ := bnd e
 obtain ⟨r, h2, rfl⟩ := mpd e
 refine hf H₀ H O σ ds hd x _ o h1 fun v H1 fs s1 r1 nd1 n1 => ?_
 refine hg H₀ H1 (orL fs O) σ ds hd r _ (o.moreL s1 n1 fun b hb => (r1.owns b hb).2) h2 fun vs H2 gs s2 r2 nd2 n2 => ?_
 have eq : ∀ a, orL (fs ++ gs) O a -> orL gs (orL fs O) a := fun a z => z.elim (fun z => (List.mem_append.mp z).elim (fun z => .inr (.inl z)) .inl) fun z => .inr (.inr z)
 refine q _ H2 (fs ++ gs) (s1.trans s2) (.cons ?_ ?_) ?_ ?_
 · exact (((r1.moreL n2).mono s2).less eq fun b hb => .inl (List.mem_append_left _ hb))
 · exact r2.less eq fun b hb => .inl (List.mem_append_right _ hb)
 · rw [List.nodup_append]
   refine ⟨nd1, nd2, fun a ha b hb z => ?_⟩
   obtain ⟨_, xs, ex⟩ := r1.owns a ha
   rw [z, n2 b hb] at ex; cases ex
 · intro b hb
   rcases List.mem_append.mp hb with z | z
   · exact n1 b z
   · exact s1.free (n2 b z)
theorem pvo_s (h : PAo X es g) : PVo X (.List es pos) (sO g) := by
 obtain ⟨t, ht, hf⟩ := h
 refine ⟨_, pe_lst ht, fun H₀ H O σ ds hd T Q o e q => ?_⟩
 obtain ⟨l, h1, e⟩ := bnd e
 split at e
 · rename_i hl
   cases e
   refine hf H₀ H O σ ds hd l _ o h1 fun vs H1 fs s1 r1 nd n1 => ⟨by rw [r1.length]; exact hl, fun p hp => ?_⟩
   have r2 : RepsO X.K (upd H1 p (.lst vs)) (orL (p :: fs) O) vs l fs := by
    have e1 : ∀ a, orL (p :: fs) O a -> orL [p] (orL fs O) a := fun a z => z.elim (fun z => (List.mem_cons.mp z).elim (fun z => .inl (by rw [z]; exact .head _)) fun z => .inr (.inl z)) fun z => .inr (.inr z)
    have mm := r1.more hp
    exact (mm.mono (qL hp _)).less (fun a z => (e1 a z).elim (fun z => .inl (List.mem_singleton.mp z)) .inr) fun b hb => .inl (.tail _ hb)
   refine q _ _ (p :: fs) (s1.trans (qL hp _)) (.lst (.inl (.head _)) zS r2) (List.nodup_cons.mpr ⟨fun z => ?_, nd⟩) fun b hb => ?_
   · obtain ⟨_, xs, ex⟩ := r1.owns p z
     rw [hp] at ex; cases ex
   · rcases List.mem_cons.mp hb with z | z
     · rw [z]; exact s1.free hp
     · exact n1 b z
 · cases e
theorem wG (hN : X.N.Nodup) (he : PVo X e f) (hi : X.N[i]? = some x := by rfl) (hx : Loc X.env.scope x := by first | exact Or.inl rfl | exact Or.inr rfl) (hs : swapsWith e (some (.Name x pos')) pos.line X.env = pure false := by rfl)
  (hf : X.fn x = true \/ X.env.scope.names.lookup x = some .local := by first | exact .inl rfl | exact .inr rfl) : PSv X (.Assign [.Name x pos'] e pos) (setB i f) := by
 obtain ⟨t, ht, hg⟩ := he
 refine ⟨_, ps_set hN hi hx ht hs hf, fun H₀ H O σ ds hd out E o e h => ?_⟩
 obtain ⟨T, h1, rfl⟩ := mpd e
 exact hg H₀ H O σ ds hd T _ o h1 fun v H' fs s r nd n => h _ _ _ (o.setOb s r nd n)
theorem jG i (hN : X.N[i]? = some x := by rfl) (hv : Vis X.env.scope x := by first | exact Or.inl rfl | exact Or.inr (Or.inl rfl) | exact Or.inr (Or.inr rfl)) (hd : (x == ("__debug__" : Str)) = false := by decide)
  (hcd : (x == ("__classdict__" : Str)) = false := by decide) : PVp X (.Name x pos) (varP i) := by
 refine ⟨_, jZ hN hv hd hcd, fun H₀ H O σ ds hd q Q o e h => ?_⟩
 unfold varP at e
 cases hs : ds[i]? with
 | none => rw [hs] at e; cases e
 | some s =>
   rw [hs] at e
   cases s with
   | ob r t =>
     cases e
     obtain ⟨F, hF⟩ := o.obs
     obtain ⟨v, h1, h2, _⟩ := hF i r t hs
     exact ⟨v, h1, h r t v v _ hs rfl h1 rfl h2⟩
   | _ => cases e
theorem atI_nat {xs : List α} {k : Nat} {x : α} (h : xs[k]? = some x) : atI xs (k : Int) = some x := by
 have hk := (List.getElem?_eq_some_iff.mp h).1
 unfold atI ixN
 rw [if_pos (by lia), if_pos (by lia)]
 simpa using h
theorem RepsO.nth {K : Frag} {k : Nat} (h : RepsO K H O xs ts fs) (e : ts[k]? = some t) : ∃ x f, xs[k]? = some x /\ RepO K H O x t f := by
 obtain ⟨x, _, f, _, h1, _, h3, _⟩ := h.pick e
 exact ⟨x, f, h1, h3⟩
theorem Chg.ofUpd (oa : O a) (ha : a ∈ f) (hf : ∀ b ∈ f', b ∈ f) : Chg H (upd H a y) O O f f' :=
 ⟨fun b u nb e => by have z : b ≠ a := fun z => nb (by rw [z]; exact oa); rw [L2.upd_ne z]; exact e, fun b u _ nb e => by have z : b ≠ a := fun z => nb (by rw [z]; exact ha); rw [L2.upd_ne z]; exact e, fun _ z _ => z, fun _ z => .inl z, fun b hb => .inl (hf b hb)⟩
theorem psv_clrP (he : PVp X e f) (hline : (p2.endLine == p3.line) = true := by rfl)
  (hbase : attributeBase e "clear" X.env (eval e X.env) = eval e X.env := by rfl) (hsw : swapsWith (.Call (.Attribute e "clear" p2) [] [] p3) none pos.line X.env = pure false := by rfl) :
  PSv X (.Expr (.Call (.Attribute e "clear" p2) [] [] p3) pos) (clrP f) := by
 obtain ⟨t, ht, hf⟩ := he
 refine ⟨_, yR (pe_bm0 PySem.F.plainAttrs_list PySem.F.slot_list_clear PySem.F.type_list_clear mt_clear ht hbase hline) hsw, fun H₀ H O σ ds hd out E o e h => ?_⟩
 obtain ⟨q, h1, e⟩ := bnd e
 split at e
 · rename_i hu
   cases e
   refine hf H₀ H O σ ds hd q _ o h1 fun r T v w fs g1 g2 g3 g4 _ => ?_
   obtain ⟨v', w', f', y1, y2, y3, y4, y5, y6⟩ := o.modAt g1 g2
   rw [g3] at y1
   cases y1
   cases jY g4 y2
   cases hq : q.2.2 with
   | lst l =>
     rw [hq] at y3
     cases y3 with
     | @lst a xs _ fs' n hb rs =>
       have ok := y6 (.ofUpd n (.head _) fun b z => by rw [List.mem_singleton.mp z]; exact .head _) (fun b z _ => ?_) (.lst n zS .nil) (by simp)
       · have e' : putP q (.lst []) ds = ds.set q.1 (.ob r (putO (.lst []) q.2.1 T)) := by simp [putP, g1]
         rw [e'] at h
         exact ⟨.inl ⟨rfl, xs, SqL.of hb⟩, a, xs, rfl, rfl, hb, h _ _ _ ok⟩
       · by_cases z' : b = a
         · rw [z', zS]; exact ⟨⟨.lst [], rfl⟩, rfl⟩
         · rw [upd_ne z']
           rcases List.mem_cons.mp z with q' | q'
           · exact (z' q').elim
           · exact (rs.owns b q').2
   | _ => rw [hq] at hu; cases hu
 · cases e
section
end
mutual
theorem RepO.flatten {K : Frag} {H : Hp} {O O' : Addr -> Prop} (ho : ∀ a, O a -> Old H a) : ∀ {v : V} {t : OT} {fs : List Addr}, flatO t = true -> RepO K H O' v t fs -> (∀ b ∈ fs, O b) -> RepO K H O v t fs
 | _, _, _, f, .val r, _ => .val (Rep.flatten ho (by simpa [flatO] using f) r)
 | _, _, _, f, .lst n h r, hb => .lst (hb _ (.head _)) h (RepsO.flatten ho (by simpa [flatO] using f) r fun b z => hb b (.tail _ z))
 | _, _, _, f, .dct n h e r, hb => .dct (hb _ (.head _)) h e (RepsO.flatten ho (by simpa [flatO] using f) r fun b z => hb b (.tail _ z))
 | _, _, _, f, .ins c n h e r, hb => .ins c (hb _ (.head _)) h e (RepsO.flatten ho (by simpa [flatO] using f) r fun b z => hb b (.tail _ z))
 | _, _, _, f, .tup (a := a) n h r, hb => .tup (fun z => by
    obtain ⟨u, e, m⟩ := ho a z
    rcases h with h | ⟨o, h⟩
    · rw [e] at h; cases h; cases m
    · rw [e] at h; cases h; cases m) h (RepsO.flatten ho (by simpa [flatO] using f) r hb)
theorem RepsO.flatten {K : Frag} {H : Hp} {O O' : Addr -> Prop} (ho : ∀ a, O a -> Old H a) : ∀ {v : List V} {t : List OT} {fs : List Addr}, flatOs t = true -> RepsO K H O' v t fs -> (∀ b ∈ fs, O b) -> RepsO K H O v t fs
 | _, _, _, _, .nil, _ => .nil
 | _, _, _, f, .cons h r, hb => by
   simp only [flatOs, Bool.and_eq_true] at f
   exact .cons (RepO.flatten ho f.1 h fun b z => hb b (List.mem_append_left _ z)) (RepsO.flatten ho f.2 r fun b z => hb b (List.mem_append_right _ z))
end
end
section
end
section
variable {K : Frag}
theorem Kid.mono (s : Same H H') (h : Kid H b xs) : Kid H' b xs := by
 cases h with
 | tup h => exact .tup (Keep.rd (O := jH) (.of_same s) (fun z => z) h)
 | lst h => exact .lst (s _ _ h)
 | dct h => exact .dct (s _ _ h)
 | ins h => exact .ins (s _ _ h)
theorem jX (s : Same H H') : ∀ {p : List Nat} {v w : V}, PathV H v p w -> PathV H' v p w
 | [], _, _, h => h
 | _ :: _, _, _, ⟨b, xs, x, h1, h2, h3, h4⟩ => ⟨b, xs, x, h1, h2.mono s, h3, jX s h4⟩
theorem RepsO.put : ∀ {xs : List V} {ts : List OT} {fs : List Addr} {k : Nat} {t : OT}, RepsO K H O xs ts fs -> ts[k]? = some t -> ∃ pre f post, fs = pre ++ (f ++ post) ∧
  ∀ {H' : Hp} {O' : Addr -> Prop} {v : V} {T : OT} {f' : List Addr}, RepO K H' O' v T f' -> (∀ y s e, RepO K H O y s e -> (∀ b ∈ e, b ∈ pre \/ b ∈ post) -> RepO K H' O' y s e) -> RepsO K H' O' (xs.set k v) (ts.set k T) (pre ++ (f' ++ post))
 | _, _, _, 0, t, .cons (x := x) (fs := f) (gs := gs) h r, e => by
   refine ⟨[], f, gs, rfl, fun {H' O' v T f'} h' ho => ?_⟩
   have : ∀ {xs : List V} {ts : List OT} {gs' : List Addr}, RepsO K H O xs ts gs' -> (∀ b ∈ gs', b ∈ gs) -> RepsO K H' O' xs ts gs' := by
    intro xs ts gs' h
    induction xs generalizing ts gs' with
    | nil => intro _; cases h; exact .nil
    | cons y ys ih =>
      intro hb
      cases h with
      | cons h1 h2 => exact .cons (ho _ _ _ h1 fun b z => .inr (hb b (List.mem_append_left _ z))) (ih h2 fun b z => hb b (List.mem_append_right _ z))
   show RepsO K H' O' (v :: _) (T :: _) (f' ++ gs)
   exact .cons h' (this r fun _ z => z)
 | _, _, _, k + 1, t, .cons (x := x) (t := t0) (fs := f0) (gs := gs) h r, e => by
   obtain ⟨pre, f, post, h2, h4⟩ := RepsO.put (k := k) (t := t) r (by simpa using e)
   refine ⟨f0 ++ pre, f, post, by rw [h2]; simp, fun {H' O' v T f'} h' ho => ?_⟩
   have q := h4 h' fun z s e' hz hb => ho z s e' hz fun b hb' => (hb b hb').elim (fun z => .inl (List.mem_append_right _ z)) .inr
   have := RepsO.cons (ho _ _ _ h fun b hb => .inl (List.mem_append_left _ hb)) q
   simpa [List.append_assoc] using this
theorem putF_at : ∀ {kvs : List (Str × V)} {i : Nat}, (kvs.map (·.1))[i]? = some f -> (∀ j, j < i -> (kvs.map (·.1))[j]? ≠ some f) -> (putF f v kvs).map (·.1) = kvs.map (·.1) /\ (putF f v kvs).map (·.2) = (kvs.map (·.2)).set i v
 | [], _, h, _ => by simp at h
 | (g, x) :: r, 0, h, _ => by
   simp at h
   subst h
   simp [putF]
 | (g, x) :: r, i + 1, h1, h2 => by
   have hg : g ≠ f := fun z => h2 0 (by omega) (by simp [z])
   have := putF_at (v := v) (kvs := r) (i := i) (by simpa using h1) (fun j hj => by have := h2 (j + 1) (by omega); simpa using this)
   simp [putF, hg, this.1, this.2]
end
section
theorem kG (hF : FldOk X.K n ix) (he : PVp X e f) (hb : attributeBase e n X.env (eval e X.env) = eval e X.env := by rfl) : PVp X (.Attribute e n pos) (atP ix f) := by
 obtain ⟨t, ht, hf⟩ := he
 refine ⟨_, pe_fld ht hb, fun H₀ H O σ ds hd q Q o e h => ?_⟩
 obtain ⟨q0, h1, e⟩ := bnd e
 refine hf H₀ H O σ ds hd q0 _ o h1 fun r T v w fs g1 g2 g3 g4 g5 => ?_
 cases hu : q0.2.2 with
 | ins c l =>
   rw [hu] at e g5
   obtain ⟨k, hl, e⟩ := bnd e
   obtain ⟨u, hk, rfl⟩ := mpd e
   cases g5 with
   | @ins a C dx _ kvs _ fs' hc n ha ek rs =>
     obtain ⟨y1, y2, y3⟩ := hF c k hl
     obtain ⟨cl, na⟩ := y3 C hc
     obtain ⟨x, f2, z1, z2⟩ := rs.nth hk
     refine ⟨a, C, dx, kvs, x, rfl, ha, cl, na, wC (by rw [ek]; exact y1) (by rw [ek]; exact y2) z1, h r T v x f2 g1 ?_ g3 (xR g4 (.ins ha) z1) z2⟩
     rw [yO, g2, hu]
     simp [subO, hk]
 | _ => rw [hu] at e; cases e
theorem vS (he : PVp X e f) : PV X e (valP f) := by
 obtain ⟨t, ht, hf⟩ := he
 refine ⟨t, ht, fun H₀ H O σ ds hd d Q o e q => ?_⟩
 obtain ⟨q0, h1, e⟩ := bnd e
 refine hf H₀ H O σ ds hd q0 _ o h1 fun r T v w fs g1 g2 g3 g4 g5 => ?_
 cases hu : q0.2.2 with
 | val d' =>
   rw [hu] at e g5
   cases e
   cases g5 with
   | val r5 => exact q w H (Same.refl _) r5
 | _ => rw [hu] at e; cases e
theorem wS (hF : FldOk X.K n ix) (ho : PVp X oe f) (he : PVo X e g) (hs : swapsWith e (some (.Attribute oe n pos')) pos.line X.env = pure false := by rfl) :
  PSv X (.Assign [.Attribute oe n pos'] e pos) (setAt ix f g) := by
 obtain ⟨tp, hp, hfp⟩ := ho
 obtain ⟨tv, hv, hg⟩ := he
 refine ⟨_, ps_fld hp hv hs, fun H₀ H O σ ds hd out E o e h => ?_⟩
 obtain ⟨T, h1, e⟩ := bnd e
 obtain ⟨q, h2, e⟩ := bnd e
 refine hg H₀ H O σ ds hd T _ o h1 fun v H1 fs s1 r1 nd1 n1 => ?_
 have o1 := o.moreL s1 n1 fun b hb => (r1.owns b hb).2
 refine hfp H₀ H1 (orL fs O) σ ds hd q _ o1 h2 fun r T0 v0 w fs0 g1 g2 g3 g4 g5 => ?_
 obtain ⟨v', w', f', y1, y2, y3, y4, y5, y6⟩ := o.modAt g1 g2
 rw [g3] at y1
 cases y1
 cases jY g4 (jX s1 y2)
 cases hq : q.2.2 with
 | ins t l =>
   rw [hq] at y3 e
   obtain ⟨k, hl, e⟩ := bnd e
   split at e
   · rename_i hk
     cases e
     cases y3 with
     | @ins a C dx _ kvs _ fs' c na ha ek rs =>
       obtain ⟨z1, z2, z3⟩ := hF t k hl
       obtain ⟨cl, nat⟩ := z3 C c
       have ln : kvs.length = l.length := by simpa using rs.length
       refine ⟨a, C, dx, kvs, rfl, s1 _ _ ha, cl, nat, by lia, ?_⟩
       obtain ⟨pre, f0, post, e0, put⟩ := rs.put (List.getElem?_eq_getElem hk.1)
       subst e0
       obtain ⟨n3, n4⟩ := List.nodup_cons.mp y4
       obtain ⟨nf, nfr, nre⟩ := nodup_mid n4
       have old : ∀ b, H b = none -> b ∉ a :: (pre ++ (f0 ++ post)) := fun b hb z => by
        rcases List.mem_cons.mp z with z | z
        · rw [z, ha] at hb; cases hb
        · obtain ⟨_, x, ex⟩ := rs.owns b z
          rw [hb] at ex; cases ex
       have afs : a ∉ fs := fun z => by rw [n1 a z] at ha; cases ha
       obtain ⟨p1, p2⟩ := putF_at (by rw [ek]; exact z1) (by rw [ek]; exact z2)
       have hs' : ∀ b u, b ≠ a -> H b = some u -> upd H1 a (.ins C dx (putF n v kvs)) b = some u := fun b u nb eb => by rw [L2.upd_ne nb]; exact s1 _ _ eb
       have nO : ∀ {b : Addr}, ¬ O b -> b ≠ a := fun nb z => nb (by rw [z]; exact na)
       have c0 : Chg H (upd H1 a (.ins C dx (putF n v kvs))) O (orL fs O) [a] (a :: fs) :=
        ⟨fun b u nb eb => hs' b u (nO nb) eb, fun b u _ nb eb => hs' b u (fun z => nb (by rw [z]; exact .head _)) eb, fun b z _ => .inr z, fun b z => z.elim (fun z => .inr ⟨.tail _ z, n1 b z⟩) .inl, fun b z => (List.mem_cons.mp z).elim (fun z => .inl (by rw [z]; exact .head _)) fun z => .inr (n1 b z)⟩
       have rT : RepO X.K (upd H1 a (.ins C dx (putF n v kvs))) (orL fs O) v T fs := r1.keep (fun b u nb eb => by rw [L2.upd_ne (nO fun z => nb (.inr z))]; exact eb) fun b hb u eb => by
        have z : b ≠ a := fun z => afs (by rw [<- z]; exact hb)
        rw [L2.upd_ne z]; exact eb
       have rs' := put rT fun y s e hy hb => c0.repO hy fun b hb' z => n3 (by
        rw [<- List.mem_singleton.mp z]
        exact (hb b hb').elim (fun z => List.mem_append_left _ z) fun z => List.mem_append_right _ (List.mem_append_right _ z))
       have ok := y6 (O' := orL fs O)
        ⟨fun b u nb eb => hs' b u (nO nb) eb, fun b u _ nb eb => hs' b u (fun z => nb (by rw [z]; exact .head _)) eb, fun b z _ => .inr z, fun b z => z.elim (fun z => .inr ⟨.tail _ (List.mem_append_right _ (List.mem_append_left _ z)), n1 b z⟩) .inl, fun b z => ?_⟩
        (fun b z _ => ?_) (.ins c (.inr na) zS (p1.trans ek) (by rw [p2]; exact rs')) (List.nodup_cons.mpr ⟨fun z => ?_, nre fs nd1 fun b z => .inr ?_⟩)
       · have e' : putP q (.ins t (l.set k T)) ds = ds.set q.1 (.ob r (putO (.ins t (l.set k T)) q.2.1 T0)) := by simp [putP, g1]
         rw [e'] at h
         exact h _ _ _ ok
       · rcases List.mem_cons.mp z with z | z
         · exact .inl (by rw [z]; exact .head _)
         · rcases List.mem_append.mp z with z | z
           · exact .inl (.tail _ (List.mem_append_left _ z))
           · rcases List.mem_append.mp z with z | z
             · exact .inr (n1 b z)
             · exact .inl (.tail _ (List.mem_append_right _ (List.mem_append_right _ z)))
       · by_cases z' : b = a
         · rw [z', zS]; exact ⟨⟨.ins C dx (putF n v kvs), rfl⟩, rfl⟩
         · rcases List.mem_cons.mp z with q' | q'
           · exact (z' q').elim
           · obtain ⟨_, y, ey⟩ := rs.owns b q'
             exact ⟨y, hs' b _ z' ey⟩
       · rcases List.mem_append.mp z with z | z
         · exact n3 (List.mem_append_left _ z)
         · rcases List.mem_append.mp z with z | z
           · exact afs z
           · exact n3 (List.mem_append_right _ (List.mem_append_right _ z))
       · have := old b (n1 b z)
         exact ⟨fun y => this (.tail _ (List.mem_append_left _ y)), fun y => this (.tail _ (List.mem_append_right _ (List.mem_append_right _ y)))⟩
   · cases e
 | _ => rw [hq] at e; cases e
theorem RepsO.snoc {K : Frag} : ∀ {xs : List V} {ts : List OT} {fs : List Addr} {v : V} {d : D}, RepsO K H O xs ts fs -> Rep K H O v d -> RepsO K H O (xs ++ [v]) (ts ++ [.val d]) fs
 | _, _, _, _, _, .nil, r => .cons (fs := []) (gs := []) (.val r) .nil
 | _, _, _, _, _, .cons h t, r => .cons h (RepsO.snoc t r)
theorem Ok.putL {K : Frag} (o : Ok K H₀ H O σ ds hd) (e : ds[i]? = some (.ob r T)) (hs : subO p T = some (.lst l)) (hv : σ[i]? = some (some v)) (hp : PathV H v p (.ref a))
  (h : ∀ xs fs, H a = some (.lst xs) -> O a -> RepsO K H O xs l fs -> fs.Nodup -> a ∉ fs -> ∃ fs', (∀ b ∈ fs', b ∈ fs) /\ fs'.Nodup /\ ∀ {H' : Hp}, Chg H H' O O [a] [a] -> RepsO K H' O ys l' fs') : Ok K H₀ (upd H a (.lst ys)) O σ (ds.set i (.ob r (putO (.lst l') p T))) hd := by
 obtain ⟨v', w', f, y1, y2, y3, y4, y5, y6⟩ := o.modAt e hs
 rw [hv] at y1
 cases y1
 cases jY hp y2
 cases y3 with
 | @lst _ xs _ fs n hb rs =>
   obtain ⟨n3, n4⟩ := List.nodup_cons.mp y4
   obtain ⟨fs', w1, w2, w3⟩ := h xs fs hb n rs n4 n3
   refine y6 (.ofUpd n (.head _) fun b z => (List.mem_cons.mp z).elim (fun z => by rw [z]; exact .head _) fun z => .tail _ (w1 b z)) (fun b z _ => ?_) (.lst n zS (w3 (.ofUpd n (.head _) fun _ z => z))) (List.nodup_cons.mpr ⟨fun z => n3 (w1 _ z), w2⟩)
   by_cases z' : b = a
   · rw [z', zS]; exact ⟨⟨.lst ys, rfl⟩, rfl⟩
   · rw [upd_ne z']
     rcases List.mem_cons.mp z with q' | q'
     · exact (z' q').elim
     · exact (rs.owns b q').2
theorem Chg.repsO {K : Frag} (c : Chg H H' O O' f f') : ∀ {v : List V} {t : List OT} {e : List Addr}, RepsO K H O v t e -> (∀ b ∈ e, b ∉ f) -> RepsO K H' O' v t e
 | _, _, _, .nil, _ => .nil
 | _, _, _, .cons h r, he => .cons (c.repO h fun b z => he b (List.mem_append_left _ z)) (Chg.repsO c r fun b z => he b (List.mem_append_right _ z))
theorem psv_appP (ho : PVp X oe f) (he : PV X e fe)
  (hfew : ((backTo p3 (starEach [e] X.env)).all (fun x => !x.1) && (backToKw p3 (keywordEach [] X.env)).all (fun x => x.1.isSome)
    && decide ([e].length + ([] : List Keyword).length + (if ([] : List Keyword).isEmpty then 0 else 1) < 30)) = true := by rfl)
  (hline : (p2.endLine == p3.line) = true := by rfl) (hs : starEach [e] X.env = (false, eval e X.env) :: starEach [] X.env := by rfl)
  (hbase : attributeBase oe "append" X.env (eval oe X.env) = eval oe X.env := by rfl) (hsw : swapsWith (.Call (.Attribute oe "append" p2) [e] [] p3) none pos.line X.env = pure false := by rfl) :
  PSv X (.Expr (.Call (.Attribute oe "append" p2) [e] [] p3) pos) (appP f fe) := by
 obtain ⟨tp, hp, hf⟩ := ho
 obtain ⟨te, pe, he⟩ := he
 refine ⟨_, yR (pe_bm PySem.F.plainAttrs_list PySem.F.slot_list_append PySem.F.type_list_append wO hp (jC pe yF hs) hbase hfew hline hs rfl) hsw, fun H₀ H O σ ds hd out E o e h => ?_⟩
 obtain ⟨q, h1, e⟩ := bnd e
 obtain ⟨d, h2, e⟩ := bnd e
 refine hf H₀ H O σ ds hd q _ o h1 fun r T v w fs g1 g2 g3 g4 g5 => ?_
 cases hq : q.2.2 with
 | lst l =>
   rw [hq] at e g2 g5
   simp only at e
   split at e
   · rename_i hl
     cases e
     cases g5 with
     | @lst a xs _ fs' n hb rs =>
       refine ⟨.inl ⟨rfl, xs, SqL.of hb⟩, ?_⟩
       refine he H₀ H O σ ds hd d _ o h2 fun v1 H1 s1 r1 => ?_
       refine ⟨a, xs, v1, rfl, rfl, s1 _ _ hb, by rw [rs.length]; exact hl, ?_⟩
       have ok := (o.mono s1).putL g1 g2 g3 (jX s1 g4) fun xs2 fs2 k1 k2 k3 k4 k5 => ⟨fs2, fun _ z => z, k4, fun {H'} c => by
        rw [s1 _ _ hb] at k1
        cases k1
        exact (c.repsO k3 fun b z y => k5 (List.mem_singleton.mp y ▸ z)).snoc (c.rep r1)⟩
       have e' : putP q (.lst (l ++ [.val d])) ds = ds.set q.1 (.ob r (putO (.lst (l ++ [.val d])) q.2.1 T)) := by simp [putP, g1]
       rw [e'] at h
       exact h _ _ _ ok
   · cases e
 | _ => rw [hq] at e; cases e
end
section
variable {K : Frag}
theorem RepO.frz {v : V} {t : OT} {fs : List Addr} (r : RepO K H O v t fs) (h : ∀ a, O' a -> O a /\ a ∉ fs) : Rep K H O' v (otD t) := r.val' h
theorem Ok.frz {σ : L2.St} {ds : List Sl} {hd : Hold} {i : Nat} {r : Option Nat} {T : OT} (o : Ok K H₀ H O σ ds hd) (e : ds[i]? = some (.ob r T)) : ∃ O', Ok K H₀ H O' σ (ds.set i (.v (otD T))) hd := by
 obtain ⟨F, hF⟩ := o.obs
 obtain ⟨v, h1, h2, h3, h4, h5⟩ := hF i r T e
 have hl : i < ds.length := (List.getElem?_eq_some_iff.mp e).1
 let O' : Addr -> Prop := fun b => O b /\ b ∉ F i
 have sub : ∀ b, O' b -> O b := fun b hb => hb.1
 have own' : ∀ {j : Nat}, IsOwn (ds.set i (.v (otD T))) j -> IsOwn ds j /\ j ≠ i := fun h => xG (fun l => by intro z; cases z) h
 refine ⟨O', o.same, fun j l' b e1 e2 => ?_, fun b hb => o.dom b (sub b hb), by simpa using o.len, fun j s es => ?_, fun j m b hjm hj hm e1 e2 => o.apart j m b hjm (own' hj).1 (own' hm).1 e1 e2, fun p hp => ?_, ?_⟩
 · obtain ⟨⟨l2, e2'⟩, _⟩ := own' ⟨l', e1⟩
   exact o.fresh j l2 b e2' e2
 · by_cases hj : j = i
   · subst hj
     rw [List.getElem?_set_self hl] at es
     cases es
     rw [h1]
     exact jT (h2.frz fun a z => z)
   · rw [List.getElem?_set_ne (Ne.symm hj)] at es
     cases s with
     | no => exact qW
     | ob r t => exact jV
     | exc t =>
       obtain ⟨a', C', ob', u', q1, q2, q3, q4⟩ := o.readX es
       rw [q1]
       exact ⟨C', ob', u', q2, q3, q4⟩
     | exf t fs =>
       obtain ⟨a', q1, q3⟩ := o.readE es
       rw [q1]
       exact q3.keep fun a' ob' u' q3 => q3
     | fr l' =>
       obtain ⟨a', xs', q1, q2, q0, q3, q4⟩ := o.readF es
       rw [q1]
       exact ⟨fun z => q2 (sub _ z), q0, xs', q3, q4.less sub⟩
     | v d =>
       obtain ⟨v, q1, q2⟩ := o.read es
       rw [q1]
       exact jT (q2.less sub)
     | own l' =>
       obtain ⟨b, ys, q1, q2, q3, q4⟩ := o.readO es
       rw [q1]
       exact ⟨⟨q2, fun z => (h5 b z).2.2 j ⟨l', es⟩ q1⟩, ys, q3, q4.less sub⟩
 · have := o.hold p hp
   cases p with
   | rep v d => exact Rep.less sub this
   | base B => exact fun b hb => ⟨⟨(this b hb).1, fun z => (this b hb).2 (h5 b z).1⟩, (this b hb).2⟩
   | root k a => exact True.intro
   | fz a' o' kvs' l' => exact ⟨fun z => this.1 (sub _ z), this.2.1, Reps.less sub this.2.2⟩
 · refine ⟨F, fun j r' t' ej => ?_⟩
   obtain ⟨ej, hj⟩ := wD (fun r t => by intro z; cases z) ej
   obtain ⟨w, g1, g2, g3, g4, g5⟩ := hF j r' t' ej
   refine ⟨w, g1, g2.less sub fun b hb => ⟨(g2.owns b hb).1, fun z => (h5 b z).2.1 j r' t' hj ej hb⟩, g3, g4, fun b hb => ⟨(g5 b hb).1, fun m r2 t2 hm em => (g5 b hb).2.1 m r2 t2 hm (wD (fun r t => by intro z; cases z) em).1, fun m om em => (g5 b hb).2.2 m (own' om).1 em⟩⟩
end
section
end
noncomputable def spL (K : Frag) (n : Nat) (F : OT -> List D -> Option OT) : Sp := fun vs H Q _ => ∃ (a : Addr) (T T' : OT) (fs : List Addr) (B : Addr -> Prop) (vs' : List V) (l : List D), vs = .ref a :: vs' /\ vs'.length = n /\ RepO K H (orL fs B) (.ref a) T fs /\ fs.Nodup ∧
 (∀ b, B b -> b ∉ fs /\ ∃ u : MutHO, H b = some u.1) /\ Reps K H (orL fs B) vs' l /\ F T l = some T' ∧
 ∀ H' fs', (∀ b u, b ∉ fs -> H b = some u -> H' b = some u) -> RepO K H' (orL fs' B) (.ref a) T' fs' -> fs'.Nodup -> (∀ b ∈ fs', b ∈ fs \/ H b = none) -> Q .non H'
noncomputable def cutH (fs : List Addr) (H : Hp) : Hp := fun b => if b ∈ fs then none else H b
theorem vM (h : b ∈ fs) : cutH fs H b = none := if_pos h
theorem yP (h : b ∉ fs) : cutH fs H b = H b := if_neg h
theorem cutH_none (h : cutH fs H b = none) : b ∈ fs \/ H b = none := by
 by_cases z : b ∈ fs
 · exact .inl z
 · rw [yP z] at h; exact .inr h
theorem wW : ¬ IsOwn (argsL n T l) i := fun ⟨l', e⟩ => by
 unfold argsL at e
 cases i with
 | zero => cases e
 | succ i =>
   rw [List.getElem?_cons_succ] at e
   unfold args at e
   by_cases hi : i < l.length
   · rw [List.getElem?_append_left (by simpa using hi), List.getElem?_map] at e
     cases h : l[i]? with
     | none => rw [h] at e; cases e
     | some d => rw [h] at e; cases e
   · rw [List.getElem?_append_right (by simpa using hi), List.getElem?_replicate] at e
     split at e <;> cases e
theorem ok_startL {K : Frag} (rt : RepO K H (orL fs B) (.ref a) T fs) (nd : fs.Nodup) (hB : ∀ b, B b -> b ∉ fs /\ ∃ u : MutHO, H b = some u.1) (r : Reps K H (orL fs B) vs l) (hN : 0 < N.length) :
  Ok K (cutH fs H) H (orL fs B) (L2.start N (.ref a :: vs)) (argsL N.length T l) [.root 0 a, .base B] := by
 have hl := r.length
 refine ⟨fun b u e => ?_, fun i l' a' e _ => (wW ⟨l', e⟩).elim, fun b hb => hb.elim (fun z => (rt.owns b z).2) fun z => (hB b z).2, ?_, fun i s e => ?_, fun i j a _ hi _ _ _ => (wW hi).elim, fun p hp => ?_, ?_⟩
 · by_cases z : b ∈ fs
   · rw [vM z] at e; cases e
   · rwa [yP z] at e
 · simp [L2.start, argsL, args, List.length_append, List.length_map, List.length_replicate, List.length_cons, hl]
   lia
 · unfold argsL at e
   cases i with
   | zero => cases e; exact jV
   | succ i =>
     rw [List.getElem?_cons_succ] at e
     have eσ : (L2.start N (.ref a :: vs))[i + 1]? = (vs.map some ++ List.replicate (N.length - (vs.length + 1)) none)[i]? := by
      simp [L2.start, List.map_cons, List.cons_append, List.getElem?_cons_succ, List.length_cons]
     rw [eσ]
     unfold args at e
     by_cases hi : i < l.length
     · rw [List.getElem?_append_left (by simpa using hi), List.getElem?_map] at e
       rw [List.getElem?_append_left (by simpa [hl] using hi), List.getElem?_map]
       obtain ⟨d, h, rfl⟩ := mpd e
       obtain ⟨v, h1, h2⟩ := r.get h
       rw [h1]
       exact jT h2
     · rw [List.getElem?_append_right (by simpa using hi), List.getElem?_replicate] at e
       split at e
       · cases e; exact qW
       · cases e
 · rcases List.mem_cons.mp hp with rfl | hp
   · exact True.intro
   · cases List.mem_singleton.mp hp
     refine fun b hb => ⟨.inr hb, fun z => ?_⟩
     obtain ⟨n, u, e⟩ := hB b hb
     rw [yP n, e] at z; cases z
 · refine ⟨fun i => if i = 0 then fs else [], fun i r' t' e => ?_⟩
   cases i with
   | succ i =>
     unfold argsL at e
     exact (args_ob _ _ _ _ _ e).elim
   | zero =>
     cases e
     refine ⟨.ref a, rfl, by simpa using rt, fun k a' ek h => ?_, by simpa using nd, fun b hb => ⟨vM (by simpa using hb), fun j r2 t2 hj _ => by simp [hj], fun j oj => (wW oj).elim⟩⟩
     rcases List.mem_cons.mp h with h | h
     · cases h; rfl
     · cases List.mem_singleton.mp h
theorem fun_okLG {K : Frag} {st : Stmt}
  (hok : ∀ sp, (∀ vs H Q E, sp vs H Q E -> vs.length = ps.length) -> (∀ cdv A outer s H vs Q E, Room k (A.deeper (envOfC qual (zF st) s.heap.objs.size f cdv)) -> sp vs H Q E -> ∃ t, PSs (cxOf CX0 P w K mg base N qual (zF st) f cdv A outer s H E).nox (qV st) t /\ t { nx := fun _ H' => Q .non H', rt := Q } (start N vs) H) -> FnOk P w K mg base CX0 (k + 1) f fd ps sp)
  (hbody : ∀ cdv A outer s H E, Room k (A.deeper (envOfC qual (zF st) s.heap.objs.size f cdv)) -> PSsv (cxOf CX0 P w K mg base N qual (zF st) f cdv A outer s H E).nox (qV st) g)
  (hg : ∀ T l T', l.length = n -> F T l = some T' -> lentF g N.length T l = some T') (hn : ps.length = n + 1 := by rfl) (hN : 0 < N.length := by decide) : FnOk P w K mg base CX0 (k + 1) f fd ps (spL K n F) := by
 refine hok _ (fun vs H Q E h => ?_) (fun cdv A outer s H vs Q E hr h => ?_)
 · obtain ⟨a, T, T', fs, B, vs', l, rfl, hl, _⟩ := h
   simp [List.length_cons]; lia
 · obtain ⟨a, T, T', fs, B, vs', l, rfl, hl, rt, nd, hB, ra, e, q⟩ := h
   obtain ⟨t, ht, hf⟩ := hbody cdv A outer s H E hr
   refine ⟨t, ht, ?_⟩
   have o := ok_startL rt nd hB ra hN
   have e := hg T l T' (by rw [<- ra.length]; exact hl) e
   unfold lentF at e
   cases h1 : g (argsL N.length T l) with
   | none => rw [h1] at e; cases e
   | some out =>
     rw [h1] at e
     cases out with
     | nx ds =>
       simp only at e
       cases h2 : ds[0]? with
       | none => rw [h2] at e; cases e
       | some s0 =>
         rw [h2] at e
         cases s0 with
         | ob r T2 =>
           have hr0 : r = some 0 /\ T2 = T' := by
            cases r with
            | none => cases e
            | some i =>
              cases i with
              | zero => cases e; exact ⟨rfl, rfl⟩
              | succ i => cases e
           obtain ⟨rfl, rfl⟩ := hr0
           refine hf _ H _ _ _ _ _ _ o h1 (fun σ H' O' o' => ?_)
           obtain ⟨F', hF⟩ := o'.obs
           obtain ⟨v, y1, y2, y3, y4, y5⟩ := hF 0 _ _ h2
           cases y3 0 a rfl (.head _)
           have hb := o'.hold (.base B) (.tail _ (.head _))
           exact q H' (F' 0) (fun b u nb eb => o'.same b u (by rw [yP nb]; exact eb)) (y2.less (fun b z => z.elim (fun z => (y2.owns b z).1) fun z => (hb b z).1) fun b z => .inl z) y4 fun b z => cutH_none (y5 b z).1
         | _ => cases e
     | _ => cases e
theorem fun_okL {K : Frag} {st : Stmt} (Fn : Fun K x qual st f fd) (S : FnScope N ps (zF st))
  (hbody : ∀ cdv A outer s H E, Room k (A.deeper (envOfC qual (zF st) s.heap.objs.size f cdv)) -> PSsv (cxOf CX0 P w K mg base N qual (zF st) f cdv A outer s H E).nox (qV st) g)
  (hg : ∀ T l T', l.length = n -> F T l = some T' -> lentF g N.length T l = some T') (hn : ps.length = n + 1 := by rfl) (hN : 0 < N.length := by decide) : FnOk P w K mg base CX0 (k + 1) f fd ps (spL K n F) := by
 exact fun_okLG (fun sp a b => Fn.ok S a b) hbody hg hn hN
structure LCal (P : Program) (w : World) (K : Frag) (mg : Str -> Option Value) (base : Heap) (m : Str) (k n : Nat) (cs : List Nat) (F : Nat -> OT -> List D -> Option OT) : Prop where
 no : ∀ t ∈ cs, m ∉ clsFlds t
 of : ∀ t ∈ cs, ∀ C, PySem.W.nsIn K mainGlobals (clsName t) = some (some (.ref C)) -> ∃ (f : Addr) (fd : FuncData) (ps : List Str), Cls K C /\ Meth K C m f /\ FnOk P w K mg base CX0 k f fd ps (spL K n (F t)) /\ Binds K fd ps []
theorem lcal_nil {K : Frag} : LCal P w K mg base m k n [] F := ⟨fun _ h => (nomatch h), fun _ h => (nomatch h)⟩
theorem lcal_cons {K : Frag} (a : PySem.W.nsIn K mainGlobals (clsName t) = some (some (.ref C)))
  (c : Cls K C) (hm : Meth K C m f) (G : FnOk P w K mg base CX0 j f fd ps (spL K n (F t))) (hj : j <= k) (b : Binds K fd ps []) (hn : m ∉ clsFlds t) (h : LCal P w K mg base m k n cs F) : LCal P w K mg base m k n (t :: cs) F := by
 refine ⟨fun t' ht => (List.mem_cons.mp ht).elim (fun e => e ▸ hn) (h.no t'), fun t' ht C' e => ?_⟩
 rcases List.mem_cons.mp ht with rfl | ht
 · rw [a] at e
   cases e
   exact ⟨f, fd, ps, c, hm, G.mono hj, b⟩
 · exact h.of t' ht C' e
section
theorem lent_sem (M : LCal X.prog X.w X.K X.mg X.base m k n cs F)
  (hf : ∀ H₀ H O σ ds hd q Q, Ok X.K H₀ H O σ ds hd -> f ds = some q -> (∀ r T v w fs, ds[q.1]? = some (.ob r T) -> subO q.2.1 T = some q.2.2 -> σ[q.1]? = some (some v) -> PathV H v q.2.1 w -> RepO X.K H O w q.2.2 fs -> Q w H) -> ta σ H Q)
  (hfg : ∀ H₀ H O σ ds hd l Q, Ok X.K H₀ H O σ ds hd -> g ds = some l -> (∀ vs H', Same H H' -> Reps X.K H' O vs l -> Q vs H') -> t σ H Q)
  (o : Ok X.K H₀ H O σ ds hd) (h1 : lentG n cs F f g ds = some (.nx ds')) (q : ∀ H' O', Ok X.K H₀ H' O' σ ds' hd -> Q .non H') : tMethD X m k ta t σ H Q := by
 obtain ⟨q0, h2, h1⟩ := bnd h1
 obtain ⟨l, h3, h1⟩ := bnd h1
 refine hf H₀ H O σ ds hd q0 _ o h2 fun r T v w fs g1 g2 g3 g4 g5 => ?_
 cases hu : q0.2.2 with
 | ins c ts =>
   rw [hu] at h1 g5 g2
   simp only at h1
   split at h1
   · rename_i hc
     cases h4 : F c (.ins c ts) l with
     | none => rw [h4] at h1; cases h1
     | some T' =>
       rw [h4] at h1
       cases h1
       cases g5 with
       | @ins a C dx _ kvs _ fs' cc nn ha ek rr =>
         obtain ⟨fa, fd, ps, cl, hm, Fn, hb⟩ := M.of c hc.1 C cc
         refine ⟨a, C, dx, kvs, fa, fd, ps, _, rfl, ha, yI (by rw [ek]; exact M.no c hc.1), cl, hm, Fn, hb, ?_⟩
         refine hfg H₀ H O σ ds hd l _ o h3 fun vs H2 s2 r2 => ?_
         have o2 := o.mono s2
         obtain ⟨v', w', f', y1, y2, y3, y4, y5, y6⟩ := o2.modAt g1 g2
         rw [g3] at y1
         cases y1
         cases jY (jX s2 g4) y2
         have ow := fun b z => (y3.owns b z).1
         let B : Addr -> Prop := fun b => O b /\ b ∉ f'
         have toO : ∀ b, orL f' B b -> O b := fun b z => z.elim (ow b) fun z => z.1
         refine ⟨a, _, T', f', B, vs, l, rfl, by rw [r2.length]; exact hc.2, y3.less toO (fun b z => .inl z), y4, fun b z => ⟨z.2, o2.dom b z.1⟩, r2.less toO, h4, fun H' fs2 k1 k2 k3 k4 => ?_⟩
         have e' : putP q0 T' ds = ds.set q0.1 (.ob r (putO T' q0.2.1 T)) := by simp [putP, g1]
         rw [e'] at q
         refine q H' (orL fs2 B) (y6 ⟨fun b u nb eb => k1 b u (fun z => nb (ow b z)) eb, fun b u _ nb eb => k1 b u nb eb, fun b z nb => .inr ⟨z, nb⟩, fun b z => z.elim (fun z => (k4 b z).elim (fun y => .inl (ow b y)) fun y => .inr ⟨z, y⟩) fun z => .inl z.1, k4⟩ (fun b z y => y.elim (fun y => (k2.owns b y).2) fun y => (y.2 z).elim) k2 k3)
   · cases h1
 | _ => rw [hu] at h1; cases h1
theorem psv_lent (M : LCal X.prog X.w X.K X.mg X.base m k n cs F) (hr : Room j X.A) (ho : PVp X oe f) (ha : PAs X (e :: es) g) (hj : k <= j := by decide)
  (hst : starEach (e :: es) X.env = (false, eval e X.env) :: starEach es X.env := by rfl) (hpl : (backTo pos (starEach es X.env)).any (·.1) = false := by rfl)
  (ht : eval (.Call (.Attribute oe m apos) (e :: es) [] pos) X.env = (do
    let ov <- eval oe X.env
    standAt apos.atName
    let (f, first) <- holding [ov] (getMethod ov m pl)
    callWith pos f first (backTo pos (starEach (e :: es) X.env)) (backToKw pos (keywordEach [] X.env))) := by rfl)
  (hsw : swapsWith (.Call (.Attribute oe m apos) (e :: es) [] pos) none pos'.line X.env = pure false := by rfl) : PSv X (.Expr (.Call (.Attribute oe m apos) (e :: es) [] pos) pos') (lentG n cs F f g) := by
 obtain ⟨ta, pa, hf⟩ := ho
 obtain ⟨t, pt, hfg⟩ := ha
 refine ⟨_, yR (kE pa (hr.mono hj) pt hst hpl ht) hsw, fun H₀ H O σ ds hd out E o e h => ?_⟩
 have : ∃ ds', out = .nx ds' := by
  obtain ⟨q0, h2, e⟩ := bnd e
  obtain ⟨l, h3, e⟩ := bnd e
  split at e
  · split at e
    · rename_i c ts _ _
      cases h4 : F c (.ins c ts) l with
      | none => rw [h4] at e; cases e
      | some T' => rw [h4] at e; cases e; exact ⟨_, rfl⟩
    · cases e
  · cases e
 obtain ⟨ds', rfl⟩ := this
 exact lent_sem M hf hfg o e fun H' O' o' => h _ _ _ o'
end
section
variable {K : Frag}
theorem Ok.putN (y : MutHO) (o : Ok K H₀ H O σ ds hd) (e : ds[i]? = some (.ob r T)) (hs : subO p T = some u) (hv : σ[i]? = some (some v)) (hp : PathV H v p (.ref a))
  (h : ∀ f, RepO K H O (.ref a) u f -> f.Nodup -> ∃ f', O a /\ a ∈ f /\ (∀ b ∈ f', b ∈ f) /\ f'.Nodup /\ RepO K (upd H a y.1) O (.ref a) u' f') : Ok K H₀ (upd H a y.1) O σ (ds.set i (.ob r (putO u' p T))) hd := by
 obtain ⟨v', w', f, y1, y2, y3, y4, y5, y6⟩ := o.modAt e hs
 rw [hv] at y1
 cases y1
 cases jY hp y2
 obtain ⟨f', n, h1, h2, h3, h4⟩ := h f y3 y4
 refine y6 (.ofUpd n h1 h2) (fun b z _ => ?_) h4 h3
 by_cases z' : b = a
 · rw [z', zS]; exact ⟨y, rfl⟩
 · rw [upd_ne z']; exact (y3.owns b z).2
theorem keyD_rep (r : Rep K H O v d) (e : keyD d = some k) : v = kV k := by
 cases d <;> first | (cases e; done) | skip
 · cases e; cases r; rfl
 · cases e; cases r; rfl
 · cases e; cases r; rfl
theorem putK_keys (h : hasK k (kvs.map (·.1)) = true) : putK kvs k v = kvs.map (fun kv => if kv.1 = k then (kv.1, v) else kv) := by
 unfold putK
 rw [if_pos]
 rw [hasK, List.any_map] at h
 exact h
theorem vU (h : ¬ hasK k (kvs.map (·.1)) = true) : putK kvs k v = kvs ++ [(k, v)] := by
 unfold putK
 rw [if_neg]
 rw [hasK, List.any_map] at h
 exact h
theorem putK_map1 (kvs : List (Key × V)) k v : (kvs.map (fun kv => if kv.1 = k then (kv.1, v) else kv)).map (·.1) = kvs.map (·.1) := by
 rw [List.map_map]
 refine List.map_congr_left fun kv _ => ?_
 simp only [Function.comp]
 split <;> rfl
theorem RepsO.putTs (r : Rep K H O v d) : ∀ {kvs : List (Key × V)} {ts : List OT} {fs : List Addr}, RepsO K H O (kvs.map (·.2)) ts fs -> ∃ fs', fs'.Sublist fs /\ RepsO K H O ((kvs.map (fun kv => if kv.1 = k then (kv.1, v) else kv)).map (·.2)) (FL.putTs k (.val d) (kvs.map (·.1)) ts) fs'
 | [], _, _, .nil => ⟨[], .slnil, .nil⟩
 | (k', w) :: kvs, _, _, .cons (t := t) (ts := ts) (fs := fs) (gs := gs) h q => by
   obtain ⟨gs', h1, h2⟩ := RepsO.putTs r q
   by_cases z : k' = k
   · refine ⟨gs', h1.trans (List.sublist_append_right _ _), ?_⟩
     simp only [List.map_cons, z, if_true, FL.putTs]
     exact .cons (fs := []) (.val r) h2
   · refine ⟨fs ++ gs', h1.append_left _, ?_⟩
     simp only [List.map_cons, z, if_false, FL.putTs]
     exact .cons h h2
end
section
theorem pvo_dnew : PVo X (.Dict [] [] pos) dO0 := by
 refine ⟨_, pe_dnewK, fun H₀ H O σ ds hd T Q o e q => fun p hp => ?_⟩
 cases e
 exact q _ _ [p] (qL hp _) (.dct (.inl (.head _)) zS rfl .nil) (by simp) fun b hb => by rw [List.mem_singleton.mp hb]; exact hp
theorem psv_dput (hr : Room j X.A) (ho : PVp X oe f) (hk : PV X ke fk) (he : PV X e fv) (hs : swapsWith e (some (.Subscript oe ke pos')) pos.line X.env = pure false := by rfl) :
  PSv X (.Assign [.Subscript oe ke pos'] e pos) (dputG f fk fv) := by
 obtain ⟨tp, hp, hf⟩ := ho
 obtain ⟨tk, pk, hk⟩ := hk
 obtain ⟨te, pe, he⟩ := he
 refine ⟨_, ps_dput (Nat.lt_of_le_of_lt (by lia) (hu100 hr)) hp pk pe hs, fun H₀ H O σ ds hd out E o e h => ?_⟩
 obtain ⟨d, h1, e⟩ := bnd e
 obtain ⟨q, h2, e⟩ := bnd e
 obtain ⟨y, h3, e⟩ := bnd e
 obtain ⟨k, h4, e⟩ := bnd e
 refine he H₀ H O σ ds hd d _ o h1 fun v H1 s1 r1 => ?_
 refine hf H₀ H1 O σ ds hd q _ (o.mono s1) h2 fun r T v0 w fs g1 g2 g3 g4 g5 => ?_
 refine hk H₀ H1 O σ ds hd y _ (o.mono s1) h3 fun yv H2 s2 r2 => ?_
 have o2 := (o.mono s1).mono s2
 cases hq : q.2.2 with
 | dct ks ts =>
   rw [hq] at e g2 g5
   simp only at e
   split at e
   · rename_i hl
     cases e
     cases g5 with
     | @dct a kvs _ _ fs' n hb ek rs =>
       have hb2 := s2 _ _ hb
       cases keyD_rep r2 h4
       have ln : kvs.length < sizeLine := by rw [<- ek] at hl; simpa using hl
       refine ⟨a, _, rfl, DPut.k hb2 ln, ?_⟩
       have e' : putP q (putKT k (.val d) ks ts) ds = ds.set q.1 (.ob r (putO (putKT k (.val d) ks ts) q.2.1 T)) := by simp [putP, g1]
       rw [e'] at h
       refine h _ _ _ (Ok.putN ⟨.dK (putK kvs k v), rfl⟩ o2 g1 g2 g3 (jX s2 g4) fun f2 k1 k2 => ?_)
       cases k1 with
       | @dct _ kvs2 _ _ fs2 n2 hb3 ek2 rs2 =>
         rw [hb2] at hb3
         cases hb3
         obtain ⟨n3, n4⟩ := List.nodup_cons.mp k2
         have c : Chg H2 (upd H2 a (.dK (putK kvs k v))) O O [a] [a] := .ofUpd n (.head _) fun _ z => z
         have rs3 := c.repsO rs2 fun b z y => n3 (List.mem_singleton.mp y ▸ z)
         have rv := c.rep (r1.mono s2)
         unfold putKT
         by_cases hm : hasK k ks = true
         · rw [if_pos hm]
           have hm' : hasK k (kvs.map (·.1)) = true := by rw [ek]; exact hm
           obtain ⟨fs3, w1, w2⟩ := RepsO.putTs rv rs3
           refine ⟨a :: fs3, n, .head _, fun b z => (List.mem_cons.mp z).elim (fun z => by rw [z]; exact .head _) fun z => .tail _ (w1.subset z), List.nodup_cons.mpr ⟨fun z => n3 (w1.subset z), w1.nodup n4⟩, ?_⟩
           refine .dct n zS ?_ ?_
           · rw [putK_keys hm', putK_map1, ek]
           · have z := congrArg (List.map (·.2)) (putK_keys (v := v) hm')
             rw [ek] at w2
             rw [<- z] at w2
             exact w2
         · rw [if_neg hm]
           have hm' : ¬ hasK k (kvs.map (·.1)) = true := by rw [ek]; exact hm
           refine ⟨a :: fs2, n, .head _, fun b z => z, k2, ?_⟩
           refine .dct n zS ?_ ?_
           · rw [vU hm']; simp [ek]
           · have z : (putK kvs k v).map (·.2) = kvs.map (·.2) ++ [v] := by rw [vU hm']; simp
             rw [z]
             exact rs3.snoc rv
   · cases e
 | _ => rw [hq] at e; cases e
end
end FL
namespace L2
open PySem PySem.Spec PyProof.Rows
section
theorem Inv.freezeD (I : Inv X pins σ H s) (e : H a = some (.dK kvs)) : ∃ o, Inv X pins σ (upd H a (.frz o (.dK kvs))) s := by
 obtain ⟨z, hd, vs, rel, dd⟩ := dk_of I.hok e
 obtain ⟨o, es, ep, ho, r⟩ := id dd
 exact ⟨o, d_write I (by rw [e]; trivial) ⟨rfl, fun _ _ => rfl⟩ ⟨o, ho⟩ ⟨ho, z, hd, vs, rel, dd⟩⟩
def sFrz (i : Nat) (t : TS) : TS := fun D σ H => ∃ a kvs, σ[i]? = some (some (.ref a)) /\ H a = some (.dK kvs) /\ ∀ o, t D σ (upd H a (.frz o (.dK kvs)))
theorem ps_frz {st : Stmt} (h : PS X st t) : PS X st (sFrz i t) := by
 intro pins s σ H D I ⟨a, kvs, h1, h2, h3⟩
 obtain ⟨o, I'⟩ := I.freezeD h2
 exact h pins s σ _ D I' (h3 o)
end
noncomputable def Itd (d : Addr) (o : Obj) (kvs : List (Key × V)) : It :=
 ⟨fun i H => H d = some (.frz o (.dK kvs)) /\ i < kvs.length,
  fun i H v H' => ∃ T k x, kvs[i]? = some (k, x) /\ v = .ref T /\ H T = none /\ H' = upd H T (.tup [kV k, x]),
  fun i H => H d = some (.frz o (.dK kvs)) /\ kvs.length <= i⟩
theorem entry_dict_itemiterator_iter : entryFor table "dict_itemiterator.__iter__" = some Builtin.«dict_keyiterator.__iter__» :=
 entryFor_alias (id' := "dict_keyiterator.__iter__") (by kernel_rfl) rfl (by decide +kernel) (by kernel_rfl)
theorem wpAny_pyIter_itemiter (hit : IsItemIter s.heap it d i n ep ok ov) (h : Q (.ref it) s) : wpAny (model prog w) A (pyIter (.ref it)) Q E s := by
 have hT : s.TypeIs (.ref it) "dict_itemiterator" := ⟨_, hit, rfl⟩
 refine wpAny_pyIter_slot hT PySem.F.slot_dict_itemiterator_iter (wpAny_call_entry PySem.F.slot_dict_itemiterator_iter hT entry_dict_itemiterator_iter ?_ (PySem.F.args_dict_itemiterator_iter_1 _))
 exact wpAny_pure ⟨_, rfl, "dict_itemiterator", _, hT, PySem.F.slot_dict_itemiterator_next.lookup, h⟩
theorem frz_dictAt (I : Inv X pins σ H s) (hd : H d = some (.frz o (.dK kvs))) (dat : o.data = .dict es ep) : ∃ vs, KV kvs vs /\ s.heap.DictAt (mixKind X.prog X.w) d vs ep := by
 obtain ⟨ho, z, hds, vs, rel, o', es', ep', e1, ex, dat', r⟩ := I.hok d _ hd
 rw [ho] at e1
 cases e1
 rw [dat] at dat'
 cases dat'
 exact ⟨vs, rel, o, es, ho, ex, dat, r⟩
theorem KV.get {kvs : List (κ × V)} {vs : List (κ × Value)} {i : Nat} {k : κ} (h : KV kvs vs) (e : kvs[i]? = some (k, x)) : ∃ u, vs[i]? = some (k, u) /\ RelV x u := by
 induction h generalizing i with
 | nil => simp at e
 | @cons p q _ _ h _ ih =>
   cases i with
   | zero =>
     simp [List.getElem?_cons_zero, Option.some.injEq] at e
     subst e
     exact ⟨q.2, by simp [List.getElem?_cons_zero]; rw [show q = (k, q.2) from Prod.ext h.1.symm rfl], h.2⟩
   | succ i =>
     exact ih e
theorem turn_ditems {P : Program} {w : World} {K : PySem.W.Frag} {es : List Expr} {x1} {pos : Pos} (it d : Addr) (o : Obj) (kvs : List (Key × V)) {en : Array DictEntry} {ep : Nat} (dat : o.data = .dict en ep) :
  Turn P w K (.Tuple es x1 pos) (Itd d o kvs) [it] it (fun i h => ∃ ok ov, IsItemIter h it d i kvs.length ep ok ov) where
 mem := by simp
 obj := fun i h st b hb => by
  obtain ⟨ok, ov, he⟩ := st
  rw [List.mem_singleton.mp hb]
  exact ⟨_, he, fun v z => by have z' : Data.fields _ = Data.cell v := z; cases z'⟩
 keep := fun i h h' st k => by
  obtain ⟨ok, ov, he⟩ := st
  exact ⟨ok, ov, k it (by simp) _ he⟩
 item := by
  intro X hP hw hK hc i pins s σ H E I hf st hg
  subst hP hw hK
  obtain ⟨hd, hi⟩ := hg
  obtain ⟨ok, ov, he⟩ := st
  obtain ⟨vs, rel, hat⟩ := frz_dictAt I hd dat
  have hl := rel.length
  obtain ⟨k, x, hx⟩ : ∃ k x, kvs[i]? = some (k, x) := ⟨kvs[i].1, kvs[i].2, List.getElem?_eq_getElem hi⟩
  obtain ⟨u, hu, ru⟩ := rel.get hx
  rw [hl] at he
  refine wpAny_pyNext_items_item he hat hu fun key h' hkey a1 a2 a3 hk => ?_
  refine ⟨_, rfl, wpAny_letOwnedTupleGo_items a1 fun h2' b1 bs => ?_⟩
  have rk : RelV (kV k) key := by
   rcases jF hkey with ⟨j, t, rfl, rfl⟩ | ⟨y, t, rfl, rfl⟩ | ⟨rfl, rfl⟩
   · exact ⟨t, rfl⟩
   · exact ⟨t, rfl⟩
   · exact rfl
  have hT : ∀ b ∈ [it], b ≠ s.heap.objs.size := fun b hb z => by
   rw [List.mem_singleton.mp hb] at z
   exact Nat.ne_of_lt (Heap.lt_size he) z
  have fr := I.hok.fresh (Nat.le_refl _)
  have I1 : Inv X pins σ (upd H s.heap.objs.size (.tup [kV k, x])) { s with heap := s.heap.push { cls := .type "tuple", data := .seq #[key, u] }, toks := s.toks } := by
   refine I.laid (fun b u q => Heap.get?_push_of_some _ q) (Nat.le_refl _) ?_
   exact ⟨by simp [sizeLine], [key, u], .cons rk (.cons ru .nil), ⟨_, Heap.get?_push_size _ rfl, rfl, _, rfl⟩⟩
  have nz : s.heap.objs.size ≠ it := fun z => hT it (by simp) z.symm
  have I2 : Inv X pins σ (upd H s.heap.objs.size (.tup [kV k, x])) { s with heap := h2', toks := s.toks } := by
   refine Inv.turnedS (s := { s with heap := s.heap.push { cls := .type "tuple", data := .seq #[key, u] }, toks := s.toks }) I1 (ch := [it]) (fun b o hb q => ?_) (fun b hb => ?_)
   · simp [List.mem_cons, List.not_mem_nil, or_false] at hb
     by_cases hbT : b = s.heap.objs.size
     · subst hbT
       have q' := q
       rw [Heap.get?_push_size _ rfl] at q'
       cases q'
       exact bs.extBut _ _ nz a2
     · have q' : (s.heap.push { cls := .type "tuple", data := .seq #[key, u] }).get? b = some o := q
       have q2 : s.heap.get? b = some o := by
        rwa [Heap.get?_push_ne _ _ _ hbT] at q'
       exact bs.extBut _ _ hb (hk b o hb q2)
   · obtain ⟨f0, fr'⟩ := hf b hb
     exact ⟨by rw [upd_ne (hT b hb)]; exact f0, fr'⟩
  refine ⟨.ref s.heap.objs.size, _, I2, rfl, ⟨_, k, x, hx, rfl, fr, rfl⟩, ⟨key, u, by rw [hl]; exact b1⟩, fun b hb => ?_⟩
  rw [upd_ne (hT b hb)]
  exact (hf b hb).1
 done := by
  intro X hP hw hK hc i pins s σ H E I hf st hg
  subst hP hw hK
  obtain ⟨hd, hi⟩ := hg
  obtain ⟨ok, ov, he⟩ := st
  obtain ⟨vs, rel, hat⟩ := frz_dictAt I hd dat
  have hl := rel.length
  rw [hl] at he
  refine wpAny_pyNext_items_end (I.ok.hd hc) he hat (List.getElem?_eq_none (by lia)) fun h' hk => ⟨rfl, ?_⟩
  refine I.turnedS (fun b o hb q => ?_) hf
  simp [List.mem_cons, List.not_mem_nil, or_false] at hb
  exact hk b o hb q
 self := fun _ _ _ _ _ st h => by
  obtain ⟨ok, ov, he⟩ := st
  exact wpAny_pyIter_itemiter he h
section
def iDI (to : TE) : TI := fun σ H R => to σ H fun x H1 => ∃ d o kvs, x = .ref d /\ H1 d = some (.frz o (.dK kvs)) /\ R (Itd d o kvs) H1
theorem pi_ditems {x1} (ho : PE X oe to) (hbase : attributeBase oe "items" X.env (eval oe X.env) = eval oe X.env := by rfl) (hline : (apos.endLine == pos.line) = true := by rfl) :
  PI X (.Tuple es x1 tp) (.Call (.Attribute oe "items" apos) [] [] pos) (iDI to) := by
 intro pins s σ H R I h
 refine wpAny_Call_method0_late hbase hline (thn (ho pins s σ H _ I h) fun v s1 zq => ?_)
 obtain ⟨x, H1, I1, r1, d, o, kvs, ex, hd, q⟩ := zq
 subst ex
 obtain rfl : v = Value.ref d := r1
 obtain ⟨hob, z, hds, vs, rel, dd⟩ := I1.hok d _ hd
 obtain ⟨o', en, ep, e1, exd, dat, r⟩ := id dd
 rw [hob] at e1
 cases e1
 have hat : s1.heap.DictAt (mixKind X.prog X.w) d vs ep := ⟨o, en, hob, exd, dat, r⟩
 refine ⟨"dict", "dict.items", PySem.F.plainAttrs_dict, PySem.F.slot_dict_items, PySem.F.type_dict_items, ⟨o, hob, exd.1⟩, fun a e2 => ?_, Calls.callWith_builtin rfl (PySem.evalArgs_none (call_meetsIn PySem.F.slot_dict_items dd.typeIs PySem.F.entry_dict_items (PySem.F.args_dict_items_1 _) (meets_dict_items (mixKind X.prog X.w) d hds) ⟨⟨vs, dd⟩, ?_⟩))⟩
 · cases e2
   exact ⟨o, hob, exd.2.1⟩
 · refine wpAny_pyIter_items ⟨_, Heap.get?_push_size _ rfl, rfl, rfl⟩ (hat.push _) ?_
   have I2 : Inv X pins σ H1 { s1 with heap := s1.heap.push { cls := .type "dict_items", data := .fields #[.ref d] } } := I1.kept fun b o e => Heap.get?_push_of_some _ e
   refine ⟨_, [_], _, _, H1, rfl, I2.kept fun b o e => Heap.get?_push_of_some _ e, turn_ditems _ d o kvs dat, ⟨.none, .none, ?_⟩, fun c hc => ?_, q⟩
   · rw [rel.length]
     exact Heap.get?_push_size _ rfl
   · rw [List.mem_singleton.mp hc]
     exact I2.fpOk (Nat.le_refl _) (I2.hok.fresh (Nat.le_refl _))
end
end L2
namespace FL
open PySem PySem.Spec PyProof.Rows L2
section
variable {K : Frag}
theorem valsO_some : ∀ {ts : List OT} {l : List D}, valsO ts = some l -> ts = l.map OT.val
 | [], _, e => by cases e; rfl
 | .val d :: r, l, e => by
   unfold valsO at e
   cases h : valsO r with
   | none => rw [h] at e; cases e
   | some m => rw [h] at e; cases e; rw [valsO_some h]; rfl
 | .lst _ :: _, _, e => by cases e
 | .tup _ :: _, _, e => by cases e
 | .dct _ _ :: _, _, e => by cases e
 | .ins _ _ :: _, _, e => by cases e
theorem RepsO.ofVals : ∀ {l : List D} {xs : List V} {fs : List Addr}, RepsO K H O xs (l.map OT.val) fs -> fs = [] /\ Reps K H O xs l
 | [], _, _, .nil => ⟨rfl, .nil⟩
 | d :: l, _, _, .cons (.val r) t => by
   obtain ⟨rfl, rs⟩ := RepsO.ofVals t
   exact ⟨rfl, .cons r rs⟩
theorem Ok.frzD (o : Ok K H₀ H O σ ds hd) (e : ds[i]? = some (.ob r (.dct ks (l.map OT.val)))) :
  ∃ a kvs, σ[i]? = some (some (.ref a)) /\ H a = some (.dK kvs) /\ ∀ ob, ∃ O', Ok K H₀ (upd H a (.frz ob (.dK kvs))) O' σ (ds.set i (.v (.dcf ks l))) hd := by
 obtain ⟨F, hF⟩ := o.obs
 obtain ⟨v, h1, h2, h3, h4, h5⟩ := hF i r _ e
 have hl := (List.getElem?_eq_some_iff.mp e).1
 generalize hfi : F i = fi at h2 h4 h5
 cases h2 with
 | @dct a kvs _ _ fs n hb ek rs =>
   obtain ⟨rfl, rv⟩ := rs.ofVals
   refine ⟨a, kvs, h1, hb, fun ob => ?_⟩
   let O' : Addr -> Prop := fun b => O b /\ b ≠ a
   have sub : ∀ b, O' b -> O b := fun b hb => hb.1
   have h0 := (h5 a (.head _)).1
   have kp : Keep O H (upd H a (.frz ob (.dK kvs))) := fun b u nb eb => by
    have z : b ≠ a := fun z => nb (by rw [z]; exact n)
    rw [L2.upd_ne z]; exact eb
   have ne : ∀ {b : Addr} {u : HO}, b ≠ a -> H b = some u -> upd H a (.frz ob (.dK kvs)) b = some u := fun z eb => by rw [L2.upd_ne z]; exact eb
   have own' : ∀ {j : Nat}, IsOwn (ds.set i (.v (.dcf ks l))) j -> IsOwn ds j /\ j ≠ i := fun h => xG (fun l => by intro z; cases z) h
   have nown : ∀ {j : Nat} {b : Addr}, IsOwn ds j -> σ[j]? = some (some (.ref b)) -> b ≠ a := fun {j b} oj ej z => (h5 a (.head _)).2.2 j oj (by rw [<- z]; exact ej)
   refine ⟨O', fun b u eb => ne (fun z => by rw [z, h0] at eb; cases eb) (o.same b u eb), fun j l' b e1 e2 => ?_, fun b hb => ?_, by simpa using o.len, fun j s es => ?_, fun j m b hjm hj hm e1 e2 => o.apart j m b hjm (own' hj).1 (own' hm).1 e1 e2, fun p hp => ?_, ?_⟩
   · obtain ⟨⟨l2, e2'⟩, _⟩ := own' ⟨l', e1⟩
     exact o.fresh j l2 b e2' e2
   · obtain ⟨u, eu⟩ := o.dom b hb.1
     exact ⟨u, ne hb.2 eu⟩
   · by_cases hj : j = i
     · subst hj
       rw [List.getElem?_set_self hl] at es
       cases es
       rw [h1]
       exact jT (.dcf (fun z => z.2 rfl) zS ek ((rv.keep kp).less sub))
     · rw [List.getElem?_set_ne (Ne.symm hj)] at es
       cases s with
       | no => exact qW
       | ob r t => exact jV
       | exc t =>
         obtain ⟨a', C', ob', u', q1, q2, q3, q4⟩ := o.readX es
         rw [q1]
         exact ⟨C', ob', u', q2, ne (fun z => by rw [z, hb] at q3; cases q3) q3, q4⟩
       | exf t fs =>
         obtain ⟨a', q1, q3⟩ := o.readE es
         rw [q1]
         exact q3.keep fun a' ob' u' q3 => ne (fun z => by rw [z, hb] at q3; cases q3) q3
       | fr l' =>
         obtain ⟨a', xs', q1, q2, q0, q3, q4⟩ := o.readF es
         rw [q1]
         exact ⟨fun z => q2 (sub _ z), q0, xs', kp _ _ q2 q3, (q4.keep kp).less sub⟩
       | v d =>
         obtain ⟨v, q1, q2⟩ := o.read es
         rw [q1]
         exact jT ((q2.keep kp).less sub)
       | own l' =>
         obtain ⟨b, ys, q1, q2, q3, q4⟩ := o.readO es
         rw [q1]
         have z := nown ⟨l', es⟩ q1
         exact ⟨⟨q2, z⟩, ys, ne z q3, (q4.keep kp).less sub⟩
   · have := o.hold p hp
     cases p with
     | rep v d => exact (Rep.keep kp this).less sub
     | base B => exact fun b hb => ⟨⟨(this b hb).1, fun z => (this b hb).2 (by rw [z]; exact h0)⟩, (this b hb).2⟩
     | root k a => exact True.intro
     | fz a' o' kvs' l' => exact ⟨fun z => this.1 (sub _ z), kp _ _ this.1 this.2.1, (Reps.keep kp this.2.2).less sub⟩
   · refine ⟨F, fun j r' t' ej => ?_⟩
     obtain ⟨ej, hj⟩ := wD (fun r t => by intro z; cases z) ej
     obtain ⟨w, g1, g2, g3, g4, g5⟩ := hF j r' t' ej
     have na := fun z => (h5 a (.head _)).2.1 j r' t' hj ej z
     refine ⟨w, g1, (g2.keep kp fun b hb u eb => ne (fun z => na (by rw [<- z]; exact hb)) eb).less sub fun b hb => ⟨(g2.owns b hb).1, fun z => na (by rw [<- z]; exact hb)⟩, g3, g4, fun b hb => ⟨(g5 b hb).1, fun m r2 t2 hm em => (g5 b hb).2.1 m r2 t2 hm (wD (fun r t => by intro z; cases z) em).1, fun m om em => (g5 b hb).2.2 m (own' om).1 em⟩⟩
end
section
variable {X : Cx}
theorem psv_frzD {st : Stmt} (h : PSv X st g) : PSv X st (frzDG i g) := by
 obtain ⟨t, ht, hg⟩ := h
 refine ⟨_, ps_frz (i := i) ht, fun H₀ H O σ ds hd out E o e h => ?_⟩
 unfold frzDG at e
 cases hs : ds[i]? with
 | none => rw [hs] at e; cases e
 | some s =>
   rw [hs] at e
   cases s with
   | ob r T =>
     cases T with
     | dct ks ts =>
       obtain ⟨l, hv, e⟩ := bnd e
       rw [valsO_some hv] at hs
       obtain ⟨a, kvs, h1, h2, h3⟩ := o.frzD hs
       refine ⟨a, kvs, h1, h2, fun ob => ?_⟩
       obtain ⟨O', o'⟩ := h3 ob
       exact hg H₀ _ O' σ _ hd out E o' e h
     | _ => cases e
   | _ => cases e
def WlkD (K : Frag) (J : It) (h : HI) (items : List D) : Prop := ∀ H₀ H O, (∀ a, O a -> ∃ u : MutHO, H a = some u.1) -> HOk K H₀ H O h →
 (∀ i d, items[i]? = some d -> J.go i H /\ ∀ x H', J.yld i H x H' -> Same H H' /\ Rep K H' O x d) /\ J.stop items.length H
variable (X) in
def PId (tg iter : Expr) (fi : FA) : Prop := ∃ wi, PI X tg iter wi /\ ∀ H₀ H O σ ds hd items R, Ok X.K H₀ H O σ ds hd -> fi ds = some items →
 (∀ J p H', Same H H' -> HOk X.K H₀ H' O p -> (∀ k a, HI.root k a ≠ p) -> (∀ B, HI.base B ≠ p) -> WlkD X.K J p items -> R J H') -> wi σ H R
theorem kV_rep {K : Frag} : ∀ k, Rep K H O (kV k) (keyDD k)
 | .inl (some i) => .int i
 | .inl none => .non
 | .inr x => .str x
theorem wlk_ditems {K : Frag} : WlkD K (Itd d o kvs) (.fz d o kvs l) (itemsD (kvs.map (·.1)) l) := by
 intro H₀ H O dom ⟨n, hd, rs⟩
 have hl : l.length = kvs.length := by rw [<- rs.length]; simp
 have hi : (itemsD (kvs.map (·.1)) l).length = kvs.length := by simp [itemsD, hl]
 refine ⟨fun i x hx => ?_, ⟨hd, by rw [hi]; exact Nat.le_refl _⟩⟩
 have lt : i < kvs.length := by rw [<- hi]; exact (List.getElem?_eq_some_iff.mp hx).1
 refine ⟨⟨hd, lt⟩, fun v H' zq => ?_⟩
 obtain ⟨T, k, y, hk, e1, hT, e2⟩ := zq
 subst e1 e2
 have h1 : (kvs.map (·.1))[i]? = some k := by rw [List.getElem?_map, hk]; rfl
 have h2 : (kvs.map (·.2))[i]? = some y := by rw [List.getElem?_map, hk]; rfl
 have h3 : l[i]? = some l[i] := List.getElem?_eq_getElem (by lia)
 obtain ⟨y', h4, h5⟩ := rs.get h3
 rw [h2] at h4
 cases h4
 have : x = .tup [keyDD k, l[i]] := by
  have q : ((kvs.map (·.1)).zip l)[i]? = some (k, l[i]) := List.getElem?_zip_eq_some.mpr ⟨h1, h3⟩
  simp [itemsD, List.getElem?_map, q, Option.map_some, Option.some.injEq] at hx
  exact hx.symm
 subst this
 have sm : Same H (upd H T (.tup [kV k, y])) := qL hT _
 refine ⟨sm, .tup (fun z => ?_) (.inl zS) (.cons (kV_rep k) (.cons (h5.mono sm) .nil))⟩
 obtain ⟨u, eu⟩ := dom T z
 rw [hT] at eu; cases eu
theorem pid_items {x1} (h : PV X oe f) (hbase : attributeBase oe "items" X.env (eval oe X.env) = eval oe X.env := by rfl) (hline : (apos.endLine == pos.line) = true := by rfl) :
  PId X (.Tuple es x1 tp) (.Call (.Attribute oe "items" apos) [] [] pos) (itemsA f) := by
 obtain ⟨t, ht, hf⟩ := h
 refine ⟨_, pi_ditems ht hbase hline, fun H₀ H O σ ds hd items R o e q => ?_⟩
 obtain ⟨x, h1, e⟩ := bnd e
 refine hf H₀ H O σ ds hd x _ o h1 fun v H1 s1 r1 => ?_
 cases x <;> first | (cases e; done) | skip
 cases e
 cases r1 with
 | @dcf a ob kvs _ _ n hb ek rs =>
   refine ⟨a, ob, kvs, rfl, hb, ?_⟩
   rw [<- ek] at q
   exact q _ (.fz a ob kvs _) H1 s1 ⟨n, hb, rs⟩ (fun _ _ z => by cases z) (fun _ z => by cases z) wlk_ditems
theorem psv_forD {iter : Expr} (hp : PassesOwn (model X.prog X.w) X.A X.env X.xe) (hc : X.calm = true) (hi : PId X tg iter fi) (hg : PGv X tg ga) (hb : PSsv X body g)
  (hs : ∀ x, foldedSetIterable iter X.env x = pure x := by intro _; rfl) : PSv X (.For tg iter body [] pos) (forG fi ga g) := by
 obtain ⟨wi, pi, hi⟩ := hi
 obtain ⟨tg', pg, hg⟩ := hg
 obtain ⟨tb, pb, hb⟩ := hb
 refine ⟨_, ps_for hp hc pi pg pb hs, fun H₀ H O σ ds hd out E o e h => ?_⟩
 obtain ⟨items, h1, e⟩ := bnd e
 refine hi H₀ H O σ ds hd items _ o h1 fun J p H' s r nr nb wk => ?_
 refine ⟨fun i m σ' H' => i <= items.length /\ m = items.length - i /\ ∃ O' ds', Ok X.K H₀ H' O' σ' ds' (p :: hd) /\ jM ga g (items.drop i) ds' = some out, ⟨items.length, Nat.zero_le _, rfl, O, ds, (o.mono s).holdMore r nr, by simpa using e⟩, ?_⟩
 rintro i m σ1 H1 ⟨hi1, rfl, O1, ds1, o1, e1⟩
 obtain ⟨go, stop⟩ := wk H₀ H1 O1 o1.dom (o1.hold p List.mem_cons_self)
 by_cases hlt : i < items.length
 · right
   have hd0 := List.getElem?_eq_getElem hlt
   obtain ⟨hgo, hy⟩ := go i _ hd0
   rw [List.drop_eq_getElem_cons hlt, jM] at e1
   refine ⟨hgo, fun σ' H' => i + 1 <= items.length /\ ∃ O' ds', Ok X.K H₀ H' O' σ' ds' (p :: hd) /\ jM ga g (items.drop (i + 1)) ds' = some out, fun σ' H' ⟨q1, q2⟩ => ⟨items.length - (i + 1), by lia, q1, rfl, q2⟩, fun x H2 y => ?_⟩
   obtain ⟨s2, r2⟩ := hy x H2 y
   obtain ⟨ds2, h2, e1⟩ := bnd e1
   obtain ⟨o3, h3, e1⟩ := bnd e1
   refine hg H₀ H2 O1 σ1 ds1 (p :: hd) x _ ds2 _ (o1.mono s2) r2 h2 fun σ' o' => ?_
   refine hb H₀ H2 O1 σ' ds2 (p :: hd) o3 _ o' h3 ?_
   cases o3 with
   | nx ds3 => exact fun σ3 H3 O3 ok3 => ⟨hlt, O3, ds3, ok3, e1⟩
   | ct ds3 => exact fun σ3 H3 O3 ok3 => ⟨hlt, O3, ds3, ok3, e1⟩
   | bk ds3 => cases e1; exact fun σ3 H3 O3 ok3 => h σ3 H3 O3 ok3.holdLess
   | rt rr => cases e1; exact fun v H s r b => h v H s r (retB_less b)
 · left
   have ei : i = items.length := by lia
   subst ei
   rw [List.drop_length, jM] at e1
   cases e1
   exact ⟨stop, h σ1 H1 O1 o1.holdLess⟩
end
section
variable {K : Frag}
theorem RepsO.snocO : ∀ {xs : List V} {ts : List OT} {fs : List Addr} {v : V} {T : OT} {f : List Addr}, RepsO K H O xs ts fs -> RepO K H O v T f -> RepsO K H O (xs ++ [v]) (ts ++ [T]) (fs ++ f)
 | _, _, _, _, _, f, .nil, r => by
   have := RepsO.cons (gs := []) r .nil
   simpa using this
 | _, _, _, _, _, _, .cons (fs := fs) (gs := gs) h t, r => by
   rw [List.append_assoc]
   exact .cons h (RepsO.snocO t r)
end
section
variable {X : Cx}
theorem yY (hF : ∀ C, PySem.W.nsIn X.K mainGlobals (clsName t) = some (some (.ref C)) -> Cls X.K C /\ NoAttr X.K C n) (ho : PVp X oe f) (he : PVo X e g)
  (hn : clsName t' = clsName t := by rfl) (hfl : clsFlds t' = clsFlds t ++ [n] := by rfl) (hnew : n ∉ clsFlds t := by decide +kernel) (hs : swapsWith e (some (.Attribute oe n pos')) pos.line X.env = pure false := by rfl) :
  PSv X (.Assign [.Attribute oe n pos'] e pos) (setNw t t' f g) := by
 obtain ⟨tp, hp, hfp⟩ := ho
 obtain ⟨tv, hv, hg⟩ := he
 refine ⟨_, ps_fld hp hv hs, fun H₀ H O σ ds hd out E o e h => ?_⟩
 unfold setNw at e
 cases h1 : g ds with
 | none => rw [h1] at e; cases e
 | some T =>
   rw [h1] at e
   cases h2 : f ds with
   | none => rw [h2] at e; cases e
   | some q =>
     rw [h2] at e
     simp [Option.bind_some] at e
     refine hg H₀ H O σ ds hd T _ o h1 fun v H1 fs s1 r1 nd1 n1 => ?_
     have o1 := o.moreL s1 n1 fun b hb => (r1.owns b hb).2
     refine hfp H₀ H1 (orL fs O) σ ds hd q _ o1 h2 fun r T0 v0 w fs0 g1 g2 g3 g4 g5 => ?_
     obtain ⟨v', w', f', y1, y2, y3, y4, y5, y6⟩ := o.modAt g1 g2
     rw [g3] at y1
     cases y1
     cases jY g4 (jX s1 y2)
     cases hq : q.2.2 with
     | ins c l =>
       rw [hq] at y3 e
       simp only at e
       split at e
       · rename_i hk
         obtain ⟨rfl, hk⟩ := hk
         cases e
         cases y3 with
         | @ins a C dx _ kvs _ fs' cc na ha ek rs =>
           obtain ⟨cl, nat⟩ := hF C cc
           have ln : kvs.length = l.length := by simpa using rs.length
           refine ⟨a, C, dx, kvs, rfl, s1 _ _ ha, cl, nat, by lia, ?_⟩
           obtain ⟨n3, n4⟩ := List.nodup_cons.mp y4
           have old : ∀ b, H b = none -> b ∉ a :: fs' := fun b hb z => by
            rcases List.mem_cons.mp z with z | z
            · rw [z, ha] at hb; cases hb
            · obtain ⟨_, x, ex⟩ := rs.owns b z
              rw [hb] at ex; cases ex
           have afs : a ∉ fs := fun z => by rw [n1 a z] at ha; cases ha
           have pn : putF n v kvs = kvs ++ [(n, v)] := kD (by rw [ek]; exact hnew)
           have hs' : ∀ b u, b ≠ a -> H b = some u -> upd H1 a (.ins C dx (putF n v kvs)) b = some u := fun b u nb eb => by rw [L2.upd_ne nb]; exact s1 _ _ eb
           have nO : ∀ {b : Addr}, ¬ O b -> b ≠ a := fun nb z => nb (by rw [z]; exact na)
           have c0 : Chg H (upd H1 a (.ins C dx (putF n v kvs))) O (orL fs O) [a] (a :: fs) :=
            ⟨fun b u nb eb => hs' b u (nO nb) eb, fun b u _ nb eb => hs' b u (fun z => nb (by rw [z]; exact .head _)) eb, fun b z _ => .inr z, fun b z => z.elim (fun z => .inr ⟨.tail _ z, n1 b z⟩) .inl, fun b z => (List.mem_cons.mp z).elim (fun z => .inl (by rw [z]; exact .head _)) fun z => .inr (n1 b z)⟩
           have rT : RepO X.K (upd H1 a (.ins C dx (putF n v kvs))) (orL fs O) v T fs := r1.keep (fun b u nb eb => by rw [L2.upd_ne (nO fun z => nb (.inr z))]; exact eb) fun b hb u eb => by
            have z : b ≠ a := fun z => afs (by rw [<- z]; exact hb)
            rw [L2.upd_ne z]; exact eb
           have rs' := (c0.repsO rs fun b hb z => n3 (List.mem_singleton.mp z ▸ hb)).snocO rT
           have ok := y6 (O' := orL fs O)
            ⟨fun b u nb eb => hs' b u (nO nb) eb, fun b u _ nb eb => hs' b u (fun z => nb (by rw [z]; exact .head _)) eb, fun b z _ => .inr z, fun b z => z.elim (fun z => .inr ⟨.tail _ (List.mem_append_right _ z), n1 b z⟩) .inl, fun b z => ?_⟩
            (fun b z _ => ?_) (.ins (by rw [hn]; exact cc) (.inr na) zS (by rw [pn, hfl, <- ek]; simp) (by rw [show (putF n v kvs).map (·.2) = kvs.map (·.2) ++ [v] by rw [pn]; simp]; exact rs')) (List.nodup_cons.mpr ⟨fun z => ?_, ?_⟩)
           · have e' : putP q (.ins t' (l ++ [T])) ds = ds.set q.1 (.ob r (putO (.ins t' (l ++ [T])) q.2.1 T0)) := by simp [putP, g1]
             rw [e'] at h
             exact h _ _ _ ok
           · rcases List.mem_cons.mp z with z | z
             · exact .inl (by rw [z]; exact .head _)
             · rcases List.mem_append.mp z with z | z
               · exact .inl (.tail _ z)
               · exact .inr (n1 b z)
           · by_cases z' : b = a
             · rw [z', zS]; exact ⟨⟨.ins C dx (putF n v kvs), rfl⟩, rfl⟩
             · rcases List.mem_cons.mp z with q' | q'
               · exact (z' q').elim
               · obtain ⟨_, y, ey⟩ := rs.owns b q'
                 exact ⟨y, hs' b _ z' ey⟩
           · rcases List.mem_append.mp z with z | z
             · exact n3 z
             · exact afs z
           · rw [List.nodup_append]
             refine ⟨n4, nd1, fun x hx y hy z => old x (by rw [z]; exact n1 y hy) (.tail _ hx)⟩
       · cases e
     | _ => rw [hq] at e; cases e
structure LMk (P : Program) (w : World) (K : Frag) (mg : Str -> Option Value) (base : Heap) (t k n m : Nat) (F : OT -> List D -> Option OT) : Prop where
 ex : ∃ (C f : Addr) (fd : FuncData) (ps : List Str), PySem.W.nsIn K mainGlobals (clsName t) = some (some (.ref C)) /\ mg (clsName t) = some (.ref C) /\ Mk K C f /\ FnOk P w K mg base CX0 k f fd ps (spL K n F) /\ Binds K fd ps (List.replicate m .none)
theorem vN : ∀ m, Vals (List.replicate m V.non) (List.replicate m Value.none)
 | 0 => .nil
 | m + 1 => .cons rfl (vN m)
theorem reps_non {K : Frag} : ∀ m, Reps K H O (List.replicate m V.non) (List.replicate m D.non)
 | 0 => .nil
 | m + 1 => .cons .non (reps_non m)
theorem make_semL (hc : PySem.W.nsIn X.K mainGlobals (clsName t) = some (some (.ref C))) (hfl : clsFlds t = [])
  (hfa : ∀ H₀ H O σ ds hd l Q, Ok X.K H₀ H O σ ds hd -> g ds = some l -> (∀ vs H', Same H H' -> Reps X.K H' O vs l -> Q vs H') -> ta σ H Q) (o : Ok X.K H₀ H O σ ds hd) (h1 : makeO t n m F g ds = some T)
  (q : ∀ v H' fs, Same H H' -> RepO X.K H' (orL fs O) v T fs -> fs.Nodup -> (∀ b ∈ fs, H b = none) -> Q v H') : tMake C (spL X.K n F) (List.replicate m .non) E0 ta σ H Q := by
 obtain ⟨l, h2, h1⟩ := bnd h1
 split at h1
 · rename_i hl
   refine hfa H₀ H O σ ds hd l _ o h2 fun vs H1 s1 r1 => ?_
   intro x dx nx ndx nex
   have s2 : Same H1 (upd (upd H1 dx (.own x)) x (.ins C dx [])) := fun b o e => by
    rw [upd_ne (qT e nx), upd_ne (qT e ndx)]
    exact e
   have o1 := o.mono s1
   have rl := r1.length
   refine ⟨x, .ins t [], T, [x], O, vs ++ List.replicate m .non, l ++ List.replicate m .non, rfl, by simp; lia, .ins hc (.inl (.head _)) zS (by rw [hfl]; rfl) .nil, by simp, fun b hb => ?_, ?_, h1, fun H' fs' k1 k2 k3 k4 => ⟨rfl, q _ H' fs' (fun b u eb => ?_) k2 k3 fun b hb => ?_⟩⟩
   · obtain ⟨u, eu⟩ := o1.dom b hb
     exact ⟨(fun z => by rw [List.mem_singleton.mp z, nx] at eu; cases eu), u, s2 _ _ eu⟩
   · exact ((r1.moreL fun p hp => by rw [List.mem_singleton.mp hp]; exact nx).mono s2).append (reps_non m)
   · have e1 := s1 _ _ eb
     exact k1 b u (fun z => by rw [List.mem_singleton.mp z, nx] at e1; cases e1) (s2 _ _ e1)
   · rcases k4 b hb with z | z
     · rw [List.mem_singleton.mp z]; exact s1.free nx
     · exact s1.free (s2.free z)
 · cases h1
section
theorem pvo_make (M : LMk X.prog X.w X.K X.mg X.base t k n m F) (hr : Room j X.A) (ha : PAs X (e :: es) g) (hj : k + 1 <= j := by decide) (hx : clsName t = x := by rfl) (hfl : clsFlds t = [] := by rfl)
  (hg : Gl X x := by rfl) (hdb : (x == ("__debug__" : Str)) = false := by decide) (he : starEach (e :: es) X.env = (false, eval e X.env) :: starEach es X.env := by rfl) (hpl : (backTo pos (starEach es X.env)).any (·.1) = false := by rfl) :
  PVo X (.Call (.Name x p) (e :: es) [] pos) (makeO t n m F g) := by
 obtain ⟨C, f, fd, ps, hc, hm, mk, Fn, hb⟩ := M.ex
 obtain ⟨ta, pa, hfa⟩ := ha
 subst hx
 exact ⟨_, pe_make mk Fn (hr.mono hj) hg hm hb (vN m) pass0 pa hdb he hpl, fun H₀ H O σ ds hd T Q o e q => make_semL hc hfl hfa o e q⟩
theorem pvo_make0 (M : LMk X.prog X.w X.K X.mg X.base t k n m F) (hr : Room j X.A) (hj : k + 1 <= j := by decide) (hx : clsName t = x := by rfl) (hfl : clsFlds t = [] := by rfl) (hg : Gl X x := by rfl) (hdb : (x == ("__debug__" : Str)) = false := by decide) :
  PVo X (.Call (.Name x p) [] [] pos) (makeO t n m F zQ) := by
 obtain ⟨C, f, fd, ps, hc, hm, mk, Fn, hb⟩ := M.ex
 subst hx
 exact ⟨_, pe_make0 mk Fn (hr.mono hj) hg hm hb (vN m) pass0 hdb, fun H₀ H O σ ds hd T Q o e q => make_semL hc hfl (fun _ H _ _ _ _ _ _ _ e q => by cases e; exact q _ H (Same.refl _) .nil) o e q⟩
end
end
section
variable {X : Cx}
variable (X) in
def PVx (e : Expr) (f : FX) : Prop := ∃ t, PE X e t /\ ∀ H₀ H O σ ds hd d ds' Q, Ok X.K H₀ H O σ ds hd -> f ds = some (d, ds') -> (∀ v H' O', Ok X.K H₀ H' O' σ ds' hd -> Rep X.K H' O' v d -> Q v H') -> t σ H Q
section
theorem lentG_nx (e : lentG n cs F f g ds = some out) : ∃ ds', out = .nx ds' := by
 obtain ⟨q0, h2, e⟩ := bnd e
 obtain ⟨l, h3, e⟩ := bnd e
 split at e
 · split at e
   · rename_i c ts _ _
     cases h4 : F c (.ins c ts) l with
     | none => rw [h4] at e; cases e
     | some T' => rw [h4] at e; cases e; exact ⟨_, rfl⟩
   · cases e
 · cases e
theorem psv_ifLent {jj} (M : LCal X.prog X.w X.K X.mg X.base m k n cs F) (hr : Room j X.A) (ho : PVp X oe f) (ha : PAs X (e :: es) g) (hb : PSsv X b gb) (hj : k <= j := by decide)
  (hst : starEach (e :: es) X.env = (false, eval e X.env) :: starEach es X.env := by rfl) (hpl : (backTo pos (starEach es X.env)).any (·.1) = false := by rfl)
  (ht : eval (.Call (.Attribute oe m apos) (e :: es) [] pos) X.env = (do
    let ov <- eval oe X.env
    standAt apos.atName
    let (f, first) <- holding [ov] (getMethod ov m pl)
    callWith pos f first (backTo pos (starEach (e :: es) X.env)) (backToKw pos (keywordEach [] X.env))) := by rfl) :
  PSv X (.If (.Compare (.Call (.Attribute oe m apos) (e :: es) [] pos) [.IsNot] [.Constant .none jj p2] p3) a b p4) (lentIf (lentG n cs F f g) gb) := by
 obtain ⟨ta, pa, hf⟩ := ho
 obtain ⟨t, pt, hfg⟩ := ha
 obtain ⟨u, hu, hub⟩ := hb
 refine ⟨_, ps_if (pt_cmp (pc_notN (kE pa (hr.mono hj) pt hst hpl ht))) pss_never hu, fun H₀ H O σ ds hd out E o e h => ?_⟩
 obtain ⟨o1, h1, e⟩ := bnd e
 obtain ⟨ds', rfl⟩ := lentG_nx h1
 exact lent_sem M hf hfg o h1 fun H' O' o' => ⟨false, rfl, hub H₀ H' O' σ ds' hd out E o' e h⟩
end
end
end FL
namespace L2
open PySem PySem.Spec PyProof.Rows
section
end
end L2
namespace FL
open PySem PySem.Spec PyProof.Rows L2
section
end
end FL
namespace L2
open PySem PySem.Spec PyProof.Rows
section
variable {X : Cx}
def tFrz (t : TE) : TE := fun σ H Q => t σ H fun x H1 => ∃ a kvs, x = .ref a /\ H1 a = some (.dK kvs) /\ ∀ o, Q x (upd H1 a (.frz o (.dK kvs)))
theorem pe_frz {e : Expr} {t : TE} (h : PE X e t) : PE X e (tFrz t) := by
 intro pins s σ H Q I hq
 refine thn (h pins s σ H _ I hq) fun v s1 zq => ?_
 obtain ⟨x, H1, I1, r1, a, kvs, e1, h1, q1⟩ := zq
 obtain ⟨o, I2⟩ := I1.freezeD h1
 exact ⟨x, _, I2, r1, q1 o⟩
end
end L2
namespace FL
open PySem PySem.Spec PyProof.Rows L2
section
variable {X : Cx}
theorem pv_dnewF {pos : Pos} : PV X (.Dict [] [] pos) (zA (.dcf [] [])) := by
 refine ⟨_, pe_frz pe_dnewK, fun H₀ H O σ ds hd d Q o e q => fun p hp => ?_⟩
 cases e
 refine ⟨p, [], rfl, zS, fun ob => ?_⟩
 have sm : Same H (upd (upd H p (.dK [])) p (.frz ob (.dK []))) := fun b u eb => by
  rw [upd_ne (qT eb hp), upd_ne (qT eb hp)]; exact eb
 exact q _ _ sm (.dcf (kvs := []) (fun z => by obtain ⟨u, eu⟩ := o.dom p z; rw [hp] at eu; cases eu) zS rfl .nil)
end
section
theorem Ok.look {K : Frag} (o : Ok K H₀ H O σ ds hd) i : ∃ O', Ok K H₀ H O' σ (relO i ds) hd := by
 by_cases hs : ∃ r T, ds[i]? = some (.ob r T)
 · obtain ⟨r, T, hl⟩ := hs
   have e' : relO i ds = ds.set i (.v (otD T)) := by unfold relO; rw [hl]
   rw [e']
   exact o.frz hl
 · have e' : relO i ds = ds := by
    unfold relO
    split
    · rename_i r T hl; exact (hs ⟨r, T, hl⟩).elim
    · rfl
   rw [e']
   exact ⟨O, o⟩
theorem pvf_relO i (h : PVf X e f) : PVf X e (relFO i f) := by
 obtain ⟨t, ht, hf⟩ := h
 refine ⟨t, ht, fun H₀ H O σ ds hd l Q o e q => ?_⟩
 obtain ⟨O', o'⟩ := o.look i
 unfold relFO at e
 cases h1 : f (relO i ds) with
 | none => rw [h1] at e; cases e
 | some l' =>
   rw [h1] at e
   simp only [Option.bind_some] at e
   split at e
   · rename_i hfl
     cases e
     refine hf H₀ H O' σ _ hd _ Q o' h1 fun a xs H' s hn he r => q a xs H' s hn he (Reps.flatten (fun b z => ?_) hfl r)
     rcases z with rfl | z
     · exact ⟨_, he, rfl⟩
     · obtain ⟨u, eu⟩ := (o.mono s).dom b z
       exact ⟨_, eu, u.2⟩
   · cases e
end
abbrev LkF (K : Frag) (f : Addr) (oc : Value) (od : Option Addr) (nm q : Str) (st : Stmt) (dV kV dc pm : Value) (an : Option Addr) (cd ct : Value) (sl : Array (Option Value)) : Prop := K.lookup f = some ⟨oc, od, .func (PySem.W.fnOf nm q (jL st) (qV st) (zF st) dV kV dc pm an cd ct), sl⟩
structure FunD (K : Frag) (x qual : Str) (st : Stmt) (f : Addr) (fd : FuncData) (its : Array Value) : Prop where
 ex : ∃ (Tu : Addr) (ob : Obj) (n : Nat) (oc : Value) (od : Option Addr) (kV doc pm : Value) (an : Option Addr) (cdv ct : Value) (osl : Array (Option Value)),
  fd = PySem.W.fnOf x qual (jL st) (qV st) (zF st) (.ref Tu) kV doc pm an cdv ct /\ K.lookup f = some ⟨oc, od, .func fd, osl⟩ /\ PySem.W.codeIn K cdv qual = true /\ K.lookup Tu = some ob /\ ob.data = .seq its n
 kp : PySem.W.keepIn K (.ref f) = true
section
variable {P : Program} {w : World} {K : Frag} {mg : Str -> Option Value} {base : Heap} {x qual : Str} {st : Stmt} {f : Addr}
theorem fun_mkD {kV doc pm cdv ct : Value} (l : K.lookup f = some ⟨oc, od, .func (PySem.W.fnOf x qual (jL st) (qV st) (zF st) (.ref Tu) kV doc pm an cdv ct), osl⟩)
  (c : PySem.W.codeIn K cdv qual = true) (k : PySem.W.keepIn K (.ref f) = true) (lt : K.lookup Tu = some ob) (hs : ob.data = .seq its n) : FunD K x qual st f (PySem.W.fnOf x qual (jL st) (qV st) (zF st) (.ref Tu) kV doc pm an cdv ct) its :=
 ⟨⟨Tu, ob, n, oc, od, kV, doc, pm, an, cdv, ct, osl, rfl, l, c, lt, hs⟩, k⟩
theorem FunD.binds (F : FunD K x qual st f fd its)
  (h : ∀ Tu kV doc pm an cdv ct us, (us ++ ds).length = ps.length -> ∃ k, bindArgs (PySem.W.fnOf x qual (jL st) (qV st) (zF st) (.ref Tu) kV doc pm an cdv ct) ⟨us, []⟩ = seqItems? (.ref Tu) >>= k /\ k (some its) = pure (ps.zip (us ++ ds))) : Binds K fd ps ds := by
 obtain ⟨Tu, ob, n, oc, od, kV, doc, pm, an, cdv, ct, osl, rfl, lk, hcd, lt, hs⟩ := F.ex
 intro s us X hl
 obtain ⟨k, h1, h2⟩ := h Tu kV doc pm an cdv ct us hl
 exact PySem.W.binds_K X rfl lt hs h1 h2
theorem fun_okLD (Fn : FunD K x qual st f fd its) (S : FnScope N ps (zF st))
  (hbody : ∀ cdv A outer s H E, Room k (A.deeper (envOfC qual (zF st) s.heap.objs.size f cdv)) -> PSsv (cxOf CX0 P w K mg base N qual (zF st) f cdv A outer s H E).nox (qV st) g)
  (hg : ∀ T l T', l.length = n -> F T l = some T' -> lentF g N.length T l = some T') (hn : ps.length = n + 1 := by rfl) (hN : 0 < N.length := by decide) : FnOk P w K mg base CX0 (k + 1) f fd ps (spL K n F) := by
 refine fun_okLG (fun sp a b => ?_) hbody hg hn hN
 obtain ⟨Tu, ob, n, oc, od, kV, doc, pm, an, cdv, ct, osl, rfl, lk, hcd, lt, hs⟩ := Fn.ex
 refine fn_of lk hcd S a fun A outer s H vs Q E hr hsp => ?_
 obtain ⟨t, h, q⟩ := b cdv A outer s H vs Q E hr hsp
 exact ⟨t, h.nox, q⟩
theorem len0 {P : List Value -> Prop} (h : P []) : ∀ us, us.length = 0 -> P us := fun us hl => by cases us with | nil => exact h | cons _ _ => cases hl
theorem lenS {P : List Value -> Prop} (h : ∀ a us, us.length = n -> P (a :: us)) : ∀ us, us.length = n + 1 -> P us := fun us hl => by cases us with | nil => cases hl | cons a r => exact h a r (Nat.succ.inj hl)
theorem len1 {P : List Value -> Prop} (h : ∀ a0, P [a0]) : ∀ us, us.length = 1 -> P us := lenS fun a => len0 (h a)
theorem len2 {P : List Value -> Prop} (h : ∀ a0 a1, P [a0, a1]) : ∀ us, us.length = 2 -> P us := lenS fun a => len1 (h a)
theorem len3 {P : List Value -> Prop} (h : ∀ a0 a1 a2, P [a0, a1, a2]) : ∀ us, us.length = 3 -> P us := lenS fun a => len2 (h a)
theorem len4 {P : List Value -> Prop} (h : ∀ a0 a1 a2 a3, P [a0, a1, a2, a3]) : ∀ us, us.length = 4 -> P us := lenS fun a => len3 (h a)
theorem len5 {P : List Value -> Prop} (h : ∀ a0 a1 a2 a3 a4, P [a0, a1, a2, a3, a4]) : ∀ us, us.length = 5 -> P us := lenS fun a => len4 (h a)
def DefM (K : Frag) (x : Str) (st : Stmt) (f : Addr) : Prop := ∃ (oc : Value) (od : Option Addr) (kV dc pm : Value) (an : Option Addr) (cd ct : Value) (sl : Array (Option Value)), PySem.W.nsIn K mainGlobals x = some (some (.ref f)) /\ LkF K f oc od x x st .none kV dc pm an cd ct sl /\ PySem.W.codeIn K cd x = true /\ PySem.W.keepIn K (.ref f) = true
def DefC (K : Frag) (C : Addr) (m q : Str) (st : Stmt) (f : Addr) : Prop := ∃ (oc : Value) (od : Option Addr) (kV dc pm : Value) (an : Option Addr) (cd ct : Value) (sl : Array (Option Value)), PySem.W.findIn K (.ref C) m = some (some (.ref f)) /\ LkF K f oc od m q st .none kV dc pm an cd ct sl /\ PySem.W.codeIn K cd q = true /\ PySem.W.keepIn K (.ref f) = true /\ PySem.W.isFn K (.ref f) = true
theorem DefM.get (h : DefM K x st f) : ∃ fd, Fun K x x st f fd /\ PySem.W.nsIn K mainGlobals x = some (some (.ref f)) /\ PySem.W.keepIn K (.ref f) = true := by
 obtain ⟨_, _, _, _, _, _, _, _, _, a, l, c, k⟩ := h
 exact ⟨_, fun_mk l c k, a, k⟩
theorem DefC.get (h : DefC K C m q st f) : ∃ fd, Fun K m q st f fd /\ PySem.W.findIn K (.ref C) m = some (some (.ref f)) /\ PySem.W.keepIn K (.ref f) = true /\ PySem.W.isFn K (.ref f) = true := by
 obtain ⟨_, _, _, _, _, _, _, _, _, a, l, c, k, i⟩ := h
 exact ⟨_, fun_mk l c k, a, k, i⟩
theorem cal_mk (G : FnOk P w K mg base CX0 k f fd ps (spF K n F)) (b : Binds K fd ps []) (h : PySem.W.keepIn K (.ref f) = true) (m : mg x = some (.ref f)) : Cal P w K mg base x k n F := ⟨f, _, _, G, b, h, m⟩
structure SysAt (P : Program) (w : World) (base : Heap) (K : Frag) (mg : Str -> Option Value) : Prop where
 ex : ∃ h : Heap, K.In h /\ h.Ns mainGlobals mg
def CN (K : Frag) (x : Str) (C : Addr) : Prop := PySem.W.nsIn K mainGlobals x = some (some (.ref C)) /\ PySem.W.plainGet K C Str.empty = true /\ PySem.W.hasDictIn K C = true /\ PySem.W.plainOver K C = true /\ PySem.W.findIn K (.ref C) "__setattr__" = some (some (.builtin "object.__setattr__"))
theorem CN.get (h : CN K x C) : PySem.W.nsIn K mainGlobals x = some (some (.ref C)) /\ Cls K C := ⟨h.1, ⟨h.2.1, h.2.2.1, h.2.2.2.1, h.2.2.2.2⟩⟩
theorem jA {f : Str} (a : PySem.W.nsIn K mainGlobals (clsName t) = some (some (.ref C))) (c : Cls K C) (n : NoAttr K C f) (h : FldOk K f ix) (h1 : (clsFlds t)[i]? = some f := by rfl) (h2 : ∀ j, j < i -> (clsFlds t)[j]? ≠ some f := by decide +kernel) : FldOk K f ((t, i) :: ix) := fldOk_cons a c n h1 h2 h
def XN (K : Frag) (A B : Addr) : Prop := PySem.W.isClsIn K B = true /\ PySem.W.typeIn K (.ref B) = some (.type "type") /\ PySem.W.subIn K (.ref A) (.ref B) = some false /\ (Value.ref A == Value.ref B) = false
def XI (K : Frag) (x : Str) (C : Addr) : Prop := PySem.W.nsIn K mainGlobals x = some (some (.ref C)) /\ PySem.W.findIn K (.ref C) "__getattribute__" = some (some (.builtin "BaseException.__getattribute__")) /\ PySem.W.findIn K (.ref C) "__getattr__" = some none /\ PySem.W.findIn K (.ref C) "__class__" = some (some (.builtin "object.__class__")) /\ PySem.W.mroIn K C (.type "object") = some true /\ PySem.W.mroIn K C (.type "BaseException") = some true
theorem XI.i (h : XI K x C) : XIn K C := ⟨h.2.1, h.2.2.1, h.2.2.2.1, h.2.2.2.2.1, h.2.2.2.2.2⟩
theorem DefM.cal (d : DefM K x st f) (X : SysAt P w base K mg) (hf : ∀ {fd}, Fun K x x st f fd -> FnOk P w K mg base CX0 k f fd ps (spF K n F))
  (hb : ∀ kV doc pm an cdv ct us, us.length = ps.length -> bindArgs (PySem.W.fnOf x x (jL st) (qV st) (zF st) .none kV doc pm an cdv ct) ⟨us, []⟩ = pure (ps.zip us) := by
    intro _ _ _ _ _ _; first | exact len0 rfl | exact len1 fun _ => rfl | exact len2 fun _ _ => rfl | exact len3 fun _ _ _ => rfl | exact len4 fun _ _ _ _ => rfl | exact len5 fun _ _ _ _ _ => rfl) : Cal P w K mg base x k n F := by
 obtain ⟨_, F1, a, c⟩ := d.get
 obtain ⟨_, X, G⟩ := X.ex
 exact cal_mk (hf F1) (F1.binds hb) c (PySem.W.mg_of X G a)
theorem DefC.mc (d : DefC K C m q st f) (a : PySem.W.nsIn K mainGlobals (clsName t) = some (some (.ref C))) (c : Cls K C) (hf : ∀ {fd}, Fun K m q st f fd -> FnOk P w K mg base CX0 j f fd ps (spF K (n + 1) (F t)))
  (h : MCal P w K mg base m k n cs F) (hj : j <= k := by decide) (hn : m ∉ clsFlds t := by decide +kernel)
  (hb : ∀ kV doc pm an cdv ct us, us.length = ps.length -> bindArgs (PySem.W.fnOf m q (jL st) (qV st) (zF st) .none kV doc pm an cdv ct) ⟨us, []⟩ = pure (ps.zip us) := by
    intro _ _ _ _ _ _; first | exact len1 fun _ => rfl | exact len2 fun _ _ => rfl | exact len3 fun _ _ _ => rfl) : MCal P w K mg base m k n (t :: cs) F := by
 obtain ⟨_, F1, x, y, z⟩ := d.get
 exact mcal_cons a c ⟨x, z, y⟩ (hf F1) hj (F1.binds hb) hn h
theorem DefC.lc (d : DefC K C m q st f) (a : PySem.W.nsIn K mainGlobals (clsName t) = some (some (.ref C))) (c : Cls K C) (hf : ∀ {fd}, Fun K m q st f fd -> FnOk P w K mg base CX0 j f fd ps (spL K n (F t)))
  (h : LCal P w K mg base m k n cs F) (hj : j <= k := by decide) (hn : m ∉ clsFlds t := by decide +kernel)
  (hb : ∀ kV doc pm an cdv ct us, us.length = ps.length -> bindArgs (PySem.W.fnOf m q (jL st) (qV st) (zF st) .none kV doc pm an cdv ct) ⟨us, []⟩ = pure (ps.zip us) := by
    intro _ _ _ _ _ _; first | exact len1 fun _ => rfl | exact len2 fun _ _ => rfl | exact len3 fun _ _ _ => rfl) : LCal P w K mg base m k n (t :: cs) F := by
 obtain ⟨_, F1, x, y, z⟩ := d.get
 exact lcal_cons a c ⟨x, z, y⟩ (hf F1) hj (F1.binds hb) hn h
theorem newOk (n : PySem.W.nsIn K mainGlobals (clsName t) = some (some (.ref C))) (c : Cls K C) (na : NoAttr K C a) : ∀ C', PySem.W.nsIn K mainGlobals (clsName t) = some (some (.ref C')) -> Cls K C' /\ NoAttr K C' a := fun C' e => by
 rw [n] at e
 cases e
 exact ⟨c, na⟩
end
section
end
section
theorem wU (M : MCal X.prog X.w X.K X.mg X.base m k 0 cs F) (hr : Room j X.A) (ho : PV X o fo) (hj : k <= j := by decide)
  (ht : eval (.Call (.Attribute o m apos) [] [] pos) X.env = (do
    let ov <- eval o X.env
    standAt apos.atName
    let (f, first) <- holding [ov] (getMethod ov m pl)
    callWith pos f first (backTo pos (starEach [] X.env)) (backToKw pos (keywordEach [] X.env))) := by rfl) : PVf X (.Call (.Attribute o m apos) [] [] pos) (methF 0 cs F fo zQ) := by
 obtain ⟨ta, pa, hfo⟩ := ho
 refine ⟨_, pe_methD0 pa (hr.mono hj) ht, fun H₀ H O σ ds hd d Q o e q => ?_⟩
 obtain ⟨x, h1, e⟩ := bnd e
 simp [zQ, Option.bind_some] at e
 obtain ⟨r, h3, e⟩ := bnd e
 refine meth_sem (g := zQ) M hfo (fun _ H _ _ _ _ _ _ _ e q => by cases e; exact q _ H (Same.refl _) .nil) o h1 rfl h3 fun v H1 H' s1 s' ro => ?_
 obtain ⟨a, xs, rfl, h4, h5, h6⟩ := retF_ok ro e fun a ha => (o.mono s1).old ha
 exact q a xs H' (s1.trans s') (s1.free h4) h5 h6
end
end FL
namespace L2
open PySem PySem.Spec PyProof.Rows
section
variable {prog : Program} {w : World} {A : Around} {E : Value -> Shared -> Prop} {s : Shared}
end
section
variable {X : Cx}
end
section
end
section
end
end L2
namespace FL
open PySem PySem.Spec PyProof.Rows L2
section
end
section
variable {X : Cx}
section
variable {scope : Scope}
end
theorem PVo.n (h : PVo X e f) : PVn X e (seeO f) := by
 obtain ⟨t, ht, hf⟩ := h
 refine ⟨t, ht, fun H₀ H O σ ds hd d Q o e q => ?_⟩
 obtain ⟨T, h1, rfl⟩ := mpd e
 exact hf H₀ H O σ ds hd T Q o h1 fun v H' fs s r nd hn => q v H' s (r.frz fun a z => z.elim)
end
section
end
end FL
namespace L2
open PySem PySem.Spec PyProof.Rows
section
variable {X : Cx}
end
end L2
namespace FL
open PySem PySem.Spec PyProof.Rows L2
section
variable {X : Cx}
end
section
variable {prog : Program} {w : World} {A : Around} {E : Value -> Shared -> Prop} {s : Shared}
end
section
variable {X : Cx} {tg : Expr}
end
section
variable {K : Frag}
theorem ok_lend (rt : RepO K H (orL fs B) (.ref a) T fs) (nd : fs.Nodup) (hB : ∀ b, B b -> b ∉ fs /\ ∃ u : MutHO, H b = some u.1)
  (hl : σ.length = ds.length) (hp : ds[p]? = some (.ob (some p) T)) (ha : σ[p]? = some (some (.ref a)))
  (ho : ∀ j s, j ≠ p -> ds[j]? = some s -> s = .no \/ ∃ d v, s = .v d /\ σ[j]? = some (some v) /\ Rep K H (orL fs B) v d) :
  Ok K (cutH fs H) H (orL fs B) σ ds [.root p a, .base B] := by
 have no : ∀ {j : Nat}, ¬ IsOwn ds j := fun {j} ⟨l, e⟩ => by
  by_cases hj : j = p
  · subst hj; rw [hp] at e; cases e
  · rcases ho j _ hj e with h | ⟨d, v, h, _⟩ <;> cases h
 have nob : ∀ {j : Nat} {r : Option Nat} {t : OT}, ds[j]? = some (.ob r t) -> j = p := fun {j r t} e => by
  by_cases hj : j = p
  · exact hj
  · rcases ho j _ hj e with h | ⟨d, v, h, _⟩ <;> cases h
 refine ⟨fun b u e => ?_, fun i l' a' e _ => (no ⟨l', e⟩).elim, fun b hb => hb.elim (fun z => (rt.owns b z).2) fun z => (hB b z).2, hl, fun i s e => ?_, fun i j a _ hi _ _ _ => (no hi).elim, fun q hq => ?_, ?_⟩
 · by_cases z : b ∈ fs
   · rw [vM z] at e; cases e
   · rwa [yP z] at e
 · by_cases hi : i = p
   · subst hi; rw [hp] at e; cases e; exact jV
   · rcases ho i s hi e with rfl | ⟨d, v, rfl, e2, r⟩
     · exact qW
     · rw [e2]; exact jT r
 · rcases List.mem_cons.mp hq with rfl | hq
   · exact True.intro
   · cases List.mem_singleton.mp hq
     refine fun b hb => ⟨.inr hb, fun z => ?_⟩
     obtain ⟨n, u, e⟩ := hB b hb
     rw [yP n, e] at z; cases z
 · refine ⟨fun _ => fs, fun i r' t' e => ?_⟩
   cases nob e
   rw [hp] at e
   cases e
   refine ⟨.ref a, ha, rt, fun k a' ek h => ?_, nd, fun b hb => ⟨vM hb, fun j r2 t2 hj e2 => (hj (nob e2)).elim, fun j oj => (no oj).elim⟩⟩
   rcases List.mem_cons.mp h with h | h
   · cases h; rfl
   · cases List.mem_singleton.mp h
theorem Ok.lendEnd (o : Ok K (cutH fs H) H' O' σ ds hd) (e : ds[p]? = some (.ob (some p) T)) (h1 : HI.root p a ∈ hd) (h2 : HI.base B ∈ hd) :
  ∃ fs', (∀ b u, b ∉ fs -> H b = some u -> H' b = some u) /\ RepO K H' (orL fs' B) (.ref a) T fs' /\ fs'.Nodup /\ (∀ b ∈ fs', b ∈ fs \/ H b = none) /\ ∀ b, orL fs' B b -> O' b := by
 obtain ⟨F', hF⟩ := o.obs
 obtain ⟨v, y1, y2, y3, y4, y5⟩ := hF p _ _ e
 cases y3 p a rfl h1
 have hb := o.hold (.base B) h2
 have sub : ∀ b, orL (F' p) B b -> O' b := fun b z => z.elim (fun z => (y2.owns b z).1) fun z => (hb b z).1
 exact ⟨F' p, fun b u nb eb => o.same b u (by rw [yP nb]; exact eb), y2.less sub fun b z => .inl z, y4, fun b z => cutH_none (y5 b z).1, sub⟩
theorem vI (h1 : ∀ b, O b -> b ∈ fs \/ B b) (h2 : ∀ b ∈ fs, O b) (h3 : ∀ b, B b -> O b) (k1 : ∀ b u, b ∉ fs -> H b = some u -> H' b = some u) (k4 : ∀ b ∈ fs', b ∈ fs \/ H b = none) : Chg H H' O (orL fs' B) fs fs' :=
 ⟨fun b u nb eb => k1 b u (fun z => nb (h2 b z)) eb, fun b u _ nb eb => k1 b u nb eb, fun b z nb => .inr ((h1 b z).resolve_left nb), fun b z => z.elim (fun z => (k4 b z).elim (fun y => .inl (h2 b y)) fun y => .inr ⟨z, y⟩) fun z => .inl (h3 b z), k4⟩
theorem Ok.lendAt (o : Ok K H₀ H O σ ds hd) (e : ds[i]? = some (.ob r T)) (hT : refO T = true) :
  ∃ a fs, σ[i]? = some (some (.ref a)) /\ RepO K H O (.ref a) T fs /\ fs.Nodup /\ (∀ b ∈ fs, O b) ∧
   ∀ {H' : Hp} {T' : OT} {fs' : List Addr}, (∀ b u, b ∉ fs -> H b = some u -> H' b = some u) -> RepO K H' (orL fs' (fun b => O b /\ b ∉ fs)) (.ref a) T' fs' -> fs'.Nodup -> (∀ b ∈ fs', b ∈ fs \/ H b = none) →
    Ok K H₀ H' (orL fs' (fun b => O b /\ b ∉ fs)) σ (ds.set i (.ob r T')) hd := by
 obtain ⟨v, w, f, y1, y2, y3, y4, y5, y6⟩ := o.modAt (p := []) e rfl
 cases y2
 have ow := fun b z => (y3.owns b z).1
 have hv : ∃ a, v = .ref a := by
  cases y3 with
  | val _ => cases hT
  | lst _ _ _ => exact ⟨_, rfl⟩
  | tup _ _ _ => exact ⟨_, rfl⟩
  | dct _ _ _ _ => exact ⟨_, rfl⟩
  | ins _ _ _ _ _ => exact ⟨_, rfl⟩
 obtain ⟨a, rfl⟩ := hv
 refine ⟨a, f, y1, y3, y4, ow, fun {H' T' fs'} k1 k2 k3 k4 => ?_⟩
 have := y6 (vI (fun b z => (Classical.em (b ∈ f)).imp id fun y => ⟨z, y⟩) ow (fun b z => z.1) k1 k4) (fun b z y => y.elim (fun y => (k2.owns b y).2) fun y => (y.2 z).elim) k2 k3
 exact this
end
noncomputable def spR (K : Frag) (n p : Nat) (F : OT -> List D -> Option (D × OT)) : Sp := fun vs H Q _ => vs.length = n /\ ∃ (a : Addr) (T T' : OT) (d : D) (fs : List Addr) (B : Addr -> Prop) (l : List D), vs[p]? = some (.ref a) /\ l.length = n /\ RepO K H (orL fs B) (.ref a) T fs /\ fs.Nodup ∧
 (∀ b, B b -> b ∉ fs /\ ∃ u : MutHO, H b = some u.1) /\ (∀ (j : Nat) (d : D), j ≠ p -> l[j]? = some d -> ∃ v, vs[j]? = some v /\ Rep K H (orL fs B) v d) /\ F T l = some (d, T') ∧
 ∀ v H' fs', (∀ b u, b ∉ fs -> H b = some u -> H' b = some u) -> RepO K H' (orL fs' B) (.ref a) T' fs' -> fs'.Nodup -> (∀ b ∈ fs', b ∈ fs \/ H b = none) -> Rep K H' (orL fs' B) v d -> Q v H'
section
variable {X : Cx}
variable (X) in
def PRv (ss : List Stmt) (f : FX) : Prop := ∃ t, PSs X ss t /\ ∀ H₀ H O σ ds hd d ds' (E : Ends), Ok X.K H₀ H O σ ds hd -> f ds = some (d, ds') -> (∀ v σ' H' O', Ok X.K H₀ H' O' σ' ds' hd -> Rep X.K H' O' v d -> E.rt v H') -> t E σ H
theorem pvx_v (h : PV X e f) : PVx X e (vR f) := by
 obtain ⟨t, ht, hf⟩ := h
 refine ⟨t, ht, fun H₀ H O σ ds hd d ds' Q o e q => ?_⟩
 obtain ⟨d, h1, e⟩ := mpd e
 cases e
 exact hf H₀ H O σ ds hd _ _ o h1 fun v H' s r => q v H' O (o.mono s) r
theorem prv_ret (h : PVx X e f) : PRv X [.Return (some e) pos] f := by
 obtain ⟨t, ht, hf⟩ := h
 refine ⟨_, kA (vC ht), fun H₀ H O σ ds hd d ds' E o e q => ?_⟩
 exact hf H₀ H O σ ds hd d ds' _ o e fun v H' O' o' r => q v σ H' O' o' r
theorem wJ {st : Stmt} {rest : List Stmt} (h1 : PSv X st g) (h2 : PRv X rest f) : PRv X (st :: rest) (seqR g f) := by
 obtain ⟨t, ht, hg⟩ := h1
 obtain ⟨u, hu, hf⟩ := h2
 refine ⟨_, xT ht hu, fun H₀ H O σ ds hd d ds' E o e q => ?_⟩
 obtain ⟨out, h1, e⟩ := bnd e
 cases out with
 | nx ds2 =>
   refine hg H₀ H O σ ds hd _ _ o h1 fun σ' H' O' o' => ?_
   exact hf H₀ H' O' σ' ds2 hd d ds' E o' e q
 | _ => cases e
theorem prv_if {a rest : List Stmt} (hc : PTv X c fc) (ha : PRv X a f) (hb : PRv X rest g) : PRv X (.If c a [] pos :: rest) (ifR fc f g) := by
 obtain ⟨tc, pc, hc⟩ := hc
 obtain ⟨t, ht, hf⟩ := ha
 obtain ⟨u, hu, hg⟩ := hb
 refine ⟨_, xT (ps_if pc ht pss_nil) hu, fun H₀ H O σ ds hd d ds' E o e q => ?_⟩
 obtain ⟨k, h1, e⟩ := bnd e
 refine hc H₀ H O σ ds hd k _ o h1 fun H' s => ?_
 cases k with
 | true => exact iteT (hf H₀ H' O σ ds hd d ds' _ (o.mono s) (by simpa using e) q)
 | false => exact iteF (hg H₀ H' O σ ds hd d ds' E (o.mono s) (by simpa using e) q)
end
theorem fun_okR {K : Frag} {st : Stmt} (Fn : Fun K x qual st f fd) (S : FnScope N ps (zF st))
  (hbody : ∀ cdv A outer s H E, Room k (A.deeper (envOfC qual (zF st) s.heap.objs.size f cdv)) -> PRv (cxOf CX0 P w K mg base N qual (zF st) f cdv A outer s H E).nox (qV st) g)
  (hg : ∀ T l q, l.length = ps.length -> F T l = some q -> lentR g N.length p T l = some q) (hp : p < ps.length := by decide) (hN : ps.length <= N.length := by decide) : FnOk P w K mg base CX0 (k + 1) f fd ps (spR K ps.length p F) := by
 refine Fn.ok S (fun vs H Q E h => h.1) (fun cdv A outer s H vs Q E hr h => ?_)
 obtain ⟨hl, a, T, T', d, fs, B, l, ha, ll, rt, nd, hB, ra, e, q⟩ := h
 obtain ⟨t, ht, hf⟩ := hbody cdv A outer s H E hr
 refine ⟨t, ht, ?_⟩
 have hlen : (args N.length l).length = N.length := by simp [args]; lia
 have o : Ok K (cutH fs H) H (orL fs B) (L2.start N vs) ((args N.length l).set p (.ob (some p) T)) [.root p a, .base B] := by
  refine ok_lend rt nd hB ?_ ?_ ?_ fun j s' hj es => ?_
  · rw [List.length_set, hlen]; simp [L2.start, List.length_append, List.length_map, List.length_replicate]; lia
  · rw [List.getElem?_set_self (by rw [hlen]; lia)]
  · simp [L2.start]
    rw [List.getElem?_append_left (by simp; lia), List.getElem?_map, ha]; rfl
  · rw [List.getElem?_set_ne (Ne.symm hj)] at es
    unfold args at es
    by_cases hjl : j < l.length
    · rw [List.getElem?_append_left (by simpa using hjl), List.getElem?_map, List.getElem?_eq_getElem hjl] at es
      cases es
      obtain ⟨v, h1, h2⟩ := ra j _ hj (List.getElem?_eq_getElem hjl)
      refine .inr ⟨_, v, rfl, ?_, h2⟩
      simp [L2.start]
      rw [List.getElem?_append_left (by simp; lia), List.getElem?_map, h1]; rfl
    · rw [List.getElem?_append_right (by simpa using hjl), List.getElem?_replicate] at es
      split at es
      · cases es; exact .inl rfl
      · cases es
 have e := hg T l _ ll e
 unfold lentR at e
 cases h1 : g ((args N.length l).set p (.ob (some p) T)) with
 | none => rw [h1] at e; cases e
 | some z =>
   obtain ⟨d2, ds2⟩ := z
   rw [h1] at e
   simp only [Option.bind_some] at e
   cases h2 : ds2[p]? with
   | none => rw [h2] at e; cases e
   | some s0 =>
     rw [h2] at e
     cases s0 with
     | ob r T2 =>
       cases r with
       | none => cases e
       | some i =>
         simp only [obAt] at e
         split at e
         · rename_i hi
           subst hi
           cases e
           refine hf _ H _ _ _ _ _ _ _ o h1 fun v σ' H' O' o' r => ?_
           obtain ⟨fs', k1, k2, k3, k4, k5⟩ := o'.lendEnd h2 (.head _) (.tail _ (.head _))
           exact q v H' fs' k1 k2 k3 k4 (r.less k5)
         · cases e
     | _ => cases e
structure CalR (P : Program) (w : World) (K : Frag) (mg : Str -> Option Value) (base : Heap) (x : Str) (k n p : Nat) (F : OT -> List D -> Option (D × OT)) : Prop where
 ex : ∃ (f : Addr) (fd : FuncData) (ps : List Str), FnOk P w K mg base CX0 k f fd ps (spR K n p F) /\ Binds K fd ps [] /\ PySem.W.keepIn K (.ref f) = true /\ mg x = some (.ref f)
section
variable {X : Cx}
variable (X) in
def PAx (i p : Nat) (es : List Expr) (g : FA) : Prop := ∃ t, PA X es t /\ ∀ H₀ H O σ ds hd l r T v0 Q, Ok X.K H₀ H O σ ds hd -> g ds = some l -> ds[i]? = some (.ob r T) -> σ[i]? = some (some v0) →
 (∀ vs H', Same H H' -> vs.length = l.length -> vs[p]? = some v0 -> (∀ (j : Nat) (d : D), j ≠ p -> l[j]? = some d -> ∃ v, vs[j]? = some v /\ Rep X.K H' O v d) -> Q vs H') -> t σ H Q
theorem vW (hr : PAs X es g) (hN : X.N[i]? = some x := by rfl) (hv : Vis X.env.scope x := by first | exact Or.inl rfl | exact Or.inr (Or.inl rfl) | exact Or.inr (Or.inr rfl)) (hd : (x == ("__debug__" : Str)) = false := by decide) (hcd : (x == ("__classdict__" : Str)) = false := by decide)
  (hs : starEach (.Name x px :: es) X.env = (false, eval (.Name x px) X.env) :: starEach es X.env := by rfl) : PAx X i 0 (.Name x px :: es) (hereA g) := by
 obtain ⟨t, ht, hg⟩ := hr
 refine ⟨_, jC (jZ hN hv hd hcd) ht hs, fun H₀ H O σ ds hd l r T v0 Q o e e1 e2 q => ?_⟩
 obtain ⟨l1, h1, rfl⟩ := mpd e
 refine ⟨v0, e2, hg H₀ H O σ ds hd l1 _ o h1 fun vs H' s rs => ?_⟩
 refine q (v0 :: vs) H' s (by simp [rs.length]) rfl fun j d hj ej => ?_
 cases j with
 | zero => exact (hj rfl).elim
 | succ j => exact rs.get ej
theorem yW (ha : PV X e f) (hr : PAx X i p es g) (hs : starEach (e :: es) X.env = (false, eval e X.env) :: starEach es X.env := by rfl) : PAx X i (p + 1) (e :: es) (zB f g) := by
 obtain ⟨t, ht, hf⟩ := ha
 obtain ⟨u, hu, hg⟩ := hr
 refine ⟨_, jC ht hu hs, fun H₀ H O σ ds hd l r T v0 Q o e e1 e2 q => ?_⟩
 obtain ⟨d1, h1, e⟩ := bnd e
 obtain ⟨l1, h2, rfl⟩ := mpd e
 refine hf H₀ H O σ ds hd d1 _ o h1 fun v H1 s1 r1 => ?_
 refine hg H₀ H1 O σ ds hd l1 r T v0 _ (o.mono s1) h2 e1 e2 fun vs H2 s2 hl hp rs => ?_
 refine q (v :: vs) H2 (s1.trans s2) (by simp [hl]) (by simpa using hp) fun j d hj ej => ?_
 cases j with
 | zero => cases ej; exact ⟨v, rfl, r1.mono s2⟩
 | succ j => exact rs j d (fun z => hj (by rw [z])) ej
theorem wN (C : CalR X.prog X.w X.K X.mg X.base x k n p F) (hr : Room j X.A) (ha : PAx X i p (e :: es) g) (hj : k <= j := by decide)
  (hg : Gl X x := by rfl) (hdb : (x == ("__debug__" : Str)) = false := by decide) (he : starEach (e :: es) X.env = (false, eval e X.env) :: starEach es X.env := by rfl) (hpl : (backTo pos (starEach es X.env)).any (·.1) = false := by rfl) :
  PVx X (.Call (.Name x pp) (e :: es) [] pos) (callR n i F g) := by
 obtain ⟨t, ht, hf⟩ := ha
 obtain ⟨f, fd, ps, Fn, hb, hk, hm⟩ := C.ex
 refine ⟨_, kJ Fn (hr.mono hj) hg hm hk hb .nil pass0 ht hdb he hpl, fun H₀ H O σ ds hd d ds' Q o e q => ?_⟩
 obtain ⟨l, h, e⟩ := bnd e
 cases hs : ds[i]? with
 | none => rw [hs] at e; cases e
 | some s =>
   rw [hs] at e
   cases s with
   | ob r T =>
     simp only at e
     split at e
     · rename_i hc
       obtain ⟨z, h2, e⟩ := mpd e
       cases e
       obtain ⟨a0, _, ea, _⟩ := o.lendAt hs hc.1
       refine hf H₀ H O σ ds hd l r T _ _ o h hs ea fun vs H1 s1 hl hp rs => ?_
       have o1 := o.mono s1
       obtain ⟨a, fs, ea', rt, nd, ow, back⟩ := o1.lendAt hs hc.1
       rw [ea] at ea'
       cases ea'
       have toO : ∀ b, orL fs (fun b => O b /\ b ∉ fs) b -> O b := fun b z => z.elim (ow b) fun z => z.1
       refine ⟨by simp [List.append_nil]; rw [hl]; exact hc.2, a0, T, z.2, z.1, fs, fun b => O b /\ b ∉ fs, l, by simpa using hp, hc.2, rt.less toO (fun b z => .inl z), nd, fun b z => ⟨z.2, o1.dom b z.1⟩, fun j d hj ej => ?_, h2, fun v H' fs' k1 k2 k3 k4 k5 => ?_⟩
       · obtain ⟨v, e1, e2⟩ := rs j d hj ej
         exact ⟨v, by simpa using e1, e2.less toO⟩
       · exact q v H' _ (back k1 k2 k3 k4) k5
     · cases e
   | _ => cases e
section
theorem pvx_comp {iter : Expr} (S : CompScope X scope NY mp) (hc : X.calm = true) (hi : PIv X tg iter fi) (hg : ∀ c, PGv (jB X scope NY c) tg ga) (he : ∀ c, PVx (jB X scope NY c) elt fe)
  (hm : mp[p]? = some (some i) := by rfl) (hs : ∀ x, foldedSetIterable iter X.env x = pure x := by intro _; rfl) : PVx X (.ListComp elt [⟨tg, iter, [], 0⟩] scope pos) (compR fi mp i p ga fe) := by
 obtain ⟨wi, pi, hi⟩ := hi
 refine ⟨_, pe_comp S hc pi (fun c => (Classical.choose_spec (hg c)).1) (fun c => pf_nil) (fun c => (Classical.choose_spec (he c)).1) hs, fun H₀ H O σ ds hd d ds' Q o e q => ?_⟩
 have hg := fun c => (Classical.choose_spec (hg c)).2
 have he := fun c => (Classical.choose_spec (he c)).2
 obtain ⟨items, h1, e⟩ := bnd e
 cases hsl : ds[i]? with
 | none => rw [hsl] at e; cases e
 | some s =>
   rw [hsl] at e
   cases s with
   | ob r T =>
     simp only at e
     split at e
     · rename_i hsz
       obtain ⟨z, h2, e⟩ := mpd e
       cases e
       refine hi H₀ H O σ ds hd items _ o h1 fun J pv H1 s1 r1 wk => fun c => ?_
       have o1 := o.mono s1
       obtain ⟨a, fs, ea, rt, nd, ow, back⟩ := o1.lendAt hsl hsz.2
       let B : Addr -> Prop := fun b => O b /\ b ∉ fs
       have toO : ∀ b, orL fs B b -> O b := fun b z => z.elim (ow b) fun z => z.1
       have hlen : (jD mp ds).length = mp.length := by simp [jD]
       have hpl := (List.getElem?_eq_some_iff.mp hm).1
       refine ⟨fun n m ys H2 => n <= items.length /\ m = items.length - n /\ ys.length <= n /\ ∃ T2 fs2 l' z2, (∀ b u, b ∉ fs -> H1 b = some u -> H2 b = some u) /\ RepO X.K H2 (orL fs2 B) (.ref a) T2 fs2 /\ fs2.Nodup /\ (∀ b ∈ fs2, b ∈ fs \/ H1 b = none) /\ Reps X.K H2 (orL fs2 B) ys l' ∧
         compLX ga fe (fun T => (jD mp ds).set p (.ob (some p) T)) p T2 (items.drop n) = some z2 /\ z = (l' ++ z2.1, z2.2),
        ⟨items.length, Nat.zero_le _, rfl, Nat.le_refl _, T, fs, [], z, fun _ _ _ e => e, rt.less toO (fun b z => .inl z), nd, fun b z => .inl z, .nil, by simpa using h2, by simp⟩, ?_⟩
       rintro n m ys H2 ⟨hn, rfl, hy, T2, fs2, l', z2, k1, k2, k3, k4, ry, er, el⟩
       have ch : Chg H1 H2 O (orL fs2 B) fs fs2 := vI (fun b z => (Classical.em (b ∈ fs)).imp id fun y => ⟨z, y⟩) ow (fun b z => z.1) k1 k4
       have nB : ∀ b, B b -> b ∉ fs2 /\ ∃ u : MutHO, H2 b = some u.1 := fun b hb => by
        obtain ⟨u, eu⟩ := o1.dom b hb.1
        refine ⟨fun z => (k4 b z).elim hb.2 fun y => ?_, u, k1 b _ hb.2 eu⟩
        rw [y] at eu; cases eu
       have oI : Ok X.K (cutH fs2 H2) H2 (orL fs2 B) (slotsY mp σ) ((jD mp ds).set p (.ob (some p) T2)) [HI.rep pv.1 pv.2, .root p a, .base B] := by
        refine Ok.holdMore (ok_lend k2 k3 nB ?_ ?_ ?_ fun j s hj es => ?_) (ch.rep r1)
        · rw [List.length_set, hlen]; simp [slotsY]
        · rw [List.getElem?_set_self (by rw [hlen]; exact hpl)]
        · simp [slotsY, List.getElem?_map, hm, Option.map_some, Option.bind_some, ea, Option.join_some]
        · rw [List.getElem?_set_ne (Ne.symm hj)] at es
          unfold jD at es
          rw [List.getElem?_map] at es
          cases hmj : mp[j]? with
          | none => rw [hmj] at es; cases es
          | some mj =>
            rw [hmj] at es
            simp [Option.map_some, Option.some.injEq] at es
            cases mj with
            | none => exact .inl es.symm
            | some i' =>
              simp only at es
              cases hd' : ds[i']? with
              | none => rw [hd'] at es; exact .inl es.symm
              | some s' =>
                rw [hd'] at es
                cases s' with
                | v d' =>
                  obtain ⟨v, g1, g2⟩ := o1.read hd'
                  refine .inr ⟨d', v, es.symm, ?_, ch.rep g2⟩
                  simp [slotsY, List.getElem?_map, hmj, Option.map_some, Option.bind_some, g1, Option.join_some]
                | _ => exact .inl es.symm
       obtain ⟨go, stop⟩ := wk H2 _ oI.dom (oI.hold (HI.rep pv.1 pv.2) List.mem_cons_self)
       by_cases hlt : n < items.length
       · right
         have hd0 := List.getElem?_eq_getElem hlt
         obtain ⟨hgo, hyl⟩ := go n _ hd0
         refine ⟨hgo, by have := hsz.1; lia, fun x H3 y => ?_⟩
         obtain ⟨s3, r3⟩ := hyl x H3 y
         rw [List.drop_eq_getElem_cons hlt, compLX] at er
         obtain ⟨ds1, h3, er⟩ := bnd er
         refine hg c _ H3 _ _ _ _ x _ ds1 _ (oI.mono s3) r3 h3 fun σ' o3 => ?_
         obtain ⟨yd, h4, er⟩ := bnd er
         obtain ⟨T3, h5, er⟩ := bnd er
         have h6 : yd.2[p]? = some (.ob (some p) T3) := by
          cases hy2 : yd.2[p]? with
          | none => rw [hy2] at h5; cases h5
          | some s2 =>
            rw [hy2] at h5
            cases s2 with
            | ob r2 t2 =>
              cases r2 with
              | none => cases h5
              | some q2 =>
                simp only [obAt] at h5
                split at h5
                · rename_i hq; subst hq; cases h5; rfl
                · cases h5
            | _ => cases h5
         obtain ⟨z3, h7, rfl⟩ := mpd er
         refine he c _ H3 _ σ' ds1 _ yd.1 yd.2 _ o3 h4 fun v H5 O5 o5 r5 => ?_
         obtain ⟨fs3, j1, j2, j3, j4, j5⟩ := o5.lendEnd h6 (.tail _ (.head _)) (.tail _ (.tail _ (.head _)))
         have ch2 : Chg H2 H5 (orL fs2 B) (orL fs3 B) fs2 fs3 := vI (fun b z => z) (fun b z => .inl z) (fun b z => .inr z) j1 j4
         refine ⟨items.length - (n + 1), by lia, hlt, rfl, by simp; lia, T3, fs3, l' ++ [yd.1], z3, fun b u nb eb => j1 b u (fun z => (k4 b z).elim nb fun y => by rw [y] at eb; cases eb) (k1 b u nb eb), j2, j3, fun b z => (j4 b z).elim (k4 b) fun y => ?_, (ch2.reps ry).append (.cons (r5.less j5) .nil), h7, ?_⟩
         · by_cases bf : b ∈ fs
           · exact .inl bf
           · right
             cases hb : H1 b with
             | none => rfl
             | some u => rw [k1 b u bf hb] at y; cases y
         · rw [el]; simp
       · left
         have ei : n = items.length := by lia
         subst ei
         rw [List.drop_length, compLX] at er
         cases er
         rw [List.append_nil] at el
         subst el
         refine ⟨stop, by have := hsz.1; lia, fun a' ha' => ?_⟩
         have o2 := back k1 k2 k3 k4
         refine q (.ref a') _ (orL fs2 B) (o2.mono (qL ha' _)) ?_
         refine .lst (fun z => ?_) (.inl zS) (ry.mono (qL ha' _))
         obtain ⟨u, eu⟩ := o2.dom a' z
         rw [ha'] at eu; cases eu
     · cases e
   | _ => cases e
end
end
section
variable {K : Frag}
theorem calR_mk (G : FnOk P w K mg base CX0 k f fd ps (spR K n p F)) (b : Binds K fd ps []) (h : PySem.W.keepIn K (.ref f) = true) (m : mg x = some (.ref f)) : CalR P w K mg base x k n p F := ⟨f, _, _, G, b, h, m⟩
theorem DefM.calR {st : Stmt} (d : DefM K x st f) (X : SysAt P w base K mg) (hf : ∀ {fd}, Fun K x x st f fd -> FnOk P w K mg base CX0 k f fd ps (spR K n p F))
  (hb : ∀ kV doc pm an cdv ct us, us.length = ps.length -> bindArgs (PySem.W.fnOf x x (jL st) (qV st) (zF st) .none kV doc pm an cdv ct) ⟨us, []⟩ = pure (ps.zip us) := by
    intro _ _ _ _ _ _; first | exact len0 rfl | exact len1 fun _ => rfl | exact len2 fun _ _ => rfl | exact len3 fun _ _ _ => rfl | exact len4 fun _ _ _ _ => rfl | exact len5 fun _ _ _ _ _ => rfl) : CalR P w K mg base x k n p F :=
 by obtain ⟨_, F1, a, c⟩ := d.get; obtain ⟨_, X, G⟩ := X.ex; exact calR_mk (hf F1) (F1.binds hb) c (PySem.W.mg_of X G a)
end
end FL
namespace FL
open PySem PySem.Spec PyProof.Rows L2
open PySem.W (hideAll hideAll_get of_hideAll hideAll_none)
section
variable {M : Model} {A : Around} {E : Value -> Shared -> Prop} {s : Shared} {B : Heap} {l outer : List Env} {env : Env} {e L : Addr} {cls fl : Value} {a0 : Value × Option Addr} {Q : Unit -> Shared -> Prop}
end
section
variable {X : Cx} {E : XK} {C : Addr}
end
section
variable {X : Cx} {E : XK} {C : Addr} {scope : Scope} {NY : List Str} {mp : List (Option Nat)} {tg iter elt : Expr} {pos : Pos} {fi : FA} {ga : D -> List Sl -> Option (List Sl)} {fe : FE} {x : List Sl -> Bool}
end
section
variable {X : Cx}
end
end FL
namespace FL
open PySem PySem.Spec PyProof.Rows L2
section
variable {X : Cx} {E : XK} {C : Addr} {m : Str} {t k j n : Nat} {R : List D -> Bool} {fo : FE} {g : FA}
theorem psv_ifNR (hc : PVx X c gx) (ha : PSsv X a fa) (hb : PSsv X b fb)
  (hx : ∀ whole, isTrue c X.env whole = (do let v <- whole; standAt c.pos; holding [v] (truthy v)) := by intro _; rfl) : PSv X (.If (.UnaryOp .Not c p2) a b pos') (ifNR gx fa fb) := by
 obtain ⟨t, ht, hf⟩ := hc
 obtain ⟨ta, pa, hfa⟩ := ha
 obtain ⟨tb, pb, hfb⟩ := hb
 refine ⟨_, ps_if (pt_not (pt_val ht hx)) pa pb, fun H₀ H O σ ds hd out E ok ex h => ?_⟩
 obtain ⟨q, h1, ex⟩ := bnd ex
 refine hf H₀ H O σ ds hd q.1 q.2 _ ok h1 fun v H' O' o' r => ?_
 obtain ⟨d, ds'⟩ := q
 cases d with
 | bl k =>
   cases r
   cases k with
   | true => exact ⟨true, rfl, iteF (hfb H₀ H' O' σ ds' hd out E o' ex h)⟩
   | false => exact ⟨false, rfl, iteT (hfa H₀ H' O' σ ds' hd out E o' ex h)⟩
 | _ => cases ex
end
section
variable {X : Cx} {E : XK} {C : Addr} {m : Str} {t k j n : Nat} {R : List D -> Bool} {o e : Expr} {es : List Expr} {apos pos : Pos} {fo : FE} {g : FA}
end
section
variable {X : Cx} {scope : Scope} {NY : List Str} {mp : List (Option Nat)} {tg iter elt : Expr} {ifs : List Expr} {pos : Pos} {fi : FA} {ga : D -> List Sl -> Option (List Sl)} {tt : FT} {fe : FE}
end
section
variable {X : Cx}
theorem Rep.flattenZ {K : Frag} {H : Hp} {O O' : Addr -> Prop} {v : V} {d : D} (ho : ∀ a, O a -> Old H a) (h : flatZ d = true) (r : Rep K H O' v d) : Rep K H O v d := by
 cases r with
 | dcf n h' e r => exact .dcf (fun z => by obtain ⟨w, e2, m⟩ := ho _ z; rw [h'] at e2; cases e2; cases m) h' e (Reps.flatten ho h r)
 | clo tx la e nd hc rx => cases h
 | fnK hk => exact .fnK hk
 | non => exact .non
 | bl b => exact .bl b
 | int i => exact .int i
 | str x => exact .str x
 | tup n h' r => exact Rep.flatten ho h (.tup n h' r)
 | tupK h' r => exact Rep.flatten ho h (.tupK h' r)
 | lst n h' r => exact Rep.flatten ho h (.lst n h' r)
 | lstK h' r => exact Rep.flatten ho h (.lstK h' r)
 | dct n h' e r => exact Rep.flatten ho h (.dct n h' e r)
 | ins c n h' e r => exact Rep.flatten ho h (.ins c n h' e r)
end
end FL
namespace L2
open PySem PySem.Spec PyProof.Rows
section
end
end L2
namespace FL
open PySem PySem.Spec PyProof.Rows L2
section
end
section
variable {K : Frag}
end
section
end
end FL
namespace TS
open PySem PyProof.Rows
section
variable {prog : Program} {w : World}
section
end
section
variable {s : Shared}
end
end
end TS
namespace L2
open PySem PySem.Spec PyProof.Rows
section
end
end L2
namespace FL
open PySem PySem.Spec PyProof.Rows L2
section
end
section
end
section
variable {K : Frag}
end
section
end
section
end
section
end
end FL
namespace L2
open PySem PySem.Spec PyProof.Rows
section
end
end L2
namespace FL
open PySem PySem.Spec PyProof.Rows L2
section
variable {K : Frag} {H H' : Hp} {O O' : Addr -> Prop}
end
section
end
section
variable {X : Cx} {E : XK} {C : Addr} {k j n : Nat} {F : List D -> Option Ret} {x : Str} {p pos : Pos} {e : Expr} {es : List Expr} {g : FA} {y : List Sl -> Bool}
end
end FL
namespace PySem
open Sem (wp)
section
variable {prog : Program} {w : World} {A : Around} {E : Value -> Shared -> Prop} {h : Heap} {g : Array GenState} {d : Drawn} {t : Nat} {os : OsState}
variable {nm q : Str} {C N : Addr} {bs bm bmB : List Value} {hdct : Bool} {sn : List Str} {sub : List Value} {ab : Bool} {col : Option Bool} {dd : Option Addr} {k0 k1 k2 k3 k5 : Option Value} {B Bn newId nid initId inN : String} {bmN : List Value}
end
end PySem
namespace FL
open PySem PySem.Spec PyProof.Rows L2
open PySem.Calls PySem.Builtin PySem.Builtin.ObjectAttr
open PySem.W (Looks looks_findIn looks_mroIn looks_clsIn findIn mroIn clsIn tailIn nsOkIn nsIn InstAt tail_of_in isNs_of_in)
section
variable {prog : Program} {w : World} {A : Around} {E : Value -> Shared -> Prop} {h : Heap} {g : Array GenState} {d : Drawn} {t : Nat} {os : OsState} {K : Frag} {x C N dx : Addr} {o : Obj} {nm q : Str} {bs bm : List Value} {sn : List Str} {sub : List Value} {ab : Bool} {col : Option Bool} {dd : Option Addr} {k0 k1 k2 k3 k5 : Option Value} {name : Str} {v : Value} {mA : Str -> Option Value} {newId : String}
end
end FL
namespace FL
open PySem PySem.Spec PyProof.Rows L2
open PySem.Calls PySem.Builtin PySem.Builtin.ObjectAttr
open PySem.W (Looks looks_findIn looks_mroIn looks_clsIn findIn mroIn clsIn InstAt looks_find findObj handedIn handedOut_of)
section
variable {prog : Program} {w : World} {A : Around} {E : Value -> Shared -> Prop} {h : Heap} {g : Array GenState} {d : Drawn} {t : Nat} {os : OsState} {K : Frag} {x C N dx : Addr} {o od : Obj} {name : Str} {v : Value}
end
section
variable {X : Cx} {pins : List (Addr × Obj)} {σ : L2.St} {H : Hp} {s : Shared} {e dx C fI : Addr} {oe : Obj} {f : Str} {y : V} {u : Value} {A : Around} {E : Value -> Shared -> Prop} {fs : List (Str × V)}
end
end FL
namespace FL
open PySem PySem.Spec PyProof.Rows L2
open PySem.W (findIn)
section
variable {X : Cx} {C fI : Addr} {o value : Expr} {ta tv : TE} {f : Str} {pos pos' : Pos}
end
end FL
namespace PySem
open Sem (wp)
section
variable {M : Model} {prog : Program} {w : World} {A : Around} {E : Value -> Shared -> Prop} {s : Shared} {env : Env}
variable {nm q : Str} {C N : Addr} {bs bm bmB : List Value} {hdct : Bool} {sn : List Str} {sub : List Value} {ab : Bool} {col : Option Bool} {dd : Option Addr} {k0 k1 k2 k3 k5 : Option Value} {B Bn newId nid initId inN : String} {bmN : List Value}
end
end PySem
namespace FL
open PySem PySem.Spec PyProof.Rows L2
end FL
namespace FL
open PySem PySem.Spec PyProof.Rows L2
open PySem.W (hideAll hideAll_get of_hideAll hideAll_none funFrames_hide)
end FL
namespace FL
open PySem PySem.Spec PyProof.Rows L2
open PySem.W (findIn)
section
variable (X : Cx) (C : Addr)
end
section
variable {X : Cx} {C : Addr}
end
end FL
namespace FL
open PySem PySem.Spec PyProof.Rows L2
open PySem.W (Looks looks_mroIn mroIn clsIn findIn InstAt findObj findObj_own hasDictIn)
section
variable {X : Cx} {k j n : Nat} {R : List D -> Option Fls} {C : Addr} {x : Str} {p pos : Pos} {e : Expr} {es : List Expr} {g : FA}
end
section
variable {X : Cx}
end
end FL
namespace FL
open PySem PySem.Spec PyProof.Rows L2
open PySem.W (findIn InstAt findObj findObj_own hasDictIn)
section
variable {X : Cx}
end
end FL
namespace FL
open PySem PySem.Spec PyProof.Rows L2
open PySem.W (findIn hasDictIn)
section
variable {X : Cx} {C : Addr}
end
end FL
namespace FL
open PySem PySem.Spec PyProof.Rows L2
section
variable {X : Cx} {scope : Scope} {NY : List Str} {mp : List (Option Nat)} {tg iter elt : Expr} {ifs : List Expr} {pos : Pos} {fi : FA} {ga : D -> List Sl -> Option (List Sl)} {tt : FT} {fe : FE}
end
section
variable {X : Cx}
theorem pvp_ixV {a : Expr} {i : Nat} {y : Str} {f : FP} {pos p : Pos} (ha : PVp X a f) (hN : X.N[i]? = some y := by rfl) (hv : Vis X.env.scope y := by first | exact Or.inl rfl | exact Or.inr (Or.inl rfl) | exact Or.inr (Or.inr rfl)) (hde : (y == ("__debug__" : Str)) = false := by decide)
  (hcd : (y == ("__classdict__" : Str)) = false := by decide) (hs : PlainIx (.Name y p) := by exact fun _ _ => rfl) : PVp X (.Subscript a (.Name y p) pos) (ixPV i f) := by
 obtain ⟨t, ht, hf⟩ := ha
 refine ⟨_, pe_ix ix_seq ht (jZ hN hv hde hcd) hs, fun H₀ H O σ ds hd q Q o e h => ?_⟩
 unfold ixPV at e
 split at e
 · rename_i n hn
   split at e
   · rename_i h0
     obtain ⟨k, rfl⟩ := Int.eq_ofNat_of_zero_le h0
     obtain ⟨iv, i1, i2⟩ := o.read hn
     cases i2
     simp only [Int.toNat_natCast] at e
     unfold ixP at e
     obtain ⟨q0, h1, e⟩ := bnd e
     refine hf H₀ H O σ ds hd q0 _ o h1 fun r T v w fs g1 g2 g3 g4 g5 => ?_
     cases hu : q0.2.2 with
     | val d => rw [hu] at e; cases e
     | dct ks l => rw [hu] at e; cases e
     | ins c l => rw [hu] at e; cases e
     | tup l =>
       rw [hu] at e g5
       simp only [kidsI, Option.bind_some] at e
       obtain ⟨u, hk, rfl⟩ := mpd e
       cases g5 with
       | tup n hb rs =>
         obtain ⟨x, f2, y1, y2⟩ := rs.nth hk
         refine ⟨_, i1, .inr (.inl ⟨_, _, _, _, rfl, rfl, .inl hb, atI_nat y1, h r T v x f2 g1 ?_ g3 (xR g4 (.tup hb) y1) y2⟩)⟩
         rw [yO, g2, hu]
         simp [subO, hk]
     | lst l =>
       rw [hu] at e g5
       simp only [kidsI, Option.bind_some] at e
       obtain ⟨u, hk, rfl⟩ := mpd e
       cases g5 with
       | lst n hb rs =>
         obtain ⟨x, f2, y1, y2⟩ := rs.nth hk
         refine ⟨_, i1, .inl ⟨_, _, _, _, rfl, rfl, .inl (.inl hb), atI_nat y1, h r T v x f2 g1 ?_ g3 (xR g4 (.lst hb) y1) y2⟩⟩
         rw [yO, g2, hu]
         simp [subO, hk]
   · cases e
 · cases e
end
theorem Ok.frzAt {K : Frag} {H₀ H : Hp} {O : Addr -> Prop} {σ : L2.St} {ds : List Sl} {hd : Hold} {i : Nat} {r : Option Nat} {T u : OT} {p : List Nat} (o : Ok K H₀ H O σ ds hd) (e : ds[i]? = some (.ob r T)) (hs : subO p T = some u) :
  ∃ O', Ok K H₀ H O' σ (ds.set i (.ob r (putO (.val (otD u)) p T))) hd := by
 obtain ⟨v, w, f, h1, h2, h3, h4, h5, h6⟩ := o.modAt e hs
 exact ⟨fun b => O b /\ b ∉ f, h6 (H' := H) (f' := []) ⟨fun _ _ _ e => e, fun _ _ _ _ e => e, fun b z n => ⟨z, n⟩, fun b z => .inl z.1, fun _ z => nomatch z⟩ (fun b hb z => (z.2 hb).elim) (.val (h3.frz fun a z => z)) .nil⟩
theorem psv_frzP {X : Cx} {i : Nat} {p : List Nat} {st : Stmt} {g : FS} (h : PSv X st g) : PSv X st (frzP i p g) := by
 obtain ⟨t, ht, hg⟩ := h
 refine ⟨t, ht, fun H₀ H O σ ds hd out E o e h => ?_⟩
 unfold frzP at e
 split at e
 · rename_i r T hs
   split at e
   · rename_i u hu
     obtain ⟨O', o'⟩ := o.frzAt hs hu
     exact hg H₀ H O' σ _ hd out E o' e h
   · cases e
 · cases e
end FL
namespace L2
open PySem PySem.Spec PyProof.Rows
section
variable {X : Cx} {oe : Expr} {to : TE} {apos pos : Pos}
end
end L2
namespace FL
open PySem PySem.Spec PyProof.Rows L2
end FL
namespace L2
open PySem PySem.Spec PyProof.Rows
variable {X : Cx}
end L2
namespace FL
open PySem PySem.Spec PyProof.Rows L2
section
variable {K : Frag}
theorem RepsO.vals : ∀ {xs : List V} {l : List D}, Reps K H O xs l -> RepsO K H O xs (l.map OT.val) []
 | _, _, .nil => .nil
 | _, _, .cons r t => .cons (.val r) (RepsO.vals t)
theorem ok_plain {H₀ H : Hp} {σ : L2.St} {ds : List Sl} (s : Same H₀ H) (hl : σ.length = ds.length) (h : ∀ (j : Nat) (s : Sl), ds[j]? = some s -> s = .no \/ ∃ d v, s = .v d /\ σ[j]? = some (some v) /\ Rep K H jH v d) : Ok K H₀ H jH σ ds [] := by
 have no : ∀ {j : Nat}, ¬ IsOwn ds j := fun {j} ⟨l, e⟩ => by
  rcases h j _ e with h | ⟨d, v, h, _⟩ <;> cases h
 refine ⟨s, fun i l' a' e _ => (no ⟨l', e⟩).elim, fun b hb => hb.elim, hl, fun i s e => ?_, fun i j a _ hi _ _ _ => (no hi).elim, (fun q hq => nomatch hq), ⟨fun _ => [], fun i r t e => ?_⟩⟩
 · rcases h i s e with rfl | ⟨d, v, rfl, e2, r⟩
   · exact qW
   · rw [e2]; exact jT r
 · rcases h i _ e with h | ⟨d, v, h, _⟩ <;> cases h
theorem Ok.takeIn (o : Ok K H₀ H O σ ds hd) (hi : ds[i]? = some (.ob r T)) (hk : ds[k]? = some (.own l)) :
  ∃ v fi b ys, σ[i]? = some (some v) /\ RepO K H O v T fi /\ fi.Nodup /\ σ[k]? = some (some (.ref b)) /\ O b /\ H b = some (.lst ys) /\ Reps K H O ys l /\ b ∉ fi ∧
   ∀ {H' : Hp} {O' : Addr -> Prop} {T' : OT} {f' : List Addr}, Chg H H' O O' (b :: fi) f' -> (∀ x ∈ b :: fi, O' x -> ∃ y : MutHO, H' x = some y.1) -> RepO K H' O' v T' f' -> f'.Nodup -> Ok K H₀ H' O' σ ((ds.set k .no).set i (.ob r T')) hd := by
 obtain ⟨F, hF⟩ := o.obs
 obtain ⟨v, h1, h2, h3, h4, h5⟩ := hF i r T hi
 obtain ⟨b, ys, k1, k2, k3, k4⟩ := o.readO hk
 have hik : i ≠ k := fun z => by rw [z, hk] at hi; cases hi
 have hl : i < ds.length := (List.getElem?_eq_some_iff.mp hi).1
 have nb : b ∉ F i := fun z => (h5 b z).2.2 k ⟨l, hk⟩ k1
 have b0 : H₀ b = none := o.fresh k l b hk k1
 refine ⟨v, F i, b, ys, h1, h2, h4, k1, k2, k3, k4, nb, fun {H' O' T' f'} c hf r' nd' => ?_⟩
 have f0 : ∀ x ∈ b :: F i, H₀ x = none := fun x hx => (List.mem_cons.mp hx).elim (fun z => z ▸ b0) fun z => (h5 x z).1
 have fob : ∀ x ∈ b :: F i, ∀ m r2 t2, m ≠ i -> ds[m]? = some (.ob r2 t2) -> x ∉ F m := fun x hx m r2 t2 hm em => (List.mem_cons.mp hx).elim (fun z y => by
  obtain ⟨_, _, _, _, _, g5⟩ := hF m r2 t2 em
  exact (g5 b (z ▸ y)).2.2 k ⟨l, hk⟩ k1) fun z => (h5 x z).2.1 m r2 t2 hm em
 have fown : ∀ x ∈ b :: F i, ∀ m, m ≠ k -> IsOwn ds m -> σ[m]? ≠ some (some (.ref x)) := fun x hx m hm om em => (List.mem_cons.mp hx).elim (fun z => o.apart m k b hm om ⟨l, hk⟩ (z ▸ em) k1) fun z => (h5 x z).2.2 m om em
 have own' : ∀ {j : Nat}, IsOwn ((ds.set k .no).set i (.ob r T')) j -> IsOwn ds j /\ j ≠ k := fun h => xG (fun l => by intro z; cases z) (xG (fun l => by intro z; cases z) h).1
 have get' : ∀ {j : Nat} {s : Sl}, j ≠ i -> j ≠ k -> ((ds.set k .no).set i (.ob r T'))[j]? = some s -> ds[j]? = some s := fun hj hj2 es => by rwa [List.getElem?_set_ne (Ne.symm hj), List.getElem?_set_ne (Ne.symm hj2)] at es
 have ob' : ∀ {j : Nat} {r2 : Option Nat} {t2 : OT}, j ≠ i -> ((ds.set k .no).set i (.ob r T'))[j]? = some (.ob r2 t2) -> ds[j]? = some (.ob r2 t2) := fun hj es => by
  rw [List.getElem?_set_ne (Ne.symm hj)] at es
  exact (wD (fun r t => by intro z; cases z) es).1
 refine ⟨fun x y eb => ?_, fun j l2 x e1 e2 => ?_, fun x hb => ?_, by simpa using o.len, fun j sl es => ?_, fun j m x hjm hj hm e1 e2 => o.apart j m x hjm (own' hj).1 (own' hm).1 e1 e2, fun q hq => ?_, ?_⟩
 · have hb := o.same x y eb
   by_cases ob : O x
   · by_cases bf : x ∈ b :: F i
     · rw [f0 x bf] at eb; cases eb
     · exact c.rest x y ob bf hb
   · exact c.keep x y ob hb
 · obtain ⟨⟨l', e'⟩, _⟩ := own' ⟨l2, e1⟩
   exact o.fresh j l' x e' e2
 · rcases c.new x hb with z | z
   · by_cases bf : x ∈ b :: F i
     · exact hf x bf hb
     · obtain ⟨y, ey⟩ := o.dom x z
       exact ⟨y, c.rest x _ z bf ey⟩
   · exact (r'.owns x z.1).2
 · by_cases hj : j = i
   · subst hj
     rw [List.getElem?_set_self (by simpa using hl)] at es
     cases es
     exact jV
   · by_cases hj2 : j = k
     · subst hj2
       rw [List.getElem?_set_ne (Ne.symm hj), List.getElem?_set_self (List.getElem?_eq_some_iff.mp hk).1] at es
       cases es
       exact qW
     · have es := get' hj hj2 es
       cases sl with
       | no => exact qW
       | ob r t => exact jV
       | exc t =>
         obtain ⟨a', C', ob', x', q1, q2, q3, q4⟩ := o.readX es
         rw [q1]
         refine ⟨C', ob', x', q2, c.keep _ _ (fun z => ?_) q3, q4⟩
         obtain ⟨y, ey⟩ := o.dom _ z
         rw [q3] at ey
         have h2 := y.2
         rw [<- Option.some.inj ey] at h2
         cases h2
       | exf t fs =>
         obtain ⟨a', q1, q3⟩ := o.readE es
         rw [q1]
         refine q3.keep fun a' ob' x' q3 => c.keep _ _ (fun z => ?_) q3
         obtain ⟨y, ey⟩ := o.dom _ z
         rw [q3] at ey
         have h2 := y.2
         rw [<- Option.some.inj ey] at h2
         cases h2
       | fr l' =>
         obtain ⟨a', xs'', q1, q2, q0, q3, q4⟩ := o.readF es
         rw [q1]
         exact ⟨fun z => (c.new _ z).elim q2 (fun y => by rw [y.2] at q3; cases q3), q0, xs'', c.keep _ _ q2 q3, c.reps q4⟩
       | v d =>
         obtain ⟨v, q1, q2⟩ := o.read es
         rw [q1]
         exact jT (c.rep q2)
       | own l'' =>
         obtain ⟨x, zs, q1, q2, q3, q4⟩ := o.readO es
         rw [q1]
         have nx : x ∉ b :: F i := fun z => fown x z j hj2 ⟨l'', es⟩ q1
         exact ⟨c.sub _ q2 nx, zs, c.rest _ _ q2 nx q3, c.reps q4⟩
 · have := o.hold q hq
   cases q with
   | rep v d => exact c.rep this
   | base B => exact fun x hb => ⟨c.sub _ (this x hb).1 (fun z => (this x hb).2 (f0 x z)), (this x hb).2⟩
   | root k a => exact True.intro
   | fz a' o' kvs' l' => exact ⟨fun z => (c.new _ z).elim this.1 (fun y => by have z := this.2.1; rw [y.2] at z; cases z), c.keep _ _ this.1 this.2.1, c.reps this.2.2⟩
 · refine ⟨fun j => if j = i then f' else F j, fun j r2 t2 ej => ?_⟩
   by_cases hj : j = i
   · subst hj
     rw [List.getElem?_set_self (by simpa using hl)] at ej
     cases ej
     refine ⟨v, h1, by simpa using r', h3, by simpa using nd', fun x hb => ?_⟩
     have hb : x ∈ f' := by simpa using hb
     rcases c.fp x hb with z | z
     · refine ⟨f0 x z, fun m r3 t3 hm e3 y => ?_, fun m om em => fown x z m (own' om).2 (own' om).1 em⟩
       simp only [hm, if_false] at y
       exact fob x z m r3 t3 hm (ob' hm e3) y
     · refine ⟨o.same.free z, fun m r3 t3 hm e3 y => ?_, fun m om em => ?_⟩
       · simp only [hm, if_false] at y
         obtain ⟨_, _, w3, _⟩ := hF m r3 t3 (ob' hm e3)
         obtain ⟨_, x3, ex3⟩ := w3.owns x y
         rw [z] at ex3; cases ex3
       · obtain ⟨⟨l3, e3⟩, _⟩ := own' om
         obtain ⟨b3, zs, y1, _, y3, _⟩ := o.readO e3
         rw [em] at y1; cases y1
         rw [z] at y3; cases y3
   · have ej := ob' hj ej
     obtain ⟨w2, y1, y2, y3, y4, y5⟩ := hF j r2 t2 ej
     have apart : ∀ x ∈ F j, x ∉ b :: F i := fun x hb z => fob x z j r2 t2 hj ej hb
     refine ⟨w2, y1, by simp only [hj, if_false]; exact c.repO y2 apart, y3, by simpa [hj] using y4, fun x hb => ?_⟩
     have hb : x ∈ F j := by simpa [hj] using hb
     refine ⟨(y5 x hb).1, fun m r3 t3 hm e3 z => ?_, fun m om em => (y5 x hb).2.2 m (own' om).1 em⟩
     by_cases hmi : m = i
     · simp only [hmi, if_true] at z
       rcases c.fp x z with q | q
       · exact apart x hb q
       · obtain ⟨_, x3, ex3⟩ := y2.owns x hb
         rw [q] at ex3; cases ex3
     · simp only [hmi, if_false] at z
       exact (y5 x hb).2.1 m r3 t3 hm (ob' hmi e3) z
end
section
variable {X : Cx}
theorem prv_take (h2 : PVf X e2 f2) (hr : PV X re fr) (hN : X.N[i]? = some x := by rfl) (hM : X.N[k]? = some y := by rfl) (hv : Vis X.env.scope x := by first | exact Or.inl rfl | exact Or.inr (Or.inl rfl) | exact Or.inr (Or.inr rfl))
  (hw : Vis X.env.scope y := by first | exact Or.inl rfl | exact Or.inr (Or.inl rfl) | exact Or.inr (Or.inr rfl)) (hd : (x == ("__debug__" : Str)) = false := by decide) (hcd : (x == ("__classdict__" : Str)) = false := by decide)
  (hd' : (y == ("__debug__" : Str)) = false := by decide) (hcd' : (y == ("__classdict__" : Str)) = false := by decide)
  (hfew : ((backTo p3 (starEach [.Tuple [.Name y py, e2] x1 pt] X.env)).all (fun x => !x.1) && (backToKw p3 (keywordEach [] X.env)).all (fun x => x.1.isSome)
    && decide ([Expr.Tuple [.Name y py, e2] x1 pt].length + ([] : List Keyword).length + (if ([] : List Keyword).isEmpty then 0 else 1) < 30)) = true := by rfl)
  (hline : (p2.endLine == p3.line) = true := by rfl) (hs : starEach [.Tuple [.Name y py, e2] x1 pt] X.env = (false, eval (.Tuple [.Name y py, e2] x1 pt) X.env) :: starEach [] X.env := by rfl)
  (hs2 : starEach [.Name y py, e2] X.env = (false, eval (.Name y py) X.env) :: starEach [e2] X.env := by rfl) (hs3 : starEach [e2] X.env = (false, eval e2 X.env) :: starEach [] X.env := by rfl)
  (hbase : attributeBase (.Name x p1) "append" X.env (eval (.Name x p1) X.env) = eval (.Name x p1) X.env := by rfl) (hsw : swapsWith (.Call (.Attribute (.Name x p1) "append" p2) [.Tuple [.Name y py, e2] x1 pt] [] p3) none pos.line X.env = pure false := by rfl) :
  PRv X [.Expr (.Call (.Attribute (.Name x p1) "append" p2) [.Tuple [.Name y py, e2] x1 pt] [] p3) pos, .Return (some re) pos'] (takeR i k f2 fr) := by
 obtain ⟨t2, q2, h2⟩ := h2
 obtain ⟨tr, qr, hr⟩ := hr
 refine ⟨_, xT (yR (pe_bm PySem.F.plainAttrs_list PySem.F.slot_list_append PySem.F.type_list_append wO (jZ hN hv hd hcd) (jC (pe_tup (jC (jZ hM hw hd' hcd') (jC q2 yF hs3) hs2)) yF hs) hbase hfew hline hs rfl) hsw) (kA (vC qr)), fun H₀ H O σ ds hd d ds' E o e q => ?_⟩
 unfold takeR at e
 split at e
 · rename_i r ts hi
   split at e
   · rename_i l hk
     obtain ⟨l2, h3, e⟩ := bnd e
     split at e
     · rename_i hl
       obtain ⟨d2, h4, e⟩ := bnd e
       split at e
       · rename_i hfl
         cases e
         obtain ⟨v, fi, b, ys, s1, rT, nd, s2, Ob, Hb, rl, nb, back⟩ := o.takeIn hi hk
         cases rT with
         | @lst a xs _ fs0 na Ha rs =>
           obtain ⟨n3, n4⟩ := List.nodup_cons.mp nd
           refine ⟨.ref a, s1, .inl ⟨rfl, xs, SqL.of Ha⟩, ?_⟩
           refine ⟨.ref b, s2, ?_⟩
           refine h2 H₀ H O σ ds hd l2 _ o h3 fun c zs H1 sm Hc H1c rz => ?_
           refine ⟨by simp [sizeLine], fun p hp => ?_⟩
           have Sp := qL hp (.tup [.ref b, .ref c])
           have s12 := sm.trans Sp
           refine ⟨a, xs, .ref p, rfl, rfl, s12 _ _ Ha, by rw [rs.length]; exact hl, ?_⟩
           generalize eH2 : upd H1 p (.tup [.ref b, .ref c]) = H2 at *
           have ba : b ≠ a := fun z => nb (by rw [z]; exact .head _)
           have ca : c ≠ a := fun z => by rw [z, Ha] at Hc; cases Hc
           have cb : c ≠ b := fun z => by rw [z, Hb] at Hc; cases Hc
           have pa' : p ≠ a := fun z => by rw [z, sm _ _ Ha] at hp; cases hp
           have pc : p ≠ c := fun z => by rw [z, H1c] at hp; cases hp
           have nOc : ¬ O c := fun z => by obtain ⟨u, eu⟩ := o.dom c z; rw [Hc] at eu; cases eu
           have pO : ¬ O p := fun z => by obtain ⟨u, eu⟩ := o.dom p z; rw [sm _ _ eu] at hp; cases hp
           have up : ∀ z u, z ≠ a -> H2 z = some u -> upd H2 a (.lst (xs ++ [.ref p])) z = some u := fun z u nz ez => by rw [L2.upd_ne nz]; exact ez
           have c0 : Chg H (upd H2 a (.lst (xs ++ [.ref p]))) O (orL [c] O) [a] [a, c] :=
            ⟨fun z u nz ez => up z u (fun y => nz (y ▸ na)) (s12 _ _ ez), fun z u _ nz ez => up z u (fun y => nz (by rw [y]; exact .head _)) (s12 _ _ ez), fun z oz _ => .inr oz, fun z oz => oz.elim (fun y => by cases List.mem_singleton.mp y; exact .inr ⟨by simp, Hc⟩) .inl, fun z hz => by
              rcases List.mem_cons.mp hz with y | y
              · exact .inl (by rw [y]; exact .head _)
              · cases List.mem_singleton.mp y; exact .inr Hc⟩
           have rs' := c0.repsO rs fun z hz y => n3 (List.mem_singleton.mp y ▸ hz)
           have rz' : Reps X.K (upd H2 a (.lst (xs ++ [.ref p]))) (orL [c] O) zs l2 := by
            refine Reps.less (O := ins1 c O) (fun z oz => oz.elim (fun y => .inl (List.mem_singleton.mp y)) .inr) ?_
            exact (rz.mono Sp).keep fun z u nz ez => up z u (fun y => nz (.inr (y ▸ na))) ez
           have rb : RepO X.K (upd H2 a (.lst (xs ++ [.ref p]))) (orL [c] O) (.ref b) (.lst (l.map .val)) [b] := .lst (.inr Ob) (up b _ ba (s12 _ _ Hb)) (RepsO.vals (c0.reps rl))
           have rc : RepO X.K (upd H2 a (.lst (xs ++ [.ref p]))) (orL [c] O) (.ref c) (.lst (l2.map .val)) [c] := .lst (.inl (.head _)) (up c _ ca (Sp _ _ H1c)) (RepsO.vals rz')
           have rt : RepO X.K (upd H2 a (.lst (xs ++ [.ref p]))) (orL [c] O) (.ref p) (.tup [.lst (l.map .val), .lst (l2.map .val)]) [b, c] :=
            .tup (fun z => z.elim (fun y => pc (List.mem_singleton.mp y)) pO) (.inl (up p _ pa' (by rw [<- eH2, zS]))) (.cons rb (.cons rc .nil))
           have rT' : RepO X.K (upd H2 a (.lst (xs ++ [.ref p]))) (orL [c] O) (.ref a) (takeT ts l l2) (a :: (fs0 ++ [b, c])) := .lst (.inr na) zS (rs'.snocO rt)
           have old : ∀ z ∈ fs0, H z ≠ none := fun z hz y => by obtain ⟨_, x, ex⟩ := rs.owns z hz; rw [y] at ex; cases ex
           have oF := back (H' := upd H2 a (.lst (xs ++ [.ref p]))) (O' := orL [c] O) (T' := takeT ts l l2) (f' := a :: (fs0 ++ [b, c]))
            ⟨c0.keep, fun z u oz nz ez => up z u (fun y => nz (by rw [y]; exact .tail _ (.head _))) (s12 _ _ ez), fun z oz _ => .inr oz, fun z oz => oz.elim (fun y => by cases List.mem_singleton.mp y; exact .inr ⟨by simp, Hc⟩) .inl, fun z hz => by
              rcases List.mem_cons.mp hz with y | y
              · exact .inl (by rw [y]; exact .tail _ (.head _))
              · rcases List.mem_append.mp y with y | y
                · exact .inl (.tail _ (.tail _ y))
                · rcases List.mem_cons.mp y with y | y
                  · exact .inl (by rw [y]; exact .head _)
                  · cases List.mem_singleton.mp y; exact .inr Hc⟩
            (fun z hz _ => by
              by_cases y : z = a
              · rw [y, zS]; exact ⟨⟨.lst (xs ++ [.ref p]), rfl⟩, rfl⟩
              · rcases List.mem_cons.mp hz with w | w
                · rw [w]; exact ⟨⟨.lst ys, rfl⟩, up b _ ba (s12 _ _ Hb)⟩
                · rcases List.mem_cons.mp w with w | w
                  · exact (y w).elim
                  · obtain ⟨_, u, eu⟩ := rs.owns z w
                    exact ⟨u, up z _ y (s12 _ _ eu)⟩)
            rT' (by
             refine List.nodup_cons.mpr ⟨fun z => ?_, ?_⟩
             · rcases List.mem_append.mp z with z | z
               · exact n3 z
               · rcases List.mem_cons.mp z with z | z
                 · exact ba z.symm
                 · exact ca (List.mem_singleton.mp z).symm
             · rw [List.nodup_append]
               refine ⟨n4, by simp [Ne.symm cb], fun u hu w hw z => ?_⟩
               subst z
               rcases List.mem_cons.mp hw with w | w
               · exact nb (by rw [<- w]; exact .tail _ hu)
               · exact old u hu (by rw [List.mem_singleton.mp w]; exact Hc))
           have hkl := (List.getElem?_eq_some_iff.mp hk).1
           have oC : Ok X.K H₀ (upd H2 a (.lst (xs ++ [.ref p]))) jH σ ((ds.map onlyV).set k (.v (.lst l))) [] := by
            refine ok_plain oF.same (by simpa using o.len) fun j s es => ?_
            by_cases hj : j = k
            · subst hj
              rw [List.getElem?_set_self (by simpa using hkl)] at es
              cases es
              exact .inr ⟨_, _, rfl, s2, .lst (fun z => z.elim) (.inl (up b _ ba (s12 _ _ Hb))) ((c0.reps rl).less fun _ z => z.elim)⟩
            · rw [List.getElem?_set_ne (Ne.symm hj), List.getElem?_map] at es
              cases hs' : ds[j]? with
              | none => rw [hs'] at es; cases es
              | some s' =>
                rw [hs'] at es
                cases es
                cases s' with
                | v d' =>
                  obtain ⟨v', g1, g2⟩ := o.read hs'
                  exact .inr ⟨d', v', rfl, g1, (c0.rep g2).less fun _ z => z.elim⟩
                | _ => exact .inl rfl
           refine hr H₀ _ jH σ _ [] d _ oC h4 fun w H4 s4 r4 => ?_
           refine q w σ H4 (orL [c] O) (oF.mono s4) (Rep.flatten (fun z oz => ?_) hfl r4)
           obtain ⟨u, eu⟩ := (oF.mono s4).dom z oz
           exact ⟨_, eu, u.2⟩
       · cases e
     · cases e
   · cases e
 · cases e
theorem pvx_all (hc : X.calm = true) (hm : X.mg "all" = none) (ha : PVx X e f) (hg : Gl X "all" := by rfl) (he : starEach [e] X.env = [(false, eval e X.env)] := by rfl) :
  PVx X (.Call (.Name "all" p) [e] [] pos) (allR f) := by
 obtain ⟨t, ht, hf⟩ := ha
 refine ⟨_, vE (call_allB hc) hg hm (by decide +kernel) (jC ht yF he) (by decide) (by decide) he rfl, fun H₀ H O σ ds hd d ds' Q o e q => ?_⟩
 obtain ⟨z, h1, e⟩ := bnd e
 obtain ⟨d2, h2, e⟩ := mpd e
 cases e
 refine hf H₀ H O σ ds hd z.1 z.2 _ o h1 fun v H' O' o' r => ?_
 exact cs_all H' O' [v] [z.1] d _ o'.dom (.cons (.inl r) .nil) h2 fun v2 H2 s2 r2 => q v2 H2 O' (o'.mono s2) r2
end
section
variable {K : Frag}
theorem Rd.det {o o' : HO} (h : Rd H a o) (h' : Rd H a o') (n : ∀ x y, o ≠ .frz x y) (n' : ∀ x y, o' ≠ .frz x y) : o = o' := by
 rcases h with h | ⟨x, h⟩ <;> rcases h' with h' | ⟨y, h'⟩ <;> rw [h] at h' <;> cases h'
 · rfl
 · exact (n _ _ rfl).elim
 · exact (n' _ _ rfl).elim
 · rfl
mutual
theorem RepO.det {O2 : Addr -> Prop} : ∀ {v : V} {t : OT} {f g : List Addr}, RepO K H O v t f -> RepO K H O2 v t g -> f = g
 | _, _, _, _, .val _ => fun h => by cases h; rfl
 | _, _, _, _, .lst n h r => fun h2 => by
   cases h2 with
   | lst n' h' r' => rw [h] at h'; cases h'; rw [RepsO.det r r']
 | _, _, _, _, .tup n h r => fun h2 => by
   cases h2 with
   | tup n' h' r' => cases Rd.det h h' (fun _ _ z => nomatch z) (fun _ _ z => nomatch z); exact RepsO.det r r'
 | _, _, _, _, .dct n h e r => fun h2 => by
   cases h2 with
   | dct n' h' e' r' => rw [h] at h'; cases h'; rw [RepsO.det r r']
 | _, _, _, _, .ins c n h e r => fun h2 => by
   cases h2 with
   | ins c' n' h' e' r' => rw [h] at h'; cases h'; rw [RepsO.det r r']
theorem RepsO.det {O2 : Addr -> Prop} : ∀ {v : List V} {t : List OT} {f g : List Addr}, RepsO K H O v t f -> RepsO K H O2 v t g -> f = g
 | _, _, _, _, .nil => fun h => by cases h; rfl
 | _, _, _, _, .cons h r => fun h2 => by
   cases h2 with
   | cons h' r' => rw [RepO.det h h', RepsO.det r r']
end
end
section
variable {X : Cx}
theorem pvx_look j (h : PVx X e f) : PVx X e (lookR j f) := by
 obtain ⟨t, ht, hf⟩ := h
 refine ⟨t, ht, fun H₀ H O σ ds hd d ds' Q o e q => ?_⟩
 unfold lookR at e
 split at e
 · rename_i r T hj
   split at e
   · rename_i hT
     obtain ⟨z, h1, e⟩ := bnd e
     obtain ⟨T', h2, e⟩ := bnd e
     split at e
     · rename_i hfl
       cases e
       obtain ⟨a, fs, ea, rt, nd, ow, back⟩ := o.lendAt hj hT
       obtain ⟨F, hF⟩ := o.obs
       obtain ⟨v0, g1, g2, g3, g4, g5⟩ := hF j r T hj
       rw [ea] at g1
       cases g1
       have efs : fs = F j := RepO.det rt g2
       have hlj := (List.getElem?_eq_some_iff.mp hj).1
       have toO : ∀ b, orL fs (fun _ => False) b -> O b := fun b z => z.elim (ow b) False.elim
       have oI : Ok X.K (cutH fs H) H (orL fs (fun _ => False)) σ ((ds.map lk1).set j (.ob (some j) T)) [.root j a, .base (fun _ => False)] := by
        refine ok_lend (rt.less toO fun b z => .inl z) nd (fun b z => z.elim) (by simpa using o.len) (by rw [List.getElem?_set_self (by simpa using hlj)]) ea fun m s hm es => ?_
        rw [List.getElem?_set_ne (Ne.symm hm), List.getElem?_map] at es
        cases hs : ds[m]? with
        | none => rw [hs] at es; cases es
        | some s' =>
          rw [hs] at es
          cases es
          cases s' with
          | v d' =>
            obtain ⟨v', q1, q2⟩ := o.read hs
            exact .inr ⟨d', v', rfl, q1, q2.less toO⟩
          | ob r2 T2 =>
            obtain ⟨v', q1, q2, _, _, q5⟩ := hF m r2 T2 hs
            refine .inr ⟨_, v', rfl, q1, q2.frz fun b z => ⟨toO b z, fun y => ?_⟩⟩
            refine (q5 b y).2.1 j r T (Ne.symm hm) hj ?_
            rw [<- efs]
            exact z.elim id False.elim
          | own l =>
            obtain ⟨b, ys, q1, q2, q3, q4⟩ := o.readO hs
            refine .inr ⟨_, _, rfl, q1, .lst (fun z => ?_) (.inl q3) (q4.less toO)⟩
            have z : b ∈ F j := by rw [<- efs]; exact z.elim id False.elim
            exact (g5 b z).2.2 m ⟨l, hs⟩ q1
          | _ => exact .inl rfl
       have h3 : z.2[j]? = some (.ob (some j) T') := by
        cases hz : z.2[j]? with
        | none => rw [hz] at h2; cases h2
        | some s =>
          rw [hz] at h2
          cases s with
          | ob r2 t2 =>
            cases r2 with
            | none => cases h2
            | some q2 =>
              simp only [obAt] at h2
              split at h2
              · rename_i hq; subst hq; cases h2; rfl
              · cases h2
          | _ => cases h2
       refine hf _ H _ σ _ _ z.1 z.2 _ oI h1 fun v H' O' o' r' => ?_
       obtain ⟨fs', k1, k2, k3, k4, k5⟩ := o'.lendEnd h3 (.head _) (.tail _ (.head _))
       have k2' : RepO X.K H' (orL fs' (fun b => O b /\ b ∉ fs)) (.ref a) T' fs' := by
        refine RepO.flatten (fun b hb => ?_) hfl.1 k2 fun b hb => .inl hb
        rcases hb with hb | hb
        · obtain ⟨_, u, eu⟩ := k2.owns b hb
          exact ⟨_, eu, u.2⟩
        · obtain ⟨u, eu⟩ := o.dom b hb.1
          exact ⟨_, k1 b _ hb.2 eu, u.2⟩
       have oF := back k1 k2' k3 k4
       refine q v H' _ oF (Rep.flatten (fun b hb => ?_) hfl.2 r')
       obtain ⟨u, eu⟩ := oF.dom b hb
       exact ⟨_, eu, u.2⟩
     · cases e
   · cases e
 · cases e
end
mutual
theorem RepO.flattenZ {K : Frag} {H : Hp} {O O' : Addr -> Prop} (ho : ∀ a, O a -> Old H a) : ∀ {v : V} {t : OT} {fs : List Addr}, flatOZ t = true -> RepO K H O' v t fs -> (∀ b ∈ fs, O b) -> RepO K H O v t fs
 | _, _, _, f, .val r, _ => .val (Rep.flattenZ ho (by simpa [flatOZ] using f) r)
 | _, _, _, f, .lst n h r, hb => .lst (hb _ (.head _)) h (RepsO.flattenZ ho (by simpa [flatOZ] using f) r fun b z => hb b (.tail _ z))
 | _, _, _, f, .dct n h e r, hb => .dct (hb _ (.head _)) h e (RepsO.flattenZ ho (by simpa [flatOZ] using f) r fun b z => hb b (.tail _ z))
 | _, _, _, f, .ins c n h e r, hb => .ins c (hb _ (.head _)) h e (RepsO.flattenZ ho (by simpa [flatOZ] using f) r fun b z => hb b (.tail _ z))
 | _, _, _, f, .tup (a := a) n h r, hb => .tup (fun z => by
    obtain ⟨u, e, m⟩ := ho a z
    rcases h with h | ⟨o, h⟩
    · rw [e] at h; cases h; cases m
    · rw [e] at h; cases h; cases m) h (RepsO.flattenZ ho (by simpa [flatOZ] using f) r hb)
theorem RepsO.flattenZ {K : Frag} {H : Hp} {O O' : Addr -> Prop} (ho : ∀ a, O a -> Old H a) : ∀ {v : List V} {t : List OT} {fs : List Addr}, flatOZs t = true -> RepsO K H O' v t fs -> (∀ b ∈ fs, O b) -> RepsO K H O v t fs
 | _, _, _, _, .nil, _ => .nil
 | _, _, _, f, .cons h r, hb => by
   simp only [flatOZs, Bool.and_eq_true] at f
   exact .cons (RepO.flattenZ ho f.1 h fun b z => hb b (List.mem_append_left _ z)) (RepsO.flattenZ ho f.2 r fun b z => hb b (List.mem_append_right _ z))
end
section
variable {X : Cx}
theorem pvo_relZ i (h : PVo X e f) : PVo X e (relGZ i f) := by
 obtain ⟨t, ht, hf⟩ := h
 refine ⟨t, ht, fun H₀ H O σ ds hd T Q ok ex q => ?_⟩
 obtain ⟨O', o'⟩ := ok.look i
 unfold relGZ at ex
 obtain ⟨T', h1, ex⟩ := bnd ex
 split at ex
 · rename_i hfl
   cases ex
   refine hf H₀ H O' σ _ hd _ Q o' h1 fun v H' fs s r nd nw => q v H' fs s ?_ nd nw
   refine RepO.flattenZ (fun a z => ?_) hfl r fun b hb => .inl hb
   rcases z with z | z
   · obtain ⟨_, u, e⟩ := r.owns a z
     exact ⟨u.1, e, u.2⟩
   · obtain ⟨u, e⟩ := (ok.mono s).dom a z
     exact ⟨_, e, u.2⟩
 · cases ex
theorem pvo_if (hc : PTv X c fc) (ha : PVo X a f) (hb : PVo X b g) : PVo X (.IfExp c a b pos) (ifO fc f g) := by
 obtain ⟨tc, pc, hc⟩ := hc
 obtain ⟨t, ht, hf⟩ := ha
 obtain ⟨u, hu, hg⟩ := hb
 refine ⟨_, pe_ifExp pc ht hu, fun H₀ H O σ ds hd T Q o e q => ?_⟩
 obtain ⟨k, h1, e⟩ := bnd e
 refine hc H₀ H O σ ds hd k _ o h1 fun H' s => ?_
 have q' : ∀ (v : V) (H2 : Hp) (fs : List Addr), Same H' H2 -> RepO X.K H2 (orL fs O) v T fs -> fs.Nodup -> (∀ b ∈ fs, H' b = none) -> Q v H2 := fun v H2 fs s2 r nd nw => q v H2 fs (s.trans s2) r nd fun b hb => s.free (nw b hb)
 cases k with
 | true => exact iteT (hf H₀ H' O σ ds hd T _ (o.mono s) (by simpa using e) q')
 | false => exact iteF (hg H₀ H' O σ ds hd T _ (o.mono s) (by simpa using e) q')
end
noncomputable def oi : Option Int -> D
 | none => .non
 | some i => .int i
@[simp] theorem oi_none : oi none = .non := rfl
@[simp] theorem oi_some i : oi (some i) = .int i := rfl
noncomputable def andK (r : Option D) : D -> Option D := fun d => match d with | .bl true => r | .bl false => some (.bl false) | _ => none
noncomputable def orK (r : Option D) : D -> Option D := fun d => match d with | .bl true => some (.bl true) | .bl false => r | _ => none
@[simp] theorem andK_bl r b : andK r (.bl b) = if b = true then r else some (.bl false) := by cases b <;> rfl
@[simp] theorem orK_bl r b : orK r (.bl b) = if b = true then some (.bl true) else r := by cases b <;> rfl
@[simp] theorem ite_andD b c : (if b = true then some (D.bl c) else some (D.bl false)) = some (.bl (b && c)) := by cases b <;> rfl
@[simp] theorem ite_orD b c : (if b = true then some (D.bl true) else some (D.bl c)) = some (.bl (b || c)) := by cases b <;> rfl
@[simp] theorem ite_andB b c : (if b = true then some c else some false) = some (b && c) := by cases b <;> rfl
@[simp] theorem ite_orB b c : (if b = true then some true else some c) = some (b || c) := by cases b <;> rfl
@[simp] theorem ite_andD' p [Decidable p] c : (if p then some (D.bl c) else some (D.bl false)) = some (.bl (decide p && c)) := by by_cases h : p <;> simp [h]
@[simp] theorem ite_andB' p [Decidable p] c : (if p then some c else some false) = some (decide p && c) := by by_cases h : p <;> simp [h]
@[simp] theorem ite_orB' p [Decidable p] c : (if p then some true else some c) = some (decide p || c) := by by_cases h : p <;> simp [h]
@[simp] theorem szl : sizeLine = 16777216 := sizeLine_eq
section
variable (ds : List Sl)
@[simp] theorem getV_eq (i : Nat) : qB i ds = match ds[i]? with | some (.v d) => some d | _ => none := rfl
@[simp] theorem getW_eq (i : Nat) : zJ i ds = match ds[i]? with | some (.v d) => some d | some (.own l) => some (.lst l) | _ => none := rfl
@[simp] theorem konst_eq (d : D) : zA d ds = some d := rfl
@[simp] theorem bin2_eq (op : D -> D -> Option D) (fa fb : FE) : zI op fa fb ds = (fa ds).bind fun x => (fb ds).bind fun y => op x y := rfl
@[simp] theorem un1_eq (op : D -> Option D) (f : FE) : un1 op f ds = (f ds).bind op := rfl
@[simp] theorem callB_eq (F : List D -> Option D) (g : FA) : callB F g ds = (g ds).bind F := rfl
@[simp] theorem callV_eq (n : Nat) (F : List D -> Option Ret) (g : FA) : qK n F g ds = (g ds).bind fun l => if l.length = n then (F l).bind retV else none := rfl
@[simp] theorem callF_eq (n : Nat) (F : List D -> Option Ret) (g : FA) : wQ n F g ds = (g ds).bind fun l => if l.length = n then (F l).bind retF else none := rfl
@[simp] theorem retV_val d : retV (.val d) = some d := rfl
@[simp] theorem retV_fresh l : retV (.fresh l) = some (.lst l) := rfl
@[simp] theorem retF_val d : retF (.val d) = none := rfl
@[simp] theorem retF_fresh l : retF (.fresh l) = some l := rfl
@[simp] theorem consA_eq (f : FE) (g : FA) : zB f g ds = (f ds).bind fun x => (g ds).map fun r => x :: r := rfl
@[simp] theorem nilA_eq : zQ ds = some [] := rfl
@[simp] theorem sized_eq (f : FA) : zR f ds = (f ds).bind fun l => if l.length <= sizeLine then some l else none := rfl
@[simp] theorem mkL_eq (f : FA) : mkL f ds = (f ds).map D.lst := rfl
@[simp] theorem mkT_eq (f : FA) : mkT f ds = (f ds).map D.tup := rfl
@[simp] theorem testB_eq (f : FE) : zU f ds = (f ds).bind isB := rfl
@[simp] theorem testT_eq (f : FE) : testT f ds = (f ds).bind truD := rfl
@[simp] theorem isB_bl b : isB (.bl b) = some b := rfl
@[simp] theorem andT_eq (c d : FT) : andT c d ds = (c ds).bind fun b => if b = true then d ds else some false := rfl
@[simp] theorem orT_eq (c d : FT) : orT c d ds = (c ds).bind fun b => if b = true then some true else d ds := rfl
@[simp] theorem notT_eq (c : FT) : notT c ds = (c ds).map not := rfl
@[simp] theorem andV_eq (f g : FE) : andV f g ds = (f ds).bind (andK (g ds)) := rfl
@[simp] theorem orV_eq (f g : FE) : orV f g ds = (f ds).bind (orK (g ds)) := rfl
@[simp] theorem notV_eq (f : FE) : notV f ds = (f ds).bind fun d => match d with | .bl b => some (.bl (!b)) | _ => none := rfl
@[simp] theorem ifV_eq (c : FT) (f g : FE) : ifV c f g ds = (c ds).bind fun b => if b = true then f ds else g ds := rfl
@[simp] theorem seqG_eq (f g : FS) : qG f g ds = (f ds).bind fun o => match o with | .nx ds' => g ds' | o => some o := rfl
@[simp] theorem ifG_eq (c : FT) (f g : FS) : ifG c f g ds = (c ds).bind fun b => if b = true then f ds else g ds := rfl
@[simp] theorem setG_eq (i : Nat) (f : FE) : yE i f ds = (f ds).map fun d => .nx (ds.set i (.v d)) := rfl
@[simp] theorem setOG_eq (i : Nat) (f : FA) : setOG i f ds = (f ds).map fun l => .nx (ds.set i (.own l)) := rfl
@[simp] theorem retG_eq (f : FE) : retG f ds = (f ds).bind flatR := rfl
@[simp] theorem retOG_eq (f : FA) : retOG f ds = (f ds).bind flatF := rfl
@[simp] theorem retXG_eq (i : Nat) : retXG i ds = match ds[i]? with | some (.own l) => flatF l | _ => none := rfl
@[simp] theorem nextG_eq : qI ds = some (.nx ds) := rfl
@[simp] theorem appG_eq (i : Nat) (fe : FE) : appG i fe ds = match ds[i]? with
 | some (.own l) => (fe ds).bind fun d => if l.length < sizeLine then some (.nx (ds.set i (.own (l ++ [d])))) else none
 | _ => none := rfl
@[simp] theorem extG_eq (i : Nat) (fe : FA) : extG i fe ds = match ds[i]? with
 | some (.own l) => (fe ds).bind fun d => if l.length + d.length <= sizeLine then some (.nx (ds.set i (.own (l ++ d)))) else none
 | _ => none := rfl
@[simp] theorem putG_eq (i : Nat) (fk fe : FE) : putG i fk fe ds = match ds[i]? with
 | some (.own l) => (fe ds).bind fun d => (fk ds).bind fun k => match k with
   | .int n => (ixN l.length n).map fun j => .nx (ds.set i (.own (l.set j d)))
   | _ => none
 | _ => none := rfl
@[simp] theorem clrG_eq (i : Nat) : clrG i ds = match ds[i]? with
 | some (.own l) => some (.nx (ds.set i (.own [])))
 | _ => none := rfl
@[simp] theorem asgG_eq (ga : D -> List Sl -> Option (List Sl)) (f : FE) : asgG ga f ds = (f ds).bind fun d => (ga d ds).map .nx := rfl
@[simp] theorem relS_eq (i : Nat) : relS i ds = match ds[i]? with | some (.own l) => ds.set i (.v (.lst l)) | _ => ds := rfl
@[simp] theorem viaA_eq (f : FE) (k : D -> Option (List D)) : viaA f k ds = (f ds).bind k := rfl
@[simp] theorem asLT_lst l : asLT (.lst l) = some l := rfl
@[simp] theorem asLT_tup l : asLT (.tup l) = some l := rfl
@[simp] theorem catA_eq (fa fb : FE) : catA fa fb ds = (fa ds).bind fun x => (fb ds).bind fun y => match x, y with
 | .lst a, .lst b => if a.length + b.length <= sizeLine then some (a ++ b) else none
 | _, _ => none := rfl
@[simp] theorem sliA_eq (f : FE) (lo hi : List Sl -> Option (Option Int)) : sliA f lo hi ds = (f ds).bind fun d => (lo ds).bind fun a => (hi ds).bind fun b => match d with
 | .lst l => some (cutD l a b)
 | _ => none := rfl
@[simp] theorem lisA_eq (f : FE) : lisA f ds = (f ds).bind asLT := rfl
@[simp] theorem noP_eq : noP ds = some none := rfl
@[simp] theorem soP_eq (f : FE) : soP f ds = (f ds).bind fun d => match d with | .int i => some (some i) | _ => none := rfl
@[simp] theorem forG_eq (fi : FA) (ga : D -> List Sl -> Option (List Sl)) (body : FS) : forG fi ga body ds = (fi ds).bind fun items => jM ga body items ds := rfl
@[simp] theorem nameG_eq (i : Nat) (d : D) : zW i d ds = some (ds.set i (.v d)) := rfl
@[simp] theorem tupG_eq (n : Nat) (h : List D -> List Sl -> Option (List Sl)) (l : List D) : tupG n h (.tup l) ds = if l.length = n then h l ds else none := rfl
@[simp] theorem tgCons_eq (g : D -> List Sl -> Option (List Sl)) (h : List D -> List Sl -> Option (List Sl)) (d : D) (r : List D) : zP g h (d :: r) ds = (g d ds).bind fun ds' => h r ds' := rfl
@[simp] theorem tgNil_eq : tgNil [] ds = some ds := rfl
@[simp] theorem isiG_eq (T : String) (f : FE) : isiG T f ds = (f ds).bind (isiD T) := rfl
@[simp] theorem chain_eq (op op' : D -> D -> Option D) (fa fb fc : FE) : chain op op' fa fb fc ds = (fa ds).bind fun x => (fb ds).bind fun y => (op x y).bind fun z => match z with
 | .bl true => (fc ds).bind fun w => op' y w
 | .bl false => some (.bl false)
 | _ => none := rfl
end
@[simp] theorem addD_int i j : yD (.int i) (.int j) = some (.int (i + j)) := rfl
@[simp] theorem subD_int i j : subD (.int i) (.int j) = some (.int (i - j)) := rfl
@[simp] theorem negD_int i : negD (.int i) = some (.int (-i)) := rfl
@[simp] theorem ltD_int i j : ltD (.int i) (.int j) = some (.bl (decide (i < j))) := rfl
@[simp] theorem leD_int i j : leD (.int i) (.int j) = some (.bl (decide (i <= j))) := rfl
@[simp] theorem gtD_int i j : gtD (.int i) (.int j) = some (.bl (decide (j < i))) := rfl
@[simp] theorem geD_int i j : geD (.int i) (.int j) = some (.bl (decide (j <= i))) := rfl
@[simp] theorem yN i (h : 0 < j) : qX (.int i) (.int j) = some (.int (i % j)) := if_pos h
theorem divOk_small (h : 0 < j) (h2 : j < 1000000000) : divOk j := ⟨h, by
 have h3 : j.natAbs < 2 ^ 30 := by
  lia
 have h4 : j.natAbs ≠ 0 := by lia
 have := (Nat.log2_lt h4).mpr h3
 lia⟩
@[simp] theorem xD i (h : 0 < j) (h2 : j < 1000000000) : qP (.int i) (.int j) = some (.int (i / j)) := if_pos (divOk_small h h2)
theorem xE (h : IntMulOk i j) : xF (.int i) (.int j) = some (.int (i * j)) := if_pos h
theorem powD_ok (h : CPowB i j) : powD (.int i) (.int j) = some (.int (i ^ j.toNat)) := if_pos h
theorem cpow_of {i j : Int} {n m : Nat} (h : i.natAbs < 2 ^ n) (h0 : 0 <= j) (h1 : j <= m) (h2 : n * m <= 134217728) : CPowB i j := by
 refine ⟨h0, ?_⟩
 have hb := intBits_le_iff.mpr h
 have h3 : (Builtin.Int.intBits i : Int) * j <= (n : Int) * (m : Int) := Int.mul_le_mul (by lia) h1 h0 (by lia)
 have e2 : (2 : Int) ^ 27 = 134217728 := by decide
 lia
@[simp] theorem pow10 (h0 : 0 <= j) (h1 : j <= 1000) : powD (.int 10) (.int j) = some (.int (10 ^ j.toNat)) := powD_ok (cpow_of (n := 4) (m := 1000) (by decide) h0 h1 (by decide))
@[simp] theorem mxD_int i j : mxD [.int i, .int j] = some (.int (max i j)) := by
 show some (D.int (if j > i then j else i)) = _
 congr 2
 split <;> lia
@[simp] theorem mnD_int i j : mnD [.int i, .int j] = some (.int (min i j)) := by
 show some (D.int (if j < i then j else i)) = _
 congr 2
 split <;> lia
@[simp] theorem lenD_lst l : lenD [.lst l] = some (.int l.length) := rfl
@[simp] theorem lenD_tup l : lenD [.tup l] = some (.int l.length) := rfl
@[simp] theorem isD_non : isD .non .non = some (.bl true) := rfl
@[simp] theorem isD_int i : isD (.int i) .non = some (.bl false) := rfl
@[simp] theorem isD_bl i : isD (.bl i) .non = some (.bl false) := rfl
@[simp] theorem isD_tup i : isD (.tup i) .non = some (.bl false) := rfl
@[simp] theorem isD_lst i : isD (.lst i) .non = some (.bl false) := rfl
@[simp] theorem isD_oi o : isD (oi o) .non = some (.bl o.isNone) := by cases o <;> rfl
@[simp] theorem notD_non : notD .non .non = some (.bl false) := rfl
@[simp] theorem notD_int i : notD (.int i) .non = some (.bl true) := rfl
@[simp] theorem notD_bl i : notD (.bl i) .non = some (.bl true) := rfl
@[simp] theorem notD_tup i : notD (.tup i) .non = some (.bl true) := rfl
@[simp] theorem notD_lst i : notD (.lst i) .non = some (.bl true) := rfl
@[simp] theorem notD_oi o : notD (oi o) .non = some (.bl o.isSome) := by cases o <;> rfl
@[simp] theorem truD_bl b : truD (.bl b) = some b := rfl
@[simp] theorem truD_non : truD .non = some false := rfl
@[simp] theorem truD_lst l : truD (.lst l) = some (!l.isEmpty) := rfl
@[simp] theorem truD_tup l : truD (.tup l) = some (!l.isEmpty) := rfl
theorem vV {n : Nat} {i : Int} (h : 0 <= i) (h2 : i < n) : ixN n i = some i.toNat := by
 unfold ixN
 rw [if_pos h, if_pos h2]
theorem qQ l (h : 0 <= i) (h2 : i < l.length) : ixD (.lst l) (.int i) = l[i.toNat]? := by
 show atI l i = _
 unfold atI
 rw [vV h h2]
 rfl
theorem ixT_pos l (h : 0 <= i) (h2 : i < l.length) : ixD (.tup l) (.int i) = l[i.toNat]? := by
 show atI l i = _
 unfold atI
 rw [vV h h2]
 rfl
@[simp] theorem ixT0 a l : ixD (.tup (a :: l)) (.int 0) = some a := by
 rw [ixT_pos _ (by decide) (by rw [List.length_cons]; lia)]
 rfl
@[simp] theorem ixT1 a b l : ixD (.tup (a :: b :: l)) (.int 1) = some b := by
 rw [ixT_pos _ (by decide) (by rw [List.length_cons, List.length_cons]; lia)]
 rfl
@[simp] theorem ixT2 a b c l : ixD (.tup (a :: b :: c :: l)) (.int 2) = some c := by
 rw [ixT_pos _ (by decide) (by rw [List.length_cons, List.length_cons, List.length_cons]; lia)]
 rfl
@[simp] theorem ixL0 a l : ixD (.lst (a :: l)) (.int 0) = some a := by
 rw [qQ _ (by decide) (by rw [List.length_cons]; lia)]
 rfl
@[simp] theorem ixL1 a b l : ixD (.lst (a :: b :: l)) (.int 1) = some b := by
 rw [qQ _ (by decide) (by rw [List.length_cons, List.length_cons]; lia)]
 rfl
theorem wM l a : ixD (.lst (l ++ [a])) (.int (-1)) = some a := by
 show atI (l ++ [a]) (-1) = _
 unfold atI ixN
 rw [if_neg (by decide), if_pos (by rw [List.length_append, List.length_singleton]; lia), List.length_append, List.length_singleton]
 have e : (-1 + ((l.length + 1 : Nat) : Int)).toNat = l.length := by lia
 rw [e]
 simp
@[simp] theorem flat_non : flat .non = true := by simp [flat]
@[simp] theorem flat_bl b : flat (.bl b) = true := by simp [flat]
@[simp] theorem flat_int i : flat (.int i) = true := by simp [flat]
@[simp] theorem flat_str i : flat (.str i) = true := by simp [flat]
@[simp] theorem flat_tup l : flat (.tup l) = flats l := by simp [flat]
@[simp] theorem flats_nil : flats [] = true := by simp [flats]
@[simp] theorem flats_cons d l : flats (d :: l) = (flat d && flats l) := by simp [flats]
@[simp] theorem flat_oi o : flat (oi o) = true := by cases o <;> simp
theorem xO (h : flat d = true) : flatR d = some (.rt (.val d)) := if_pos h
@[simp] theorem flatR_non : flatR .non = some (.rt (.val .non)) := xO (by simp)
@[simp] theorem flatR_bl b : flatR (.bl b) = some (.rt (.val (.bl b))) := xO (by simp)
@[simp] theorem flatR_int i : flatR (.int i) = some (.rt (.val (.int i))) := xO (by simp)
@[simp] theorem flatR_oi o : flatR (oi o) = some (.rt (.val (oi o))) := xO (by simp)
@[simp] theorem flatR_tup l (h : flats l = true) : flatR (.tup l) = some (.rt (.val (.tup l))) := xO (by simpa using h)
@[simp] theorem flatF_of l (h : flats l = true) : flatF l = some (.rt (.fresh l)) := if_pos h
@[simp] theorem shal_int n i : shal n (.int i) = true := by simp [shal]
@[simp] theorem shal_non n : shal n .non = true := by simp [shal]
@[simp] theorem shal_oi n o : shal n (oi o) = true := by cases o <;> simp
@[simp] theorem shal_tup n l : shal n (.tup l) = shals n l := by simp [shal]
@[simp] theorem shal_lst n l : shal n (.lst l) = shals n l := by simp [shal]
@[simp] theorem shals_nil n : shals n [] = true := by cases n <;> simp [shals]
@[simp] theorem shals_cons n d l : shals (n + 1) (d :: l) = (shal n d && shals (n + 1) l) := by simp [shals]
theorem shals_all (h : ∀ d ∈ l, shal n d = true) : shals (n + 1) l = true := by
 induction l with
 | nil => simp
 | cons d r ih =>
   rw [shals_cons, h d List.mem_cons_self, ih fun x hx => h x (List.mem_cons_of_mem _ hx)]
   rfl
theorem eqD_ok (h : shal 40 x = true) (h2 : shal 40 y = true) : eqD x y = some (.bl (eqvD x y)) := if_pos ⟨h, h2⟩
theorem neD_ok (h : shal 40 x = true) (h2 : shal 40 y = true) : neD x y = some (.bl (!eqvD x y)) := if_pos ⟨h, h2⟩
@[simp] theorem eqvD_int i j : eqvD (.int i) (.int j) = decide (i = j) := by
 show (i == j) = _
 rw [Bool.eq_iff_iff]; simp
@[simp] theorem eqvD_non : eqvD .non .non = true := rfl
@[simp] theorem eqvD_non_int j : eqvD .non (.int j) = false := rfl
@[simp] theorem eqvD_int_non j : eqvD (.int j) .non = false := rfl
@[simp] theorem eqvD_oi o p : eqvD (oi o) (oi p) = decide (o = p) := by cases o <;> cases p <;> simp
@[simp] theorem eqvD_tup a b : eqvD (.tup a) (.tup b) = eqvs a b := by simp [eqvD, eqvs, toPy, PyData.eqv]
@[simp] theorem vH a b : eqvD (.lst a) (.lst b) = eqvs a b := by simp [eqvD, eqvs, toPy, PyData.eqv]
@[simp] theorem eqvs_nil : eqvs [] [] = true := by simp [eqvs, toPys, PyData.eqvAll]
@[simp] theorem eqvs_cons x y a b : eqvs (x :: a) (y :: b) = (eqvD x y && eqvs a b) := by simp [eqvs, eqvD, toPys, PyData.eqvAll]
@[simp] theorem eqvs_nil_cons y b : eqvs [] (y :: b) = false := by simp [eqvs, toPys, PyData.eqvAll]
@[simp] theorem eqvs_cons_nil y b : eqvs (y :: b) [] = false := by simp [eqvs, toPys, PyData.eqvAll]
@[simp] theorem eqD_int i j : eqD (.int i) (.int j) = some (.bl (decide (i = j))) := by rw [eqD_ok (by simp) (by simp)]; simp
@[simp] theorem eqD_oi i j : eqD (oi i) (oi j) = some (.bl (decide (i = j))) := by rw [eqD_ok (by simp) (by simp)]; simp
theorem eqvs_nil_r l : eqvs l [] = l.isEmpty := by cases l <;> simp
theorem neD_nil (h : shals 40 l = true) : neD (.lst l) (.lst []) = some (.bl (!l.isEmpty)) := by rw [neD_ok (by simpa using h) (by simp), vH, eqvs_nil_r]
theorem shals_ints n (l : List Int) : shals (n + 1) (l.map D.int) = true := shals_all fun d hd => by obtain ⟨i, _, rfl⟩ := List.mem_map.mp hd; simp
theorem flats_ints (l : List Int) : flats (l.map D.int) = true := by
 induction l with
 | nil => simp
 | cons a r ih => simp [ih]
theorem kits : kitF "int" "int" = some true /\ kitF "NoneType" "int" = some false /\ kitF "bool" "int" = some true /\ kitF "tuple" "int" = some false /\ kitF "list" "int" = some false /\ kitF "str" "int" = some false ∧
  kitF "bool" "bool" = some true /\ kitF "int" "bool" = some false /\ kitF "NoneType" "bool" = some false /\ kitF "tuple" "tuple" = some true /\ kitF "list" "tuple" = some false /\ kitF "NoneType" "tuple" = some false ∧
  kitF "list" "list" = some true /\ kitF "tuple" "list" = some false /\ kitF "NoneType" "list" = some false := by
 refine ⟨?_, ?_, ?_, ?_, ?_, ?_, ?_, ?_, ?_, ?_, ?_, ?_, ?_, ?_, ?_⟩ <;> decide +kernel
@[simp] theorem isi_lst_lst l : isiD "list" (.lst l) = some (.bl true) := by simp [isiD, tyD, kits.2.2.2.2.2.2.2.2.2.2.2.2.1]
@[simp] theorem bind_ite {α β : Type} [Decidable c] (a b : Option α) (f : α -> Option β) : (if c then a else b).bind f = if c then a.bind f else b.bind f := by split <;> rfl
@[simp] theorem map_ite {α β : Type} [Decidable c] (a b : Option α) (f : α -> β) : (if c then a else b).map f = if c then a.map f else b.map f := by split <;> rfl
theorem yQ (h : fi ds = some items) (hl : items.length <= sizeLine) (hc : compL ga tt fe (jD mp ds) items = some l) : compG fi mp ga tt fe ds = some l := by
 unfold compG
 rw [h]
 show (if items.length <= sizeLine then compL ga tt fe (jD mp ds) items else none) = _
 rw [if_pos hl]
 exact hc
@[simp] theorem ixL2 a b c l : ixD (.lst (a :: b :: c :: l)) (.int 2) = some c := by
 rw [qQ _ (by decide) (by rw [List.length_cons, List.length_cons, List.length_cons]; lia)]
 rfl
@[simp] theorem ixL3 a b c d l : ixD (.lst (a :: b :: c :: d :: l)) (.int 3) = some d := by
 rw [qQ _ (by decide) (by rw [List.length_cons, List.length_cons, List.length_cons, List.length_cons]; lia)]
 rfl
@[simp] theorem rng3_eq (fa fb fc : FE) (ds : List Sl) : rng3 fa fb fc ds = (fa ds).bind fun x => (fb ds).bind fun y => (fc ds).bind fun z => match x, y, z with
 | .int i, .int j, .int c => if okR3 i j c then some (range3D i c (steps3 i j c)) else none
 | _, _, _ => none := rfl
@[simp] theorem rng2_eq (fa fb : FE) (ds : List Sl) : rng2 fa fb ds = (fa ds).bind fun x => (fb ds).bind fun y => match x, y with
 | .int i, .int j => if okR i /\ okR j then some (rangeD i (j - i).toNat) else none
 | _, _ => none := rfl
@[simp] theorem rng1_eq f ds : rng1 f ds = (f ds).bind fun d => match d with | .int j => if okR j then some (rangeD 0 j.toNat) else none | _ => none := rfl
theorem okR_small (h : -1000000000 <= j) (h2 : j <= 1000000000) : okR j := ⟨Int.le_trans (by decide) h, Int.lt_of_le_of_lt h2 (by decide)⟩
@[simp] theorem absD_int i : absD [.int i] = some (.int (if i < 0 then -i else i)) := rfl
@[simp] theorem int1D_int i : int1D [.int i] = some (.int i) := rfl
@[simp] theorem int1D_bl b : int1D [.bl b] = some (.int (if b then 1 else 0)) := rfl
@[simp] theorem augA_eq (i : Nat) (f : FE) (ds : List Sl) : augA i f ds = (qB i ds).bind fun x => (f ds).bind fun y => match x, y with
 | .int a, .int b => some (.nx (ds.set i (.v (.int (a + b)))))
 | _, _ => none := rfl
@[simp] theorem parG_eq (i j : Nat) (f : FA) (ds : List Sl) : parG i j f ds = (f ds).bind fun l => match l with
 | [a, b] => some (.nx ((ds.set i (.v a)).set j (.v b)))
 | _ => none := rfl
@[simp] theorem revA_eq (f : FE) (ds : List Sl) : revA f ds = (f ds).bind fun d => match d with
 | .lst l => some l.reverse
 | _ => none := rfl
theorem jI (h : f ds = some (.nx ds')) : qG f g ds = g ds' := by simp [h]
theorem run_rt (h : g (args n ds) = some (.rt r)) : runG g n ds = some r := by unfold runG; rw [h]
end FL
section
open PySem PyProof.Rows L2 FL
noncomputable def GP.ends_ahead.g : FS := (retG (andV (zI notD (zJ 0) (zA .non)) (andV (zI notD (zJ 1) (zA .non)) (zI leD (zJ 0) (zJ 1)))))
noncomputable def GP.ends_ahead.f : List D -> Option Ret := runG GP.ends_ahead.g 2
noncomputable def GP.has.g : FS := (retG (andV (orV (zI isD (zI ixD (zJ 0) (zA (.int 0))) (zA .non)) (zI leD (zI ixD (zJ 0) (zA (.int 0))) (zJ 1))) (orV (zI isD (zI ixD (zJ 0) (zA (.int 1))) (zA .non)) (zI ltD (zJ 1) (zI ixD (zJ 0) (zA (.int 1)))))))
noncomputable def GP.has.f : List D -> Option Ret := runG GP.has.g 2
noncomputable def GP.later_low.g : FS := (qG (ifG (zU (zI isD (zJ 0) (zA .non))) (retG (zJ 1)) qI)
 (qG (ifG (zU (zI isD (zJ 1) (zA .non))) (retG (zJ 0)) qI)
 (retG (callB mxD (zB (zJ 0) (zB (zJ 1) zQ))))))
noncomputable def GP.later_low.f : List D -> Option Ret := runG GP.later_low.g 2
noncomputable def GP.earlier_behind.g : FS := (qG (ifG (zU (zI isD (zJ 0) (zA .non))) (retG (zJ 1)) qI)
 (qG (ifG (zU (zI isD (zJ 1) (zA .non))) (retG (zJ 0)) qI)
 (retG (callB mnD (zB (zJ 0) (zB (zJ 1) zQ))))))
noncomputable def GP.earlier_behind.f : List D -> Option Ret := runG GP.earlier_behind.g 2
noncomputable def GP.meet.g : FS := (qG (yE 2 (qK 2 GP.later_low.f (zB (zI ixD (zJ 0) (zA (.int 0))) (zB (zI ixD (zJ 1) (zA (.int 0))) zQ))))
 (qG (yE 3 (qK 2 GP.earlier_behind.f (zB (zI ixD (zJ 0) (zA (.int 1))) (zB (zI ixD (zJ 1) (zA (.int 1))) zQ))))
 (qG (ifG (testT (qK 2 GP.ends_ahead.f (zB (zJ 3) (zB (zJ 2) zQ)))) (retG (zA .non)) qI)
 (retG (mkT (zR (zB (qB 2) (zB (qB 3) zQ))))))))
noncomputable def GP.meet.f : List D -> Option Ret := runG GP.meet.g 4
noncomputable def GP.knit.b1 : FS := (qG (ifG (zU (zI isD (zJ 4) (zA .non))) (fun ds => some (.ct ds)) qI)
 (ifG (andT (testT (zJ 1)) (andT (zU (zI eqD (zI ixD (zI ixD (zJ 1) (un1 negD (zA (.int 1)))) (zA (.int 1))) (zJ 2))) (zU (zI eqD (zI ixD (zI ixD (zJ 1) (un1 negD (zA (.int 1)))) (zA (.int 2))) (zJ 4))))) (putG 1 (un1 negD (zA (.int 1))) (mkT (zR (zB (zI ixD (zI ixD (zJ 1) (un1 negD (zA (.int 1)))) (zA (.int 0))) (zB (qB 3) (zB (qB 4) zQ)))))) (appG 1 (mkT (zR (zB (qB 2) (zB (qB 3) (zB (qB 4) zQ))))))))
noncomputable def GP.knit.g : FS := (qG (setOG 1 (zR zQ))
 (qG (forG (viaA (qB 0) asLT) (tupG 3 (zP (zW 2) (zP (zW 3) (zP (zW 4) tgNil)))) GP.knit.b1)
 (retXG 1)))
noncomputable def GP.knit.f : List D -> Option Ret := runG GP.knit.g 5
noncomputable def GP.parts_in.b1 : FS := (qG (yE 6 (qK 2 GP.meet.f (zB (mkT (zR (zB (qB 3) (zB (qB 4) zQ)))) (zB (zJ 1) zQ))))
 (ifG (zU (zI notD (zJ 6) (zA .non))) (appG 2 (mkT (zR (zB (zI ixD (zJ 6) (zA (.int 0))) (zB (zI ixD (zJ 6) (zA (.int 1))) (zB (qB 5) zQ)))))) qI))
noncomputable def GP.parts_in.g : FS := (qG (setOG 2 (zR zQ))
 (qG (forG (viaA (qB 0) asLT) (tupG 3 (zP (zW 3) (zP (zW 4) (zP (zW 5) tgNil)))) GP.parts_in.b1)
 (retXG 2)))
noncomputable def GP.parts_in.f : List D -> Option Ret := runG GP.parts_in.g 7
noncomputable def GP.rows_over.g : FS := (qG (setOG 3 (zR zQ))
 (qG (ifG (zU (zI notD (zI ixD (zJ 1) (zA (.int 0))) (zA .non))) (extG 3 (wQ 2 GP.parts_in.f (zB (zJ 0) (zB (mkT (zR (zB (zA .non) (zB (zI ixD (zJ 1) (zA (.int 0))) zQ)))) zQ)))) qI)
 (qG (appG 3 (mkT (zR (zB (zI ixD (zJ 1) (zA (.int 0))) (zB (zI ixD (zJ 1) (zA (.int 1))) (zB (qB 2) zQ))))))
 (qG (ifG (zU (zI notD (zI ixD (zJ 1) (zA (.int 1))) (zA .non))) (extG 3 (wQ 2 GP.parts_in.f (zB (zJ 0) (zB (mkT (zR (zB (zI ixD (zJ 1) (zA (.int 1))) (zB (zA .non) zQ)))) zQ)))) qI)
 (retXG 3)))))
noncomputable def GP.rows_over.f : List D -> Option Ret := runG GP.rows_over.g 4
noncomputable def GP.put.g : FS := (retOG (wQ 1 GP.knit.f (zB (qK 3 GP.rows_over.f (zB (zJ 0) (zB (zJ 1) (zB (zJ 2) zQ)))) zQ)))
noncomputable def GP.put.f : List D -> Option Ret := runG GP.put.g 3
noncomputable def GP.Deed___init__.i : FN := (fldN (zA .non))
noncomputable def GP.Deed___init__.f : List D -> Option (List D) := runN GP.Deed___init__.i 1
noncomputable def GP.Put___init__.i : FN := (seqN (fldN (mkT (zR (zB (zI ixD (zJ 1) (zA (.int 0))) (zB (zI ixD (zJ 1) (zA (.int 1))) zQ)))))
 (fldN (qB 2)))
noncomputable def GP.Put___init__.f : List D -> Option (List D) := runN GP.Put___init__.i 3
noncomputable def GP.Put_came.g : FS := (retG (ifV (testT (qK 2 GP.has.f (zB (fldG [(0, 0)] (qB 0)) (zB (zJ 1) zQ)))) (zA .non) (qB 1)))
noncomputable def GP.Put_came.f : List D -> Option Ret := runG GP.Put_came.g 2
noncomputable def GP.Put_went.g : FS := (retG (zJ 1))
noncomputable def GP.Put_went.f : List D -> Option Ret := runG GP.Put_went.g 2
noncomputable def GP.check_many.g : FS := (ifG (zU (zI ltD (zJ 0) (zA (.int 0)))) (fun _ => none) qI)
noncomputable def GP.check_many.f : List D -> Option Ret := runG GP.check_many.g 1
noncomputable def GP.Widen___init__.i : FN := (seqN (dropN (qK 1 GP.check_many.f (zB (zJ 2) zQ)))
 (seqN (supN GP.Deed___init__.f)
 (seqN (fldN (qB 1))
 (fldN (qB 2)))))
noncomputable def GP.Widen___init__.f : List D -> Option (List D) := runN GP.Widen___init__.i 3
noncomputable def GP.taken_out.g : FS := (qG (ifG (zU (zI ltD (zJ 0) (zJ 1))) (retG (zJ 0)) qI)
 (retG (ifV (zU (zI ltD (zJ 0) (zI yD (zJ 1) (zJ 2)))) (zA .non) (zI subD (zJ 0) (zJ 2)))))
noncomputable def GP.taken_out.f : List D -> Option Ret := runG GP.taken_out.g 3
noncomputable def GP.Widen_came.g : FS := (retG (qK 3 GP.taken_out.f (zB (zJ 1) (zB (fldG [(1, 1), (2, 1)] (qB 0)) (zB (fldG [(1, 2), (2, 2)] (qB 0)) zQ)))))
noncomputable def GP.Widen_came.f : List D -> Option Ret := runG GP.Widen_came.g 2
noncomputable def GP.opened.g : FS := (retG (ifV (zU (zI ltD (zJ 0) (zJ 1))) (qB 0) (zI yD (zJ 0) (zJ 2))))
noncomputable def GP.opened.f : List D -> Option Ret := runG GP.opened.g 3
noncomputable def GP.Widen_went.g : FS := (retG (qK 3 GP.opened.f (zB (zJ 1) (zB (fldG [(1, 1), (2, 1)] (qB 0)) (zB (fldG [(1, 2), (2, 2)] (qB 0)) zQ)))))
noncomputable def GP.Widen_went.f : List D -> Option Ret := runG GP.Widen_went.g 2
noncomputable def GP.Narrow_came.g : FS := (retG (qK 3 GP.opened.f (zB (zJ 1) (zB (fldG [(1, 1), (2, 1)] (qB 0)) (zB (fldG [(1, 2), (2, 2)] (qB 0)) zQ)))))
noncomputable def GP.Narrow_came.f : List D -> Option Ret := runG GP.Narrow_came.g 2
noncomputable def GP.Narrow_went.g : FS := (retG (qK 3 GP.taken_out.f (zB (zJ 1) (zB (fldG [(1, 1), (2, 1)] (qB 0)) (zB (fldG [(1, 2), (2, 2)] (qB 0)) zQ)))))
noncomputable def GP.Narrow_went.f : List D -> Option Ret := runG GP.Narrow_went.g 2
noncomputable def GP.Move___init__.i : FN := (seqN (supN GP.Deed___init__.f)
 (fldN (qB 1)))
noncomputable def GP.Move___init__.f : List D -> Option (List D) := runN GP.Move___init__.i 2
noncomputable def GP.Move_came.g : FS := (retG (zI subD (zJ 1) (fldG [(3, 1)] (qB 0))))
noncomputable def GP.Move_came.f : List D -> Option Ret := runG GP.Move_came.g 2
noncomputable def GP.Move_went.g : FS := (retG (zI yD (zJ 1) (fldG [(3, 1)] (qB 0))))
noncomputable def GP.Move_went.f : List D -> Option Ret := runG GP.Move_went.g 2
noncomputable def GP.check_share.g : FS := (ifG (orT (zU (zI ltD (zJ 0) (zA (.int 1)))) (zU (zI gtD (zJ 0) (zA (.int 1000))))) (fun _ => none) qI)
noncomputable def GP.check_share.f : List D -> Option Ret := runG GP.check_share.g 1
noncomputable def GP.Stretch___init__.i : FN := (seqN (dropN (qK 1 GP.check_share.f (zB (zJ 1) zQ)))
 (seqN (dropN (qK 1 GP.check_share.f (zB (zJ 2) zQ)))
 (seqN (supN GP.Deed___init__.f)
 (seqN (fldN (qB 1))
 (fldN (qB 2))))))
noncomputable def GP.Stretch___init__.f : List D -> Option (List D) := runN GP.Stretch___init__.i 3
noncomputable def GP.Stretch_came.g : FS := (retG (zI qP (zI xF (zJ 1) (fldG [(4, 2)] (qB 0))) (fldG [(4, 1)] (qB 0))))
noncomputable def GP.Stretch_came.f : List D -> Option Ret := runG GP.Stretch_came.g 2
noncomputable def GP.Stretch_least_from.g : FS := (retG (ifV (zU (zI isD (zJ 1) (zA .non))) (zA .non) (un1 negD (zI qP (zI xF (un1 negD (qB 1)) (fldG [(4, 1)] (qB 0))) (fldG [(4, 2)] (qB 0))))))
noncomputable def GP.Stretch_least_from.f : List D -> Option Ret := runG GP.Stretch_least_from.g 2
noncomputable def GP.Mirror_came.g : FS := (retG (un1 negD (qB 1)))
noncomputable def GP.Mirror_came.f : List D -> Option Ret := runG GP.Mirror_came.g 2
noncomputable def GP.M_least_from_cfafed : Nat -> List D -> Option Ret
 | 4 => GP.Stretch_least_from.f
 | _ => fun _ => none
noncomputable def GP.M_came_4e9d29 : Nat -> List D -> Option Ret
 | 0 => GP.Put_came.f
 | 1 => GP.Widen_came.f
 | 2 => GP.Narrow_came.f
 | 3 => GP.Move_came.f
 | 4 => GP.Stretch_came.f
 | 5 => GP.Mirror_came.f
 | _ => fun _ => none
noncomputable def GP.Stretch_went.g : FS := (qG (yE 2 (methV 1 [4] GP.M_least_from_cfafed (qB 0) (zB (zJ 1) zQ)))
 (retG (ifV (zU (zI eqD (methV 1 [0, 1, 2, 3, 4, 5] GP.M_came_4e9d29 (qB 0) (zB (zJ 2) zQ)) (zJ 1))) (qB 2) (zA .non))))
noncomputable def GP.Stretch_went.f : List D -> Option Ret := runG GP.Stretch_went.g 3
noncomputable def GP.Mirror_went.g : FS := (retG (un1 negD (qB 1)))
noncomputable def GP.Mirror_went.f : List D -> Option Ret := runG GP.Mirror_went.g 2
noncomputable def GP.M_went_e39dd5 : Nat -> List D -> Option Ret
 | 0 => GP.Put_went.f
 | 1 => GP.Widen_went.f
 | 2 => GP.Narrow_went.f
 | 3 => GP.Move_went.f
 | 4 => GP.Stretch_went.f
 | 5 => GP.Mirror_went.f
 | _ => fun _ => none
noncomputable def GP.Put_done.g : FS := (retOG (wQ 3 GP.put.f (zB (zJ 1) (zB (fldG [(0, 0)] (qB 0)) (zB (fldG [(0, 1), (1, 0), (2, 0), (3, 0), (4, 0), (5, 0), (6, 0)] (qB 0)) zQ)))))
noncomputable def GP.Put_done.f : List D -> Option Ret := runG GP.Put_done.g 2
noncomputable def GP.farther.g : FS := (retG (ifV (zU (zI isD (zJ 0) (zA .non))) (zA .non) (zI yD (zJ 0) (zJ 1))))
noncomputable def GP.farther.f : List D -> Option Ret := runG GP.farther.g 2
noncomputable def GP.shifted.g : FS := (retOG (compG (viaA (qB 0) asLT) [none, none, none, some 1] (tupG 3 (zP (zW 0) (zP (zW 1) (zP (zW 2) tgNil)))) (fun _ => some true) (mkT (zR (zB (qK 2 GP.farther.f (zB (zJ 0) (zB (zJ 3) zQ))) (zB (qK 2 GP.farther.f (zB (zJ 1) (zB (zJ 3) zQ))) (zB (qB 2) zQ)))))))
noncomputable def GP.shifted.f : List D -> Option Ret := runG GP.shifted.g 2
noncomputable def GP.Widen_done.g : FS := (qG (yE 2 (qK 2 GP.parts_in.f (zB (zJ 1) (zB (mkT (zR (zB (zA .non) (zB (fldG [(1, 1), (2, 1)] (qB 0)) zQ)))) zQ))))
 (qG (yE 3 (qK 2 GP.parts_in.f (zB (zJ 1) (zB (mkT (zR (zB (fldG [(1, 1), (2, 1)] (qB 0)) (zB (zA .non) zQ)))) zQ))))
 (retOG (wQ 1 GP.knit.f (zB (mkL (catA (zJ 2) (qK 2 GP.shifted.f (zB (zJ 3) (zB (fldG [(1, 2), (2, 2)] (qB 0)) zQ))))) zQ)))))
noncomputable def GP.Widen_done.f : List D -> Option Ret := runG GP.Widen_done.g 4
noncomputable def GP.Narrow_done.g : FS := (qG (yE 2 (qK 2 GP.parts_in.f (zB (zJ 1) (zB (mkT (zR (zB (zA .non) (zB (fldG [(1, 1), (2, 1)] (qB 0)) zQ)))) zQ))))
 (qG (yE 3 (qK 2 GP.parts_in.f (zB (zJ 1) (zB (mkT (zR (zB (zI yD (fldG [(1, 1), (2, 1)] (qB 0)) (fldG [(1, 2), (2, 2)] (qB 0))) (zB (zA .non) zQ)))) zQ))))
 (retOG (wQ 1 GP.knit.f (zB (mkL (catA (zJ 2) (qK 2 GP.shifted.f (zB (zJ 3) (zB (un1 negD (fldG [(1, 2), (2, 2)] (qB 0))) zQ))))) zQ)))))
noncomputable def GP.Narrow_done.f : List D -> Option Ret := runG GP.Narrow_done.g 4
noncomputable def GP.Move_done.g : FS := (retOG (wQ 2 GP.shifted.f (zB (zJ 1) (zB (fldG [(3, 1)] (qB 0)) zQ))))
noncomputable def GP.Move_done.f : List D -> Option Ret := runG GP.Move_done.g 2
noncomputable def GP.Stretch_done.g : FS := (qG (yE 2 (mkL (compG (viaA (qB 1) asLT) [none, none, none, some 0] (tupG 3 (zP (zW 0) (zP (zW 1) (zP (zW 2) tgNil)))) (fun _ => some true) (mkT (zR (zB (methV 1 [4] GP.M_least_from_cfafed (qB 3) (zB (zJ 0) zQ)) (zB (methV 1 [4] GP.M_least_from_cfafed (qB 3) (zB (zJ 1) zQ)) (zB (qB 2) zQ))))))))
 (retOG (wQ 1 GP.knit.f (zB (mkL (compG (viaA (qB 2) asLT) [none] (zW 0) (orT (zU (zI isD (zI ixD (zJ 0) (zA (.int 0))) (zA .non))) (zU (zI neD (zI ixD (zJ 0) (zA (.int 0))) (zI ixD (zJ 0) (zA (.int 1)))))) (qB 0))) zQ))))
noncomputable def GP.Stretch_done.f : List D -> Option Ret := runG GP.Stretch_done.g 3
noncomputable def GP.mirrored.g : FS := (retG (ifV (zU (zI isD (zJ 0) (zA .non))) (zA .non) (zI subD (zA (.int 1)) (zJ 0))))
noncomputable def GP.mirrored.f : List D -> Option Ret := runG GP.mirrored.g 1
noncomputable def GP.Mirror_done.g : FS := (retOG (compG (revA (qB 1)) [none, none, none] (tupG 3 (zP (zW 0) (zP (zW 1) (zP (zW 2) tgNil)))) (fun _ => some true) (mkT (zR (zB (qK 1 GP.mirrored.f (zB (zJ 1) zQ)) (zB (qK 1 GP.mirrored.f (zB (zJ 0) zQ)) (zB (qB 2) zQ)))))))
noncomputable def GP.Mirror_done.f : List D -> Option Ret := runG GP.Mirror_done.g 2
noncomputable def GP.M_done_4a08fd : Nat -> List D -> Option Ret
 | 0 => GP.Put_done.f
 | 1 => GP.Widen_done.f
 | 2 => GP.Narrow_done.f
 | 3 => GP.Move_done.f
 | 4 => GP.Stretch_done.f
 | 5 => GP.Mirror_done.f
 | _ => fun _ => none
noncomputable def GP.Line_step.g : FS := (qG (appP (atP [(11, 2)] (varP 0)) (mkT (zR (zB (valP (atP [(11, 0)] (varP 0))) (zB (valP (atP [(11, 1)] (varP 0))) zQ)))))
 (qG (setAt [(11, 3)] (varP 0) (sO nilO))
 (qG (setAt [(11, 0)] (varP 0) (vO (qB 1)))
 (setAt [(11, 1)] (varP 0) (vO (qB 2))))))
noncomputable def GP.Line_step.f : OT -> List D -> Option OT := lentF GP.Line_step.g 3
noncomputable def GP.Line_do.b1 : FS := (dputG (varP 2) (qB 3) (ifV (zU (zI isD (zJ 4) (zA .non))) (zA .non) (methV 1 [0, 1, 2, 3, 4, 5] GP.M_went_e39dd5 (qB 1) (zB (zJ 4) zQ))))
noncomputable def GP.Line_do.g : FS := (qG (setB 2 dO0)
 (qG (forG (itemsA (valP (atP [(11, 1)] (varP 0)))) (tupG 2 (zP (zW 3) (zP (zW 4) tgNil))) GP.Line_do.b1)
 (frzDG 2 (lentG 2 [11] (fun _ => GP.Line_step.f) (varP 0) (zB (methV 1 [0, 1, 2, 3, 4, 5] GP.M_done_4a08fd (qB 1) (zB (valP (atP [(11, 0)] (varP 0))) zQ)) (zB (qB 2) zQ))))))
noncomputable def GP.Line_do.f : OT -> List D -> Option OT := lentF GP.Line_do.g 5
noncomputable def GP.Line_told.g : FS := (retOG (lisA (fldG [(11, 0)] (qB 0))))
noncomputable def GP.Line_told.f : List D -> Option Ret := runG GP.Line_told.g 1
noncomputable def GP.M_told_a117be : Nat -> List D -> Option Ret
 | 11 => GP.Line_told.f
 | _ => fun _ => none
noncomputable def GL.cell_at.g : FS := (qG (ifG (zU (zI ltD (zJ 1) (callB lenD (zB (zJ 0) zQ)))) (retG (zI ixD (zJ 0) (zJ 1))) qI)
 (retG (zA (.int 0))))
noncomputable def GL.cell_at.f : List D -> Option Ret := runG GL.cell_at.g 2
noncomputable def GL.map2.b1 : FS := (qG (yE 4 (zI qP (zJ 3) (zA (.int 120))))
 (qG (yE 5 (zI yD (zJ 2) (zI ixD (mkL (zR (zB (zA (.int 0)) (zB (zA (.int 0)) (zB (zI yD (zA (.int 1)) (zI qX (zJ 4) (zA (.int 9)))) (zB (zI qX (zJ 4) (zI powD (zA (.int 10)) (zA (.int 60)))) zQ)))))) (zI qX (zJ 3) (zA (.int 4))))))
 (qG (ifG (zU (zI eqD (zJ 1) (mkL (zR zQ)))) (qG (yE 6 (zI xF (zA (.int 9)) (zI powD (zI powD (zA (.int 10)) (zA (.int 33))) (zA (.int 6)))))
 (yE 5 (zI ixD (mkL (zR (zB (zI subD (zI qX (zJ 4) (zA (.int 41))) (zA (.int 20))) (zB (zI qX (zJ 4) (zI powD (zA (.int 10)) (zA (.int 60)))) (zB (zI yD (zJ 6) (zI qX (zJ 4) (zI powD (zA (.int 10)) (zA (.int 60))))) (zB (zI subD (zA (.int 1)) (zJ 6)) zQ)))))) (zI qX (zJ 3) (zA (.int 4)))))) qI)
 (qG (yE 7 (zI ixD (mkL (zR (zB (zA (.int 0)) (zB (zA (.int 1)) (zB (zI subD (zI qX (zJ 4) (zA (.int 19))) (zA (.int 9))) (zB (zI subD (zI qX (zI xF (zJ 4) (zA (.int 48271))) (zI yD (zI powD (zA (.int 10)) (zA (.int 60))) (zA (.int 7)))) (zI powD (zA (.int 10)) (zA (.int 59)))) (zB (zA (.int 1)) zQ))))))) (zI qX (zI qP (zJ 3) (zA (.int 4))) (zA (.int 5)))))
 (qG (ifG (andT (zU (zI neD (zJ 1) (mkL (zR zQ)))) (andT (zU (zI eqD (zJ 5) (zJ 2))) (zU (zI eqD (zJ 7) (zI ixD (zI ixD (zJ 1) (un1 negD (zA (.int 1)))) (zA (.int 2))))))) (yE 7 (zI yD (zJ 7) (zA (.int 1)))) qI)
 (qG (yE 2 (zI yD (zJ 5) (zI ixD (mkL (zR (zB (zA (.int 1)) (zB (zI yD (zA (.int 1)) (zI qX (zI qP (zJ 4) (zA (.int 9))) (zA (.int 9)))) (zB (zI yD (zA (.int 1)) (zI qX (zI xF (zJ 4) (zA (.int 69621))) (zI yD (zI powD (zA (.int 10)) (zA (.int 60))) (zA (.int 9))))) zQ))))) (zI qX (zI qP (zJ 3) (zA (.int 20))) (zA (.int 3))))))
 (appG 1 (mkT (zR (zB (qB 5) (zB (qB 2) (zB (qB 7) zQ))))))))))))
noncomputable def GL.map2.g : FS := (qG (setOG 1 (zR zQ))
 (qG (yE 2 (zA (.int 0)))
 (qG (forG (viaA (qB 0) asLT) (zW 3) GL.map2.b1)
 (qG (ifG (andT (zU (zI neD (zJ 1) (mkL (zR zQ)))) (zU (zI eqD (zI qX (zI qP (zI ixD (zJ 0) (zA (.int 0))) (zA (.int 60))) (zA (.int 8))) (zA (.int 1))))) (putG 1 (zA (.int 0)) (mkT (zR (zB (zA .non) (zB (zI ixD (zI ixD (zJ 1) (zA (.int 0))) (zA (.int 1))) (zB (zI ixD (zI ixD (zJ 1) (zA (.int 0))) (zA (.int 2))) zQ)))))) qI)
 (qG (ifG (andT (zU (zI neD (zJ 1) (mkL (zR zQ)))) (zU (zI eqD (zI qX (zI qP (zI ixD (zJ 0) (un1 negD (zA (.int 1)))) (zA (.int 60))) (zA (.int 8))) (zA (.int 6))))) (putG 1 (un1 negD (zA (.int 1))) (mkT (zR (zB (zI ixD (zI ixD (zJ 1) (un1 negD (zA (.int 1)))) (zA (.int 0))) (zB (zA .non) (zB (zI ixD (zI ixD (zJ 1) (un1 negD (zA (.int 1)))) (zA (.int 2))) zQ)))))) qI)
 (retXG 1))))))
noncomputable def GL.map2.f : List D -> Option Ret := runG GL.map2.g 8
noncomputable def GL.place2.g : FS := (qG (yE 2 (zI qP (zJ 0) (zA (.int 3))))
 (qG (ifG (zU (zI eqD (zI qX (zJ 0) (zA (.int 3))) (zA (.int 1)))) (retG (zI subD (zI qX (zJ 2) (zI yD (zI xF (zA (.int 2)) (zI powD (zA (.int 10)) (zA (.int 60)))) (zA (.int 1)))) (zI powD (zA (.int 10)) (zA (.int 60))))) qI)
 (qG (ifG (andT (zU (zI eqD (zI qX (zJ 0) (zA (.int 3))) (zA (.int 2)))) (zU (zI neD (zJ 1) (mkL (zR zQ))))) (retG (zI subD (zI yD (zI ixD (zJ 1) (zI qX (zJ 2) (callB lenD (zB (zJ 1) zQ)))) (zI qX (zI qP (zJ 2) (callB lenD (zB (zJ 1) zQ))) (zA (.int 3)))) (zA (.int 1)))) qI)
 (retG (zI subD (zI qX (zJ 2) (zA (.int 41))) (zA (.int 20)))))))
noncomputable def GL.place2.f : List D -> Option Ret := runG GL.place2.g 3
noncomputable def GL.many.g : FS := (retG (zI ixD (mkL (zR (zB (zI qX (zI qP (zJ 0) (zA (.int 3))) (zA (.int 9))) (zB (zI qX (zI qP (zJ 0) (zA (.int 3))) (zI powD (zA (.int 10)) (zA (.int 60)))) (zB (zI qX (zI qP (zJ 0) (zA (.int 3))) (zA (.int 61))) zQ))))) (zI qX (zJ 0) (zA (.int 3)))))
noncomputable def GL.many.f : List D -> Option Ret := runG GL.many.g 1
noncomputable def GL.share.g : FS := (retG (zI yD (zA (.int 1)) (zI qX (zI qP (zJ 0) (zA (.int 2))) (zI ixD (mkL (zR (zB (zA (.int 4)) (zB (zA (.int 1000)) zQ)))) (zI qX (zJ 0) (zA (.int 2)))))))
noncomputable def GL.share.f : List D -> Option Ret := runG GL.share.g 1
noncomputable def GL.span3.g : FS := (qG (yE 2 (zI yD (zA (.int 1)) (qK 1 GL.many.f (zB (zI qP (zJ 1) (zA (.int 12))) zQ))))
 (qG (ifG (zU (zI gtD (zI qX (zJ 1) (zA (.int 12))) (zA (.int 8)))) (retG (zI ixD (mkL (zR (zB (mkT (zR (zB (qB 0) (zB (zA .non) zQ)))) (zB (mkT (zR (zB (zA .non) (zB (qB 0) zQ)))) (zB (mkT (zR (zB (zA .non) (zB (zA .non) zQ)))) zQ))))) (zI subD (zI qX (zJ 1) (zA (.int 12))) (zA (.int 9))))) qI)
 (retG (mkT (zR (zB (qB 0) (zB (zI yD (zJ 0) (zJ 2)) zQ)))))))
noncomputable def GL.span3.f : List D -> Option Ret := runG GL.span3.g 3
noncomputable def GL.row2.g : FS := (qG (yE 4 (qK 2 GL.place2.f (zB (zJ 1) (zB (zJ 3) zQ))))
 (qG (ifG (zU (zI eqD (zI qX (zJ 0) (zA (.int 8))) (zA (.int 3)))) (retG (mkT (zR (zB (zA (.str "widen")) (zB (qB 4) (zB (qK 1 GL.many.f (zB (zJ 2) zQ)) zQ)))))) qI)
 (qG (ifG (zU (zI eqD (zI qX (zJ 0) (zA (.int 8))) (zA (.int 4)))) (retG (mkT (zR (zB (zA (.str "narrow")) (zB (qB 4) (zB (qK 1 GL.many.f (zB (zJ 2) zQ)) zQ)))))) qI)
 (qG (ifG (zU (zI eqD (zI qX (zJ 0) (zA (.int 8))) (zA (.int 5)))) (retG (mkT (zR (zB (zA (.str "move")) (zB (qB 4) (zB (zA (.int 0)) zQ)))))) qI)
 (qG (ifG (zU (zI eqD (zI qX (zJ 0) (zA (.int 8))) (zA (.int 6)))) (retG (mkT (zR (zB (zA (.str "stretch")) (zB (qK 1 GL.share.f (zB (zJ 1) zQ)) (zB (qK 1 GL.share.f (zB (zJ 2) zQ)) zQ)))))) qI)
 (qG (ifG (zU (zI eqD (zI qX (zJ 0) (zA (.int 8))) (zA (.int 7)))) (retG (mkT (zR (zB (zA (.str "mirror")) (zB (zA (.int 0)) (zB (zA (.int 0)) zQ)))))) qI)
 (qG (yE 5 (zI ixD (mkL (zR (zB (zA .non) (zB (zA (.int 0)) (zB (zA (.int 1)) (zB (zI subD (zI qX (zI qP (zJ 0) (zA (.int 40))) (zI yD (zI xF (zA (.int 2)) (zI powD (zA (.int 10)) (zA (.int 60)))) (zA (.int 1)))) (zI powD (zA (.int 10)) (zA (.int 60)))) (zB (zA (.int 1)) zQ))))))) (zI qX (zI qP (zJ 0) (zA (.int 8))) (zA (.int 5)))))
 (retG (mkT (zR (zB (zA (.str "put")) (zB (qK 2 GL.span3.f (zB (zJ 4) (zB (zJ 2) zQ))) (zB (qB 5) zQ)))))))))))))
noncomputable def GL.row2.f : List D -> Option Ret := runG GL.row2.g 6
noncomputable def GL.made4.g : FS := (qG (asgG (tupG 3 (zP (zW 1) (zP (zW 2) (zP (zW 3) tgNil)))) (qB 0))
 (qG (ifG (zU (zI eqD (zJ 1) (zA (.str "put")))) (retDG (makeG 0 2 GP.Put___init__.f (zB (zJ 2) (zB (zJ 3) zQ)))) qI)
 (qG (ifG (zU (zI eqD (zJ 1) (zA (.str "widen")))) (retDG (makeG 1 2 GP.Widen___init__.f (zB (zJ 2) (zB (zJ 3) zQ)))) qI)
 (qG (ifG (zU (zI eqD (zJ 1) (zA (.str "narrow")))) (retDG (makeG 2 2 GP.Widen___init__.f (zB (zJ 2) (zB (zJ 3) zQ)))) qI)
 (qG (ifG (zU (zI eqD (zJ 1) (zA (.str "move")))) (retDG (makeG 3 1 GP.Move___init__.f (zB (zJ 2) zQ))) qI)
 (qG (ifG (zU (zI eqD (zJ 1) (zA (.str "stretch")))) (retDG (makeG 4 2 GP.Stretch___init__.f (zB (zJ 2) (zB (zJ 3) zQ)))) qI)
 (retDG (makeG 5 0 GP.Deed___init__.f zQ))))))))
noncomputable def GL.made4.f : List D -> Option Ret := runG GL.made4.g 4
noncomputable def GL.map3.b1 : FS := (qG (yE 4 (zI qP (zJ 3) (zA (.int 120))))
 (qG (yE 5 (zI yD (zJ 2) (zI ixD (mkL (zR (zB (zA (.int 0)) (zB (zA (.int 0)) (zB (zI yD (zA (.int 1)) (zI qX (zJ 4) (zA (.int 9)))) (zB (zI qX (zJ 4) (zI powD (zA (.int 10)) (zA (.int 60)))) zQ)))))) (zI qX (zJ 3) (zA (.int 4))))))
 (qG (ifG (zU (zI eqD (zJ 1) (mkL (zR zQ)))) (qG (yE 6 (zI xF (zA (.int 9)) (zI powD (zI powD (zA (.int 10)) (zA (.int 33))) (zA (.int 6)))))
 (yE 5 (zI ixD (mkL (zR (zB (zI subD (zI qX (zJ 4) (zA (.int 41))) (zA (.int 20))) (zB (zI qX (zJ 4) (zI powD (zA (.int 10)) (zA (.int 60)))) (zB (zI yD (zJ 6) (zI qX (zJ 4) (zI powD (zA (.int 10)) (zA (.int 60))))) (zB (zI subD (zA (.int 1)) (zJ 6)) zQ)))))) (zI qX (zJ 3) (zA (.int 4)))))) qI)
 (qG (yE 7 (zI ixD (mkL (zR (zB (zA (.int 0)) (zB (zA (.int 1)) (zB (zI subD (zI qX (zJ 4) (zA (.int 19))) (zA (.int 9))) (zB (zI subD (zI qX (zI xF (zJ 4) (zA (.int 48271))) (zI yD (zI powD (zA (.int 10)) (zA (.int 60))) (zA (.int 7)))) (zI powD (zA (.int 10)) (zA (.int 59)))) (zB (zA (.int 1)) zQ))))))) (zI qX (zI qP (zJ 3) (zA (.int 4))) (zA (.int 5)))))
 (qG (ifG (andT (zU (zI neD (zJ 1) (mkL (zR zQ)))) (andT (zU (zI eqD (zJ 5) (zJ 2))) (zU (zI eqD (zJ 7) (zI ixD (zI ixD (zJ 1) (un1 negD (zA (.int 1)))) (zA (.int 2))))))) (yE 7 (zI yD (zJ 7) (zA (.int 1)))) qI)
 (qG (yE 2 (zI yD (zJ 5) (zI ixD (mkL (zR (zB (zA (.int 1)) (zB (zI yD (zA (.int 1)) (zI qX (zI qP (zJ 4) (zA (.int 9))) (zA (.int 9)))) (zB (zI yD (zA (.int 1)) (zI qX (zI xF (zJ 4) (zA (.int 69621))) (zI yD (zI powD (zA (.int 10)) (zA (.int 60))) (zA (.int 9))))) zQ))))) (zI qX (zI qP (zJ 3) (zA (.int 20))) (zA (.int 3))))))
 (appG 1 (mkT (zR (zB (qB 5) (zB (qB 2) (zB (qB 7) zQ))))))))))))
noncomputable def GL.map3.g : FS := (qG (setOG 1 (zR zQ))
 (qG (yE 2 (zA (.int 0)))
 (qG (forG (viaA (qB 0) asLT) (zW 3) GL.map3.b1)
 (qG (ifG (andT (zU (zI neD (zJ 1) (mkL (zR zQ)))) (zU (zI eqD (zI qX (zI qP (zI ixD (zJ 0) (zA (.int 0))) (zA (.int 60))) (zA (.int 8))) (zA (.int 1))))) (putG 1 (zA (.int 0)) (mkT (zR (zB (zA .non) (zB (zI ixD (zI ixD (zJ 1) (zA (.int 0))) (zA (.int 1))) (zB (zI ixD (zI ixD (zJ 1) (zA (.int 0))) (zA (.int 2))) zQ)))))) qI)
 (qG (ifG (andT (zU (zI neD (zJ 1) (mkL (zR zQ)))) (zU (zI eqD (zI qX (zI qP (zI ixD (zJ 0) (un1 negD (zA (.int 1)))) (zA (.int 60))) (zA (.int 8))) (zA (.int 6))))) (putG 1 (un1 negD (zA (.int 1))) (mkT (zR (zB (zI ixD (zI ixD (zJ 1) (un1 negD (zA (.int 1)))) (zA (.int 0))) (zB (zA .non) (zB (zI ixD (zI ixD (zJ 1) (un1 negD (zA (.int 1)))) (zA (.int 2))) zQ)))))) qI)
 (retXG 1))))))
noncomputable def GL.map3.f : List D -> Option Ret := runG GL.map3.g 8
noncomputable def GL.row3.g : FS := (qG (yE 4 (qK 2 GL.place2.f (zB (zJ 1) (zB (zJ 3) zQ))))
 (qG (ifG (zU (zI eqD (zI qX (zJ 0) (zA (.int 8))) (zA (.int 3)))) (retG (mkT (zR (zB (zA (.str "widen")) (zB (qB 4) (zB (qK 1 GL.many.f (zB (zJ 2) zQ)) zQ)))))) qI)
 (qG (ifG (zU (zI eqD (zI qX (zJ 0) (zA (.int 8))) (zA (.int 4)))) (retG (mkT (zR (zB (zA (.str "narrow")) (zB (qB 4) (zB (qK 1 GL.many.f (zB (zJ 2) zQ)) zQ)))))) qI)
 (qG (ifG (zU (zI eqD (zI qX (zJ 0) (zA (.int 8))) (zA (.int 5)))) (retG (mkT (zR (zB (zA (.str "move")) (zB (qB 4) (zB (zA (.int 0)) zQ)))))) qI)
 (qG (ifG (zU (zI eqD (zI qX (zJ 0) (zA (.int 8))) (zA (.int 6)))) (retG (mkT (zR (zB (zA (.str "stretch")) (zB (qK 1 GL.share.f (zB (zJ 1) zQ)) (zB (qK 1 GL.share.f (zB (zJ 2) zQ)) zQ)))))) qI)
 (qG (ifG (zU (zI eqD (zI qX (zJ 0) (zA (.int 8))) (zA (.int 7)))) (retG (mkT (zR (zB (zA (.str "mirror")) (zB (zA (.int 0)) (zB (zA (.int 0)) zQ)))))) qI)
 (qG (yE 5 (zI ixD (mkL (zR (zB (zA .non) (zB (zA (.int 0)) (zB (zA (.int 1)) (zB (zI subD (zI qX (zI qP (zJ 0) (zA (.int 40))) (zI yD (zI xF (zA (.int 2)) (zI powD (zA (.int 10)) (zA (.int 60)))) (zA (.int 1)))) (zI powD (zA (.int 10)) (zA (.int 60)))) (zB (zA (.int 1)) zQ))))))) (zI qX (zI qP (zJ 0) (zA (.int 8))) (zA (.int 5)))))
 (retG (mkT (zR (zB (zA (.str "put")) (zB (qK 2 GL.span3.f (zB (zJ 4) (zB (zJ 2) zQ))) (zB (qB 5) zQ)))))))))))))
noncomputable def GL.row3.f : List D -> Option Ret := runG GL.row3.g 6
end
namespace FL
open PySem PySem.Spec PyProof.Rows L2
abbrev Spn := Option Int × Option Int
noncomputable def spD (s : Spn) : D := .tup [oi s.1, oi s.2]
noncomputable def oS : Option Spn -> D
 | none => .non
 | some s => spD s
noncomputable def hasS (s : Spn) (p : Int) : Bool := (match s.1 with | none => true | some a => decide (a <= p)) && (match s.2 with | none => true | some b => decide (p < b))
def okS (s : Spn) : Prop := ∀ a b, s.1 = some a -> s.2 = some b -> a < b
@[simp] theorem spD_0 s : ixD (spD s) (.int 0) = some (oi s.1) := ixT0 _ _
@[simp] theorem spD_1 s : ixD (spD s) (.int 1) = some (oi s.2) := ixT1 _ _ _
@[simp] theorem spD_flat s : flat (spD s) = true := by simp [spD]
@[simp] theorem spD_isD s : isD (spD s) .non = some (.bl false) := rfl
@[simp] theorem spD_notD s : notD (spD s) .non = some (.bl true) := rfl
@[simp] theorem spD_asLT s : asLT (spD s) = some [oi s.1, oi s.2] := rfl
@[simp] theorem oS_isD o : isD (oS o) .non = some (.bl o.isNone) := by cases o <;> rfl
@[simp] theorem oS_notD o : notD (oS o) .non = some (.bl o.isSome) := by cases o <;> rfl
theorem has_eq s p : GP.has.f [spD s, .int p] = some (.val (.bl (hasS s p))) := by
 obtain ⟨a, b⟩ := s
 unfold GP.has.f runG GP.has.g
 cases a <;> cases b <;> simp [args, hasS]
noncomputable def lateL : Option Int -> Option Int -> Option Int
 | none, b => b
 | a, none => a
 | some a, some b => some (max a b)
noncomputable def wR : Option Int -> Option Int -> Option Int
 | none, b => b
 | a, none => a
 | some a, some b => some (min a b)
noncomputable def aheadE : Option Int -> Option Int -> Bool
 | some b, some l => decide (b <= l)
 | _, _ => false
theorem lateL_eq a b : GP.later_low.f [oi a, oi b] = some (.val (oi (lateL a b))) := by
 unfold GP.later_low.f runG GP.later_low.g
 cases a <;> cases b <;> simp [args, lateL]
theorem earlB_eq a b : GP.earlier_behind.f [oi a, oi b] = some (.val (oi (wR a b))) := by
 unfold GP.earlier_behind.f runG GP.earlier_behind.g
 cases a <;> cases b <;> simp [args, wR]
theorem aheadE_eq a b : GP.ends_ahead.f [oi a, oi b] = some (.val (.bl (aheadE a b))) := by
 unfold GP.ends_ahead.f runG GP.ends_ahead.g
 cases a <;> cases b <;> simp [args, aheadE]
noncomputable def meetS (s t : Spn) : Option Spn := if aheadE (wR s.2 t.2) (lateL s.1 t.1) = true then none else some (lateL s.1 t.1, wR s.2 t.2)
theorem meet_eq s t : GP.meet.f [spD s, spD t] = some (.val (oS (meetS s t))) := by
 unfold GP.meet.f runG GP.meet.g
 cases h : aheadE (wR s.2 t.2) (lateL s.1 t.1) <;> simp [args, lateL_eq, earlB_eq, aheadE_eq, h, meetS, oS, spD]
def HasS (s : Spn) (p : Int) : Prop := (∀ a, s.1 = some a -> a <= p) /\ (∀ b, s.2 = some b -> p < b)
theorem wK s p : hasS s p = true ↔ HasS s p := by
 obtain ⟨a, b⟩ := s
 cases a <;> cases b <;> simp [hasS, HasS]
theorem lateL_le : (∀ x, lateL a c = some x -> x <= p) ↔ (∀ x, a = some x -> x <= p) /\ (∀ x, c = some x -> x <= p) := by
 cases a <;> cases c <;> simp [lateL]
 lia
theorem earlB_lt : (∀ x, wR a c = some x -> p < x) ↔ (∀ x, a = some x -> p < x) /\ (∀ x, c = some x -> p < x) := by
 cases a <;> cases c <;> simp [wR]
 lia
theorem aheadE_no (h : aheadE b l = true) (h1 : ∀ x, l = some x -> x <= p) (h2 : ∀ x, b = some x -> p < x) : False := by
 cases b <;> cases l <;> simp [aheadE] at h
 lia
noncomputable def hasO (o : Option Spn) (p : Int) : Bool := match o with
 | none => false
 | some u => hasS u p
theorem hasO_meet s t p : hasO (meetS s t) p = (hasS s p && hasS t p) := by
 rw [Bool.eq_iff_iff, Bool.and_eq_true, wK, wK]
 unfold meetS
 by_cases h : aheadE (wR s.2 t.2) (lateL s.1 t.1) = true
 · rw [if_pos h]
   refine ⟨fun z => by simp [hasO] at z, fun z => (aheadE_no h (lateL_le.mpr ⟨z.1.1, z.2.1⟩) (earlB_lt.mpr ⟨z.1.2, z.2.2⟩)).elim⟩
 · rw [if_neg h]
   show hasS _ p = true ↔ _
   rw [wK]
   show (∀ x, lateL s.1 t.1 = some x -> x <= p) /\ (∀ x, wR s.2 t.2 = some x -> p < x) ↔ _
   rw [lateL_le, earlB_lt]
   exact ⟨fun ⟨⟨a, b⟩, c, d⟩ => ⟨⟨a, c⟩, b, d⟩, fun ⟨⟨a, c⟩, b, d⟩ => ⟨⟨a, b⟩, c, d⟩⟩
theorem meetS_ok (h : meetS s t = some u) : okS u := by
 unfold meetS at h
 split at h
 · cases h
 · rename_i hn
   cases h
   intro a b h1 h2
   simp only at h1 h2
   simp [aheadE] at hn
   lia
end FL
namespace FL
open PySem PySem.Spec PyProof.Rows L2
open Builtin.Int (intBits)
noncomputable def cel (ns : List Int) (k : Nat) : Int := ns.getD k 0
theorem cell_eq0 (ns : List Int) (h : 0 <= k) : GL.cell_at.f [.lst (ns.map D.int), .int k] = some (.val (.int (ns.getD k.toNat 0))) := by
 unfold GL.cell_at.f runG GL.cell_at.g
 by_cases hk : k < (ns.length : Int)
 · have hl : k < ((ns.map D.int).length : Int) := by simpa using hk
   have e : (ns.map D.int)[k.toNat]? = some (.int (ns.getD k.toNat 0)) := by
    have : k.toNat < ns.length := by lia
    simp [this, List.getD]
   simp [args, hk, qQ _ h hl, e]
 · have : ns.getD k.toNat 0 = 0 := by
    have : ns.length <= k.toNat := by lia
    simp [List.getD, List.getElem?_eq_none this]
   rw [this]
   simp [args, hk]
theorem cell_eq ns (k : Nat) : GL.cell_at.f [.lst (ns.map D.int), .int (k : Int)] = some (.val (.int (cel ns k))) := cell_eq0 ns (k := (k : Int)) (by lia)
theorem bits_ediv (hb : 0 <= b) (h : intBits a <= m) : intBits (a / b) <= m := by
 rw [<- Int.fdiv_eq_ediv_of_nonneg _ hb]
 exact bits_fdiv h
theorem yM (h : a.natAbs < 2 ^ m) : intBits a <= m := intBits_le_iff.mpr h
inductive Dd where
 | put (s : Spn) (v : Option Int) | widen (a m : Int) | narrow (a m : Int) | move (f : Int) | stretch (t b : Int) | mirror
noncomputable def insD : Dd -> D
 | .put s v => .ins 0 [spD s, oi v]
 | .widen a m => .ins 1 [.non, .int a, .int m]
 | .narrow a m => .ins 2 [.non, .int a, .int m]
 | .move f => .ins 3 [.non, .int f]
 | .stretch t b => .ins 4 [.non, .int t, .int b]
 | .mirror => .ins 5 [.non]
noncomputable def okD : Dd -> Prop
 | .put s _ => okS s
 | .widen _ m => 0 <= m
 | .narrow _ m => 0 <= m
 | .stretch t b => (1 <= t /\ t <= 1000) /\ 1 <= b /\ b <= 1000
 | _ => True
noncomputable def cameF : Dd -> Int -> Option Int
 | .put s _, p => if hasS s p = true then none else some p
 | .widen a m, p => if p < a then some p else if p < a + m then none else some (p - m)
 | .narrow a m, p => some (if p < a then p else p + m)
 | .move f, p => some (p - f)
 | .stretch t b, p => some (p * b / t)
 | .mirror, p => some (-p)
noncomputable def leastF (t b p : Int) : Int := -(-p * t / b)
noncomputable def wentF : Dd -> Int -> Option Int
 | .put _ _, p => some p
 | .widen a m, p => some (if p < a then p else p + m)
 | .narrow a m, p => if p < a then some p else if p < a + m then none else some (p - m)
 | .move f, p => some (p + f)
 | .stretch t b, p => if leastF t b p * b / t = p then some (leastF t b p) else none
 | .mirror, p => some (-p)
@[simp] theorem eqS_put_put : eqD (.str "put") (.str "put") = some (.bl true) := by kernel_rfl
@[simp] theorem neS_put_put : neD (.str "put") (.str "put") = some (.bl false) := by kernel_rfl
@[simp] theorem eqS_put_widen : eqD (.str "put") (.str "widen") = some (.bl false) := by kernel_rfl
@[simp] theorem neS_put_widen : neD (.str "put") (.str "widen") = some (.bl true) := by kernel_rfl
@[simp] theorem eqS_put_narrow : eqD (.str "put") (.str "narrow") = some (.bl false) := by kernel_rfl
@[simp] theorem neS_put_narrow : neD (.str "put") (.str "narrow") = some (.bl true) := by kernel_rfl
@[simp] theorem eqS_put_move : eqD (.str "put") (.str "move") = some (.bl false) := by kernel_rfl
@[simp] theorem neS_put_move : neD (.str "put") (.str "move") = some (.bl true) := by kernel_rfl
@[simp] theorem eqS_put_stretch : eqD (.str "put") (.str "stretch") = some (.bl false) := by kernel_rfl
@[simp] theorem neS_put_stretch : neD (.str "put") (.str "stretch") = some (.bl true) := by kernel_rfl
@[simp] theorem eqS_put_mirror : eqD (.str "put") (.str "mirror") = some (.bl false) := by kernel_rfl
@[simp] theorem neS_put_mirror : neD (.str "put") (.str "mirror") = some (.bl true) := by kernel_rfl
@[simp] theorem eqS_widen_put : eqD (.str "widen") (.str "put") = some (.bl false) := by kernel_rfl
@[simp] theorem neS_widen_put : neD (.str "widen") (.str "put") = some (.bl true) := by kernel_rfl
@[simp] theorem eqS_widen_widen : eqD (.str "widen") (.str "widen") = some (.bl true) := by kernel_rfl
@[simp] theorem neS_widen_widen : neD (.str "widen") (.str "widen") = some (.bl false) := by kernel_rfl
@[simp] theorem eqS_widen_narrow : eqD (.str "widen") (.str "narrow") = some (.bl false) := by kernel_rfl
@[simp] theorem neS_widen_narrow : neD (.str "widen") (.str "narrow") = some (.bl true) := by kernel_rfl
@[simp] theorem eqS_widen_move : eqD (.str "widen") (.str "move") = some (.bl false) := by kernel_rfl
@[simp] theorem neS_widen_move : neD (.str "widen") (.str "move") = some (.bl true) := by kernel_rfl
@[simp] theorem eqS_widen_stretch : eqD (.str "widen") (.str "stretch") = some (.bl false) := by kernel_rfl
@[simp] theorem neS_widen_stretch : neD (.str "widen") (.str "stretch") = some (.bl true) := by kernel_rfl
@[simp] theorem eqS_widen_mirror : eqD (.str "widen") (.str "mirror") = some (.bl false) := by kernel_rfl
@[simp] theorem neS_widen_mirror : neD (.str "widen") (.str "mirror") = some (.bl true) := by kernel_rfl
@[simp] theorem eqS_narrow_put : eqD (.str "narrow") (.str "put") = some (.bl false) := by kernel_rfl
@[simp] theorem neS_narrow_put : neD (.str "narrow") (.str "put") = some (.bl true) := by kernel_rfl
@[simp] theorem eqS_narrow_widen : eqD (.str "narrow") (.str "widen") = some (.bl false) := by kernel_rfl
@[simp] theorem neS_narrow_widen : neD (.str "narrow") (.str "widen") = some (.bl true) := by kernel_rfl
@[simp] theorem eqS_narrow_narrow : eqD (.str "narrow") (.str "narrow") = some (.bl true) := by kernel_rfl
@[simp] theorem neS_narrow_narrow : neD (.str "narrow") (.str "narrow") = some (.bl false) := by kernel_rfl
@[simp] theorem eqS_narrow_move : eqD (.str "narrow") (.str "move") = some (.bl false) := by kernel_rfl
@[simp] theorem neS_narrow_move : neD (.str "narrow") (.str "move") = some (.bl true) := by kernel_rfl
@[simp] theorem eqS_narrow_stretch : eqD (.str "narrow") (.str "stretch") = some (.bl false) := by kernel_rfl
@[simp] theorem neS_narrow_stretch : neD (.str "narrow") (.str "stretch") = some (.bl true) := by kernel_rfl
@[simp] theorem eqS_narrow_mirror : eqD (.str "narrow") (.str "mirror") = some (.bl false) := by kernel_rfl
@[simp] theorem neS_narrow_mirror : neD (.str "narrow") (.str "mirror") = some (.bl true) := by kernel_rfl
@[simp] theorem eqS_move_put : eqD (.str "move") (.str "put") = some (.bl false) := by kernel_rfl
@[simp] theorem neS_move_put : neD (.str "move") (.str "put") = some (.bl true) := by kernel_rfl
@[simp] theorem eqS_move_widen : eqD (.str "move") (.str "widen") = some (.bl false) := by kernel_rfl
@[simp] theorem neS_move_widen : neD (.str "move") (.str "widen") = some (.bl true) := by kernel_rfl
@[simp] theorem eqS_move_narrow : eqD (.str "move") (.str "narrow") = some (.bl false) := by kernel_rfl
@[simp] theorem neS_move_narrow : neD (.str "move") (.str "narrow") = some (.bl true) := by kernel_rfl
@[simp] theorem eqS_move_move : eqD (.str "move") (.str "move") = some (.bl true) := by kernel_rfl
@[simp] theorem neS_move_move : neD (.str "move") (.str "move") = some (.bl false) := by kernel_rfl
@[simp] theorem eqS_move_stretch : eqD (.str "move") (.str "stretch") = some (.bl false) := by kernel_rfl
@[simp] theorem neS_move_stretch : neD (.str "move") (.str "stretch") = some (.bl true) := by kernel_rfl
@[simp] theorem eqS_move_mirror : eqD (.str "move") (.str "mirror") = some (.bl false) := by kernel_rfl
@[simp] theorem neS_move_mirror : neD (.str "move") (.str "mirror") = some (.bl true) := by kernel_rfl
@[simp] theorem eqS_stretch_put : eqD (.str "stretch") (.str "put") = some (.bl false) := by kernel_rfl
@[simp] theorem neS_stretch_put : neD (.str "stretch") (.str "put") = some (.bl true) := by kernel_rfl
@[simp] theorem eqS_stretch_widen : eqD (.str "stretch") (.str "widen") = some (.bl false) := by kernel_rfl
@[simp] theorem neS_stretch_widen : neD (.str "stretch") (.str "widen") = some (.bl true) := by kernel_rfl
@[simp] theorem eqS_stretch_narrow : eqD (.str "stretch") (.str "narrow") = some (.bl false) := by kernel_rfl
@[simp] theorem neS_stretch_narrow : neD (.str "stretch") (.str "narrow") = some (.bl true) := by kernel_rfl
@[simp] theorem eqS_stretch_move : eqD (.str "stretch") (.str "move") = some (.bl false) := by kernel_rfl
@[simp] theorem neS_stretch_move : neD (.str "stretch") (.str "move") = some (.bl true) := by kernel_rfl
@[simp] theorem eqS_stretch_stretch : eqD (.str "stretch") (.str "stretch") = some (.bl true) := by kernel_rfl
@[simp] theorem neS_stretch_stretch : neD (.str "stretch") (.str "stretch") = some (.bl false) := by kernel_rfl
@[simp] theorem eqS_stretch_mirror : eqD (.str "stretch") (.str "mirror") = some (.bl false) := by kernel_rfl
@[simp] theorem neS_stretch_mirror : neD (.str "stretch") (.str "mirror") = some (.bl true) := by kernel_rfl
@[simp] theorem eqS_mirror_put : eqD (.str "mirror") (.str "put") = some (.bl false) := by kernel_rfl
@[simp] theorem neS_mirror_put : neD (.str "mirror") (.str "put") = some (.bl true) := by kernel_rfl
@[simp] theorem eqS_mirror_widen : eqD (.str "mirror") (.str "widen") = some (.bl false) := by kernel_rfl
@[simp] theorem neS_mirror_widen : neD (.str "mirror") (.str "widen") = some (.bl true) := by kernel_rfl
@[simp] theorem eqS_mirror_narrow : eqD (.str "mirror") (.str "narrow") = some (.bl false) := by kernel_rfl
@[simp] theorem neS_mirror_narrow : neD (.str "mirror") (.str "narrow") = some (.bl true) := by kernel_rfl
@[simp] theorem eqS_mirror_move : eqD (.str "mirror") (.str "move") = some (.bl false) := by kernel_rfl
@[simp] theorem neS_mirror_move : neD (.str "mirror") (.str "move") = some (.bl true) := by kernel_rfl
@[simp] theorem eqS_mirror_stretch : eqD (.str "mirror") (.str "stretch") = some (.bl false) := by kernel_rfl
@[simp] theorem neS_mirror_stretch : neD (.str "mirror") (.str "stretch") = some (.bl true) := by kernel_rfl
@[simp] theorem eqS_mirror_mirror : eqD (.str "mirror") (.str "mirror") = some (.bl true) := by kernel_rfl
@[simp] theorem neS_mirror_mirror : neD (.str "mirror") (.str "mirror") = some (.bl false) := by kernel_rfl
@[simp] theorem fldG_eq (ix : List (Nat × Nat)) (f : FE) (ds : List Sl) : fldG ix f ds = (f ds).bind (fldD ix) := rfl
@[simp] theorem fldD_ins (ix : List (Nat × Nat)) (t : Nat) (es : List D) : fldD ix (.ins t es) = (ix.lookup t).bind fun i => es[i]? := rfl
@[simp] theorem methV_eq (n : Nat) (cs : List Nat) (F : Nat -> List D -> Option Ret) (fo : FE) (g : FA) (ds : List Sl) : methV n cs F fo g ds = (fo ds).bind fun o => (g ds).bind fun l => (methR n cs F o l).bind retV := rfl
@[simp] theorem methF_eq (n : Nat) (cs : List Nat) (F : Nat -> List D -> Option Ret) (fo : FE) (g : FA) (ds : List Sl) : methF n cs F fo g ds = (fo ds).bind fun o => (g ds).bind fun l => (methR n cs F o l).bind retF := rfl
@[simp] theorem makeG_eq (t n : Nat) (G : List D -> Option (List D)) (g : FA) (ds : List Sl) : makeG t n G g ds = (g ds).bind fun l => if l.length = n /\ flats l = true then (G l).map (D.ins t) else none := rfl
@[simp] theorem retDG_eq (f : FE) (ds : List Sl) : retDG f ds = (f ds).map fun d => .rt (.val d) := rfl
theorem lk_hit {β : Type} (a : Nat) (b : β) (l : List (Nat × β)) : ((a, b) :: l).lookup a = some b := by simp [List.lookup]
theorem chk_many {m : Int} (h : 0 <= m) : GP.check_many.f [.int m] = some (.val .non) := by
 unfold GP.check_many.f runG GP.check_many.g
 have : ¬ m < 0 := by omega
 simp [args, this]
theorem chk_share {m : Int} (h : 1 <= m) (h2 : m <= 1000) : GP.check_share.f [.int m] = some (.val .non) := by
 unfold GP.check_share.f runG GP.check_share.g
 have h1 : ¬ m < 1 := by omega
 have h3 : ¬ 1000 < m := by omega
 simp [args, h1, h3]
theorem init_put (s : Spn) (v : Option Int) : GP.Put___init__.f [spD s, oi v] = some [spD s, oi v] := by
 obtain ⟨a, b⟩ := s
 unfold GP.Put___init__.f runN GP.Put___init__.i
 simp [argsN, seqN, fldN, spD]
theorem xU : GP.Deed___init__.f [] = some [.non] := by
 unfold GP.Deed___init__.f runN GP.Deed___init__.i
 simp [argsN, seqN, fldN]
theorem init_widen {a m : Int} (h : 0 <= m) : GP.Widen___init__.f [.int a, .int m] = some [.non, .int a, .int m] := by
 unfold GP.Widen___init__.f runN GP.Widen___init__.i
 simp [argsN, seqN, fldN, dropN, supN, chk_many h, xU]
theorem init_move {a : Int} : GP.Move___init__.f [.int a] = some [.non, .int a] := by
 unfold GP.Move___init__.f runN GP.Move___init__.i
 simp [argsN, seqN, fldN, dropN, supN, xU]
theorem init_stretch {a m : Int} (h : 1 <= a /\ a <= 1000) (h2 : 1 <= m /\ m <= 1000) : GP.Stretch___init__.f [.int a, .int m] = some [.non, .int a, .int m] := by
 unfold GP.Stretch___init__.f runN GP.Stretch___init__.i
 simp [argsN, seqN, fldN, dropN, supN, chk_share h.1 h.2, chk_share h2.1 h2.2, xU]
end FL
namespace FL
open PySem PySem.Spec PyProof.Rows L2
abbrev Rw := Option Int × Option Int × Option Int
noncomputable def rwD (r : Rw) : D := .tup [oi r.1, oi r.2.1, oi r.2.2]
noncomputable def has3 (r : Rw) (p : Int) : Bool := hasS (r.1, r.2.1) p
def ok3 (r : Rw) : Prop := okS (r.1, r.2.1)
@[simp] theorem rwD_0 r : ixD (rwD r) (.int 0) = some (oi r.1) := ixT0 _ _
@[simp] theorem rwD_1 r : ixD (rwD r) (.int 1) = some (oi r.2.1) := ixT1 _ _ _
@[simp] theorem rwD_2 r : ixD (rwD r) (.int 2) = some (oi r.2.2) := ixT2 _ _ _ _
@[simp] theorem rwD_flat r : flat (rwD r) = true := by simp [rwD]
@[simp] theorem rwD_shal r n : shal (n + 1) (rwD r) = true := by simp [rwD]
@[simp] theorem rwD_tupG h r ds : tupG 3 h (rwD r) ds = h [oi r.1, oi r.2.1, oi r.2.2] ds := by simp [rwD]
@[simp] theorem rwD_eqv r t : eqvD (rwD r) (rwD t) = decide (r = t) := by
 obtain ⟨a, b, c⟩ := r
 obtain ⟨x, y, z⟩ := t
 rw [Bool.eq_iff_iff]
 simp [rwD]
theorem jQ (l : List Rw) : flats (l.map rwD) = true := by
 induction l with
 | nil => simp
 | cons a r ih => simp [ih]
theorem wF n (l : List Rw) : shals (n + 2) (l.map rwD) = true := shals_all fun d hd => by obtain ⟨r, _, rfl⟩ := List.mem_map.mp hd; simp
theorem eqvs_rw : ∀ a b : List Rw, eqvs (a.map rwD) (b.map rwD) = decide (a = b)
 | [], [] => by simp
 | [], y :: b => by simp
 | x :: a, [] => by simp
 | x :: a, y :: b => by
   simp only [List.map_cons, eqvs_cons, rwD_eqv, eqvs_rw a b]
   rw [Bool.eq_iff_iff]
   simp
theorem eqD_rw (a b : List Rw) : eqD (.lst (a.map rwD)) (.lst (b.map rwD)) = some (.bl (decide (a = b))) := by rw [eqD_ok (by simpa using wF 38 a) (by simpa using wF 38 b), vH, eqvs_rw]
theorem neD_rw (a b : List Rw) : neD (.lst (a.map rwD)) (.lst (b.map rwD)) = some (.bl (!decide (a = b))) := by rw [neD_ok (by simpa using wF 38 a) (by simpa using wF 38 b), vH, eqvs_rw]
theorem eqD_rw_nil (a : List Rw) : eqD (.lst (a.map rwD)) (.lst []) = some (.bl a.isEmpty) := by
 have := eqD_rw a []
 simp [List.map_nil] at this
 rw [this]
 cases a <;> simp
theorem yL (a : List Rw) : neD (.lst (a.map rwD)) (.lst []) = some (.bl (!a.isEmpty)) := by
 have := neD_rw a []
 simp [List.map_nil] at this
 rw [this]
 cases a <;> simp
theorem ixN_last (h : 0 < n) : ixN n (-1) = some (n - 1) := by
 unfold ixN
 rw [if_neg (by decide), if_pos (by lia)]
 congr 1
 lia
def ahead (a b : Rw) : Prop := ∃ x y, a.2.1 = some x /\ b.1 = some y /\ x <= y
structure Ord (rows : List Rw) : Prop where
 ok : ∀ r ∈ rows, ok3 r
 pw : rows.Pairwise ahead
def Tel (rows : List Rw) (p v : Int) : Prop := ∃ r ∈ rows, has3 r p = true /\ r.2.2 = some v
noncomputable def knit1 (acc : List Rw) (r : Rw) : List Rw := match r.2.2 with
 | none => acc
 | some v => match acc with
   | [] => [r]
   | q :: t => if q.2.1 = r.1 /\ q.2.2 = some v then (q.1, r.2.1, some v) :: t else r :: q :: t
noncomputable def knitF (rows : List Rw) : List Rw := (rows.foldl knit1 []).reverse
theorem knit_turn acc r (R a b c : Sl) (hl : acc.length < 16777216) :
  GP.knit.b1 [R, .own (acc.map rwD).reverse, .v (oi r.1), .v (oi r.2.1), .v (oi r.2.2)] = some (.nx [R, .own ((knit1 acc r).map rwD).reverse, .v (oi r.1), .v (oi r.2.1), .v (oi r.2.2)]) ∨
  GP.knit.b1 [R, .own (acc.map rwD).reverse, .v (oi r.1), .v (oi r.2.1), .v (oi r.2.2)] = some (.ct [R, .own ((knit1 acc r).map rwD).reverse, .v (oi r.1), .v (oi r.2.1), .v (oi r.2.2)]) := by
 obtain ⟨lo, bh, v⟩ := r
 unfold GP.knit.b1
 cases v with
 | none => right; simp [knit1]
 | some v =>
   left
   cases acc with
   | nil =>
     have e : D.tup [oi lo, oi bh, .int v] = rwD (lo, bh, some v) := rfl
     simp [knit1, e]
   | cons q t =>
     have last : ixD (.lst ((t.map rwD).reverse ++ [rwD q])) (.int (-1)) = some (rwD q) := wM _ _
     have le : ixN (t.length + 1) (-1) = some t.length := by rw [ixN_last (by lia)]; rfl
     have hl' : t.length + 1 < 16777216 := by simpa using hl
     have e2 : ∀ x : Option Int, eqD (oi x) (D.int v) = some (.bl (decide (x = some v))) := fun x => eqD_oi x (some v)
     by_cases h1 : q.2.1 = lo
     · by_cases h2 : q.2.2 = some v
       · have e : D.tup [oi q.1, oi bh, .int v] = rwD (q.1, bh, some v) := rfl
         simp [knit1, h1, h2, last, le, e2, e]
       · have e : D.tup [oi lo, oi bh, .int v] = rwD (lo, bh, some v) := rfl
         simp [knit1, h1, h2, last, le, e2, hl', e]
     · have e : D.tup [oi lo, oi bh, .int v] = rwD (lo, bh, some v) := rfl
       simp [knit1, h1, last, le, hl', e]
theorem knit1_len acc r : (knit1 acc r).length <= acc.length + 1 := by
 unfold knit1
 split
 · lia
 · split
   · simp
   · split <;> simp
theorem knit_loop R : ∀ (rows acc : List Rw) a b c, acc.length + rows.length < 16777216 →
  ∃ a' b' c', jM (tupG 3 (zP (zW 2) (zP (zW 3) (zP (zW 4) tgNil)))) GP.knit.b1 (rows.map rwD) [R, .own (acc.map rwD).reverse, a, b, c] = some (.nx [R, .own ((rows.foldl knit1 acc).map rwD).reverse, a', b', c'])
 | [], acc, a, b, c, _ => ⟨a, b, c, rfl⟩
 | r :: rows, acc, a, b, c, h => by
   simp only [List.length_cons] at h
   have hl := knit1_len acc r
   obtain ⟨a', b', c', ih⟩ := knit_loop R rows (knit1 acc r) (.v (oi r.1)) (.v (oi r.2.1)) (.v (oi r.2.2)) (by omega)
   refine ⟨a', b', c', ?_⟩
   rcases knit_turn acc r R a b c (by omega) with e | e <;> simp [jM, e, ih]
theorem vF rows (h : rows.length < 16777216) : GP.knit.f [.lst (rows.map rwD)] = some (.fresh ((knitF rows).map rwD)) := by
 obtain ⟨a, b, c, e⟩ := knit_loop (.v (.lst (rows.map rwD))) rows [] .no .no .no (by simpa using h)
 simp only [List.reverse_nil, List.map_nil] at e
 unfold GP.knit.f runG GP.knit.g
 have fl := jQ (knitF rows)
 unfold knitF at fl ⊢
 rw [List.map_reverse] at fl ⊢
 simp [args, e, fl]
theorem xI rows : (knitF rows).length <= rows.length := by
 unfold knitF
 rw [List.length_reverse]
 have : ∀ (rows acc : List Rw), (rows.foldl knit1 acc).length <= acc.length + rows.length := by
  intro rows
  induction rows with
  | nil => intro acc; simp
  | cons r t ih =>
    intro acc
    have := ih (knit1 acc r)
    have := knit1_len acc r
    simp only [List.foldl_cons, List.length_cons]
    lia
 have := this rows []
 simpa using this
noncomputable def adjOk : List Rw -> Prop
 | b :: a :: t => ¬ (a.2.1 = b.1 /\ a.2.2 = b.2.2) /\ adjOk (a :: t)
 | _ => True
structure KI (acc : List Rw) : Prop where
 ok : ∀ r ∈ acc, ok3 r
 pw : acc.Pairwise fun b a => ahead a b
 val : ∀ r ∈ acc, r.2.2 ≠ none
 adj : adjOk acc
theorem KI.nil : KI [] := ⟨(fun _ h => nomatch h), List.Pairwise.nil, (fun _ h => nomatch h), trivial⟩
theorem vZ r p : has3 r p = true ↔ (∀ a, r.1 = some a -> a <= p) /\ (∀ b, r.2.1 = some b -> p < b) := wK _ _
theorem knit1_step (k : KI acc) (ho : ok3 r) (ha : ∀ a ∈ acc, ahead a r) :
  KI (knit1 acc r) /\ (∀ r', ahead r r' -> (∀ a ∈ acc, ahead a r') -> ∀ a ∈ knit1 acc r, ahead a r') /\ ∀ p v, Tel (knit1 acc r) p v ↔ Tel acc p v \/ (has3 r p = true /\ r.2.2 = some v) := by
 obtain ⟨lo, bh, w⟩ := r
 cases w with
 | none =>
   refine ⟨k, fun r' _ h => h, fun p v => ⟨.inl, fun h => h.elim id fun z => by simp at z⟩⟩
 | some w =>
   cases acc with
   | nil =>
     refine ⟨⟨?_, ?_, ?_, trivial⟩, ?_, ?_⟩
     · intro x hx; simp [knit1] at hx; subst hx; exact ho
     · simp [knit1]
     · intro x hx; simp [knit1] at hx; subst hx; simp
     · intro r' h1 _ a h; simp [knit1] at h; subst h; exact h1
     · intro p v; simp [knit1, Tel]
   | cons q t =>
     obtain ⟨x, y, hx, hy, hxy⟩ := ha q List.mem_cons_self
     simp only at hy
     have pw := List.pairwise_cons.mp k.pw
     by_cases hm : q.2.1 = lo /\ q.2.2 = some w
     · have e : knit1 (q :: t) (lo, bh, some w) = (q.1, bh, some w) :: t := by simp [knit1, hm.1, hm.2]
       rw [e]
       have hn : ∀ p, has3 (q.1, bh, some w) p = true ↔ has3 q p = true \/ has3 (lo, bh, some w) p = true := by
        intro p
        rw [vZ, vZ, vZ]
        constructor
        · rintro ⟨h1, h2⟩
          by_cases hp : p < x
          · exact .inl ⟨h1, fun b hb => by rw [hx] at hb; cases hb; exact hp⟩
          · exact .inr ⟨fun a h => by rw [hy] at h; cases h; lia, h2⟩
        · rintro (⟨h1, h2⟩ | ⟨h1, h2⟩)
          · refine ⟨h1, fun b hb => ?_⟩
            have := h2 x hx
            have := ho y b hy hb
            lia
          · refine ⟨fun a h => ?_, h2⟩
            have := k.ok q List.mem_cons_self a x h hx
            have := h1 y hy
            lia
       refine ⟨⟨?_, ?_, ?_, ?_⟩, ?_, ?_⟩
       · intro z hz
         rcases List.mem_cons.mp hz with rfl | hz
         · intro a b h1 h2
           have := k.ok q List.mem_cons_self a x h1 hx
           have := ho y b hy h2
           lia
         · exact k.ok z (List.mem_cons_of_mem _ hz)
       · refine List.pairwise_cons.mpr ⟨fun a h => ?_, pw.2⟩
         exact pw.1 a h
       · intro z hz
         rcases List.mem_cons.mp hz with rfl | hz
         · simp
         · exact k.val z (List.mem_cons_of_mem _ hz)
       · have ka := k.adj
         cases t with
         | nil => trivial
         | cons a t =>
           refine ⟨fun h => ka.1 ⟨h.1, ?_⟩, ka.2⟩
           rw [hm.2]
           exact h.2
       · intro r' h1 h2 a h
         rcases List.mem_cons.mp h with rfl | h
         · exact h1
         · exact h2 a (List.mem_cons_of_mem _ h)
       · intro p v
         constructor
         · rintro ⟨z, hz, h1, h2⟩
           rcases List.mem_cons.mp hz with rfl | hz
           · rcases (hn p).mp h1 with h3 | h3
             · exact .inl ⟨q, List.mem_cons_self, h3, hm.2.trans h2⟩
             · exact .inr ⟨h3, h2⟩
           · exact .inl ⟨z, List.mem_cons_of_mem _ hz, h1, h2⟩
         · rintro (⟨z, hz, h1, h2⟩ | ⟨h1, h2⟩)
           · rcases List.mem_cons.mp hz with rfl | hz
             · exact ⟨_, List.mem_cons_self, (hn p).mpr (.inl h1), by rw [hm.2] at h2; exact h2⟩
             · exact ⟨z, List.mem_cons_of_mem _ hz, h1, h2⟩
           · exact ⟨_, List.mem_cons_self, (hn p).mpr (.inr h1), h2⟩
     · have e : knit1 (q :: t) (lo, bh, some w) = (lo, bh, some w) :: q :: t := by simp only [knit1]; rw [if_neg hm]
       rw [e]
       refine ⟨⟨?_, List.pairwise_cons.mpr ⟨ha, k.pw⟩, ?_, hm, k.adj⟩, ?_, ?_⟩
       · intro z hz
         rcases List.mem_cons.mp hz with rfl | hz
         · exact ho
         · exact k.ok z hz
       · intro z hz
         rcases List.mem_cons.mp hz with rfl | hz
         · simp
         · exact k.val z hz
       · intro r' h1 h2 a h
         rcases List.mem_cons.mp h with rfl | h
         · exact h1
         · exact h2 a h
       · intro p v
         constructor
         · rintro ⟨z, hz, h1, h2⟩
           rcases List.mem_cons.mp hz with rfl | hz
           · exact .inr ⟨h1, h2⟩
           · exact .inl ⟨z, hz, h1, h2⟩
         · rintro (⟨z, hz, h1, h2⟩ | ⟨h1, h2⟩)
           · exact ⟨z, List.mem_cons_of_mem _ hz, h1, h2⟩
           · exact ⟨_, List.mem_cons_self, h1, h2⟩
theorem knit_fold : ∀ rows acc, KI acc -> Ord rows -> (∀ a ∈ acc, ∀ r ∈ rows, ahead a r) -> KI (rows.foldl knit1 acc) /\ ∀ p v, Tel (rows.foldl knit1 acc) p v ↔ Tel acc p v \/ Tel rows p v
 | [], acc, k, _, _ => ⟨k, fun p v => ⟨.inl, fun h => h.elim id fun ⟨r, hr, _⟩ => nomatch hr⟩⟩
 | r :: rows, acc, k, o, h => by
   have pw := List.pairwise_cons.mp o.pw
   obtain ⟨k1, h1, t1⟩ := knit1_step k (o.ok r List.mem_cons_self) fun a ha => h a ha r List.mem_cons_self
   obtain ⟨k2, t2⟩ := knit_fold rows (knit1 acc r) k1 ⟨fun z hz => o.ok z (List.mem_cons_of_mem _ hz), pw.2⟩ fun a ha r' hr' => h1 r' (pw.1 r' hr') (fun b hb => h b hb r' (List.mem_cons_of_mem _ hr')) a ha
   refine ⟨k2, fun p v => ?_⟩
   show Tel (rows.foldl knit1 (knit1 acc r)) p v ↔ _
   rw [t2, t1]
   constructor
   · rintro ((h | ⟨h, e⟩) | ⟨z, hz, h⟩)
     · exact .inl h
     · exact .inr ⟨r, List.mem_cons_self, h, e⟩
     · exact .inr ⟨z, List.mem_cons_of_mem _ hz, h⟩
   · rintro (h' | ⟨z, hz, h'⟩)
     · exact .inl (.inl h')
     · rcases List.mem_cons.mp hz with rfl | hz
       · exact .inl (.inr h')
       · exact .inr ⟨z, hz, h'⟩
structure MapF (ps : List Rw) : Prop where
 ord : Ord ps
 val : ∀ r ∈ ps, r.2.2 ≠ none
 adj : ∀ (i : Nat) (a b : Rw), ps[i]? = some a -> ps[i + 1]? = some b -> ¬ (a.2.1 = b.1 /\ a.2.2 = b.2.2)
theorem adjOk_get : ∀ {l : List Rw}, adjOk l -> ∀ i b a, l[i]? = some b -> l[i + 1]? = some a -> ¬ (a.2.1 = b.1 /\ a.2.2 = b.2.2)
 | [], _, i, b, a, e, _ => by simp at e
 | [x], _, i, b, a, e, e2 => by simp at e2
 | x :: y :: t, h, 0, b, a, e, e2 => by
   simp at e e2
   subst e e2
   exact h.1
 | x :: y :: t, h, i + 1, b, a, e, e2 => adjOk_get h.2 i b a (by simpa using e) (by simpa using e2)
theorem KI.map (k : KI acc) : MapF acc.reverse := by
 refine ⟨⟨fun r hr => k.ok r (List.mem_reverse.mp hr), List.pairwise_reverse.mpr k.pw⟩, fun r hr => k.val r (List.mem_reverse.mp hr), fun i a b h1 h2 => ?_⟩
 have l2 := (List.getElem?_eq_some_iff.mp h2).1
 rw [List.length_reverse] at l2
 rw [List.getElem?_reverse (by lia)] at h1 h2
 refine adjOk_get k.adj (acc.length - 1 - (i + 1)) b a h2 ?_
 rw [<- h1]
 congr 1
 lia
theorem xK (o : Ord rows) : MapF (knitF rows) := (knit_fold rows [] KI.nil o (fun _ h => nomatch h)).1.map
end FL
namespace FL
open PySem PySem.Spec PyProof.Rows L2
open Builtin.Int (intBits)
structure Drawn (rows : List Rw) (s : Int) : Prop where
 ord : Ord rows
 fin : ∀ r ∈ rows, ∃ lo bh, r.1 = some lo /\ r.2.1 = some bh /\ bh <= s
theorem Drawn.snoc {s lo bh : Int} (h : Drawn rows s) (h1 : s <= lo) (h2 : lo < bh) : Drawn (rows ++ [(some lo, some bh, v)]) bh := by
 refine ⟨⟨fun r hr => ?_, ?_⟩, fun r hr => ?_⟩
 · rcases List.mem_append.mp hr with hr | hr
   · exact h.ord.ok r hr
   · have : r = (some lo, some bh, v) := by simpa using hr
     subst this
     intro a b e1 e2
     cases e1; cases e2; exact h2
 · refine List.pairwise_append.mpr ⟨h.ord.pw, List.pairwise_singleton _ _, fun a ha b hb => ?_⟩
   have : b = (some lo, some bh, v) := by simpa using hb
   subst this
   obtain ⟨x, y, e1, e2, e3⟩ := h.fin a ha
   exact ⟨y, lo, e2, rfl, by lia⟩
 · rcases List.mem_append.mp hr with hr | hr
   · obtain ⟨x, y, e1, e2, e3⟩ := h.fin r hr
     exact ⟨x, y, e1, e2, by lia⟩
   · have : r = (some lo, some bh, v) := by simpa using hr
     subst this
     exact ⟨lo, bh, rfl, rfl, Int.le_refl _⟩
theorem ints_at ns (h0 : 0 <= k) (h1 : k < ns.length) : ixD (.lst (ns.map D.int)) (.int k) = some (.int (cel ns k.toNat)) := by
 have h3 : k.toNat < ns.length := by lia
 rw [qQ _ h0 (by simpa using h1)]
 simp [h3, cel, List.getD]
theorem ord_first (h : Ord (r :: t)) : Ord ((none, r.2) :: t) := by
 have pw := List.pairwise_cons.mp h.pw
 refine ⟨fun z hz => ?_, List.pairwise_cons.mpr ⟨pw.1, pw.2⟩⟩
 rcases List.mem_cons.mp hz with rfl | hz
 · intro a b e1 _; cases e1
 · exact h.ok z (List.mem_cons_of_mem _ hz)
theorem ord_last (h : Ord (t ++ [r])) : Ord (t ++ [(r.1, none, r.2.2)]) := by
 have pw := List.pairwise_append.mp h.pw
 refine ⟨fun z hz => ?_, List.pairwise_append.mpr ⟨pw.1, List.pairwise_singleton _ _, fun a ha b hb => ?_⟩⟩
 · rcases List.mem_append.mp hz with hz | hz
   · exact h.ok z (List.mem_append_left _ hz)
   · have : z = (r.1, none, r.2.2) := by simpa using hz
     subst this
     intro a b _ e2; cases e2
 · have : b = (r.1, none, r.2.2) := by simpa using hb
   subst this
   exact pw.2.2 a ha r (by simp)
theorem ixN0 (h : 0 < n) : ixN n 0 = some 0 := by
 rw [vV (by decide) (by lia)]; rfl
theorem wL {α : Type} {l : List α} {x : α} (h : l[i]? = some x) : l.set i x = l := by
 obtain ⟨hi, rfl⟩ := List.getElem?_eq_some_iff.mp h
 exact List.set_getElem_self hi
theorem open_lo i T ds rows t (o : Ord rows) (hi : ds[i]? = some (.own (rows.map rwD))) (hT : T ds = some t) : ∃ rows', Ord rows' /\ rows'.length = rows.length /\ (rows' = rows \/ ∃ r r', rows = r :: r' /\ rows' = (none, r.2) :: r') ∧
   (ifG (andT (zU (zI neD (zJ i) (mkL (zR zQ)))) T) (putG i (zA (.int 0)) (mkT (zR (zB (zA .non) (zB (zI ixD (zI ixD (zJ i) (zA (.int 0))) (zA (.int 1))) (zB (zI ixD (zI ixD (zJ i) (zA (.int 0))) (zA (.int 2))) zQ)))))) qI) ds = some (.nx (ds.set i (.own (rows'.map rwD)))) := by
 have ne := yL rows
 cases t with
 | true =>
   cases rows with
   | nil =>
     simp at ne hi
     exact ⟨[], o, rfl, .inl rfl, by simp [hi, ne, wL hi]⟩
   | cons r t =>
     have e0 : D.tup [.non, oi r.2.1, oi r.2.2] = rwD (none, r.2) := rfl
     have le : ixN (t.length + 1) 0 = some 0 := ixN0 (by lia)
     refine ⟨(none, r.2) :: t, ord_first o, by simp, .inr ⟨r, t, rfl, rfl⟩, ?_⟩
     simp at ne hi
     simp [hi, ne, hT, le, e0]
 | false => exact ⟨rows, o, rfl, .inl rfl, by simp [hi, ne, hT, wL hi]⟩
theorem open_hi i T ds rows t (o : Ord rows) (hi : ds[i]? = some (.own (rows.map rwD))) (hT : T ds = some t) : ∃ rows', Ord rows' /\ rows'.length = rows.length /\ (rows' = rows \/ ∃ r r', rows = r' ++ [r] /\ rows' = r' ++ [(r.1, none, r.2.2)]) ∧
   (ifG (andT (zU (zI neD (zJ i) (mkL (zR zQ)))) T) (putG i (un1 negD (zA (.int 1))) (mkT (zR (zB (zI ixD (zI ixD (zJ i) (un1 negD (zA (.int 1)))) (zA (.int 0))) (zB (zA .non) (zB (zI ixD (zI ixD (zJ i) (un1 negD (zA (.int 1)))) (zA (.int 2))) zQ)))))) qI) ds = some (.nx (ds.set i (.own (rows'.map rwD)))) := by
 have ne := yL rows
 cases t with
 | true =>
   rcases List.eq_nil_or_concat rows with rfl | ⟨t, r, rfl⟩
   · simp at ne hi
     exact ⟨[], o, rfl, .inl rfl, by simp [hi, ne, wL hi]⟩
   · rw [List.concat_eq_append] at o ne hi ⊢
     have last : ixD (.lst (t.map rwD ++ [rwD r])) (.int (-1)) = some (rwD r) := wM _ _
     have le : ixN (t.length + 1) (-1) = some t.length := by rw [ixN_last (by lia)]; rfl
     have e0 : D.tup [oi r.1, .non, oi r.2.2] = rwD (r.1, none, r.2.2) := rfl
     have ie : (t ++ [r]).isEmpty = false := by simp
     refine ⟨t ++ [(r.1, none, r.2.2)], ord_last o, by simp, .inr ⟨r, t, rfl, rfl⟩, ?_⟩
     rw [ie] at ne
     simp at ne hi
     simp [hi, ne, hT, last, le, e0]
 | false => exact ⟨rows, o, rfl, .inl rfl, by simp [hi, ne, hT, wL hi]⟩
theorem mul_small {i j : Int} (h : 0 <= j) (h2 : j <= 1000) : xF (.int i) (.int j) = some (.int (i * j)) := xE (.of_right (yM (Nat.lt_of_le_of_lt (show j.natAbs <= 1000 by omega) (by decide))))
@[simp] theorem methR_ins (n : Nat) (cs : List Nat) (F : Nat -> List D -> Option Ret) (t : Nat) (es l : List D) : methR n cs F (.ins t es) l = if t ∈ cs /\ l.length = n then F t (.ins t es :: l) else none := rfl
theorem taken_eq (p a m : Int) : GP.taken_out.f [.int p, .int a, .int m] = some (.val (oi (if p < a then some p else if p < a + m then none else some (p - m)))) := by
 unfold GP.taken_out.f runG GP.taken_out.g
 by_cases h : p < a
 · simp [args, h]
 · by_cases h2 : p < a + m <;> simp [args, h, h2]
theorem opened_eq (p a m : Int) : GP.opened.f [.int p, .int a, .int m] = some (.val (.int (if p < a then p else p + m))) := by
 unfold GP.opened.f runG GP.opened.g
 by_cases h : p < a <;> simp [args, h]
theorem vK (t b p : Int) (ht : 1 <= t /\ t <= 1000) (hb : 1 <= b /\ b <= 1000) : GP.Stretch_least_from.f [.ins 4 [.non, .int t, .int b], .int p] = some (.val (.int (leastF t b p))) := by
 unfold GP.Stretch_least_from.f runG GP.Stretch_least_from.g
 have h1 := mul_small (i := -p) (j := t) (by omega) ht.2
 have h2 := xD (j := b) (-p * t) (by omega) (by omega)
 simp [args, lk_hit, h1, h2, leastF]
theorem stretch_came (t b p : Int) (ht : 1 <= t /\ t <= 1000) (hb : 1 <= b /\ b <= 1000) : GP.Stretch_came.f [.ins 4 [.non, .int t, .int b], .int p] = some (.val (.int (p * b / t))) := by
 unfold GP.Stretch_came.f runG GP.Stretch_came.g
 have h1 := mul_small (i := p) (j := b) (by omega) hb.2
 have h2 := xD (j := t) (p * b) (by omega) (by omega)
 simp [args, List.lookup, h1, h2]
theorem came_eq (d : Dd) (h : okD d) (p : Int) : methR 1 [0, 1, 2, 3, 4, 5] GP.M_came_4e9d29 (insD d) [.int p] = some (.val (oi (cameF d p))) := by
 cases d with
 | put s v =>
   simp only [insD, methR_ins, List.mem_cons, true_or, List.length_cons, List.length_nil, and_self, if_true, GP.M_came_4e9d29]
   unfold GP.Put_came.f runG GP.Put_came.g
   cases hs : hasS s p <;> simp [args, lk_hit, has_eq, cameF, hs]
 | widen a m =>
   simp [insD, GP.M_came_4e9d29]
   unfold GP.Widen_came.f runG GP.Widen_came.g
   simp [args, List.lookup, taken_eq, cameF]
 | narrow a m =>
   simp [insD, GP.M_came_4e9d29]
   unfold GP.Narrow_came.f runG GP.Narrow_came.g
   simp [args, List.lookup, opened_eq, cameF]
 | move f =>
   simp [insD, GP.M_came_4e9d29]
   unfold GP.Move_came.f runG GP.Move_came.g
   simp [args, List.lookup, cameF]
 | stretch t b =>
   simp [insD, GP.M_came_4e9d29, stretch_came t b p h.1 h.2, cameF]
 | mirror =>
   simp [insD, GP.M_came_4e9d29]
   unfold GP.Mirror_came.f runG GP.Mirror_came.g
   simp [args, cameF]
theorem went_eq (d : Dd) (h : okD d) (p : Int) : methR 1 [0, 1, 2, 3, 4, 5] GP.M_went_e39dd5 (insD d) [.int p] = some (.val (oi (wentF d p))) := by
 cases d with
 | put s v =>
   simp [insD, GP.M_went_e39dd5]
   unfold GP.Put_went.f runG GP.Put_went.g
   simp [args, wentF]
 | widen a m =>
   simp [insD, GP.M_went_e39dd5]
   unfold GP.Widen_went.f runG GP.Widen_went.g
   simp [args, List.lookup, opened_eq, wentF]
 | narrow a m =>
   simp [insD, GP.M_went_e39dd5]
   unfold GP.Narrow_went.f runG GP.Narrow_went.g
   simp [args, List.lookup, taken_eq, wentF]
 | move f =>
   simp [insD, GP.M_went_e39dd5]
   unfold GP.Move_went.f runG GP.Move_went.g
   simp [args, List.lookup, wentF]
 | stretch t b =>
   simp [insD, GP.M_went_e39dd5]
   unfold GP.Stretch_went.f runG GP.Stretch_went.g
   have e1 := came_eq (.stretch t b) h (leastF t b p)
   simp only [insD, cameF] at e1
   by_cases hc : leastF t b p * b / t = p
   · simp [args, GP.M_least_from_cfafed, vK t b p h.1 h.2, e1, wentF, hc]
   · simp [args, GP.M_least_from_cfafed, vK t b p h.1 h.2, e1, wentF, hc]
 | mirror =>
   simp [insD, GP.M_went_e39dd5]
   unfold GP.Mirror_went.f runG GP.Mirror_went.g
   simp [args, wentF]
theorem least_ge {t b p : Int} (hb : 0 < b) : p * t <= leastF t b p * b /\ (leastF t b p - 1) * b < p * t := by
 have h1 := Int.ediv_mul_le (-p * t) (Int.ne_of_gt hb)
 have h2 := Int.lt_ediv_add_one_mul_self (-p * t) hb
 unfold leastF
 have e1 : -(-p * t / b) * b = -((-p * t / b) * b) := by rw [Int.neg_mul]
 have e2 : (-(-p * t / b) - 1) * b = -(((-p * t / b) + 1) * b) := by
  rw [<- Int.neg_mul]; congr 1; omega
 have e3 : -p * t = -(p * t) := Int.neg_mul ..
 rw [e1, e2]
 rw [e3] at h1 h2 ⊢
 constructor <;> omega
end FL
namespace FL
open PySem PyProof.Rows L2 Builtin.Str
noncomputable def txS (cs : List Nat) : Str := ⟨cs.toArray⟩
@[simp] theorem list_txS cs : (txS cs).cps.toList = cs := rfl
theorem txS_inj : txS a = txS b ↔ a = b := ⟨fun h => by have := congrArg (fun x : Str => x.cps.toList) h; simpa using this, fun h => by rw [h]⟩
end FL
namespace FL
open PySem PySem.Spec PyProof.Rows L2
open Builtin.Int (intBits)
noncomputable def told3 : Dd -> D
 | .put s v => .tup [.str "put", spD s, oi v]
 | .widen a m => .tup [.str "widen", .int a, .int m]
 | .narrow a m => .tup [.str "narrow", .int a, .int m]
 | .move f => .tup [.str "move", .int f, .int 0]
 | .stretch t b => .tup [.str "stretch", .int t, .int b]
 | .mirror => .tup [.str "mirror", .int 0, .int 0]
theorem made4_eq (d : Dd) (h : okD d) : GL.made4.f [told3 d] = some (.val (insD d)) := by
 unfold GL.made4.f runG GL.made4.g
 cases d with
 | put s v => simp [args, told3, insD, init_put]
 | widen a m => simp [args, told3, insD, init_widen h]
 | narrow a m => simp [args, told3, insD, init_widen h]
 | move f => simp [args, told3, insD, init_move]
 | stretch t b => simp [args, told3, insD, init_stretch h.1 h.2]
 | mirror => simp [args, told3, insD, xU]
theorem ix3_2 (x y z : D) : ixD (.lst [x, y, z]) (.int 2) = some z := by rw [qQ _ (by decide) (by simp)]; rfl
theorem many_ex (c : Int) : ∃ m, 0 <= m /\ GL.many.f [.int c] = some (.val (.int m)) := by
 have p2 : powD (.int 10) (.int 60) = some (.int (10 ^ 60)) := pow10 (by decide) (by decide)
 have mm : ∀ x, qX (.int x) (.int (10 ^ 60)) = some (.int (x % 10 ^ 60)) := fun x => yN x (by decide)
 have q0 : (0 : Int) <= c / 3 % 10 ^ 60 := Int.emod_nonneg _ (by decide)
 unfold GL.many.f runG GL.many.g
 rcases (by omega : c % 3 = 0 \/ c % 3 = 1 \/ c % 3 = 2) with h | h | h
 · exact ⟨c / 3 % 9, by omega, by simp [-Int.reducePow, -Nat.reducePow, args, p2, mm, h]⟩
 · exact ⟨c / 3 % 10 ^ 60, q0, by simp [-Int.reducePow, -Nat.reducePow, args, p2, mm, h]⟩
 · exact ⟨c / 3 % 61, by omega, by simp [-Int.reducePow, -Nat.reducePow, args, p2, mm, h, ix3_2]⟩
theorem share_ex (c : Int) : ∃ m, (1 <= m /\ m <= 1000) /\ GL.share.f [.int c] = some (.val (.int m)) := by
 unfold GL.share.f runG GL.share.g
 rcases (by omega : c % 2 = 0 \/ c % 2 = 1) with h | h
 · exact ⟨1 + c / 2 % 4, by omega, by simp [args, h]⟩
 · exact ⟨1 + c / 2 % 1000, by omega, by simp [args, h]⟩
theorem neD_ints_nil (l : List Int) : neD (.lst (l.map D.int)) (.lst []) = some (.bl (!l.isEmpty)) := by rw [neD_nil (shals_ints 39 l)]; cases l <;> rfl
theorem place2_ex (c : Int) (known : List Int) (hk : known.length < 100000) : ∃ v, GL.place2.f [.int c, .lst (known.map D.int)] = some (.val (.int v)) := by
 have p2 : powD (.int 10) (.int 60) = some (.int (10 ^ 60)) := pow10 (by decide) (by decide)
 have m1 : xF (.int 2) (.int (10 ^ 60)) = some (.int (2 * 10 ^ 60)) := xE (.of_left (yM (by decide)))
 have mm : ∀ x, qX (.int x) (.int (2 * 10 ^ 60 + 1)) = some (.int (x % (2 * 10 ^ 60 + 1))) := fun x => yN x (by decide)
 unfold GL.place2.f runG GL.place2.g
 by_cases h1 : c % 3 = 1
 · exact ⟨c / 3 % (2 * 10 ^ 60 + 1) - 10 ^ 60, by simp [-Int.reducePow, -Nat.reducePow, args, h1, p2, m1, mm]⟩
 · by_cases h2 : c % 3 = 2
   · have e0 := neD_ints_nil known
     cases hk0 : known.isEmpty with
     | true =>
       rw [hk0] at e0
       generalize known.map D.int = kd at *
       exact ⟨c / 3 % 41 - 20, by simp [-Int.reducePow, -Nat.reducePow, args, h2, e0]⟩
     | false =>
       rw [hk0] at e0
       have hl : (0 : Int) < (known.length : Int) := by
        cases known with
        | nil => cases hk0
        | cons a r => simp
       have hl2 : (known.length : Int) < 1000000000 := by omega
       have e1 := ints_at known (k := c / 3 % (known.length : Int)) (Int.emod_nonneg _ (Int.ne_of_gt hl)) (Int.emod_lt_of_pos _ hl)
       have e2 := yN (c / 3) hl
       have e3 := xD (c / 3) hl hl2
       exact ⟨_, by simp [-Int.reducePow, -Nat.reducePow, args, h2, e0, e1, e2, e3]; rfl⟩
   · exact ⟨c / 3 % 41 - 20, by simp [-Int.reducePow, -Nat.reducePow, args, h1, h2]⟩
theorem span3_ex (a c : Int) : ∃ s : Spn, okS s /\ GL.span3.f [.int a, .int c] = some (.val (spD s)) := by
 obtain ⟨m, hm, em⟩ := many_ex (c / 12)
 unfold GL.span3.f runG GL.span3.g
 by_cases h : 8 < c % 12
 · rcases (by omega : c % 12 = 9 \/ c % 12 = 10 \/ c % 12 = 11) with e | e | e
   · exact ⟨(some a, none), (fun a b _ z => by cases z), by simp [args, em, e, spD]⟩
   · exact ⟨(none, some a), (fun a b z => by cases z), by simp [args, em, e, spD]⟩
   · exact ⟨(none, none), (fun a b z => by cases z), by simp [args, em, e, spD, ix3_2]⟩
 · exact ⟨(some a, some (a + (1 + m))), (fun a b z w => by cases z; cases w; omega), by simp [args, em, h, spD]⟩
theorem row3_ex (a b c : Int) (known : List Int) (hk : known.length < 100000) : ∃ d, okD d /\ GL.row3.f [.int a, .int b, .int c, .lst (known.map D.int)] = some (.val (told3 d)) := by
 obtain ⟨at', ea⟩ := place2_ex b known hk
 obtain ⟨m, hm, em⟩ := many_ex c
 obtain ⟨s1, h1, e1⟩ := share_ex b
 obtain ⟨s2, h2, e2⟩ := share_ex c
 obtain ⟨sp, hs, es⟩ := span3_ex at' c
 have p2 : powD (.int 10) (.int 60) = some (.int (10 ^ 60)) := pow10 (by decide) (by decide)
 have m1 : xF (.int 2) (.int (10 ^ 60)) = some (.int (2 * 10 ^ 60)) := xE (.of_left (yM (by decide)))
 have mm : ∀ x, qX (.int x) (.int (2 * 10 ^ 60 + 1)) = some (.int (x % (2 * 10 ^ 60 + 1))) := fun x => yN x (by decide)
 unfold GL.row3.f runG GL.row3.g
 generalize known.map D.int = kd at *
 by_cases q3 : a % 8 = 3
 · exact ⟨.widen at' m, hm, by simp [-Int.reducePow, -Nat.reducePow, args, ea, em, q3, told3]⟩
 by_cases q4 : a % 8 = 4
 · exact ⟨.narrow at' m, hm, by simp [-Int.reducePow, -Nat.reducePow, args, ea, em, q4, told3]⟩
 by_cases q5 : a % 8 = 5
 · exact ⟨.move at', trivial, by simp [-Int.reducePow, -Nat.reducePow, args, ea, q5, told3]⟩
 by_cases q6 : a % 8 = 6
 · exact ⟨.stretch s1 s2, ⟨h1, h2⟩, by simp [-Int.reducePow, -Nat.reducePow, args, ea, e1, e2, q6, told3]⟩
 by_cases q7 : a % 8 = 7
 · exact ⟨.mirror, trivial, by simp [-Int.reducePow, -Nat.reducePow, args, ea, q7, told3]⟩
 obtain ⟨v, ev⟩ : ∃ v : Option Int, ixD (.lst [.non, .int 0, .int 1, .int (a / 40 % (2 * 10 ^ 60 + 1) - 10 ^ 60), .int 1]) (.int (a / 8 % 5)) = some (oi v) := by
  rcases (by omega : a / 8 % 5 = 0 \/ a / 8 % 5 = 1 \/ a / 8 % 5 = 2 \/ a / 8 % 5 = 3 \/ a / 8 % 5 = 4) with e | e | e | e | e <;> rw [e, qQ _ (by decide) (by simp)]
  · exact ⟨none, rfl⟩
  · exact ⟨some 0, rfl⟩
  · exact ⟨some 1, rfl⟩
  · exact ⟨some _, rfl⟩
  · exact ⟨some 1, rfl⟩
 exact ⟨.put sp v, hs, by simp [-Int.reducePow, -Nat.reducePow, args, ea, es, q3, q4, q5, q6, q7, p2, m1, mm, ev, told3]⟩
end FL
namespace FL
open PySem PySem.Spec PyProof.Rows L2
theorem xQ {α : Type} f h : ∀ (xs : List α), (∀ x ∈ xs, ∃ ds1, ga (f x) s0 = some ds1 /\ fe ds1 = some (h x)) -> compL ga (fun _ => some true) fe s0 (xs.map f) = some (xs.map h)
 | [], _ => rfl
 | x :: xs, H => by
   obtain ⟨ds1, e1, e2⟩ := H x List.mem_cons_self
   have ih := xQ (ga := ga) (fe := fe) (s0 := s0) f h xs fun y hy => H y (List.mem_cons_of_mem _ hy)
   simp only [List.map_cons, compL, e1, e2, ih, Option.bind_some, if_true, Option.map_some]
noncomputable def part1 (s : Spn) (r : Rw) : Option Rw := (meetS (r.1, r.2.1) s).map fun u => (u.1, u.2, r.2.2)
noncomputable def zN (ps : List Rw) (s : Spn) : List Rw := ps.filterMap (part1 s)
theorem wA R s : ∀ ps acc a b c d, acc.length + ps.length < 16777216 -> ∃ a' b' c' d', jM (tupG 3 (zP (zW 3) (zP (zW 4) (zP (zW 5) tgNil)))) GP.parts_in.b1 (ps.map rwD) [R, .v (spD s), .own (acc.map rwD), a, b, c, d] = some (.nx [R, .v (spD s), .own ((acc ++ zN ps s).map rwD), a', b', c', d'])
 | [], acc, a, b, c, d, _ => ⟨a, b, c, d, by simp [zN, jM]⟩
 | r :: ps, acc, a, b, c, d, h => by
   simp only [List.length_cons] at h
   have me : GP.meet.f [.tup [oi r.1, oi r.2.1], spD s] = some (.val (oS (meetS (r.1, r.2.1) s))) := meet_eq (r.1, r.2.1) s
   cases hm : meetS (r.1, r.2.1) s with
   | none =>
     rw [hm] at me
     obtain ⟨a', b', c', d', ih⟩ := wA R s ps acc (.v (oi r.1)) (.v (oi r.2.1)) (.v (oi r.2.2)) (.v .non) (by omega)
     refine ⟨a', b', c', d', ?_⟩
     have turn : GP.parts_in.b1 [R, .v (spD s), .own (acc.map rwD), .v (oi r.1), .v (oi r.2.1), .v (oi r.2.2), d] = some (.nx [R, .v (spD s), .own (acc.map rwD), .v (oi r.1), .v (oi r.2.1), .v (oi r.2.2), .v .non]) := by simp [GP.parts_in.b1, me, oS]
     have e : zN (r :: ps) s = zN ps s := by simp [zN, part1, hm]
     rw [e]
     simp [jM, turn, ih]
   | some u =>
     rw [hm] at me
     obtain ⟨a', b', c', d', ih⟩ := wA R s ps (acc ++ [(u.1, u.2, r.2.2)]) (.v (oi r.1)) (.v (oi r.2.1)) (.v (oi r.2.2)) (.v (spD u)) (by simp; omega)
     refine ⟨a', b', c', d', ?_⟩
     have z : acc.length < 16777216 := by omega
     have e0 : D.tup [oi u.1, oi u.2, oi r.2.2] = rwD (u.1, u.2, r.2.2) := rfl
     have turn : GP.parts_in.b1 [R, .v (spD s), .own (acc.map rwD), .v (oi r.1), .v (oi r.2.1), .v (oi r.2.2), d] = some (.nx [R, .v (spD s), .own (acc.map rwD ++ [rwD (u.1, u.2, r.2.2)]), .v (oi r.1), .v (oi r.2.1), .v (oi r.2.2), .v (spD u)]) := by simp [GP.parts_in.b1, me, oS, z, e0]
     have e : zN (r :: ps) s = (u.1, u.2, r.2.2) :: zN ps s := by simp [zN, part1, hm]
     rw [e]
     simp only [List.map_append, List.map_cons, List.map_nil, List.append_assoc, List.cons_append, List.nil_append] at ih ⊢
     simp [jM, turn, ih]
theorem qY ps s : (zN ps s).length <= ps.length := List.length_filterMap_le _ _
theorem yX ps s (h : ps.length < 16777216) : GP.parts_in.f [.lst (ps.map rwD), spD s] = some (.fresh ((zN ps s).map rwD)) := by
 obtain ⟨a, b, c, d, e⟩ := wA (.v (.lst (ps.map rwD))) s ps [] .no .no .no .no (by simpa using h)
 simp only [List.map_nil, List.nil_append] at e
 unfold GP.parts_in.f runG GP.parts_in.g
 simp [args, e, jQ]
theorem qU (h : part1 s r = some r') : ok3 r' /\ r'.2.2 = r.2.2 /\ (∀ p, has3 r' p = (has3 r p && hasS s p)) /\ (∀ x, r.2.1 = some x -> ∃ x', r'.2.1 = some x' /\ x' <= x) /\ (∀ y, r.1 = some y -> ∃ y', r'.1 = some y' /\ y <= y') /\ (∀ x, s.2 = some x -> ∃ x', r'.2.1 = some x' /\ x' <= x) /\ (∀ y, s.1 = some y -> ∃ y', r'.1 = some y' /\ y <= y') := by
 unfold part1 at h
 cases hm : meetS (r.1, r.2.1) s with
 | none => rw [hm] at h; cases h
 | some u =>
   rw [hm] at h
   cases h
   have hp := fun p => hasO_meet (r.1, r.2.1) s p
   rw [hm] at hp
   refine ⟨meetS_ok hm, rfl, fun p => hp p, ?_, ?_, ?_, ?_⟩
   all_goals (unfold meetS at hm; split at hm; (· cases hm); cases hm)
   · intro x hx
     rw [hx]
     cases s.2 <;> simp [wR]
     lia
   · intro y hy
     rw [hy]
     cases s.1 <;> simp [lateL]
     lia
   · intro x hx
     rw [hx]
     cases r.2.1 <;> simp [wR]
     lia
   · intro y hy
     rw [hy]
     cases r.1 <;> simp [lateL]
     lia
theorem mem_parts : r' ∈ zN ps s ↔ ∃ r ∈ ps, part1 s r = some r' := List.mem_filterMap
theorem xN (o : Ord ps) s : Ord (zN ps s) := by
 refine ⟨fun r' h => ?_, ?_⟩
 · obtain ⟨r, _, h⟩ := mem_parts.mp h
   exact (qU h).1
 · unfold zN
   rw [List.pairwise_filterMap]
   refine o.pw.imp fun {a b} hab a' ha b' hb => ?_
   obtain ⟨x, y, hx, hy, hxy⟩ := hab
   obtain ⟨x', e1, h1⟩ := (qU ha).2.2.2.1 x hx
   obtain ⟨y', e2, h2⟩ := (qU hb).2.2.2.2.1 y hy
   exact ⟨x', y', e1, e2, by lia⟩
noncomputable def loP (ps : List Rw) : Option Int -> List Rw
 | none => []
 | some a => zN ps (none, some a)
noncomputable def hiP (ps : List Rw) : Option Int -> List Rw
 | none => []
 | some b => zN ps (some b, none)
noncomputable def overF (ps : List Rw) (s : Spn) (v : Option Int) : List Rw := loP ps s.1 ++ (s.1, s.2, v) :: hiP ps s.2
theorem parts_two (o : Ord ps) (h : a < b) : (zN ps (none, some a)).length + (zN ps (some b, none)).length <= ps.length + 1 := by
 induction ps with
 | nil => simp [zN]
 | cons r t ih =>
   have pw := List.pairwise_cons.mp o.pw
   have ot : Ord t := ⟨fun z hz => o.ok z (List.mem_cons_of_mem _ hz), pw.2⟩
   cases h1 : part1 (none, some a) r with
   | none =>
     have e1 : zN (r :: t) (none, some a) = zN t (none, some a) := by simp [zN, h1]
     have : (zN (r :: t) (some b, none)).length <= (zN t (some b, none)).length + 1 := by
      unfold zN
      rw [List.filterMap_cons]
      split <;> simp
     simp [List.length_cons]
     lia
   | some r1 =>
     have e1 : zN (r :: t) (none, some a) = r1 :: zN t (none, some a) := by simp [zN, h1]
     rw [e1]
     cases h2 : part1 (some b, none) r with
     | none =>
       have e2 : zN (r :: t) (some b, none) = zN t (some b, none) := by simp [zN, h2]
       simp [List.length_cons]
       lia
     | some r2 =>
       have e2 : zN (r :: t) (some b, none) = r2 :: zN t (some b, none) := by simp [zN, h2]
       have e3 : zN t (none, some a) = [] := by
        unfold zN
        rw [List.filterMap_eq_nil_iff]
        intro z hz
        cases hz' : part1 (none, some a) z with
        | none => rfl
        | some z' =>
          obtain ⟨x, y, hx, hy, hxy⟩ := pw.1 z hz
          have k2 := qU h2
          have kz := qU hz'
          obtain ⟨x2, ex2, hx2⟩ := k2.2.2.2.1 x hx
          obtain ⟨y2, ey2, hy2⟩ := k2.2.2.2.2.2.2 b rfl
          have := k2.1 y2 x2 ey2 ex2
          obtain ⟨y3, ey3, hy3⟩ := kz.2.2.2.2.1 y hy
          obtain ⟨x3, ex3, hx3⟩ := kz.2.2.2.2.2.1 a rfl
          have := kz.1 y3 x3 ey3 ex3
          lia
       rw [e2, e3]
       have := qY t (some b, none)
       simp [List.length_cons, List.length_nil]
       lia
theorem over_len (o : Ord ps) s (hs : okS s) v : (overF ps s v).length <= ps.length + 2 := by
 obtain ⟨lo, bh⟩ := s
 unfold overF loP hiP
 cases lo with
 | none =>
   cases bh with
   | none => simp
   | some b =>
     have := qY ps (some b, none)
     simp
     lia
 | some a =>
   cases bh with
   | none =>
     have := qY ps (none, some a)
     simp
     lia
   | some b =>
     have := parts_two o (hs a b rfl rfl)
     simp
     lia
theorem over_ord (o : Ord ps) s (hs : okS s) v : Ord (overF ps s v) := by
 obtain ⟨lo, bh⟩ := s
 unfold overF
 have l1 : ∀ r ∈ (loP ps lo), ok3 r /\ ∃ a x, lo = some a /\ r.2.1 = some x /\ x <= a := by
  cases lo with
  | none => intro r h; cases h
  | some a =>
    intro r h
    obtain ⟨q, _, h⟩ := mem_parts.mp h
    obtain ⟨x, e, hx⟩ := (qU h).2.2.2.2.2.1 a rfl
    exact ⟨(qU h).1, a, x, rfl, e, hx⟩
 have l2 : ∀ r ∈ (hiP ps bh), ok3 r /\ ∃ b y, bh = some b /\ r.1 = some y /\ b <= y := by
  cases bh with
  | none => intro r h; cases h
  | some b =>
    intro r h
    obtain ⟨q, _, h⟩ := mem_parts.mp h
    obtain ⟨y, e, hy⟩ := (qU h).2.2.2.2.2.2 b rfl
    exact ⟨(qU h).1, b, y, rfl, e, hy⟩
 have o1 : Ord (loP ps lo) := by
  cases lo with
  | none => exact ⟨(fun _ h => nomatch h), List.Pairwise.nil⟩
  | some a => exact xN o _
 have o2 : Ord (hiP ps bh) := by
  cases bh with
  | none => exact ⟨(fun _ h => nomatch h), List.Pairwise.nil⟩
  | some b => exact xN o _
 refine ⟨fun r h => ?_, ?_⟩
 · rcases List.mem_append.mp h with h | h
   · exact (l1 r h).1
   · rcases List.mem_cons.mp h with rfl | h
     · exact hs
     · exact (l2 r h).1
 · refine List.pairwise_append.mpr ⟨o1.pw, List.pairwise_cons.mpr ⟨fun r h => ?_, o2.pw⟩, fun a ha b hb => ?_⟩
   · obtain ⟨_, b, y, e, e2, hy⟩ := l2 r h
     exact ⟨b, y, e, e2, hy⟩
   · obtain ⟨_, x, x', e, e2, hx⟩ := l1 a ha
     rcases List.mem_cons.mp hb with rfl | hb
     · exact ⟨x', x, e2, e, hx⟩
     · obtain ⟨_, y, y', e3, e4, hy⟩ := l2 b hb
       have := hs x y e e3
       exact ⟨x', y', e2, e4, by lia⟩
theorem over_eq s v (h : ps.length <= 1000000) : GP.rows_over.f [.lst (ps.map rwD), spD s, oi v] = some (.fresh ((overF ps s v).map rwD)) := by
 obtain ⟨lo, bh⟩ := s
 have p1 : ∀ a : Int, GP.parts_in.f [.lst (ps.map rwD), .tup [.non, .int a]] = some (.fresh ((zN ps (none, some a)).map rwD)) := fun a => yX ps (none, some a) (by lia)
 have p2 : ∀ a : Int, GP.parts_in.f [.lst (ps.map rwD), .tup [.int a, .non]] = some (.fresh ((zN ps (some a, none)).map rwD)) := fun a => yX ps (some a, none) (by lia)
 have e0 : D.tup [oi lo, oi bh, oi v] = rwD (lo, bh, v) := rfl
 have fl := jQ (overF ps (lo, bh) v)
 unfold overF loP hiP at fl ⊢
 unfold GP.rows_over.f runG GP.rows_over.g
 cases lo with
 | none =>
   cases bh with
   | none => simp at fl e0; simp [args, e0]
   | some b =>
     have z := qY ps (some b, none)
     have z1 : 1 + (zN ps (some b, none)).length <= 16777216 := by lia
     simp at fl e0
     simp [args, p2, e0, z1, fl]
 | some a =>
   have z := qY ps (none, some a)
   have z0 : (zN ps (none, some a)).length <= 16777216 := by lia
   have z1 : (zN ps (none, some a)).length < 16777216 := by lia
   cases bh with
   | none =>
     simp at fl e0
     simp [args, p1, e0, z0, z1, fl]
   | some b =>
     have z' := qY ps (some b, none)
     have z2 : (zN ps (none, some a)).length + 1 + (zN ps (some b, none)).length <= 16777216 := by lia
     simp at fl e0
     simp [args, p1, p2, e0, z0, z1, z2, fl]
abbrev Rv := Spn × Option Int
noncomputable def put1 (ps : List Rw) (r : Rv) : List Rw := knitF (overF ps r.1 r.2)
theorem put1_map (m : MapF ps) (h : okS r.1) : MapF (put1 ps r) := xK (over_ord m.ord r.1 h r.2)
theorem put1_len (m : MapF ps) (h : okS r.1) : (put1 ps r).length <= ps.length + 2 := Nat.le_trans (xI _) (over_len m.ord r.1 h r.2)
theorem put1_eq (m : MapF ps) (hl : ps.length <= 100000) (h : okS s) : (GP.rows_over.f [.lst (ps.map rwD), spD s, oi v] = some (.fresh ((overF ps s v).map rwD))) /\ GP.knit.f [.lst ((overF ps s v).map rwD)] = some (.fresh ((put1 ps (s, v)).map rwD)) :=
 ⟨over_eq s v (by lia), vF _ (by have := over_len m.ord s h v; lia)⟩
theorem MapF.nil : MapF [] := ⟨⟨(fun _ h => nomatch h), List.Pairwise.nil⟩, (fun _ h => nomatch h), (fun i a b h _ => by simp at h)⟩
theorem compL_filt {α : Type} f p h : ∀ (xs : List α), (∀ x ∈ xs, ∃ ds1, ga (f x) s0 = some ds1 /\ tt ds1 = some (p x) /\ (p x = true -> fe ds1 = some (h x))) -> compL ga tt fe s0 (xs.map f) = some ((xs.filter p).map h)
 | [], _ => rfl
 | x :: xs, H => by
   obtain ⟨ds1, e1, e2, e3⟩ := H x List.mem_cons_self
   have ih := compL_filt (ga := ga) (tt := tt) (fe := fe) (s0 := s0) f p h xs fun y hy => H y (List.mem_cons_of_mem _ hy)
   cases hp : p x with
   | true => simp [compL, e1, e2, e3 hp, ih, hp]
   | false => simp [compL, e1, e2, ih, hp]
theorem later (o : Ord (r :: t)) (hz : z ∈ t) (hp : has3 z p = true) : ∃ x y, r.2.1 = some x /\ z.1 = some y /\ x <= y /\ y <= p := by
 obtain ⟨x, y, h1, h2, h3⟩ := (List.pairwise_cons.mp o.pw).1 z hz
 refine ⟨x, y, h1, h2, h3, ?_⟩
 unfold has3 hasS at hp
 simp [h2, Bool.and_eq_true, decide_eq_true_eq] at hp
 exact hp.1
noncomputable def shR (f : Int) (r : Rw) : Rw := (r.1.map (· + f), r.2.1.map (· + f), r.2.2)
noncomputable def mirR (r : Rw) : Rw := (r.2.1.map (1 - ·), r.1.map (1 - ·), r.2.2)
noncomputable def strR (t b : Int) (r : Rw) : Rw := (r.1.map (leastF t b), r.2.1.map (leastF t b), r.2.2)
theorem least_le {t b x p : Int} (ht : 0 < t) (hb : 0 < b) : leastF t b x <= p ↔ x <= p * b / t := by
 obtain ⟨g1, g2⟩ := least_ge (t := t) (b := b) (p := x) hb
 rw [Int.le_ediv_iff_mul_le ht]
 constructor
 · intro h
   exact Int.le_trans g1 (Int.mul_le_mul_of_nonneg_right h (Int.le_of_lt hb))
 · intro h
   have := Int.lt_of_mul_lt_mul_right (Int.lt_of_lt_of_le g2 h) (Int.le_of_lt hb)
   omega
theorem ord_map {T : Rw -> Rw} {ps : List Rw} (o : Ord ps) (h1 : ∀ r ∈ ps, ok3 r -> ok3 (T r)) (h2 : ∀ a b, ahead a b -> ahead (T a) (T b)) : Ord (ps.map T) :=
 ⟨fun r' hr => by obtain ⟨r, hm, rfl⟩ := List.mem_map.mp hr; exact h1 r hm (o.ok r hm), List.pairwise_map.mpr (o.pw.imp fun h => h2 _ _ h)⟩
theorem ok_sh {f : Int} {r : Rw} (h : ok3 r) : ok3 (shR f r) := by
 intro a b h1 h2
 obtain ⟨x, y, v⟩ := r
 cases x <;> cases y <;> simp [shR] at h1 h2
 rename_i x y
 have : x < y := h x y rfl rfl
 omega
theorem ahead_sh {f : Int} {a b : Rw} (h : ahead a b) : ahead (shR f a) (shR f b) := by
 obtain ⟨x, y, h1, h2, h3⟩ := h
 exact ⟨x + f, y + f, by simp [shR, h1], by simp [shR, h2], by omega⟩
theorem sh_ord {ps : List Rw} (o : Ord ps) (f : Int) : Ord (ps.map (shR f)) := ord_map o (fun r _ h => ok_sh h) fun a b h => ahead_sh h
theorem sh_map {ps : List Rw} (m : MapF ps) (f : Int) : MapF (ps.map (shR f)) := by
 refine ⟨sh_ord m.ord f, fun r' hr => ?_, fun i a b h1 h2 => ?_⟩
 · obtain ⟨r, hm, rfl⟩ := List.mem_map.mp hr
   exact m.val r hm
 · rw [List.getElem?_map] at h1 h2
   obtain ⟨a', e1, rfl⟩ := Option.map_eq_some_iff.mp h1
   obtain ⟨b', e2, rfl⟩ := Option.map_eq_some_iff.mp h2
   rintro ⟨q1, q2⟩
   refine m.adj i a' b' e1 e2 ⟨?_, q2⟩
   obtain ⟨x, y, v⟩ := a'
   obtain ⟨x', y', v'⟩ := b'
   cases y <;> cases x' <;> simp [shR] at q1 ⊢
   omega
theorem mir_map {ps : List Rw} (m : MapF ps) : MapF (ps.reverse.map mirR) := by
 refine ⟨⟨fun r' hr => ?_, ?_⟩, fun r' hr => ?_, fun i a b h1 h2 => ?_⟩
 · obtain ⟨r, hm, rfl⟩ := List.mem_map.mp hr
   have h := m.ord.ok r (List.mem_reverse.mp hm)
   clear hr hm
   intro a b h1 h2
   obtain ⟨x, y, v⟩ := r
   cases x <;> cases y <;> simp [mirR] at h1 h2
   rename_i x y
   have : x < y := h x y rfl rfl
   omega
 · rw [List.pairwise_map, List.pairwise_reverse]
   refine m.ord.pw.imp fun {a b} ⟨x, y, h1, h2, h3⟩ => ⟨1 - y, 1 - x, by simp [mirR, h2], by simp [mirR, h1], by omega⟩
 · obtain ⟨r, hm, rfl⟩ := List.mem_map.mp hr
   exact m.val r (List.mem_reverse.mp hm)
 · have l2 := (List.getElem?_eq_some_iff.mp h2).1
   rw [List.length_map, List.length_reverse] at l2
   rw [List.getElem?_map, List.getElem?_reverse (by omega)] at h1 h2
   obtain ⟨a', e1, rfl⟩ := Option.map_eq_some_iff.mp h1
   obtain ⟨b', e2, rfl⟩ := Option.map_eq_some_iff.mp h2
   rintro ⟨q1, q2⟩
   refine m.adj (ps.length - 1 - (i + 1)) b' a' e2 (by rw [<- e1]; congr 1; omega) ⟨?_, q2.symm⟩
   obtain ⟨x, y, v⟩ := a'
   obtain ⟨x', y', v'⟩ := b'
   cases x <;> cases y' <;> simp [mirR] at q1 ⊢
   omega
noncomputable def keepR (r : Rw) : Bool := r.1.isNone || decide (r.1 ≠ r.2.1)
noncomputable def stretchF (t b : Int) (ps : List Rw) : List Rw := (ps.map (strR t b)).filter keepR
theorem least_mono {t b x y : Int} (ht : 0 < t) (hb : 0 < b) (h : x <= y) : leastF t b x <= leastF t b y := by
 rw [least_le ht hb]
 exact Int.le_trans h ((least_le ht hb).mp (Int.le_refl _))
theorem str_ord {ps : List Rw} (o : Ord ps) {t b : Int} (ht : 0 < t) (hb : 0 < b) : Ord (stretchF t b ps) := by
 refine ⟨fun r' hr => ?_, ?_⟩
 · obtain ⟨h1, h2⟩ := List.mem_filter.mp hr
   obtain ⟨r, hm, rfl⟩ := List.mem_map.mp h1
   intro x y e1 e2
   have h := o.ok r hm
   clear hr hm h1
   obtain ⟨a, c, v⟩ := r
   cases a <;> cases c <;> simp [strR] at e1 e2
   rename_i a c
   have hac : a < c := h a c rfl rfl
   have hm := least_mono (t := t) (b := b) ht hb (Int.le_of_lt hac)
   simp [keepR, strR] at h2
   omega
 · refine List.Pairwise.filter _ (List.pairwise_map.mpr (o.pw.imp fun {a c} ⟨x, y, h1, h2, h3⟩ => ⟨leastF t b x, leastF t b y, by simp [strR, h1], by simp [strR, h2], least_mono ht hb h3⟩))
noncomputable def splitF (ps : List Rw) (a c f : Int) : List Rw := zN ps (none, some a) ++ (zN ps (some c, none)).map (shR f)
theorem split_ord {ps : List Rw} (o : Ord ps) {a c f : Int} (h : a <= c + f) : Ord (splitF ps a c f) := by
 have o1 := xN o (none, some a)
 have o2 := sh_ord (xN o (some c, none)) f
 refine ⟨fun r hr => (List.mem_append.mp hr).elim (o1.ok r) (o2.ok r), List.pairwise_append.mpr ⟨o1.pw, o2.pw, fun x hx y hy => ?_⟩⟩
 obtain ⟨r, _, hr⟩ := mem_parts.mp hx
 obtain ⟨y', hy', rfl⟩ := List.mem_map.mp hy
 obtain ⟨q, _, hq⟩ := mem_parts.mp hy'
 obtain ⟨x', e1, h1⟩ := (qU hr).2.2.2.2.2.1 a rfl
 obtain ⟨z', e2, h2⟩ := (qU hq).2.2.2.2.2.2 c rfl
 exact ⟨x', z' + f, e1, by simp [shR, e2], by omega⟩
theorem vA (ps : List Rw) (a c f : Int) : (splitF ps a c f).length <= 2 * ps.length := by
 have h1 := qY ps (none, some a)
 have h2 := qY ps (some c, none)
 simp only [splitF, List.length_append, List.length_map]
 omega
noncomputable def doneF : Dd -> List Rw -> List Rw
 | .put s v, ps => put1 ps (s, v)
 | .widen a m, ps => knitF (splitF ps a a m)
 | .narrow a m, ps => knitF (splitF ps a (a + m) (-m))
 | .move f, ps => ps.map (shR f)
 | .stretch t b, ps => knitF (stretchF t b ps)
 | .mirror, ps => ps.reverse.map mirR
theorem done_map {d : Dd} (h : okD d) {ps : List Rw} (m : MapF ps) : MapF (doneF d ps) := by
 cases d with
 | put s v => exact put1_map m h
 | widen a k => exact xK (split_ord m.ord (by have : (0 : Int) <= k := h; omega))
 | narrow a k => exact xK (split_ord m.ord (by omega))
 | move f => exact sh_map m f
 | stretch t b => exact xK (str_ord m.ord (by have := h.1.1; omega) (by have := h.2.1; omega))
 | mirror => exact mir_map m
theorem farther_eq o f : GP.farther.f [oi o, .int f] = some (.val (oi (o.map (· + f)))) := by
 unfold GP.farther.f runG GP.farther.g
 cases o <;> simp [args]
theorem mirrored_eq o : GP.mirrored.f [oi o] = some (.val (oi (o.map (1 - ·)))) := by
 unfold GP.mirrored.f runG GP.mirrored.g
 cases o <;> simp [args]
theorem xZ (ps : List Rw) f (hl : ps.length <= 1000000) : GP.shifted.f [.lst (ps.map rwD), .int f] = some (.fresh ((ps.map (shR f)).map rwD)) := by
 unfold GP.shifted.f
 refine run_rt ?_
 unfold GP.shifted.g
 have cm : (compG (viaA (qB 0) asLT) [none, none, none, some 1] (tupG 3 (zP (zW 0) (zP (zW 1) (zP (zW 2) tgNil)))) (fun _ => some true) (mkT (zR (zB (qK 2 GP.farther.f (zB (zJ 0) (zB (zJ 3) zQ))) (zB (qK 2 GP.farther.f (zB (zJ 1) (zB (zJ 3) zQ))) (zB (qB 2) zQ)))))) [.v (.lst (ps.map rwD)), .v (.int f)] = some ((ps.map (shR f)).map rwD) := by
  refine yQ (items := ps.map rwD) (by simp) (by simp; lia) ?_
  rw [xQ rwD (fun r => rwD (shR f r)), List.map_map]
  · rfl
  · intro r _
    obtain ⟨a, b, c⟩ := r
    exact ⟨_, by simp [rwD, jD]; rfl, by simp [farther_eq]; rfl⟩
 have fl := jQ (ps.map (shR f))
 show retOG _ [.v (.lst (ps.map rwD)), .v (.int f)] = _
 rw [retOG_eq, cm, Option.bind_some, flatF_of _ fl]
theorem mirror_eq (ps : List Rw) (hl : ps.length <= 1000000) S : (compG (revA (qB 1)) [none, none, none] (tupG 3 (zP (zW 0) (zP (zW 1) (zP (zW 2) tgNil)))) (fun _ => some true) (mkT (zR (zB (qK 1 GP.mirrored.f (zB (zJ 1) zQ)) (zB (qK 1 GP.mirrored.f (zB (zJ 0) zQ)) (zB (qB 2) zQ)))))) [S, .v (.lst (ps.map rwD))] = some ((ps.reverse.map mirR).map rwD) := by
 refine yQ (items := ps.reverse.map rwD) (by simp [revA]) (by simp; lia) ?_
 rw [xQ rwD (fun r => rwD (mirR r)), List.map_map]
 · rfl
 · intro r _
   obtain ⟨a, b, c⟩ := r
   exact ⟨_, by simp [rwD, jD]; rfl, by simp [mirrored_eq]; rfl⟩
theorem least_eqO t b o (ht : 1 <= t /\ t <= 1000) (hb : 1 <= b /\ b <= 1000) : GP.Stretch_least_from.f [.ins 4 [.non, .int t, .int b], oi o] = some (.val (oi (o.map (leastF t b)))) := by
 cases o with
 | none => unfold GP.Stretch_least_from.f runG GP.Stretch_least_from.g; simp [args]
 | some p => simpa using vK t b p ht hb
theorem str_comp t b (ht : 1 <= t /\ t <= 1000) (hb : 1 <= b /\ b <= 1000) (ps : List Rw) (hl : ps.length <= 1000000) S :
  (compG (viaA (qB 1) asLT) [none, none, none, some 0] (tupG 3 (zP (zW 0) (zP (zW 1) (zP (zW 2) tgNil)))) (fun _ => some true) (mkT (zR (zB (methV 1 [4] GP.M_least_from_cfafed (qB 3) (zB (zJ 0) zQ)) (zB (methV 1 [4] GP.M_least_from_cfafed (qB 3) (zB (zJ 1) zQ)) (zB (qB 2) zQ)))))) [.v (.ins 4 [.non, .int t, .int b]), .v (.lst (ps.map rwD)), S] = some ((ps.map (strR t b)).map rwD) := by
 refine yQ (items := ps.map rwD) (by simp) (by simp; lia) ?_
 rw [xQ rwD (fun r => rwD (strR t b r)), List.map_map]
 · rfl
 · intro r _
   obtain ⟨x, y, c⟩ := r
   exact ⟨_, by simp [rwD, jD]; rfl, by simp [GP.M_least_from_cfafed, least_eqO t b _ ht hb]; rfl⟩
theorem str_filt (qs : List Rw) (hl : qs.length <= 1000000) A B :
  (compG (viaA (qB 2) asLT) [none] (zW 0) (orT (zU (zI isD (zI ixD (zJ 0) (zA (.int 0))) (zA .non))) (zU (zI neD (zI ixD (zJ 0) (zA (.int 0))) (zI ixD (zJ 0) (zA (.int 1)))))) (qB 0)) [A, B, .v (.lst (qs.map rwD))] = some ((qs.filter keepR).map rwD) := by
 refine yQ (items := qs.map rwD) (by simp) (by simp; lia) ?_
 refine compL_filt rwD keepR rwD qs fun r _ => ⟨_, rfl, ?_, fun _ => by simp [jD]⟩
 obtain ⟨x, y, c⟩ := r
 cases x <;> cases y <;> simp [rwD, jD, keepR, neD_ok]
theorem put_eq (m : MapF ps) (hl : ps.length <= 100000) (h : okS s) : GP.put.f [.lst (ps.map rwD), spD s, oi v] = some (.fresh ((put1 ps (s, v)).map rwD)) := by
 obtain ⟨e1, e2⟩ := put1_eq m hl (v := v) h
 have fl := jQ (put1 ps (s, v))
 unfold GP.put.f runG GP.put.g
 simp [args, e1, e2, fl]
theorem done_eq (h : okD d) (m : MapF ps) (hl : ps.length <= 50000) : methR 1 [0, 1, 2, 3, 4, 5] GP.M_done_4a08fd (insD d) [.lst (ps.map rwD)] = some (.fresh ((doneF d ps).map rwD)) := by
 have fl := jQ (doneF d ps)
 cases d with
 | put s v =>
   have e := put_eq m (by lia) (v := v) h
   simp [doneF] at *
   simp [insD, GP.M_done_4a08fd]
   unfold GP.Put_done.f runG GP.Put_done.g
   simp [args, List.lookup, e, fl]
 | widen a k =>
   have e1 := yX ps (none, some a) (by lia)
   have e2 := yX ps (some a, none) (by lia)
   have l1 := qY ps (none, some a)
   have l2 := qY ps (some a, none)
   have e3 := xZ (zN ps (some a, none)) k (by lia)
   have e4 := vF (splitF ps a a k) (by have := vA ps a a k; lia)
   simp only [doneF] at *
   rw [show (splitF ps a a k).map rwD = (zN ps (none, some a)).map rwD ++ ((zN ps (some a, none)).map (shR k)).map rwD by simp [splitF]] at e4
   have n1 : ((zN ps (none, some a)).map rwD).length + (((zN ps (some a, none)).map (shR k)).map rwD).length <= 16777216 := by simp [List.length_map]; lia
   simp [spD, oi_some, oi_none] at e1 e2
   generalize ((zN ps (some a, none)).map (shR k)).map rwD = C at *
   generalize (zN ps (none, some a)).map rwD = F at *
   simp [insD, GP.M_done_4a08fd]
   unfold GP.Widen_done.f runG GP.Widen_done.g
   simp [args, List.lookup, e1, e2, e3, e4, n1, fl]
 | narrow a k =>
   have e1 := yX ps (none, some a) (by lia)
   have e2 := yX ps (some (a + k), none) (by lia)
   have l1 := qY ps (none, some a)
   have l2 := qY ps (some (a + k), none)
   have e3 := xZ (zN ps (some (a + k), none)) (-k) (by lia)
   have e4 := vF (splitF ps a (a + k) (-k)) (by have := vA ps a (a + k) (-k); lia)
   simp only [doneF] at *
   rw [show (splitF ps a (a + k) (-k)).map rwD = (zN ps (none, some a)).map rwD ++ ((zN ps (some (a + k), none)).map (shR (-k))).map rwD by simp [splitF]] at e4
   have n1 : ((zN ps (none, some a)).map rwD).length + (((zN ps (some (a + k), none)).map (shR (-k))).map rwD).length <= 16777216 := by simp [List.length_map]; lia
   simp [spD, oi_some, oi_none] at e1 e2
   generalize ((zN ps (some (a + k), none)).map (shR (-k))).map rwD = C at *
   generalize (zN ps (none, some a)).map rwD = F at *
   simp [insD, GP.M_done_4a08fd]
   unfold GP.Narrow_done.f runG GP.Narrow_done.g
   simp [args, List.lookup, e1, e2, e3, e4, n1, fl]
 | move f =>
   have e := xZ ps f (by lia)
   simp [doneF] at *
   generalize (ps.map (shR f)).map rwD = B at *
   simp [insD, GP.M_done_4a08fd]
   unfold GP.Move_done.f runG GP.Move_done.g
   simp [args, List.lookup, e, fl]
 | stretch t b =>
   have e1 := fun S => str_comp t b h.1 h.2 ps (by lia) S
   have e2 := fun A B => str_filt (ps.map (strR t b)) (by simp; lia) A B
   have e4 := vF (stretchF t b ps) (by
    have : (stretchF t b ps).length <= (ps.map (strR t b)).length := List.length_filter_le _ _
    rw [List.length_map] at this; lia)
   simp [doneF] at *
   rw [show (ps.map (strR t b)).filter keepR = stretchF t b ps from rfl] at e2
   generalize (ps.map (strR t b)).map rwD = E at *
   simp [insD, GP.M_done_4a08fd]
   unfold GP.Stretch_done.f runG GP.Stretch_done.g
   simp [args, e1, e2, e4, fl]
 | mirror =>
   have e := fun S => mirror_eq ps (by lia) S
   simp [doneF] at *
   generalize (ps.reverse.map mirR).map rwD = B at *
   simp [insD, GP.M_done_4a08fd]
   unfold GP.Mirror_done.f runG GP.Mirror_done.g
   simp [args, e, fl]
end FL
namespace FL
open PySem PySem.Spec PyProof.Rows L2
open Builtin.Int (intBits)
structure DrawM (rows : List Rw) (s : Int) : Prop where
 map : MapF rows
 fin : ∀ r ∈ rows, ∃ lo bh, r.1 = some lo /\ r.2.1 = some bh /\ bh <= s
 last : ∀ r, rows.getLast? = some r -> r.2.1 = some s
theorem DrawM.nil (s : Int) : DrawM [] s := ⟨MapF.nil, (fun _ h => nomatch h), fun r h => by simp at h⟩
theorem DrawM.snoc {rows : List Rw} {s lo bh v : Int} (h : DrawM rows s) (h1 : s <= lo) (h2 : lo < bh) (h3 : ∀ r, rows.getLast? = some r -> lo = s -> r.2.2 ≠ some v) : DrawM (rows ++ [(some lo, some bh, some v)]) bh := by
 have d : Drawn rows s := ⟨h.map.ord, h.fin⟩
 have d2 := d.snoc (v := some v) h1 h2
 refine ⟨⟨d2.ord, fun r hr => ?_, fun i a b e1 e2 => ?_⟩, d2.fin, fun r hr => ?_⟩
 · rcases List.mem_append.mp hr with hr | hr
   · exact h.map.val r hr
   · have : r = (some lo, some bh, some v) := by simpa using hr
     subst this
     simp
 · by_cases hi : i + 1 < rows.length
   · rw [List.getElem?_append_left (by omega)] at e1
     rw [List.getElem?_append_left hi] at e2
     exact h.map.adj i a b e1 e2
   · have l2 := (List.getElem?_eq_some_iff.mp e2).1
     simp only [List.length_append, List.length_cons, List.length_nil] at l2
     have hi2 : i + 1 = rows.length := by omega
     rw [List.getElem?_append_left (by omega)] at e1
     rw [List.getElem?_append_right (by omega), hi2] at e2
     simp at e2
     subst e2
     have hl : rows.getLast? = some a := by
      rw [List.getLast?_eq_getElem?, <- e1]
      congr 1
      omega
     have := h.last a hl
     rintro ⟨q1, q2⟩
     rw [this] at q1
     simp at q1
     exact h3 a hl q1.symm q2
 · simp at hr
   subst hr
   rfl
theorem last_rw {rows : List Rw} {r : Rw} (h : rows.getLast? = some r) : ixD (.lst (rows.map rwD)) (.int (-1)) = some (rwD r) := by
 obtain ⟨l, rfl⟩ : ∃ l, rows = l ++ [r] := by
  have hne : rows ≠ [] := by intro z; subst z; simp at h
  refine ⟨rows.dropLast, ?_⟩
  rw [List.getLast?_eq_some_getLast hne] at h
  cases h
  exact (List.dropLast_concat_getLast hne).symm
 rw [List.map_append, List.map_cons, List.map_nil]
 exact wM _ _
theorem map_first {r : Rw} {t : List Rw} (m : MapF (r :: t)) : MapF ((none, r.2) :: t) := by
 refine ⟨ord_first m.ord, fun z hz => ?_, fun i a b e1 e2 => ?_⟩
 · rcases List.mem_cons.mp hz with rfl | hz
   · exact m.val r List.mem_cons_self
   · exact m.val z (List.mem_cons_of_mem _ hz)
 · cases i with
   | zero =>
     simp at e1
     subst e1
     exact m.adj 0 r b rfl (by simpa using e2)
   | succ i => exact m.adj (i + 1) a b (by simpa using e1) (by simpa using e2)
theorem map_last {r : Rw} {t : List Rw} (m : MapF (t ++ [r])) : MapF (t ++ [(r.1, none, r.2.2)]) := by
 refine ⟨ord_last m.ord, fun z hz => ?_, fun i a b e1 e2 => ?_⟩
 · rcases List.mem_append.mp hz with hz | hz
   · exact m.val z (List.mem_append_left _ hz)
   · have : z = (r.1, none, r.2.2) := by simpa using hz
     subst this
     exact m.val r (by simp)
 · have l2 := (List.getElem?_eq_some_iff.mp e2).1
   simp only [List.length_append, List.length_cons, List.length_nil] at l2
   rw [List.getElem?_append_left (by omega)] at e1
   by_cases hi : i + 1 < t.length
   · rw [List.getElem?_append_left hi] at e2
     exact m.adj i a b (by rw [List.getElem?_append_left (by omega)]; exact e1) (by rw [List.getElem?_append_left hi]; exact e2)
   · have hi2 : i + 1 = t.length := by omega
     rw [List.getElem?_append_right (by omega), hi2] at e2
     simp at e2
     subst e2
     exact m.adj i a r (by rw [List.getElem?_append_left (by omega)]; exact e1) (by rw [List.getElem?_append_right (by omega), hi2]; simp)
theorem loop_range (P : Nat -> List Sl -> Prop) N (H : ∀ k, k < N -> ∀ ds, P k ds -> ∃ ds1 ds2, ga (.int (k : Int)) ds = some ds1 /\ body ds1 = some (.nx ds2) /\ P (k + 1) ds2) :
  ∀ n k ds, k + n = N -> P k ds -> ∃ ds', jM ga body ((List.range' k n).map fun (j : Nat) => D.int (0 + (j : Int))) ds = some (.nx ds') /\ P N ds'
 | 0, k, ds, h, hp => ⟨ds, rfl, by have : k = N := by omega
                                   subst this; exact hp⟩
 | n + 1, k, ds, h, hp => by
   obtain ⟨ds1, ds2, e1, e2, h2⟩ := H k (by omega) ds hp
   obtain ⟨ds', e, h'⟩ := loop_range P N H n (k + 1) ds2 (by omega) h2
   refine ⟨ds', ?_, h'⟩
   rw [List.range'_succ, List.map_cons, jM]
   have : (0 + (k : Int)) = (k : Int) := by omega
   rw [this, e1, Option.bind_some, e2, Option.bind_some]
   exact e
theorem rangeD_range' n : rangeD 0 n = (List.range' 0 n).map fun (j : Nat) => D.int (0 + (j : Int)) := by rw [rangeD, List.range_eq_range']
@[simp] theorem notD_rw r : notD (rwD r) .non = some (.bl true) := rfl
end FL
namespace FL
open PySem PySem.Spec PyProof.Rows L2
theorem if_yes {t : FT} {f g : FS} {ds : List Sl} (h : t ds = some true) : ifG t f g ds = f ds := by simp [h]
theorem if_not {t : FT} {f g : FS} {ds : List Sl} (h : t ds = some false) : ifG t f g ds = g ds := by simp [h]
end FL
namespace FL
open PySem PyProof.Rows L2 NumText
end FL
namespace FL
open PySem PySem.Spec PyProof.Rows L2
def Ltr (cs : List Nat) : Prop := ∀ c ∈ cs, 97 <= c /\ c <= 122
def Nm (cs : List Nat) : Prop := 1 <= cs.length /\ cs.length <= 8 /\ Ltr cs
theorem Ltr.take (h : Ltr a) n : Ltr (a.take n) := fun c hc => h c (List.mem_of_mem_take hc)
theorem Ltr.drop (h : Ltr a) n : Ltr (a.drop n) := fun c hc => h c (List.mem_of_mem_drop hc)
end FL
section
open PySem PyProof.Rows L2 FL
end
namespace FL
open PySem PySem.Spec PyProof.Rows L2
open Builtin.Int (intBits)
theorem pow1033 : powD (.int (10 ^ 33)) (.int 6) = some (.int ((10 ^ 33) ^ 6)) := powD_ok (cpow_of (n := 110) (m := 6) (by decide) (by decide) (by decide) (by decide))
theorem map3_turn (C : Sl) (rows : List Rw) (s c : Int) (hc : intBits c <= 1048576) (hz : rows.length < 16777216) (d : DrawM rows s) (x4 x5 x6 x7 : Sl) : ∃ (lo bh v : Int) (y4 y6 : Sl), DrawM (rows ++ [(some lo, some bh, some v)]) bh ∧
  GL.map3.b1 [C, .own (rows.map rwD), .v (.int s), .v (.int c), x4, x5, x6, x7] = some (.nx [C, .own ((rows ++ [(some lo, some bh, some v)]).map rwD), .v (.int bh), .v (.int c), y4, .v (.int lo), y6, .v (.int v)]) := by
 have p1 : powD (.int 10) (.int 60) = some (.int (10 ^ 60)) := pow10 (by decide) (by decide)
 have p2 : powD (.int 10) (.int 59) = some (.int (10 ^ 59)) := pow10 (by decide) (by decide)
 have p3 : powD (.int 10) (.int 33) = some (.int (10 ^ 33)) := pow10 (by decide) (by decide)
 have p4 := pow1033
 have b24 : intBits (c / 120) <= 1048576 := bits_ediv (by decide) hc
 have m1 : xF (.int (c / 120)) (.int 48271) = some (.int (c / 120 * 48271)) := xE (mulOk_of_bits b24 (yM (m := 200) (by decide)) (by decide))
 have m2 : xF (.int (c / 120)) (.int 69621) = some (.int (c / 120 * 69621)) := xE (mulOk_of_bits b24 (yM (m := 200) (by decide)) (by decide))
 have m3 : xF (.int 9) (.int ((10 ^ 33) ^ 6)) = some (.int (9 * (10 ^ 33) ^ 6)) := xE (.of_left (yM (by decide)))
 have r1 : ∀ x, qX (.int x) (.int (10 ^ 60)) = some (.int (x % 10 ^ 60)) := fun x => yN x (by decide)
 have r2 : ∀ x, qX (.int x) (.int (10 ^ 60 + 7)) = some (.int (x % (10 ^ 60 + 7))) := fun x => yN x (by decide)
 have r3 : ∀ x, qX (.int x) (.int (10 ^ 60 + 9)) = some (.int (x % (10 ^ 60 + 9))) := fun x => yN x (by decide)
 have z2 : ∀ x y z w : D, ixD (.lst [x, y, z, w]) (.int 2) = some z := fun x y z w => by rw [qQ _ (by decide) (by simp)]; rfl
 have z3 : ∀ x y z w : D, ixD (.lst [x, y, z, w]) (.int 3) = some w := fun x y z w => by rw [qQ _ (by decide) (by simp)]; rfl
 have n60 : ∀ x : Int, 0 <= x % 10 ^ 60 := fun x => Int.emod_nonneg x (by decide)
 have n69 : ∀ x : Int, 0 <= x % (10 ^ 60 + 9) := fun x => Int.emod_nonneg x (by decide)
 generalize hfar : (9 : Int) * (10 ^ 33) ^ 6 = far at *
 generalize hq : c / 120 = q at *
 obtain ⟨g, hg, eg⟩ : ∃ g : Int, 0 <= g /\ ixD (.lst [.int 0, .int 0, .int (1 + q % 9), .int (q % 10 ^ 60)]) (.int (c % 4)) = some (.int g) := by
  rcases (by omega : c % 4 = 0 \/ c % 4 = 1 \/ c % 4 = 2 \/ c % 4 = 3) with h | h | h | h
  · exact ⟨0, by omega, by simp [h]⟩
  · exact ⟨0, by omega, by simp [h]⟩
  · exact ⟨1 + q % 9, by omega, by rw [h, z2]⟩
  · exact ⟨q % 10 ^ 60, n60 q, by rw [h, z3]⟩
 obtain ⟨lo0, el⟩ : ∃ g : Int, ixD (.lst [.int (q % 41 - 20), .int (q % 10 ^ 60), .int (far + q % 10 ^ 60), .int (1 - far)]) (.int (c % 4)) = some (.int g) := by
  rcases (by omega : c % 4 = 0 \/ c % 4 = 1 \/ c % 4 = 2 \/ c % 4 = 3) with h | h | h | h
  · exact ⟨_, by rw [h, qQ _ (by decide) (by simp)]; rfl⟩
  · exact ⟨_, by rw [h, qQ _ (by decide) (by simp)]; rfl⟩
  · exact ⟨_, by rw [h, z2]⟩
  · exact ⟨_, by rw [h, z3]⟩
 obtain ⟨w, hw, ew⟩ : ∃ w : Int, 1 <= w /\ ixD (.lst [.int 1, .int (1 + q / 9 % 9), .int (1 + q * 69621 % (10 ^ 60 + 9))]) (.int (c / 20 % 3)) = some (.int w) := by
  rcases (by omega : c / 20 % 3 = 0 \/ c / 20 % 3 = 1 \/ c / 20 % 3 = 2) with h | h | h
  · exact ⟨1, by omega, by simp [h]⟩
  · exact ⟨1 + q / 9 % 9, by omega, by simp [h]⟩
  · exact ⟨1 + q * 69621 % (10 ^ 60 + 9), by have := n69 (q * 69621); omega, by rw [h, ix3_2]⟩
 obtain ⟨v, ev⟩ : ∃ v : Int, ixD (.lst [.int 0, .int 1, .int (q % 19 - 9), .int (q * 48271 % (10 ^ 60 + 7) - 10 ^ 59), .int 1]) (.int (c / 4 % 5)) = some (.int v) := by
  rcases (by omega : c / 4 % 5 = 0 \/ c / 4 % 5 = 1 \/ c / 4 % 5 = 2 \/ c / 4 % 5 = 3 \/ c / 4 % 5 = 4) with h | h | h | h | h
  · exact ⟨0, by rw [h, qQ _ (by decide) (by simp)]; rfl⟩
  · exact ⟨1, by rw [h, qQ _ (by decide) (by simp)]; rfl⟩
  · exact ⟨_, by rw [h, qQ _ (by decide) (by simp)]; rfl⟩
  · exact ⟨_, by rw [h, qQ _ (by decide) (by simp)]; rfl⟩
  · exact ⟨1, by rw [h, qQ _ (by decide) (by simp)]; rfl⟩
 unfold GL.map3.b1
 cases hr : rows.getLast? with
 | none =>
   have hz : rows = [] := List.getLast?_eq_none_iff.mp hr
   subst hz
   have ne0 : neD (.lst []) (.lst []) = some (.bl false) := yL []
   have eq0 : eqD (.lst []) (.lst []) = some (.bl true) := eqD_rw_nil []
   refine ⟨lo0, lo0 + w, v, .v (.int q), .v (.int far), (DrawM.nil lo0).snoc (by omega) (by omega) (fun r h => by simp at h), ?_⟩
   simp [-Int.reducePow, -Nat.reducePow, p1, p2, p3, p4, m1, m2, m3, r1, r2, r3, hq, hfar, eg, el, ew, ev, ne0, eq0, rwD]
 | some r =>
   have hne : rows.isEmpty = false := by
    cases rows with
    | nil => simp at hr
    | cons _ _ => rfl
   have ne0 := yL rows
   have eq0 := eqD_rw_nil rows
   rw [hne] at ne0 eq0
   have lr := last_rw hr
   obtain ⟨u, hu⟩ : ∃ u, r.2.2 = some u := by
    cases hv : r.2.2 with
    | none => exact (d.map.val r (List.mem_of_getLast? hr) hv).elim
    | some u => exact ⟨u, rfl⟩
   obtain ⟨ra, rb, rc⟩ := r
   simp only at hu
   subst hu
   have app : ∀ x : Int, rows.map rwD ++ [D.tup [.int (s + g), .int (s + g + w), .int x]] = (rows ++ [(some (s + g), some (s + g + w), some x)]).map rwD := fun x => by simp [rwD]
   by_cases hcnd : s + g = s /\ v = u
   · have hg0 : g = 0 := by omega
     refine ⟨s + g, s + g + w, v + 1, .v (.int q), x6, d.snoc (by omega) (by omega) (fun q h _ => by rw [hr] at h; cases h; simp; omega), ?_⟩
     rw [<- app]
     generalize hG : rows.map rwD = R at *
     have hl : R.length < 16777216 := by rw [<- hG]; simpa using hz
     simp [-Int.reducePow, -Nat.reducePow, p1, p2, p3, p4, m1, m2, m3, r1, r2, r3, hq, eg, ew, ev, ne0, eq0, lr, hcnd.1, hcnd.2, hl]
   · refine ⟨s + g, s + g + w, v, .v (.int q), x6, d.snoc (by omega) (by omega) (fun q h h2 => by rw [hr] at h; cases h; simp; intro z; exact hcnd ⟨by omega, z.symm⟩), ?_⟩
     rw [<- app]
     generalize hG : rows.map rwD = R at *
     have hl : R.length < 16777216 := by rw [<- hG]; simpa using hz
     by_cases h1 : g = 0
     · have h2 : ¬ v = u := fun z => hcnd ⟨by omega, z⟩
       simp [-Int.reducePow, -Nat.reducePow, p1, p2, p3, p4, m1, m2, m3, r1, r2, r3, hq, eg, ew, ev, ne0, eq0, lr, h1, h2, hl]
     · have h3 : ¬ s + g = s := by omega
       simp [-Int.reducePow, -Nat.reducePow, p1, p2, p3, p4, m1, m2, m3, r1, r2, r3, hq, eg, ew, ev, ne0, eq0, lr, h1, h3, hl]
theorem map3_loop (C : Sl) : ∀ (cs : List Int) (rows : List Rw) (s : Int) (x3 x4 x5 x6 x7 : Sl), (∀ c ∈ cs, intBits c <= 1048576) -> rows.length + cs.length < 16777216 -> DrawM rows s -> ∃ (rows' : List Rw) (s' : Int) (y3 y4 y5 y6 y7 : Sl), DrawM rows' s' /\ rows'.length = rows.length + cs.length ∧
  jM (zW 3) GL.map3.b1 (cs.map D.int) [C, .own (rows.map rwD), .v (.int s), x3, x4, x5, x6, x7] = some (.nx [C, .own (rows'.map rwD), .v (.int s'), y3, y4, y5, y6, y7])
 | [], rows, s, x3, x4, x5, x6, x7, _, _, d => ⟨rows, s, x3, x4, x5, x6, x7, d, rfl, rfl⟩
 | c :: cs, rows, s, x3, x4, x5, x6, x7, hb, hz, d => by
   simp only [List.length_cons] at hz
   obtain ⟨lo, bh, v, y4, y6, d', turn⟩ := map3_turn C rows s c (hb c List.mem_cons_self) (by omega) d x4 x5 x6 x7
   obtain ⟨rows', s', y3, y4', y5, y6', y7, d2, l2, e⟩ := map3_loop C cs (rows ++ [(some lo, some bh, some v)]) bh (.v (.int c)) y4 (.v (.int lo)) y6 (.v (.int v)) (fun x hx => hb x (List.mem_cons_of_mem _ hx)) (by simp; omega) d'
   refine ⟨rows', s', y3, y4', y5, y6', y7, d2, by simp at l2; simp only [List.length_cons]; omega, ?_⟩
   simp only [List.map_cons, jM, zW, Option.bind_some, List.set_cons_succ, List.set_cons_zero, turn]
   exact e
theorem map3_ex (cs : List Int) (hb : ∀ c ∈ cs, intBits c <= 1048576) (hl : cs.length <= 1000) : ∃ rows : List Rw, MapF rows /\ rows.length = cs.length /\ GL.map3.f [.lst (cs.map D.int)] = some (.fresh (rows.map rwD)) := by
 obtain ⟨rows, s', y3, y4, y5, y6, y7, d, l, e⟩ := map3_loop (.v (.lst (cs.map D.int))) cs [] 0 .no .no .no .no .no hb (by simp; omega) (DrawM.nil 0)
 have l : rows.length = cs.length := by simpa using l
 unfold GL.map3.f runG GL.map3.g
 rw [jI (ds' := [.v (.lst (cs.map D.int)), .own [], .no, .no, .no, .no, .no, .no]) (by simp [args]), jI (ds' := [.v (.lst (cs.map D.int)), .own [], .v (.int 0), .no, .no, .no, .no, .no]) (by simp),
  jI (ds' := [.v (.lst (cs.map D.int)), .own (rows.map rwD), .v (.int s'), y3, y4, y5, y6, y7]) (by simp only [List.map_nil] at e; simp [e])]
 cases cs with
 | nil =>
   have hz : rows = [] := by cases rows with | nil => rfl | cons _ _ => simp at l
   subst hz
   have ne0 : neD (.lst []) (.lst []) = some (.bl false) := yL []
   exact ⟨[], d.map, rfl, by simp [ne0, flatF, flats]⟩
 | cons c0 cr =>
   generalize hcs : c0 :: cr = cs at *
   have i0 : ∃ a, ixD (.lst (cs.map D.int)) (.int 0) = some (.int a) := ⟨c0, by rw [<- hcs]; simp⟩
   have i1 : ∃ a, ixD (.lst (cs.map D.int)) (.int (-1)) = some (.int a) := by
    obtain ⟨l', a, e'⟩ : ∃ l' a, cs = l' ++ [a] := ⟨cs.dropLast, cs.getLast (by rw [<- hcs]; simp), (List.dropLast_concat_getLast _).symm⟩
    refine ⟨a, ?_⟩
    rw [e', List.map_append, List.map_cons, List.map_nil]
    exact wM _ _
   obtain ⟨a0, e0⟩ := i0
   obtain ⟨a1, e1⟩ := i1
   obtain ⟨rows1, o1, l1, c1', e1'⟩ := open_lo 1 (zU (zI eqD (zI qX (zI qP (zI ixD (zJ 0) (zA (.int 0))) (zA (.int 60))) (zA (.int 8))) (zA (.int 1)))) [.v (.lst (cs.map D.int)), .own (rows.map rwD), .v (.int s'), y3, y4, y5, y6, y7] rows (decide (a0 / 60 % 8 = 1)) d.map.ord rfl (by simp [e0])
   have m1' : MapF rows1 := by
    rcases c1' with rfl | ⟨r, t, rfl, rfl⟩
    · exact d.map
    · exact map_first d.map
   obtain ⟨rows2, o2, l2, c2', e2'⟩ := open_hi 1 (zU (zI eqD (zI qX (zI qP (zI ixD (zJ 0) (un1 negD (zA (.int 1)))) (zA (.int 60))) (zA (.int 8))) (zA (.int 6)))) [.v (.lst (cs.map D.int)), .own (rows1.map rwD), .v (.int s'), y3, y4, y5, y6, y7] rows1 (decide (a1 / 60 % 8 = 6)) o1 rfl (by simp [e1])
   have m2' : MapF rows2 := by
    rcases c2' with rfl | ⟨r, t, rfl, rfl⟩
    · exact m1'
    · exact map_last m1'
   refine ⟨rows2, m2', by omega, ?_⟩
   simp only [List.set_cons_succ, List.set_cons_zero] at e1' e2'
   rw [jI e1', jI e2']
   have fl := jQ rows2
   simp [fl]
end FL
namespace FL
open PySem PySem.Spec PyProof.Rows L2
noncomputable def lnT (P M : D) (es ls : List OT) : OT := .ins 11 [.val P, .val M, .lst es, .lst ls]
theorem seq_nx' (h : f ds = some (.nx ds')) : qG f g ds = g ds' := by simp [qG, h]
theorem step_eq (h : es.length < sizeLine) : GP.Line_step.f (lnT P M es ls) [P', M'] = some (lnT P' M' (es ++ [.val (.tup [P, M])]) []) := by
 have h' : es.length < 16777216 := h
 have hz : (2 : Nat) <= sizeLine := by decide
 have hz0 : (0 : Nat) <= sizeLine := Nat.zero_le _
 simp [GP.Line_step.f, lentF, argsL, args, GP.Line_step.g, lnT, qG, appP, atP, varP, valP, mkT, zR, zB, zQ, List.lookup, h, hz, putP, putO, setAt, sO, nilO, vO, qB, ob0, List.modify, hz0, h']
noncomputable def putDs (k : Key) (d : D) : List Key -> List D -> List D
 | k' :: ks, x :: xs => (if k' = k then d else x) :: putDs k d ks xs
 | _, xs => xs
noncomputable def putKD (k : Key) (d : D) (ks : List Key) (l : List D) : List Key × List D := if hasK k ks = true then (ks, putDs k d ks l) else (ks ++ [k], l ++ [d])
theorem putTs_val k d : ∀ ks l, putTs k (.val d) ks (l.map OT.val) = (putDs k d ks l).map OT.val
 | [], l => by cases l <;> simp [putTs, putDs]
 | _ :: _, [] => by simp [putTs, putDs]
 | k' :: ks, x :: l => by
   simp only [List.map_cons, putTs, putDs, putTs_val k d ks l]
   split <;> rfl
theorem putKT_val k d ks l : putKT k (.val d) ks (l.map OT.val) = .dct (putKD k d ks l).1 ((putKD k d ks l).2.map OT.val) := by
 unfold putKT putKD
 split
 · rw [putTs_val]
 · simp
theorem valsO_map : ∀ l, valsO (l.map OT.val) = some l
 | [] => rfl
 | d :: l => by simp [valsO, valsO_map l]
abbrev cs6 : List Nat := [0, 1, 2, 3, 4, 5]
noncomputable def do_t : D -> List Sl -> Option (List Sl) := tupG 2 (zP (zW 3) (zP (zW 4) tgNil))
def Goes (dd pl q : D) : Prop := (pl = .non /\ q = .non) \/ ∃ i, pl = .int i /\ (methR 1 cs6 GP.M_went_e39dd5 dd [pl]).bind retV = some q
theorem do_turn (hg : Goes dd pl q) (hk : ks.length < 16777216) :
  (do_t (.tup [keyDD (.inr nm), pl]) [a0, .v dd, .ob none (.dct ks (l.map OT.val)), y3, y4]).bind GP.Line_do.b1 = some (.nx [a0, .v dd, .ob none (.dct (putKD (.inr nm) q ks l).1 ((putKD (.inr nm) q ks l).2.map OT.val)), .v (.str nm), .v pl]) := by
 have pk := putKT_val (.inr nm) q ks l
 generalize putKD (.inr nm) q ks l = p at *
 rcases hg with ⟨rfl, rfl⟩ | ⟨i, rfl, h⟩
 · simp [do_t, GP.Line_do.b1, tupG, zP, tgNil, zW, keyDD, dputG, ifV, zU, isB, zI, isD, zJ, zA, varP, qB, keyD, hk, pk, putP, putO]
 · simp [do_t, GP.Line_do.b1, tupG, zP, tgNil, zW, keyDD, dputG, ifV, zU, isB, zI, isD, zJ, zA, varP, qB, keyD, hk, pk, putP, putO, methV, zB, zQ, h]
theorem hasK_no : ∀ {ks : List Key}, k ∉ ks -> hasK k ks = false
 | [], _ => rfl
 | k' :: ks, h => by
   have h1 : k' ≠ k := fun z => h (by rw [z]; exact .head _)
   have := hasK_no (k := k) (ks := ks) fun z => h (.tail _ z)
   unfold hasK at this ⊢
   simp [h1, this]
theorem do_loop : ∀ (nms : List Str) (pls qs : List D) ks l y3 y4, pls.length = nms.length -> qs.length = nms.length -> (∀ (j : Nat) pl q, pls[j]? = some pl -> qs[j]? = some q -> Goes dd pl q) →
  (ks ++ nms.map Sum.inr).Nodup -> ks.length + nms.length <= 16777216 -> ∃ z3 z4, jM do_t GP.Line_do.b1 (itemsD (nms.map Sum.inr) pls) [a0, .v dd, .ob none (.dct ks (l.map OT.val)), y3, y4] = some (.nx [a0, .v dd, .ob none (.dct (ks ++ nms.map Sum.inr) ((l ++ qs).map OT.val)), z3, z4])
 | [], [], [], ks, l, y3, y4, _, _, _, _, _ => ⟨y3, y4, by simp [itemsD, jM]⟩
 | nm :: nms, pl :: pls, q :: qs, ks, l, y3, y4, h1, h2, hg, nd, hz => by
   have hz' : ks.length + (nms.length + 1) <= 16777216 := hz
   have tr := do_turn (y3 := y3) (y4 := y4) (a0 := a0) (nm := nm) (l := l) (hg 0 pl q rfl rfl) (ks := ks) (by omega)
   have nk : (Sum.inr nm : Key) ∉ ks := fun z => by
    rw [List.nodup_append] at nd
    exact nd.2.2 _ z (Sum.inr nm) (by simp) rfl
   have ep : putKD (.inr nm) q ks l = (ks ++ [.inr nm], l ++ [q]) := by unfold putKD; rw [hasK_no nk]; rfl
   rw [ep] at tr
   obtain ⟨z3, z4, ih⟩ := do_loop (a0 := a0) nms pls qs (ks ++ [.inr nm]) (l ++ [q]) (.v (.str nm)) (.v pl) (by simpa using h1) (by simpa using h2) (fun j p' q' e1 e2 => hg (j + 1) p' q' (by simpa using e1) (by simpa using e2)) (by simpa [List.append_assoc] using nd) (by simp; omega)
   refine ⟨z3, z4, ?_⟩
   have e0 : itemsD ((nm :: nms).map Sum.inr) (pl :: pls) = .tup [keyDD (.inr nm), pl] :: itemsD (nms.map Sum.inr) pls := by simp [itemsD]
   rw [e0, jM]
   cases ht : do_t (.tup [keyDD (.inr nm), pl]) [a0, .v dd, .ob none (.dct ks (l.map OT.val)), y3, y4] with
   | none => rw [ht] at tr; cases tr
   | some ds1 =>
     rw [ht] at tr
     simp only [Option.bind_some] at tr ⊢
     rw [tr]
     simp only [Option.bind_some]
     rw [ih]
     simp [List.append_assoc]
 | [], _ :: _, _, _, _, _, _, h, _, _, _, _ => by simp at h
 | [], [], _ :: _, _, _, _, _, _, h, _, _, _ => by simp at h
 | _ :: _, [], _, _, _, _, _, h, _, _, _, _ => by simp at h
 | _ :: _, _ :: _, [], _, _, _, _, _, h, _, _, _ => by simp at h
theorem do_eq {nms : List Str} (hd : (methR 1 cs6 GP.M_done_4a08fd dd [P]).bind retV = some P') (h1 : pls.length = nms.length) (h2 : qs.length = nms.length) (hg : ∀ (j : Nat) pl q, pls[j]? = some pl -> qs[j]? = some q -> Goes dd pl q)
  (nd : (nms.map (Sum.inr : Str -> Key)).Nodup) (hz : nms.length <= 16777216) (h : es.length < sizeLine) :
  GP.Line_do.f (lnT P (.dcf (nms.map Sum.inr) pls) es ls) [dd] = some (lnT P' (.dcf (nms.map Sum.inr) qs) (es ++ [.val (.tup [P, .dcf (nms.map Sum.inr) pls])]) []) := by
 have st := step_eq (P := P) (M := .dcf (nms.map Sum.inr) pls) (P' := P') (M' := .dcf (nms.map Sum.inr) qs) (ls := ls) h
 obtain ⟨z3, z4, lp⟩ := do_loop (a0 := .ob (some 0) (lnT P (.dcf (nms.map Sum.inr) pls) es ls)) nms pls qs [] [] .no .no h1 h2 hg (by simpa using nd) (by simpa using hz)
 have vv := valsO_map qs
 have e0 : ∀ T l, GP.Line_do.f T l = match GP.Line_do.g (argsL 5 T l) with | some (.nx ds) => ob0 ds[0]? | _ => none := fun _ _ => rfl
 rw [e0]
 have eg : GP.Line_do.g = qG (setB 2 dO0) (qG (forG (itemsA (valP (atP [(11, 1)] (varP 0)))) do_t GP.Line_do.b1) (frzDG 2 (lentG 2 [11] (fun _ => GP.Line_step.f) (varP 0) (zB (methV 1 cs6 GP.M_done_4a08fd (qB 1) (zB (valP (atP [(11, 0)] (varP 0))) zQ)) (zB (qB 2) zQ))))) := rfl
 rw [eg]
 have s1 : setB 2 dO0 (argsL 5 (lnT P (.dcf (nms.map Sum.inr) pls) es ls) [dd]) = some (.nx [.ob (some 0) (lnT P (.dcf (nms.map Sum.inr) pls) es ls), .v dd, .ob none (.dct [] []), .no, .no]) := by simp [setB, dO0, argsL, args]
 rw [seq_nx' s1]
 have s2 : forG (itemsA (valP (atP [(11, 1)] (varP 0)))) do_t GP.Line_do.b1 [.ob (some 0) (lnT P (.dcf (nms.map Sum.inr) pls) es ls), .v dd, .ob none (.dct [] []), .no, .no] = some (.nx [.ob (some 0) (lnT P (.dcf (nms.map Sum.inr) pls) es ls), .v dd, .ob none (.dct (nms.map Sum.inr) (qs.map OT.val)), z3, z4]) := by
  unfold forG
  have : itemsA (valP (atP [(11, 1)] (varP 0))) [.ob (some 0) (lnT P (.dcf (nms.map Sum.inr) pls) es ls), .v dd, .ob none (.dct [] []), .no, .no] = some (itemsD (nms.map Sum.inr) pls) := by simp [itemsA, valP, atP, varP, lnT, List.lookup]
  rw [this]
  simpa using lp
 rw [seq_nx' s2]
 simp [lnT] at st ⊢
 simp [frzDG, vv, lentG, varP, zB, mkL, methV, qB, valP, atP, List.lookup, zQ, hd, st, putP, putO, ob0]
end FL
namespace FL
open PySem PySem.Spec PyProof.Rows L2
open Builtin.Int (intBits)
theorem parts_two2 {ps : List Rw} (o : Ord ps) {a b : Int} (h : a <= b) : (zN ps (none, some a)).length + (zN ps (some b, none)).length <= ps.length + 1 := by
 induction ps with
 | nil => simp [zN]
 | cons r t ih =>
   have pw := List.pairwise_cons.mp o.pw
   have ot : Ord t := ⟨fun z hz => o.ok z (List.mem_cons_of_mem _ hz), pw.2⟩
   have ih := ih ot
   cases h1 : part1 (none, some a) r with
   | none =>
     have e1 : zN (r :: t) (none, some a) = zN t (none, some a) := by simp [zN, h1]
     rw [e1]
     have : (zN (r :: t) (some b, none)).length <= (zN t (some b, none)).length + 1 := by
      unfold zN
      rw [List.filterMap_cons]
      split <;> simp
     simp only [List.length_cons]
     omega
   | some r1 =>
     have e1 : zN (r :: t) (none, some a) = r1 :: zN t (none, some a) := by simp [zN, h1]
     rw [e1]
     cases h2 : part1 (some b, none) r with
     | none =>
       have e2 : zN (r :: t) (some b, none) = zN t (some b, none) := by simp [zN, h2]
       rw [e2]
       simp only [List.length_cons]
       omega
     | some r2 =>
       have e2 : zN (r :: t) (some b, none) = r2 :: zN t (some b, none) := by simp [zN, h2]
       have e3 : zN t (none, some a) = [] := by
        unfold zN
        rw [List.filterMap_eq_nil_iff]
        intro z hz
        cases hz' : part1 (none, some a) z with
        | none => rfl
        | some z' =>
          exfalso
          obtain ⟨x, y, hx, hy, hxy⟩ := pw.1 z hz
          have k2 := qU h2
          have kz := qU hz'
          obtain ⟨x2, ex2, hx2⟩ := k2.2.2.2.1 x hx
          obtain ⟨y2, ey2, hy2⟩ := k2.2.2.2.2.2.2 b rfl
          have := k2.1 y2 x2 ey2 ex2
          obtain ⟨y3, ey3, hy3⟩ := kz.2.2.2.2.1 y hy
          obtain ⟨x3, ex3, hx3⟩ := kz.2.2.2.2.2.1 a rfl
          have := kz.1 y3 x3 ey3 ex3
          omega
       rw [e2, e3]
       have := qY t (some b, none)
       simp only [List.length_cons, List.length_nil]
       omega
theorem done_len2 {d : Dd} (h : okD d) {ps : List Rw} (m : MapF ps) : (doneF d ps).length <= ps.length + 2 := by
 cases d with
 | put s v => exact put1_len m (r := (s, v)) h
 | widen a k =>
   have h1 := parts_two2 m.ord (Int.le_refl a)
   refine Nat.le_trans (xI _) ?_
   simp only [splitF, List.length_append, List.length_map]
   omega
 | narrow a k =>
   have h1 := parts_two2 m.ord (show a <= a + k by have : (0 : Int) <= k := h; omega)
   refine Nat.le_trans (xI _) ?_
   simp only [splitF, List.length_append, List.length_map]
   omega
 | move f => simp only [doneF, List.length_map]; omega
 | stretch t b =>
   refine Nat.le_trans (xI _) (Nat.le_trans (List.length_filter_le _ _) ?_)
   rw [List.length_map]; omega
 | mirror => simp only [doneF, List.length_map, List.length_reverse]; omega
end FL
namespace FL
open PySem PySem.Spec PyProof.Rows L2
abbrev Mks := List (List Nat × Option Int)
noncomputable def mkN (mk : Mks) : List Str := mk.map fun p => txS p.1
noncomputable def mkV (mk : Mks) : List D := mk.map fun p => oi p.2
noncomputable def mkD (mk : Mks) : D := .dcf ((mkN mk).map Sum.inr) (mkV mk)
noncomputable def lnM (ps : List Rw) (mk : Mks) (es ls : List OT) : OT := lnT (.lst (ps.map rwD)) (mkD mk) es ls
noncomputable def stM (ps : List Rw) (mk : Mks) : OT := .val (.tup [.lst (ps.map rwD), mkD mk])
noncomputable def putM (n : List Nat) (v : Option Int) (mk : Mks) : Mks := if n ∈ mk.map (·.1) then mk.map fun p => if p.1 = n then (p.1, v) else p else mk ++ [(n, v)]
noncomputable def goM (d : Dd) (mk : Mks) : Mks := mk.map fun p => (p.1, p.2.bind (wentF d))
structure MkOk (mk : Mks) : Prop where
 nd : (mk.map (·.1)).Nodup
 nm : ∀ p ∈ mk, Nm p.1
theorem MkOk.nil : MkOk [] := ⟨List.nodup_nil, fun _ h => nomatch h⟩
theorem MkOk.put {mk : Mks} (h : MkOk mk) (hn : Nm n) v : MkOk (putM n v mk) := by
 unfold putM
 split
 · have e : (mk.map fun p => if p.1 = n then (p.1, v) else p).map (·.1) = mk.map (·.1) := by
    rw [List.map_map]
    refine List.map_congr_left fun p _ => ?_
    simp only [Function.comp]
    split <;> rfl
   refine ⟨by rw [e]; exact h.nd, fun p hp => ?_⟩
   have : p.1 ∈ (mk.map fun p => if p.1 = n then (p.1, v) else p).map (·.1) := List.mem_map_of_mem hp
   rw [e] at this
   obtain ⟨q, hq, e⟩ := List.mem_map.mp this
   rw [<- e]
   exact h.nm q hq
 · rename_i hne
   refine ⟨?_, fun p hp => ?_⟩
   · rw [List.map_append, List.nodup_append]
     refine ⟨h.nd, by simp, fun a ha b hb => ?_⟩
     have : b = n := by simpa using hb
     subst this
     exact fun z => hne (z ▸ ha)
   · rcases List.mem_append.mp hp with hp | hp
     · exact h.nm p hp
     · rw [List.mem_singleton.mp hp]; exact hn
theorem keys_nd (h : (mk.map (·.1)).Nodup) : ((mkN mk).map (Sum.inr : Str -> Key)).Nodup := by
 unfold mkN
 rw [List.map_map]
 have e : (mk.map ((Sum.inr : Str -> Key) ∘ fun p => txS p.1)) = (mk.map (·.1)).map fun n => (Sum.inr (txS n) : Key) := by rw [List.map_map]; rfl
 rw [e]
 refine List.pairwise_map.mpr (List.Pairwise.imp (fun {a b} hne hab => ?_) h)
 have : txS a = txS b := by simpa using hab
 exact hne (txS_inj.mp this)
theorem doM (hd : okD d) (m : MapF ps) (hl : ps.length <= 50000) (hm : MkOk mk) (h : es.length < sizeLine) (hk : mk.length <= sizeLine) :
  GP.Line_do.f (lnM ps mk es ls) [insD d] = some (lnM (doneF d ps) (goM d mk) (es ++ [stM ps mk]) []) := by
 have hdn : (methR 1 cs6 GP.M_done_4a08fd (insD d) [.lst (ps.map rwD)]).bind retV = some (.lst ((doneF d ps).map rwD)) := by
  rw [done_eq hd m hl]; rfl
 have e1 : mkN (goM d mk) = mkN mk := by simp [mkN, goM]
 have := do_eq (pls := mkV mk) (qs := mkV (goM d mk)) (ls := ls) hdn (by simp [mkN, mkV]) (by simp [mkN, mkV, goM]) (fun j pl q h1 h2 => by
  simp only [mkV, goM, List.map_map, List.getElem?_map] at h1 h2
  cases hj : mk[j]? with
  | none => rw [hj] at h1; cases h1
  | some p =>
    rw [hj] at h1 h2
    simp [Option.map_some, Option.some.injEq, Function.comp] at h1 h2
    subst h1 h2
    cases hp : p.2 with
    | none => exact .inl ⟨rfl, rfl⟩
    | some i =>
      refine .inr ⟨i, rfl, ?_⟩
      rw [oi_some, went_eq d hd i]
      rfl) (keys_nd hm.nd) (by simpa [mkN] using hk) h
 unfold lnM mkD stM mkD
 rw [e1]
 exact this
theorem ot_ln P M es ls : otD (lnT P M es ls) = .ins 11 [P, M, .lst (otDs es), .lst (otDs ls)] := by simp [lnT, otD, otDs]
theorem toldM ps mk es ls : methR 0 [11] GP.M_told_a117be (otD (lnM ps mk es ls)) [] = some (.fresh (ps.map rwD)) := by
 have fl := jQ ps
 unfold lnM
 rw [ot_ln]
 generalize ps.map rwD = L at *
 simp [GP.M_told_a117be, GP.Line_told.f, runG, GP.Line_told.g, args, retOG, lisA, fldG, fldD, List.lookup, flatF, fl]
end FL
namespace FL
open PySem PySem.Spec PyProof.Rows L2
open Builtin.Int (intBits)
@[simp] theorem sltW_eq (f : FE) (lo hi : List Sl -> Option (Option Int)) (ds : List Sl) : sltW f lo hi ds = (f ds).bind fun d => (lo ds).bind fun a => (hi ds).bind fun b => match d with
 | .tup l => some (.tup (cutD l a b))
 | _ => none := rfl
end FL
namespace FL
open PySem PySem.Spec PyProof.Rows L2
theorem row2_ex (a b c : Int) (known : List Int) (hk : known.length < 100000) : ∃ d, okD d /\ GL.row2.f [.int a, .int b, .int c, .lst (known.map D.int)] = some (.val (told3 d)) := row3_ex a b c known hk
end FL
namespace FL
open PySem PySem.Spec PyProof.Rows L2
open Builtin.Int (intBits)
end FL
section
open PySem PyProof.Rows L2 FL
noncomputable def K51.P_Line___init__.g : FS := (qG (setNw 20 21 (varP 0) (ifO (zU (zI isD (zJ 1) (zA .non))) (sO nilO) (lO (lisA (zJ 1)))))
 (qG (setNw 21 22 (varP 0) (vO (zA (.dcf [] []))))
 (qG (setNw 22 23 (varP 0) (sO nilO))
 (setNw 23 11 (varP 0) (sO nilO)))))
noncomputable def K51.P_Line___init__.f : OT -> List D -> Option OT := lentF K51.P_Line___init__.g 2
noncomputable def K51.L_ends.g : FS := (qG (yE 1 (mkL (compG (viaA (qB 0) asLT) [none, none, none] (tupG 3 (zP (zW 0) (zP (zW 1) (zP (zW 2) tgNil)))) (zU (zI notD (zJ 0) (zA .non))) (qB 0))))
 (retOG (catA (zJ 1) (mkL (compG (viaA (qB 0) asLT) [none, none, none] (tupG 3 (zP (zW 0) (zP (zW 1) (zP (zW 2) tgNil)))) (zU (zI notD (zJ 1) (zA .non))) (qB 1))))))
noncomputable def K51.L_ends.f : List D -> Option Ret := runG K51.L_ends.g 2
noncomputable def K51.L_tells.g : FX := (seqR (setOG 4 (methF 0 [11] GP.M_told_a117be (qB 0) zQ))
 (ifR (orT (notT (testT (isiG "list" (zJ 4)))) (zU (zI neD (zJ 4) (zJ 1)))) (vR (zA (.bl false)))
 (seqR (ifG (zU (zI eqD (zJ 3) (zA (.int 1)))) (qG (appG 4 (mkT (zR (zB (zA (.int 0)) (zB (zA (.int 1)) (zB (zA (.int 2)) zQ))))))
 (setOG 4 (methF 0 [11] GP.M_told_a117be (qB 0) zQ))) qI)
 (seqR (ifG (zU (zI eqD (zJ 3) (zA (.int 2)))) (qG (clrG 4)
 (setOG 4 (methF 0 [11] GP.M_told_a117be (qB 0) zQ))) qI)
 (takeR 2 4 (lisA (zJ 1)) (andV (isiG "list" (zJ 4)) (zI eqD (zJ 4) (zJ 1))))))))
noncomputable def K51.L_tells.f : OT -> List D -> Option (D × OT) := lentR K51.L_tells.g 5 2
noncomputable def K51.L_both.g : FX := (seqR (yE 4 (zI ixD (mkL (zR (zB (mkL (zR (zB (zA (.int 0)) (zB (zA (.int 1)) zQ)))) (zB (mkL (zR (zB (zA (.int 1)) (zB (zA (.int 0)) zQ)))) zQ)))) (zI qX (zJ 3) (zA (.int 2)))))
 (allR (compR (viaA (qB 4) asLT) [none, some 2, some 0, some 1, some 3] 2 1 (zW 0) (callR 4 1 K51.L_tells.f (zB (zI ixD (zJ 2) (zJ 0)) (zB (zI ixD (zJ 3) (zJ 0)) (hereA (zB (zI qX (zI qP (zJ 4) (zA (.int 2))) (zA (.int 3))) zQ))))))))
noncomputable def K51.L_both.f : OT -> List D -> Option (D × OT) := lentR K51.L_both.g 5 2
noncomputable def K51.law.b1 : FS := (qG (putG 5 (qB 12) (methV 1 [0, 1, 2, 3, 4, 5] GP.M_done_4a08fd (qK 1 GL.made4.f (zB (zJ 10) zQ)) (zB (mkL (lisA (zI ixD (zJ 5) (zJ 12)))) zQ)))
 (lentIf (lentG 1 [11] (fun _ => GP.Line_do.f) (ixPV 12 (varP 4)) (zB (qB 11) zQ)) qI))
noncomputable def K51.law.b2 : FS := (qG (yE 9 (zI qX (zI qP (zI ixD (zJ 7) (zI yD (zI xF (zA (.int 3)) (zJ 8)) (zA (.int 2)))) (zA (.int 7))) (zA (.int 2))))
 (qG (yE 10 (qK 4 GL.row2.f (zB (zI ixD (zJ 7) (zI xF (zA (.int 3)) (zJ 8))) (zB (zI ixD (zJ 7) (zI yD (zI xF (zA (.int 3)) (zJ 8)) (zA (.int 1)))) (zB (zI ixD (zJ 7) (zI yD (zI xF (zA (.int 3)) (zJ 8)) (zA (.int 2)))) (zB (qK 1 K51.L_ends.f (zB (zI ixD (zJ 5) (zJ 9)) zQ)) zQ))))))
 (qG (yE 11 (qK 1 GL.made4.f (zB (zJ 10) zQ)))
 (qG (forG (viaA (zI ixD (mkL (zR (zB (mkL (zR (zB (qB 9) zQ))) (zB (mkL (zR (zB (qB 9) (zB (zI subD (zA (.int 1)) (zJ 9)) zQ)))) zQ)))) (zI qX (zI qP (zI ixD (zJ 7) (zI yD (zI xF (zA (.int 3)) (zJ 8)) (zA (.int 2)))) (zA (.int 14))) (zA (.int 2)))) asLT) (zW 12) K51.law.b1)
 (ifNR (lookR 6 (callR 4 6 K51.L_both.f (zB (qB 4) (zB (qB 5) (hereA (zB (zI qP (zI ixD (zJ 7) (zI yD (zI xF (zA (.int 3)) (zJ 8)) (zA (.int 2)))) (zA (.int 28))) zQ)))))) (retG (zA (.bl false))) qI)))))
noncomputable def K51.law.g : FS := (qG (yE 1 (zI qX (qK 2 GL.cell_at.f (zB (zJ 0) (zB (zA (.int 0)) zQ))) (zA (.int 13))))
 (qG (yE 2 (qK 1 GL.map2.f (zB (mkL (sliA (zJ 0) (soP (zA (.int 1))) (soP (zI yD (zA (.int 1)) (zJ 1))))) zQ)))
 (qG (setB 3 (lO (lisA (zJ 2))))
 (qG (setB 4 (sO (consO (relGZ 3 (makeO 20 1 0 K51.P_Line___init__.f (zB (qB 3) zQ))) (consO (makeO 20 1 1 K51.P_Line___init__.f zQ) nilO))))
 (qG (frzP 4 [0, 0] (frzP 4 [1, 0] (setOG 5 (zR (zB (qB 2) (zB (mkL (zR zQ)) zQ))))))
 (qG (setB 6 (sO nilO))
 (qG (ifG (zU (zI eqD (zI qX (zI qP (qK 2 GL.cell_at.f (zB (zJ 0) (zB (zA (.int 0)) zQ))) (zA (.int 13))) (zA (.int 2))) (zA (.int 1)))) (clrP (varP 3)) qI)
 (qG (appP (varP 3) (mkT (zR (zB (zA (.int 0)) (zB (zA (.int 1)) (zB (zA (.int 2)) zQ))))))
 (qG (ifNR (lookR 6 (callR 4 6 K51.L_both.f (zB (qB 4) (zB (qB 5) (hereA (zB (zI qP (qK 2 GL.cell_at.f (zB (zJ 0) (zB (zA (.int 0)) zQ))) (zA (.int 26))) zQ)))))) (retG (zA (.bl false))) qI)
 (qG (yE 7 (mkL (sliA (zJ 0) (soP (zI yD (zA (.int 1)) (zJ 1))) (soP (zI yD (zA (.int 241)) (zJ 1))))))
 (qG (forG (rng1 (zI qP (callB lenD (zB (zJ 7) zQ)) (zA (.int 3)))) (zW 8) K51.law.b2)
 (retG (callB allD (zB (mkL (relFO 6 (compG (viaA (qB 6) asLT) [none, none] (tupG 2 (zP (zW 0) (zP (zW 1) tgNil))) (fun _ => some true) (zI eqD (zJ 0) (zJ 1))))) zQ))))))))))))))
noncomputable def K51.law.f : List D -> Option Ret := runG K51.law.g 13
end
namespace K51
open PySem PyProof.Rows L2 FL
noncomputable def top (i : Nat) : Stmt := PySem.Challenge.pw_spanmap_k51_begun_and_done.main.body.getD i (.Pass ⟨0, 0, 0, 0⟩)
structure Glb (K : Frag) (mg : Str -> Option Value) : Prop where
 b_all : mg "all" = none
 b_isinstance : mg "isinstance" = none
 b_len : mg "len" = none
 b_list : mg "list" = none
 b_max : mg "max" = none
 b_min : mg "min" = none
 b_range : mg "range" = none
 b_reversed : mg "reversed" = none
 c_MOST_SHARE : ∃ t, mg "MOST_SHARE" = some (.int 1000 t)
 fl_at : FldOk K "at" [(1, 1), (2, 1)]
 fl_bottom : FldOk K "bottom" [(4, 2)]
 fl_earlier : FldOk K "earlier" [(11, 2)]
 fl_far : FldOk K "far" [(3, 1)]
 fl_fill : FldOk K "fill" [(0, 1), (1, 0), (2, 0), (3, 0), (4, 0), (5, 0), (6, 0)]
 fl_later : FldOk K "later" [(11, 3)]
 fl_many : FldOk K "many" [(1, 2), (2, 2)]
 fl_pieces : FldOk K "pieces" [(11, 0)]
 fl_places : FldOk K "places" [(11, 1)]
 fl_span : FldOk K "span" [(0, 0)]
 fl_top : FldOk K "top" [(4, 1)]
 nw_earlier : ∀ C, PySem.W.nsIn K mainGlobals (clsName 22) = some (some (.ref C)) -> Cls K C /\ NoAttr K C "earlier"
 nw_later : ∀ C, PySem.W.nsIn K mainGlobals (clsName 23) = some (some (.ref C)) -> Cls K C /\ NoAttr K C "later"
 nw_pieces : ∀ C, PySem.W.nsIn K mainGlobals (clsName 20) = some (some (.ref C)) -> Cls K C /\ NoAttr K C "pieces"
 nw_places : ∀ C, PySem.W.nsIn K mainGlobals (clsName 21) = some (some (.ref C)) -> Cls K C /\ NoAttr K C "places"
theorem pwI {X : Cx} {i : Int} {k : Nat} {p : Pos} : PVw X (.Constant (.int i) k p) (zA (.int i)) := PV.w qH
theorem pnI {X : Cx} {i : Int} {k : Nat} {p : Pos} : PVn X (.Constant (.int i) k p) (zA (.int i)) := PV.n qH
theorem pnV {X : Cx} (i : Nat) {x : Str} {pos : Pos} (hN : X.N[i]? = some x := by rfl) (hv : Vis X.env.scope x := by first | exact Or.inl rfl | exact Or.inr (Or.inl rfl) | exact Or.inr (Or.inr rfl)) (hd : (x == ("__debug__" : Str)) = false := by decide) (hcd : (x == ("__classdict__" : Str)) = false := by decide) : PVn X (.Name x pos) (zJ i) := (zH i hN hv hd hcd).n
section
variable {P : Program} {w : World} {K : Frag} {mg : Str -> Option Value} {base : Heap}
theorem sc_Line___init__ : FnScope ["self", "pieces"] ["self", "pieces"] (zF (inClass (top 6) 0)) := {}
theorem fok_Line___init__ {f : Addr} {fd : FuncData} (Fn : FunD K "__init__" "Line.__init__" (inClass (top 6) 0) f fd #[.none]) (T : Glb K mg)  : FnOk P w K mg base CX0 1 f fd ["self", "pieces"] (spL K 1 K51.P_Line___init__.f) := by
 have nd := sc_Line___init__.nd
 refine fun_okLD (k := 0) (n := 1) (g := K51.P_Line___init__.g) Fn sc_Line___init__ (fun cdv A outer s H E hr => ?_) (fun _ _ _ _ e => e)
 exact (zE (yY T.nw_pieces (jG 0) (pvo_if (vB (pnV 1) (PV.n qD)) (pvo_s xY) (pvo_l (xS T.b_list (zH 1)))))
  (zE (yY T.nw_places (jG 0) (pvo_v pv_dnewF))
  (zE (yY T.nw_earlier (jG 0) (pvo_s xY))
  (zG (yY T.nw_later (jG 0) (pvo_s xY))))))
theorem sc_Line_step : FnScope ["self", "pieces", "places"] ["self", "pieces", "places"] (zF (inClass (top 6) 3)) := {}
theorem fok_Line_step {f : Addr} {fd : FuncData} (Fn : Fun K "step" "Line.step" (inClass (top 6) 3) f fd) (T : Glb K mg)  : FnOk P w K mg base CX0 1 f fd ["self", "pieces", "places"] (spL K 2 GP.Line_step.f) := by
 have nd := sc_Line_step.nd
 refine fun_okL (k := 0) (n := 2) (g := GP.Line_step.g) Fn sc_Line_step (fun cdv A outer s H E hr => ?_) (fun _ _ _ _ e => e)
 exact (zE (psv_appP (kG T.fl_earlier (jG 0)) (qS (zC (vS (kG T.fl_pieces (jG 0))) (zC (vS (kG T.fl_places (jG 0))) zL))))
  (zE (wS T.fl_later (jG 0) (pvo_s xY))
  (zE (wS T.fl_pieces (jG 0) (pvo_v (zK 1)))
  (zG (wS T.fl_places (jG 0) (pvo_v (zK 2)))))))
theorem sc_knit : FnScope ["rows", "pieces", "low", "behind", "value"] ["rows"] (zF (top 14)) := {}
theorem fok_knit {f : Addr} {fd : FuncData} (Fn : Fun K "knit" "knit" (top 14) f fd) (T : Glb K mg)  : FnOk P w K mg base CX0 1 f fd ["rows"] (spF K 1 GP.knit.f) := by
 have nd := sc_knit.nd
 refine qC (k := 0) (g := GP.knit.g) Fn sc_knit (fun cdv A outer s H E hr => ?_) (fun ds r hl e => zO e)
 exact (zE (yH (i := 1) nd (qO zL))
  (zE (wZ PassesOwn.never rfl (yB (zK 0)) (yJ (n := 3) rfl (zY (qA (i := 2) nd) (zY (qA (i := 3) nd) (zY (qA (i := 4) nd) jS)))) (zE (qN (vB (pnV 4) (PV.n qD)) (zG psv_continue) zX)
  (zG (qN (PWv.t (xC (PVn.t (pnV 1)) (xC (yC hr (PV.n (qE (PV.w (qE (zH 1) (PV.w (yG qH)))) pwI)) (pnV 2)) (xJ (yC hr (PV.n (qE (PV.w (qE (zH 1) (PV.w (yG qH)))) pwI)) (pnV 4)))))) (zG (vQ (i := 1) (qS (zC (qE (PV.w (qE (zH 1) (PV.w (yG qH)))) pwI) (zC (zK 3) (zC (zK 4) zL)))) (yG qH))) (zG (wX (i := 1) (qS (zC (zK 2) (zC (zK 3) (zC (zK 4) zL))))))))))
  (zG (wH 1))))
theorem sc_later_low : FnScope ["one", "other"] ["one", "other"] (zF (top 11)) := {}
theorem fok_later_low {f : Addr} {fd : FuncData} (Fn : Fun K "later_low" "later_low" (top 11) f fd) (T : Glb K mg)  : FnOk P w K mg base CX0 1 f fd ["one", "other"] (spF K 2 GP.later_low.f) := by
 have nd := sc_later_low.nd
 refine qC (k := 0) (g := GP.later_low.g) Fn sc_later_low (fun cdv A outer s H E hr => ?_) (fun ds r hl e => zO e)
 exact (zE (qN (vB (pnV 0) (PV.n qD)) (zG (zV (zH 1))) zX)
  (zE (qN (vB (pnV 1) (PV.n qD)) (zG (zV (zH 0))) zX)
  (zG (zV (PV.w (pv_max2 rfl T.b_max (jW (zH 0) (jW (zH 1) xH))))))))
theorem sc_earlier_behind : FnScope ["one", "other"] ["one", "other"] (zF (top 12)) := {}
theorem fok_earlier_behind {f : Addr} {fd : FuncData} (Fn : Fun K "earlier_behind" "earlier_behind" (top 12) f fd) (T : Glb K mg)  : FnOk P w K mg base CX0 1 f fd ["one", "other"] (spF K 2 GP.earlier_behind.f) := by
 have nd := sc_earlier_behind.nd
 refine qC (k := 0) (g := GP.earlier_behind.g) Fn sc_earlier_behind (fun cdv A outer s H E hr => ?_) (fun ds r hl e => zO e)
 exact (zE (qN (vB (pnV 0) (PV.n qD)) (zG (zV (zH 1))) zX)
  (zE (qN (vB (pnV 1) (PV.n qD)) (zG (zV (zH 0))) zX)
  (zG (zV (PV.w (pv_min2 rfl T.b_min (jW (zH 0) (jW (zH 1) xH))))))))
theorem sc_ends_ahead : FnScope ["behind", "low"] ["behind", "low"] (zF (top 10)) := {}
theorem fok_ends_ahead {f : Addr} {fd : FuncData} (Fn : Fun K "ends_ahead" "ends_ahead" (top 10) f fd) (T : Glb K mg)  : FnOk P w K mg base CX0 1 f fd ["behind", "low"] (spF K 2 GP.ends_ahead.f) := by
 have nd := sc_ends_ahead.nd
 refine qC (k := 0) (g := GP.ends_ahead.g) Fn sc_ends_ahead (fun cdv A outer s H E hr => ?_) (fun ds r hl e => zO e)
 exact (zG (zV (PV.w (pv_and (pv_isnot (pnV 0) (PV.n qD)) (pv_and (pv_isnot (pnV 1) (PV.n qD)) (kH (pv_le (zH 0) (zH 1))))))))
theorem sc_meet : FnScope ["one", "other", "low", "behind"] ["one", "other"] (zF (top 9)) := {}
theorem fok_meet {f : Addr} {fd : FuncData} (Fn : Fun K "meet" "meet" (top 9) f fd) (T : Glb K mg) (C_later_low : Cal P w K mg base "later_low" 1 2 GP.later_low.f) (C_earlier_behind : Cal P w K mg base "earlier_behind" 1 2 GP.earlier_behind.f) (C_ends_ahead : Cal P w K mg base "ends_ahead" 1 2 GP.ends_ahead.f) : FnOk P w K mg base CX0 2 f fd ["one", "other"] (spF K 2 GP.meet.f) := by
 have nd := sc_meet.nd
 refine qC (k := 1) (g := GP.meet.g) Fn sc_meet (fun cdv A outer s H E hr => ?_) (fun ds r hl e => zO e)
 exact (zE (qJ (i := 2) nd (zT C_later_low hr (zD (PV.n (qE (zH 0) pwI)) (zD (PV.n (qE (zH 1) pwI)) zM))))
  (zE (qJ (i := 3) nd (zT C_earlier_behind hr (zD (PV.n (qE (zH 0) pwI)) (zD (PV.n (qE (zH 1) pwI)) zM))))
  (zE (qN (PVn.t (PV.n (zT C_ends_ahead hr (zD (pnV 3) (zD (pnV 2) zM))))) (zG (zV (PV.w qD))) zX)
  (zG (zV (PV.w (qS (zC (zK 2) (zC (zK 3) zL)))))))))
theorem sc_parts_in : FnScope ["pieces", "within", "parts", "low", "behind", "value", "common"] ["pieces", "within"] (zF (top 15)) := {}
theorem fok_parts_in {f : Addr} {fd : FuncData} (Fn : Fun K "parts_in" "parts_in" (top 15) f fd) (T : Glb K mg) (C_meet : Cal P w K mg base "meet" 2 2 GP.meet.f) : FnOk P w K mg base CX0 3 f fd ["pieces", "within"] (spF K 2 GP.parts_in.f) := by
 have nd := sc_parts_in.nd
 refine qC (k := 2) (g := GP.parts_in.g) Fn sc_parts_in (fun cdv A outer s H E hr => ?_) (fun ds r hl e => zO e)
 exact (zE (yH (i := 2) nd (qO zL))
  (zE (wZ PassesOwn.never rfl (yB (zK 0)) (yJ (n := 3) rfl (zY (qA (i := 3) nd) (zY (qA (i := 4) nd) (zY (qA (i := 5) nd) jS)))) (zE (qJ (i := 6) nd (zT C_meet hr (zD (PV.n (qS (zC (zK 3) (zC (zK 4) zL)))) (zD (pnV 1) zM))))
  (zG (qN (xL (pnV 6) (PV.n qD)) (zG (wX (i := 2) (qS (zC (qE (zH 6) pwI) (zC (qE (zH 6) pwI) (zC (zK 5) zL)))))) zX))))
  (zG (wH 2))))
theorem sc_rows_over : FnScope ["pieces", "over", "value", "rows"] ["pieces", "over", "value"] (zF (top 16)) := {}
theorem fok_rows_over {f : Addr} {fd : FuncData} (Fn : Fun K "rows_over" "rows_over" (top 16) f fd) (T : Glb K mg) (C_parts_in : Cal P w K mg base "parts_in" 3 2 GP.parts_in.f) : FnOk P w K mg base CX0 4 f fd ["pieces", "over", "value"] (spF K 3 GP.rows_over.f) := by
 have nd := sc_rows_over.nd
 refine qC (k := 3) (g := GP.rows_over.g) Fn sc_rows_over (fun cdv A outer s H E hr => ?_) (fun ds r hl e => zO e)
 exact (zE (yH (i := 3) nd (qO zL))
  (zE (qN (xL (PV.n (qE (zH 1) pwI)) (PV.n qD)) (zG (psv_ext (i := 3) (jU C_parts_in hr (zD (pnV 0) (zD (PV.n (qS (zC qD (zC (qE (zH 1) pwI) zL)))) zM))))) zX)
  (zE (wX (i := 3) (qS (zC (qE (zH 1) pwI) (zC (qE (zH 1) pwI) (zC (zK 2) zL)))))
  (zE (qN (xL (PV.n (qE (zH 1) pwI)) (PV.n qD)) (zG (psv_ext (i := 3) (jU C_parts_in hr (zD (pnV 0) (zD (PV.n (qS (zC (qE (zH 1) pwI) (zC qD zL)))) zM))))) zX)
  (zG (wH 3))))))
theorem sc_put : FnScope ["pieces", "span", "value"] ["pieces", "span", "value"] (zF (top 18)) := {}
theorem fok_put {f : Addr} {fd : FuncData} (Fn : Fun K "put" "put" (top 18) f fd) (T : Glb K mg) (C_knit : Cal P w K mg base "knit" 1 1 GP.knit.f) (C_rows_over : Cal P w K mg base "rows_over" 4 3 GP.rows_over.f) : FnOk P w K mg base CX0 5 f fd ["pieces", "span", "value"] (spF K 3 GP.put.f) := by
 have nd := sc_put.nd
 refine qC (k := 4) (g := GP.put.g) Fn sc_put (fun cdv A outer s H E hr => ?_) (fun ds r hl e => zO e)
 exact (zG (jR (jU C_knit hr (zD (PV.n (zT C_rows_over hr (zD (pnV 0) (zD (pnV 1) (zD (pnV 2) zM))))) zM))))
theorem sc_Put_done : FnScope ["self", "pieces"] ["self", "pieces"] (zF (inClass (top 22) 3)) := {}
theorem fok_Put_done {f : Addr} {fd : FuncData} (Fn : Fun K "done" "Put.done" (inClass (top 22) 3) f fd) (T : Glb K mg) (C_put : Cal P w K mg base "put" 5 3 GP.put.f) : FnOk P w K mg base CX0 6 f fd ["self", "pieces"] (spF K 2 GP.Put_done.f) := by
 have nd := sc_Put_done.nd
 refine qC (k := 5) (g := GP.Put_done.g) Fn sc_Put_done (fun cdv A outer s H E hr => ?_) (fun ds r hl e => zO e)
 exact (zG (jR (jU C_put hr (zD (pnV 1) (zD (PV.n (qZ T.fl_span (zK 0))) (zD (PV.n (qZ T.fl_fill (zK 0))) zM))))))
theorem sc_farther : FnScope ["side", "far"] ["side", "far"] (zF (top 33)) := {}
theorem fok_farther {f : Addr} {fd : FuncData} (Fn : Fun K "farther" "farther" (top 33) f fd) (T : Glb K mg)  : FnOk P w K mg base CX0 1 f fd ["side", "far"] (spF K 2 GP.farther.f) := by
 have nd := sc_farther.nd
 refine qC (k := 0) (g := GP.farther.g) Fn sc_farther (fun cdv A outer s H E hr => ?_) (fun ds r hl e => zO e)
 exact (zG (zV (PV.w (kI (vB (pnV 0) (PV.n qD)) qD (qF (zH 0) (zH 1))))))
theorem sc_shifted : FnScope ["pieces", "far"] ["pieces", "far"] (zF (top 32)) := {}
theorem fok_shifted {f : Addr} {fd : FuncData} (Fn : Fun K "shifted" "shifted" (top 32) f fd) (T : Glb K mg) (C_farther : Cal P w K mg base "farther" 1 2 GP.farther.f) : FnOk P w K mg base CX0 2 f fd ["pieces", "far"] (spF K 2 GP.shifted.f) := by
 have nd := sc_shifted.nd
 have nI0 : (["low", "behind", "value", "far"] : List Str).Nodup := by decide +kernel
 refine qC (k := 1) (g := GP.shifted.g) Fn sc_shifted (fun cdv A outer s H E hr => ?_) (fun ds r hl e => zO e)
 exact (zG (jR (xM (NY := ["low", "behind", "value", "far"]) (mp := [none, none, none, some 1]) (jK (by kernel_rfl)) rfl (yB (zK 0)) (fun c => (yJ (n := 3) rfl (zY (qA (i := 0) nI0) (zY (qA (i := 1) nI0) (zY (qA (i := 2) nI0) jS))))) (fun c => vP) (fun c => (qS (zC (zT C_farther hr (zD (pnV 0) (zD (pnV 3) zM))) (zC (zT C_farther hr (zD (pnV 1) (zD (pnV 3) zM))) (zC (zK 2) zL))))))))
theorem sc_Widen_done : FnScope ["self", "pieces", "stay", "go"] ["self", "pieces"] (zF (inClass (top 23) 3)) := {}
theorem fok_Widen_done {f : Addr} {fd : FuncData} (Fn : Fun K "done" "Widen.done" (inClass (top 23) 3) f fd) (T : Glb K mg) (C_parts_in : Cal P w K mg base "parts_in" 3 2 GP.parts_in.f) (C_knit : Cal P w K mg base "knit" 1 1 GP.knit.f) (C_shifted : Cal P w K mg base "shifted" 2 2 GP.shifted.f) : FnOk P w K mg base CX0 4 f fd ["self", "pieces"] (spF K 2 GP.Widen_done.f) := by
 have nd := sc_Widen_done.nd
 refine qC (k := 3) (g := GP.Widen_done.g) Fn sc_Widen_done (fun cdv A outer s H E hr => ?_) (fun ds r hl e => zO e)
 exact (zE (qJ (i := 2) nd (zT C_parts_in hr (zD (pnV 1) (zD (PV.n (qS (zC qD (zC (qZ T.fl_at (zK 0)) zL)))) zM))))
  (zE (qJ (i := 3) nd (zT C_parts_in hr (zD (pnV 1) (zD (PV.n (qS (zC (qZ T.fl_at (zK 0)) (zC qD zL)))) zM))))
  (zG (jR (jU C_knit hr (zD (PV.n (PVf.s (pvf_cat (zH 2) (PV.w (zT C_shifted hr (zD (pnV 3) (zD (PV.n (qZ T.fl_many (zK 0))) zM))))))) zM))))))
theorem sc_Narrow_done : FnScope ["self", "pieces", "stay", "come"] ["self", "pieces"] (zF (inClass (top 24) 3)) := {}
theorem fok_Narrow_done {f : Addr} {fd : FuncData} (Fn : Fun K "done" "Narrow.done" (inClass (top 24) 3) f fd) (T : Glb K mg) (C_parts_in : Cal P w K mg base "parts_in" 3 2 GP.parts_in.f) (C_knit : Cal P w K mg base "knit" 1 1 GP.knit.f) (C_shifted : Cal P w K mg base "shifted" 2 2 GP.shifted.f) : FnOk P w K mg base CX0 4 f fd ["self", "pieces"] (spF K 2 GP.Narrow_done.f) := by
 have nd := sc_Narrow_done.nd
 refine qC (k := 3) (g := GP.Narrow_done.g) Fn sc_Narrow_done (fun cdv A outer s H E hr => ?_) (fun ds r hl e => zO e)
 exact (zE (qJ (i := 2) nd (zT C_parts_in hr (zD (pnV 1) (zD (PV.n (qS (zC qD (zC (qZ T.fl_at (zK 0)) zL)))) zM))))
  (zE (qJ (i := 3) nd (zT C_parts_in hr (zD (pnV 1) (zD (PV.n (qS (zC (qF (PV.w (qZ T.fl_at (zK 0))) (PV.w (qZ T.fl_many (zK 0)))) (zC qD zL)))) zM))))
  (zG (jR (jU C_knit hr (zD (PV.n (PVf.s (pvf_cat (zH 2) (PV.w (zT C_shifted hr (zD (pnV 3) (zD (PV.n (yG (qZ T.fl_many (zK 0)))) zM))))))) zM))))))
theorem sc_Move_done : FnScope ["self", "pieces"] ["self", "pieces"] (zF (inClass (top 25) 3)) := {}
theorem fok_Move_done {f : Addr} {fd : FuncData} (Fn : Fun K "done" "Move.done" (inClass (top 25) 3) f fd) (T : Glb K mg) (C_shifted : Cal P w K mg base "shifted" 2 2 GP.shifted.f) : FnOk P w K mg base CX0 3 f fd ["self", "pieces"] (spF K 2 GP.Move_done.f) := by
 have nd := sc_Move_done.nd
 refine qC (k := 2) (g := GP.Move_done.g) Fn sc_Move_done (fun cdv A outer s H E hr => ?_) (fun ds r hl e => zO e)
 exact (zG (jR (jU C_shifted hr (zD (pnV 1) (zD (PV.n (qZ T.fl_far (zK 0))) zM)))))
theorem sc_Stretch_least_from : FnScope ["self", "place"] ["self", "place"] (zF (inClass (top 26) 4)) := {}
theorem fok_Stretch_least_from {f : Addr} {fd : FuncData} (Fn : Fun K "least_from" "Stretch.least_from" (inClass (top 26) 4) f fd) (T : Glb K mg)  : FnOk P w K mg base CX0 1 f fd ["self", "place"] (spF K 2 GP.Stretch_least_from.f) := by
 have nd := sc_Stretch_least_from.nd
 refine qC (k := 0) (g := GP.Stretch_least_from.g) Fn sc_Stretch_least_from (fun cdv A outer s H E hr => ?_) (fun ds r hl e => zO e)
 exact (zG (zV (PV.w (kI (vB (pnV 1) (PV.n qD)) qD (yG (qR (PV.w (jP (PV.w (yG (zK 1))) (PV.w (qZ T.fl_top (zK 0))))) (PV.w (qZ T.fl_bottom (zK 0)))))))))
theorem sc_Stretch_done : FnScope ["self", "pieces", "rows"] ["self", "pieces"] (zF (inClass (top 26) 3)) := {}
theorem fok_Stretch_done {f : Addr} {fd : FuncData} (Fn : Fun K "done" "Stretch.done" (inClass (top 26) 3) f fd) (T : Glb K mg) (C_knit : Cal P w K mg base "knit" 1 1 GP.knit.f) (M_least_from : MCal P w K mg base "least_from" 1 1 [4] GP.M_least_from_cfafed) : FnOk P w K mg base CX0 2 f fd ["self", "pieces"] (spF K 2 GP.Stretch_done.f) := by
 have nd := sc_Stretch_done.nd
 have nI0 : (["low", "behind", "value", "self"] : List Str).Nodup := by decide +kernel
 have nI1 : (["row"] : List Str).Nodup := by decide +kernel
 refine qC (k := 1) (g := GP.Stretch_done.g) Fn sc_Stretch_done (fun cdv A outer s H E hr => ?_) (fun ds r hl e => zO e)
 exact (zE (psv_compV (i := 2) nd (NY := ["low", "behind", "value", "self"]) (mp := [none, none, none, some 0]) (jK (by kernel_rfl)) rfl (yB (zK 1)) (fun c => (yJ (n := 3) rfl (zY (qA (i := 0) nI0) (zY (qA (i := 1) nI0) (zY (qA (i := 2) nI0) jS))))) (fun c => vP) (fun c => (qS (zC (xB M_least_from hr (zK 3) (zD (pnV 0) zM)) (zC (xB M_least_from hr (zK 3) (zD (pnV 1) zM)) (zC (zK 2) zL))))))
  (zG (jR (jU C_knit hr (zD (PV.n (PVf.s (xM (NY := ["row"]) (mp := [none]) (jK (by kernel_rfl)) rfl (yB (zK 2)) (fun c => (qA (i := 0) nI1)) (fun c => (pfv_one (PWv.t (pwv_or (vB (PV.n (qE (zH 0) pwI)) (PV.n qD)) (pwv_or1 (pt_ne hr (PV.n (qE (zH 0) pwI)) (PV.n (qE (zH 0) pwI)))))))) (fun c => (zK 0))))) zM)))))
theorem sc_mirrored : FnScope ["side"] ["side"] (zF (top 34)) := {}
theorem fok_mirrored {f : Addr} {fd : FuncData} (Fn : Fun K "mirrored" "mirrored" (top 34) f fd) (T : Glb K mg)  : FnOk P w K mg base CX0 1 f fd ["side"] (spF K 1 GP.mirrored.f) := by
 have nd := sc_mirrored.nd
 refine qC (k := 0) (g := GP.mirrored.g) Fn sc_mirrored (fun cdv A outer s H E hr => ?_) (fun ds r hl e => zO e)
 exact (zG (zV (PV.w (kI (vB (pnV 0) (PV.n qD)) qD (jN pwI (zH 0))))))
theorem sc_Mirror_done : FnScope ["self", "pieces"] ["self", "pieces"] (zF (inClass (top 27) 2)) := {}
theorem fok_Mirror_done {f : Addr} {fd : FuncData} (Fn : Fun K "done" "Mirror.done" (inClass (top 27) 2) f fd) (T : Glb K mg) (C_mirrored : Cal P w K mg base "mirrored" 1 1 GP.mirrored.f) : FnOk P w K mg base CX0 2 f fd ["self", "pieces"] (spF K 2 GP.Mirror_done.f) := by
 have nd := sc_Mirror_done.nd
 have nI0 : (["low", "behind", "value"] : List Str).Nodup := by decide +kernel
 refine qC (k := 1) (g := GP.Mirror_done.g) Fn sc_Mirror_done (fun cdv A outer s H E hr => ?_) (fun ds r hl e => zO e)
 exact (zG (jR (xM (NY := ["low", "behind", "value"]) (mp := [none, none, none]) (jK (by kernel_rfl)) rfl (piv_rev trivial T.b_reversed (zK 1)) (fun c => (yJ (n := 3) rfl (zY (qA (i := 0) nI0) (zY (qA (i := 1) nI0) (zY (qA (i := 2) nI0) jS))))) (fun c => vP) (fun c => (qS (zC (zT C_mirrored hr (zD (pnV 1) zM)) (zC (zT C_mirrored hr (zD (pnV 0) zM)) (zC (zK 2) zL))))))))
theorem sc_Put_went : FnScope ["self", "place"] ["self", "place"] (zF (inClass (top 22) 2)) := {}
theorem fok_Put_went {f : Addr} {fd : FuncData} (Fn : Fun K "went" "Put.went" (inClass (top 22) 2) f fd) (T : Glb K mg)  : FnOk P w K mg base CX0 1 f fd ["self", "place"] (spF K 2 GP.Put_went.f) := by
 have nd := sc_Put_went.nd
 refine qC (k := 0) (g := GP.Put_went.g) Fn sc_Put_went (fun cdv A outer s H E hr => ?_) (fun ds r hl e => zO e)
 exact (zG (zV (zH 1)))
theorem sc_opened : FnScope ["place", "at", "many"] ["place", "at", "many"] (zF (top 30)) := {}
theorem fok_opened {f : Addr} {fd : FuncData} (Fn : Fun K "opened" "opened" (top 30) f fd) (T : Glb K mg)  : FnOk P w K mg base CX0 1 f fd ["place", "at", "many"] (spF K 3 GP.opened.f) := by
 have nd := sc_opened.nd
 refine qC (k := 0) (g := GP.opened.g) Fn sc_opened (fun cdv A outer s H E hr => ?_) (fun ds r hl e => zO e)
 exact (zG (zV (PV.w (kI (pt_lt (zH 0) (zH 1)) (zK 0) (qF (zH 0) (zH 2))))))
theorem sc_Widen_went : FnScope ["self", "place"] ["self", "place"] (zF (inClass (top 23) 2)) := {}
theorem fok_Widen_went {f : Addr} {fd : FuncData} (Fn : Fun K "went" "Widen.went" (inClass (top 23) 2) f fd) (T : Glb K mg) (C_opened : Cal P w K mg base "opened" 1 3 GP.opened.f) : FnOk P w K mg base CX0 2 f fd ["self", "place"] (spF K 2 GP.Widen_went.f) := by
 have nd := sc_Widen_went.nd
 refine qC (k := 1) (g := GP.Widen_went.g) Fn sc_Widen_went (fun cdv A outer s H E hr => ?_) (fun ds r hl e => zO e)
 exact (zG (zV (PV.w (zT C_opened hr (zD (pnV 1) (zD (PV.n (qZ T.fl_at (zK 0))) (zD (PV.n (qZ T.fl_many (zK 0))) zM)))))))
theorem sc_taken_out : FnScope ["place", "at", "many"] ["place", "at", "many"] (zF (top 31)) := {}
theorem fok_taken_out {f : Addr} {fd : FuncData} (Fn : Fun K "taken_out" "taken_out" (top 31) f fd) (T : Glb K mg)  : FnOk P w K mg base CX0 1 f fd ["place", "at", "many"] (spF K 3 GP.taken_out.f) := by
 have nd := sc_taken_out.nd
 refine qC (k := 0) (g := GP.taken_out.g) Fn sc_taken_out (fun cdv A outer s H E hr => ?_) (fun ds r hl e => zO e)
 exact (zE (qN (pt_lt (zH 0) (zH 1)) (zG (zV (zH 0))) zX)
  (zG (zV (PV.w (kI (pt_lt (zH 0) (PV.w (qF (zH 1) (zH 2)))) qD (jN (zH 0) (zH 2)))))))
theorem sc_Narrow_went : FnScope ["self", "place"] ["self", "place"] (zF (inClass (top 24) 2)) := {}
theorem fok_Narrow_went {f : Addr} {fd : FuncData} (Fn : Fun K "went" "Narrow.went" (inClass (top 24) 2) f fd) (T : Glb K mg) (C_taken_out : Cal P w K mg base "taken_out" 1 3 GP.taken_out.f) : FnOk P w K mg base CX0 2 f fd ["self", "place"] (spF K 2 GP.Narrow_went.f) := by
 have nd := sc_Narrow_went.nd
 refine qC (k := 1) (g := GP.Narrow_went.g) Fn sc_Narrow_went (fun cdv A outer s H E hr => ?_) (fun ds r hl e => zO e)
 exact (zG (zV (PV.w (zT C_taken_out hr (zD (pnV 1) (zD (PV.n (qZ T.fl_at (zK 0))) (zD (PV.n (qZ T.fl_many (zK 0))) zM)))))))
theorem sc_Move_went : FnScope ["self", "place"] ["self", "place"] (zF (inClass (top 25) 2)) := {}
theorem fok_Move_went {f : Addr} {fd : FuncData} (Fn : Fun K "went" "Move.went" (inClass (top 25) 2) f fd) (T : Glb K mg)  : FnOk P w K mg base CX0 1 f fd ["self", "place"] (spF K 2 GP.Move_went.f) := by
 have nd := sc_Move_went.nd
 refine qC (k := 0) (g := GP.Move_went.g) Fn sc_Move_went (fun cdv A outer s H E hr => ?_) (fun ds r hl e => zO e)
 exact (zG (zV (PV.w (qF (zH 1) (PV.w (qZ T.fl_far (zK 0)))))))
theorem sc_has : FnScope ["one", "place"] ["one", "place"] (zF (top 8)) := {}
theorem fok_has {f : Addr} {fd : FuncData} (Fn : Fun K "has" "has" (top 8) f fd) (T : Glb K mg)  : FnOk P w K mg base CX0 1 f fd ["one", "place"] (spF K 2 GP.has.f) := by
 have nd := sc_has.nd
 refine qC (k := 0) (g := GP.has.g) Fn sc_has (fun cdv A outer s H E hr => ?_) (fun ds r hl e => zO e)
 exact (zG (zV (PV.w (pv_and (pv_or (pv_is (PV.n (qE (zH 0) pwI)) (PV.n qD)) (kH (pv_le (PV.w (qE (zH 0) pwI)) (zH 1)))) (kH (pv_or (pv_is (PV.n (qE (zH 0) pwI)) (PV.n qD)) (kH (pv_lt (zH 1) (PV.w (qE (zH 0) pwI))))))))))
theorem sc_Put_came : FnScope ["self", "place"] ["self", "place"] (zF (inClass (top 22) 1)) := {}
theorem fok_Put_came {f : Addr} {fd : FuncData} (Fn : Fun K "came" "Put.came" (inClass (top 22) 1) f fd) (T : Glb K mg) (C_has : Cal P w K mg base "has" 1 2 GP.has.f) : FnOk P w K mg base CX0 2 f fd ["self", "place"] (spF K 2 GP.Put_came.f) := by
 have nd := sc_Put_came.nd
 refine qC (k := 1) (g := GP.Put_came.g) Fn sc_Put_came (fun cdv A outer s H E hr => ?_) (fun ds r hl e => zO e)
 exact (zG (zV (PV.w (kI (PVn.t (PV.n (zT C_has hr (zD (PV.n (qZ T.fl_span (zK 0))) (zD (pnV 1) zM))))) qD (zK 1)))))
theorem sc_Widen_came : FnScope ["self", "place"] ["self", "place"] (zF (inClass (top 23) 1)) := {}
theorem fok_Widen_came {f : Addr} {fd : FuncData} (Fn : Fun K "came" "Widen.came" (inClass (top 23) 1) f fd) (T : Glb K mg) (C_taken_out : Cal P w K mg base "taken_out" 1 3 GP.taken_out.f) : FnOk P w K mg base CX0 2 f fd ["self", "place"] (spF K 2 GP.Widen_came.f) := by
 have nd := sc_Widen_came.nd
 refine qC (k := 1) (g := GP.Widen_came.g) Fn sc_Widen_came (fun cdv A outer s H E hr => ?_) (fun ds r hl e => zO e)
 exact (zG (zV (PV.w (zT C_taken_out hr (zD (pnV 1) (zD (PV.n (qZ T.fl_at (zK 0))) (zD (PV.n (qZ T.fl_many (zK 0))) zM)))))))
theorem sc_Narrow_came : FnScope ["self", "place"] ["self", "place"] (zF (inClass (top 24) 1)) := {}
theorem fok_Narrow_came {f : Addr} {fd : FuncData} (Fn : Fun K "came" "Narrow.came" (inClass (top 24) 1) f fd) (T : Glb K mg) (C_opened : Cal P w K mg base "opened" 1 3 GP.opened.f) : FnOk P w K mg base CX0 2 f fd ["self", "place"] (spF K 2 GP.Narrow_came.f) := by
 have nd := sc_Narrow_came.nd
 refine qC (k := 1) (g := GP.Narrow_came.g) Fn sc_Narrow_came (fun cdv A outer s H E hr => ?_) (fun ds r hl e => zO e)
 exact (zG (zV (PV.w (zT C_opened hr (zD (pnV 1) (zD (PV.n (qZ T.fl_at (zK 0))) (zD (PV.n (qZ T.fl_many (zK 0))) zM)))))))
theorem sc_Move_came : FnScope ["self", "place"] ["self", "place"] (zF (inClass (top 25) 1)) := {}
theorem fok_Move_came {f : Addr} {fd : FuncData} (Fn : Fun K "came" "Move.came" (inClass (top 25) 1) f fd) (T : Glb K mg)  : FnOk P w K mg base CX0 1 f fd ["self", "place"] (spF K 2 GP.Move_came.f) := by
 have nd := sc_Move_came.nd
 refine qC (k := 0) (g := GP.Move_came.g) Fn sc_Move_came (fun cdv A outer s H E hr => ?_) (fun ds r hl e => zO e)
 exact (zG (zV (PV.w (jN (zH 1) (PV.w (qZ T.fl_far (zK 0)))))))
theorem sc_Stretch_came : FnScope ["self", "place"] ["self", "place"] (zF (inClass (top 26) 1)) := {}
theorem fok_Stretch_came {f : Addr} {fd : FuncData} (Fn : Fun K "came" "Stretch.came" (inClass (top 26) 1) f fd) (T : Glb K mg)  : FnOk P w K mg base CX0 1 f fd ["self", "place"] (spF K 2 GP.Stretch_came.f) := by
 have nd := sc_Stretch_came.nd
 refine qC (k := 0) (g := GP.Stretch_came.g) Fn sc_Stretch_came (fun cdv A outer s H E hr => ?_) (fun ds r hl e => zO e)
 exact (zG (zV (PV.w (qR (PV.w (jP (zH 1) (PV.w (qZ T.fl_bottom (zK 0))))) (PV.w (qZ T.fl_top (zK 0)))))))
theorem sc_Mirror_came : FnScope ["self", "place"] ["self", "place"] (zF (inClass (top 27) 0)) := {}
theorem fok_Mirror_came {f : Addr} {fd : FuncData} (Fn : Fun K "came" "Mirror.came" (inClass (top 27) 0) f fd) (T : Glb K mg)  : FnOk P w K mg base CX0 1 f fd ["self", "place"] (spF K 2 GP.Mirror_came.f) := by
 have nd := sc_Mirror_came.nd
 refine qC (k := 0) (g := GP.Mirror_came.g) Fn sc_Mirror_came (fun cdv A outer s H E hr => ?_) (fun ds r hl e => zO e)
 exact (zG (zV (PV.w (yG (zK 1)))))
theorem sc_Stretch_went : FnScope ["self", "place", "least"] ["self", "place"] (zF (inClass (top 26) 2)) := {}
theorem fok_Stretch_went {f : Addr} {fd : FuncData} (Fn : Fun K "went" "Stretch.went" (inClass (top 26) 2) f fd) (T : Glb K mg) (M_least_from : MCal P w K mg base "least_from" 1 1 [4] GP.M_least_from_cfafed) (M_came : MCal P w K mg base "came" 2 1 [0, 1, 2, 3, 4, 5] GP.M_came_4e9d29) : FnOk P w K mg base CX0 3 f fd ["self", "place"] (spF K 2 GP.Stretch_went.f) := by
 have nd := sc_Stretch_went.nd
 refine qC (k := 2) (g := GP.Stretch_went.g) Fn sc_Stretch_went (fun cdv A outer s H E hr => ?_) (fun ds r hl e => zO e)
 exact (zE (qJ (i := 2) nd (xB M_least_from hr (zK 0) (zD (pnV 1) zM)))
  (zG (zV (PV.w (kI (yC hr (PV.n (xB M_came hr (zK 0) (zD (pnV 2) zM))) (pnV 1)) (zK 2) qD)))))
theorem sc_Mirror_went : FnScope ["self", "place"] ["self", "place"] (zF (inClass (top 27) 1)) := {}
theorem fok_Mirror_went {f : Addr} {fd : FuncData} (Fn : Fun K "went" "Mirror.went" (inClass (top 27) 1) f fd) (T : Glb K mg)  : FnOk P w K mg base CX0 1 f fd ["self", "place"] (spF K 2 GP.Mirror_went.f) := by
 have nd := sc_Mirror_went.nd
 refine qC (k := 0) (g := GP.Mirror_went.g) Fn sc_Mirror_went (fun cdv A outer s H E hr => ?_) (fun ds r hl e => zO e)
 exact (zG (zV (PV.w (yG (zK 1)))))
theorem sc_Line_do : FnScope ["self", "deed", "places", "name", "place"] ["self", "deed"] (zF (inClass (top 6) 1)) := {}
theorem fok_Line_do {f : Addr} {fd : FuncData} (Fn : Fun K "do" "Line.do" (inClass (top 6) 1) f fd) (T : Glb K mg) (M_step : LCal P w K mg base "step" 1 2 [11] (fun _ => GP.Line_step.f)) (M_done : MCal P w K mg base "done" 6 1 [0, 1, 2, 3, 4, 5] GP.M_done_4a08fd) (M_went : MCal P w K mg base "went" 3 1 [0, 1, 2, 3, 4, 5] GP.M_went_e39dd5) : FnOk P w K mg base CX0 7 f fd ["self", "deed"] (spL K 1 GP.Line_do.f) := by
 have nd := sc_Line_do.nd
 refine fun_okL (k := 6) (n := 1) (g := GP.Line_do.g) Fn sc_Line_do (fun cdv A outer s H E hr => ?_) (fun _ _ _ _ e => e)
 exact (zE (wG (i := 2) nd pvo_dnew)
  (zE (psv_forD PassesOwn.never rfl (pid_items (vS (kG T.fl_places (jG 0)))) (yJ (n := 2) rfl (zY (qA (i := 3) nd) (zY (qA (i := 4) nd) jS))) (zG (psv_dput hr (jG 2) (zK 3) (kI (vB (pnV 4) (PV.n qD)) qD (xB M_went hr (zK 1) (zD (pnV 4) zM))))))
  (zG (psv_frzD (i := 2) (psv_lent M_step hr (jG 0) (zC (xB M_done hr (zK 1) (zD (PV.n (vS (kG T.fl_pieces (jG 0)))) zM)) (zC (zK 2) zL)))))))
theorem sc_Line_told : FnScope ["self"] ["self"] (zF (inClass (top 6) 7)) := {}
theorem fok_Line_told {f : Addr} {fd : FuncData} (Fn : Fun K "told" "Line.told" (inClass (top 6) 7) f fd) (T : Glb K mg)  : FnOk P w K mg base CX0 1 f fd ["self"] (spF K 1 GP.Line_told.f) := by
 have nd := sc_Line_told.nd
 refine qC (k := 0) (g := GP.Line_told.g) Fn sc_Line_told (fun cdv A outer s H E hr => ?_) (fun ds r hl e => zO e)
 exact (zG (jR (xS T.b_list (PV.w (qZ T.fl_pieces (zK 0))))))
theorem sc_Deed___init__ : FnScope ["self"] ["self"] (zF (inClass (top 21) 0)) := {}
theorem fok_Deed___init__ {f : Addr} {fd : FuncData} (Fn : Fun K "__init__" "Deed.__init__" (inClass (top 21) 0) f fd) (T : Glb K mg)  : FnOk P w K mg base CX0 1 f fd ["self"] (spN K 0 ["fill"] GP.Deed___init__.f) := by
 have nd := sc_Deed___init__.nd
 refine wB (k := 0) (n := 0) (m := 1) (g := GP.Deed___init__.i) Fn sc_Deed___init__ (fun cdv A outer s H E hr => ?_) rfl (by decide) rfl
 exact (xW (yZ qD))
theorem sc_Put___init__ : FnScope ["self", "span", "value"] ["self", "span", "value"] (zF (inClass (top 22) 0)) := {}
theorem fok_Put___init__ {f : Addr} {fd : FuncData} (Fn : Fun K "__init__" "Put.__init__" (inClass (top 22) 0) f fd) (T : Glb K mg)  : FnOk P w K mg base CX0 1 f fd ["self", "span", "value"] (spN K 2 ["span", "fill"] GP.Put___init__.f) := by
 have nd := sc_Put___init__.nd
 refine wB (k := 0) (n := 2) (m := 3) (g := GP.Put___init__.i) Fn sc_Put___init__ (fun cdv A outer s H E hr => ?_) rfl (by decide) rfl
 exact (jJ (ns := ["span"]) (ms := ["fill"]) (yZ (qS (zC (qE (zH 1) pwI) (zC (qE (zH 1) pwI) zL))))
  (xW (yZ (zK 2))))
theorem sc_check_many : FnScope ["many"] ["many"] (zF (top 28)) := {}
theorem fok_check_many {f : Addr} {fd : FuncData} (Fn : Fun K "check_many" "check_many" (top 28) f fd) (T : Glb K mg)  : FnOk P w K mg base CX0 1 f fd ["many"] (spF K 1 GP.check_many.f) := by
 have nd := sc_check_many.nd
 refine qC (k := 0) (g := GP.check_many.g) Fn sc_check_many (fun cdv A outer s H E hr => ?_) (fun ds r hl e => zO e)
 exact (zG (qN (pt_lt (zH 0) pwI) (zG psv_never) zX))
theorem sc_Widen___init__ : FnScope ["self", "at", "many"] ["self", "at", "many"] (zF (inClass (top 23) 0)) := {}
theorem fok_Widen___init__ {f : Addr} {fd : FuncData} (Fn : Fun K "__init__" "Widen.__init__" (inClass (top 23) 0) f fd) (T : Glb K mg) (C_check_many : Cal P w K mg base "check_many" 1 1 GP.check_many.f) (S_Deed : SCal P w K mg base "Deed" 1 ["fill"] GP.Deed___init__.f) : FnOk P w K mg base CX0 2 f fd ["self", "at", "many"] (spN K 2 ["fill", "at", "many"] GP.Widen___init__.f) := by
 have nd := sc_Widen___init__.nd
 refine wB (k := 1) (n := 2) (m := 3) (g := GP.Widen___init__.i) Fn sc_Widen___init__ (fun cdv A outer s H E hr => ?_) rfl (by decide) rfl
 exact (jJ (ns := []) (ms := ["fill", "at", "many"]) (vG (zT C_check_many hr (zD (pnV 2) zM)))
  (jJ (ns := ["fill"]) (ms := ["at", "many"]) (pi_sup S_Deed hr)
  (jJ (ns := ["at"]) (ms := ["many"]) (yZ (zK 1))
  (xW (yZ (zK 2))))))
theorem sc_Narrow___init__ : FnScope ["self", "at", "many"] ["self", "at", "many"] (zF (inClass (top 24) 0)) := {}
theorem fok_Narrow___init__ {f : Addr} {fd : FuncData} (Fn : Fun K "__init__" "Narrow.__init__" (inClass (top 24) 0) f fd) (T : Glb K mg) (C_check_many : Cal P w K mg base "check_many" 1 1 GP.check_many.f) (S_Deed : SCal P w K mg base "Deed" 1 ["fill"] GP.Deed___init__.f) : FnOk P w K mg base CX0 2 f fd ["self", "at", "many"] (spN K 2 ["fill", "at", "many"] GP.Widen___init__.f) := by
 have nd := sc_Narrow___init__.nd
 refine wB (k := 1) (n := 2) (m := 3) (g := GP.Widen___init__.i) Fn sc_Narrow___init__ (fun cdv A outer s H E hr => ?_) rfl (by decide) rfl
 exact (jJ (ns := []) (ms := ["fill", "at", "many"]) (vG (zT C_check_many hr (zD (pnV 2) zM)))
  (jJ (ns := ["fill"]) (ms := ["at", "many"]) (pi_sup S_Deed hr)
  (jJ (ns := ["at"]) (ms := ["many"]) (yZ (zK 1))
  (xW (yZ (zK 2))))))
theorem sc_Move___init__ : FnScope ["self", "far"] ["self", "far"] (zF (inClass (top 25) 0)) := {}
theorem fok_Move___init__ {f : Addr} {fd : FuncData} (Fn : Fun K "__init__" "Move.__init__" (inClass (top 25) 0) f fd) (T : Glb K mg) (S_Deed : SCal P w K mg base "Deed" 1 ["fill"] GP.Deed___init__.f) : FnOk P w K mg base CX0 2 f fd ["self", "far"] (spN K 1 ["fill", "far"] GP.Move___init__.f) := by
 have nd := sc_Move___init__.nd
 refine wB (k := 1) (n := 1) (m := 2) (g := GP.Move___init__.i) Fn sc_Move___init__ (fun cdv A outer s H E hr => ?_) rfl (by decide) rfl
 exact (jJ (ns := ["fill"]) (ms := ["far"]) (pi_sup S_Deed hr)
  (xW (yZ (zK 1))))
theorem sc_check_share : FnScope ["number"] ["number"] (zF (top 29)) := {}
theorem fok_check_share {f : Addr} {fd : FuncData} (Fn : Fun K "check_share" "check_share" (top 29) f fd) (T : Glb K mg)  : FnOk P w K mg base CX0 1 f fd ["number"] (spF K 1 GP.check_share.f) := by
 have nd := sc_check_share.nd
 refine qC (k := 0) (g := GP.check_share.g) Fn sc_check_share (fun cdv A outer s H E hr => ?_) (fun ds r hl e => zO e)
 exact (zG (qN (PWv.t (pwv_or (pt_lt (zH 0) pwI) (pwv_or1 (pt_gt (zH 0) (PV.w (pv_globI T.c_MOST_SHARE)))))) (zG psv_never) zX))
theorem sc_Stretch___init__ : FnScope ["self", "top", "bottom"] ["self", "top", "bottom"] (zF (inClass (top 26) 0)) := {}
theorem fok_Stretch___init__ {f : Addr} {fd : FuncData} (Fn : Fun K "__init__" "Stretch.__init__" (inClass (top 26) 0) f fd) (T : Glb K mg) (C_check_share : Cal P w K mg base "check_share" 1 1 GP.check_share.f) (S_Deed : SCal P w K mg base "Deed" 1 ["fill"] GP.Deed___init__.f) : FnOk P w K mg base CX0 2 f fd ["self", "top", "bottom"] (spN K 2 ["fill", "top", "bottom"] GP.Stretch___init__.f) := by
 have nd := sc_Stretch___init__.nd
 refine wB (k := 1) (n := 2) (m := 3) (g := GP.Stretch___init__.i) Fn sc_Stretch___init__ (fun cdv A outer s H E hr => ?_) rfl (by decide) rfl
 exact (jJ (ns := []) (ms := ["fill", "top", "bottom"]) (vG (zT C_check_share hr (zD (pnV 1) zM)))
  (jJ (ns := []) (ms := ["fill", "top", "bottom"]) (vG (zT C_check_share hr (zD (pnV 2) zM)))
  (jJ (ns := ["fill"]) (ms := ["top", "bottom"]) (pi_sup S_Deed hr)
  (jJ (ns := ["top"]) (ms := ["bottom"]) (yZ (zK 1))
  (xW (yZ (zK 2)))))))
theorem sc__law_cell_at : FnScope ["_law_script", "_law_k"] ["_law_script", "_law_k"] (zF (top 36)) := {}
theorem fok__law_cell_at {f : Addr} {fd : FuncData} (Fn : Fun K "_law_cell_at" "_law_cell_at" (top 36) f fd) (T : Glb K mg)  : FnOk P w K mg base CX0 1 f fd ["_law_script", "_law_k"] (spF K 2 GL.cell_at.f) := by
 have nd := sc__law_cell_at.nd
 refine qC (k := 0) (g := GL.cell_at.g) Fn sc__law_cell_at (fun cdv A outer s H E hr => ?_) (fun ds r hl e => zO e)
 exact (zE (qN (pt_lt (zH 1) (PV.w (pv_len T.b_len (jW (zH 0) xH)))) (zG (zV (PV.w (qE (zH 0) (zH 1))))) zX)
  (zG (zV pwI)))
theorem sc__law_map : FnScope ["_law_cells", "_law_pieces", "_law_behind", "_law_cell", "_law_rest", "_law_low", "_law_far", "_law_value"] ["_law_cells"] (zF (top 37)) := {}
theorem fok__law_map {f : Addr} {fd : FuncData} (Fn : Fun K "_law_map" "_law_map" (top 37) f fd) (T : Glb K mg)  : FnOk P w K mg base CX0 1 f fd ["_law_cells"] (spF K 1 GL.map2.f) := by
 have nd := sc__law_map.nd
 refine qC (k := 0) (g := GL.map2.g) Fn sc__law_map (fun cdv A outer s H E hr => ?_) (fun ds r hl e => zO e)
 exact (zE (yH (i := 1) nd (qO zL))
  (zE (qJ (i := 2) nd qH)
  (zE (wZ PassesOwn.never rfl (yB (zK 0)) (qA (i := 3) nd) (zE (qJ (i := 4) nd (qR (zH 3) pwI))
  (zE (qJ (i := 5) nd (qF (zH 2) (PV.w (qE (PV.w (PVf.s (qO (zC qH (zC qH (zC (qF pwI (PV.w (zZ (zH 4) pwI))) (zC (zZ (zH 4) (PV.w (jO pwI pwI))) zL))))))) (PV.w (zZ (zH 3) pwI))))))
  (zE (qN (yC hr (pnV 1) (PV.n (PVf.s (qO zL)))) (zE (qJ (i := 6) nd (jP pwI (PV.w (jO (PV.w (jO pwI pwI)) pwI))))
  (zG (qJ (i := 5) nd (qE (PV.w (PVf.s (qO (zC (jN (PV.w (zZ (zH 4) pwI)) pwI) (zC (zZ (zH 4) (PV.w (jO pwI pwI))) (zC (qF (zH 6) (PV.w (zZ (zH 4) (PV.w (jO pwI pwI))))) (zC (jN pwI (zH 6)) zL))))))) (PV.w (zZ (zH 3) pwI)))))) zX)
  (zE (qJ (i := 7) nd (qE (PV.w (PVf.s (qO (zC qH (zC qH (zC (jN (PV.w (zZ (zH 4) pwI)) pwI) (zC (jN (PV.w (zZ (PV.w (jP (zH 4) pwI)) (PV.w (qF (PV.w (jO pwI pwI)) pwI)))) (PV.w (jO pwI pwI))) (zC qH zL)))))))) (PV.w (zZ (PV.w (qR (zH 3) pwI)) pwI))))
  (zE (qN (PWv.t (xC (pt_ne hr (pnV 1) (PV.n (PVf.s (qO zL)))) (xC (yC hr (pnV 5) (pnV 2)) (xJ (yC hr (pnV 7) (PV.n (qE (PV.w (qE (zH 1) (PV.w (yG qH)))) pwI))))))) (zG (qJ (i := 7) nd (qF (zH 7) pwI))) zX)
  (zE (qJ (i := 2) nd (qF (zH 5) (PV.w (qE (PV.w (PVf.s (qO (zC qH (zC (qF pwI (PV.w (zZ (PV.w (qR (zH 4) pwI)) pwI))) (zC (qF pwI (PV.w (zZ (PV.w (jP (zH 4) pwI)) (PV.w (qF (PV.w (jO pwI pwI)) pwI))))) zL)))))) (PV.w (zZ (PV.w (qR (zH 3) pwI)) pwI))))))
  (zG (wX (i := 1) (qS (zC (zK 5) (zC (zK 2) (zC (zK 7) zL)))))))))))))
  (zE (qN (PWv.t (xC (pt_ne hr (pnV 1) (PV.n (PVf.s (qO zL)))) (xJ (yC hr (PV.n (zZ (PV.w (qR (PV.w (qE (zH 0) pwI)) pwI)) pwI)) pnI)))) (zG (vQ (i := 1) (qS (zC qD (zC (qE (PV.w (qE (zH 1) pwI)) pwI) (zC (qE (PV.w (qE (zH 1) pwI)) pwI) zL)))) qH)) zX)
  (zE (qN (PWv.t (xC (pt_ne hr (pnV 1) (PV.n (PVf.s (qO zL)))) (xJ (yC hr (PV.n (zZ (PV.w (qR (PV.w (qE (zH 0) (PV.w (yG qH)))) pwI)) pwI)) pnI)))) (zG (vQ (i := 1) (qS (zC (qE (PV.w (qE (zH 1) (PV.w (yG qH)))) pwI) (zC qD (zC (qE (PV.w (qE (zH 1) (PV.w (yG qH)))) pwI) zL)))) (yG qH))) zX)
  (zG (wH 1)))))))
theorem sc__law_place : FnScope ["_law_cell", "_law_known", "_law_rest"] ["_law_cell", "_law_known"] (zF (top 38)) := {}
theorem fok__law_place {f : Addr} {fd : FuncData} (Fn : Fun K "_law_place" "_law_place" (top 38) f fd) (T : Glb K mg)  : FnOk P w K mg base CX0 1 f fd ["_law_cell", "_law_known"] (spF K 2 GL.place2.f) := by
 have nd := sc__law_place.nd
 refine qC (k := 0) (g := GL.place2.g) Fn sc__law_place (fun cdv A outer s H E hr => ?_) (fun ds r hl e => zO e)
 exact (zE (qJ (i := 2) nd (qR (zH 0) pwI))
  (zE (qN (yC hr (PV.n (zZ (zH 0) pwI)) pnI) (zG (zV (PV.w (jN (PV.w (zZ (zH 2) (PV.w (qF (PV.w (jP pwI (PV.w (jO pwI pwI)))) pwI)))) (PV.w (jO pwI pwI)))))) zX)
  (zE (qN (PWv.t (xC (yC hr (PV.n (zZ (zH 0) pwI)) pnI) (xJ (pt_ne hr (pnV 1) (PV.n (PVf.s (qO zL))))))) (zG (zV (PV.w (jN (PV.w (qF (PV.w (qE (zH 1) (PV.w (zZ (zH 2) (PV.w (pv_len T.b_len (jW (zH 1) xH))))))) (PV.w (zZ (PV.w (qR (zH 2) (PV.w (pv_len T.b_len (jW (zH 1) xH))))) pwI)))) pwI)))) zX)
  (zG (zV (PV.w (jN (PV.w (zZ (zH 2) pwI)) pwI)))))))
theorem sc__law_many : FnScope ["_law_cell"] ["_law_cell"] (zF (top 39)) := {}
theorem fok__law_many {f : Addr} {fd : FuncData} (Fn : Fun K "_law_many" "_law_many" (top 39) f fd) (T : Glb K mg)  : FnOk P w K mg base CX0 1 f fd ["_law_cell"] (spF K 1 GL.many.f) := by
 have nd := sc__law_many.nd
 refine qC (k := 0) (g := GL.many.g) Fn sc__law_many (fun cdv A outer s H E hr => ?_) (fun ds r hl e => zO e)
 exact (zG (zV (PV.w (qE (PV.w (PVf.s (qO (zC (zZ (PV.w (qR (zH 0) pwI)) pwI) (zC (zZ (PV.w (qR (zH 0) pwI)) (PV.w (jO pwI pwI))) (zC (zZ (PV.w (qR (zH 0) pwI)) pwI) zL)))))) (PV.w (zZ (zH 0) pwI))))))
theorem sc__law_share : FnScope ["_law_cell"] ["_law_cell"] (zF (top 40)) := {}
theorem fok__law_share {f : Addr} {fd : FuncData} (Fn : Fun K "_law_share" "_law_share" (top 40) f fd) (T : Glb K mg)  : FnOk P w K mg base CX0 1 f fd ["_law_cell"] (spF K 1 GL.share.f) := by
 have nd := sc__law_share.nd
 refine qC (k := 0) (g := GL.share.g) Fn sc__law_share (fun cdv A outer s H E hr => ?_) (fun ds r hl e => zO e)
 exact (zG (zV (PV.w (qF pwI (PV.w (zZ (PV.w (qR (zH 0) pwI)) (PV.w (qE (PV.w (PVf.s (qO (zC qH (zC qH zL))))) (PV.w (zZ (zH 0) pwI))))))))))
theorem sc__law_span : FnScope ["_law_at", "_law_cell", "_law_size"] ["_law_at", "_law_cell"] (zF (top 41)) := {}
theorem fok__law_span {f : Addr} {fd : FuncData} (Fn : Fun K "_law_span" "_law_span" (top 41) f fd) (T : Glb K mg) (C__law_many : Cal P w K mg base "_law_many" 1 1 GL.many.f) : FnOk P w K mg base CX0 2 f fd ["_law_at", "_law_cell"] (spF K 2 GL.span3.f) := by
 have nd := sc__law_span.nd
 refine qC (k := 1) (g := GL.span3.g) Fn sc__law_span (fun cdv A outer s H E hr => ?_) (fun ds r hl e => zO e)
 exact (zE (qJ (i := 2) nd (qF pwI (PV.w (zT C__law_many hr (zD (PV.n (qR (zH 1) pwI)) zM)))))
  (zE (qN (pt_gt (PV.w (zZ (zH 1) pwI)) pwI) (zG (zV (PV.w (qE (PV.w (PVf.s (qO (zC (qS (zC (zK 0) (zC qD zL))) (zC (qS (zC qD (zC (zK 0) zL))) (zC (qS (zC qD (zC qD zL))) zL)))))) (PV.w (jN (PV.w (zZ (zH 1) pwI)) pwI)))))) zX)
  (zG (zV (PV.w (qS (zC (zK 0) (zC (qF (zH 0) (zH 2)) zL))))))))
theorem sc__law_row : FnScope ["_law_a", "_law_b", "_law_c", "_law_known", "_law_at", "_law_value"] ["_law_a", "_law_b", "_law_c", "_law_known"] (zF (top 42)) := {}
theorem fok__law_row {f : Addr} {fd : FuncData} (Fn : Fun K "_law_row" "_law_row" (top 42) f fd) (T : Glb K mg) (C__law_place : Cal P w K mg base "_law_place" 1 2 GL.place2.f) (C__law_span : Cal P w K mg base "_law_span" 2 2 GL.span3.f) (C__law_many : Cal P w K mg base "_law_many" 1 1 GL.many.f) (C__law_share : Cal P w K mg base "_law_share" 1 1 GL.share.f) : FnOk P w K mg base CX0 3 f fd ["_law_a", "_law_b", "_law_c", "_law_known"] (spF K 4 GL.row2.f) := by
 have nd := sc__law_row.nd
 refine qC (k := 2) (g := GL.row2.g) Fn sc__law_row (fun cdv A outer s H E hr => ?_) (fun ds r hl e => zO e)
 exact (zE (qJ (i := 4) nd (zT C__law_place hr (zD (pnV 1) (zD (pnV 3) zM))))
  (zE (qN (yC hr (PV.n (zZ (zH 0) pwI)) pnI) (zG (zV (PV.w (qS (zC yT (zC (zK 4) (zC (zT C__law_many hr (zD (pnV 2) zM)) zL))))))) zX)
  (zE (qN (yC hr (PV.n (zZ (zH 0) pwI)) pnI) (zG (zV (PV.w (qS (zC yT (zC (zK 4) (zC (zT C__law_many hr (zD (pnV 2) zM)) zL))))))) zX)
  (zE (qN (yC hr (PV.n (zZ (zH 0) pwI)) pnI) (zG (zV (PV.w (qS (zC yT (zC (zK 4) (zC qH zL))))))) zX)
  (zE (qN (yC hr (PV.n (zZ (zH 0) pwI)) pnI) (zG (zV (PV.w (qS (zC yT (zC (zT C__law_share hr (zD (pnV 1) zM)) (zC (zT C__law_share hr (zD (pnV 2) zM)) zL))))))) zX)
  (zE (qN (yC hr (PV.n (zZ (zH 0) pwI)) pnI) (zG (zV (PV.w (qS (zC yT (zC qH (zC qH zL))))))) zX)
  (zE (qJ (i := 5) nd (qE (PV.w (PVf.s (qO (zC qD (zC qH (zC qH (zC (jN (PV.w (zZ (PV.w (qR (zH 0) pwI)) (PV.w (qF (PV.w (jP pwI (PV.w (jO pwI pwI)))) pwI)))) (PV.w (jO pwI pwI))) (zC qH zL)))))))) (PV.w (zZ (PV.w (qR (zH 0) pwI)) pwI))))
  (zG (zV (PV.w (qS (zC yT (zC (zT C__law_span hr (zD (pnV 4) (zD (pnV 2) zM))) (zC (zK 5) zL))))))))))))))
theorem sc__law_made : FnScope ["_law_row_here", "_law_kind", "_law_one", "_law_other"] ["_law_row_here"] (zF (top 43)) := {}
theorem fok__law_made {f : Addr} {fd : FuncData} (Fn : Fun K "_law_made" "_law_made" (top 43) f fd) (T : Glb K mg) (Mk_Mirror : MkC P w K mg base 5 1 0 GP.Deed___init__.f) (Mk_Put : MkC P w K mg base 0 1 2 GP.Put___init__.f) (Mk_Widen : MkC P w K mg base 1 2 2 GP.Widen___init__.f) (Mk_Narrow : MkC P w K mg base 2 2 2 GP.Widen___init__.f) (Mk_Move : MkC P w K mg base 3 2 1 GP.Move___init__.f) (Mk_Stretch : MkC P w K mg base 4 2 2 GP.Stretch___init__.f) : FnOk P w K mg base CX0 4 f fd ["_law_row_here"] (spF K 1 GL.made4.f) := by
 have nd := sc__law_made.nd
 refine qC (k := 3) (g := GL.made4.g) Fn sc__law_made (fun cdv A outer s H E hr => ?_) (fun ds r hl e => zO e)
 exact (zE (psv_asg (zK 0) (yJ (n := 3) rfl (zY (qA (i := 1) nd) (zY (qA (i := 2) nd) (zY (qA (i := 3) nd) jS)))))
  (zE (qN (yC hr (pnV 1) (PV.n yT)) (zG (yV (xV Mk_Put hr (zD (pnV 2) (zD (pnV 3) zM))))) zX)
  (zE (qN (yC hr (pnV 1) (PV.n yT)) (zG (yV (xV Mk_Widen hr (zD (pnV 2) (zD (pnV 3) zM))))) zX)
  (zE (qN (yC hr (pnV 1) (PV.n yT)) (zG (yV (xV Mk_Narrow hr (zD (pnV 2) (zD (pnV 3) zM))))) zX)
  (zE (qN (yC hr (pnV 1) (PV.n yT)) (zG (yV (xV Mk_Move hr (zD (pnV 2) zM)))) zX)
  (zE (qN (yC hr (pnV 1) (PV.n yT)) (zG (yV (xV Mk_Stretch hr (zD (pnV 2) (zD (pnV 3) zM))))) zX)
  (zG (yV (pvd_make0 Mk_Mirror hr)))))))))
theorem sc__law_ends : FnScope ["_law_pieces", "_law_ends_here"] ["_law_pieces"] (zF (top 44)) := {}
theorem fok__law_ends {f : Addr} {fd : FuncData} (Fn : Fun K "_law_ends" "_law_ends" (top 44) f fd) (T : Glb K mg)  : FnOk P w K mg base CX0 1 f fd ["_law_pieces"] (spF K 1 K51.L_ends.f) := by
 have nd := sc__law_ends.nd
 have nI0 : (["_law_low", "_law_behind", "_law_value"] : List Str).Nodup := by decide +kernel
 have nI1 : (["_law_low", "_law_behind", "_law_value"] : List Str).Nodup := by decide +kernel
 refine qC (k := 0) (g := K51.L_ends.g) Fn sc__law_ends (fun cdv A outer s H E hr => ?_) (fun ds r hl e => zO e)
 exact (zE (psv_compV (i := 1) nd (NY := ["_law_low", "_law_behind", "_law_value"]) (mp := [none, none, none]) (jK (by kernel_rfl)) rfl (yB (zK 0)) (fun c => (yJ (n := 3) rfl (zY (qA (i := 0) nI0) (zY (qA (i := 1) nI0) (zY (qA (i := 2) nI0) jS))))) (fun c => (pfv_one (xL (pnV 0) (PV.n qD)))) (fun c => (zK 0)))
  (zG (jR (pvf_cat (zH 1) (PV.w (PVf.s (xM (NY := ["_law_low", "_law_behind", "_law_value"]) (mp := [none, none, none]) (jK (by kernel_rfl)) rfl (yB (zK 0)) (fun c => (yJ (n := 3) rfl (zY (qA (i := 0) nI1) (zY (qA (i := 1) nI1) (zY (qA (i := 2) nI1) jS))))) (fun c => (pfv_one (xL (pnV 1) (PV.n qD)))) (fun c => (zK 1)))))))))
theorem sc__law_tells : FnScope ["_law_line", "_law_due", "_law_kept", "_law_way", "_law_told"] ["_law_line", "_law_due", "_law_kept", "_law_way"] (zF (top 45)) := {}
theorem fok__law_tells {f : Addr} {fd : FuncData} (Fn : Fun K "_law_tells" "_law_tells" (top 45) f fd) (T : Glb K mg) (M_told : MCal P w K mg base "told" 1 0 [11] GP.M_told_a117be) : FnOk P w K mg base CX0 2 f fd ["_law_line", "_law_due", "_law_kept", "_law_way"] (spR K 4 2 K51.L_tells.f) := by
 have nd := sc__law_tells.nd
 refine fun_okR (k := 1) (p := 2) (g := K51.L_tells.g) Fn sc__law_tells (fun cdv A outer s H E hr => ?_) (fun _ _ _ _ e => e)
 exact (wJ (yH (i := 4) nd (wU M_told hr (zK 0) ))
  (prv_if (PWv.t (pwv_or (ptv_not (PVn.t (PV.n (pv_isi T.b_isinstance T.b_list (by decide +kernel) (zH 4))))) (pwv_or1 (pt_ne hr (pnV 4) (pnV 1))))) (prv_ret (pvx_v pv_bl))
  (wJ (qN (yC hr (pnV 3) pnI) (zE (wX (i := 4) (qS (zC qH (zC qH (zC qH zL)))))
  (zG (yH (i := 4) nd (wU M_told hr (zK 0) )))) zX)
  (wJ (qN (yC hr (pnV 3) pnI) (zE (psv_clr (i := 4))
  (zG (yH (i := 4) nd (wU M_told hr (zK 0) )))) zX)
  (prv_take (i := 2) (k := 4) (xS T.b_list (zH 1)) (pv_and (pv_isi T.b_isinstance T.b_list (by decide +kernel) (zH 4)) (kH (pv_eq hr (pnV 4) (pnV 1)))))))))
theorem sc__law_both : FnScope ["_law_lines", "_law_dues", "_law_kept", "_law_way", "_law_order"] ["_law_lines", "_law_dues", "_law_kept", "_law_way"] (zF (top 46)) := {}
theorem fok__law_both {f : Addr} {fd : FuncData} (Fn : Fun K "_law_both" "_law_both" (top 46) f fd) (T : Glb K mg) (C__law_tells : CalR P w K mg base "_law_tells" 2 4 2 K51.L_tells.f) : FnOk P w K mg base CX0 3 f fd ["_law_lines", "_law_dues", "_law_kept", "_law_way"] (spR K 4 2 K51.L_both.f) := by
 have nd := sc__law_both.nd
 have nI0 : (["_law_k", "_law_kept", "_law_lines", "_law_dues", "_law_way"] : List Str).Nodup := by decide +kernel
 refine fun_okR (k := 2) (p := 2) (g := K51.L_both.g) Fn sc__law_both (fun cdv A outer s H E hr => ?_) (fun _ _ _ _ e => e)
 exact (wJ (qJ (i := 4) nd (qE (PV.w (PVf.s (qO (zC (PVf.s (qO (zC qH (zC qH zL)))) (zC (PVf.s (qO (zC qH (zC qH zL)))) zL))))) (PV.w (zZ (zH 3) pwI))))
  (prv_ret (pvx_all rfl T.b_all (pvx_comp (NY := ["_law_k", "_law_kept", "_law_lines", "_law_dues", "_law_way"]) (mp := [none, some 2, some 0, some 1, some 3]) (i := 2) (p := 1) (jK (by kernel_rfl)) rfl (yB (zK 4)) (fun c => (qA (i := 0) nI0)) (fun c => (wN C__law_tells hr (yW (qE (zH 2) (zH 0)) (yW (qE (zH 3) (zH 0)) (vW (i := 1) (zC (zZ (PV.w (qR (zH 4) pwI)) pwI) zL))))))))))
theorem sc_law : FnScope ["_law_script", "_law_many_here", "_law_pieces", "_law_handed", "_law_lines", "_law_dues", "_law_kept", "_law_cells", "_law_k", "_law_which", "_law_row_here", "_law_deed", "_law_j"] ["_law_script"] (zF (top 47)) := {}
theorem fok_law {f : Addr} {fd : FuncData} (Fn : Fun K "law" "law" (top 47) f fd) (T : Glb K mg) (C__law_map : Cal P w K mg base "_law_map" 1 1 GL.map2.f) (C__law_cell_at : Cal P w K mg base "_law_cell_at" 1 2 GL.cell_at.f) (C__law_both : CalR P w K mg base "_law_both" 3 4 2 K51.L_both.f) (C__law_row : Cal P w K mg base "_law_row" 3 4 GL.row2.f) (C__law_made : Cal P w K mg base "_law_made" 4 1 GL.made4.f) (C__law_ends : Cal P w K mg base "_law_ends" 1 1 K51.L_ends.f) (M_done : MCal P w K mg base "done" 6 1 [0, 1, 2, 3, 4, 5] GP.M_done_4a08fd) (M_do : LCal P w K mg base "do" 7 1 [11] (fun _ => GP.Line_do.f)) (Mk_Line_0 : LMk P w K mg base 20 1 1 0 K51.P_Line___init__.f) (Mk_Line_1 : LMk P w K mg base 20 1 1 1 K51.P_Line___init__.f) : FnOk P w K mg base CX0 8 f fd ["_law_script"] (spF K 1 K51.law.f) := by
 have nd := sc_law.nd
 have nI0 : (["_law_told", "_law_due"] : List Str).Nodup := by decide +kernel
 refine qC (k := 7) (g := K51.law.g) Fn sc_law (fun cdv A outer s H E hr => ?_) (fun ds r hl e => zO e)
 exact (zE (qJ (i := 1) nd (zZ (PV.w (zT C__law_cell_at hr (zD (pnV 0) (zD pnI zM)))) pwI))
  (zE (qJ (i := 2) nd (zT C__law_map hr (zD (PV.n (PVf.s (pvf_slice (zH 0) (pov_so pwI) (pov_so (PV.w (qF pwI (zH 1))))))) zM)))
  (zE (wG (i := 3) nd (pvo_l (xS T.b_list (zH 2))))
  (zE (wG (i := 4) nd (pvo_s (pao_cons (pvo_relZ 3 (pvo_make Mk_Line_0 hr (zC (zK 3) zL))) (pao_cons (pvo_make0 Mk_Line_1 hr) xY))))
  (zE (psv_frzP (i := 4) (p := [0, 0]) (psv_frzP (i := 4) (p := [1, 0]) (yH (i := 5) nd (qO (zC (zK 2) (zC (PVf.s (qO zL)) zL))))))
  (zE (wG (i := 6) nd (pvo_s xY))
  (zE (qN (yC hr (PV.n (zZ (PV.w (qR (PV.w (zT C__law_cell_at hr (zD (pnV 0) (zD pnI zM)))) pwI)) pwI)) pnI) (zG (psv_clrP (jG 3))) zX)
  (zE (psv_appP (jG 3) (qS (zC qH (zC qH (zC qH zL)))))
  (zE (psv_ifNR (pvx_look 6 (wN C__law_both hr (yW (zK 4) (yW (zK 5) (vW (i := 6) (zC (qR (PV.w (zT C__law_cell_at hr (zD (pnV 0) (zD pnI zM)))) pwI) zL)))))) (zG (zV (PV.w pv_bl))) zX)
  (zE (qJ (i := 7) nd (PVf.s (pvf_slice (zH 0) (pov_so (PV.w (qF pwI (zH 1)))) (pov_so (PV.w (qF pwI (zH 1)))))))
  (zE (wZ PassesOwn.never rfl (piv_range1 T.b_range (qR (PV.w (pv_len T.b_len (jW (zH 7) xH))) pwI)) (qA (i := 8) nd) (zE (qJ (i := 9) nd (zZ (PV.w (qR (PV.w (qE (zH 7) (PV.w (qF (PV.w (jP pwI (zH 8))) pwI)))) pwI)) pwI))
  (zE (qJ (i := 10) nd (zT C__law_row hr (zD (PV.n (qE (zH 7) (PV.w (jP pwI (zH 8))))) (zD (PV.n (qE (zH 7) (PV.w (qF (PV.w (jP pwI (zH 8))) pwI)))) (zD (PV.n (qE (zH 7) (PV.w (qF (PV.w (jP pwI (zH 8))) pwI)))) (zD (PV.n (zT C__law_ends hr (zD (PV.n (qE (zH 5) (zH 9))) zM))) zM))))))
  (zE (qJ (i := 11) nd (zT C__law_made hr (zD (pnV 10) zM)))
  (zE (wZ PassesOwn.never rfl (yB (qE (PV.w (PVf.s (qO (zC (PVf.s (qO (zC (zK 9) zL))) (zC (PVf.s (qO (zC (zK 9) (zC (jN pwI (zH 9)) zL)))) zL))))) (PV.w (zZ (PV.w (qR (PV.w (qE (zH 7) (PV.w (qF (PV.w (jP pwI (zH 8))) pwI)))) pwI)) pwI)))) (qA (i := 12) nd) (zE (vQ (i := 5) (xB M_done hr (zT C__law_made hr (zD (pnV 10) zM)) (zD (PV.n (PVf.s (xS T.b_list (PV.w (qE (zH 5) (zH 12)))))) zM)) (zK 12))
  (zG (psv_ifLent M_do hr (pvp_ixV (i := 12) (jG 4)) (zC (zK 11) zL) zX))))
  (zG (psv_ifNR (pvx_look 6 (wN C__law_both hr (yW (zK 4) (yW (zK 5) (vW (i := 6) (zC (qR (PV.w (qE (zH 7) (PV.w (qF (PV.w (jP pwI (zH 8))) pwI)))) pwI) zL)))))) (zG (zV (PV.w pv_bl))) zX)))))))
  (zG (zV (PV.w (pv_all rfl T.b_all (jW (PV.w (PVf.s (pvf_relO 6 (xM (NY := ["_law_told", "_law_due"]) (mp := [none, none]) (jK (by kernel_rfl)) rfl (yB (zK 6)) (fun c => (yJ (n := 2) rfl (zY (qA (i := 0) nI0) (zY (qA (i := 1) nI0) jS)))) (fun c => vP) (fun c => (pv_eq hr (pnV 0) (pnV 1))))))) xH))))))))))))))))
end
end K51
namespace K51
open PySem PyProof.Rows L2 FL
open Builtin.Int (intBits)
noncomputable def kpT (p : List Rw) : OT := .tup [.lst ((p.map rwD).map .val), .lst ((p.map rwD).map .val)]
theorem rt_told (p : List Rw) (e l : List OT) : (methR 0 [11] GP.M_told_a117be (otD (lnM p [] e l)) []).bind retF = some (p.map rwD) := by rw [toldM]; rfl
theorem told_at (p : List Rw) (e l : List OT) (A1 A2 A3 A4 : Sl) : setOG 4 (methF 0 [11] GP.M_told_a117be (qB 0) zQ) [.v (otD (lnM p [] e l)), A1, A2, A3, A4] = some (.nx [.v (otD (lnM p [] e l)), A1, A2, A3, .own (p.map rwD)]) := by
 have h := rt_told p e l
 generalize otD (lnM p [] e l) = T at *
 generalize p.map rwD = R at *
 simp [methF, zQ, h]
theorem tells_eq (p : List Rw) (e l : List OT) (KT : List OT) (w : Int) (h1 : KT.length < 16777216) (h2 : p.length < 16777215) :
  K51.L_tells.f (.lst KT) [otD (lnM p [] e l), .lst (p.map rwD), .non, .int w] = some (.bl true, .lst (KT ++ [kpT p])) := by
 have t := told_at p e l
 have ne := neD_rw p p
 have eq := eqD_rw p p
 have lp : (p.map rwD).length < 16777216 := by simp; omega
 have lp' : (p.map rwD).length <= 16777216 := by simp; omega
 unfold K51.L_tells.f lentR
 have ar : (args 5 [otD (lnM p [] e l), .lst (p.map rwD), .non, .int w]).set 2 (.ob (some 2) (.lst KT)) = [.v (otD (lnM p [] e l)), .v (.lst (p.map rwD)), .ob (some 2) (.lst KT), .v (.int w), .no] := by simp [args]
 rw [ar]
 have ek : .lst (KT ++ [kpT p]) = takeT KT (p.map rwD) (p.map rwD) := rfl
 rw [ek]
 generalize p.map rwD = R at *
 generalize otD (lnM p [] e l) = T at *
 unfold K51.L_tells.g
 have c1 : ∀ D0 : List Sl, seqR (setOG 4 (methF 0 [11] GP.M_told_a117be (qB 0) zQ)) = seqR (setOG 4 (methF 0 [11] GP.M_told_a117be (qB 0) zQ)) := fun _ => rfl
 have s0 := t (.v (.lst R)) (.ob (some 2) (.lst KT)) (.v (.int w)) .no
 have s1 : ∀ X, setOG 4 (methF 0 [11] GP.M_told_a117be (qB 0) zQ) [.v T, .v (.lst R), .ob (some 2) (.lst KT), .v (.int w), X] = some (.nx [.v T, .v (.lst R), .ob (some 2) (.lst KT), .v (.int w), .own R]) := fun X => t _ _ _ X
 generalize setOG 4 (methF 0 [11] GP.M_told_a117be (qB 0) zQ) = G at *
 have e1 : ifG (zU (zI eqD (zJ 3) (zA (.int 1)))) (qG (appG 4 (mkT (zR (zB (zA (.int 0)) (zB (zA (.int 1)) (zB (zA (.int 2)) zQ)))))) G) qI [.v T, .v (.lst R), .ob (some 2) (.lst KT), .v (.int w), .own R] = some (.nx [.v T, .v (.lst R), .ob (some 2) (.lst KT), .v (.int w), .own R]) := by
  by_cases z : w = 1
  · rw [if_yes (by simp [z])]
    simp [appG, lp, s1]
  · rw [if_not (by simp [z])]
    rfl
 have e2 : ifG (zU (zI eqD (zJ 3) (zA (.int 2)))) (qG (clrG 4) G) qI [.v T, .v (.lst R), .ob (some 2) (.lst KT), .v (.int w), .own R] = some (.nx [.v T, .v (.lst R), .ob (some 2) (.lst KT), .v (.int w), .own R]) := by
  by_cases z : w = 2
  · rw [if_yes (by simp [z])]
    simp [clrG, s1]
  · rw [if_not (by simp [z])]
    rfl
 have e3 : orT (notT (testT (isiG "list" (zJ 4)))) (zU (zI neD (zJ 4) (zJ 1))) [.v T, .v (.lst R), .ob (some 2) (.lst KT), .v (.int w), .own R] = some false := by simp [ne]
 have e4 : takeR 2 4 (lisA (zJ 1)) (andV (isiG "list" (zJ 4)) (zI eqD (zJ 4) (zJ 1))) [.v T, .v (.lst R), .ob (some 2) (.lst KT), .v (.int w), .own R] = some (.bl true, [.v T, .v (.lst R), .ob (some 2) (takeT KT R R), .v (.int w), .no]) := by
  simp [takeR, onlyV, eq, h1, lp', flat]
 simp only [seqR, s0, Option.bind_some, ifR, e3, e1, e2, e4]
 simp [obAt]
abbrev Ln := List Rw × List OT × List OT
noncomputable def lnO (t : Ln) : OT := lnM t.1 [] t.2.1 t.2.2
noncomputable def duD (t : Ln) : D := .lst (t.1.map rwD)
def KOk (KT : List OT) : Prop := ∀ t ∈ KT, ∃ p, t = kpT p
theorem el_eq {S : List Ln} {k : Nat} {t : Ln} (hk : S[k]? = some t) (KT : List OT) (w : Int) (x : Sl) (h1 : KT.length < 16777216) (h2 : t.1.length < 16777215) (hS : S.length <= 16777216) :
  callR 4 1 K51.L_tells.f (zB (zI ixD (zJ 2) (zJ 0)) (zB (zI ixD (zJ 3) (zJ 0)) (hereA (zB (zI qX (zI qP (zJ 4) (zA (.int 2))) (zA (.int 3))) zQ)))) [.v (.int (k : Int)), .ob (some 1) (.lst KT), .v (.lst (S.map fun t => otD (lnO t))), .v (.lst (S.map duD)), .v (.int w)] =
   some (.bl true, [.v (.int (k : Int)), .ob (some 1) (.lst (KT ++ [kpT t.1])), .v (.lst (S.map fun t => otD (lnO t))), .v (.lst (S.map duD)), .v (.int w)]) := by
 obtain ⟨hl, hg⟩ := List.getElem?_eq_some_iff.mp hk
 have i1 : ixD (.lst (S.map fun t => otD (lnO t))) (.int (k : Int)) = some (otD (lnO t)) := by rw [qQ _ (by omega) (by simp; omega)]; simp [hk, hg]
 have i2 : ixD (.lst (S.map duD)) (.int (k : Int)) = some (duD t) := by rw [qQ _ (by omega) (by simp; omega)]; simp [hk, hg]
 have te := tells_eq t.1 t.2.1 t.2.2 KT (w / 2 % 3) h1 h2
 change K51.L_tells.f (.lst KT) [otD (lnO t), duD t, .non, .int (w / 2 % 3)] = _ at te
 generalize (S.map fun t => otD (lnO t)) = A at *
 generalize S.map duD = B at *
 generalize otD (lnO t) = a at *
 generalize duD t = b at *
 generalize kpT t.1 = c at *
 simp [callR, hereA, i1, i2, te, refO]
theorem two_eq {S : List Ln} {a b : Nat} {t u : Ln} (ha : S[a]? = some t) (hb : S[b]? = some u) (KT : List OT) (w : Int) (h1 : KT.length < 16777200) (h2 : ∀ t ∈ S, t.1.length < 16777215) (hS : S.length <= 16777216) (A : Sl) :
  allR (compR (viaA (qB 4) asLT) [none, some 2, some 0, some 1, some 3] 2 1 (zW 0) (callR 4 1 K51.L_tells.f (zB (zI ixD (zJ 2) (zJ 0)) (zB (zI ixD (zJ 3) (zJ 0)) (hereA (zB (zI qX (zI qP (zJ 4) (zA (.int 2))) (zA (.int 3))) zQ)))))) [.v (.lst (S.map fun t => otD (lnO t))), .v (.lst (S.map duD)), .ob (some 2) (.lst KT), .v (.int w), .v (.lst [.int (a : Int), .int (b : Int)])] =
   some (.bl true, [.v (.lst (S.map fun t => otD (lnO t))), .v (.lst (S.map duD)), .ob (some 2) (.lst (KT ++ [kpT t.1, kpT u.1])), .v (.int w), .v (.lst [.int (a : Int), .int (b : Int)])]) := by
 have m1 := h2 t (List.mem_of_getElem? ha)
 have m2 := h2 u (List.mem_of_getElem? hb)
 have e1 := el_eq ha KT w .no (by omega) m1 hS
 have e2 := el_eq hb (KT ++ [kpT t.1]) w .no (by simp; omega) m2 hS
 generalize callR 4 1 K51.L_tells.f (zB (zI ixD (zJ 2) (zJ 0)) (zB (zI ixD (zJ 3) (zJ 0)) (hereA (zB (zI qX (zI qP (zJ 4) (zA (.int 2))) (zA (.int 3))) zQ)))) = F at *
 generalize (S.map fun t => otD (lnO t)) = AA at *
 generalize S.map duD = BB at *
 generalize kpT t.1 = c at *
 generalize kpT u.1 = d at *
 simp [allR, compR, compLX, jD, zW, e1, e2, obAt, refO, allD, blsD]
theorem both_eq (s0 s1 : Ln) (KT : List OT) (w : Int) (h1 : KT.length < 16777200) (h2 : ∀ t ∈ [s0, s1], t.1.length < 16777215) :
  ∃ KT', K51.L_both.f (.lst KT) [.lst ([s0, s1].map fun t => otD (lnO t)), .lst ([s0, s1].map duD), .non, .int w] = some (.bl true, .lst KT') /\ (KOk KT -> KOk KT') /\ KT'.length = KT.length + 2 := by
 have ar : (args 5 [.lst ([s0, s1].map fun t => otD (lnO t)), .lst ([s0, s1].map duD), .non, .int w]).set 2 (.ob (some 2) (.lst KT)) = [.v (.lst ([s0, s1].map fun t => otD (lnO t))), .v (.lst ([s0, s1].map duD)), .ob (some 2) (.lst KT), .v (.int w), .no] := by simp [args]
 have kk : ∀ p q, KOk KT -> KOk (KT ++ [kpT p, kpT q]) := fun p q h t ht => by
  rcases List.mem_append.mp ht with ht | ht
  · exact h t ht
  · simp at ht
    rcases ht with rfl | rfl <;> exact ⟨_, rfl⟩
 have hz : (2 : Nat) <= sizeLine := by simp [sizeLine]
 rcases Int.emod_two_eq w with z | z
 · have tw := two_eq (S := [s0, s1]) (a := 0) (b := 1) rfl rfl KT w h1 h2 (by simp) .no
   refine ⟨KT ++ [kpT s0.1, kpT s1.1], ?_, kk _ _, by simp⟩
   unfold K51.L_both.f lentR K51.L_both.g
   rw [ar]
   generalize ([s0, s1].map fun t => otD (lnO t)) = AA at *
   generalize [s0, s1].map duD = BB at *
   generalize allR (compR (viaA (qB 4) asLT) [none, some 2, some 0, some 1, some 3] 2 1 (zW 0) (callR 4 1 K51.L_tells.f (zB (zI ixD (zJ 2) (zJ 0)) (zB (zI ixD (zJ 3) (zJ 0)) (hereA (zB (zI qX (zI qP (zJ 4) (zA (.int 2))) (zA (.int 3))) zQ)))))) = G at *
   have st : yE 4 (zI ixD (mkL (zR (zB (mkL (zR (zB (zA (.int 0)) (zB (zA (.int 1)) zQ)))) (zB (mkL (zR (zB (zA (.int 1)) (zB (zA (.int 0)) zQ)))) zQ)))) (zI qX (zJ 3) (zA (.int 2)))) [.v (.lst AA), .v (.lst BB), .ob (some 2) (.lst KT), .v (.int w), .no] = some (.nx [.v (.lst AA), .v (.lst BB), .ob (some 2) (.lst KT), .v (.int w), .v (.lst [.int 0, .int 1])]) := by
    simp [z]
   simp only [seqR, st, Option.bind_some]
   simp only [Int.cast_ofNat_Int] at tw
   simp [tw, obAt]
 · have tw := two_eq (S := [s0, s1]) (a := 1) (b := 0) rfl rfl KT w h1 h2 (by simp) .no
   refine ⟨KT ++ [kpT s1.1, kpT s0.1], ?_, kk _ _, by simp⟩
   unfold K51.L_both.f lentR K51.L_both.g
   rw [ar]
   generalize ([s0, s1].map fun t => otD (lnO t)) = AA at *
   generalize [s0, s1].map duD = BB at *
   generalize allR (compR (viaA (qB 4) asLT) [none, some 2, some 0, some 1, some 3] 2 1 (zW 0) (callR 4 1 K51.L_tells.f (zB (zI ixD (zJ 2) (zJ 0)) (zB (zI ixD (zJ 3) (zJ 0)) (hereA (zB (zI qX (zI qP (zJ 4) (zA (.int 2))) (zA (.int 3))) zQ)))))) = G at *
   have st : yE 4 (zI ixD (mkL (zR (zB (mkL (zR (zB (zA (.int 0)) (zB (zA (.int 1)) zQ)))) (zB (mkL (zR (zB (zA (.int 1)) (zB (zA (.int 0)) zQ)))) zQ)))) (zI qX (zJ 3) (zA (.int 2)))) [.v (.lst AA), .v (.lst BB), .ob (some 2) (.lst KT), .v (.int w), .no] = some (.nx [.v (.lst AA), .v (.lst BB), .ob (some 2) (.lst KT), .v (.int w), .v (.lst [.int 1, .int 0])]) := by
    simp [z]
   simp only [seqR, st, Option.bind_some]
   simp only [Int.cast_ofNat_Int] at tw
   simp [tw, obAt]
def LnOk (n : Nat) (t : Ln) : Prop := MapF t.1 /\ t.1.length <= 12 + 2 * n /\ t.2.1.length <= n
noncomputable def doL (d : Dd) (t : Ln) : Ln := (doneF d t.1, t.2.1 ++ [stM t.1 []], [])
theorem LnOk.do {n : Nat} {t : Ln} (h : LnOk n t) {d : Dd} (hd : okD d) : LnOk (n + 1) (doL d t) := ⟨done_map hd h.1, Nat.le_trans (done_len2 hd h.1) (by have := h.2.1; omega), by simp [doL]; exact h.2.2⟩
theorem LnOk.up {n m : Nat} {t : Ln} (h : LnOk n t) (hm : n <= m) : LnOk m t := ⟨h.1, by have := h.2.1; omega, by have := h.2.2; omega⟩
theorem do1 {n : Nat} {t : Ln} (h : LnOk n t) (hn : n <= 1000) {d : Dd} (hd : okD d) : GP.Line_do.f (lnO t) [insD d] = some (lnO (doL d t)) :=
 doM hd h.1 (by have := h.2.1; omega) MkOk.nil (by have := h.2.2; simp [sizeLine]; omega) (by simp [sizeLine])
theorem mod_set {α : Type} (v : α) : ∀ (l : List α) (k : Nat), (l.modify k fun _ => v) = l.set k v
 | [], _ => by simp
 | _ :: _, 0 => by simp
 | _ :: l, k + 1 => by simp [mod_set v l k]
theorem b1_eq {S : List Ln} {j : Nat} {t : Ln} (hj : S[j]? = some t) {n : Nat} (h : LnOk n t) (hn : n <= 1000) {d : Dd} (hd : okD d) (hS : S.length = 2) (A0 A1 A2 A3 A6 A7 A8 A9 : Sl) :
  K51.law.b1 [A0, A1, A2, A3, .ob none (.lst (S.map lnO)), .own (S.map duD), A6, A7, A8, A9, .v (told3 d), .v (insD d), .v (.int (j : Int))] =
   some (.nx [A0, A1, A2, A3, .ob none (.lst ((S.set j (doL d t)).map lnO)), .own ((S.set j (doL d t)).map duD), A6, A7, A8, A9, .v (told3 d), .v (insD d), .v (.int (j : Int))]) := by
 obtain ⟨hl, hg⟩ := List.getElem?_eq_some_iff.mp hj
 have i2 : ixD (.lst (S.map duD)) (.int (j : Int)) = some (duD t) := by rw [qQ _ (by omega) (by simp; omega)]; simp [hj, hg]
 have md := made4_eq d hd
 have dn := done_eq hd h.1 (by have := h.2.1; omega)
 have dd := do1 h hn hd
 have ix : ixN (S.map duD).length (j : Int) = some j := by rw [vV (by omega) (by simp; omega)]; simp
 have lk : (S.map lnO)[j]? = some (lnO t) := by simp [hj]
 have e1 : (S.map duD).set j (.lst ((doneF d t.1).map rwD)) = (S.set j (doL d t)).map duD := by rw [List.map_set]; rfl
 have e2 : ((S.map lnO).modify j fun _ => lnO (doL d t)) = (S.set j (doL d t)).map lnO := by rw [List.map_set]; exact mod_set _ _ _
 have ln : ∃ ts, lnO t = .ins 11 ts := ⟨_, rfl⟩
 obtain ⟨ts, ln⟩ := ln
 have lp : (t.1.map rwD).length <= 16777216 := by have := h.2.1; simp; omega
 have du : duD t = .lst (t.1.map rwD) := rfl
 rw [du] at i2
 rw [ln] at dd lk
 unfold K51.law.b1
 generalize lnO (doL d t) = T' at *
 generalize (S.set j (doL d t)).map duD = D' at *
 generalize (S.set j (doL d t)).map lnO = L' at *
 generalize S.map duD = DD at *
 generalize S.map lnO = LL at *
 generalize (doneF d t.1).map rwD = R' at *
 generalize t.1.map rwD = R at *
 generalize told3 d = Z at *
 generalize insD d = I at *
 rw [jI (ds' := [A0, A1, A2, A3, .ob none (.lst LL), .own D', A6, A7, A8, A9, .v Z, .v I, .v (.int (j : Int))]) (by
  simp [putG, methV, md, i2, lp, dn, ix, e1, lisA, retV])]
 simp [lentIf, lentG, ixPV, ixP, varP, kidsI, lk, dd, putP, putO, e2]
theorem k51do_loop {d : Dd} (hd : okD d) (A0 A1 A2 A3 A6 A7 A8 A9 : Sl) {n : Nat} (hn : n <= 1000) : ∀ (js : List Nat) (S : List Ln) (x : Sl), js.Nodup -> (∀ j ∈ js, j < 2) -> S.length = 2 -> (∀ t ∈ S, LnOk (n + 1) t) -> (∀ j ∈ js, ∀ t, S[j]? = some t -> LnOk n t) →
  ∃ (S' : List Ln) (y : Sl), S'.length = 2 /\ (∀ t ∈ S', LnOk (n + 1) t) /\ jM (zW 12) K51.law.b1 (js.map fun (j : Nat) => D.int (j : Int)) [A0, A1, A2, A3, .ob none (.lst (S.map lnO)), .own (S.map duD), A6, A7, A8, A9, .v (told3 d), .v (insD d), x] =
   some (.nx [A0, A1, A2, A3, .ob none (.lst (S'.map lnO)), .own (S'.map duD), A6, A7, A8, A9, .v (told3 d), .v (insD d), y])
 | [], S, x, _, _, hS, h1, _ => ⟨S, x, hS, h1, by simp [jM]⟩
 | j :: js, S, x, nd, hj, hS, h1, h2 => by
   obtain ⟨n1, n2⟩ := List.nodup_cons.mp nd
   have jl : j < S.length := by rw [hS]; exact hj j (.head _)
   have e := List.getElem?_eq_getElem jl
   have ht := h2 j (.head _) _ e
   have b := b1_eq e ht hn hd hS A0 A1 A2 A3 A6 A7 A8 A9
   obtain ⟨S', y, g1, g2, g3⟩ := k51do_loop hd A0 A1 A2 A3 A6 A7 A8 A9 hn js (S.set j (doL d S[j])) (.v (.int (j : Int))) n2 (fun k hk => hj k (.tail _ hk)) (by simpa using hS) (fun t ht' => by
    rcases List.mem_or_eq_of_mem_set ht' with z | z
    · exact h1 t z
    · rw [z]; exact ht.do hd) (fun k hk t et => h2 k (.tail _ hk) t (by
      have : j ≠ k := fun z => n1 (z ▸ hk)
      rwa [List.getElem?_set_ne this] at et))
   refine ⟨S', y, g1, g2, ?_⟩
   simp only [List.map_cons]
   generalize (js.map fun (j : Nat) => D.int (j : Int)) = J at *
   generalize (S.set j (doL d S[j])).map lnO = L1 at *
   generalize (S.set j (doL d S[j])).map duD = D1 at *
   simp [jM, zW, b, g3]
theorem end_comp0 : ∀ ps : List Rw, compL (tupG 3 (zP (zW 0) (zP (zW 1) (zP (zW 2) tgNil)))) (zU (zI notD (zJ 0) (zA .non))) (qB 0) [.no, .no, .no] (ps.map rwD) = some ((ps.filterMap (·.1)).map D.int)
 | [] => rfl
 | r :: t => by
   have ih := end_comp0 t
   rw [List.map_cons, compL]
   obtain ⟨a, b, c⟩ := r
   cases a <;> simp [rwD, tupG, zP, tgNil, zW, ih]
theorem end_comp1 : ∀ ps : List Rw, compL (tupG 3 (zP (zW 0) (zP (zW 1) (zP (zW 2) tgNil)))) (zU (zI notD (zJ 1) (zA .non))) (qB 1) [.no, .no, .no] (ps.map rwD) = some ((ps.filterMap (·.2.1)).map D.int)
 | [] => rfl
 | r :: t => by
   have ih := end_comp1 t
   rw [List.map_cons, compL]
   obtain ⟨a, b, c⟩ := r
   cases b <;> simp [rwD, tupG, zP, tgNil, zW, ih]
theorem ends_ex (ps : List Rw) (hl : ps.length <= 10000) : ∃ es : List Int, es.length <= 2 * ps.length /\ K51.L_ends.f [.lst (ps.map rwD)] = some (.fresh (es.map D.int)) := by
 have sz : sizeLine = 16777216 := rfl
 have c0 : ∀ X : Sl, compG (viaA (qB 0) asLT) [none, none, none] (tupG 3 (zP (zW 0) (zP (zW 1) (zP (zW 2) tgNil)))) (zU (zI notD (zJ 0) (zA .non))) (qB 0) [.v (.lst (ps.map rwD)), X] = some ((ps.filterMap (·.1)).map D.int) := fun X =>
  yQ (items := ps.map rwD) (by simp) (by simp; omega) (end_comp0 ps)
 have c1 : ∀ X : Sl, compG (viaA (qB 0) asLT) [none, none, none] (tupG 3 (zP (zW 0) (zP (zW 1) (zP (zW 2) tgNil)))) (zU (zI notD (zJ 1) (zA .non))) (qB 1) [.v (.lst (ps.map rwD)), X] = some ((ps.filterMap (·.2.1)).map D.int) := fun X =>
  yQ (items := ps.map rwD) (by simp) (by simp; omega) (end_comp1 ps)
 have l0 := List.length_filterMap_le (·.1) ps
 have l1 := List.length_filterMap_le (·.2.1) ps
 refine ⟨ps.filterMap (·.1) ++ ps.filterMap (·.2.1), by rw [List.length_append]; omega, ?_⟩
 have z : ((ps.filterMap (·.1)).map D.int).length + ((ps.filterMap (·.2.1)).map D.int).length <= 16777216 := by rw [List.length_map, List.length_map]; omega
 have fl := flats_ints (ps.filterMap (·.1) ++ ps.filterMap (·.2.1))
 rw [List.map_append] at fl ⊢
 unfold K51.L_ends.f runG K51.L_ends.g
 generalize compG (viaA (qB 0) asLT) [none, none, none] (tupG 3 (zP (zW 0) (zP (zW 1) (zP (zW 2) tgNil)))) (zU (zI notD (zJ 0) (zA .non))) (qB 0) = C0 at *
 generalize compG (viaA (qB 0) asLT) [none, none, none] (tupG 3 (zP (zW 0) (zP (zW 1) (zP (zW 2) tgNil)))) (zU (zI notD (zJ 1) (zA .non))) (qB 1) = C1 at *
 generalize (ps.filterMap (·.1)).map D.int = A at *
 generalize (ps.filterMap (·.2.1)).map D.int = B at *
 generalize ps.map rwD = P at *
 simp [args, c0, c1, z, fl]
theorem flatOs_val : ∀ l : List D, flats l = true -> flatOs (l.map OT.val) = true
 | [], _ => rfl
 | d :: l, h => by
   simp only [flats, Bool.and_eq_true] at h
   simp [flatOs, flatO, h.1, flatOs_val l h.2]
theorem flat_kp (p : List Rw) : flatO (kpT p) = true := by
 have := flatOs_val _ (jQ p)
 unfold kpT
 generalize p.map rwD = R at *
 simp [flatO, flatOs, this]
theorem flat_K : ∀ KT : List OT, KOk KT -> flatOs KT = true
 | [], _ => rfl
 | t :: r, h => by
   obtain ⟨p, rfl⟩ := h t (.head _)
   simp [flatOs, flat_kp, flat_K r fun t ht => h t (.tail _ ht)]
theorem ot_lst (L : List Ln) : otD (.lst (L.map lnO)) = .lst (L.map fun t => otD (lnO t)) := by
 have : ∀ L : List Ln, otDs (L.map lnO) = L.map fun t => otD (lnO t) := fun L => by
  induction L with
  | nil => rfl
  | cons a l ih => simp [otDs, ih]
 simp [otD, this]
theorem look_eq (s0 s1 : Ln) (KT : List OT) (hK : KOk KT) (h1 : KT.length < 16777200) (h2 : ∀ t ∈ [s0, s1], t.1.length < 16777215) (A0 A1 A2 A3 A7 A8 A9 A10 A11 A12 : Sl) (W : FE) (w : Int) (g : FS)
  (hW : W (([A0, A1, A2, A3, .ob none (.lst ([s0, s1].map lnO)), .own ([s0, s1].map duD), .ob none (.lst KT), A7, A8, A9, A10, A11, A12].map lk1).set 6 (.ob (some 6) (.lst KT))) = some (.int w)) :
  ∃ KT', KOk KT' /\ KT'.length = KT.length + 2 /\ ifNR (lookR 6 (callR 4 6 K51.L_both.f (zB (qB 4) (zB (qB 5) (hereA (zB W zQ)))))) g qI [A0, A1, A2, A3, .ob none (.lst ([s0, s1].map lnO)), .own ([s0, s1].map duD), .ob none (.lst KT), A7, A8, A9, A10, A11, A12] =
   some (.nx [A0, A1, A2, A3, .ob none (.lst ([s0, s1].map lnO)), .own ([s0, s1].map duD), .ob none (.lst KT'), A7, A8, A9, A10, A11, A12]) := by
 obtain ⟨KT', b1, b2, b3⟩ := both_eq s0 s1 KT w h1 h2
 have hK' := b2 hK
 have fl := flat_K KT' hK'
 refine ⟨KT', hK', b3, ?_⟩
 have ot := ot_lst [s0, s1]
 generalize ([s0, s1].map fun t => otD (lnO t)) = AA at *
 generalize [s0, s1].map duD = BB at *
 generalize [s0, s1].map lnO = CC at *
 have cl : callR 4 6 K51.L_both.f (zB (qB 4) (zB (qB 5) (hereA (zB W zQ)))) ([lk1 A0, lk1 A1, lk1 A2, lk1 A3, .v (.lst AA), .v (.lst BB), .ob (some 6) (.lst KT), lk1 A7, lk1 A8, lk1 A9, lk1 A10, lk1 A11, lk1 A12]) = some (.bl true, [lk1 A0, lk1 A1, lk1 A2, lk1 A3, .v (.lst AA), .v (.lst BB), .ob (some 6) (.lst KT'), lk1 A7, lk1 A8, lk1 A9, lk1 A10, lk1 A11, lk1 A12]) := by
  have hW' : W [lk1 A0, lk1 A1, lk1 A2, lk1 A3, .v (.lst AA), .v (.lst BB), .ob (some 6) (.lst KT), lk1 A7, lk1 A8, lk1 A9, lk1 A10, lk1 A11, lk1 A12] = some (.int w) := by
   rw [<- hW]
   simp [lk1, ot]
  simp [callR, hereA, hW', b1, refO]
 generalize callR 4 6 K51.L_both.f (zB (qB 4) (zB (qB 5) (hereA (zB W zQ)))) = F at *
 have e : ([A0, A1, A2, A3, .ob none (.lst CC), .own BB, .ob none (.lst KT), A7, A8, A9, A10, A11, A12].map lk1).set 6 (.ob (some 6) (.lst KT)) = [lk1 A0, lk1 A1, lk1 A2, lk1 A3, .v (.lst AA), .v (.lst BB), .ob (some 6) (.lst KT), lk1 A7, lk1 A8, lk1 A9, lk1 A10, lk1 A11, lk1 A12] := by
  simp [lk1, ot]
 unfold ifNR lookR
 simp only [List.getElem?_cons_succ, List.getElem?_cons_zero, e]
 simp [refO, cl, obAt, flatO, fl, flat, qI]
theorem b2_eq (cs : List Int) (k : Nat) (hk : 3 * k + 2 < cs.length) (hc : cs.length <= 63) {S : List Ln} (hS : S.length = 2) {n : Nat} (hn : n <= 100) (h : ∀ t ∈ S, LnOk n t) {KT : List OT} (hK : KOk KT) (h1 : KT.length < 16777200) (A0 A1 A2 A3 x9 x10 x11 x12 : Sl) :
  ∃ (S' : List Ln) (KT' : List OT) (y9 y10 y11 y12 : Sl), S'.length = 2 /\ (∀ t ∈ S', LnOk (n + 1) t) /\ KOk KT' /\ KT'.length = KT.length + 2 ∧
   K51.law.b2 [A0, A1, A2, A3, .ob none (.lst (S.map lnO)), .own (S.map duD), .ob none (.lst KT), .v (.lst (cs.map D.int)), .v (.int (k : Int)), x9, x10, x11, x12] =
   some (.nx [A0, A1, A2, A3, .ob none (.lst (S'.map lnO)), .own (S'.map duD), .ob none (.lst KT'), .v (.lst (cs.map D.int)), .v (.int (k : Int)), y9, y10, y11, y12]) := by
 have i0 : ixD (.lst (cs.map D.int)) (.int (3 * (k : Int))) = some (.int cs[3 * k]) := by
  rw [qQ _ (by omega) (by simp; omega)]
  have : (3 * (k : Int)).toNat = 3 * k := by omega
  rw [this, List.getElem?_map, List.getElem?_eq_getElem (by omega)]; rfl
 have i1 : ixD (.lst (cs.map D.int)) (.int (3 * (k : Int) + 1)) = some (.int cs[3 * k + 1]) := by
  rw [qQ _ (by omega) (by simp; omega)]
  have : (3 * (k : Int) + 1).toNat = 3 * k + 1 := by omega
  rw [this, List.getElem?_map, List.getElem?_eq_getElem (by omega)]; rfl
 have i2 : ixD (.lst (cs.map D.int)) (.int (3 * (k : Int) + 2)) = some (.int cs[3 * k + 2]) := by
  rw [qQ _ (by omega) (by simp; omega)]
  have : (3 * (k : Int) + 2).toNat = 3 * k + 2 := by omega
  rw [this, List.getElem?_map, List.getElem?_eq_getElem (by omega)]; rfl
 generalize cs[3 * k] = a at *
 generalize cs[3 * k + 1] = b at *
 generalize cs[3 * k + 2] = c at *
 generalize cs.map D.int = CL at *
 obtain ⟨q, hq, q2⟩ : ∃ q : Nat, c / 7 % 2 = (q : Int) /\ q < 2 := ⟨(c / 7 % 2).toNat, by omega, by omega⟩
 have ql : q < S.length := by omega
 have eq := List.getElem?_eq_getElem ql
 have ht := h _ (List.getElem_mem ql)
 obtain ⟨es, el, ee⟩ := ends_ex S[q].1 (by have := ht.2.1; omega)
 obtain ⟨d, hd, er⟩ := row2_ex a b c es (by have := ht.2.1; omega)
 have md := made4_eq d hd
 have iq : ixD (.lst (S.map duD)) (.int (q : Int)) = some (.lst (S[q].1.map rwD)) := by rw [qQ _ (by omega) (by simp; omega)]; simp [eq, duD]
 have m3 : xF (.int 3) (.int (k : Int)) = some (.int (3 * (k : Int))) := xE (.of_left (yM (by decide)))
 obtain ⟨js, hj1, hj2, hj3⟩ : ∃ js : List Nat, js.Nodup /\ (∀ j ∈ js, j < 2) /\ ∀ A B C D0 E0 F0 G0 X : Sl, viaA (zI ixD (mkL (zR (zB (mkL (zR (zB (qB 9) zQ))) (zB (mkL (zR (zB (qB 9) (zB (zI subD (zA (.int 1)) (zJ 9)) zQ)))) zQ)))) (zI qX (zI qP (zI ixD (zJ 7) (zI yD (zI xF (zA (.int 3)) (zJ 8)) (zA (.int 2)))) (zA (.int 14))) (zA (.int 2)))) asLT [A, B, C, D0, E0, F0, G0, .v (.lst CL), .v (.int (k : Int)), .v (.int (q : Int)), .v (told3 d), .v (insD d), X] = some (js.map fun (j : Nat) => D.int (j : Int)) := by
  rcases Int.emod_two_eq (c / 14) with z | z
  · exact ⟨[q], by simp, by simp; omega, fun A B C D0 E0 F0 G0 X => by simp [m3, i2, z, viaA, asLT]⟩
  · refine ⟨[q, 1 - q], by simp; omega, by simp; omega, fun A B C D0 E0 F0 G0 X => ?_⟩
    have : (1 : Int) - (q : Int) = ((1 - q : Nat) : Int) := by omega
    simp [m3, i2, z, viaA, asLT, this]
 obtain ⟨S', y12, hS', h', lp⟩ := k51do_loop hd A0 A1 A2 A3 (.ob none (.lst KT)) (.v (.lst CL)) (.v (.int (k : Int))) (.v (.int (q : Int))) (n := n) (by omega) js S x12 hj1 hj2 hS (fun t ht => (h t ht).up (by omega)) (fun j hj t et => h t (List.mem_of_getElem? et))
 obtain ⟨s0, s1, rfl⟩ : ∃ s0 s1, S' = [s0, s1] := by
  cases S' with
  | nil => simp at hS'
  | cons x r => cases r with
    | nil => simp at hS'
    | cons y t => cases t with
      | nil => exact ⟨x, y, rfl⟩
      | cons z w => simp at hS'
 obtain ⟨KT', hK', lK, lo⟩ := look_eq s0 s1 KT hK h1 (fun t ht => by have := (h' t ht).2.1; omega) A0 A1 A2 A3 (.v (.lst CL)) (.v (.int (k : Int))) (.v (.int (q : Int))) (.v (told3 d)) (.v (insD d)) y12
  (zI qP (zI ixD (zJ 7) (zI yD (zI xF (zA (.int 3)) (zJ 8)) (zA (.int 2)))) (zA (.int 28))) (c / 28) (retG (zA (.bl false))) (by simp [lk1, m3, i2])
 refine ⟨[s0, s1], KT', .v (.int (q : Int)), .v (told3 d), .v (insD d), y12, rfl, h', hK', lK, ?_⟩
 have e3 : qK 1 K51.L_ends.f (zB (zI ixD (zJ 5) (zJ 9)) zQ) [A0, A1, A2, A3, .ob none (.lst (S.map lnO)), .own (S.map duD), .ob none (.lst KT), .v (.lst CL), .v (.int (k : Int)), .v (.int (q : Int)), x10, x11, x12] = some (.lst (es.map D.int)) := by
  generalize S.map duD = SD at *
  generalize S.map lnO = SL at *
  generalize S[q].1.map rwD = R at *
  generalize es.map D.int = E at *
  simp [iq, ee, retV]
 unfold K51.law.b2
 generalize [s0, s1].map duD = D' at *
 generalize [s0, s1].map lnO = L' at *
 generalize S.map duD = SD at *
 generalize S.map lnO = SL at *
 generalize es.map D.int = E at *
 generalize told3 d = Z at *
 generalize insD d = I at *
 rw [jI (ds' := [A0, A1, A2, A3, .ob none (.lst SL), .own SD, .ob none (.lst KT), .v (.lst CL), .v (.int (k : Int)), .v (.int (q : Int)), x10, x11, x12]) (by simp [m3, i2, hq]),
  jI (ds' := [A0, A1, A2, A3, .ob none (.lst SL), .own SD, .ob none (.lst KT), .v (.lst CL), .v (.int (k : Int)), .v (.int (q : Int)), .v Z, x11, x12]) (by
   generalize qK 1 K51.L_ends.f (zB (zI ixD (zJ 5) (zJ 9)) zQ) = G at *
   simp [m3, i0, i1, i2, e3, er, retV]),
  jI (ds' := [A0, A1, A2, A3, .ob none (.lst SL), .own SD, .ob none (.lst KT), .v (.lst CL), .v (.int (k : Int)), .v (.int (q : Int)), .v Z, .v I, x12]) (by simp [md, retV]),
  jI (ds' := [A0, A1, A2, A3, .ob none (.lst L'), .own D', .ob none (.lst KT), .v (.lst CL), .v (.int (k : Int)), .v (.int (q : Int)), .v Z, .v I, y12]) (by
   unfold forG
   rw [hj3]
   exact lp)]
 exact lo
theorem map2_ex (cs : List Int) (hb : ∀ c ∈ cs, intBits c <= 1048576) (hl : cs.length <= 1000) : ∃ rows : List Rw, MapF rows /\ rows.length = cs.length /\ GL.map2.f [.lst (cs.map D.int)] = some (.fresh (rows.map rwD)) := map3_ex cs hb hl
theorem flatOZs_val : ∀ l : List D, flats l = true -> flatOZs (l.map OT.val) = true
 | [], _ => rfl
 | d :: l, h => by
   simp only [flats, Bool.and_eq_true] at h
   have : flatZ d = true := by
    cases d <;> first | exact h.1 | (simp [flat] at h)
   simp [flatOZs, flatOZ, this, flatOZs_val l h.2]
theorem init_l (l : List D) (hz : l.length <= 16777216) : K51.P_Line___init__.f (.ins 20 []) [.lst l] = some (.ins 11 [.lst (l.map .val), .val (.dcf [] []), .lst [], .lst []]) := by
 have hz0 : (0 : Nat) <= sizeLine := Nat.zero_le _
 simp [K51.P_Line___init__.f, lentF, argsL, args, K51.P_Line___init__.g, qG, setNw, varP, ifO, lO, mkL, zR, zQ, zU, isB, zI, isD, zJ, zA, vO, sO, nilO, putP, putO, ob0, hz0, hz, lisA]
theorem init_n : K51.P_Line___init__.f (.ins 20 []) [.non] = some (.ins 11 [.lst [], .val (.dcf [] []), .lst [], .lst []]) := by
 have hz0 : (0 : Nat) <= sizeLine := Nat.zero_le _
 simp [K51.P_Line___init__.f, lentF, argsL, args, K51.P_Line___init__.g, qG, setNw, varP, ifO, lO, mkL, zR, zQ, zU, isB, zI, isD, zJ, zA, vO, sO, nilO, putP, putO, ob0, hz0, lisA]
theorem fin_comp : ∀ KT : List OT, KOk KT -> compL (tupG 2 (zP (zW 0) (zP (zW 1) tgNil))) (fun _ => some true) (zI eqD (zJ 0) (zJ 1)) [.no, .no] (otDs KT) = some (List.replicate KT.length (.bl true))
 | [], _ => rfl
 | t :: r, h => by
   obtain ⟨p, rfl⟩ := h t (.head _)
   have ih := fin_comp r fun t ht => h t (.tail _ ht)
   have eq := eqD_rw p p
   have e : otD (kpT p) = .tup [.lst (p.map rwD), .lst (p.map rwD)] := by
    unfold kpT
    simp only [otD, otDs, wY]
   simp only [otDs, e]
   generalize p.map rwD = R at *
   rw [compL]
   simp [tupG, zP, tgNil, zW, eq, ih, List.replicate_succ]
theorem k51bls_rep : ∀ n : Nat, blsD (List.replicate n (.bl true)) = some (List.replicate n true)
 | 0 => rfl
 | n + 1 => by simp [List.replicate_succ, blsD, k51bls_rep n]
theorem cut_mid (l : List Int) (a b : Nat) : FL.cutD (l.map D.int) (some (a : Int)) (some (b : Int)) = ((l.drop a).take (b - a)).map D.int := by
 have e1 : HT.sIx (l.map D.int).length 0 (some (a : Int)) = min a l.length := by simp [HT.sIx]; omega
 have e2 : HT.sIx (l.map D.int).length (l.map D.int).length (some (b : Int)) = min b l.length := by simp [HT.sIx]; omega
 unfold FL.cutD
 rw [e1, e2, <- List.map_drop, <- List.map_take]
 congr 1
 by_cases ha : a <= l.length
 · rw [Nat.min_eq_left ha]
   by_cases hb : b <= l.length
   · rw [Nat.min_eq_left hb]
   · rw [Nat.min_eq_right (by omega), List.take_of_length_le (by simp), List.take_of_length_le (by simp; omega)]
 · rw [Nat.min_eq_right (by omega : l.length <= a), List.drop_of_length_le (Nat.le_refl _), List.drop_of_length_le (by omega)]
   simp
theorem otDs_len : ∀ l : List OT, (otDs l).length = l.length
 | [] => rfl
 | _ :: l => by simp [otDs, otDs_len l]
def k51Inv (A0 A1 A2 : Sl) (cs : List D) (k : Nat) (ds : List Sl) : Prop := ∃ (S : List Ln) (KT : List OT) (x3 x8 x9 x10 x11 x12 : Sl), S.length = 2 /\ (∀ t ∈ S, LnOk k t) /\ KOk KT /\ KT.length = 2 * k + 2 ∧
 ds = [A0, A1, A2, x3, .ob none (.lst (S.map lnO)), .own (S.map duD), .ob none (.lst KT), .v (.lst cs), x8, x9, x10, x11, x12]
theorem run_law (ns : List Int) (hl : ns.length <= 63) (hb : ∀ c ∈ ns, intBits c <= 1048576) : K51.law.f [.lst (ns.map D.int)] = some (.val (.bl true)) := by
 have c0 : GL.cell_at.f [.lst (ns.map D.int), .int 0] = some (.val (.int (cel ns 0))) := cell_eq ns 0
 generalize cel ns 0 = sd at *
 obtain ⟨m, hm, m13⟩ : ∃ m : Nat, sd % 13 = (m : Int) /\ m <= 12 := ⟨(sd % 13).toNat, by omega, by omega⟩
 have ct1 := cut_mid ns 1 (1 + m)
 have ct2 := cut_mid ns (1 + m) (241 + m)
 obtain ⟨rows, hr, lr, em⟩ := map2_ex ((ns.drop 1).take (1 + m - 1)) (fun c h => hb c (List.mem_of_mem_drop (List.mem_of_mem_take h))) (by simp; omega)
 have lr12 : rows.length <= 12 := by rw [lr, List.length_take]; omega
 generalize (ns.drop 1).take (1 + m - 1) = ms at *
 generalize hcs : (ns.drop (1 + m)).take (241 + m - (1 + m)) = cells at *
 have lc : cells.length <= 63 := by rw [<- hcs]; simp; omega
 simp only [Int.natCast_add, Int.cast_ofNat_Int] at ct1 ct2
 have z0 : (rows.map rwD).length <= 16777216 := by simp; omega
 have i0 := init_l (rows.map rwD) z0
 have i1 := init_n
 have fz := flatOZs_val _ (jQ rows)
 have ov : otDs ((rows.map rwD).map OT.val) = rows.map rwD := wY _
 have LO : OT.lst [.ins 11 [.val (.lst (rows.map rwD)), .val (.dcf [] []), .lst [], .lst []], .ins 11 [.val (.lst []), .val (.dcf [] []), .lst [], .lst []]] = .lst ([((rows, [], []) : Ln), ([], [], [])].map lnO) := rfl
 have DU : [D.lst (rows.map rwD), .lst []] = [((rows, [], []) : Ln), ([], [], [])].map duD := rfl
 have L0 : ∀ t ∈ [((rows, [], []) : Ln), ([], [], [])], LnOk 0 t := fun t ht => by
  simp at ht
  rcases ht with rfl | rfl
  · exact ⟨hr, by simpa using lr12, by simp⟩
  · exact ⟨MapF.nil, by simp, by simp⟩
 unfold K51.law.f
 refine run_rt ?_
 unfold K51.law.g
 have ar : args 13 [.lst (ns.map D.int)] = [.v (.lst (ns.map D.int)), .no, .no, .no, .no, .no, .no, .no, .no, .no, .no, .no, .no] := by simp [args]
 rw [ar]
 generalize hR : rows.map rwD = R at *
 generalize ms.map D.int = MS at *
 generalize hN : ns.map D.int = N at *
 have three : ∀ ds : List Sl, mkT (zR (zB (zA (.int 0)) (zB (zA (.int 1)) (zB (zA (.int 2)) zQ)))) ds = some (.tup [.int 0, .int 1, .int 2]) := fun ds => by simp
 rw [jI (ds' := [.v (.lst N), .v (.int (m : Int)), .no, .no, .no, .no, .no, .no, .no, .no, .no, .no, .no]) (by simp [c0, hm]),
  jI (ds' := [.v (.lst N), .v (.int (m : Int)), .v (.lst R), .no, .no, .no, .no, .no, .no, .no, .no, .no, .no]) (by simp [soP, ct1, em]),
  jI (ds' := [.v (.lst N), .v (.int (m : Int)), .v (.lst R), .ob none (.lst (R.map .val)), .no, .no, .no, .no, .no, .no, .no, .no, .no]) (by simp [setB, lO, z0]),
  jI (ds' := [.v (.lst N), .v (.int (m : Int)), .v (.lst R), .ob none (.lst (R.map .val)), .ob none (.lst [.ins 11 [.lst (R.map .val), .val (.dcf [] []), .lst [], .lst []], .ins 11 [.lst [], .val (.dcf [] []), .lst [], .lst []]]), .no, .no, .no, .no, .no, .no, .no, .no]) (by
   simp [setB, sO, consO, nilO, relGZ, relO, makeO, otD, ov, i0, i1, flatOZ, flatOZs, fz, flatZ, flats]),
  jI (ds' := [.v (.lst N), .v (.int (m : Int)), .v (.lst R), .ob none (.lst (R.map .val)), .ob none (.lst ([((rows, [], []) : Ln), ([], [], [])].map lnO)), .own ([((rows, [], []) : Ln), ([], [], [])].map duD), .no, .no, .no, .no, .no, .no, .no]) (by
   rw [<- LO, <- DU]
   simp [frzP, subO, putO, otD, otDs, ov]),
  jI (ds' := [.v (.lst N), .v (.int (m : Int)), .v (.lst R), .ob none (.lst (R.map .val)), .ob none (.lst ([((rows, [], []) : Ln), ([], [], [])].map lnO)), .own ([((rows, [], []) : Ln), ([], [], [])].map duD), .ob none (.lst []), .no, .no, .no, .no, .no, .no]) (by
   simp [setB, sO, nilO])]
 obtain ⟨H, hH, eH⟩ : ∃ H : List OT, H.length <= 100 /\ ifG (zU (zI eqD (zI qX (zI qP (qK 2 GL.cell_at.f (zB (zJ 0) (zB (zA (.int 0)) zQ))) (zA (.int 13))) (zA (.int 2))) (zA (.int 1)))) (clrP (varP 3)) qI [.v (.lst N), .v (.int (m : Int)), .v (.lst R), .ob none (.lst (R.map .val)), .ob none (.lst ([((rows, [], []) : Ln), ([], [], [])].map lnO)), .own ([((rows, [], []) : Ln), ([], [], [])].map duD), .ob none (.lst []), .no, .no, .no, .no, .no, .no] = some (.nx [.v (.lst N), .v (.int (m : Int)), .v (.lst R), .ob none (.lst H), .ob none (.lst ([((rows, [], []) : Ln), ([], [], [])].map lnO)), .own ([((rows, [], []) : Ln), ([], [], [])].map duD), .ob none (.lst []), .no, .no, .no, .no, .no, .no]) := by
  by_cases z : sd / 13 % 2 = 1
  · exact ⟨[], by simp, by rw [if_yes (by simp [c0, z])]; simp [clrP, varP, isL, putP, putO]⟩
  · exact ⟨R.map .val, by rw [<- hR]; simp; omega, by rw [if_not (by simp [c0, z])]; simp [qI]⟩
 rw [jI eH, jI (ds' := [.v (.lst N), .v (.int (m : Int)), .v (.lst R), .ob none (.lst (H ++ [.val (.tup [.int 0, .int 1, .int 2])])), .ob none (.lst ([((rows, [], []) : Ln), ([], [], [])].map lnO)), .own ([((rows, [], []) : Ln), ([], [], [])].map duD), .ob none (.lst []), .no, .no, .no, .no, .no, .no]) (by
  have : H.length < 16777216 := by omega
  simp only [appP, varP, three]
  simp [this, putP, putO])]
 generalize H ++ [OT.val (.tup [.int 0, .int 1, .int 2])] = H1 at *
 obtain ⟨KT, hK, lK, eK⟩ := look_eq (rows, [], []) ([], [], []) [] (fun _ h => nomatch h) (by simp) (fun t ht => by have := (L0 t ht).2.1; omega) (.v (.lst N)) (.v (.int (m : Int))) (.v (.lst R)) (.ob none (.lst H1)) .no .no .no .no .no .no
  (zI qP (qK 2 GL.cell_at.f (zB (zJ 0) (zB (zA (.int 0)) zQ))) (zA (.int 26))) (sd / 26) (retG (zA (.bl false))) (by simp [lk1, c0])
 have I0 : k51Inv (.v (.lst N)) (.v (.int (m : Int))) (.v (.lst R)) (cells.map D.int) 0 [.v (.lst N), .v (.int (m : Int)), .v (.lst R), .ob none (.lst H1), .ob none (.lst ([((rows, [], []) : Ln), ([], [], [])].map lnO)), .own ([((rows, [], []) : Ln), ([], [], [])].map duD), .ob none (.lst KT), .v (.lst (cells.map D.int)), .no, .no, .no, .no, .no] :=
  ⟨_, KT, _, _, _, _, _, _, rfl, L0, hK, by simpa using lK, rfl⟩
 obtain ⟨ds', eL, I'⟩ := loop_range (ga := zW 8) (body := K51.law.b2) (k51Inv (.v (.lst N)) (.v (.int (m : Int))) (.v (.lst R)) (cells.map D.int)) (cells.length / 3)
  (fun k hk ds I => by
    obtain ⟨S, KT, x3, x8, x9, x10, x11, x12, hS, h, hK, lK, rfl⟩ := I
    obtain ⟨S', KT', y9, y10, y11, y12, g1, g2, g3, g4, e⟩ := b2_eq cells k (by omega) lc hS (n := k) (by omega) h hK (by omega) (.v (.lst N)) (.v (.int (m : Int))) (.v (.lst R)) x3 x9 x10 x11 x12
    exact ⟨_, _, rfl, e, S', KT', x3, _, y9, y10, y11, y12, g1, g2, g3, by omega, rfl⟩) (cells.length / 3) 0 _ (by omega) I0
 obtain ⟨S, KF, x3, x8, x9, x10, x11, x12, hS, h, hKF, lKF, rfl⟩ := I'
 have ok : okR ((cells.length : Int) / 3) := okR_small (by omega) (by omega)
 generalize hlo : ([((rows, [], []) : Ln), ([], [], [])].map lnO) = LA at *
 generalize hdu : ([((rows, [], []) : Ln), ([], [], [])].map duD) = DA at *
 rw [jI eK, jI (ds' := [.v (.lst N), .v (.int (m : Int)), .v (.lst R), .ob none (.lst H1), .ob none (.lst LA), .own DA, .ob none (.lst KT), .v (.lst (cells.map D.int)), .no, .no, .no, .no, .no]) (by
  generalize cells.map D.int = C at *
  simp [soP, ct2])]
 have e : rng1 (zI qP (callB lenD (zB (zJ 7) zQ)) (zA (.int 3))) [.v (.lst N), .v (.int (m : Int)), .v (.lst R), .ob none (.lst H1), .ob none (.lst LA), .own DA, .ob none (.lst KT), .v (.lst (cells.map D.int)), .no, .no, .no, .no, .no] = some (rangeD 0 (cells.length / 3)) := by
  have h3 : ((cells.length : Int) / 3).toNat = cells.length / 3 := by omega
  simp [ok, h3]
 rw [jI (by
  unfold forG
  rw [e, rangeD_range']
  exact eL)]
 have cp : compG (viaA (qB 6) asLT) [none, none] (tupG 2 (zP (zW 0) (zP (zW 1) tgNil))) (fun _ => some true) (zI eqD (zJ 0) (zJ 1)) [.v (.lst N), .v (.int (m : Int)), .v (.lst R), x3, .ob none (.lst (S.map lnO)), .own (S.map duD), .v (.lst (otDs KF)), .v (.lst (cells.map D.int)), x8, x9, x10, x11, x12] = some (List.replicate KF.length (.bl true)) :=
  yQ (items := otDs KF) (by simp) (by rw [otDs_len]; simp; omega) (fin_comp KF hKF)
 have rp := k51bls_rep KF.length
 have fl : flats (List.replicate KF.length (D.bl true)) = true := by
  generalize KF.length = n
  induction n with
  | zero => rfl
  | succ n ih => simp [List.replicate_succ, flats, flat, ih]
 have al : allD [.lst (List.replicate KF.length (D.bl true))] = some (.bl true) := by simp [allD, rp]
 generalize compG (viaA (qB 6) asLT) [none, none] (tupG 2 (zP (zW 0) (zP (zW 1) tgNil))) (fun _ => some true) (zI eqD (zJ 0) (zJ 1)) = CC at *
 generalize List.replicate KF.length (D.bl true) = RP at *
 generalize S.map lnO = SL at *
 generalize S.map duD = SD at *
 generalize cells.map D.int = C at *
 simp [relFO, relO, otD, cp, fl, al]
end K51
namespace K51
open PySem PyProof.Rows L2 FL
set_option maxHeartbeats 0 in
theorem all_mk {l : PySem.W.OpenLaw} {w : World} {K : PySem.W.Frag} {h : Heap} {mg : Str -> Option Value} {fa : Addr} (X : K.In h) (G : h.Ns mainGlobals mg) (hfa : mg "law" = some (.ref fa))
  {K0 K1 K2 K3 K4 K5 K6 K11 f1 f2 f3 f4 f5 f6 f7 f8 f9 f10 f11 f12 f13 f14 f15 f16 f17 f18 f19 f20 f21 f22 f23 f24 f25 f26 f27 f28 f29 f30 f31 f32 f33 f34 f35 f36 f37 f38 f39 f40 f41 f42 f43 f44 f45 f46 f47 f48 f49 f50 f51 f52 f53 f54 f55 : Addr}
  {t0 : Tok}
  {tu0 : Addr} {tc0 : Value} {td0 : Option Addr} {tn0 : Nat} {ts0 : Array (Option Value)}
  {f0 f56 : Addr} {od0 an0 od56 an56 : Option Addr} {sl0 sl56 : Array (Option Value)} {oc0 kV0 dc0 pm0 cd0 ct0 oc56 kV56 dc56 pm56 cd56 ct56 : Value}
  (q0 : CN K "Put" K0)
  (na0_span : NoAttr K K0 "span")
  (na0_fill : NoAttr K K0 "fill")
  (q1 : CN K "Widen" K1)
  (na1_fill : NoAttr K K1 "fill")
  (na1_at : NoAttr K K1 "at")
  (na1_many : NoAttr K K1 "many")
  (q2 : CN K "Narrow" K2)
  (na2_fill : NoAttr K K2 "fill")
  (na2_at : NoAttr K K2 "at")
  (na2_many : NoAttr K K2 "many")
  (q3 : CN K "Move" K3)
  (na3_fill : NoAttr K K3 "fill")
  (na3_far : NoAttr K K3 "far")
  (q4 : CN K "Stretch" K4)
  (na4_fill : NoAttr K K4 "fill")
  (na4_top : NoAttr K K4 "top")
  (na4_bottom : NoAttr K K4 "bottom")
  (q5 : CN K "Mirror" K5)
  (na5_fill : NoAttr K K5 "fill")
  (q6 : CN K "Deed" K6)
  (na6_fill : NoAttr K K6 "fill")
  (q11 : CN K "Line" K11)
  (na11_pieces : NoAttr K K11 "pieces")
  (na11_places : NoAttr K K11 "places")
  (na11_earlier : NoAttr K K11 "earlier")
  (na11_later : NoAttr K K11 "later")
  (a0 : PySem.W.findIn K (.ref K11) "__init__" = some (some (.ref f0))) (l0 : LkF K f0 oc0 od0 "__init__" "Line.__init__" (inClass (top 6) 0) (.ref tu0) kV0 dc0 pm0 an0 cd0 ct0 sl0) (c0 : PySem.W.codeIn K cd0 "Line.__init__" = true) (k0 : PySem.W.keepIn K (.ref f0) = true)
  (lt0 : K.lookup tu0 = some ⟨tc0, td0, .seq #[.none] tn0, ts0⟩)
  (i0 : PySem.W.isFn K (.ref f0) = true)
  (d1 : DefC K K11 "step" "Line.step" (inClass (top 6) 3) f1)
  (d2 : DefM K "knit" (top 14) f2)
  (d3 : DefM K "later_low" (top 11) f3)
  (d4 : DefM K "earlier_behind" (top 12) f4)
  (d5 : DefM K "ends_ahead" (top 10) f5)
  (d6 : DefM K "meet" (top 9) f6)
  (d7 : DefM K "parts_in" (top 15) f7)
  (d8 : DefM K "rows_over" (top 16) f8)
  (d9 : DefM K "put" (top 18) f9)
  (d10 : DefC K K0 "done" "Put.done" (inClass (top 22) 3) f10)
  (d11 : DefM K "farther" (top 33) f11)
  (d12 : DefM K "shifted" (top 32) f12)
  (d13 : DefC K K1 "done" "Widen.done" (inClass (top 23) 3) f13)
  (d14 : DefC K K2 "done" "Narrow.done" (inClass (top 24) 3) f14)
  (d15 : DefC K K3 "done" "Move.done" (inClass (top 25) 3) f15)
  (d16 : DefC K K4 "least_from" "Stretch.least_from" (inClass (top 26) 4) f16)
  (d17 : DefC K K4 "done" "Stretch.done" (inClass (top 26) 3) f17)
  (d18 : DefM K "mirrored" (top 34) f18)
  (d19 : DefC K K5 "done" "Mirror.done" (inClass (top 27) 2) f19)
  (d20 : DefC K K0 "went" "Put.went" (inClass (top 22) 2) f20)
  (d21 : DefM K "opened" (top 30) f21)
  (d22 : DefC K K1 "went" "Widen.went" (inClass (top 23) 2) f22)
  (d23 : DefM K "taken_out" (top 31) f23)
  (d24 : DefC K K2 "went" "Narrow.went" (inClass (top 24) 2) f24)
  (d25 : DefC K K3 "went" "Move.went" (inClass (top 25) 2) f25)
  (d26 : DefM K "has" (top 8) f26)
  (d27 : DefC K K0 "came" "Put.came" (inClass (top 22) 1) f27)
  (d28 : DefC K K1 "came" "Widen.came" (inClass (top 23) 1) f28)
  (d29 : DefC K K2 "came" "Narrow.came" (inClass (top 24) 1) f29)
  (d30 : DefC K K3 "came" "Move.came" (inClass (top 25) 1) f30)
  (d31 : DefC K K4 "came" "Stretch.came" (inClass (top 26) 1) f31)
  (d32 : DefC K K5 "came" "Mirror.came" (inClass (top 27) 0) f32)
  (d33 : DefC K K4 "went" "Stretch.went" (inClass (top 26) 2) f33)
  (d34 : DefC K K5 "went" "Mirror.went" (inClass (top 27) 1) f34)
  (d35 : DefC K K11 "do" "Line.do" (inClass (top 6) 1) f35)
  (d36 : DefC K K11 "told" "Line.told" (inClass (top 6) 7) f36)
  (d37 : DefC K K6 "__init__" "Deed.__init__" (inClass (top 21) 0) f37)
  (d38 : DefC K K0 "__init__" "Put.__init__" (inClass (top 22) 0) f38)
  (d39 : DefM K "check_many" (top 28) f39)
  (d40 : DefC K K1 "__init__" "Widen.__init__" (inClass (top 23) 0) f40)
  (d41 : DefC K K2 "__init__" "Narrow.__init__" (inClass (top 24) 0) f41)
  (d42 : DefC K K3 "__init__" "Move.__init__" (inClass (top 25) 0) f42)
  (d43 : DefM K "check_share" (top 29) f43)
  (d44 : DefC K K4 "__init__" "Stretch.__init__" (inClass (top 26) 0) f44)
  (d45 : DefM K "_law_cell_at" (top 36) f45)
  (d46 : DefM K "_law_map" (top 37) f46)
  (d47 : DefM K "_law_place" (top 38) f47)
  (d48 : DefM K "_law_many" (top 39) f48)
  (d49 : DefM K "_law_share" (top 40) f49)
  (d50 : DefM K "_law_span" (top 41) f50)
  (d51 : DefM K "_law_row" (top 42) f51)
  (d52 : DefM K "_law_made" (top 43) f52)
  (d53 : DefM K "_law_ends" (top 44) f53)
  (d54 : DefM K "_law_tells" (top 45) f54)
  (d55 : DefM K "_law_both" (top 46) f55)
  (a56 : PySem.W.nsIn K mainGlobals "law" = some (some (.ref f56))) (l56 : LkF K f56 oc56 od56 "law" "law" (top 47) .none kV56 dc56 pm56 an56 cd56 ct56 sl56) (c56 : PySem.W.codeIn K cd56 "law" = true) (k56 : PySem.W.keepIn K (.ref f56) = true)
  (mk0 : PySem.W.makesIn K K0 = true) (kc0 : PySem.W.keepIn K (.ref K0) = true)
  (mk1 : PySem.W.makesIn K K1 = true) (kc1 : PySem.W.keepIn K (.ref K1) = true)
  (mk2 : PySem.W.makesIn K K2 = true) (kc2 : PySem.W.keepIn K (.ref K2) = true)
  (mk3 : PySem.W.makesIn K K3 = true) (kc3 : PySem.W.keepIn K (.ref K3) = true)
  (mk4 : PySem.W.makesIn K K4 = true) (kc4 : PySem.W.keepIn K (.ref K4) = true)
  (mk5 : PySem.W.makesIn K K5 = true) (kc5 : PySem.W.keepIn K (.ref K5) = true)
  (ai5 : PySem.W.findIn K (.ref K5) "__init__" = some (some (.ref f37)))
  (mk11 : PySem.W.makesIn K K11 = true) (kc11 : PySem.W.keepIn K (.ref K11) = true)
  (s1_6 : PySem.W.specialIn K (.ref K6) "__getattribute__" = some (some (.builtin "type.__getattribute__"))) (s2_6 : PySem.W.readsIn K K6 (.type "type") = true) (s3_6 : PySem.W.findCls K (.ref K6) (.type "type") "__init__" = some (.val (.ref f37)))
  (z0 : PySem.W.nsIn K mainGlobals "all" = some none)
  (z1 : PySem.W.nsIn K mainGlobals "isinstance" = some none)
  (z2 : PySem.W.nsIn K mainGlobals "len" = some none)
  (z3 : PySem.W.nsIn K mainGlobals "list" = some none)
  (z4 : PySem.W.nsIn K mainGlobals "max" = some none)
  (z5 : PySem.W.nsIn K mainGlobals "min" = some none)
  (z6 : PySem.W.nsIn K mainGlobals "range" = some none)
  (z7 : PySem.W.nsIn K mainGlobals "reversed" = some none)
  (v0 : PySem.W.nsIn K mainGlobals "MOST_SHARE" = some (some (.int 1000 t0))) :
  ∃ fd : FuncData, (∀ (s : Shared) (v : Value), BindsTo s fd ⟨[v], []⟩ [("_law_script", v)]) /\ ∀ base : Heap, K.In base -> base.Ns mainGlobals mg -> FnOk l.prog w K mg base CX0 8 fa fd ["_law_script"] (spLawB K 63) := by
 have e := hfa.symm.trans (PySem.W.mg_of X G a56)
 cases e
 obtain ⟨n0, cl0⟩ := q0.get
 obtain ⟨n1, cl1⟩ := q1.get
 obtain ⟨n2, cl2⟩ := q2.get
 obtain ⟨n3, cl3⟩ := q3.get
 obtain ⟨n4, cl4⟩ := q4.get
 obtain ⟨n5, cl5⟩ := q5.get
 obtain ⟨n6, cl6⟩ := q6.get
 obtain ⟨n11, cl11⟩ := q11.get
 have T : Glb K mg := ⟨PySem.W.mg_none_of X G z0, PySem.W.mg_none_of X G z1, PySem.W.mg_none_of X G z2, PySem.W.mg_none_of X G z3, PySem.W.mg_none_of X G z4, PySem.W.mg_none_of X G z5, PySem.W.mg_none_of X G z6, PySem.W.mg_none_of X G z7, ⟨_, PySem.W.mg_of X G v0⟩, (jA n1 cl1 na1_at (jA n2 cl2 na2_at jE)), (jA n4 cl4 na4_bottom jE), (jA n11 cl11 na11_earlier jE), (jA n3 cl3 na3_far jE), (jA n0 cl0 na0_fill (jA n1 cl1 na1_fill (jA n2 cl2 na2_fill (jA n3 cl3 na3_fill (jA n4 cl4 na4_fill (jA n5 cl5 na5_fill (jA n6 cl6 na6_fill jE))))))), (jA n11 cl11 na11_later jE), (jA n1 cl1 na1_many (jA n2 cl2 na2_many jE)), (jA n11 cl11 na11_pieces jE), (jA n11 cl11 na11_places jE), (jA n0 cl0 na0_span jE), (jA n4 cl4 na4_top jE), (newOk (t := 22) (by exact n11) cl11 na11_earlier), (newOk (t := 23) (by exact n11) cl11 na11_later), (newOk (t := 20) (by exact n11) cl11 na11_pieces), (newOk (t := 21) (by exact n11) cl11 na11_places)⟩
 have F0 := fun_mkD (st := (inClass (top 6) 0)) l0 c0 k0 lt0 rfl
 have b0_0 : Binds K _ ["self", "pieces"] (List.replicate 0 .none) := F0.binds (ps := ["self", "pieces"]) fun _ _ _ _ _ _ _ us hl => match us, hl with | [_, _], _ => ⟨_, rfl, rfl⟩
 have b0_1 : Binds K _ ["self", "pieces"] (List.replicate 1 .none) := F0.binds (ps := ["self", "pieces"]) fun _ _ _ _ _ _ _ us hl => match us, hl with | [_], _ => ⟨_, rfl, rfl⟩ | _ :: _ :: _, hl => absurd hl (by simp) | [], hl => absurd hl (by simp)
 obtain ⟨_, F37, a37, k37, i37⟩ := d37.get
 have b37 := F37.binds (ps := ["self"]) fun _ _ _ _ _ _ => len1 fun _ => rfl
 obtain ⟨_, F38, a38, k38, i38⟩ := d38.get
 have b38 := F38.binds (ps := ["self", "span", "value"]) fun _ _ _ _ _ _ => len3 fun _ _ _ => rfl
 obtain ⟨_, F40, a40, k40, i40⟩ := d40.get
 have b40 := F40.binds (ps := ["self", "at", "many"]) fun _ _ _ _ _ _ => len3 fun _ _ _ => rfl
 obtain ⟨_, F41, a41, k41, i41⟩ := d41.get
 have b41 := F41.binds (ps := ["self", "at", "many"]) fun _ _ _ _ _ _ => len3 fun _ _ _ => rfl
 obtain ⟨_, F42, a42, k42, i42⟩ := d42.get
 have b42 := F42.binds (ps := ["self", "far"]) fun _ _ _ _ _ _ => len2 fun _ _ => rfl
 obtain ⟨_, F44, a44, k44, i44⟩ := d44.get
 have b44 := F44.binds (ps := ["self", "top", "bottom"]) fun _ _ _ _ _ _ => len3 fun _ _ _ => rfl
 have F56 := fun_mk (st := (top 47)) l56 c56 k56
 refine ⟨PySem.W.fnOf "law" "law" (jL (top 47)) (qV (top 47)) (zF (top 47)) .none kV56 dc56 pm56 an56 cd56 ct56, fun s v => .of_eq rfl, fun base _ _ => ?_⟩
 have S : SysAt l.prog w base K mg := ⟨h, X, G⟩
 have G0 := fok_Line___init__ (P := l.prog) (w := w) (base := base) F0 T
 have C_knit := d2.cal S fun F => fok_knit F T
 have C_later_low := d3.cal S fun F => fok_later_low F T
 have C_earlier_behind := d4.cal S fun F => fok_earlier_behind F T
 have C_ends_ahead := d5.cal S fun F => fok_ends_ahead F T
 have C_meet := d6.cal S fun F => fok_meet F T C_later_low C_earlier_behind C_ends_ahead
 have C_parts_in := d7.cal S fun F => fok_parts_in F T C_meet
 have C_rows_over := d8.cal S fun F => fok_rows_over F T C_parts_in
 have C_put := d9.cal S fun F => fok_put F T C_knit C_rows_over
 have C_farther := d11.cal S fun F => fok_farther F T
 have C_shifted := d12.cal S fun F => fok_shifted F T C_farther
 have M_least_from : MCal l.prog w K mg base "least_from" 1 1 [4] GP.M_least_from_cfafed := (d16.mc n4 cl4 (fun F => fok_Stretch_least_from F T) xP)
 have C_mirrored := d18.cal S fun F => fok_mirrored F T
 have C_opened := d21.cal S fun F => fok_opened F T
 have C_taken_out := d23.cal S fun F => fok_taken_out F T
 have C_has := d26.cal S fun F => fok_has F T
 have M_came : MCal l.prog w K mg base "came" 2 1 [0, 1, 2, 3, 4, 5] GP.M_came_4e9d29 := (d27.mc n0 cl0 (fun F => fok_Put_came F T C_has) (d28.mc n1 cl1 (fun F => fok_Widen_came F T C_taken_out) (d29.mc n2 cl2 (fun F => fok_Narrow_came F T C_opened) (d30.mc n3 cl3 (fun F => fok_Move_came F T) (d31.mc n4 cl4 (fun F => fok_Stretch_came F T) (d32.mc n5 cl5 (fun F => fok_Mirror_came F T) xP))))))
 have M_step : LCal l.prog w K mg base "step" 1 2 [11] (fun _ => GP.Line_step.f) := (d1.lc n11 cl11 (fun F => fok_Line_step F T) lcal_nil)
 have M_done : MCal l.prog w K mg base "done" 6 1 [0, 1, 2, 3, 4, 5] GP.M_done_4a08fd := (d10.mc n0 cl0 (fun F => fok_Put_done F T C_put) (d13.mc n1 cl1 (fun F => fok_Widen_done F T C_parts_in C_knit C_shifted) (d14.mc n2 cl2 (fun F => fok_Narrow_done F T C_parts_in C_knit C_shifted) (d15.mc n3 cl3 (fun F => fok_Move_done F T C_shifted) (d17.mc n4 cl4 (fun F => fok_Stretch_done F T C_knit M_least_from) (d19.mc n5 cl5 (fun F => fok_Mirror_done F T C_mirrored) xP))))))
 have M_went : MCal l.prog w K mg base "went" 3 1 [0, 1, 2, 3, 4, 5] GP.M_went_e39dd5 := (d20.mc n0 cl0 (fun F => fok_Put_went F T) (d22.mc n1 cl1 (fun F => fok_Widen_went F T C_opened) (d24.mc n2 cl2 (fun F => fok_Narrow_went F T C_taken_out) (d25.mc n3 cl3 (fun F => fok_Move_went F T) (d33.mc n4 cl4 (fun F => fok_Stretch_went F T M_least_from M_came) (d34.mc n5 cl5 (fun F => fok_Mirror_went F T) xP))))))
 have G37 := fok_Deed___init__ (P := l.prog) (w := w) (base := base) F37 T
 have G38 := fok_Put___init__ (P := l.prog) (w := w) (base := base) F38 T
 have C_check_many := d39.cal S fun F => fok_check_many F T
 have S_Deed : SCal l.prog w K mg base "Deed" 1 ["fill"] GP.Deed___init__.f := ⟨K6, f37, _, _, PySem.W.mg_of X G n6, ⟨.type "type", s1_6, s2_6, s3_6, k37⟩, G37, b37⟩
 have G40 := fok_Widen___init__ F40 T C_check_many S_Deed
 have G41 := fok_Narrow___init__ F41 T C_check_many S_Deed
 have G42 := fok_Move___init__ (P := l.prog) (w := w) (base := base) F42 T S_Deed
 have C_check_share := d43.cal S fun F => fok_check_share F T
 have G44 := fok_Stretch___init__ F44 T C_check_share S_Deed
 have C__law_cell_at := d45.cal S fun F => fok__law_cell_at F T
 have C__law_map := d46.cal S fun F => fok__law_map F T
 have C__law_place := d47.cal S fun F => fok__law_place F T
 have C__law_many := d48.cal S fun F => fok__law_many F T
 have C__law_share := d49.cal S fun F => fok__law_share F T
 have C__law_span := d50.cal S fun F => fok__law_span F T C__law_many
 have C__law_row := d51.cal S fun F => fok__law_row F T C__law_place C__law_span C__law_many C__law_share
 have Mk_Mirror : MkC l.prog w K mg base 5 1 0 GP.Deed___init__.f := ⟨K5, f37, _, _, n5, PySem.W.mg_of X G n5, ⟨mk5, ai5, i37, kc5⟩, cl5, G37, b37, (yA (l := ["fill"]) (qM na5_fill yK))⟩
 have Mk_Put : MkC l.prog w K mg base 0 1 2 GP.Put___init__.f := ⟨K0, f38, _, _, n0, PySem.W.mg_of X G n0, ⟨mk0, a38, i38, kc0⟩, cl0, G38, b38, (yA (l := ["span", "fill"]) (qM na0_span (qM na0_fill yK)))⟩
 have Mk_Widen : MkC l.prog w K mg base 1 2 2 GP.Widen___init__.f := ⟨K1, f40, _, _, n1, PySem.W.mg_of X G n1, ⟨mk1, a40, i40, kc1⟩, cl1, G40, b40, (yA (l := ["fill", "at", "many"]) (qM na1_fill (qM na1_at (qM na1_many yK))))⟩
 have Mk_Narrow : MkC l.prog w K mg base 2 2 2 GP.Widen___init__.f := ⟨K2, f41, _, _, n2, PySem.W.mg_of X G n2, ⟨mk2, a41, i41, kc2⟩, cl2, G41, b41, (yA (l := ["fill", "at", "many"]) (qM na2_fill (qM na2_at (qM na2_many yK))))⟩
 have Mk_Move : MkC l.prog w K mg base 3 2 1 GP.Move___init__.f := ⟨K3, f42, _, _, n3, PySem.W.mg_of X G n3, ⟨mk3, a42, i42, kc3⟩, cl3, G42, b42, (yA (l := ["fill", "far"]) (qM na3_fill (qM na3_far yK)))⟩
 have Mk_Stretch : MkC l.prog w K mg base 4 2 2 GP.Stretch___init__.f := ⟨K4, f44, _, _, n4, PySem.W.mg_of X G n4, ⟨mk4, a44, i44, kc4⟩, cl4, G44, b44, (yA (l := ["fill", "top", "bottom"]) (qM na4_fill (qM na4_top (qM na4_bottom yK))))⟩
 have C__law_made := d52.cal S fun F => fok__law_made F T Mk_Mirror Mk_Put Mk_Widen Mk_Narrow Mk_Move Mk_Stretch
 have C__law_ends := d53.cal S fun F => fok__law_ends F T
 have M_told : MCal l.prog w K mg base "told" 1 0 [11] GP.M_told_a117be := (d36.mc n11 cl11 (fun F => fok_Line_told F T) xP)
 have C__law_tells := d54.calR S fun F => fok__law_tells F T M_told
 have C__law_both := d55.calR S fun F => fok__law_both F T C__law_tells
 have M_do : LCal l.prog w K mg base "do" 7 1 [11] (fun _ => GP.Line_do.f) := (d35.lc n11 cl11 (fun F => fok_Line_do F T M_step M_done M_went) lcal_nil)
 have Mk_Line_0 : LMk l.prog w K mg base 20 1 1 0 K51.P_Line___init__.f := ⟨⟨K11, f0, _, _, by exact n11, PySem.W.mg_of X G n11, ⟨mk11, a0, i0, kc11⟩, G0, b0_0⟩⟩
 have Mk_Line_1 : LMk l.prog w K mg base 20 1 1 1 K51.P_Line___init__.f := ⟨⟨K11, f0, _, _, by exact n11, PySem.W.mg_of X G n11, ⟨mk11, a0, i0, kc11⟩, G0, b0_1⟩⟩
 exact law_ofB (F := K51.law.f) (fok_law F56 T C__law_map C__law_cell_at C__law_both C__law_row C__law_made C__law_ends M_done M_do Mk_Line_0 Mk_Line_1) run_law
end K51
namespace PySem.W.Fast
def tw6029165258317387095:=0
def tw10508408581896039238:=0
def tw7817000193887211252:=0
def tw1891995295290627490:=0
def tw17157775935799619790:=0
def tw15639050841839772515:=0
def tw3331224537163313323:=0
def tw4928186226152790106:=0
def tw34928059127029734:=0
def tw5164561333375060704:=0
def tw8951698367143566805:=0
def tw2088130144236096069:=0
def tw16228833459264543436:=0
def tw1612981252170137558:=0
def tw2605761438719478177:=0
def tw7273988822422320444:=0
def tw315108821385794608:=0
def tw18239597051356792446:=0
def tw1194897365669489376:=0
def tw18254638356551115242:=0
def tw278025641368351220:=0
def tw17385024536847255304:=0
def tw4944212666019369074:=0
def tw2321033328775959584:=0
def tw10004121402807686313:=0
def tw9070825425379545139:=0
def tw4230467240132875403:=0
def tw4517791198466008979:=0
def tw3280225191099674949:=0
def tw3698271815622155592:=0
def tw5722049267789534402:=0
def tw13510030986335613775:=0
def tw545130876802134582:=0
def tw10607631223420408418:=0
def tw7582452181343773950:=0
def tw13608918358957632181:=0
def tw12814725266111404768:=0
def tw11504499815698388576:=0
def tw3689602678058974583:=0
def tw14736044069936035219:=0
def tw6487763300635472408:=0
def tw13298185971218879450:=0
def tw5193362448288994092:=0
def tw4633703955275134591:=0
def tw7407751882596820788:=0
def tw12009587125679489722:=0
def tw10279628031308224919:=0
def tw10846326568812083726:=0
def tw15462081468066812153:=0
def tw5567662457940175849:=0
def tw11498203640845655302:=0
def tw3868675405642944220:=0
def tw1947335964559963061:=0
def tw15051762073465021476:=0
def tw2289427081408989742:=0
def tw6812285719566507316:=0
def tw17782312012387479953:=0
def tw2001222160395390612:=0
def tw7903373459688909218:=0
def tw10216872197789885485:=0
def tw8681017358925695653:=0
def tw11867727845535822838:=0
def tw2274761488563867158:=0
def tw8901692958027230797:=0
def tw17974365598041107230:=0
def tw14685290628543002141:=0
def tw14314491808510961705:=0
def tw9848278336198451876:=0
def tw16841787763169262418:=0
def tw6408746589162537560:=0
def tw4088846637268883834:=0
def tw3702137197574370795:=0
def tw5428449566948677451:=0
def tw11168420704410560685:=0
def tw12659188334945941292:=0
def tw2337351049768399214:=0
def tw8653154065711619585:=0
def tw5952310135574561416:=0
def tw972777883550685317:=0
def tw2295453072845810761:=0
def tw144956040404380252:=0
def tw1483106952553505789:=0
def tw11792370630773335545:=0
def tw9205143469172386478:=0
def tw10111514600592693883:=0
def tw10888728955050320927:=0
def tw18348568770454067323:=0
def tw8714403730784001001:=0
def tw14495078648130704952:=0
def tw12618581626137157626:=0
def tw3986150449127450603:=0
def tw8529010725016384163:=0
def tw12022697798157651978:=0
def tw13271982970813129429:=0
def tw108389631948443529:=0
def tw11866005589117499232:=0
def tw13101977037977190330:=0
def tw14370332147013472564:=0
def tw14958859588071200933:=0
def tw2051376812490824352:=0
def tw12956830133328251249:=0
def tw536473346109232452:=0
def tw11428663709327102095:=0
def tw3951299465433037581:=0
def tw10524537823677985011:=0
def tw15745429522326087762:=0
def tw11287176792744917838:=0
def tw16000107671968980:=0
def tw4144532409527478354:=0
def tw7380039533430298102:=0
def tw8056624668540472645:=0
def tw14780731792507051032:=0
def tw7794969220199221704:=0
def tw6881809242741709652:=0
def tw13378128913915344130:=0
def tw3235624657761129077:=0
def tw18335338067936263069:=0
def tw4464266061883254113:=0
def tw11237532206288633943:=0
def tw9644479848428560040:=0
def tw1266012542663393550:=0
def tw11899643487737773016:=0
def tw7497514836236247202:=0
def tw17724358434515997426:=0
def tw3742867166375426909:=0
def tw10416772773499859956:=0
def tw11775449593790409248:=0
def tw3287422559319154655:=0
def tw17969352446576101207:=0
def tw17532016836863345842:=0
def tw17963957334032613093:=0
def tw2607748022324280410:=0
def tw13893766624342235478:=0
def tw1393063817064568888:=0
def tw559283836203726508:=0
def tw9096800152212209529:=0
def tw11034981559295660110:=0
def tw5741630034911344267:=0
def tw9330492050992979989:=0
def tw17724978469329220907:=0
def tw14808016040981839485:=0
def tw10245264329295611613:=0
def tw13568322073456198487:=0
def tw11463066249879448238:=0
def tw627608915906930820:=0
def tw15710352804925780067:=0
def tw4908681226853453929:=0
def tw14298914406703529638:=0
def tw11844325614424695591:=0
def tw10028864124752069853:=0
def tw9515216776284038995:=0
def tw16961522803181945869:=0
def tw17465439151547429469:=0
def tw10765164154187995644:=0
def tw10850691970558458740:=0
def tw4269085808099717188:=0
def tw10436648639238427057:=0
def tw3695614743282731872:=0
def tw11848388076955517610:=0
def tw4848802249376655187:=0
def tw5990189649141684768:=0
def tw1276212598333888219:=0
def tw5528342861939019747:=0
def tw12207125393077549387:=0
def tw487303753664953340:=0
def tw1860075231939353366:=0
def tw9488556680134343249:=0
def tw702109959090925630:=0
def tw1293701502403416483:=0
def tw4524280787102651799:=0
def tw17482394988627677606:=0
def tw2125645705319083656:=0
def tw17688291085920935070:=0
def tw5731086714612913119:=0
def tw13362527476609068710:=0
def tw2867739428798778593:=0
def tw6273283667161339952:=0
def tw14974843617379400207:=0
def tw8666384820386450261:=0
def tw9557100322172168506:=0
def tw17906271402233667362:=0
def tw2741542518686235693:=0
def tw11877543201128908864:=0
def tw17198668428564486091:=0
def tw430099862536435589:=0
def tw6935888309497570788:=0
def tw4698728372011735490:=0
def tw684504184601438706:=0
def tw4868198213481579760:=0
def tw6640621456350161543:=0
def tw13324735861195742127:=0
def tw4902997850430610746:=0
def tw1659066403308849194:=0
def tw14568231424188195976:=0
def tw8012865830941193374:=0
def tw7363063152211630807:=0
def tw12269262031584819312:=0
def tw7638607637638662665:=0
def tw1046366146084443303:=0
def tw657645945167847298:=0
def tw9976353520334555165:=0
def tw14811642131848607879:=0
def tw14474597720623875701:=0
def tw14392096260336246386:=0
def tw4076084792757903490:=0
def tw5799183358234511785:=0
def tw4098166742504604814:=0
def tw11792432093912591864:=0
def tw13086070626275297542:=0
def tw4515338754147793104:=0
def tw11092945358450296716:=0
def tw6259607621764593055:=0
def tw10052443187686910000:=0
def tw12804491412068858071:=0
def tw13156688261544826566:=0
def tw8904551857283419184:=0
def tw18175290133296730686:=0
def tw4568817229927189489:=0
def tw6217297657025617813:=0
def tw14227506655902419116:=0
def tw8983686105807181678:=0
def tw15562212347052135053:=0
def tw15883063019199864154:=0
def tw16126923390055425764:=0
def tw11367179606833314670:=0
def tw1633378860907178355:=0
def tw17708282891626852546:=0
def tw4400310825014747559:=0
def tw13274257345469148439:=0
def tw14697921731168232009:=0
def tw18371378471493325838:=0
def tw1005285786620053989:=0
def tw1467758915101850669:=0
def tw5059406457962181334:=0
def tw14930731607635639899:=0
def tw11571606415179202373:=0
def tw11612322996832301396:=0
def tw12753823406192338081:=0
def tw5428750244493831984:=0
def tw5304371660382081827:=0
def tw11568864086081698628:=0
def tw5051882616208778621:=0
def tw11050957731001367670:=0
def tw12584346288458046888:=0
def tw9203663990454901567:=0
def tw11958032201535722640:=0
def tw3896020217294666878:=0
def tw3733112630359934289:=0
def tw14812381092318128897:=0
def tw4853533369297908150:=0
def tw4583806872886109064:=0
def tw9919863483352405168:=0
def tw14889025885547894579:=0
def tw9230395619877096378:=0
def tw8824478364528286241:=0
def tw12679641861429500725:=0
def tw1898493582854319949:=0
def tw15602872599289916498:=0
def tw12429382604177039513:=0
def tw10952243506519282671:=0
def tw1661397593222218725:=0
def tw11718059007017340106:=0
def tw7399789533016276553:=0
def tw7718597419282226704:=0
def tw10637567634468596044:=0
def tw1583140584536466832:=0
def tw3053462361084499511:=0
def tw12759784457037947124:=0
def tw2820514306192234019:=0
def tw9681626389904738441:=0
def tw3453299670032423993:=0
def tw9336918599811112538:=0
def tw7242787766519938459:=0
def tw10645466088087171153:=0
def tw11788927226770892757:=0
def tw11292961554961816586:=0
def tw8573211355247625736:=0
def tw1628214038422481523:=0
def tw9059792808566461182:=0
def tw6484797700105204661:=0
def tw5491790120304500133:=0
def tw12719591002419798708:=0
def tw13626738731852760690:=0
def tw12921824407859543329:=0
def tw10293757089897188056:=0
def tw15145894928094667276:=0
def tw10313928270336465481:=0
def tw1227735079433218911:=0
def tw125003580947139177:=0
def tw5723315523821964692:=0
def tw17415782859064773312:=0
def tw12098204725384182986:=0
def tw1311949162839619081:=0
def tw1697704776727047025:=0
def tw5542335854958810876:=0
def tw13418205888300178290:=0
def tw6284128029029690124:=0
def tw17662062604446866413:=0
def tw875496475812039802:=0
def tw2864373049929024840:=0
def tw2622637972788753402:=0
def tw53250746253975503:=0
def tw3411012054486099320:=0
def tw17826354087792503209:=0
def tw14433960291507146399:=0
end PySem.W.Fast
open PySem PySem.W PyProof.Rows
set_option maxRecDepth 100000 in
set_option maxHeartbeats 0 in
theorem PySem.Challenge.cw_spanmap_k51_begun_and_done_holds : PySem.Challenge.rw_spanmap_k51_begun_and_done.Holds := by
 w_on; o_law; k_head; (case hw => w_witness2)
 k_fill
 refine' FL.walkB (l := PySem.Challenge.rw_spanmap_k51_begun_and_done) (k := 8) rfl rfl ⟨rfl, by decide, by decide⟩ (ts := []) (fun w h Y => ⟨PySem.W.kIn_of Y, fun _ h => nomatch h⟩) (fun w => by kernel_rfl) ?T ?F
 case T =>
  intro w
  dsimp only [L2.makers]
  repeat (first
   | exact FL.TabL.nil
   | (apply FL.tabL_noM (x := "Bundle.crowd") (C := "Bundle") (m := "crowd") (hm := rfl); k_is)
   | (apply FL.tabL_met (x := "Bundle.crowd") (C := "Bundle") (m := "crowd") (hm := rfl); k_is; k_is; k_is; exact rfl; k_is; exact rfl; kernel_rfl; decide)
   | (apply FL.tabL_no; k_is)
   | (apply FL.tabL_yes; k_is; k_is; exact rfl; k_is; exact rfl; kernel_rfl))
  all_goals decide
 case F =>
  intro w mg fa h KX G hmg
  refine' K51.all_mk KX G hmg ..
  all_goals first | ((first | unfold FL.DefM | unfold FL.DefC); iterate 9 (apply Exists.intro); repeat' (first | (unfold FL.LkF; k_is) | k_is | apply And.intro)) | ((first | unfold FL.CN | unfold FL.XN | unfold FL.XI); repeat' (first | k_is | apply And.intro | decide)) | (unfold L2.NoAttr; k_is) | (unfold FL.LkF; k_is) | k_is | k_exc | decide | exact rfl | kernel_rfl | skip
#print axioms PySem.Challenge.cw_spanmap_k51_begun_and_done_holds
