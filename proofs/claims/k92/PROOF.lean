import PyProof.Rows.All
import Wide.All
import OpenK.AllK
import Wide.FinOn
import Lean
import PyProof.EqAt
import PyProof.EqKinds
import PyProof.TupleCall
import PyProof.ListRange
import PyProof.P3In
import PyProof.NeData
import PyProof.NsDelKeeps
import PyProof.SliceList
import KE.KLam
import KE.KIntText
import PySem.Challenge.RW_spanmap_k92_maps_read_and_shown
set_option Elab.async false
set_option linter.all false
set_option maxRecDepth 100000
namespace HT
def sIx (n d : Nat) : Option Int -> Nat
 | none => d
 | some v => if v < 0 then (v + (n : Int)).toNat else min v.toNat n
end HT
namespace L2
open PySem
abbrev Key := Sum Int Str
def ixN (n : Nat) (i : Int) : Option Nat := if 0 <= i then (if i < n then some i.toNat else none) else if -(n : Int) <= i then some (i + n).toNat else none
def atI {α : Type} (xs : List α) (i : Int) : Option α := (ixN xs.length i).bind fun j => xs[j]?
end L2
namespace FL
open PySem PySem.Spec PyProof.Rows L2
def clsName : Nat -> Str
 | 0 => "Put" | 1 => "Widen" | 2 => "Narrow" | 3 => "Move" | 4 => "Stretch" | 5 => "Mirror" | 6 => "Deed" | 7 => "Shut" | 8 => "Open" | 9 => "Endless" | 10 => "End" | _ => ""
def clsFlds : Nat -> List Str
 | 0 => ["span", "fill"] | 1 => ["fill", "at", "many"] | 2 => ["fill", "at", "many"] | 3 => ["fill", "far"] | 4 => ["fill", "top", "bottom"] | 5 => ["fill"] | 6 => ["fill"] | 7 => ["place"] | 8 => ["place"] | _ => []
def fnName : Nat -> Str
 | 0 => "either" | 1 => "if_both" | 2 => "if_alone" | 3 => "summed" | 4 => "_law_first" | 5 => "_law_both" | 6 => "_law_left" | 7 => "_law_sum" | 8 => "_law_none" | _ => ""
inductive D where
 | non | bl (b : Bool) | int (i : Int) | str (x : Str) | tup (ds : List D) | lst (ds : List D)
 | dct (ks : List Key) (ds : List D) | ins (t : Nat) (ds : List D) | clo (m n : Nat) (ds : List D)
mutual
def flat : D -> Bool
 | .non | .bl _ | .int _ | .str _ => true
 | .tup ds => flats ds
 | _ => false
def flats : List D -> Bool
 | [] => true
 | d :: r => flat d && flats r
end
def xName : Nat -> Str
 | 0 => "SpanError" | 1 => "Empty" | 2 => "NoEnd" | 3 => "Clash" | 4 => "NoCount" | 5 => "NoShare" | 6 => "NoName" | 7 => "NoMark" | 8 => "NoDeed" | 9 => "NoRule" | 10 => "TooMuch" | 11 => "NoText" | _ => "NoRow"
inductive Sl where
 | no | v (d : D) | own (l : List D) | exc (t : Nat) | fr (l : List D)
abbrev FE := List Sl -> Option D
abbrev FT := List Sl -> Option Bool
abbrev FA := List Sl -> Option (List D)
def mkL (f : FA) : FE := fun ds => (f ds).map D.lst
def qZ (i : Nat) : FE := fun ds => match ds[i]? with | some (.v d) => some d | _ => none
def zL (i : Nat) : FE := fun ds => match ds[i]? with | some (.v d) => some d | some (.own l) => some (.lst l) | _ => none
def zC (d : D) : FE := fun _ => some d
def zK (op : D -> D -> Option D) (fa fb : FE) : FE := fun ds => (fa ds).bind fun x => (fb ds).bind fun y => op x y
def isB : D -> Option Bool
 | .bl b => some b
 | _ => none
def zW (f : FE) : FT := fun ds => (f ds).bind isB
def jT : D -> D -> Option D
 | .int i, .int j => some (.int (i + j))
 | .str x, .str y => if x.length + y.length <= sizeLine then some (.str (x ++ y)) else none
 | _, _ => none
def subD : D -> D -> Option D
 | .int i, .int j => some (.int (i - j))
 | _, _ => none
def divOk (j : Int) : Prop := 0 < j /\ j.natAbs.log2 < 9000
noncomputable instance divOkD (j : Int) : Decidable (divOk j) := Classical.propDecidable _
noncomputable def yT : D -> D -> Option D
 | .int i, .int j => if divOk j then some (.int (i / j)) else none
 | _, _ => none
def wW : D -> D -> Option D
 | .int i, .int j => if 0 < j then some (.int (i % j)) else none
 | _, _ => none
def cmpI (p : Int -> Int -> Bool) : D -> D -> Option D
 | .int i, .int j => some (.bl (p i j))
 | _, _ => none
def andT (c d : FT) : FT := fun ds => (c ds).bind fun b => if b = true then d ds else some false
def orT (c d : FT) : FT := fun ds => (c ds).bind fun b => if b = true then some true else d ds
def notT (c : FT) : FT := fun ds => (c ds).map not
def andV (f g : FE) : FE := fun ds => (f ds).bind fun d => match d with | .bl true => g ds | .bl false => some (.bl false) | _ => none
def orV (f g : FE) : FE := fun ds => (f ds).bind fun d => match d with | .bl true => some (.bl true) | .bl false => g ds | _ => none
def notV (f : FE) : FE := fun ds => (f ds).bind fun d => match d with | .bl b => some (.bl (!b)) | _ => none
def ifV (c : FT) (f g : FE) : FE := fun ds => (c ds).bind fun b => if b = true then f ds else g ds
def chain (op op' : D -> D -> Option D) (fa fb fc : FE) : FE := fun ds => (fa ds).bind fun x => (fb ds).bind fun y => (op x y).bind fun z => match z with
 | .bl true => (fc ds).bind fun w => op' y w
 | .bl false => some (.bl false)
 | _ => none
def zG (f : FE) (g : FA) : FA := fun ds => (f ds).bind fun x => (g ds).map fun r => x :: r
def qC : FA := fun _ => some []
def qU (f : FA) : FA := fun ds => (f ds).bind fun l => if l.length <= sizeLine then some l else none
def mkT (f : FA) : FE := fun ds => (f ds).map D.tup
def ixD : D -> D -> Option D
 | .lst l, .int i => atI l i
 | .tup l, .int i => atI l i
 | .str x, .int i => if x.length <= sizeLine then (atI x.cps.toList i).map fun c => .str ⟨#[c]⟩ else none
 | _, _ => none
inductive Ret where
 | val (d : D) | fresh (l : List D) | any (d : D)
def retV : Ret -> Option D
 | .val d => some d
 | .fresh l => some (.lst l)
 | .any _ => none
def retF : Ret -> Option (List D)
 | .fresh l => some l
 | _ => none
def qO (n : Nat) (F : List D -> Option Ret) (g : FA) : FE := fun ds => (g ds).bind fun l => if l.length = n then (F l).bind retV else none
def wO (n : Nat) (F : List D -> Option Ret) (g : FA) : FA := fun ds => (g ds).bind fun l => if l.length = n then (F l).bind retF else none
def callB (F : List D -> Option D) (g : FA) : FE := fun ds => (g ds).bind F
def lenD : List D -> Option D
 | [.lst l] => some (.int l.length)
 | [.tup l] => some (.int l.length)
 | [.str x] => if x.length <= sizeLine then some (.int x.length) else none
 | _ => none
inductive Out where
 | nx (ds : List Sl) | rt (r : Ret) | bk (ds : List Sl) | ct (ds : List Sl)
abbrev FS := List Sl -> Option Out
def qF : FS := fun ds => some (.nx ds)
def qJ (f g : FS) : FS := fun ds => (f ds).bind fun o => match o with | .nx ds' => g ds' | o => some o
def ifG (c : FT) (f g : FS) : FS := fun ds => (c ds).bind fun b => if b = true then f ds else g ds
def yI (i : Nat) (f : FE) : FS := fun ds => (f ds).map fun d => .nx (ds.set i (.v d))
def setOG (i : Nat) (f : FA) : FS := fun ds => (f ds).map fun l => .nx (ds.set i (.own l))
def flatR (d : D) : Option Out := if flat d = true then some (.rt (.val d)) else none
def retG (f : FE) : FS := fun ds => (f ds).bind flatR
def flatF (l : List D) : Option Out := if flats l = true then some (.rt (.fresh l)) else none
def retOG (f : FA) : FS := fun ds => (f ds).bind flatF
def retXG (i : Nat) : FS := fun ds => match ds[i]? with | some (.own l) => flatF l | _ => none
def putG (i : Nat) (fk fe : FE) : FS := fun ds => match ds[i]? with
 | some (.own l) => (fe ds).bind fun d => (fk ds).bind fun k => match k with
   | .int n => (ixN l.length n).map fun j => .nx (ds.set i (.own (l.set j d)))
   | _ => none
 | _ => none
def appG (i : Nat) (fe : FE) : FS := fun ds => match ds[i]? with
 | some (.own l) => (fe ds).bind fun d => if l.length < sizeLine then some (.nx (ds.set i (.own (l ++ [d])))) else none
 | _ => none
def args (n : Nat) (ds : List D) : List Sl := ds.map Sl.v ++ List.replicate (n - ds.length) Sl.no
def sgns (x : Str) : List D := x.cps.toList.map fun c => D.str ⟨#[c]⟩
def asS : D -> Option (List D)
 | .str x => some (sgns x)
 | _ => none
def viaA (f : FE) (k : D -> Option (List D)) : FA := fun ds => (f ds).bind k
def rangeD (lo : Int) (n : Nat) : List D := (List.range n).map fun (k : Nat) => D.int (lo + (k : Int))
def okR (j : Int) : Prop := -(2 ^ 62) <= j /\ j < 2 ^ 62
noncomputable instance okRD (j : Int) : Decidable (okR j) := Classical.propDecidable _
noncomputable def rng1 (f : FE) : FA := fun ds => (f ds).bind fun d => match d with | .int j => if okR j then some (rangeD 0 j.toNat) else none | _ => none
def zT (i : Nat) : D -> List Sl -> Option (List Sl) := fun d ds => some (ds.set i (.v d))
def tgNil : List D -> List Sl -> Option (List Sl)
 | [], ds => some ds
 | _, _ => none
def zP (g : D -> List Sl -> Option (List Sl)) (h : List D -> List Sl -> Option (List Sl)) : List D -> List Sl -> Option (List Sl)
 | d :: r, ds => (g d ds).bind fun ds' => h r ds'
 | _, _ => none
def tupG (n : Nat) (h : List D -> List Sl -> Option (List Sl)) : D -> List Sl -> Option (List Sl)
 | .tup l, ds => if l.length = n then h l ds else none
 | _, _ => none
def jD (ga : D -> List Sl -> Option (List Sl)) (body : FS) : List D -> List Sl -> Option Out
 | [], ds => some (.nx ds)
 | d :: r, ds => (ga d ds).bind fun ds1 => (body ds1).bind fun o => match o with
   | .nx ds2 => jD ga body r ds2
   | .ct ds2 => jD ga body r ds2
   | .bk ds2 => some (.nx ds2)
   | .rt r => some (.rt r)
def forG (fi : FA) (ga : D -> List Sl -> Option (List Sl)) (body : FS) : FS := fun ds => (fi ds).bind fun items => jD ga body items ds
def compL (ga : D -> List Sl -> Option (List Sl)) (tt : FT) (fe : FE) (s0 : List Sl) : List D -> Option (List D)
 | [] => some []
 | d :: r => (ga d s0).bind fun ds1 => (tt ds1).bind fun b => if b = true then (fe ds1).bind fun y => (compL ga tt fe s0 r).map fun ys => y :: ys else compL ga tt fe s0 r
def jK (mp : List (Option Nat)) (ds : List Sl) : List Sl := mp.map fun o => match o with
 | some j => (match ds[j]? with | some (.v d) => .v d | _ => .no)
 | none => .no
def compG (fi : FA) (mp : List (Option Nat)) (ga : D -> List Sl -> Option (List Sl)) (tt : FT) (fe : FE) : FA := fun ds => (fi ds).bind fun items => if items.length <= sizeLine then compL ga tt fe (jK mp ds) items else none
def tyD : D -> Option String
 | .non => some "NoneType"
 | .bl _ => some "bool"
 | .int _ => some "int"
 | .str _ => some "str"
 | .tup _ => some "tuple"
 | .lst _ => some "list"
 | .dct _ _ => some "dict"
 | .ins _ _ => none
 | .clo _ _ _ => none
def kitN : List String := ["NoneType", "bool", "int", "str", "tuple", "list", "dict"]
def kitT : List String := ["bool", "int", "str", "tuple", "list", "dict"]
def kitF (t T : String) : Option Bool := if t ∈ kitN /\ T ∈ kitT then some (t == T || (t == "bool" && T == "int")) else none
def isiD (T : String) (d : D) : Option D := (tyD d).bind fun t => (kitF t T).map D.bl
def isiG (T : String) (f : FE) : FE := fun ds => (f ds).bind (isiD T)
def blsD : List D -> Option (List Bool)
 | [] => some []
 | .bl b :: r => (blsD r).map fun bs => b :: bs
 | _ => none
def allD : List D -> Option D
 | [.lst l] => (blsD l).map fun bs => .bl (bs.all id)
 | _ => none
def strsD : List D -> Option (List Str)
 | [] => some []
 | .str b :: r => (strsD r).map fun bs => b :: bs
 | _ => none
def joinD : D -> D -> Option D
 | .str z, .lst l => (strsD l).bind fun ts => if z.length <= 16 /\ (ts.map (·.length)).sum + ts.length <= 1048576 then some (.str (Txt.join z ts)) else none
 | _, _ => none
def negD : D -> Option D
 | .int i => some (.int (-i))
 | _ => none
def un1 (op : D -> Option D) (f : FE) : FE := fun ds => (f ds).bind op
def inS : D -> D -> Option D
 | .str i, .str j => some (.bl (!(Builtin.Str.occurrences j i 0 j.length 1).isEmpty))
 | _, _ => none
def retDG (f : FE) : FS := fun ds => (f ds).map fun d => .rt (.val d)
def runG (g : FS) (n : Nat) : List D -> Option Ret := fun ds => match g (args n ds) with
 | some (.rt r) => some r
 | some (.nx _) => some (.val .non)
 | _ => none
def CPowB (i j : Int) : Prop := 0 <= j /\ (Builtin.Int.intBits i : Int) * j <= 2 ^ 27
mutual
def toPy : D -> PyData
 | .non => .none
 | .bl b => .bool b
 | .int i => .int i
 | .str x => .str x
 | .tup ds => .tuple (toPys ds)
 | .lst ds => .list (toPys ds)
 | .dct _ _ => .none
 | .ins _ _ => .none
 | .clo _ _ _ => .none
def toPys : List D -> List PyData
 | [] => []
 | d :: r => toPy d :: toPys r
end
mutual
def shal : Nat -> D -> Bool
 | _, .non => true
 | _, .bl _ => true
 | _, .int _ => true
 | _, .str x => PyData.strOk x
 | n, .tup ds => shals n ds
 | n, .lst ds => shals n ds
 | _, .dct _ _ => false
 | _, .ins _ _ => false
 | _, .clo _ _ _ => false
def shals : Nat -> List D -> Bool
 | _, [] => true
 | 0, _ :: _ => false
 | n + 1, d :: r => shal n d && shals (n + 1) r
end
def eqvD (x y : D) : Bool := PyData.eqv (toPy x) (toPy y)
def eqvs (x y : List D) : Bool := PyData.eqvAll (toPys x) (toPys y)
def eqD (x y : D) : Option D := if shal 40 x = true /\ shal 40 y = true then some (.bl (eqvD x y)) else none
def neD (x y : D) : Option D := if shal 40 x = true /\ shal 40 y = true then some (.bl (!eqvD x y)) else none
def isD : D -> D -> Option D
 | .non, .non => some (.bl true)
 | _, .non => some (.bl false)
 | _, _ => none
def notD : D -> D -> Option D
 | .non, .non => some (.bl false)
 | _, .non => some (.bl true)
 | _, _ => none
def asLT : D -> Option (List D)
 | .lst l => some l
 | .tup l => some l
 | _ => none
noncomputable instance mulOkD (i j : Int) : Decidable (IntMulOk i j) := Classical.propDecidable _
noncomputable instance powOkD (i j : Int) : Decidable (CPowB i j) := Classical.propDecidable _
noncomputable def xX : D -> D -> Option D
 | .int i, .int j => if IntMulOk i j then some (.int (i * j)) else none
 | _, _ => none
noncomputable def powD : D -> D -> Option D
 | .int i, .int j => if CPowB i j then some (.int (i ^ j.toNat)) else none
 | _, _ => none
def catA (fa fb : FE) : FA := fun ds => (fa ds).bind fun x => (fb ds).bind fun y => match x, y with
 | .lst a, .lst b => if a.length + b.length <= sizeLine then some (a ++ b) else none
 | _, _ => none
def noP : List Sl -> Option (Option Int) := fun _ => some none
def soP (f : FE) : List Sl -> Option (Option Int) := fun ds => (f ds).bind fun d => match d with | .int i => some (some i) | _ => none
def cutD (l : List D) (lo hi : Option Int) : List D := (l.drop (HT.sIx l.length 0 lo)).take (HT.sIx l.length l.length hi - HT.sIx l.length 0 lo)
def sliA (f : FE) (lo hi : List Sl -> Option (Option Int)) : FA := fun ds => (f ds).bind fun d => (lo ds).bind fun a => (hi ds).bind fun b => match d with
 | .lst l => some (cutD l a b)
 | _ => none
def lisA (f : FE) : FA := fun ds => (f ds).bind asLT
def mxD : List D -> Option D
 | [.int i, .int j] => some (.int (if j > i then j else i))
 | _ => none
def mnD : List D -> Option D
 | [.int i, .int j] => some (.int (if j < i then j else i))
 | _ => none
def absD : List D -> Option D
 | [.int i] => some (.int (if i < 0 then -i else i))
 | _ => none
def truD : D -> Option Bool
 | .non => some false
 | .bl b => some b
 | .int i => some (i != 0)
 | .str x => if x.length <= sizeLine then some ((x.length : Int) != 0) else none
 | .tup l => some (!l.isEmpty)
 | .lst l => some (!l.isEmpty)
 | _ => none
def testT (f : FE) : FT := fun ds => (f ds).bind truD
def relS (i : Nat) (ds : List Sl) : List Sl := match ds[i]? with | some (.own l) => ds.set i (.v (.lst l)) | _ => ds
def asgG (ga : D -> List Sl -> Option (List Sl)) (f : FE) : FS := fun ds => (f ds).bind fun d => (ga d ds).map .nx
def extG (i : Nat) (fe : FA) : FS := fun ds => match ds[i]? with
 | some (.own l) => (fe ds).bind fun d => if l.length + d.length <= sizeLine then some (.nx (ds.set i (.own (l ++ d)))) else none
 | _ => none
def clrG (i : Nat) : FS := fun ds => match ds[i]? with
 | some (.own l) => some (.nx (ds.set i (.own [])))
 | _ => none
def anyD : List D -> Option D
 | [.lst l] => (blsD l).map fun bs => .bl (bs.any id)
 | _ => none
def ltD : D -> D -> Option D := cmpI fun i j => decide (i < j)
def leD : D -> D -> Option D := cmpI fun i j => decide (i <= j)
def gtD : D -> D -> Option D := cmpI fun i j => decide (j < i)
def geD : D -> D -> Option D := cmpI fun i j => decide (j <= i)
noncomputable def rng2 (fa fb : FE) : FA := fun ds => (fa ds).bind fun x => (fb ds).bind fun y => match x, y with
 | .int i, .int j => if okR i /\ okR j then some (rangeD i (j - i).toNat) else none
 | _, _ => none
def range3D (lo c : Int) (n : Nat) : List D := (List.range n).map fun (k : Nat) => D.int (lo + (k : Int) * c)
def steps3 (i j c : Int) : Nat := if i < j then ((j - i - 1) / c + 1).toNat else 0
def okR3 (i j c : Int) : Prop := -(2 ^ 61) <= i /\ i < 2 ^ 61 /\ -(2 ^ 61) <= j /\ j < 2 ^ 61 /\ 0 < c /\ c < 1000000
noncomputable instance okR3D (i j c : Int) : Decidable (okR3 i j c) := Classical.propDecidable _
noncomputable def rng3 (fa fb fc : FE) : FA := fun ds => (fa ds).bind fun x => (fb ds).bind fun y => (fc ds).bind fun z => match x, y, z with
 | .int i, .int j, .int c => if okR3 i j c then some (range3D i c (steps3 i j c)) else none
 | _, _, _ => none
def revA (f : FE) : FA := fun ds => (f ds).bind fun d => match d with
 | .lst l => some l.reverse
 | _ => none
def augA (i : Nat) (f : FE) : FS := fun ds => (qZ i ds).bind fun x => (f ds).bind fun y => match x, y with
 | .int a, .int b => some (.nx (ds.set i (.v (.int (a + b)))))
 | _, _ => none
def parG (i j : Nat) (f : FA) : FS := fun ds => (f ds).bind fun l => match l with
 | [a, b] => some (.nx ((ds.set i (.v a)).set j (.v b)))
 | _ => none
def int1D : List D -> Option D
 | [.int i] => some (.int i)
 | [.bl b] => some (.int (if b then 1 else 0))
 | _ => none
abbrev Fun2 := D -> List D -> Option Ret
end FL
namespace FL
open PySem PyProof.Rows L2
end FL
namespace FL
open PySem PyProof.Rows L2
def fldD (ix : List (Nat × Nat)) : D -> Option D
 | .ins t ds => (ix.lookup t).bind fun i => ds[i]?
 | _ => none
def fldG (ix : List (Nat × Nat)) (f : FE) : FE := fun ds => (f ds).bind (fldD ix)
def methR (n : Nat) (cs : List Nat) (F : Nat -> List D -> Option Ret) (o : D) (l : List D) : Option Ret := match o with
 | .ins t es => if t ∈ cs /\ l.length = n then F t (.ins t es :: l) else none
 | _ => none
def methV (n : Nat) (cs : List Nat) (F : Nat -> List D -> Option Ret) (fo : FE) (g : FA) : FE := fun ds => (fo ds).bind fun o => (g ds).bind fun l => (methR n cs F o l).bind retV
def methF (n : Nat) (cs : List Nat) (F : Nat -> List D -> Option Ret) (fo : FE) (g : FA) : FA := fun ds => (fo ds).bind fun o => (g ds).bind fun l => (methR n cs F o l).bind retF
def makeG (t n : Nat) (G : List D -> Option (List D)) (g : FA) : FE := fun ds => (g ds).bind fun l => if l.length = n /\ flats l = true then (G l).map (D.ins t) else none
abbrev FN := List Sl -> Option (List D)
def fldN (f : FE) : FN := fun ds => (f ds).bind fun d => if flat d = true then some [d] else none
def argsN (n : Nat) (ds : List D) : List Sl := Sl.no :: (ds.map Sl.v ++ List.replicate (n - (ds.length + 1)) Sl.no)
def runN (g : FN) (n : Nat) : List D -> Option (List D) := fun ds => (g (argsN n ds)).bind fun new => if flats new = true then some new else none
end FL
namespace FL
open PySem PyProof.Rows L2
end FL
namespace FL
open PySem
def okRB (i j : Int) : Prop := -(2 ^ 61) <= i /\ i < 2 ^ 61 /\ -(2 ^ 61) <= j /\ j < 2 ^ 61
noncomputable instance okRBD (i j : Int) : Decidable (okRB i j) := Classical.propDecidable _
end FL
namespace FL
def sltW (f : FE) (lo hi : List Sl -> Option (Option Int)) : FE := fun ds => (f ds).bind fun d => (lo ds).bind fun a => (hi ds).bind fun b => match d with
 | .tup l => some (.tup (cutD l a b))
 | _ => none
end FL
namespace FL
open PySem PyProof.Rows L2
def wC {α : Type} (l : List α) (lo hi : Option Int) (c : Int) : List α := (sliceRange (sliceBounds lo hi (some c) l.length).1 (sliceBounds lo hi (some c) l.length).2.1 (sliceBounds lo hi (some c) l.length).2.2).filterMap (l[·]?)
def stpA (f : FE) (lo hi : List Sl -> Option (Option Int)) (c : Int) : FA := fun ds => (f ds).bind fun d => (lo ds).bind fun a => (hi ds).bind fun b => match d with
 | .lst l => some (wC l a b c)
 | _ => none
end FL
namespace FL
open PySem PyProof.Rows L2
def rngL (fa fb : FE) : FA := fun ds => (fa ds).bind fun x => (fb ds).bind fun y => match x, y with
 | .int i, .int j => some (rangeD i (j - i).toNat)
 | _, _ => none
@[simp] theorem rngL_eq (fa fb : FE) (ds : List Sl) : rngL fa fb ds = (fa ds).bind fun x => (fb ds).bind fun y => match x, y with
 | .int i, .int j => some (rangeD i (j - i).toNat)
 | _, _ => none := rfl
end FL
namespace FL
open PySem PyProof.Rows L2
end FL
namespace FL
open PySem PyProof.Rows L2
def stwD : D -> D -> Option D
 | .str x, .str y => some (.bl (Txt.startswith x y))
 | _, _ => none
def enwD : D -> D -> Option D
 | .str x, .str y => some (.bl (Txt.endswith x y))
 | _, _ => none
def splA (f g : FE) : FA := fun ds => (f ds).bind fun x => (g ds).bind fun y => match x, y with
 | .str x, .str y => if (y.length == 0) = false /\ x.length + 2 <= sizeLine then some ((Txt.split x y).map D.str) else none
 | _, _ => none
def strD : List D -> Option D
 | [.int i] => if i.natAbs.log2 < 1920 then some (.str (Str.ofString (toString i))) else none
 | _ => none
def intTD : List D -> Option D
 | [.str x] => if x.length <= 640 then (intText? x).map D.int else none
 | l => int1D l
noncomputable instance mulOkSD (x : Str) (n : Int) : Decidable (MulOk x n) := Classical.propDecidable _
def slsS (f : FE) (lo hi : List Sl -> Option (Option Int)) : FE := fun ds => (f ds).bind fun d => (lo ds).bind fun a => (hi ds).bind fun b => match d with
 | .str x => if x.length <= sizeLine then some (.str (Txt.slice x a b)) else none
 | _ => none
end FL
namespace FL
open PySem PyProof.Rows L2
def lstG (n : Nat) (h : List D -> List Sl -> Option (List Sl)) : D -> List Sl -> Option (List Sl)
 | .lst l, ds => if l.length = n then h l ds else none
 | _, _ => none
def relV (i : Nat) (f : FE) : FE := fun ds => (f (relS i ds)).bind fun d => match d with
 | .str x => some (.str x)
 | .int n => some (.int n)
 | .bl b => some (.bl b)
 | _ => none
end FL
namespace L2
open PySem PySem.Spec PyProof.Rows
def keyIs : Key -> Value -> Bool
 | .inl k, v => Value.isInt k v
 | .inr x, v => Value.isStrOf x v
def keyH (w : World) : Key -> Int
 | .inl k => hashInt k
 | .inr x => hashStr w x
theorem qY : ∀ {k : Key} {v : Value}, keyIs k v = true -> (∃ i t, k = Sum.inl i /\ v = Value.int i t) \/ (∃ x t, k = Sum.inr x /\ v = Value.str x t)
 | .inl i, v, h => by
   obtain ⟨t, e⟩ := Value.isInt_shape (k := i) (v := v) h
   exact .inl ⟨i, t, rfl, e⟩
 | .inr x, v, h => by
   obtain ⟨t, e⟩ := Value.isStrOf_shape (x := x) (v := v) h
   exact .inr ⟨x, t, rfl, e⟩
theorem key_ll (a b : Int) : decide ((Sum.inl a : Key) = Sum.inl b) = (a == b) := by
 by_cases e : a = b
 · subst e; simp
 · have h : ¬ (Sum.inl a : Key) = Sum.inl b := fun q => e (Sum.inl.inj q)
   rw [decide_eq_false h]
   exact (beq_eq_false_iff_ne.mpr e).symm
theorem key_rr (a b : Str) : decide ((Sum.inr a : Key) = Sum.inr b) = decide (a = b) := by
 by_cases e : a = b
 · subst e; simp
 · have h : ¬ (Sum.inr a : Key) = Sum.inr b := fun q => e (Sum.inr.inj q)
   rw [decide_eq_false h, decide_eq_false e]
theorem key_lr (a : Int) (b : Str) : decide ((Sum.inl a : Key) = Sum.inr b) = false := decide_eq_false (fun q => nomatch q)
theorem key_rl (a : Str) (b : Int) : decide ((Sum.inr a : Key) = Sum.inl b) = false := decide_eq_false (fun q => nomatch q)
def mixKind (prog : Program) (w : World) : PySem.KeyKind prog w Key where
 is := keyIs
 hash := keyH w
 inj := fun v a b ha hb => by
  rcases qY ha with ⟨i, t, rfl, rfl⟩ | ⟨x, t, rfl, rfl⟩
  · rcases qY hb with ⟨j, u, rfl, e⟩ | ⟨y, u, rfl, e⟩
    · injection e with e1 _; rw [e1]
    · exact nomatch e
  · rcases qY hb with ⟨j, u, rfl, e⟩ | ⟨y, u, rfl, e⟩
    · exact nomatch e
    · injection e with e1 _; rw [e1]
 byValue := fun k v h => by
  rcases qY h with ⟨i, t, rfl, rfl⟩ | ⟨x, t, rfl, rfl⟩ <;> rfl
 pyHash := fun hv h => by
  rcases qY hv with ⟨i, t, rfl, rfl⟩ | ⟨x, t, rfl, rfl⟩
  · exact wpAny_pyHash_int h
  · exact wpAny_pyHash_str h
 eqBool := fun hu hv h => by
  rcases qY hu with ⟨i, t, rfl, rfl⟩ | ⟨x, t, rfl, rfl⟩
  · rcases qY hv with ⟨j, u, rfl, rfl⟩ | ⟨y, u, rfl, rfl⟩
    · rw [key_ll] at h; exact wpAny_eqBool_int h
    · rw [key_lr] at h; exact SeqAt.EqAt.int_str i t y u _ _ _ _ h
  · rcases qY hv with ⟨j, u, rfl, rfl⟩ | ⟨y, u, rfl, rfl⟩
    · rw [key_rl] at h; exact SeqAt.EqAt.str_int x t j u _ _ _ _ h
    · rw [key_rr] at h; exact wpAny_eqBool_str h
 «strs» := fun k x t v h => by
  rcases qY h with ⟨i, u, rfl, e⟩ | ⟨y, u, rfl, e⟩
  · exact nomatch e
  · injection e with e1 _
    subst e1
    cases v <;> rfl
end L2
namespace L2
open PySem PySem.Spec PyProof.Rows
inductive V where
 | non | bl (b : Bool) | int (i : Int) | str (x : Str) | byt (b : Array UInt8) | flt (b : UInt64) | ref (a : Addr) | ty (n : String)
 deriving DecidableEq
def RelV : V -> Value -> Prop
 | .non, u => u = Value.none
 | .bl b, u => u = Value.bool b
 | .int i, u => ∃ t, u = Value.int i t
 | .str x, u => ∃ t, u = Value.str x t
 | .byt b, u => ∃ t, u = Value.bytes b t
 | .flt b, u => ∃ t, u = Value.float b t
 | .ref a, u => u = Value.ref a
 | .ty n, u => u = Value.type n
abbrev Vals : List V -> List Value -> Prop := Paired RelV
theorem Vals.length {xs : List V} {us : List Value} (r : Vals xs us) : xs.length = us.length := Paired.length r
theorem Vals.get : ∀ {xs : List V} {us : List Value} {i : Nat} {x : V}, Vals xs us -> xs[i]? = some x -> ∃ u, us[i]? = some u /\ RelV x u
 | _, _, _, _, .nil, e => by simp at e
 | _, _, 0, _, .cons r _, e => by simp at e; subst e; exact ⟨_, rfl, r⟩
 | _, _, i + 1, x, .cons _ t, e => by
   obtain ⟨u, h1, h2⟩ := Vals.get (i := i) (x := x) t (by simpa using e)
   exact ⟨u, by simpa using h1, h2⟩
theorem Vals.set {x : V} {u : Value} (r : RelV x u) : ∀ {xs : List V} {us : List Value} (i : Nat), Vals xs us -> Vals (xs.set i x) (us.set i u)
 | _, _, _, .nil => .nil
 | _, _, 0, .cons _ t => .cons r t
 | _, _, i + 1, .cons q t => .cons q (Vals.set r i t)
theorem Vals.append : ∀ {xs ys : List V} {us ws : List Value}, Vals xs us -> Vals ys ws -> Vals (xs ++ ys) (us ++ ws)
 | _, _, _, _, .nil, s => s
 | _, _, _, _, .cons r t, s => .cons r (Vals.append t s)
theorem Vals.take : ∀ {xs : List V} {us : List Value} (n : Nat), Vals xs us -> Vals (xs.take n) (us.take n)
 | _, _, 0, _ => .nil
 | _, _, _ + 1, .nil => .nil
 | _, _, n + 1, .cons r t => .cons r (Vals.take n t)
theorem Vals.drop : ∀ {xs : List V} {us : List Value} (n : Nat), Vals xs us -> Vals (xs.drop n) (us.drop n)
 | _, _, 0, r => r
 | _, _, _ + 1, .nil => .nil
 | _, _, n + 1, .cons _ t => Vals.drop n t
def RelO : Option V -> Option Value -> Prop
 | some v, some u => RelV v u
 | none, none => True
 | _, _ => False
def KV {κ : Type} : List (κ × V) -> List (κ × Value) -> Prop := Paired fun (p : κ × V) (q : κ × Value) => p.1 = q.1 /\ RelV p.2 q.2
def kV : Key -> V
 | .inl i => .int i
 | .inr x => .str x
inductive HO where
 | lst (xs : List V)
 | tup (xs : List V)
 | dK (kvs : List (Key × V)) | dT (kvs : List (List Key × V))
 | set (S : Int -> Bool) (n : Nat)
 | ins (C dx : Addr) (fs : List (Str × V))
 | own (x : Addr)
 | xd (fs : List (Str × V))
 | met (f x : Addr)
 | rng (lo hi : Int)
 | frz (o : Obj) (u : HO)
 | tbl (q : Nat -> Nat -> Str)
 | ext (φ : Heap -> Prop)
abbrev Hp := Addr -> Option HO
def upd (H : Hp) (a : Addr) (o : HO) : Hp := fun b => if b = a then some o else H b
theorem qQ {H : Hp} {a : Addr} {o : HO} : upd H a o a = some o := by unfold upd; rw [if_pos rfl]
theorem qI {H : Hp} {a b : Addr} {o : HO} (h : b ≠ a) : upd H a o b = H b := by unfold upd; rw [if_neg h]
theorem jE {H : Hp} {a b : Addr} {o : HO} (h : H a = some o) (h' : H b = none) : a ≠ b := by
 intro e; subst e; rw [h] at h'; cases h'
def TblOk (H : Hp) (q : Nat -> Nat -> Str) (ps : Array Value) : Prop := TriplesOk ps.toList /\ ∀ pos v, codeAmong pos ps.toList = some v -> ∃ c o u vs t, v = .ref c /\ H c = some (.frz o u) /\ o.data = .fields vs /\ vs[1]? = some (.str (q pos.line pos.col) t)
def Fixed : HO -> Prop
 | .tup _ => True
 | .frz o _ => ∃ vs, o.data = .fields vs
 | _ => False
def Fx := { u : HO // Fixed u }
section
variable (P : Program) (w : World)
def ObjOk (H : Hp) (h : Heap) (a : Addr) : HO -> Prop
 | .lst xs => xs.length <= sizeLine /\ ∃ (its : List Value) (n : Nat), Vals xs its /\ h.get? a = some { cls := .type "list", data := .seq its.toArray n }
 | .tup xs => xs.length <= sizeLine /\ ∃ its : List Value, Vals xs its /\ IsTup h a its.toArray
 | .dK kvs => kvs.length <= sizeLine /\ (a == sysModules) = false /\ ∃ vs, KV kvs vs /\ h.DictOf (mixKind P w) a vs
 | .dT kvs => kvs.length <= sizeLine /\ (a == sysModules) = false /\ ∃ xs : List (List Key × Addr × Value),
    Paired (fun (p : List Key × V) (q : List Key × Addr × Value) => p.1 = q.1 /\ H q.2.1 = some (.tup (p.1.map kV)) /\ RelV p.2 q.2.2) kvs xs ∧
    ∃ o es ep, h.get? a = some o /\ o.ExactDict /\ o.data = .dict es ep /\ es.toList = xs.map (entryOfKey (tupleKind (mixKind P w))) /\ (xs.map (·.1)).Nodup
 | .set S n => h.SetOf (intKind P w) a S n
 | .ins C dx fs => H dx = some (.own a) /\ fs.length <= 1000 /\ dx ≠ a /\ h.get? a = some (PySem.W.instObj C dx) ∧
    ∃ mA, h.Ns1 dx mA /\ (∀ f, RelO (fs.lookup f) (mA f)) /\ PySem.Within mA (fs.map (·.1))
 | .own _ => ∃ o, h.get? a = some o
 | .xd fs => ∃ mA, h.Ns1 a mA /\ ∀ f, RelO (fs.lookup f) (mA f)
 | .rng lo hi => ∃ t u v, h.get? a = some { cls := .type "range", data := .fields #[.int lo t, .int hi u, .int 1 v] }
 | .frz o u => h.get? a = some o /\ ObjOk H h a u
 | .tbl q => ∃ ps, h.get? a = some (PySem.W.tabObj ps) /\ TblOk H q ps
 | .met f x => h.get? a = some (PySem.W.methodObj (.ref f) (.ref x))
 | .ext φ => φ h /\ (∃ o, h.get? a = some o) /\ ∀ h1 h2 : Heap, φ h1 -> (∀ o, h1.get? a = some o -> h2.get? a = some o) -> φ h2
def HOk (H : Hp) (h : Heap) : Prop := ∀ a o, H a = some o -> ObjOk P w H h a o
end
section
variable {P : Program} {w : World} {H H' : Hp} {h h' : Heap} {a : Addr} {o : HO}
theorem ObjOk.lt (x : ObjOk P w H h a o) : a < h.objs.size := by
 cases o with
 | lst xs => obtain ⟨_, _, _, _, e⟩ := x; exact Heap.lt_size e
 | tup xs => obtain ⟨_, _, _, p⟩ := x; exact p.lt
 | dK kvs => obtain ⟨_, _, _, _, o, _, _, e, _⟩ := x; exact Heap.lt_size e
 | dT kvs => obtain ⟨_, _, _, _, o, _, _, e, _⟩ := x; exact Heap.lt_size e
 | set S n => obtain ⟨o, _, _, _, e, _⟩ := x; exact Heap.lt_size e
 | ins C dx fs => obtain ⟨_, _, _, e, _⟩ := x; exact Heap.lt_size e
 | own y => obtain ⟨_, e⟩ := x; exact Heap.lt_size e
 | xd fs => obtain ⟨_, ⟨_, _, _, e, _⟩, _⟩ := x; exact Heap.lt_size e
 | rng lo hi => obtain ⟨_, _, _, e⟩ := x; exact Heap.lt_size e
 | frz ob u => obtain ⟨e, _⟩ := x; exact Heap.lt_size e
 | tbl q => obtain ⟨_, e, _⟩ := x; exact Heap.lt_size e
 | met f y => exact Heap.lt_size (show h.get? a = some _ from x)
 | ext φ => obtain ⟨_, ⟨_, e⟩, _⟩ := x; exact Heap.lt_size e
theorem Paired.mapP {α β : Type} {F G : α -> β -> Prop} : ∀ {l₁ : List α} {l₂ : List β}, Paired F l₁ l₂ -> (∀ a b, F a b -> G a b) -> Paired G l₁ l₂
 | _, _, .nil, _ => .nil
 | _, _, .cons r t, f => .cons (f _ _ r) (Paired.mapP t f)
theorem ObjOk.stay (x : ObjOk P w H h a o) (k : ∀ b u, (b = a \/ H b = some (.own a)) -> h.get? b = some u -> h'.get? b = some u)
  (ho : ∀ b, H b = some (.own a) -> H' b = some (.own a)) (ht : ∀ b (xs : Fx), H b = some xs.1 -> H' b = some xs.1) : ObjOk P w H' h' a o := by
 induction o with
 | lst xs => obtain ⟨z, its, n, r, e⟩ := x; exact ⟨z, its, n, r, k _ _ (.inl rfl) e⟩
 | tup xs => obtain ⟨z, its, r, ob, e, c⟩ := x; exact ⟨z, its, r, ob, k _ _ (.inl rfl) e, c⟩
 | dK kvs => obtain ⟨z, y, vs, r, ob, es, ep, e, c⟩ := x; exact ⟨z, y, vs, r, ob, es, ep, k _ _ (.inl rfl) e, c⟩
 | dT kvs =>
   obtain ⟨z, y, xs, r, ob, es, ep, e, c⟩ := x
   exact ⟨z, y, xs, Paired.mapP r fun p q z => ⟨z.1, ht _ ⟨.tup _, trivial⟩ z.2.1, z.2.2⟩, ob, es, ep, k _ _ (.inl rfl) e, c⟩
 | set S n => obtain ⟨ob, es, ep, t, e, c⟩ := x; exact ⟨ob, es, ep, t, k _ _ (.inl rfl) e, c⟩
 | ins C dx fs =>
   obtain ⟨d, z, ne, e, mA, ⟨od, es, ep, e2, c⟩, r⟩ := x
   exact ⟨ho _ d, z, ne, k _ _ (.inl rfl) e, mA, ⟨od, es, ep, k _ _ (.inr d) e2, c⟩, r⟩
 | own y => obtain ⟨ob, e⟩ := x; exact ⟨ob, k _ _ (.inl rfl) e⟩
 | xd fs => obtain ⟨mA, ⟨od, es, ep, e, c⟩, r⟩ := x; exact ⟨mA, ⟨od, es, ep, k _ _ (.inl rfl) e, c⟩, r⟩
 | rng lo hi => obtain ⟨t, u, v, e⟩ := x; exact ⟨t, u, v, k _ _ (.inl rfl) e⟩
 | frz ob u ih => obtain ⟨e, q⟩ := x; exact ⟨k _ _ (.inl rfl) e, ih q⟩
 | tbl q =>
   obtain ⟨ps, e, t1, t2⟩ := x
   refine ⟨ps, k a _ (.inl rfl) e, t1, fun pos v z => ?_⟩
   obtain ⟨c, o, u, vs, t, h1, h2, h3, h4⟩ := t2 pos v z
   exact ⟨c, o, u, vs, t, h1, ht c ⟨.frz o u, vs, h3⟩ h2, h3, h4⟩
 | met f y =>
   have e : h.get? a = some (PySem.W.methodObj (.ref f) (.ref y)) := x
   show h'.get? a = some (PySem.W.methodObj (.ref f) (.ref y))
   exact k a _ (.inl rfl) e
 | ext φ => obtain ⟨p, ⟨o, e⟩, st⟩ := x; exact ⟨st _ _ p fun o q => k _ _ (.inl rfl) q, ⟨o, k _ _ (.inl rfl) e⟩, st⟩
theorem HOk.lt (x : HOk P w H h) (e : H a = some o) : a < h.objs.size := (x a o e).lt
theorem HOk.fresh (x : HOk P w H h) (e : h.objs.size <= a) : H a = none := by
 cases q : H a with
 | none => rfl
 | some u => exact absurd (Nat.lt_of_lt_of_le (x.lt q) e) (Nat.lt_irrefl _)
theorem HOk.kept (x : HOk P w H h) (k : ∀ b u, h.get? b = some u -> h'.get? b = some u) : HOk P w H h' := fun a o e =>
 (x a o e).stay (fun b u _ q => k b u q) (fun _ q => q) fun _ _ q => q
theorem HOk.laid (x : HOk P w H h) (k : ∀ b u, h.get? b = some u -> h'.get? b = some u) (hp : h.objs.size <= a) (new : ObjOk P w (upd H a o) h' a o) : HOk P w (upd H a o) h' := fun b u e => by
 have hn := x.fresh hp
 by_cases hb : b = a
 · subst hb; rw [qQ] at e; cases e; exact new
 · rw [qI hb] at e
   exact (x b u e).stay (fun c v _ q => k c v q) (fun c q => by rw [qI (jE q hn)]; exact q) fun c xs q => by rw [qI (jE q hn)]; exact q
end
def Rd (H : Hp) (a : Addr) (u : HO) : Prop := H a = some u \/ ∃ o, H a = some (.frz o u)
theorem Rd.ok {P : Program} {w : World} {H : Hp} {h : Heap} {a : Addr} {u : HO} (r : Rd H a u) (x : HOk P w H h) : ObjOk P w H h a u := by
 rcases r with r | ⟨o, r⟩
 · exact x a u r
 · obtain ⟨_, q⟩ := x a _ r
   exact q
def Mut : Option HO -> Prop
 | some (.lst _) => True
 | some (.dK _) => True
 | some (.dT _) => True
 | some (.set _ _) => True
 | some (.ins _ _ _) => True
 | some (.ext _) => True
 | _ => False
section
variable {P : Program} {w : World} {H : Hp} {h h' : Heap} {x e : Addr} {o' : HO}
theorem HOk.write (ok : HOk P w H h) (mu : Mut (H x)) (he : e = x \/ H e = some (.own x)) (k : ∀ b u, b ≠ e -> h.get? b = some u -> h'.get? b = some u) (heo : ∃ u, h'.get? e = some u)
  (new : ObjOk P w (upd H x o') h' x o') : HOk P w (upd H x o') h' := fun b u q => by
 have nown : ∀ c y, H c = some (.own y) -> c ≠ x := fun c y r z => by subst z; rw [r] at mu; exact mu
 have ntup : ∀ c (xs : Fx), H c = some xs.1 -> c ≠ x := fun c xs r z => by
  subst z; rw [r] at mu; obtain ⟨u, hu⟩ := xs
  cases u <;> first | exact False.elim mu | exact False.elim hu
 by_cases hb : b = x
 · subst hb; rw [qQ] at q; cases q; exact new
 · rw [qI hb] at q
   by_cases hbe : b = e
   · have q' : H b = some (.own x) := by
      rcases he with z | z
      · exact absurd (hbe.trans z) hb
      · rw [hbe]; exact z
     rw [q] at q'; cases q'
     obtain ⟨v, hv⟩ := heo
     exact ⟨v, by rw [hbe]; exact hv⟩
   · refine (ok b u q).stay (fun c v hc r => k c v ?_ r) (fun c r => by rw [qI (nown c b r)]; exact r) fun c xs r => by rw [qI (ntup c xs r)]; exact r
     rcases hc with rfl | hc
     · exact hbe
     · rintro rfl
       rcases he with z | z
       · exact nown c b hc z
       · rw [hc] at z; cases z; exact hb rfl
end
structure Un (fs ex : List Addr) (H H' : Hp) (h h' : Heap) : Prop where
 keep : ∀ b o, h.get? b = some o -> H b = none -> b ∉ fs -> b ∉ ex -> h'.get? b = some o
 slot : ∀ b o, h.get? b = some o -> H b = none -> b ∈ fs -> b ∉ ex -> ∃ sl, h'.get? b = some { o with slots := sl }
 free : ∀ b o, h.get? b = some o -> H b = none -> b ∉ ex -> H' b = none
 there : ∀ b o, h.get? b = some o -> b ∉ ex -> ∃ o', h'.get? b = some o'
 tups : ∀ b xs, H b = some (.tup xs) -> H' b = some (.tup xs)
 frzs : ∀ b o u, H b = some (.frz o u) -> H' b = some (.frz o u)
 tbls : ∀ b ps, H b = some (.tbl ps) -> H' b = some (.tbl ps)
section
variable {fs fs' ex ex' : List Addr} {H H1 H2 : Hp} {h h1 h2 h' : Heap} {a x e : Addr} {o : HO}
theorem Un.any (u : Un fs ex H H1 h h1) {b : Addr} {ob : Obj} (q : h.get? b = some ob) (n : H b = none) (hx : b ∉ ex) : ∃ sl, h1.get? b = some { ob with slots := sl } := by
 by_cases hb : b ∈ fs
 · exact u.slot b ob q n hb hx
 · exact ⟨ob.slots, u.keep b ob q n hb hx⟩
theorem Un.trans (a : Un fs ex H H1 h h1) (b : Un fs ex H1 H2 h1 h2) : Un fs ex H H2 h h2 where
 keep := fun c ob q n hc hx => b.keep c ob (a.keep c ob q n hc hx) (a.free c ob q n hx) hc hx
 slot := fun c ob q n hc hx => by
  obtain ⟨sl, e1⟩ := a.slot c ob q n hc hx
  obtain ⟨sl', e2⟩ := b.slot c _ e1 (a.free c ob q n hx) hc hx
  exact ⟨sl', e2⟩
 free := fun c ob q n hx => by
  obtain ⟨o', e1⟩ := a.there c ob q hx
  exact b.free c o' e1 (a.free c ob q n hx) hx
 there := fun c ob q hx => by
  obtain ⟨o', e1⟩ := a.there c ob q hx
  exact b.there c o' e1 hx
 tups := fun c xs q => b.tups c xs (a.tups c xs q)
 frzs := fun c ob xs q => b.frzs c ob xs (a.frzs c ob xs q)
 tbls := fun c ps q => b.tbls c ps (a.tbls c ps q)
theorem Un.kept (k : ∀ b u, h.get? b = some u -> h'.get? b = some u) : Un fs ex H H h h' :=
 ⟨fun b ob q _ _ _ => k b ob q, fun b ob q _ _ _ => ⟨ob.slots, k b ob q⟩, fun _ _ _ n _ => n, fun b ob q _ => ⟨ob, k b ob q⟩, fun _ _ q => q, fun _ _ _ q => q, fun _ _ q => q⟩
theorem Un.refl : Un fs ex H H h h := Un.kept fun _ _ q => q
theorem Un.laid (k : ∀ b u, h.get? b = some u -> h'.get? b = some u) (hp : h.objs.size <= a) (hn : H a = none) : Un fs ex H (upd H a o) h h' where
 keep := fun b u q _ _ _ => k b u q
 slot := fun b u q _ _ _ => ⟨u.slots, k b u q⟩
 free := fun b u q n _ => by rw [qI (Nat.ne_of_lt (Nat.lt_of_lt_of_le (Heap.lt_size q) hp))]; exact n
 there := fun b u q _ => ⟨u, k b u q⟩
 tups := fun b xs q => by rw [qI (jE q hn)]; exact q
 frzs := fun b u xs q => by rw [qI (jE q hn)]; exact q
 tbls := fun b ps q => by rw [qI (jE q hn)]; exact q
theorem Un.write (mu : Mut (H x)) (he : e = x \/ H e = some (.own x)) (k : ∀ b u, b ≠ e -> h.get? b = some u -> h'.get? b = some u) (heo : ∃ u, h'.get? e = some u) : Un fs ex H (upd H x o) h h' := by
 have hx : ∀ b, H b = none -> b ≠ x := fun b n z => by subst z; rw [n] at mu; exact mu
 have hb : ∀ b, H b = none -> b ≠ e := fun b n z => by
  subst z
  rcases he with r | r
  · exact hx b n r
  · rw [n] at r; cases r
 have hm : ∀ b u, H b = some u -> ¬ Mut (some u) -> b ≠ x := fun b u q nm z => by subst z; rw [q] at mu; exact nm mu
 refine ⟨fun b u q n _ _ => k b u (hb b n) q, fun b u q n _ _ => ⟨u.slots, k b u (hb b n) q⟩, fun b u q n _ => by rw [qI (hx b n)]; exact n, fun b u q _ => ?_,
  fun b xs q => by rw [qI (hm b _ q fun z => z)]; exact q, fun b u xs q => by rw [qI (hm b _ q fun z => z)]; exact q, fun b ps q => by rw [qI (hm b _ q fun z => z)]; exact q⟩
 by_cases hbe : b = e
 · subst hbe; exact heo
 · exact ⟨u, k b u hbe q⟩
end
def trk (h : Heap) (H : Hp) : List Addr := (List.range h.objs.size).filter fun a => (H a).isSome
def hidT (h : Heap) (H : Hp) : Heap := PySem.W.hideAll h (trk h H)
theorem hidT_size (h : Heap) (H : Hp) : (hidT h H).objs.size = h.objs.size := PySem.W.hideAll_size _ _
theorem hidT_get {h : Heap} {H : Hp} {b : Addr} {o : Obj} (e : h.get? b = some o) (n : H b = none) : (hidT h H).get? b = some o :=
 PySem.W.hideAll_get _ e fun hm => by
  have q : (H b).isSome = true := (List.mem_filter.mp hm).2
  rw [n] at q; simp at q
theorem of_hidT {h : Heap} {H : Hp} {b : Addr} {o : Obj} (e : (hidT h H).get? b = some o) : h.get? b = some o /\ H b = none := by
 have e' : h.get? b = some o := PySem.W.of_hideAll (trk h H) e
 refine ⟨e', ?_⟩
 cases q : H b with
 | none => rfl
 | some x =>
   have hm : b ∈ trk h H := List.mem_filter.mpr ⟨List.mem_range.mpr (Heap.lt_size e'), by simp [q]⟩
   have z : (hidT h H).get? b = none := PySem.W.hideAll_none (trk h H) hm
   rw [z] at e; cases e
def allNews (g h : Heap) (L : Addr) : List (Addr × Obj) := (List.range h.objs.size).filterMap fun a => if a = L \/ (g.get? a).isSome = true then none else (h.get? a).map fun o => (a, o)
def rest (g h : Heap) (L d : Addr) : List (Addr × Obj) := (allNews g h L).filter fun p => decide (p.1 ≠ d)
end L2
namespace L2
open PySem PySem.Spec PyProof.Rows
structure Mod (K : PySem.W.Frag) (mg : Str -> Option Value) (base : Heap) : Prop where
 kin : K.In base
 glob : base.Ns mainGlobals mg
 blt : ∃ mb, base.Ns builtinsNs mb /\ ∀ x : Str, x ≠ "__name__" -> mb x = bootBuiltins x
 nolimit : base.NoLimit
structure Cx where
 prog : Program
 w : World
 K : PySem.W.Frag
 mg : Str -> Option Value
 base : Heap
 A : Around
 N : List Str
 s₀ : Shared
 H₀ : Hp
 env : Env
 outer : List Env
 stack : List Env
 ex : List Addr
 fn : Str -> Bool
 calm : Bool
 pn : List (Addr × Obj)
 xe : Value -> Shared -> Prop
def frs (l : List Env) : List Addr := l.filterMap (·.frame)
abbrev Cx.fs (X : Cx) : List Addr := frs X.outer
def Vis (sc : Scope) (x : Str) : Prop := sc.names.lookup x = some .local \/ sc.names.lookup x = some .cell \/ sc.names.lookup x = some .free
def Loc (sc : Scope) (x : Str) : Prop := sc.names.lookup x = some .local \/ sc.names.lookup x = some .cell
def Look (env : Env) (h : Heap) (m : Str -> Option Value) (x : Str) (u : Value) : Prop :=
 (env.kindOf x = some .local /\ m x = some u) \/ ((env.kindOf x = some .cell \/ env.kindOf x = some .free) /\ ∃ c, env.cells.lookup x = some c /\ h.IsCell c (some u))
def makers : List Str := ["law", "_law_with_itself", "_law_ways", "_law_way", "holding", "_law_any_test", "_law_test", "_law_turned", "_law_right", "wheel_run", "answer_run"]
def innerN : List Stmt -> Nat -> Nat -> Str
 | [], _, _ => "<lambda>"
 | .FunctionDef n _ _ _ _ _ _ _ _ pos :: r, l, c => if pos.line = l /\ pos.col = c then n else innerN r l c
 | _ :: r, l, c => innerN r l c
def innerQ (K : PySem.W.Frag) (x : Str) (l c : Nat) : Str := match PySem.W.nsIn K mainGlobals x with
 | some (some (.ref f)) => (match K.lookup f with
   | some ⟨_, _, .func fd, _⟩ => (match fd.body with
     | .stmts b => x ++ ".<locals>." ++ innerN b l c
     | _ => x)
   | _ => x)
 | _ => x
structure TabsK (K : PySem.W.Frag) (mg : Str -> Option Value) (base : Heap) (H : Hp) : Prop where
 bm : ∃ bm ob, mg "__builtins__" = some (.ref bm) /\ bm ≠ builtinsNs /\ base.get? bm = some ob /\ ob.cls = .type "module" /\ ob.dict = some builtinsNs /\ ob.data = .plain
 tab : ∀ x c P, x ∈ makers -> PySem.W.tabIn K x = some (c, P) -> PySem.W.CodeHd base c P /\ H P = some (.tbl (innerQ K x))
def Bsz (K : PySem.W.Frag) (mg : Str -> Option Value) (base h : Heap) (H : Hp) : Prop := base.objs.size <= h.objs.size /\ TabsK K mg base H
def FreeC (X : Cx) (H : Hp) (x : Str) (c : Addr) : Prop := H c = none \/ (X.fn x = false /\ ∃ o u, H c = some (.frz o u))
theorem FreeC.now {X : Cx} {H : Hp} {x : Str} {c : Addr} (h : FreeC X H x c) (hf : X.fn x = true) : H c = none := h.elim id fun z => by rw [hf] at z; cases z.1
structure Cx.Ok (X : Cx) : Prop where
 mod : Mod X.K X.mg X.base
 kind : X.env.scope.kind = .function
 glob : X.env.globals = mainGlobals
 blt : X.env.builtins = builtinsNs
 above : X.s₀.heap.objs.size <= X.env.locals
 inj : ∀ x y c, X.env.cells.lookup x = some c -> X.env.cells.lookup y = some c -> x = y
 has : ∀ x, (X.env.kindOf x = some .cell \/ X.env.kindOf x = some .free) -> ∃ c, X.env.cells.lookup x = some c
 cab : ∀ x c, X.fn x = true -> X.env.cells.lookup x = some c -> X.s₀.heap.objs.size <= c
 hd : X.calm = true -> X.A.handled = none
 frames : X.A.frames = some X.stack
 stk : X.stack = X.outer \/ (X.stack = X.env :: X.outer /\ X.env.frame = some X.env.locals)
 exf : ∀ b ∈ X.ex, b ≠ X.env.locals /\ ∀ x c, X.env.cells.lookup x = some c -> c ≠ b
 bs : ∀ b o, X.base.get? b = some o -> X.s₀.heap.get? b = some o /\ X.H₀ b = none
 bsz : Bsz X.K X.mg X.base X.s₀.heap X.H₀
 noex : ∀ b o, X.base.get? b = some o -> b ∉ X.ex
 exfs : ∀ b ∈ X.ex, b ∉ X.fs
 funs : X.s₀.heap.FunFrames X.base X.outer
 frf : ∀ b ∈ X.fs, X.H₀ b = none
structure Inv (X : Cx) (pins : List (Addr × Obj)) (σ : List (Option V)) (H : Hp) (s : Shared) : Prop where
 ok : X.Ok
 os : s.os = X.s₀.os
 bare : AllBare s.gens
 base : Un X.fs X.ex X.H₀ H X.s₀.heap s.heap
 loc : ∃ m, s.heap.Ns X.env.locals m /\ ∀ (i : Nat) (x : Str) (v : V), X.N[i]? = some x -> σ[i]? = some (some v) -> Vis X.env.scope x -> ∃ u, RelV v u /\ Look X.env s.heap m x u
 cell : ∀ x c, X.env.cells.lookup x = some c -> ∃ v, s.heap.IsCell c v
 free : H X.env.locals = none
 freeC : ∀ x c, X.env.cells.lookup x = some c -> FreeC X H x c
 pin : ∀ p ∈ X.pn ++ pins, s.heap.get? p.1 = some p.2 /\ H p.1 = none /\ p.1 ≠ X.env.locals /\ p.1 ∉ X.fs /\ ∀ v, p.2.data ≠ .cell v
 hok : HOk X.prog X.w H s.heap
 len : σ.length = X.N.length
section
variable {X : Cx} {pins : List (Addr × Obj)} {σ : List (Option V)} {H H' : Hp} {s : Shared} {h' : Heap}
theorem Cx.Ok.nofr (ok : X.Ok) {b : Addr} {o : Obj} (e : X.base.get? b = some o) : b ∉ X.fs := fun hb => by
 have := (ok.funs.mem hb).1
 rw [e] at this; cases this
theorem Inv.bs (I : Inv X pins σ H s) : ∀ b o, X.base.get? b = some o -> s.heap.get? b = some o /\ H b = none := fun b o e =>
 ⟨I.base.keep b o (I.ok.bs b o e).1 (I.ok.bs b o e).2 (I.ok.nofr e) (I.ok.noex b o e), I.base.free b o (I.ok.bs b o e).1 (I.ok.bs b o e).2 (I.ok.noex b o e)⟩
theorem Inv.bk (I : Inv X pins σ H s) : ∀ b o, X.base.get? b = some o -> s.heap.get? b = some o := fun b o e => (I.bs b o e).1
theorem Inv.mod (I : Inv X pins σ H s) : Mod X.K X.mg X.base := I.ok.mod
theorem Inv.kIn (I : Inv X pins σ H s) : X.K.In s.heap := I.ok.mod.kin.keeps I.bk
theorem Inv.lt (I : Inv X pins σ H s) : X.env.locals < s.heap.objs.size := let ⟨_, hn, _⟩ := I.loc; hn.lt
theorem Inv.sz (I : Inv X pins σ H s) : X.s₀.heap.objs.size <= s.heap.objs.size := Nat.le_trans I.ok.above (Nat.le_of_lt I.lt)
theorem Inv.nofs (I : Inv X pins σ H s) {a : Addr} (h : s.heap.objs.size <= a) : a ∉ X.fs := fun hb => by
 obtain ⟨_, o, ho, _⟩ := I.ok.funs.mem hb
 exact absurd (Nat.lt_of_lt_of_le (Heap.lt_size ho) (Nat.le_trans I.sz h)) (Nat.lt_irrefl _)
theorem Inv.cne (I : Inv X pins σ H s) : ∀ x c, X.env.cells.lookup x = some c -> c ≠ X.env.locals := fun x c e z => by
 obtain ⟨v, o, ho, hd⟩ := I.cell x c e
 obtain ⟨m, ⟨o', es, ep, ho', hd', _⟩, _⟩ := I.loc
 rw [z, ho'] at ho; cases ho; rw [hd'] at hd; cases hd
theorem Inv.funs (I : Inv X pins σ H s) : s.heap.FunFrames X.base X.outer := by
 have all : ∀ (l : List Env), (∀ b ∈ frs l, b ∈ X.fs) -> X.s₀.heap.FunFrames X.base l -> s.heap.FunFrames X.base l := by
  intro l
  induction l with
  | nil => intro _ _; trivial
  | cons env r ih =>
    intro hs hl
    obtain ⟨hk, ⟨L, o, hf, hn, ho, hd⟩, hr⟩ := hl
    have hL : L ∈ X.fs := hs L (by unfold frs; rw [List.filterMap_cons, hf]; exact List.mem_cons_self)
    obtain ⟨sl, e⟩ := I.base.slot L o ho (I.ok.frf L hL) hL fun z => I.ok.exfs L z hL
    exact ⟨hk, ⟨L, _, hf, hn, e, hd⟩, ih (fun b hb => hs b (by unfold frs; rw [List.filterMap_cons, hf]; exact List.mem_cons_of_mem _ hb)) hr⟩
 exact all X.outer (fun _ hb => hb) I.ok.funs
theorem Inv.stack (I : Inv X pins σ H s) : s.heap.FunFrames X.base X.stack := by
 rcases I.ok.stk with e | ⟨e, hf⟩
 · rw [e]; exact I.funs
 · rw [e]
   obtain ⟨m, hn, _⟩ := I.loc
   refine .cons (by rw [I.ok.kind]; decide) hf hn ?_ I.funs
   exact Heap.get?_none_of_le (Nat.le_trans I.ok.bsz.1 I.ok.above)
theorem Inv.stkSub (I : Inv X pins σ H s) : ∀ b ∈ frs X.stack, b ∈ X.env.locals :: X.fs := fun b hb => by
 rcases I.ok.stk with e | ⟨e, hf⟩
 · rw [e] at hb; exact List.mem_cons_of_mem _ hb
 · rw [e] at hb
   unfold frs at hb
   rw [List.filterMap_cons, hf] at hb
   exact hb
theorem Inv.stkFree (I : Inv X pins σ H s) : ∀ b ∈ frs X.stack, H b = none := fun b hb => by
 rcases List.mem_cons.mp (I.stkSub b hb) with e | hb
 · rw [e]; exact I.free
 · obtain ⟨_, o, ho, _⟩ := I.ok.funs.mem hb
   exact I.base.free b o ho (I.ok.frf b hb) fun z => I.ok.exfs b z hb
theorem Inv.step {g' : Array GenState} {t' : Nat} {d' : Drawn} {ch : List Addr} (I : Inv X pins σ H s)
  (hch : ∀ b ∈ ch, (b ∈ X.ex \/ X.s₀.heap.objs.size <= b) /\ b ≠ X.env.locals /\ (∀ x c, X.env.cells.lookup x = some c -> c ≠ b) /\ ∀ p ∈ X.pn ++ pins, p.1 ≠ b)
  (keep : ∀ b o, b ≠ X.env.locals -> b ∉ X.fs -> b ∉ ch -> s.heap.get? b = some o -> H b = none -> h'.get? b = some o)
  (slot : ∀ b o, b ≠ X.env.locals -> b ∈ X.fs -> b ∉ ch -> s.heap.get? b = some o -> H b = none -> ∃ sl, h'.get? b = some { o with slots := sl }) (free : ∀ b o, b ∉ ch -> s.heap.get? b = some o -> H b = none -> H' b = none)
  (there : ∀ b o, b ∉ ch -> s.heap.get? b = some o -> ∃ o', h'.get? b = some o')
  (tups : ∀ b xs, H b = some (.tup xs) -> H' b = some (.tup xs)) (frzs : ∀ b o u, H b = some (.frz o u) -> H' b = some (.frz o u)) (tbls : ∀ b ps, H b = some (.tbl ps) -> H' b = some (.tbl ps))
  (ns : ∀ m, s.heap.Ns X.env.locals m -> h'.Ns X.env.locals m) (hok : HOk X.prog X.w H' h') (hg : AllBare g') :
  Inv X pins σ H' { s with heap := h', gens := g', drawn := d', toks := t' } := by
 have neL : ∀ b o, X.s₀.heap.get? b = some o -> b ≠ X.env.locals := fun b o e => Nat.ne_of_lt (Nat.lt_of_lt_of_le (Heap.lt_size e) I.ok.above)
 have neC : ∀ b o, X.s₀.heap.get? b = some o -> b ∉ X.ex -> b ∉ ch := fun b o e hx hb => by
  rcases (hch b hb).1 with z | z
  · exact hx z
  · exact absurd (Nat.lt_of_lt_of_le (Heap.lt_size e) z) (Nat.lt_irrefl _)
 have cellK : ∀ x c, X.env.cells.lookup x = some c -> ∀ v, s.heap.IsCell c v -> h'.IsCell c v := fun x c e v ⟨o, ho, hd⟩ => by
  have nch : c ∉ ch := fun z => (hch c z).2.2.1 x c e rfl
  rcases I.freeC x c e with fr | ⟨_, of, uf, fr⟩
  · by_cases hc : c ∈ X.fs
    · obtain ⟨sl, q⟩ := slot c o (I.cne x c e) hc nch ho fr
      exact ⟨_, q, hd⟩
    · exact ⟨o, keep c o (I.cne x c e) hc nch ho fr, hd⟩
  · obtain ⟨e1, _⟩ := I.hok c _ fr
    obtain ⟨e2, _⟩ := hok c _ (frzs c of uf fr)
    rw [ho] at e1; cases e1
    exact ⟨o, e2, hd⟩
 refine ⟨I.ok, I.os, hg, ⟨fun b o e n hb hx => ?_, fun b o e n hb hx => ?_, fun b o e n hx => ?_, fun b o e hx => ?_, fun b xs e => tups b xs (I.base.tups b xs e), fun b o xs e => frzs b o xs (I.base.frzs b o xs e), fun b ps e => ?_⟩, ?_, fun x c e => ?_, ?_, fun x c e => ?_, fun p hp => ?_, hok, I.len⟩
 · exact keep b o (neL b o e) hb (neC b o e hx) (I.base.keep b o e n hb hx) (I.base.free b o e n hx)
 · obtain ⟨sl, e1⟩ := I.base.slot b o e n hb hx
   obtain ⟨sl', e2⟩ := slot b _ (neL b o e) hb (neC b o e hx) e1 (I.base.free b o e n hx)
   exact ⟨sl', e2⟩
 · obtain ⟨o', e1⟩ := I.base.there b o e hx
   exact free b o' (neC b o e hx) e1 (I.base.free b o e n hx)
 · obtain ⟨o', e1⟩ := I.base.there b o e hx
   exact there b o' (neC b o e hx) e1
 · exact tbls b ps (I.base.tbls b ps e)
 · obtain ⟨m, hn, hl⟩ := I.loc
   refine ⟨m, ns m hn, fun i x v e1 e2 e3 => ?_⟩
   obtain ⟨u, r, l⟩ := hl i x v e1 e2 e3
   refine ⟨u, r, ?_⟩
   rcases l with l | ⟨k, c, e, z⟩
   · exact .inl l
   · exact .inr ⟨k, c, e, cellK x c e _ z⟩
 · obtain ⟨v, z⟩ := I.cell x c e
   exact ⟨v, cellK x c e v z⟩
 · obtain ⟨m, ⟨o, _, _, ho, _⟩, _⟩ := I.loc
   exact free _ o (fun z => (hch _ z).2.1 rfl) ho I.free
 · obtain ⟨v, o, ho, hd⟩ := I.cell x c e
   exact (I.freeC x c e).elim (fun fr => .inl (free c o (fun z => (hch c z).2.2.1 x c e rfl) ho fr)) fun ⟨h1, of, uf, fr⟩ => .inr ⟨h1, of, uf, frzs c of uf fr⟩
 · obtain ⟨e, n, ne, nf, d⟩ := I.pin p hp
   have nch : p.1 ∉ ch := fun z => (hch p.1 z).2.2.2 p hp rfl
   exact ⟨keep p.1 p.2 ne nf nch e n, free p.1 p.2 nch e n, ne, nf, d⟩
theorem Inv.un {t' : Nat} (I : Inv X pins σ H s) (u : Un X.fs [] H H' s.heap h') (hok : HOk X.prog X.w H' h') : Inv X pins σ H' { s with heap := h', toks := t' } := by
 obtain ⟨m, ⟨o, es, ep, ho, r⟩, _⟩ := id I.loc
 obtain ⟨sl, hL⟩ := u.any ho I.free (by simp)
 exact I.step (g' := s.gens) (d' := s.drawn) (ch := []) (fun _ z => nomatch z) (fun b o _ hb _ e n => u.keep b o e n hb (by simp)) (fun b o _ hb _ e n => u.slot b o e n hb (by simp)) (fun b o _ e n => u.free b o e n (by simp)) (fun b o _ e => u.there b o e (by simp)) u.tups u.frzs u.tbls (fun m' hm => by
  obtain ⟨o', es', ep', ho', r'⟩ := hm
  rw [ho] at ho'; cases ho'
  exact ⟨_, es', ep', hL, r'⟩) hok I.bare
theorem Inv.call {g' : Array GenState} {t' : Nat} {d' : Drawn} {ch : List Addr} (I : Inv X pins σ H s) (u : Un (frs X.stack) ch H H' s.heap h') (hok : HOk X.prog X.w H' h') (hg : AllBare g')
  (hch : ∀ b ∈ ch, (b ∈ X.ex \/ X.s₀.heap.objs.size <= b) /\ b ≠ X.env.locals /\ (∀ x c, X.env.cells.lookup x = some c -> c ≠ b) /\ ∀ p ∈ X.pn ++ pins, p.1 ≠ b) :
  Inv X pins σ H' { s with heap := h', gens := g', drawn := d', toks := t' } := by
 obtain ⟨m, ⟨o, es, ep, ho, r⟩, _⟩ := id I.loc
 obtain ⟨sl, hL⟩ := u.any ho I.free fun z => (hch _ z).2.1 rfl
 exact I.step (ch := ch) hch (fun b o hL hb hc e n => u.keep b o e n (fun z => (List.mem_cons.mp (I.stkSub b z)).elim hL hb) hc) (fun b o _ _ hc e n => u.any e n hc) (fun b o hc e n => u.free b o e n hc) (fun b o hc e => u.there b o e hc) u.tups u.frzs u.tbls (fun m' hm => by
  obtain ⟨o', es', ep', ho', r'⟩ := hm
  rw [ho] at ho'; cases ho'
  exact ⟨_, es', ep', hL, r'⟩) hok hg
theorem Inv.turned {t' : Nat} {it : Addr} (I : Inv X pins σ H s) (k : ∀ b o, b ≠ it -> s.heap.get? b = some o -> h'.get? b = some o) (hn : H it = none) (hL : it ≠ X.env.locals)
  (h1 : it ∈ X.ex \/ X.s₀.heap.objs.size <= it) (h2 : ∀ x c, X.env.cells.lookup x = some c -> c ≠ it) (h3 : ∀ p ∈ X.pn ++ pins, p.1 ≠ it) : Inv X pins σ H { s with heap := h', toks := t' } := by
 have nit : ∀ b u, H b = some u -> b ≠ it := fun b u e z => by rw [z, hn] at e; cases e
 refine I.step (g' := s.gens) (d' := s.drawn) (ch := [it]) (fun b hb => ?_) (fun b o _ _ hc e _ => k b o (fun z => hc (by simp [z])) e) (fun b o _ _ hc e _ => ⟨o.slots, k b o (fun z => hc (by simp [z])) e⟩) (fun _ _ _ _ n => n)
  (fun b o hc e => ⟨o, k b o (fun z => hc (by simp [z])) e⟩) (fun _ _ e => e) (fun _ _ _ e => e) (fun _ _ e => e) (fun m hm => ?_) (fun b u e => ?_) I.bare
 · have e : b = it := by simpa using hb
   subst e
   exact ⟨h1, hL, h2, h3⟩
 · obtain ⟨o, es, ep, ho, r⟩ := hm
   exact ⟨o, es, ep, k _ o (Ne.symm hL) ho, r⟩
 · refine (I.hok b u e).stay (fun c v hc q => k c v ?_ q) (fun _ q => q) fun _ _ q => q
   rcases hc with z | z
   · rw [z]; exact nit b u e
   · exact nit c _ z
theorem Inv.tok (I : Inv X pins σ H s) (t : Nat) : Inv X pins σ H { s with toks := t } := I.un (h' := s.heap) (t' := t) Un.refl I.hok
theorem Inv.kept {t' : Nat} (I : Inv X pins σ H s) (k : ∀ b u, s.heap.get? b = some u -> h'.get? b = some u) : Inv X pins σ H { s with heap := h', toks := t' } := I.un (Un.kept k) (I.hok.kept k)
theorem Inv.laid {a : Addr} {o : HO} {t' : Nat} (I : Inv X pins σ H s) (k : ∀ b u, s.heap.get? b = some u -> h'.get? b = some u) (hp : s.heap.objs.size <= a) (new : ObjOk X.prog X.w (upd H a o) h' a o) :
  Inv X pins σ (upd H a o) { s with heap := h', toks := t' } := I.un (Un.laid k hp (I.hok.fresh hp)) (I.hok.laid k hp new)
theorem Inv.write {x e : Addr} {o : HO} {t' : Nat} (I : Inv X pins σ H s) (mu : Mut (H x)) (he : e = x \/ H e = some (.own x)) (k : ∀ b u, b ≠ e -> s.heap.get? b = some u -> h'.get? b = some u) (heo : ∃ u, h'.get? e = some u)
  (new : ObjOk X.prog X.w (upd H x o) h' x o) : Inv X pins σ (upd H x o) { s with heap := h', toks := t' } := I.un (Un.write mu he k heo) (I.hok.write mu he k heo new)
theorem Inv.pins_of {pins' : List (Addr × Obj)} (I : Inv X pins σ H s) (h : ∀ p ∈ pins', s.heap.get? p.1 = some p.2 /\ H p.1 = none /\ p.1 ≠ X.env.locals /\ p.1 ∉ X.fs /\ ∀ v, p.2.data ≠ .cell v) : Inv X pins' σ H s :=
 ⟨I.ok, I.os, I.bare, I.base, I.loc, I.cell, I.free, I.freeC, fun p hp => (List.mem_append.mp hp).elim (fun z => I.pin p (List.mem_append_left _ z)) (h p), I.hok, I.len⟩
theorem nodup_ix {N : List Str} (hN : N.Nodup) {i j : Nat} {x : Str} (a : N[i]? = some x) (b : N[j]? = some x) : i = j := by
 obtain ⟨h1, e1⟩ := List.getElem?_eq_some_iff.mp a
 obtain ⟨h2, e2⟩ := List.getElem?_eq_some_iff.mp b
 exact (List.getElem_inj hN).mp (e1.trans e2.symm)
theorem store_ok2 {M : Model} {A : Around} {E : Value -> Shared -> Prop} {i : Nat} {x : Str} {v : V} {u : Value} {Q : Unit -> Shared -> Prop} (I : Inv X pins σ H s) (hN : X.N.Nodup) (hi : X.N[i]? = some x) (hx : Loc X.env.scope x) (r : RelV v u)
  (h : ∀ s', Inv X pins (σ.set i (some v)) H s' -> (∃ a, Heap.SameBut a s.heap s'.heap /\ (a = X.env.locals \/ X.env.cells.lookup x = some a)) -> Q () s') (hf : X.fn x = true \/ X.env.scope.names.lookup x = some .local := by first | exact .inl rfl | exact .inr rfl | assumption) : wpAny M A (storeName X.env x u) Q E s := by
 obtain ⟨m, hn, hl⟩ := id I.loc
 have hcls : (X.env.scope.kind == .class || (X.env.scope.kind == .module && X.env.locals != X.env.globals)) = false := by rw [I.ok.kind]; rfl
 have hiσ : i < σ.length := by rw [I.len]; exact (List.getElem?_eq_some_iff.mp hi).1
 have cne := I.cne
 have tracked : ∀ {a : Addr} {h' : Heap}, (∃ o, s.heap.get? a = some o /\ H a = none) -> Heap.SameBut a s.heap h' -> HOk X.prog X.w H h' := fun {a h'} ha hs b ob e => by
  obtain ⟨_, _, hfree⟩ := ha
  refine (I.hok b ob e).stay (fun c w' hc q => (hs.2 c ?_).trans q) (fun _ q => q) fun _ _ q => q
  rintro rfl
  rcases hc with rfl | hc
  · rw [hfree] at e; cases e
  · rw [hfree] at hc; cases hc
 rcases hx with hk | hk
 · refine wpAny_storeName_local hk hn (fun h' hn' hs => ?_) hcls
   obtain ⟨oL, _, _, hoL, _⟩ := id hn
   refine h _ ⟨I.ok, I.os, I.bare, ⟨fun b o e n hb hx => ?_, fun b o e n hb hx => ?_, I.base.free, fun b o e hx => ?_, I.base.tups, I.base.frzs, I.base.tbls⟩, ⟨_, hn', fun j y v' e1 e2 e3 => ?_⟩, fun y c e => ?_, I.free, I.freeC, fun p hp => ?_, tracked ⟨oL, hoL, I.free⟩ hs, by simpa using I.len⟩ ⟨_, hs, .inl rfl⟩
   · exact (hs.2 b (Nat.ne_of_lt (Nat.lt_of_lt_of_le (Heap.lt_size e) I.ok.above))).trans (I.base.keep b o e n hb hx)
   · obtain ⟨sl, e1⟩ := I.base.slot b o e n hb hx
     exact ⟨sl, (hs.2 b (Nat.ne_of_lt (Nat.lt_of_lt_of_le (Heap.lt_size e) I.ok.above))).trans e1⟩
   · obtain ⟨o', e1⟩ := I.base.there b o e hx
     exact ⟨o', (hs.2 b (Nat.ne_of_lt (Nat.lt_of_lt_of_le (Heap.lt_size e) I.ok.above))).trans e1⟩
   · by_cases hj : j = i
     · subst hj
       rw [hi] at e1; cases e1
       rw [List.getElem?_set_self hiσ] at e2
       cases e2
       exact ⟨u, r, .inl ⟨hk, by simp⟩⟩
     · rw [List.getElem?_set_ne (Ne.symm hj)] at e2
       obtain ⟨u', r', q⟩ := hl j y v' e1 e2 e3
       refine ⟨u', r', ?_⟩
       rcases q with ⟨k, e⟩ | ⟨k, c, e, z⟩
       · refine .inl ⟨k, ?_⟩
         have : y ≠ x := fun e => hj (nodup_ix hN e1 (e ▸ hi))
         simp [this, e]
       · exact .inr ⟨k, c, e, z.sameBut hs (cne y c e)⟩
   · obtain ⟨w', z⟩ := I.cell y c e
     exact ⟨w', z.sameBut hs (cne y c e)⟩
   · obtain ⟨e, n, ne, nf, d⟩ := I.pin p hp
     exact ⟨(hs.2 p.1 ne).trans e, n, ne, nf, d⟩
 · have hfn : X.fn x = true := by
    rcases hf with z | z
    · exact z
    · rw [z] at hk; cases hk
   obtain ⟨c, hc⟩ := I.ok.has x (.inl hk)
   obtain ⟨w', z⟩ := I.cell x c hc
   refine wpAny_storeName_cell I.ok.kind hk hc z (fun h' hc' hs => ?_)
   obtain ⟨oc, hoc, hocd⟩ := id z
   refine h { s with heap := h' } ⟨I.ok, I.os, I.bare, ⟨fun b o e n hb hx => ?_, fun b o e n hb hx => ?_, I.base.free, fun b o e hx => ?_, I.base.tups, I.base.frzs, I.base.tbls⟩, ⟨m, hn.sameBut hs (Ne.symm (cne x c hc)), fun j y v' e1 e2 e3 => ?_⟩, fun y c' e => ?_, I.free, I.freeC, fun p hp => ?_, tracked ⟨oc, hoc, (I.freeC x c hc).now hfn⟩ hs, by simpa using I.len⟩ ⟨c, hs, .inr hc⟩
   · exact (hs.2 b (Nat.ne_of_lt (Nat.lt_of_lt_of_le (Heap.lt_size e) (I.ok.cab x c hfn hc)))).trans (I.base.keep b o e n hb hx)
   · obtain ⟨sl, e1⟩ := I.base.slot b o e n hb hx
     exact ⟨sl, (hs.2 b (Nat.ne_of_lt (Nat.lt_of_lt_of_le (Heap.lt_size e) (I.ok.cab x c hfn hc)))).trans e1⟩
   · obtain ⟨o', e1⟩ := I.base.there b o e hx
     exact ⟨o', (hs.2 b (Nat.ne_of_lt (Nat.lt_of_lt_of_le (Heap.lt_size e) (I.ok.cab x c hfn hc)))).trans e1⟩
   · by_cases hj : j = i
     · subst hj
       rw [hi] at e1; cases e1
       rw [List.getElem?_set_self hiσ] at e2
       cases e2
       exact ⟨u, r, .inr ⟨.inl hk, c, hc, hc'⟩⟩
     · rw [List.getElem?_set_ne (Ne.symm hj)] at e2
       obtain ⟨u', r', q⟩ := hl j y v' e1 e2 e3
       refine ⟨u', r', ?_⟩
       rcases q with q | ⟨k, c', e, z'⟩
       · exact .inl q
       · refine .inr ⟨k, c', e, z'.sameBut hs ?_⟩
         rintro rfl
         exact hj (nodup_ix hN e1 (I.ok.inj _ _ _ e hc ▸ hi))
   · by_cases hcc : c' = c
     · subst hcc; exact ⟨_, hc'⟩
     · obtain ⟨w2, z2⟩ := I.cell y c' e
       exact ⟨w2, z2.sameBut hs hcc⟩
   · obtain ⟨e, n, ne, nf, d⟩ := I.pin p hp
     refine ⟨(hs.2 p.1 ?_).trans e, n, ne, nf, d⟩
     intro q
     rw [q, hoc] at e
     have q' : oc = p.2 := Option.some.inj e
     exact d w' (by rw [<- q']; exact hocd)
theorem store_ok {M : Model} {A : Around} {E : Value -> Shared -> Prop} {i : Nat} {x : Str} {v : V} {u : Value} {Q : Unit -> Shared -> Prop} (I : Inv X pins σ H s) (hN : X.N.Nodup) (hi : X.N[i]? = some x) (hx : Loc X.env.scope x) (r : RelV v u)
  (h : ∀ s', Inv X pins (σ.set i (some v)) H s' -> Q () s') (hf : X.fn x = true \/ X.env.scope.names.lookup x = some .local := by first | exact .inl rfl | exact .inr rfl | assumption) : wpAny M A (storeName X.env x u) Q E s :=
 store_ok2 I hN hi hx r (fun s' I' _ => h s' I') hf
theorem Inv.call' {s' : Shared} {ch : List Addr} (I : Inv X pins σ H s) (ho : s'.os = s.os) (u : Un (frs X.stack) ch H H' s.heap s'.heap) (hok : HOk X.prog X.w H' s'.heap) (hg : AllBare s'.gens)
  (hch : ∀ b ∈ ch, (b ∈ X.ex \/ X.s₀.heap.objs.size <= b) /\ b ≠ X.env.locals /\ (∀ x c, X.env.cells.lookup x = some c -> c ≠ b) /\ ∀ p ∈ X.pn ++ pins, p.1 ≠ b) : Inv X pins σ H' s' := by
 obtain ⟨h', g', d', t', o'⟩ := s'
 have e : o' = s.os := ho
 subst e
 exact I.call (g' := g') (t' := t') (d' := d') u hok hg hch
end
abbrev XK := Value -> Option Addr -> Hp -> Prop
abbrev St := List (Option V)
abbrev VK := V -> Hp -> Prop
abbrev TE := St -> Hp -> VK -> Prop
abbrev TT := St -> Hp -> (Bool -> Hp -> Prop) -> Prop
abbrev TA := St -> Hp -> (List V -> Hp -> Prop) -> Prop
structure Ends where
 nx : St -> Hp -> Prop
 rt : VK
 bk : St -> Hp -> Prop := fun _ _ => False
 ct : St -> Hp -> Prop := fun _ _ => False
abbrev TS := Ends -> St -> Hp -> Prop
def EP (X : Cx) (pins : List (Addr × Obj)) (σ : St) (Q : VK) (u : Value) (s' : Shared) : Prop := ∃ v H', Inv X pins σ H' s' /\ RelV v u /\ Q v H'
def TP (X : Cx) (pins : List (Addr × Obj)) (σ : St) (Q : Bool -> Hp -> Prop) (b : Bool) (s' : Shared) : Prop := ∃ H', Inv X pins σ H' s' /\ Q b H'
def AP (X : Cx) (pins : List (Addr × Obj)) (σ : St) (Q : List V -> Hp -> Prop) (us : List Value) (s' : Shared) : Prop := ∃ vs H', Inv X pins σ H' s' /\ Vals vs us /\ Q vs H'
def SP (X : Cx) (pins : List (Addr × Obj)) (D : Ends) (f : Flow) (s' : Shared) : Prop :=
 match f with
 | .next => ∃ σ' H', Inv X pins σ' H' s' /\ D.nx σ' H'
 | .brk => ∃ σ' H', Inv X pins σ' H' s' /\ D.bk σ' H'
 | .cont => ∃ σ' H', Inv X pins σ' H' s' /\ D.ct σ' H'
 | .ret u => ∃ v σ' H', Inv X pins σ' H' s' /\ RelV v u /\ D.rt v H'
def PE (X : Cx) (e : Expr) (t : TE) : Prop :=
 ∀ (pins : List (Addr × Obj)) (s : Shared) (σ : St) (H : Hp) (Q : VK), Inv X pins σ H s -> t σ H Q -> wpAny (model X.prog X.w) X.A (eval e X.env) (EP X pins σ Q) X.xe s
def PT (X : Cx) (e : Expr) (t : TT) : Prop :=
 ∀ (pins : List (Addr × Obj)) (s : Shared) (σ : St) (H : Hp) (Q : Bool -> Hp -> Prop), Inv X pins σ H s -> t σ H Q -> wpAny (model X.prog X.w) X.A (isTrue e X.env (eval e X.env)) (TP X pins σ Q) X.xe s
def PW (X : Cx) (e : Expr) (t : TT) : Prop :=
 ∀ (whole : Sem Value) (pins : List (Addr × Obj)) (s : Shared) (σ : St) (H : Hp) (Q : Bool -> Hp -> Prop), Inv X pins σ H s -> t σ H Q -> wpAny (model X.prog X.w) X.A (isTrue e X.env whole) (TP X pins σ Q) X.xe s
theorem PW.pt {X : Cx} {e : Expr} {t : TT} (h : PW X e t) : PT X e t := h _
def PA (X : Cx) (es : List Expr) (t : TA) : Prop :=
 ∀ (pos : Pos) (pins : List (Addr × Obj)) (s : Shared) (σ : St) (H : Hp) (Q : List V -> Hp -> Prop), Inv X pins σ H s -> t σ H Q -> wpAny (model X.prog X.w) X.A (spliced (backTo pos (starEach es X.env))) (AP X pins σ Q) X.xe s
def PS (X : Cx) (st : Stmt) (t : TS) : Prop :=
 ∀ (pins : List (Addr × Obj)) (s : Shared) (σ : St) (H : Hp) (D : Ends), Inv X pins σ H s -> t D σ H -> wpAny (model X.prog X.w) X.A (exec st X.env) (SP X pins D) X.xe s
def PSs (X : Cx) (st : List Stmt) (t : TS) : Prop :=
 ∀ (pins : List (Addr × Obj)) (s : Shared) (σ : St) (H : Hp) (D : Ends), Inv X pins σ H s -> t D σ H -> wpAny (model X.prog X.w) X.A (execs st X.env) (SP X pins D) X.xe s
theorem thn {α : Type} {t : Sem α} {Q Q' : α -> Shared -> Prop} {M : Model} {A : Around} {E : Value -> Shared -> Prop} {s : Shared} (h : wpAny M A t Q E s) (hQ : ∀ a s, Q a s -> Q' a s) : wpAny M A t Q' E s := wpAny_mono h hQ fun _ _ x => x
end L2
namespace L2
open PySem PySem.Spec PyProof.Rows
section
variable {X : Cx}
def tVar (i : Nat) : TE := fun σ H Q => ∃ v, σ[i]? = some (some v) /\ Q v H
def tC (v : V) : TE := fun _ H Q => Q v H
theorem wK {i : Nat} {x : Str} {pos : Pos} (hN : X.N[i]? = some x) (hv : Vis X.env.scope x) (hd : (x == ("__debug__" : Str)) = false := by decide) (hcd : (x == ("__classdict__" : Str)) = false := by decide) : PE X (.Name x pos) (tVar i) := by
 intro pins s σ H Q I h
 obtain ⟨v, e, h⟩ := h
 obtain ⟨m, hn, hl⟩ := I.loc
 obtain ⟨u, r, l⟩ := hl i x v hN e hv
 have fin : EP X pins σ Q u s := ⟨v, H, I, r, h⟩
 rcases l with ⟨hk, hm⟩ | ⟨hk, c, hc, hcell⟩
 · exact wpAny_Name (wpAny_loadName_local I.ok.kind hk hn hm fin) hd
 · rcases hk with hk | hk
   · exact wpAny_Name (wpAny_loadName_cell I.ok.kind hk hc hcell fin) hd
   · exact wpAny_Name (wpAny_loadName_free I.ok.kind hk hc hcell fin hcd) hd
theorem pe_int {i j pos} : PE X (.Constant (.int i) j pos) (tC (.int i)) := fun _ _ _ H _ I h => wpAny_Constant_int ⟨.int i, H, I.tok _, ⟨_, rfl⟩, h⟩
theorem pe_bl {b j pos} : PE X (.Constant (.bool b) j pos) (tC (.bl b)) := fun _ _ _ H _ I h => Constant_bool ⟨.bl b, H, I, rfl, h⟩
theorem pe_non {j pos} : PE X (.Constant .none j pos) (tC .non) := fun _ _ _ H _ I h => Constant_none ⟨.non, H, I, rfl, h⟩
theorem pe_str {x j pos} : PE X (.Constant (.str x) j pos) (tC (.str x)) := fun _ _ _ H _ I h => Calls.Constant_str ⟨.str x, H, I.tok _, ⟨_, rfl⟩, h⟩
def Gl (X : Cx) (x : Str) : Prop := X.env.kindOf x = some .globalImplicit
theorem kK {E : Value -> Shared -> Prop} {pins : List (Addr × Obj)} {s : Shared} {σ : St} {H : Hp} {x : Str} {u : Value} {pos : Pos} {Q : Value -> Shared -> Prop} (I : Inv X pins σ H s) (hg : Gl X x) (hm : X.mg x = some u) (h : Q u s)
  (hd : (x == ("__debug__" : Str)) = false := by decide) : wpAny (model X.prog X.w) X.A (eval (.Name x pos) X.env) Q E s :=
 Calls.Name_function_global I.ok.kind hg (Calls.loadGlobal_global (by rw [I.ok.glob]; exact I.mod.glob.keeps I.bk) hm h) hd
theorem vR {E : Value -> Shared -> Prop} {pins : List (Addr × Obj)} {s : Shared} {σ : St} {H : Hp} {x : Str} {u : Value} {pos : Pos} {Q : Value -> Shared -> Prop} (I : Inv X pins σ H s) (hg : Gl X x) (hm : X.mg x = none) (hv : bootBuiltins x = some u) (h : Q u s)
  (hn : x ≠ "__name__" := by decide) (hd : (x == ("__debug__" : Str)) = false := by decide) : wpAny (model X.prog X.w) X.A (eval (.Name x pos) X.env) Q E s := by
 obtain ⟨mb, h1, h2⟩ := I.mod.blt
 exact Calls.Name_function_global I.ok.kind hg (Calls.loadGlobal_builtin (by rw [I.ok.glob]; exact I.mod.glob.keeps I.bk) hm (by rw [I.ok.blt]; exact h1.keeps I.bk) ((h2 x hn).trans hv) h) hd
theorem pe_glob {x : Str} {v : V} {u : Value} {pos : Pos} (hg : Gl X x) (hm : X.mg x = some u) (r : RelV v u) (hd : (x == ("__debug__" : Str)) = false := by decide) : PE X (.Name x pos) (tC v) :=
 fun _ _ _ H _ I h => kK I hg hm ⟨v, H, I, r, h⟩ hd
theorem pe_bltn {x : Str} {v : V} {u : Value} {pos : Pos} (hg : Gl X x) (hm : X.mg x = none) (hv : bootBuiltins x = some u) (r : RelV v u) (hn : x ≠ "__name__" := by decide) (hd : (x == ("__debug__" : Str)) = false := by decide) : PE X (.Name x pos) (tC v) :=
 fun _ _ _ H _ I h => vR I hg hm hv ⟨v, H, I, r, h⟩ hn hd
variable {a b : Expr} {ta tb : TE} {pos : Pos}
def tB (t : TE) : TT := fun σ H Q => t σ H fun x H1 => ∃ c, x = .bl c /\ Q c H1
theorem pt_val {e : Expr} {t : TE} (h : PE X e t) (he : ∀ whole, isTrue e X.env whole = (do let v <- whole; standAt e.pos; holding [v] (truthy v)) := by intro _; rfl) : PT X e (tB t) := by
 intro pins s σ H Q I hw
 refine isTrue_plain (thn (h pins s σ H _ I hw) fun v s1 ⟨x, H1, I1, r1, q1⟩ => ?_) (he _)
 obtain ⟨d, rfl, q⟩ := q1
 cases r1
 exact wpAny_truthy_bool ⟨H1, I1, q⟩
variable {tA tB' : TT} {rest : List Expr}
def tAnd (t u : TT) : TT := fun σ H Q => t σ H fun c H1 => if c = true then u σ H1 Q else Q false H1
def tOr (t u : TT) : TT := fun σ H Q => t σ H fun c H1 => if c = true then Q true H1 else u σ H1 Q
def tNot (t : TT) : TT := fun σ H Q => t σ H fun c H1 => Q (!c) H1
theorem pw_and1 (ha : PT X a tA) : PW X (.BoolOp .And [a] pos) tA := by
 intro wh pins s σ H Q I h
 refine isTrue_and (thn (ha pins s σ H Q I h) fun c s1 e => ?_)
 cases c with
 | true => exact isTrue_and_nil e
 | false => exact e
theorem pw_or1 (ha : PT X a tA) : PW X (.BoolOp .Or [a] pos) tA := by
 intro wh pins s σ H Q I h
 refine isTrue_or (thn (ha pins s σ H Q I h) fun c s1 e => ?_)
 cases c with
 | false => exact isTrue_or_nil e
 | true => exact e
theorem pw_and (ha : PT X a tA) (hb : PW X (.BoolOp .And (b :: rest) pos) tB') : PW X (.BoolOp .And (a :: b :: rest) pos) (tAnd tA tB') := by
 intro wh pins s σ H Q I h
 refine isTrue_and (thn (ha pins s σ H _ I h) fun c s1 ⟨H1, I1, q1⟩ => ?_)
 cases c with
 | true => exact hb wh pins s1 σ H1 Q I1 q1
 | false => exact ⟨H1, I1, q1⟩
theorem pw_or (ha : PT X a tA) (hb : PW X (.BoolOp .Or (b :: rest) pos) tB') : PW X (.BoolOp .Or (a :: b :: rest) pos) (tOr tA tB') := by
 intro wh pins s σ H Q I h
 refine isTrue_or (thn (ha pins s σ H _ I h) fun c s1 ⟨H1, I1, q1⟩ => ?_)
 cases c with
 | true => exact ⟨H1, I1, q1⟩
 | false => exact hb wh pins s1 σ H1 Q I1 q1
theorem pt_not (ha : PT X a tA) : PT X (.UnaryOp .Not a pos) (tNot tA) := by
 intro pins s σ H Q I h
 exact isTrue_not (ha pins s σ H (fun c H1 => Q (!c) H1) I h)
def tAndV (ta tb : TE) : TE := fun σ H Q => ta σ H fun x H1 => ∃ c, x = .bl c /\ if c = true then tb σ H1 Q else Q (.bl false) H1
def tOrV (ta tb : TE) : TE := fun σ H Q => ta σ H fun x H1 => ∃ c, x = .bl c /\ if c = true then Q (.bl true) H1 else tb σ H1 Q
def tNotV (ta : TE) : TE := fun σ H Q => ta σ H fun x H1 => ∃ c, x = .bl c /\ Q (.bl (!c)) H1
theorem pe_one {op} {t : TE} (h : PE X a t) : PE X (.BoolOp op [a] pos) t := fun pins s σ H Q I hw => BoolOp_one (h pins s σ H Q I hw)
theorem pe_and (ha : PE X a ta) (hb : PE X (.BoolOp .And (b :: rest) pos) tb) : PE X (.BoolOp .And (a :: b :: rest) pos) (tAndV ta tb) := by
 intro pins s σ H Q I h
 refine BoolOp_and (thn (ha pins s σ H _ I h) fun v s1 ⟨x, H1, I1, r1, q1⟩ => ?_)
 obtain ⟨c, rfl, q1⟩ := q1
 cases r1
 refine wpAny_truthy_bool ?_
 cases c with
 | true => exact hb pins s1 σ H1 Q I1 q1
 | false => exact ⟨.bl false, H1, I1, rfl, q1⟩
theorem pe_or (ha : PE X a ta) (hb : PE X (.BoolOp .Or (b :: rest) pos) tb) : PE X (.BoolOp .Or (a :: b :: rest) pos) (tOrV ta tb) := by
 intro pins s σ H Q I h
 refine BoolOp_or (thn (ha pins s σ H _ I h) fun v s1 ⟨x, H1, I1, r1, q1⟩ => ?_)
 obtain ⟨c, rfl, q1⟩ := q1
 cases r1
 refine wpAny_truthy_bool ?_
 cases c with
 | false => exact hb pins s1 σ H1 Q I1 q1
 | true => exact ⟨.bl true, H1, I1, rfl, q1⟩
theorem pe_not (ha : PE X a ta) : PE X (.UnaryOp .Not a pos) (tNotV ta) := by
 intro pins s σ H Q I h
 refine UnaryOp_ (thn (ha pins s σ H _ I h) fun v s1 ⟨x, H1, I1, r1, q1⟩ => ?_)
 obtain ⟨c, rfl, q1⟩ := q1
 cases r1
 exact not_of (wpAny_truthy_bool ⟨.bl (!c), H1, I1, rfl, q1⟩)
def tIf (t : TT) (ta tb : TE) : TE := fun σ H Q => t σ H fun c H1 => if c = true then ta σ H1 Q else tb σ H1 Q
theorem pe_ifExp {c : Expr} (hc : PT X c tA) (ha : PE X a ta) (hb : PE X b tb) : PE X (.IfExp c a b pos) (tIf tA ta tb) := by
 intro pins s σ H Q I h
 refine wpAny_IfExp (thn (hc pins s σ H _ I h) fun d s1 ⟨H1, I1, q1⟩ => ?_)
 cases d with
 | true => exact ha pins s1 σ H1 Q I1 q1
 | false => exact hb pins s1 σ H1 Q I1 q1
end
end L2
namespace L2
open PySem PySem.Spec PyProof.Rows
def SqL (K : PySem.W.Frag) (H : Hp) (a : Addr) (xs : List V) : Prop :=
 Rd H a (.lst xs) ∨
  ∃ (o : Obj) (its : Array Value) (n : Nat), K.lookup a = some o /\ o.cls = .type "list" /\ o.dict = none /\ o.data = .seq its n /\ its.size <= sizeLine /\ Vals xs its.toList
def SqT (K : PySem.W.Frag) (H : Hp) (a : Addr) (xs : List V) : Prop :=
 Rd H a (.tup xs) ∨
  ∃ (o : Obj) (its : Array Value) (n : Nat), K.lookup a = some o /\ o.cls = .type "tuple" /\ o.data = .seq its n /\ its.size <= sizeLine /\ Vals xs its.toList
def absV : Value -> Option V
 | .none => some .non
 | .bool b => some (.bl b)
 | .int i _ => some (.int i)
 | .str x _ => some (.str x)
 | .bytes b _ => some (.byt b)
 | .float b _ => some (.flt b)
 | .ref a => some (.ref a)
 | .type n => some (.ty n)
 | _ => none
theorem RelV.abs {x : V} {u : Value} (r : RelV x u) : absV u = some x := by
 cases x with
 | non => cases r; rfl
 | bl _ => cases r; rfl
 | int _ => obtain ⟨t, rfl⟩ := r; rfl
 | str _ => obtain ⟨t, rfl⟩ := r; rfl
 | byt _ => obtain ⟨t, rfl⟩ := r; rfl
 | flt _ => obtain ⟨t, rfl⟩ := r; rfl
 | ref _ => cases r; rfl
 | ty _ => cases r; rfl
theorem RelV.inj {x y : V} {u : Value} (r : RelV x u) (q : RelV y u) : x = y := Option.some.inj (r.abs.symm.trans q.abs)
theorem Vals.inj : ∀ {xs ys : List V} {us : List Value}, Vals xs us -> Vals ys us -> xs = ys
 | _, _, _, .nil, .nil => rfl
 | _, _, _, .cons r t, .cons r' t' => by rw [r.inj r', Vals.inj t t']
section
variable {X : Cx} {pins : List (Addr × Obj)} {σ : St} {H : Hp} {s : Shared} {a : Addr} {xs ys : List V}
theorem SqL.of {K : PySem.W.Frag} (h : H a = some (.lst xs)) : SqL K H a xs := .inl (.inl h)
theorem Inv.list (I : Inv X pins σ H s) (h : SqL X.K H a xs) : ∃ its : List Value, Vals xs its /\ PlainL s.heap a its.toArray /\ xs.length <= sizeLine := by
 rcases h with h | ⟨o, its, n, hk, hc, hd, hs, hz, r⟩
 · obtain ⟨z, its, n, r, e⟩ := h.ok I.hok
   exact ⟨its, r, ⟨_, n, e, rfl, rfl, rfl⟩, z⟩
 · refine ⟨its.toList, r, ⟨o, n, I.kIn a o hk, hc, hd, by simpa using hs⟩, ?_⟩
   have e := r.length
   simp only [Array.length_toList] at e
   omega
theorem Inv.tuple (I : Inv X pins σ H s) (h : SqT X.K H a xs) : ∃ its : List Value, Vals xs its /\ IsTup s.heap a its.toArray /\ xs.length <= sizeLine := by
 rcases h with h | ⟨o, its, n, hk, hc, hs, hz, r⟩
 · obtain ⟨z, its, r, p⟩ := h.ok I.hok
   exact ⟨its, r, p, z⟩
 · refine ⟨its.toList, r, ⟨o, I.kIn a o hk, hc, n, by simpa using hs⟩, ?_⟩
   have e := r.length
   simp only [Array.length_toList] at e
   omega
theorem Inv.list_inj (I : Inv X pins σ H s) (h : SqL X.K H a xs) (h' : SqL X.K H a ys) : xs = ys := by
 obtain ⟨its, r, ⟨o, n, e, _, _, d⟩, _⟩ := I.list h
 obtain ⟨its', r', ⟨o', n', e', _, _, d'⟩, _⟩ := I.list h'
 rw [e] at e'; cases e'
 rw [d] at d'
 injection d' with d1 _
 have : its = its' := by simpa using congrArg Array.toList d1
 subst this
 exact r.inj r'
theorem Inv.tuple_inj (I : Inv X pins σ H s) (h : SqT X.K H a xs) (h' : SqT X.K H a ys) : xs = ys := by
 obtain ⟨its, r, ⟨o, e, _, n, d⟩, _⟩ := I.tuple h
 obtain ⟨its', r', ⟨o', e', _, n', d'⟩, _⟩ := I.tuple h'
 rw [e] at e'; cases e'
 rw [d] at d'
 injection d' with d1 _
 have : its = its' := by simpa using congrArg Array.toList d1
 subst this
 exact r.inj r'
end
abbrev Cx.wish (X : Cx) (E : Value -> Shared -> Prop) : Cx := { X with xe := E }
abbrev Cx.nox (X : Cx) : Cx := X.wish fun _ _ => False
theorem Cx.Ok.wish {X : Cx} (ok : X.Ok) (E : Value -> Shared -> Prop) : (X.wish E).Ok :=
 ⟨ok.mod, ok.kind, ok.glob, ok.blt, ok.above, ok.inj, ok.has, ok.cab, ok.hd, ok.frames, ok.stk, ok.exf, ok.bs, ok.bsz, ok.noex, ok.exfs, ok.funs, ok.frf⟩
theorem Cx.Ok.unwish {X : Cx} {E : Value -> Shared -> Prop} (ok : (X.wish E).Ok) : X.Ok :=
 ⟨ok.mod, ok.kind, ok.glob, ok.blt, ok.above, ok.inj, ok.has, ok.cab, ok.hd, ok.frames, ok.stk, ok.exf, ok.bs, ok.bsz, ok.noex, ok.exfs, ok.funs, ok.frf⟩
section
variable {X : Cx} {pins : List (Addr × Obj)} {σ : St} {H : Hp} {s : Shared} {E : Value -> Shared -> Prop}
theorem Inv.wish (I : Inv X pins σ H s) (E : Value -> Shared -> Prop) : Inv (X.wish E) pins σ H s := ⟨I.ok.wish E, I.os, I.bare, I.base, I.loc, I.cell, I.free, I.freeC, I.pin, I.hok, I.len⟩
theorem Inv.unwish (I : Inv (X.wish E) pins σ H s) : Inv X pins σ H s := ⟨I.ok.unwish, I.os, I.bare, I.base, I.loc, I.cell, I.free, I.freeC, I.pin, I.hok, I.len⟩
theorem SP.unwish {D : Ends} {f : Flow} {s' : Shared} (h : SP (X.wish E) pins D f s') : SP X pins D f s' := by
 cases f with
 | next => obtain ⟨σ', H', I, q⟩ := h; exact ⟨σ', H', I.unwish, q⟩
 | brk => obtain ⟨σ', H', I, q⟩ := h; exact ⟨σ', H', I.unwish, q⟩
 | cont => obtain ⟨σ', H', I, q⟩ := h; exact ⟨σ', H', I.unwish, q⟩
 | ret u => obtain ⟨v, σ', H', I, r, q⟩ := h; exact ⟨v, σ', H', I.unwish, r, q⟩
theorem PE.nox {e : Expr} {t : TE} (h : PE X.nox e t) : PE X e t := fun pins s σ H Q I hw =>
 wpAny_mono (h pins s σ H Q (I.wish _) hw) (fun _ _ ⟨v, H', I', r, q⟩ => ⟨v, H', I'.unwish, r, q⟩) fun _ _ z => False.elim z
theorem PT.nox {e : Expr} {t : TT} (h : PT X.nox e t) : PT X e t := fun pins s σ H Q I hw =>
 wpAny_mono (h pins s σ H Q (I.wish _) hw) (fun _ _ ⟨H', I', q⟩ => ⟨H', I'.unwish, q⟩) fun _ _ z => False.elim z
theorem PSs.nox {st : List Stmt} {t : TS} (h : PSs X.nox st t) : PSs X st t := fun pins s σ H D I hw =>
 wpAny_mono (h pins s σ H D (I.wish _) hw) (fun _ _ q => q.unwish) fun _ _ z => False.elim z
end
section
variable {X : Cx} {st : Stmt} {rest : List Stmt} {t u : TS} {e : Expr} {te : TE} {pos : Pos}
def tNext : TS := fun D σ H => D.nx σ H
def tSeq (t u : TS) : TS := fun D σ H => t { D with nx := u D } σ H
theorem pss_nil : PSs X [] tNext := fun _ _ σ H _ I h => wpAny_execs_nil ⟨σ, H, I, h⟩
theorem pss_cons (h1 : PS X st t) (h2 : PSs X rest u) : PSs X (st :: rest) (tSeq t u) := by
 intro pins s σ H D I h
 refine wpAny_execs_cons (thn (h1 pins s σ H { D with nx := u D } I h) fun f s1 q => ?_)
 cases f with
 | next =>
   obtain ⟨σ', H', I', q⟩ := q
   exact h2 pins s1 σ' H' D I' q
 | ret v => exact q
 | brk => exact q
 | cont => exact q
theorem pss_one (h1 : PS X st t) : PSs X [st] t := by
 intro pins s σ H D I h
 refine wpAny_execs_cons (thn (h1 pins s σ H D I h) fun f s1 q => ?_)
 cases f with
 | next => exact wpAny_execs_nil q
 | ret v => exact q
 | brk => exact q
 | cont => exact q
def tCont : TS := fun D σ H => D.ct σ H
theorem ps_continue : PS X (.Continue pos) tCont := fun _ _ σ H _ I h => wpAny_Continue ⟨σ, H, I, h⟩
theorem Inv.quiet {pins : List (Addr × Obj)} {σ : St} {H : Hp} {s : Shared} (I : Inv X pins σ H s) : interactive X.env = false := by simp [interactive, I.ok.kind]
def tDrop (te : TE) : TS := fun D σ H => te σ H fun _ H1 => D.nx σ H1
theorem ps_expr (he : PE X e te) (hs : swapsWith e none pos.line X.env = pure false := by rfl) : PS X (.Expr e pos) (tDrop te) := by
 intro pins s σ H D I h
 exact wpAny_Expr_any (thn (he pins s σ H _ I h) fun v s1 ⟨x, H1, I1, r1, q1⟩ => ⟨σ, H1, I1, q1⟩) I.quiet hs
def tRet (te : TE) : TS := fun D σ H => te σ H D.rt
theorem ps_ret (he : PE X e te) : PS X (.Return (some e) pos) (tRet te) := by
 intro pins s σ H D I h
 exact wpAny_Return_some (thn (he pins s σ H _ I h) fun v s1 ⟨x, H1, I1, r1, q1⟩ => ⟨x, σ, H1, I1, r1, q1⟩)
def tIfS (c : TT) (t u : TS) : TS := fun D σ H => c σ H fun b H1 => if b = true then t D σ H1 else u D σ H1
theorem ps_if {c : Expr} {a b : List Stmt} {tc : TT} (hc : PT X c tc) (ha : PSs X a t) (hb : PSs X b u) : PS X (.If c a b pos) (tIfS tc t u) := by
 intro pins s σ H D I h
 refine wpAny_If (thn (hc pins s σ H _ I h) fun d s1 ⟨H1, I1, q1⟩ => ?_)
 cases d with
 | true => exact ha pins s1 σ H1 D I1 q1
 | false => exact hb pins s1 σ H1 D I1 q1
def tNever : TS := fun _ _ _ => False
theorem ps_never : PS X st tNever := fun _ _ _ _ _ _ h => h.elim
end
abbrev TG := V -> St -> Hp -> (St -> Hp -> Prop) -> Prop
abbrev TGs := List V -> St -> Hp -> (St -> Hp -> Prop) -> Prop
def PG (X : Cx) (target : Expr) (t : TG) : Prop :=
 ∀ (pins : List (Addr × Obj)) (s : Shared) (σ : St) (H : Hp) (v : V) (u : Value) (Q : St -> Hp -> Prop), Inv X pins σ H s -> RelV v u -> t v σ H Q →
  wpAny (model X.prog X.w) X.A (assign target X.env u) (fun _ s' => ∃ σ' H', Inv X pins σ' H' s' /\ Q σ' H') X.xe s
def PGs (X : Cx) (ts : List Expr) (t : TGs) : Prop :=
 ∀ (pins : List (Addr × Obj)) (s : Shared) (σ : St) (H : Hp) (vs : List V) (us : List Value) (Q : St -> Hp -> Prop), Inv X pins σ H s -> Vals vs us -> t vs σ H Q →
  wpAny (model X.prog X.w) X.A (assignInOrder ((assignEach ts X.env).map (·.2)) us) (fun _ s' => ∃ σ' H', Inv X pins σ' H' s' /\ Q σ' H') X.xe s
abbrev TSet := V -> V -> V -> Hp -> (Hp -> Prop) -> Prop
def PSet (X : Cx) (t : TSet) : Prop :=
 ∀ (pins : List (Addr × Obj)) (s : Shared) (σ : St) (H : Hp) (o i v : V) (ov iv u : Value) (Q : Hp -> Prop), Inv X pins σ H s -> RelV o ov -> RelV i iv -> RelV v u -> t o i v H Q →
  wpAny (model X.prog X.w) X.A (setItem ov iv u) (fun _ s' => ∃ H', Inv X pins σ H' s' /\ Q H') X.xe s
section
variable {X : Cx} {pos : Pos}
def gName (i : Nat) : TG := fun v σ H Q => Q (σ.set i (some v)) H
theorem pg_name {i : Nat} {x : Str} (hN : X.N.Nodup) (hi : X.N[i]? = some x) (hx : Loc X.env.scope x) (hf : X.fn x = true \/ X.env.scope.names.lookup x = some .local := by first | exact .inl rfl | exact .inr rfl | assumption) : PG X (.Name x pos) (gName i) := by
 intro pins s σ H v u Q I r h
 exact wpAny_assign_Name (store_ok I hN hi hx r (fun s' I' => ⟨_, H, I', h⟩) hf)
def gNil : TGs := fun vs σ H Q => vs = [] /\ Q σ H
def gCons (t : TG) (u : TGs) : TGs := fun vs σ H Q => ∃ v r, vs = v :: r /\ t v σ H fun σ' H' => u r σ' H' Q
theorem pgs_nil : PGs X [] gNil := by
 intro pins s σ H vs us Q I r h
 obtain ⟨e, h⟩ := h
 subst e
 cases r
 exact assignInOrder_nil ⟨σ, H, I, h⟩
theorem pgs_cons {e : Expr} {es : List Expr} {t : TG} {u : TGs} (h1 : PG X e t) (h2 : PGs X es u)
  (hs : (assignEach (e :: es) X.env).map (·.2) = assign e X.env :: (assignEach es X.env).map (·.2) := by rfl) : PGs X (e :: es) (gCons t u) := by
 intro pins s σ H vs us Q I r h
 obtain ⟨v, vr, e1, h⟩ := h
 subst e1
 cases r with
 | cons r rr =>
   rw [hs]
   refine assignInOrder_cons (thn (h1 pins s σ H _ _ _ I r h) fun _ s1 ⟨σ1, H1, I1, q1⟩ => ?_)
   exact h2 pins s1 σ1 H1 _ _ Q I1 rr q1
def gTup (K : PySem.W.Frag) (n : Nat) (t : TGs) : TG := fun v σ H Q => ∃ a xs, v = .ref a /\ SqT K H a xs /\ xs.length = n /\ t xs σ H Q
theorem pg_tup {es : List Expr} {k : Nat} {t : TGs} {n : Nat} (hc : X.calm = true) (h : PGs X es t)
  (hn : (assignEach es X.env).length = n := by rfl) (hst : (assignEach es X.env).findIdx? (·.1) = none := by rfl) : PG X (.Tuple es k pos) (gTup X.K n t) := by
 intro pins s σ H v u Q I r hw
 obtain ⟨a, xs, e1, hq, hl, hw⟩ := hw
 subst e1
 cases r
 obtain ⟨its, rv, ht, hz⟩ := I.tuple hq
 refine assign_Tuple_tuple (I.ok.hd hc) ht (by simp [hn, <- hl, rv.length]) hst fun h' hx => ?_
 have I1 : Inv X pins σ H { s with heap := h' } := I.kept (t' := s.toks) fun b o e => hx b o (Nat.ne_of_lt (Heap.lt_size e)) e
 exact h pins _ σ H xs _ Q I1 (by simpa using rv) hw
def gSub (to ti : TE) (t : TSet) : TG := fun v σ H Q => to σ H fun o H1 => ti σ H1 fun i H2 => t o i v H2 fun H3 => Q σ H3
theorem pg_sub {o i : Expr} {to ti : TE} {t : TSet} (ho : PE X o to) (hi : PE X i ti) (hs : PSet X t)
  (ha : ∀ v, assign (.Subscript o i pos) X.env v = (do
    let ov <- holding [v] (eval o X.env)
    let iv <- holding [v, ov] (eval i X.env)
    standAt pos
    holding [v, ov, iv] (setItem ov iv v)
    release [v, ov, iv] []) := by intro _; rfl) : PG X (.Subscript o i pos) (gSub to ti t) := by
 intro pins s σ H v u Q I r h
 rw [ha]
 refine wpAny_bind (wpAny_holding (thn (ho pins s σ H _ I h) fun ov s1 ⟨x, H1, I1, r1, q1⟩ => ?_))
 refine wpAny_bind (wpAny_holding (thn (hi pins s1 σ H1 _ I1 q1) fun iv s2 ⟨y, H2, I2, r2, q2⟩ => ?_))
 refine wpAny_bind (wpAny_standAt (wpAny_bind (wpAny_holding (thn (hs pins s2 σ H2 x y v ov iv u _ I2 r1 r2 r q2) fun _ s3 ⟨H3, I3, q3⟩ => ?_))))
 exact wpAny_release ⟨σ, H3, I3, q3⟩
def tAsg (te : TE) (g : TG) : TS := fun D σ H => te σ H fun x H1 => g x σ H1 D.nx
theorem ps_asg {tg e : Expr} {te : TE} {g : TG} (he : PE X e te) (hg : PG X tg g) (hs : swapsWithSole [tg] e pos.line X.env = pure false := by rfl) (hw : swappedStores [tg] e X.env = pure none := by rfl)
  (h1 : (assignEach [tg] X.env).map (·.2) = [assign tg X.env] := by rfl) : PS X (.Assign [tg] e pos) (tAsg te g) := by
 intro pins s σ H D I h
 refine wpAny_Assign_stores (thn (he pins s σ H _ I h) fun v s1 ⟨x, H1, I1, r1, q1⟩ => ?_) hs hw
 rw [h1]
 exact thn (hg pins s1 σ H1 x v _ I1 r1 q1) fun _ s2 q => q
theorem ps_set {i : Nat} {x : Str} {e : Expr} {te : TE} {pos' : Pos} (hN : X.N.Nodup) (hi : X.N[i]? = some x) (hx : Loc X.env.scope x) (he : PE X e te) (hs : swapsWith e (some (.Name x pos')) pos.line X.env = pure false := by rfl) (hf : X.fn x = true \/ X.env.scope.names.lookup x = some .local := by first | exact .inl rfl | exact .inr rfl | assumption) :
  PS X (.Assign [.Name x pos'] e pos) (tAsg te (gName i)) := by
 intro pins s σ H D I h
 refine wpAny_Assign_Name (thn (he pins s σ H _ I h) fun v s1 ⟨y, H1, I1, r1, q1⟩ => ?_) hs
 exact store_ok I1 hN hi hx r1 (fun s2 I2 => ⟨_, H1, I2, q1⟩) hf
end
section
variable {X : Cx} {pos : Pos}
end
structure It where
 go : Nat -> Hp -> Prop
 yld : Nat -> Hp -> V -> Hp -> Prop
 stop : Nat -> Hp -> Prop
def FpOk (X : Cx) (pins : List (Addr × Obj)) (H : Hp) (b : Addr) : Prop :=
 H b = none /\ b ≠ X.env.locals /\ b ∉ X.fs /\ (b ∈ X.ex \/ X.s₀.heap.objs.size <= b) /\ (∀ x c, X.env.cells.lookup x = some c -> c ≠ b) /\ ∀ p ∈ X.pn ++ pins, p.1 ≠ b
theorem Inv.fpOk {X : Cx} {pins : List (Addr × Obj)} {σ : St} {H H' : Hp} {s : Shared} {b : Addr} (I : Inv X pins σ H s) (hb : s.heap.objs.size <= b) (hn : H' b = none) : FpOk X pins H' b := by
 refine ⟨hn, Nat.ne_of_gt (Nat.lt_of_lt_of_le I.lt hb), I.nofs hb, .inr (Nat.le_trans I.sz hb), fun x c e z => ?_, fun p hp z => ?_⟩
 · obtain ⟨v, q⟩ := I.cell x c e
   exact absurd (Nat.lt_of_lt_of_le q.lt (by rw [z]; exact hb)) (Nat.lt_irrefl _)
 · exact absurd (Nat.lt_of_lt_of_le (Heap.lt_size (I.pin p hp).1) (by rw [z]; exact hb)) (Nat.lt_irrefl _)
structure Turn (P : Program) (w : World) (K : PySem.W.Frag) (tg : Expr) (J : It) (fp : List Addr) (it : Addr) (tn : Nat -> Heap -> Prop) : Prop where
 mem : it ∈ fp
 obj : ∀ i h, tn i h -> ∀ b ∈ fp, ∃ o, h.get? b = some o /\ ∀ v, o.data ≠ .cell v
 keep : ∀ i h h', tn i h -> (∀ b ∈ fp, ∀ o, h.get? b = some o -> h'.get? b = some o) -> tn i h'
 item : ∀ (X : Cx), X.prog = P -> X.w = w -> X.K = K -> X.calm = true -> ∀ (i : Nat) (pins : List (Addr × Obj)) (s : Shared) (σ : St) (H : Hp) (E : Value -> Shared -> Prop), Inv X pins σ H s -> (∀ b ∈ fp, FpOk X pins H b) -> tn i s.heap -> J.go i H →
  wpAny (model P w) X.A (pyNext (.ref it)) (fun r s1 => ∃ u, r = some u ∧
   wpAny (model P w) X.A (letOwnedTupleGo tg (.ref it) u) (fun _ s2 => ∃ x H', Inv X pins σ H' s2 /\ RelV x u /\ J.yld i H x H' /\ tn (i + 1) s2.heap /\ ∀ b ∈ fp, H' b = none) E s1) E s
 done : ∀ (X : Cx), X.prog = P -> X.w = w -> X.K = K -> X.calm = true -> ∀ (i : Nat) (pins : List (Addr × Obj)) (s : Shared) (σ : St) (H : Hp) (E : Value -> Shared -> Prop), Inv X pins σ H s -> (∀ b ∈ fp, FpOk X pins H b) -> tn i s.heap -> J.stop i H →
  wpAny (model P w) X.A (pyNext (.ref it)) (fun r s1 => r = none /\ Inv X pins σ H s1) E s
 self : ∀ (A : Around) (i : Nat) (s : Shared) (Q : Value -> Shared -> Prop) (E : Value -> Shared -> Prop), tn i s.heap -> Q (.ref it) s -> wpAny (model P w) A (pyIter (.ref it)) Q E s
abbrev TI := St -> Hp -> (It -> Hp -> Prop) -> Prop
def PIE (X : Cx) (pins : List (Addr × Obj)) (σ : St) (tg : Expr) (R : It -> Hp -> Prop) (itv : Value) (s2 : Shared) : Prop :=
 ∃ (it : Addr) (fp : List Addr) (tn : Nat -> Heap -> Prop) (J : It) (H' : Hp), itv = .ref it /\ Inv X pins σ H' s2 /\ Turn X.prog X.w X.K tg J fp it tn /\ tn 0 s2.heap /\ (∀ b ∈ fp, FpOk X pins H' b) /\ R J H'
def PI (X : Cx) (tg iter : Expr) (wi : TI) : Prop :=
 ∀ (pins : List (Addr × Obj)) (s : Shared) (σ : St) (H : Hp) (R : It -> Hp -> Prop), Inv X pins σ H s -> wi σ H R →
  wpAny (model X.prog X.w) X.A (eval iter X.env) (fun v s1 => wpAny (model X.prog X.w) X.A (pyIter v) (PIE X pins σ tg R) X.xe s1) X.xe s
theorem go_of {M : Model} {A : Around} {E : Value -> Shared -> Prop} {s : Shared} {tg : Expr} {it : Addr} {u : Value} {o : Obj} {n : String} {vs : Array Value} {Q : Unit -> Shared -> Prop} (ho : s.heap.get? it = some o) (hc : o.cls = .type n) (hd : o.data = .fields vs)
  (hn : ["enumerate", "zip", "dict_itemiterator", "dict_reverseitemiterator", "odict_iterator", "itertools.zip_longest", "itertools.pairwise"].contains n = false) (hQ : Q () s) : wpAny M A (letOwnedTupleGo tg (.ref it) u) Q E s := by
 unfold letOwnedTupleGo
 cases tg <;> first
  | exact wpAny_pure hQ
  | (cases u <;> first
      | exact wpAny_pure hQ
      | (refine wpAny_bind (wpAny_load ho ?_)
         rw [hc, hd]
         show wpAny M A (if (["enumerate", "zip", "dict_itemiterator", "dict_reverseitemiterator", "odict_iterator", "itertools.zip_longest", "itertools.pairwise"].contains n && vs[0]? == some (rawInt _)) = true then _ else _) Q E s
         rw [if_neg (by intro h; rw [hn, Bool.false_and] at h; cases h)]
         exact wpAny_pure hQ))
def Itl (K : PySem.W.Frag) (a : Addr) : It :=
 ⟨fun i H => ∃ xs x, SqL K H a xs /\ xs[i]? = some x, fun i H x H' => H' = H /\ ∀ xs, SqL K H a xs -> xs[i]? = some x, fun i H => ∃ xs, SqL K H a xs /\ xs.length <= i⟩
def Itt (K : PySem.W.Frag) (a : Addr) : It :=
 ⟨fun i H => ∃ xs x, SqT K H a xs /\ xs[i]? = some x, fun i H x H' => H' = H /\ ∀ xs, SqT K H a xs -> xs[i]? = some x, fun i H => ∃ xs, SqT K H a xs /\ xs.length <= i⟩
def Itr (lo : Int) (n : Nat) : It := ⟨fun i _ => i < n, fun i H x H' => H' = H /\ x = .int (lo + i), fun i _ => n <= i⟩
theorem turn_list {P : Program} {w : World} {K : PySem.W.Frag} {tg : Expr} (a it : Addr) : Turn P w K tg (Itl K a) [it] it (fun i h => h.IsListIter it a i) where
 mem := by simp
 obj := fun i h st b hb => by
  have e : b = it := by simpa using hb
  subst e
  obtain ⟨o, e, c, d⟩ := st
  exact ⟨o, e, fun v z => by rw [d] at z; cases z⟩
 keep := fun i h h' st k => st.at fun o e => k it (by simp) o e
 item := by
  intro X hP hw hK hc i pins s σ H E I hf st hg
  subst hP hw hK
  obtain ⟨xs, x, hq, hx⟩ := hg
  obtain ⟨its, rv, p, hz⟩ := I.list hq
  obtain ⟨u, hu, ru⟩ := rv.get hx
  obtain ⟨f0, f1, f2, f3, f4, f5⟩ := hf it (by simp)
  refine wpAny_pyNext_list_item st p.isList (x := u) (by simpa using hu) fun h' st' sb => ?_
  have I1 : Inv X pins σ H { s with heap := h' } := I.turned (t' := s.toks) (fun b o hb e => (sb.2 b hb).trans e) f0 f1 f3 f4 f5
  obtain ⟨o, e, c, d⟩ := id st'
  exact ⟨u, rfl, go_of (s := { s with heap := h' }) e c d (by decide) ⟨x, H, I1, ru, ⟨rfl, fun ys hy => by rw [I.list_inj hy hq]; exact hx⟩, st', fun b hb => (hf b hb).1⟩⟩
 done := by
  intro X hP hw hK hc i pins s σ H E I hf st hg
  subst hP hw hK
  obtain ⟨xs, hq, hx⟩ := hg
  obtain ⟨its, rv, p, hz⟩ := I.list hq
  obtain ⟨f0, f1, f2, f3, f4, f5⟩ := hf it (by simp)
  have hl := rv.length
  exact wpAny_pyNext_list_end (I.ok.hd hc) st p.isList (by simp; omega) fun h' eb => ⟨rfl, I.turned (t' := s.toks) (fun b o hb e => eb b o hb e) f0 f1 f3 f4 f5⟩
 self := fun _ _ _ _ _ st h => wpAny_pyIter_listiter st h
theorem turn_tuple {P : Program} {w : World} {K : PySem.W.Frag} {tg : Expr} (a it : Addr) : Turn P w K tg (Itt K a) [it] it (fun i h => h.IsTupleIter it a i) where
 mem := by simp
 obj := fun i h st b hb => by
  have e : b = it := by simpa using hb
  subst e
  obtain ⟨o, e, c, d⟩ := st
  exact ⟨o, e, fun v z => by rw [d] at z; cases z⟩
 keep := fun i h h' st k => st.at fun o e => k it (by simp) o e
 item := by
  intro X hP hw hK hc i pins s σ H E I hf st hg
  subst hP hw hK
  obtain ⟨xs, x, hq, hx⟩ := hg
  obtain ⟨its, rv, p, hz⟩ := I.tuple hq
  obtain ⟨u, hu, ru⟩ := rv.get hx
  obtain ⟨f0, f1, f2, f3, f4, f5⟩ := hf it (by simp)
  refine wpAny_pyNext_tuple_item st (show s.heap.IsTuple a its.toArray from p) (x := u) (by simpa using hu) fun h' st' sb => ?_
  have I1 : Inv X pins σ H { s with heap := h' } := I.turned (t' := s.toks) (fun b o hb e => (sb.2 b hb).trans e) f0 f1 f3 f4 f5
  obtain ⟨o, e, c, d⟩ := id st'
  exact ⟨u, rfl, go_of (s := { s with heap := h' }) e c d (by decide) ⟨x, H, I1, ru, ⟨rfl, fun ys hy => by rw [I.tuple_inj hy hq]; exact hx⟩, st', fun b hb => (hf b hb).1⟩⟩
 done := by
  intro X hP hw hK hc i pins s σ H E I hf st hg
  subst hP hw hK
  obtain ⟨xs, hq, hx⟩ := hg
  obtain ⟨its, rv, p, hz⟩ := I.tuple hq
  obtain ⟨f0, f1, f2, f3, f4, f5⟩ := hf it (by simp)
  have hl := rv.length
  exact wpAny_pyNext_tuple_end (I.ok.hd hc) st (show s.heap.IsTuple a its.toArray from p) (by simp; omega) fun h' eb => ⟨rfl, I.turned (t' := s.toks) (fun b o hb e => eb b o hb e) f0 f1 f3 f4 f5⟩
 self := fun _ _ _ _ _ st h => wpAny_pyIter_tupleiter st h
theorem turn_range {P : Program} {w : World} {K : PySem.W.Frag} {tg : Expr} (it : Addr) (lo : Int) (n : Nat) : Turn P w K tg (Itr lo n) [it] it (fun i h => IsRangeIter h it (lo + (i : Nat) * 1) ((n : Int) - (i : Nat)) 1) where
 mem := by simp
 obj := fun i h st b hb => by
  have e : b = it := by simpa using hb
  subst e
  exact ⟨_, st, fun v z => by
   have z' : Data.fields _ = Data.cell v := z
   cases z'⟩
 keep := fun i h h' st k => k it (by simp) _ st
 item := by
  intro X hP hw hK hc i pins s σ H E I hf st hg
  subst hP hw hK
  obtain ⟨f0, f1, f2, f3, f4, f5⟩ := hf it (by simp)
  have W := Walks.range (prog := X.prog) (w := X.w) (I.ok.hd hc) it lo 1 n
  refine W.item i s _ _ hg st fun v h' tk hv st' kk => ?_
  obtain ⟨t, rfl⟩ := hv
  have I1 : Inv X pins σ H { s with heap := h', toks := tk } := I.turned (fun b o hb e => kk b o (by simpa using hb) e) f0 f1 f3 f4 f5
  refine ⟨_, rfl, go_of (s := { s with heap := h', toks := tk }) (n := "range_iterator") st' rfl rfl (by decide) ⟨.int (lo + i), H, I1, ⟨t, ?_⟩, ⟨rfl, rfl⟩, st', fun b hb => (hf b hb).1⟩⟩
  rw [Int.mul_one]
 done := by
  intro X hP hw hK hc i pins s σ H E I hf st hg
  subst hP hw hK
  obtain ⟨f0, f1, f2, f3, f4, f5⟩ := hf it (by simp)
  exact wpAny_pyNext_range_end (I.ok.hd hc) st (by have : n <= i := hg; omega) fun h' eb => ⟨rfl, I.turned (t' := s.toks) (fun b o hb e => eb b o hb e) f0 f1 f3 f4 f5⟩
 self := fun _ _ _ _ _ st h => wpAny_pyIter_rangeiter st h
end L2
namespace L2
open PySem PySem.Spec PyProof.Rows
section
variable {X : Cx} {tg : Expr}
def iList (K : PySem.W.Frag) (tl : TE) : TI := fun σ H R => tl σ H fun x H1 => ∃ a, x = .ref a /\ (∃ xs, SqL K H1 a xs) /\ R (Itl K a) H1
def iTup (K : PySem.W.Frag) (tl : TE) : TI := fun σ H R => tl σ H fun x H1 => ∃ a, x = .ref a /\ (∃ xs, SqT K H1 a xs) /\ R (Itt K a) H1
theorem pi_list {l : Expr} {tl : TE} (hl : PE X l tl) : PI X tg l (iList X.K tl) := by
 intro pins s σ H R I h
 refine thn (hl pins s σ H _ I h) fun v s1 ⟨x, H1, I1, r1, q1⟩ => ?_
 obtain ⟨a, e, ⟨xs, hq⟩, q⟩ := q1
 subst e
 cases r1
 obtain ⟨its, rv, p, hz⟩ := I1.list hq
 refine wpAny_pyIter_list p.isList ?_
 refine ⟨s1.heap.objs.size, [s1.heap.objs.size], _, _, H1, rfl, I1.kept (t' := s1.toks) fun b o e => Heap.get?_push_of_some _ e, turn_list a _, ⟨_, Heap.get?_push_size _ rfl, rfl, rfl⟩, fun b hb => ?_, q⟩
 have e : b = s1.heap.objs.size := by simpa using hb
 subst e
 exact I1.fpOk (Nat.le_refl _) (I1.hok.fresh (Nat.le_refl _))
theorem pi_tup {l : Expr} {tl : TE} (hl : PE X l tl) : PI X tg l (iTup X.K tl) := by
 intro pins s σ H R I h
 refine thn (hl pins s σ H _ I h) fun v s1 ⟨x, H1, I1, r1, q1⟩ => ?_
 obtain ⟨a, e, ⟨xs, hq⟩, q⟩ := q1
 subst e
 cases r1
 obtain ⟨its, rv, p, hz⟩ := I1.tuple hq
 refine wpAny_pyIter_tuple (show s1.heap.IsTuple a its.toArray from p) ?_
 refine ⟨s1.heap.objs.size, [s1.heap.objs.size], _, _, H1, rfl, I1.kept (t' := s1.toks) fun b o e => Heap.get?_push_of_some _ e, turn_tuple a _, ⟨_, Heap.get?_push_size _ rfl, rfl, rfl⟩, fun b hb => ?_, q⟩
 have e : b = s1.heap.objs.size := by simpa using hb
 subst e
 exact I1.fpOk (Nat.le_refl _) (I1.hok.fresh (Nat.le_refl _))
theorem range_it {pins : List (Addr × Obj)} {σ : St} {H : Hp} {s : Shared} {R : It -> Hp -> Prop} {E : Value -> Shared -> Prop} {lo hi : Int} {t u v : Tok} {tk : Nat} (I : Inv X pins σ H s) (h1 : -(2 ^ 62) <= lo) (h2 : lo < 2 ^ 62) (h3 : -(2 ^ 62) <= hi) (h4 : hi < 2 ^ 62)
  (q : R (Itr lo (hi - lo).toNat) H) : wpAny (model X.prog X.w) X.A (pyIter (.ref s.heap.objs.size)) (PIE X pins σ tg R) E { s with heap := s.heap.push { cls := .type "range", data := .fields #[.int lo t, .int hi u, .int 1 v] }, toks := tk } := by
 refine wpAny_pyIter_range (IsRange.new ..) (small_one h1 h2 h3 h4) ?_
 have I1 : Inv X pins σ H { s with heap := s.heap.push { cls := .type "range", data := .fields #[.int lo t, .int hi u, .int 1 v] }, toks := tk } := I.kept fun b o e => Heap.get?_push_of_some _ e
 refine ⟨(s.heap.push { cls := .type "range", data := .fields #[.int lo t, .int hi u, .int 1 v] }).objs.size, [(s.heap.push { cls := .type "range", data := .fields #[.int lo t, .int hi u, .int 1 v] }).objs.size], _, _, H, rfl,
  I1.kept (t' := tk) fun b o e => Heap.get?_push_of_some _ e, turn_range _ lo (hi - lo).toNat, ?_, fun b hb => ?_, q⟩
 · have e1 : lo + ((0 : Nat) : Int) * 1 = lo := by simp
   have e2 : (((hi - lo).toNat : Nat) : Int) - ((0 : Nat) : Int) = Builtin.Range.rangeSize lo hi 1 := by rw [rangeSize_one]; split <;> omega
   show IsRangeIter _ _ (lo + ((0 : Nat) : Int) * 1) ((((hi - lo).toNat : Nat) : Int) - ((0 : Nat) : Int)) 1
   rw [e1, e2]
   exact Heap.get?_push_size _ rfl
 · have e : b = (s.heap.push { cls := .type "range", data := .fields #[.int lo t, .int hi u, .int 1 v] }).objs.size := by simpa using hb
   subst e
   exact I1.fpOk (Nat.le_refl _) (I1.hok.fresh (Nat.le_refl _))
def iRng1 (ta : TA) : TI := fun σ H R => ta σ H fun vs H1 => ∃ j : Int, vs = [.int j] /\ -(2 ^ 62) <= j /\ j < 2 ^ 62 /\ R (Itr 0 j.toNat) H1
theorem pi_range1 {a : Expr} {ta : TA} {p pos : Pos} (hg : Gl X "range") (hm : X.mg "range" = none) (ha : PA X [a] ta) (hs : starEach [a] X.env = [(false, eval a X.env)] := by rfl) : PI X tg (.Call (.Name "range" p) [a] [] pos) (iRng1 ta) := by
 intro pins s σ H R I h
 refine Call_ (vR I hg hm boot_range (PyProof.Rows.callWith_type1 (thn (ha pos pins s σ H _ I h) fun us s1 ⟨vs, H1, I1, r1, q1⟩ => ?_) hs rfl))
 obtain ⟨j, e, q1, q2, q⟩ := q1
 subst e
 cases r1 with
 | cons r rr =>
   cases rr
   obtain ⟨t, rfl⟩ := r
   exact call_range_1 (range_it I1 (by omega) (by omega) q1 q2 (by simpa using q))
def tFor (wi : TI) (g : TG) (tb : TS) : TS := fun D σ H => wi σ H fun J H1 => ∃ W : Nat -> Nat -> St -> Hp -> Prop, (∃ m, W 0 m σ H1) /\ ∀ i m σ H, W i m σ H →
 (J.stop i H /\ D.nx σ H) \/ (J.go i H /\ ∃ N : St -> Hp -> Prop, (∀ σ' H', N σ' H' -> ∃ m', m' < m /\ W (i + 1) m' σ' H') /\ ∀ x H', J.yld i H x H' -> g x σ H' fun σ2 H2 => tb { D with nx := N, ct := N, bk := D.nx } σ2 H2)
def pinsAt (fp : List Addr) (h : Heap) : List (Addr × Obj) := fp.filterMap fun b => (h.get? b).map fun o => (b, o)
theorem xH {fp : List Addr} {h : Heap} {b : Addr} {o : Obj} (hb : b ∈ fp) (e : h.get? b = some o) : (b, o) ∈ pinsAt fp h := List.mem_filterMap.mpr ⟨b, hb, by rw [e]; rfl⟩
theorem of_pinsAt {fp : List Addr} {h : Heap} {p : Addr × Obj} (hp : p ∈ pinsAt fp h) : p.1 ∈ fp /\ h.get? p.1 = some p.2 := by
 obtain ⟨b, hb, e⟩ := List.mem_filterMap.mp hp
 cases q : h.get? b with
 | none => rw [q] at e; cases e
 | some o =>
   rw [q] at e
   have e' : (b, o) = p := Option.some.inj e
   subst e'
   exact ⟨hb, q⟩
theorem Inv.pinned {pins : List (Addr × Obj)} {σ : St} {H : Hp} {s : Shared} {fp : List Addr} (I : Inv X pins σ H s) (hf : ∀ b ∈ fp, FpOk X pins H b) (ho : ∀ b ∈ fp, ∃ o, s.heap.get? b = some o /\ ∀ v, o.data ≠ .cell v) : Inv X (pins ++ pinsAt fp s.heap) σ H s :=
 I.pins_of fun p hp => (List.mem_append.mp hp).elim (fun z => I.pin p (List.mem_append_right _ z)) fun z => by
  obtain ⟨hb, e⟩ := of_pinsAt z
  obtain ⟨f0, f1, f2, _⟩ := hf p.1 hb
  obtain ⟨o, e', d⟩ := ho p.1 hb
  rw [e] at e'; cases e'
  exact ⟨e, f0, f1, f2, d⟩
theorem Inv.unpinned {pins pl : List (Addr × Obj)} {σ : St} {H : Hp} {s : Shared} (I : Inv X (pins ++ pl) σ H s) : Inv X pins σ H s := I.pins_of fun p hp => I.pin p (List.mem_append_right _ (List.mem_append_left _ hp))
theorem ps_for {iter : Expr} {body : List Stmt} {wi : TI} {g : TG} {tb : TS} {pos : Pos} (hp : PassesOwn (model X.prog X.w) X.A X.env X.xe) (hc : X.calm = true) (hi : PI X tg iter wi) (hg : PG X tg g) (hb : PSs X body tb)
  (hs : ∀ x, foldedSetIterable iter X.env x = pure x := by intro _; rfl) : PS X (.For tg iter body [] pos) (tFor wi g tb) := by
 intro pins s σ H D I h
 refine wpAny_For (thn (hi pins s σ H _ I h) fun v s1 h1 => thn h1 fun itv s2 h2 => ?_) hs
 obtain ⟨it, fp, tn, J, H2, e, I2, T, st2, f2, W, ⟨m0, w0⟩, turn⟩ := h2
 subst e
 have stat : ∀ {H' : Hp}, (∀ b ∈ fp, H' b = none) -> ∀ b ∈ fp, FpOk X pins H' b := fun hn b hb => ⟨hn b hb, (f2 b hb).2⟩
 refine codeAny_forLoop_any (fun n s' => ∃ i σ' H', Inv X pins σ' H' s' /\ tn i s'.heap /\ (∀ b ∈ fp, H' b = none) /\ W i n σ' H') ?_ m0 ⟨0, σ, H2, I2, st2, fun b hb => (f2 b hb).1, w0⟩
 rintro n s3 ⟨i, σ3, H3, I3, st3, fr3, w3⟩
 rcases turn i n σ3 H3 w3 with ⟨stop, qn⟩ | ⟨go, N, hN, step⟩
 · refine wpAny_passesOwn hp (thn (T.done X rfl rfl rfl hc i pins s3 σ3 H3 X.xe I3 (stat fr3) st3 stop) fun r s4 ⟨hr, I4⟩ => ?_)
   subst hr
   exact wpAny_execs_nil ⟨σ3, H3, I4, qn⟩
 · refine wpAny_passesOwn hp (thn (T.item X rfl rfl rfl hc i pins s3 σ3 H3 X.xe I3 (stat fr3) st3 go) fun r s4 ⟨u, hr, h4⟩ => ?_)
   subst hr
   refine wpAny_passesOwn hp (thn h4 fun _ s5 ⟨x, H5, I5, r5, y5, st5, fr5⟩ => ?_)
   have I5' := I5.pinned (stat fr5) (T.obj _ _ st5)
   refine wpAny_passesOwn hp (thn (hg _ s5 σ3 H5 x u _ I5' r5 (step x H5 y5)) fun _ s6 ⟨σ6, H6, I6, q6⟩ => ?_)
   refine wpAny_passesOwn hp (thn (hb _ s6 σ6 H6 _ I6 q6) fun f s7 q7 => ?_)
   have again : ∀ {σ7 : St} {H7 : Hp}, Inv X (pins ++ pinsAt fp s5.heap) σ7 H7 s7 -> N σ7 H7 -> ∃ m, m < n /\ ∃ i σ' H', Inv X pins σ' H' s7 /\ tn i s7.heap /\ (∀ b ∈ fp, H' b = none) /\ W i m σ' H' := fun {σ7 H7} I7 n7 => by
    obtain ⟨m', hm, w7⟩ := hN σ7 H7 n7
    refine ⟨m', hm, i + 1, σ7, H7, I7.unpinned, T.keep _ _ _ st5 fun b hb o e => (I7.pin (b, o) (List.mem_append_right _ (List.mem_append_right _ (xH hb e)))).1, fun b hb => ?_, w7⟩
    obtain ⟨o, e, d⟩ := T.obj _ _ st5 b hb
    exact (I7.pin (b, o) (List.mem_append_right _ (List.mem_append_right _ (xH hb e)))).2.1
   cases f with
   | next => obtain ⟨σ7, H7, I7, n7⟩ := q7; exact again I7 n7
   | cont => obtain ⟨σ7, H7, I7, n7⟩ := q7; exact again I7 n7
   | brk => obtain ⟨σ7, H7, I7, q7⟩ := q7; exact ⟨σ7, H7, I7.unpinned, q7⟩
   | ret v => obtain ⟨x7, σ7, H7, I7, r7, q7⟩ := q7; exact ⟨x7, σ7, H7, I7.unpinned, r7, q7⟩
end
end L2
namespace L2
open PySem PySem.Spec PyProof.Rows
abbrev R2 := V -> V -> Hp -> VK -> Prop
def OpR (X : Cx) (f : Value -> Value -> Sem Value) (r : R2) : Prop :=
 ∀ (pins : List (Addr × Obj)) (s : Shared) (σ : St) (H : Hp) (x y : V) (v u : Value) (Q : VK), Inv X pins σ H s -> RelV x v -> RelV y u -> r x y H Q →
  wpAny (model X.prog X.w) X.A (f v u) (EP X pins σ Q) X.xe s
def UnR (X : Cx) (f : Value -> Sem Value) (r : V -> Hp -> VK -> Prop) : Prop :=
 ∀ (pins : List (Addr × Obj)) (s : Shared) (σ : St) (H : Hp) (x : V) (v : Value) (Q : VK), Inv X pins σ H s -> RelV x v -> r x H Q →
  wpAny (model X.prog X.w) X.A (f v) (EP X pins σ Q) X.xe s
def CallR (X : Cx) (f : Value) (r : List V -> Hp -> VK -> Prop) : Prop :=
 ∀ (pins : List (Addr × Obj)) (s : Shared) (σ : St) (H : Hp) (xs : List V) (us : List Value) (Q : VK), Inv X pins σ H s -> Vals xs us -> r xs H Q →
  wpAny (model X.prog X.w) X.A (call f us) (EP X pins σ Q) X.xe s
def TruR (X : Cx) (r : V -> Hp -> (Bool -> Hp -> Prop) -> Prop) : Prop :=
 ∀ (pins : List (Addr × Obj)) (s : Shared) (σ : St) (H : Hp) (x : V) (v : Value) (Q : Bool -> Hp -> Prop), Inv X pins σ H s -> RelV x v -> r x H Q →
  wpAny (model X.prog X.w) X.A (truthy v) (TP X pins σ Q) X.xe s
def tOp (r : R2) (ta tb : TE) : TE := fun σ H Q => ta σ H fun x H1 => tb σ H1 fun y H2 => r x y H2 Q
def tUn (r : V -> Hp -> VK -> Prop) (ta : TE) : TE := fun σ H Q => ta σ H fun x H1 => r x H1 Q
def rI (C : Int -> Int -> Prop) (g : Int -> Int -> V) : R2 := fun x y H Q => ∃ i j, x = .int i /\ y = .int j /\ C i j /\ Q (g i j) H
def rI0 (g : Int -> Int -> V) : R2 := fun x y H Q => ∃ i j, x = .int i /\ y = .int j /\ Q (g i j) H
def rU (g : Int -> V) : V -> Hp -> VK -> Prop := fun x H Q => ∃ i, x = .int i /\ Q (g i) H
section
variable {X : Cx} {a b c : Expr} {ta tb tc : TE} {pos : Pos}
theorem binT (ha : PE X a ta) (hb : PE X b tb) {pins : List (Addr × Obj)} {s : Shared} {σ : St} {H : Hp} {R : V -> V -> Hp -> Prop} (I : Inv X pins σ H s)
  (h : ta σ H fun x H1 => tb σ H1 fun y H2 => R x y H2) {Q : Value -> Shared -> Prop} {f : Value -> Value -> Sem Value}
  (hf : ∀ v u s2 x y H2, Inv X pins σ H2 s2 -> RelV x v -> RelV y u -> R x y H2 -> wpAny (model X.prog X.w) X.A (f v u) Q X.xe s2) :
  wpAny (model X.prog X.w) X.A (eval a X.env) (fun v s₁ => wpAny (model X.prog X.w) X.A (eval b X.env) (fun u s₂ => wpAny (model X.prog X.w) X.A (f v u) Q X.xe s₂) X.xe s₁) X.xe s := by
 refine thn (ha pins s σ H _ I h) fun v s1 ⟨x, H1, I1, r1, q1⟩ => ?_
 refine thn (hb pins s1 σ H1 _ I1 q1) fun u s2 ⟨y, H2, I2, r2, q2⟩ => ?_
 exact hf v u s2 x y H2 I2 r1 r2 q2
theorem pe_op {op : Operator} {r : R2} (ho : OpR X (binaryOp op) r) (ha : PE X a ta) (hb : PE X b tb) : PE X (.BinOp a op b pos) (tOp r ta tb) := by
 intro pins s σ H Q I h
 exact wpAny_BinOp (binT ha hb I h fun v u s2 x y H2 I2 rx ry q => ho pins s2 σ H2 x y v u Q I2 rx ry q)
theorem pe_un {op : UnaryOp} {r : V -> Hp -> VK -> Prop} (ho : UnR X (unaryOp op) r) (ha : PE X a ta) : PE X (.UnaryOp op a pos) (tUn r ta) := by
 intro pins s σ H Q I h
 exact UnaryOp_ (thn (ha pins s σ H _ I h) fun v s1 ⟨x, H1, I1, r1, q1⟩ => ho pins s1 σ H1 x v Q I1 r1 q1)
theorem opI {f : Value -> Value -> Sem Value} {C : Int -> Int -> Prop} {g : Int -> Int -> Int}
  (rule : ∀ (i j : Int) (t u : Tok) (s : Shared) (Q : Value -> Shared -> Prop) (E : Value -> Shared -> Prop), C i j -> Q (.int (g i j) s.toks) { s with toks := s.toks + 1 } -> wpAny (model X.prog X.w) X.A (f (.int i t) (.int j u)) Q E s) :
  OpR X f (rI C fun i j => .int (g i j)) := by
 intro pins s σ H x y v u Q I rx ry h
 obtain ⟨i, j, rfl, rfl, hc, q⟩ := h
 obtain ⟨t, rfl⟩ := rx
 obtain ⟨t', rfl⟩ := ry
 exact rule i j t t' s _ _ hc ⟨.int (g i j), H, I.tok _, ⟨_, rfl⟩, q⟩
theorem opI0 {f : Value -> Value -> Sem Value} {g : Int -> Int -> Int}
  (rule : ∀ (i j : Int) (t u : Tok) (s : Shared) (Q : Value -> Shared -> Prop) (E : Value -> Shared -> Prop), Q (.int (g i j) s.toks) { s with toks := s.toks + 1 } -> wpAny (model X.prog X.w) X.A (f (.int i t) (.int j u)) Q E s) :
  OpR X f (rI0 fun i j => .int (g i j)) := by
 intro pins s σ H x y v u Q I rx ry h
 obtain ⟨i, j, rfl, rfl, q⟩ := h
 obtain ⟨t, rfl⟩ := rx
 obtain ⟨t', rfl⟩ := ry
 exact rule i j t t' s _ _ ⟨.int (g i j), H, I.tok _, ⟨_, rfl⟩, q⟩
theorem opB0 {f : Value -> Value -> Sem Value} {g : Int -> Int -> Bool}
  (rule : ∀ (i j : Int) (t u : Tok) (s : Shared) (Q : Value -> Shared -> Prop) (E : Value -> Shared -> Prop), Q (.bool (g i j)) s -> wpAny (model X.prog X.w) X.A (f (.int i t) (.int j u)) Q E s) :
  OpR X f (rI0 fun i j => .bl (g i j)) := by
 intro pins s σ H x y v u Q I rx ry h
 obtain ⟨i, j, rfl, rfl, q⟩ := h
 obtain ⟨t, rfl⟩ := rx
 obtain ⟨t', rfl⟩ := ry
 exact rule i j t t' s _ _ ⟨.bl (g i j), H, I, rfl, q⟩
def CMul (i j : Int) : Prop := (-(2 ^ 64) < i /\ i < 2 ^ 64) \/ (-(2 ^ 64) < j /\ j < 2 ^ 64)
theorem CMul.ok {i j : Int} (h : CMul i j) : IntMulOk i j := by
 rcases h with ⟨h1, h2⟩ | ⟨h1, h2⟩
 · exact .of_left (intBits_le_64 h1 h2)
 · exact .of_right (intBits_le_64 h1 h2)
theorem op_add : OpR X (binaryOp .Add) (rI0 fun i j => .int (i + j)) := opI0 fun _ _ _ _ _ _ _ q => add_int q
theorem op_sub : OpR X (binaryOp .Sub) (rI0 fun i j => .int (i - j)) := opI0 fun _ _ _ _ _ _ _ q => sub_int q
theorem op_mod : OpR X (binaryOp .Mod) (rI (fun _ j => 0 < j) fun i j => .int (i % j)) := opI fun i j _ _ _ _ _ hc q => by
 have h1 : (0 : Int) < j := hc
 exact mod_int' (by omega) (by rw [Int.fmod_eq_emod_of_nonneg i (by omega)]; exact q)
theorem unI {f : Value -> Sem Value} {g : Int -> Int}
  (rule : ∀ (i : Int) (t : Tok) (s : Shared) (Q : Value -> Shared -> Prop) (E : Value -> Shared -> Prop), Q (.int (g i) s.toks) { s with toks := s.toks + 1 } -> wpAny (model X.prog X.w) X.A (f (.int i t)) Q E s) :
  UnR X f (rU fun i => .int (g i)) := by
 intro pins s σ H x v Q I rx h
 obtain ⟨i, rfl, q⟩ := h
 obtain ⟨t, rfl⟩ := rx
 exact rule i t s _ _ ⟨.int (g i), H, I.tok _, ⟨_, rfl⟩, q⟩
theorem un_neg : UnR X (unaryOp .USub) (rU fun i => .int (-i)) := unI fun _ _ _ _ _ q => neg_int q
end
section
variable {X : Cx} {a b c : Expr} {ta tb tc : TE} {pos : Pos}
theorem fin_bl {pins : List (Addr × Obj)} {σ : St} {H : Hp} {s : Shared} {Q : VK} {k k' : Bool} (I : Inv X pins σ H s) (q : Q (.bl k) H) (e : k = k') : EP X pins σ Q (.bool k') s := by
 subst e
 exact ⟨.bl k, H, I, rfl, q⟩
theorem op_lt : OpR X (compareOp .Lt) (rI0 fun i j => .bl (decide (i < j))) := opB0 fun _ _ _ _ _ _ _ q => lt_int q
theorem op_le : OpR X (compareOp .LtE) (rI0 fun i j => .bl (decide (i <= j))) := opB0 fun _ _ _ _ _ _ _ q => le_int q
theorem op_gt : OpR X (compareOp .Gt) (rI0 fun i j => .bl (decide (j < i))) := opB0 fun _ _ _ _ _ _ _ q => gt_int q
theorem op_ge : OpR X (compareOp .GtE) (rI0 fun i j => .bl (decide (j <= i))) := opB0 fun _ _ _ _ _ _ _ q => ge_int q
theorem op_in_str : OpR X (compareOp .In) (fun x y H Q => ∃ i j, x = .str i /\ y = .str j /\ Q (.bl (!(Builtin.Str.occurrences j i 0 j.length 1).isEmpty)) H) := by
 intro pins s σ H x y v u Q I rx ry h
 obtain ⟨i, j, rfl, rfl, q⟩ := h
 obtain ⟨t, rfl⟩ := rx
 obtain ⟨t', rfl⟩ := ry
 exact in_str (fin_bl I q rfl)
theorem op_isN : OpR X (compareOp .Is) (fun x y H Q => y = .non /\ Q (.bl (decide (x = .non))) H) := by
 intro pins s σ H x y v u Q I rx ry h
 obtain ⟨rfl, q⟩ := h
 cases ry
 refine is_none_gen (fin_bl I q ?_)
 cases x <;> first
  | (cases rx; rfl)
  | (obtain ⟨t, rfl⟩ := rx; rfl)
theorem op_notN : OpR X (compareOp .IsNot) (fun x y H Q => y = .non /\ Q (.bl (!decide (x = .non))) H) := by
 intro pins s σ H x y v u Q I rx ry h
 obtain ⟨rfl, q⟩ := h
 cases ry
 refine isnot_none_gen (fin_bl I q ?_)
 cases x <;> first
  | (cases rx; rfl)
  | (obtain ⟨t, rfl⟩ := rx; rfl)
theorem OpR.or {f : Value -> Value -> Sem Value} {r r' : R2} (h : OpR X f r) (h' : OpR X f r') : OpR X f (fun x y H Q => r x y H Q \/ r' x y H Q) := by
 intro pins s σ H x y v u Q I rx ry q
 rcases q with q | q
 · exact h pins s σ H x y v u Q I rx ry q
 · exact h' pins s σ H x y v u Q I rx ry q
theorem nomark (b : Expr) {op : CmpOp} (h : op ≠ .In := by decide) (h2 : op ≠ .NotIn := by decide) : behindInMarks op b = false := by
 have e1 : (op == CmpOp.In) = false := by cases op <;> first | rfl | exact absurd rfl h
 have e2 : (op == CmpOp.NotIn) = false := by cases op <;> first | rfl | exact absurd rfl h2
 cases b <;> simp [behindInMarks, e1, e2]
theorem pe_cmpR {op : CmpOp} {r : R2} (ho : OpR X (compareOp op) r) (ha : PE X a ta) (hb : PE X b tb) (hm : behindInMarks op b = false) : PE X (.Compare a [op] [b] pos) (tOp r ta tb) := by
 intro pins s σ H Q I h
 exact wpAny_Compare1 (binT ha hb I h fun v u s2 x y H2 I2 rx ry q => ho pins s2 σ H2 x y v u Q I2 rx ry q) hm
def tTest (t : TE) : TT := fun σ H Q => t σ H fun x H' => ∃ k, x = .bl k /\ Q k H'
theorem pt_cmpR {op : CmpOp} {r : R2} (ho : OpR X (compareOp op) r) (ha : PE X a ta) (hb : PE X b tb) (hm : behindInMarks op b = false) : PT X (.Compare a [op] [b] pos) (tTest (tOp r ta tb)) := by
 intro pins s σ H Q I h
 refine wpAny_isTrue_Compare1 (thn (ha pins s σ H _ I h) fun v s1 ⟨x, H1, I1, r1, q1⟩ => thn (hb pins s1 σ H1 _ I1 q1) fun u s2 ⟨y, H2, I2, r2, q2⟩ =>
  thn (ho pins s2 σ H2 x y v u _ I2 r1 r2 q2) fun c s3 ⟨z, H3, I3, r3, k, e, q3⟩ => ?_) hm
 subst e
 cases r3
 exact wpAny_truthy_bool ⟨H3, I3, q3⟩
def tChain (r r' : R2) (ta tb tc : TE) : TE := fun σ H Q => ta σ H fun x H1 => tb σ H1 fun y H2 => r x y H2 fun z H3 => ∃ k, z = .bl k ∧
 (if k = true then tc σ H3 fun w' H4 => r' y w' H4 Q else Q (.bl false) H3)
theorem pt_chain {op op' : CmpOp} {r r' : R2} (ho : OpR X (compareOp op) r) (ho' : OpR X (compareOp op') r') (ha : PE X a ta) (hb : PE X b tb) (hc : PE X c tc)
  (hm : lastMarks [op, op'] [b, c] = false := by with_unfolding_all rfl) : PT X (.Compare a [op, op'] [b, c] pos) (tTest (tChain r r' ta tb tc)) := by
 intro pins s σ H Q I h
 refine isTrue_chain (thn (ha pins s σ H _ I h) fun v s1 ⟨x, H1, I1, r1, q1⟩ => test_link (thn (hb pins s1 σ H1 _ I1 q1) fun u s2 ⟨y, H2, I2, r2, q2⟩ =>
  thn (ho pins s2 σ H2 x y v u _ I2 r1 r2 q2) fun d s3 ⟨z, H3, I3, r3, k, e, q3⟩ => ?_)) hm
 subst e
 cases r3
 refine wpAny_truthy_bool ?_
 cases k with
 | false =>
   obtain ⟨k', e', q'⟩ := q3
   cases e'
   exact ite_ff ⟨H3, I3, q'⟩
 | true =>
   refine ite_tt (test_last (thn (hc pins s3 σ H3 _ I3 q3) fun w' s4 ⟨z', H4, I4, r4, q4⟩ => thn (ho' pins s4 σ H4 y z' u w' _ I4 r2 r4 q4) fun d' s5 ⟨z2, H5, I5, r5, k2, e2, q5⟩ => ?_))
   subst e2
   cases r5
   exact wpAny_truthy_bool ⟨H5, I5, q5⟩
def TruV (K : PySem.W.Frag) (x : V) (H : Hp) (k : Bool) : Prop :=
 match x with
 | .non => k = false
 | .bl b => k = b
 | .int i => k = (i != 0)
 | .str y => y.length <= sizeLine /\ k = ((y.length : Int) != 0)
 | .byt y => y.size <= sizeLine /\ k = ((y.size : Int) != 0)
 | .ref p => (∃ xs, SqL K H p xs /\ k = !xs.isEmpty) \/ (∃ xs, SqT K H p xs /\ k = !xs.isEmpty) \/ ∃ kvs, H p = some (.dK kvs) /\ k = !kvs.isEmpty
 | _ => False
theorem isEmpty_kv {κ : Type} {kvs : List (κ × V)} {vs : List (κ × Value)} (r : KV kvs vs) : (!vs.isEmpty) = !kvs.isEmpty := by
 cases r <;> rfl
theorem isEmpty_of {xs : List V} {its : List Value} (r : Vals xs its) : (!its.toArray.isEmpty) = !xs.isEmpty := by
 cases r <;> simp
theorem line63 : (sizeLine : Nat) < 2 ^ 63 := by rw [sizeLine_eq]; decide
theorem tru_ok : TruR X (fun x H Q => ∃ k, TruV X.K x H k /\ Q k H) := by
 intro pins s σ H x v Q I rx h
 obtain ⟨k, e, q⟩ := h
 have hl := line63
 have hs : sizeLine = 16777216 := sizeLine_eq
 cases x with
 | non =>
   cases rx
   have e' : k = false := e
   subst e'
   exact truthy_none ⟨H, I, q⟩
 | bl b =>
   cases rx
   have e' : k = b := e
   subst e'
   exact wpAny_truthy_bool ⟨H, I, q⟩
 | int i =>
   obtain ⟨t, rfl⟩ := rx
   have e' : k = (i != 0) := e
   subst e'
   exact PySem.P.truthy_int ⟨H, I, q⟩
 | str y =>
   obtain ⟨t, rfl⟩ := rx
   obtain ⟨hy, e'⟩ : y.length <= sizeLine /\ k = ((y.length : Int) != 0) := e
   subst e'
   exact PySem.P.truthy_str (by omega) ⟨H, I.tok _, q⟩
 | byt y =>
   obtain ⟨t, rfl⟩ := rx
   obtain ⟨hy, e'⟩ : y.size <= sizeLine /\ k = ((y.size : Int) != 0) := e
   subst e'
   exact PySem.W.truthy_bytes (by omega) ⟨H, I.tok _, q⟩
 | ref p =>
   cases rx
   have e' : (∃ xs, SqL X.K H p xs /\ k = !xs.isEmpty) \/ (∃ xs, SqT X.K H p xs /\ k = !xs.isEmpty) \/ ∃ kvs, H p = some (.dK kvs) /\ k = !kvs.isEmpty := e
   rcases e' with ⟨xs, hx, e'⟩ | ⟨xs, hx, e'⟩ | ⟨kvs, hx, e'⟩
   · subst e'
     obtain ⟨its, r, pl, hz⟩ := I.list hx
     have hlen := r.length
     exact wpAny_truthy_list pl.isList (by simp only [List.size_toArray]; omega) ⟨H, I.tok _, by rw [isEmpty_of r]; exact q⟩
   · subst e'
     obtain ⟨its, r, pl, hz⟩ := I.tuple hx
     have hlen := r.length
     exact truthy_tuple pl (by simp only [List.size_toArray]; omega) ⟨H, I.tok _, by rw [isEmpty_of r]; exact q⟩
   · subst e'
     obtain ⟨hz, hS, vs, r, m⟩ : kvs.length <= sizeLine /\ (p == sysModules) = false /\ ∃ vs, KV kvs vs /\ s.heap.DictOf (mixKind X.prog X.w) p vs := I.hok p _ hx
     have hlen : kvs.length = vs.length := Paired.length r
     exact wpAny_truthy_dict hS m (by omega) ⟨H, I.tok _, by rw [isEmpty_kv r]; exact q⟩
 | _ => exact (show False from e).elim
theorem pt_truth (ha : PE X a ta) (he : ∀ whole, isTrue a X.env whole = (do let v <- whole; standAt a.pos; holding [v] (truthy v))) :
  PT X a (fun σ H Q => ta σ H fun x H' => ∃ k, TruV X.K x H' k /\ Q k H') := by
 intro pins s σ H Q I h
 exact isTrue_plain (thn (ha pins s σ H _ I h) fun v s1 ⟨x, H1, I1, r1, q1⟩ => tru_ok pins s1 σ H1 x v Q I1 r1 q1) (he _)
theorem op_add_str : OpR X (binaryOp .Add) (fun x y H Q => ∃ i j, x = .str i /\ y = .str j /\ i.length + j.length <= sizeLine /\ Q (.str (i ++ j)) H) := by
 intro pins s σ H x y v u Q I rx ry h
 obtain ⟨i, j, rfl, rfl, hz, q⟩ := h
 obtain ⟨t, rfl⟩ := rx
 obtain ⟨t', rfl⟩ := ry
 exact add_str (fun t' tk => ⟨.str (i ++ j), H, I.tok _, ⟨_, rfl⟩, q⟩) hz
theorem vals1 {x : V} {us : List Value} (r : Vals [x] us) : ∃ u, us = [u] /\ RelV x u := by
 cases r with
 | cons r1 r2 => cases r2; exact ⟨_, rfl, r1⟩
theorem vals2 {x y : V} {us : List Value} (r : Vals [x, y] us) : ∃ u w', us = [u, w'] /\ RelV x u /\ RelV y w' := by
 cases r with
 | cons r1 r2 =>
   cases r2 with
   | cons r3 r4 => cases r4; exact ⟨_, _, rfl, r1, r3⟩
theorem call_max2 (hc : X.calm = true) : CallR X (.builtin "max") (fun xs H Q => ∃ i j, xs = [.int i, .int j] /\ Q (.int (if j > i then j else i)) H) := by
 intro pins s σ H xs us Q I r h
 obtain ⟨i, j, rfl, q⟩ := h
 obtain ⟨u, w', rfl, ⟨t, rfl⟩, ⟨t', rfl⟩⟩ := vals2 r
 refine max_two_ints (I.ok.hd hc) fun h' tk k => ⟨_, H, I.kept k, ?_, q⟩
 by_cases hj : j > i
 · rw [if_pos hj, if_pos hj]; exact ⟨_, rfl⟩
 · rw [if_neg hj, if_neg hj]; exact ⟨_, rfl⟩
theorem call_min2 (hc : X.calm = true) : CallR X (.builtin "min") (fun xs H Q => ∃ i j, xs = [.int i, .int j] /\ Q (.int (if j < i then j else i)) H) := by
 intro pins s σ H xs us Q I r h
 obtain ⟨i, j, rfl, q⟩ := h
 obtain ⟨u, w', rfl, ⟨t, rfl⟩, ⟨t', rfl⟩⟩ := vals2 r
 refine min_two_ints (I.ok.hd hc) fun h' tk k => ⟨_, H, I.kept k, ?_, q⟩
 by_cases hj : j < i
 · rw [if_pos hj, if_pos hj]; exact ⟨_, rfl⟩
 · rw [if_neg hj, if_neg hj]; exact ⟨_, rfl⟩
theorem call_int1 : CallR X (.type "int") (fun xs H Q => (∃ i, xs = [.int i] /\ Q (.int i) H) \/ ∃ k, xs = [.bl k] /\ Q (.int (if k then 1 else 0)) H) := by
 intro pins s σ H xs us Q I r h
 rcases h with ⟨i, rfl, q⟩ | ⟨k, rfl, q⟩
 · obtain ⟨u, rfl, t, rfl⟩ := vals1 r
   exact call_int_int ⟨.int i, H, I, ⟨_, rfl⟩, q⟩
 · obtain ⟨u, rfl, r1⟩ := vals1 r
   cases r1
   exact call_int_bool ⟨.int (if k then 1 else 0), H, I.tok _, ⟨_, rfl⟩, q⟩
theorem call_str_int : CallR X (.type "str") (fun xs H Q => ∃ i, xs = [.int i] /\ i.natAbs.log2 < 1920 /\ Q (.str (toString i)) H) := by
 intro pins s σ H xs us Q I r h
 obtain ⟨i, rfl, hz, q⟩ := h
 obtain ⟨u, rfl, t, rfl⟩ := vals1 r
 exact PySem.P.str_of_int hz ⟨.str _, H, I.tok _, ⟨_, rfl⟩, q⟩
end
end L2
namespace L2
open PySem PySem.Spec PyProof.Rows
structure ObjM (h : Heap) (x dx C : Addr) (mA : Str -> Option Value) : Prop where
 obj : h.get? x = some (PySem.W.instObj C dx)
 ns : h.Ns1 dx mA
 ne : dx ≠ x
theorem lookIn_ns {h : Heap} {dx : Addr} {mA : Str -> Option Value} (n : h.Ns1 dx mA) : ∃ od, h.get? dx = some od /\ ∀ name, PySem.W.lookIn name od = some (mA name) := by
 obtain ⟨o, es, ep, ho, hd, hk, _, hm⟩ := n
 refine ⟨o, ho, fun name => ?_⟩
 have e := hm name
 unfold nsFind findBy at e
 rw [<- Array.find?_toList] at e
 unfold PySem.W.lookIn
 rw [hd]
 dsimp only
 split
 · rename_i y q
   rw [q] at e
   exact congrArg some e
 · rename_i q
   rw [q] at e
   have a : es.toList.any (·.refKey) = false := by
    rw [List.any_eq_false]
    intro y hy
    obtain ⟨z, t, hkey⟩ := hk y (Array.mem_toList_iff.mp hy)
    simp [DictEntry.refKey, hkey]
   have a' : ¬ es.toList.any (·.refKey) = true := by rw [a]; exact Bool.false_ne_true
   rw [if_neg a']
   exact congrArg some e
theorem ObjM.look {h : Heap} {x dx C : Addr} {mA : Str -> Option Value} (I : ObjM h x dx C mA) : ∃ od, PySem.W.InstAt h x (PySem.W.instObj C dx) C (some od) /\ ∀ name, PySem.W.lookIn name od = some (mA name) :=
 let ⟨od, ho, hl⟩ := lookIn_ns I.ns
 ⟨od, ⟨I.obj, rfl, rfl, ho⟩, hl⟩
section
variable {prog : Program} {w : World} {A : Around} {E : Value -> Shared -> Prop} {s : Shared} {K : PySem.W.Frag} {x dx C f : Addr} {mA : Str -> Option Value} {name : Str} {v : Value}
theorem get_map {expr : Bool} {Q : Value -> Shared -> Prop} (X : K.In s.heap) (I : ObjM s.heap x dx C mA) (hg : PySem.W.plainGet K C name = true) (hh : PySem.W.hasDictIn K C = true)
  (ha : PySem.W.findIn K (.ref C) name = some none) (hv : mA name = some v) (hv' : PySem.W.handedIn v = true) (h : Q v { s with toks := s.toks + 1 }) :
  wpAny (model prog w) A (getAttr (.ref x) name expr) Q E s := by
 obtain ⟨od, J, hl⟩ := I.look
 exact PySem.W.get_value X J (PySem.W.plainGet_of hg).1 (PySem.W.findObj_own hh ha rfl (by rw [hl, hv])) hv' h
theorem get_meth {pl : Sem Bool} {Q : Value × List Value -> Shared -> Prop} (X : K.In s.heap) (I : ObjM s.heap x dx C mA) (hg : PySem.W.plainGet K C name = true)
  (hf : PySem.W.findIn K (.ref C) name = some (some (.ref f))) (ht : PySem.W.isFn K (.ref f) = true) (hv : mA name = none) (h : Q (.ref f, [.ref x]) s) :
  wpAny (model prog w) A (getMethod (.ref x) name pl) Q E s := by
 obtain ⟨od, J, hl⟩ := I.look
 exact PySem.W.method_fn X J (PySem.W.plainGet_of hg).1 (PySem.W.plainGet_of hg).2 hf (beq_iff_eq.mp ht) (by show (PySem.W.lookIn name od).map (·.isSome) = some false; rw [hl, hv]; rfl) h
theorem set_map {ns : List Str} {Q : Unit -> Shared -> Prop} (X : K.In s.heap) (I : ObjM s.heap x dx C mA)
  (hs : PySem.W.findIn K (.ref C) "__setattr__" = some (some (.builtin "object.__setattr__"))) (hp : PySem.W.plainOver K C = true) (ht : PySem.W.takerIn K C name = some none) (hh : PySem.W.hasDictIn K C = true)
  (hw : PySem.Within mA ns) (hsz : ns.length <= sizeLine)
  (h : ∀ h', ObjM h' x dx C (fun y => if y = name then some v else mA y) -> Heap.SameBut dx s.heap h' -> Q () { s with heap := h', toks := s.toks + 2 }) :
  wpAny (model prog w) A (setAttr (.ref x) name v) Q E s := by
 obtain ⟨od, J, hl⟩ := I.look
 refine PySem.W.set_plain X J hs (PySem.W.osa_open (s := { s with toks := s.toks + 1 }) (r := none) X J hp ht fun b => ?_)
 obtain ⟨cd, hc, hd'⟩ := PySem.W.any_some hh
 have hx : s.heap.get? x = some ⟨.ref C, some dx, .plain, #[]⟩ := I.obj
 refine wpAny_bind (wpAny_pure (wpAny_bind (wpAny_bind (wpAny_loadPart hx (wpAny_bind (PySem.W.Looks.here (s := { s with toks := s.toks + 1 }) (PySem.W.looks_clsIn X hc) ?_))))))
 rw [hd']
 refine wpAny_pure (a := some dx) (wpAny_bind (wpAny_pure (wpAny_bind ?_)))
 refine wpAny_nsSet1 (s := { s with toks := s.toks + 1 }) I.ns fun h' hn2 hs2 => ?_
 obtain ⟨oD, esD, epD, hoD, hdD, hcD⟩ := hn2.count (PySem.Within.cons name v hw)
 refine wpAny_bind (wpAny_lookBehind hoD (by rw [hdD]; exact pastItsLine_dict (Nat.le_trans hcD (by rw [List.length_cons]; omega))) ?_)
 exact wpAny_pure (h _ ⟨(hs2.2 _ (Ne.symm I.ne)).trans I.obj, hn2, I.ne⟩ hs2)
theorem make_map {R : Result -> Shared -> Prop} {vs : List Value} {kw : List (Str × Value)} (X : K.In s.heap) (hm : PySem.W.makesIn K C = true)
  (hi : PySem.W.findIn K (.ref C) "__init__" = some (some (.ref f))) (hf : PySem.W.typeIn K (.ref f) = some (.type "function"))
  (h : codeAny (model prog w) (A.under (.builtin "type.__call__" ⟨.ref C :: vs, kw⟩)) (.call (.ref f) ⟨.ref (s.heap.objs.size + 1) :: vs, kw⟩) (PySem.W.InitBack (s.heap.objs.size + 1) R)
    { s with heap := (s.heap.push PySem.W.emptyDict).push (PySem.W.instObj C s.heap.objs.size) }) :
  codeAny (model prog w) A (.call (.ref C) ⟨vs, kw⟩) R s := by
 obtain ⟨hh, g, d, t, os⟩ := s
 exact PySem.W.make_core (PySem.W.makes_of X hm) (PySem.W.looks_findIn X hi) (fun self => PySem.W.bind_fn X self hf) (.inl rfl) h
end
def putF (f : Str) (v : V) : List (Str × V) -> List (Str × V)
 | [] => [(f, v)]
 | (g, x) :: r => if g = f then (g, v) :: r else (g, x) :: putF f v r
theorem lookup_putF (f g : Str) (v : V) : ∀ fs : List (Str × V), (putF f v fs).lookup g = if g = f then some v else fs.lookup g
 | [] => by
   show List.lookup g [(f, v)] = _
   by_cases h : g = f
   · have hb : (g == f) = true := beq_iff_eq.mpr h
     simp only [List.lookup, hb, if_pos h]
   · have hb : (g == f) = false := beq_eq_false_iff_ne.mpr h
     simp only [List.lookup, hb, if_neg h]
 | (k, x) :: r => by
   have ih := lookup_putF f g v r
   rw [show putF f v ((k, x) :: r) = (if k = f then (k, v) :: r else (k, x) :: putF f v r) from rfl]
   by_cases hk : k = f
   · rw [if_pos hk]
     by_cases h : g = k
     · have hb : (g == k) = true := beq_iff_eq.mpr h
       simp only [List.lookup, hb, if_pos (h.trans hk)]
     · have hb : (g == k) = false := beq_eq_false_iff_ne.mpr h
       simp only [List.lookup, hb, if_neg (fun e : g = f => h (e.trans hk.symm))]
   · rw [if_neg hk]
     by_cases h : g = k
     · have hb : (g == k) = true := beq_iff_eq.mpr h
       simp only [List.lookup, hb, if_neg (fun e : g = f => hk (h.symm.trans e))]
     · have hb : (g == k) = false := beq_eq_false_iff_ne.mpr h
       simp only [List.lookup, hb]
       exact ih
theorem vA (f : Str) (v : V) : ∀ fs : List (Str × V), f ∈ (putF f v fs).map (·.1) /\ ∀ g, g ∈ fs.map (·.1) -> g ∈ (putF f v fs).map (·.1)
 | [] => ⟨by simp [putF], fun g h => by simp at h⟩
 | (k, x) :: r => by
   obtain ⟨i1, i2⟩ := vA f v r
   rw [show putF f v ((k, x) :: r) = (if k = f then (k, v) :: r else (k, x) :: putF f v r) from rfl]
   by_cases hk : k = f
   · rw [if_pos hk]
     subst hk
     exact ⟨by simp, fun g h => by simpa using h⟩
   · rw [if_neg hk]
     refine ⟨?_, fun g h => ?_⟩
     · rw [List.map_cons]
       exact List.mem_cons_of_mem _ i1
     · rw [List.map_cons] at h ⊢
       rcases List.mem_cons.mp h with e | e
       · exact List.mem_cons.mpr (.inl e)
       · exact List.mem_cons_of_mem _ (i2 g e)
theorem length_putF (f : Str) (v : V) : ∀ fs : List (Str × V), (putF f v fs).length <= fs.length + 1
 | [] => by simp [putF]
 | (k, x) :: r => by
   have ih := length_putF f v r
   rw [show putF f v ((k, x) :: r) = (if k = f then (k, v) :: r else (k, x) :: putF f v r) from rfl]
   by_cases hk : k = f
   · rw [if_pos hk, List.length_cons, List.length_cons]; omega
   · rw [if_neg hk, List.length_cons, List.length_cons]; omega
theorem RelO.some_of {v : V} {o : Option Value} (r : RelO (some v) o) : ∃ u, o = some u /\ RelV v u := by
 cases o with
 | none => exact (show False from r).elim
 | some u => exact ⟨u, rfl, r⟩
theorem RelO.none_of {o : Option Value} (r : RelO none o) : o = none := by
 cases o with
 | none => rfl
 | some u => exact (show False from r).elim
theorem handed_of {v : V} {u : Value} (r : RelV v u) : PySem.W.handedIn u = true := by
 cases v with
 | non => cases (show u = Value.none from r); rfl
 | bl b => cases (show u = Value.bool b from r); rfl
 | int i => obtain ⟨t, e⟩ := (show ∃ t, u = Value.int i t from r); cases e; rfl
 | str x => obtain ⟨t, e⟩ := (show ∃ t, u = Value.str x t from r); cases e; rfl
 | byt b => obtain ⟨t, e⟩ := (show ∃ t, u = Value.bytes b t from r); cases e; rfl
 | flt b => obtain ⟨t, e⟩ := (show ∃ t, u = Value.float b t from r); cases e; rfl
 | ref a => cases (show u = Value.ref a from r); rfl
 | ty n => cases (show u = Value.type n from r); rfl
section
variable {P : Program} {w : World} {H H' : Hp} {h h' : Heap} {a C dx : Addr} {fs fs' : List (Str × V)}
theorem vW (hok : HOk P w H h) (e : H a = some (.ins C dx fs)) : ∃ mA, ObjM h a dx C mA /\ (∀ f, RelO (fs.lookup f) (mA f)) /\ PySem.Within mA (fs.map (·.1)) /\ fs.length <= 1000 /\ H dx = some (.own a) := by
 obtain ⟨d, z, ne, ob, mA, n, r, q⟩ := (show ObjOk P w H h a (.ins C dx fs) from hok a _ e)
 exact ⟨mA, ⟨ob, n, ne⟩, r, q, z, d⟩
end
structure Cls (K : PySem.W.Frag) (C : Addr) : Prop where
 pg : PySem.W.plainGet K C Str.empty = true
 hd : PySem.W.hasDictIn K C = true
 po : PySem.W.plainOver K C = true
 sa : PySem.W.findIn K (.ref C) "__setattr__" = some (some (.builtin "object.__setattr__"))
theorem Cls.get {K : PySem.W.Frag} {C : Addr} (c : Cls K C) (f : Str) : PySem.W.plainGet K C f = true := c.pg
def NoAttr (K : PySem.W.Frag) (C : Addr) (f : Str) : Prop := PySem.W.findIn K (.ref C) f = some none
theorem NoAttr.taker {K : PySem.W.Frag} {C : Addr} {f : Str} (n : NoAttr K C f) : PySem.W.takerIn K C f = some none := by
 unfold PySem.W.takerIn
 rw [show PySem.W.findIn K (.ref C) f = some none from n]
 rfl
structure Meth (K : PySem.W.Frag) (C : Addr) (m : Str) (f : Addr) : Prop where
 at_ : PySem.W.findIn K (.ref C) m = some (some (.ref f))
 fn : PySem.W.isFn K (.ref f) = true
 kp : PySem.W.keepIn K (.ref f) = true
section
variable {X : Cx} {pins : List (Addr × Obj)} {σ : St} {H : Hp} {s : Shared} {a C dx : Addr} {fs : List (Str × V)} {f : Str} {v : V} {A : Around} {E : Value -> Shared -> Prop}
theorem getattr_ok {b : Bool} {Q : Value -> Shared -> Prop} (I : Inv X pins σ H s) (e : H a = some (.ins C dx fs)) (c : Cls X.K C) (n : NoAttr X.K C f) (l : fs.lookup f = some v)
  (h : ∀ u s', Inv X pins σ H s' -> RelV v u -> Q u s') : wpAny (model X.prog X.w) A (getAttr (.ref a) f b) Q E s := by
 obtain ⟨mA, O, r, _, _, _⟩ := vW I.hok e
 obtain ⟨u, hu, ru⟩ := RelO.some_of (v := v) (o := mA f) (by rw [<- l]; exact r f)
 exact get_map I.kIn O (c.get f) c.hd n hu (handed_of ru) (h u _ (I.tok _) ru)
theorem getmeth_ok {m : Str} {g : Addr} {pl : Sem Bool} {Q : Value × List Value -> Shared -> Prop} (I : Inv X pins σ H s) (e : H a = some (.ins C dx fs)) (c : Cls X.K C) (k : Meth X.K C m g) (l : fs.lookup m = none)
  (h : Q (.ref g, [.ref a]) s) : wpAny (model X.prog X.w) A (getMethod (.ref a) m pl) Q E s := by
 obtain ⟨mA, O, r, _, _, _⟩ := vW I.hok e
 have hn : mA m = none := RelO.none_of (by rw [<- l]; exact r m)
 exact get_meth I.kIn O (c.get m) k.at_ k.fn hn h
theorem setattr_ok {y : V} {u : Value} {Q : Unit -> Shared -> Prop} (I : Inv X pins σ H s) (e : H a = some (.ins C dx fs)) (c : Cls X.K C) (n : NoAttr X.K C f) (hl : fs.length < 1000) (ry : RelV y u)
  (h : ∀ s', Inv X pins σ (upd H a (.ins C dx (putF f y fs))) s' -> Q () s') : wpAny (model X.prog X.w) A (setAttr (.ref a) f u) Q E s := by
 obtain ⟨mA, O, r, wi, _, ho⟩ := vW I.hok e
 have hz : (fs.map (·.1)).length <= sizeLine := by rw [List.length_map, sizeLine_eq]; omega
 refine set_map I.kIn O c.sa c.po n.taker c.hd wi hz fun h' O' sb => h _ ?_
 have hd : ∃ o, h'.get? dx = some o := let ⟨o, _, _, e', _⟩ := O'.ns; ⟨o, e'⟩
 refine I.write (x := a) (e := dx) (by rw [e]; exact True.intro) (.inr ho) (fun b q hb z => (sb.2 b hb).trans z) hd ?_
 refine ⟨by rw [qI O.ne]; exact ho, ?_, O.ne, O'.obj, _, O'.ns, fun g => ?_, fun g hg => ?_⟩
 · have := length_putF f y fs; omega
 · show RelO ((putF f y fs).lookup g) (if g = f then some u else mA g)
   rw [lookup_putF]
   by_cases q : g = f
   · rw [if_pos q, if_pos q]; exact ry
   · rw [if_neg q, if_neg q]; exact r g
 · by_cases q : g = f
   · rw [q]; exact (vA f y fs).1
   · refine (vA f y fs).2 g (wi g fun z => hg ?_)
     show (if g = f then some u else mA g) = none
     rw [if_neg q]; exact z
theorem Inv.made (I : Inv X pins σ H s) : Inv X pins σ (upd (upd H s.heap.objs.size (.own (s.heap.objs.size + 1))) (s.heap.objs.size + 1) (.ins C s.heap.objs.size []))
  { s with heap := (s.heap.push PySem.W.emptyDict).push (PySem.W.instObj C s.heap.objs.size) } := by
 have e1 : (s.heap.push PySem.W.emptyDict).get? s.heap.objs.size = some PySem.W.emptyDict := Heap.get?_push_size s.heap rfl
 have e2 : ((s.heap.push PySem.W.emptyDict).push (PySem.W.instObj C s.heap.objs.size)).get? (s.heap.objs.size + 1) = some (PySem.W.instObj C s.heap.objs.size) := by
  have := Heap.get?_push_size (s.heap.push PySem.W.emptyDict) (o := PySem.W.instObj C s.heap.objs.size) rfl
  rwa [Heap.size_push] at this
 have e3 : (s.heap.push PySem.W.emptyDict).Ns s.heap.objs.size (fun _ => none) := ⟨PySem.W.emptyDict, #[], _, e1, rfl, (fun e he => absurd he (by simp)), fun _ => rfl⟩
 have I1 := I.laid (a := s.heap.objs.size) (o := .own (s.heap.objs.size + 1)) (h' := s.heap.push PySem.W.emptyDict) (t' := s.toks) (fun b u q => Heap.get?_push_of_some _ q) (Nat.le_refl _) ⟨_, e1⟩
 refine I1.laid (a := s.heap.objs.size + 1) (o := .ins C s.heap.objs.size []) (t' := s.toks) (fun b u q => Heap.get?_push_of_some _ q) (Nat.le_of_eq (Heap.size_push _ _)) ?_
 have ne : s.heap.objs.size ≠ s.heap.objs.size + 1 := Nat.ne_of_lt (Nat.lt_succ_self _)
 refine ⟨by rw [qI ne, qQ], Nat.zero_le _, ne, e2, fun _ => none, (Heap.Ns1.of_empty e3).at fun o q => Heap.get?_push_of_some _ q, fun _ => True.intro, fun y hy => absurd rfl hy⟩
theorem attr_of {prog : Program} {w : World} {env : Env} {e : Expr} {f : Str} {pos : Pos} {s : Shared} {Q : Value -> Shared -> Prop} (hb : attributeBase e f env (eval e env) = eval e env)
  (h : wpAny (model prog w) A (eval e env) (fun o s₁ => wpAny (model prog w) A (getAttr o f true) Q E s₁) E s) : wpAny (model prog w) A (eval (.Attribute e f pos) env) Q E s :=
 Attribute_any_ h (by rw [arm_eval_Attribute, hb])
end
def tFld (K : PySem.W.Frag) (ta : TE) (f : Str) : TE := fun σ H Q => ta σ H fun x H1 => ∃ a C dx fs v, x = .ref a /\ H1 a = some (.ins C dx fs) /\ Cls K C /\ NoAttr K C f /\ fs.lookup f = some v /\ Q v H1
def sFld (K : PySem.W.Frag) (ta tv : TE) (f : Str) : TS := fun D σ H => tv σ H fun y H1 => ta σ H1 fun x H2 => ∃ a C dx fs, x = .ref a /\ H2 a = some (.ins C dx fs) /\ Cls K C /\ NoAttr K C f /\ fs.length < 1000 ∧
 D.nx σ (upd H2 a (.ins C dx (putF f y fs)))
section
variable {X : Cx} {o e value : Expr} {f : Str} {pos pos' tpos : Pos} {ta tv : TE}
theorem pe_fld (he : PE X e ta) (hb : attributeBase e f X.env (eval e X.env) = eval e X.env) : PE X (.Attribute e f pos) (tFld X.K ta f) := by
 intro pins s σ H Q I h
 refine attr_of hb (thn (he pins s σ H _ I h) fun u s1 ⟨x, H1, I1, rx, a, C, dx, fs, v, ex, ea, c, n, l, q⟩ => ?_)
 subst ex
 obtain rfl : u = Value.ref a := rx
 exact getattr_ok I1 ea c n l fun u' s2 I2 ru => ⟨v, H1, I2, ru, q⟩
theorem ps_fld (ha : PE X o ta) (hv : PE X value tv) (hs : swapsWith value (some (.Attribute o f pos')) pos.line X.env = pure false) : PS X (.Assign [.Attribute o f pos'] value pos) (sFld X.K ta tv f) := by
 intro pins s σ H D I h
 refine plainObj_wpAny_Assign_Attribute (thn (hv pins s σ H _ I h) fun u s1 ⟨y, H1, I1, ry, q⟩ => thn (ha pins s1 σ H1 _ I1 q) fun ov s2 ⟨x, H2, I2, rx, a, C, dx, fs, ex, ea, c, n, l, q2⟩ => ?_) hs
 subst ex
 obtain rfl : ov = Value.ref a := rx
 exact setattr_ok I2 ea c n l ry fun s3 I3 => ⟨σ, _, I3, q2⟩
end
section
variable {X : Cx} {pins : List (Addr × Obj)} {σ : St} {H : Hp} {s : Shared} {A : Around} {E : Value -> Shared -> Prop} {Q : Value -> Shared -> Prop} {c : Value} {b : Bool}
inductive TyOf (K : PySem.W.Frag) (H : Hp) : V -> Value -> Prop where
 | non : TyOf K H .non (.type "NoneType")
 | bl (x : Bool) : TyOf K H (.bl x) (.type "bool")
 | int (i : Int) : TyOf K H (.int i) (.type "int")
 | str (x : Str) : TyOf K H (.str x) (.type "str")
 | flt (x : UInt64) : TyOf K H (.flt x) (.type "float")
 | lst {a : Addr} {xs : List V} (e : H a = some (.lst xs)) : TyOf K H (.ref a) (.type "list")
 | frz {a : Addr} {o : Obj} {xs : List V} (e : H a = some (.frz o (.lst xs))) : TyOf K H (.ref a) (.type "list")
 | tup {a : Addr} {xs : List V} (e : H a = some (.tup xs)) : TyOf K H (.ref a) (.type "tuple")
 | dK {a : Addr} {kvs : List (Key × V)} (e : H a = some (.dK kvs)) : TyOf K H (.ref a) (.type "dict")
 | dT {a : Addr} {kvs : List (List Key × V)} (e : H a = some (.dT kvs)) : TyOf K H (.ref a) (.type "dict")
 | ins {a C dx : Addr} {fs : List (Str × V)} (e : H a = some (.ins C dx fs)) (cl : Cls K C) (ha : PySem.W.findIn K (.ref C) "__class__" = some (some (.builtin "object.__class__")))
    (hn : PySem.W.specialIn K (.builtin "object.__class__") "__get__" = some (some (.builtin "getset_descriptor.__get__"))) (htk : PySem.W.takesIn K (.builtin "object.__class__") = some true)
    (hm : PySem.W.mroIn K C (.type "object") = some true) : TyOf K H (.ref a) (.ref C)
theorem isinst_ok {x : V} {u t : Value} (I : Inv X pins σ H s) (rx : RelV x u) (ty : TyOf X.K H x t) (e : PySem.W.kitOne X.K t c = some b) (h : ∀ tk, Q (.bool b) { s with toks := tk }) :
  wpAny (model X.prog X.w) A (call (.builtin "isinstance") [u, c]) Q E s := by
 cases ty with
 | non => cases (show u = Value.none from rx); exact PySem.W.kia_one PySem.W.kitx_none I.kIn True.intro e (fun z => nomatch z) h
 | bl y => cases (show u = Value.bool y from rx); exact PySem.W.kia_one PySem.W.kitx_bool I.kIn True.intro e (fun z => nomatch z) h
 | int i => obtain ⟨t, q⟩ := (show ∃ t, u = Value.int i t from rx); cases q; exact PySem.W.kia_one PySem.W.kitx_int I.kIn True.intro e (fun z => nomatch z) h
 | str y => obtain ⟨t, q⟩ := (show ∃ t, u = Value.str y t from rx); cases q; exact PySem.W.kia_one PySem.W.kitx_str I.kIn True.intro e (fun z => nomatch z) h
 | flt y => obtain ⟨t, q⟩ := (show ∃ t, u = Value.float y t from rx); cases q; exact PySem.W.kia_one PySem.W.kitx_float I.kIn True.intro e (fun z => nomatch z) h
 | @lst a xs ea =>
   cases (show u = Value.ref a from rx)
   obtain ⟨_, _, n, _, h1⟩ := (show ObjOk X.prog X.w H s.heap a (.lst xs) from I.hok a _ ea)
   exact PySem.W.kia_one PySem.W.kitx_list I.kIn ⟨_, h1, rfl⟩ e (fun z => nomatch z) h
 | @frz a ob xs ea =>
   cases (show u = Value.ref a from rx)
   obtain ⟨_, _, _, n, _, h1⟩ := (show ObjOk X.prog X.w H s.heap a (.frz ob (.lst xs)) from I.hok a _ ea)
   exact PySem.W.kia_one PySem.W.kitx_list I.kIn ⟨_, h1, rfl⟩ e (fun z => nomatch z) h
 | @tup a xs ea =>
   cases (show u = Value.ref a from rx)
   obtain ⟨_, _, _, p⟩ := (show ObjOk X.prog X.w H s.heap a (.tup xs) from I.hok a _ ea)
   obtain ⟨o, h1, h2, _⟩ := p
   exact PySem.W.kia_one PySem.W.kitx_tuple I.kIn ⟨o, h1, h2⟩ e (fun z => nomatch z) h
 | @dK a kvs ea =>
   cases (show u = Value.ref a from rx)
   obtain ⟨_, _, vs, _, p⟩ := (show ObjOk X.prog X.w H s.heap a (.dK kvs) from I.hok a _ ea)
   obtain ⟨o, es, ep, h1, h2, _⟩ := p
   exact PySem.W.kia_one PySem.W.kitx_dict I.kIn ⟨o, h1, h2.1⟩ e (fun z => nomatch z) h
 | @dT a kvs ea =>
   cases (show u = Value.ref a from rx)
   obtain ⟨_, _, xs, _, o, es, ep, h1, h2, _⟩ := (show ObjOk X.prog X.w H s.heap a (.dT kvs) from I.hok a _ ea)
   exact PySem.W.kia_one PySem.W.kitx_dict I.kIn ⟨o, h1, h2.1⟩ e (fun z => nomatch z) h
 | @ins a C dx fs ea cl ha hn htk hm =>
   cases (show u = Value.ref a from rx)
   obtain ⟨mA, O, _⟩ := vW I.hok ea
   obtain ⟨od, J, _⟩ := O.look
   exact PySem.W.kia_one (PySem.W.kitx_own (cl.get _) cl.hd ha hn htk hm) I.kIn J e (fun z => nomatch z) h
end
end L2
namespace L2
open PySem PySem.Spec PyProof.Rows
structure Room (k : Nat) (A : Around) : Prop where
 hd : A.handled = none
 dp : A.depth + 3 * k + 5 < recursionLimit
 un : A.units + 16 * k + 200 < cLine
theorem Room.mono {j k : Nat} {A : Around} (r : Room k A) (h : j <= k) : Room j A := ⟨r.hd, by have := r.dp; omega, by have := r.un; omega⟩
theorem Room.deeper {k : Nat} {A : Around} (r : Room (k + 1) A) (env : Env) : Room k (A.deeper env) :=
 ⟨r.hd, by have := r.dp; show A.depth + 1 + 3 * k + 5 < _; omega, by have := r.un; show A.units + 3 + 16 * k + 200 < _; omega⟩
theorem make_depth {A : Around} {C : Addr} {us : List Value} {kw : List (Str × Value)} : (A.under (.builtin "type.__call__" ⟨.ref C :: us, kw⟩)).depth = A.depth + 1 := by
 first | rfl | simp [Around.under, Code.weight, Code.isCreation, Code.isGuard, Code.isCaller, Code.frames, Code.isFrame, guardIds]
theorem make_units {A : Around} {C : Addr} {us : List Value} {kw : List (Str × Value)} : (A.under (.builtin "type.__call__" ⟨.ref C :: us, kw⟩)).units = A.units + 1 := by
 first | rfl | simp [Around.under, Code.cUnits, Code.frames, Code.isFrame]
theorem Room.make {k : Nat} {A : Around} (r : Room (k + 1) A) (C : Addr) (us : List Value) (kw : List (Str × Value)) : Room k (A.under (.builtin "type.__call__" ⟨.ref C :: us, kw⟩)) :=
 ⟨r.hd, by have := r.dp; rw [make_depth]; omega, by have := r.un; rw [make_units]; omega⟩
theorem Room.depth {k : Nat} {A : Around} (r : Room k A) : A.depth < recursionLimit := by have := r.dp; omega
def tNil : TA := fun _ H Q => Q [] H
def tCons (ta : TE) (tr : TA) : TA := fun σ H Q => ta σ H fun x H1 => tr σ H1 fun xs H2 => Q (x :: xs) H2
section
variable {X : Cx} {e : Expr} {es : List Expr} {te : TE} {t : TA} {pos : Pos}
theorem xC : PA X [] tNil := fun _ _ _ _ H Q I h => Calls.spliced_nil ⟨[], H, I, .nil, h⟩
theorem jS (ha : PE X e te) (hr : PA X es t) (hs : starEach (e :: es) X.env = (false, eval e X.env) :: starEach es X.env := by rfl) : PA X (e :: es) (tCons te t) := by
 intro pos pins s σ H Q I h
 rw [hs]
 show wpAny _ _ (spliced ((false, eval e X.env) :: backTo pos (starEach es X.env))) _ _ s
 refine Calls.spliced_cons (thn (ha pins s σ H _ I h) fun u s1 ⟨x, H1, I1, r1, q1⟩ => ?_)
 exact thn (hr pos pins s1 σ H1 _ I1 q1) fun us s2 ⟨xs, H2, I2, r2, q2⟩ => ⟨x :: xs, H2, I2, .cons r1 r2, q2⟩
def tTup (t : TA) : TE := fun σ H Q => t σ H fun xs H1 => xs.length <= sizeLine /\ ∀ p, H1 p = none -> Q (.ref p) (upd H1 p (.tup xs))
def tLst (t : TA) : TE := fun σ H Q => t σ H fun xs H1 => xs.length <= sizeLine /\ ∀ p, H1 p = none -> Q (.ref p) (upd H1 p (.lst xs))
theorem pe_tup {x1} (h : PA X es t) : PE X (.Tuple es x1 pos) (tTup t) := by
 intro pins s σ H Q I hq
 refine wpAny_Tuple_spliced (thn (h pos pins s σ H _ I hq) fun us s1 ⟨xs, H1, I1, r, z, q⟩ => ⟨by rw [<- r.length]; exact z, ?_⟩)
 have hf : H1 s1.heap.objs.size = none := I1.hok.fresh (Nat.le_refl _)
 refine ⟨.ref s1.heap.objs.size, upd H1 s1.heap.objs.size (.tup xs), I1.laid (t' := s1.toks) (fun b u e => Heap.get?_push_of_some _ e) (Nat.le_refl _) ?_, rfl, q _ hf⟩
 exact ⟨z, us, r, ⟨_, Heap.get?_push_size _ rfl, rfl, _, rfl⟩⟩
theorem pe_lst (h : PA X es t) : PE X (.List es pos) (tLst t) := by
 intro pins s σ H Q I hq
 refine wpAny_List_spliced (thn (h pos pins s σ H _ I hq) fun us s1 ⟨xs, H1, I1, r, z, q⟩ => ⟨by rw [<- r.length]; exact z, ?_⟩)
 have hf : H1 s1.heap.objs.size = none := I1.hok.fresh (Nat.le_refl _)
 refine ⟨.ref s1.heap.objs.size, upd H1 s1.heap.objs.size (.lst xs), I1.laid (t' := s1.toks) (fun b u e => Heap.get?_push_of_some _ e) (Nat.le_refl _) ?_, rfl, q _ hf⟩
 exact ⟨z, us, 0, r, Heap.get?_push_size _ rfl⟩
end
abbrev Sp := List V -> Hp -> VK -> XK -> Prop
abbrev CXT := List Env -> Hp -> Shared -> XK -> Value -> Shared -> Prop
structure Env0 (P : Program) (w : World) (K : PySem.W.Frag) (mg : Str -> Option Value) (base : Heap) (A : Around) (outer : List Env) (s : Shared) (H : Hp) : Prop where
 frames : A.frames = some outer
 mod : Mod K mg base
 bs : ∀ b o, base.get? b = some o -> s.heap.get? b = some o /\ H b = none
 bsz : Bsz K mg base s.heap H
 funs : s.heap.FunFrames base outer
 frf : ∀ b ∈ frs outer, H b = none
 hok : HOk P w H s.heap
 bare : AllBare s.gens
def CE (outer : List Env) (P : Program) (w : World) (H : Hp) (s : Shared) (Q : VK) (u : Value) (s' : Shared) : Prop :=
 ∃ v H', s'.os = s.os /\ AllBare s'.gens /\ Un (frs outer) [] H H' s.heap s'.heap /\ HOk P w H' s'.heap /\ RelV v u /\ Q v H'
def CR (CX : CXT) (outer : List Env) (P : Program) (w : World) (H : Hp) (s : Shared) (Q : VK) (E : XK) (r : Result) (s' : Shared) : Prop :=
 match r with
 | .ok (.ret u) => CE outer P w H s Q u s'
 | .ok _ => False
 | .error e => CX outer H s E e s'
structure FnOk (P : Program) (w : World) (K : PySem.W.Frag) (mg : Str -> Option Value) (base : Heap) (CX : CXT) (k : Nat) (f : Addr) (fd : FuncData) (ps : List Str) (sp : Sp) : Prop where
 len : ∀ vs H Q E, sp vs H Q E -> vs.length = ps.length
 run : ∀ (A : Around) (outer : List Env) (s : Shared) (H : Hp) (args : Args) (us : List Value) (vs : List V) (Q : VK) (E : XK), Room k A -> Env0 P w K mg base A outer s H -> BindsTo s fd args (ps.zip us) -> Vals vs us -> sp vs H Q E →
  codeAny (model P w) A (.call (.ref f) args) (CR CX outer P w H s Q E) s
theorem FnOk.mono {P : Program} {w : World} {K : PySem.W.Frag} {mg : Str -> Option Value} {base : Heap} {CX : CXT} {j k : Nat} {f : Addr} {fd : FuncData} {ps : List Str} {sp : Sp} (F : FnOk P w K mg base CX j f fd ps sp) (h : j <= k) :
  FnOk P w K mg base CX k f fd ps sp := ⟨F.len, fun A outer s H args us vs Q E hr => F.run A outer s H args us vs Q E (hr.mono h)⟩
theorem FnOk.imp {P : Program} {w : World} {K : PySem.W.Frag} {mg : Str -> Option Value} {base : Heap} {CX : CXT} {k : Nat} {f : Addr} {fd : FuncData} {ps : List Str} {sp sp' : Sp} (F : FnOk P w K mg base CX k f fd ps sp)
  (h : ∀ vs H Q E, sp' vs H Q E -> sp vs H Q E) : FnOk P w K mg base CX k f fd ps sp' :=
 ⟨fun vs H Q E q => F.len vs H Q E (h _ _ _ _ q), fun A outer s H args us vs Q E hr he hb hv hs => F.run A outer s H args us vs Q E hr he hb hv (h _ _ _ _ hs)⟩
theorem Env0.make {P : Program} {w : World} {K : PySem.W.Frag} {mg : Str -> Option Value} {base : Heap} {A : Around} {outer : List Env} {s : Shared} {H : Hp} (e : Env0 P w K mg base A outer s H) (C : Addr) (us : List Value) (kw : List (Str × Value)) :
  Env0 P w K mg base (A.under (.builtin "type.__call__" ⟨.ref C :: us, kw⟩)) outer s H := ⟨by first | exact e.frames | (simpa [Around.under, Code.envs, Code.isFrame, pushEnvs] using e.frames), e.mod, e.bs, e.bsz, e.funs, e.frf, e.hok, e.bare⟩
section
variable {X : Cx} {pins : List (Addr × Obj)} {σ : St} {H : Hp} {s s' : Shared}
theorem Inv.tabsH (I : Inv X pins σ H s) : TabsK X.K X.mg X.base H := ⟨I.ok.bsz.2.bm, fun x c P hx ht => ⟨(I.ok.bsz.2.tab x c P hx ht).1, I.base.tbls _ _ (I.ok.bsz.2.tab x c P hx ht).2⟩⟩
theorem Inv.env0 (I : Inv X pins σ H s) : Env0 X.prog X.w X.K X.mg X.base X.A X.stack s H :=
 ⟨I.ok.frames, I.ok.mod, I.bs, ⟨Nat.le_trans I.ok.bsz.1 I.sz, I.tabsH⟩, I.stack, I.stkFree, I.hok, I.bare⟩
theorem Inv.after {Q : VK} {u : Value} (I : Inv X pins σ H s) (h : CE X.stack X.prog X.w H s Q u s') : EP X pins σ Q u s' := by
 obtain ⟨v, H', os, bare, un, hok, r, q⟩ := h
 obtain ⟨hh, g, d, t, os'⟩ := s'
 obtain rfl : os' = s.os := os
 exact ⟨v, H', I.call (h' := hh) (g' := g) (d' := d) (t' := t) (ch := []) un hok bare (fun b z => absurd z (by simp)), r, q⟩
end
def tCall (sp : Sp) (dvs : List V) (E : XK) (t : TA) : TE := fun σ H Q => t σ H fun vs H1 => sp (vs ++ dvs) H1 Q E
def tMake (C : Addr) (sp : Sp) (dvs : List V) (E : XK) (t : TA) : TE := fun σ H Q => t σ H fun vs H1 => ∀ x dx, H1 x = none -> H1 dx = none -> dx ≠ x →
 sp (.ref x :: (vs ++ dvs)) (upd (upd H1 dx (.own x)) x (.ins C dx [])) (fun v H2 => v = .non /\ Q (.ref x) H2) E
def Binds (K : PySem.W.Frag) (fd : FuncData) (ps : List Str) (ds : List Value) : Prop :=
 ∀ (s : Shared) (us : List Value), K.In s.heap -> (us ++ ds).length = ps.length -> BindsTo s fd ⟨us, []⟩ (ps.zip (us ++ ds))
theorem Binds.all {K : PySem.W.Frag} {fd : FuncData} {ps : List Str} (h : ∀ us : List Value, us.length = ps.length -> bindArgs fd ⟨us, []⟩ = pure (ps.zip us)) : Binds K fd ps [] := fun s us _ hl => by
 rw [List.append_nil] at hl ⊢
 exact .of_eq (h us hl)
def Passes (CX : CXT) (X : Cx) (E : XK) : Prop := ∀ (pins : List (Addr × Obj)) (σ : St) (H : Hp) (s : Shared) (e : Value) (s' : Shared), Inv X pins σ H s -> CX X.stack H s E e s' -> X.xe e s'
section
variable {X : Cx} {CX : CXT} {k : Nat} {f C : Addr} {fd : FuncData} {ps : List Str} {sp : Sp} {dvs : List V} {ds : List Value} {E : XK} {x m : Str} {p pos apos : Pos} {e o : Expr} {es : List Expr} {ta : TE} {t : TA}
theorem run_fn {pins : List (Addr × Obj)} {σ : St} {H : Hp} {s : Shared} {Q : VK} {us : List Value} {vs : List V} (F : FnOk X.prog X.w X.K X.mg X.base CX k f fd ps sp) (hr : Room k X.A) (hb : Binds X.K fd ps ds) (hd : Vals dvs ds) (hx : Passes CX X E)
  (I : Inv X pins σ H s) (r : Vals vs us) (h : sp (vs ++ dvs) H Q E) : wpAny (model X.prog X.w) X.A (call (.ref f) us) (EP X pins σ Q) X.xe s := by
 have r2 : Vals (vs ++ dvs) (us ++ ds) := r.append hd
 have hl : (us ++ ds).length = ps.length := by rw [<- r2.length]; exact F.len _ _ _ _ h
 refine wpAny_call (codeAny_mono (F.run X.A X.stack s H ⟨us, []⟩ (us ++ ds) (vs ++ dvs) Q E hr I.env0 (hb s us I.kIn hl) r2 h) fun r s' hq => ?_)
 cases r with
 | error e => exact hx pins σ H s e s' I hq
 | ok fl =>
   cases fl with
   | ret u => exact I.after hq
   | next => exact False.elim hq
   | brk => exact False.elim hq
   | cont => exact False.elim hq
theorem pe_call (F : FnOk X.prog X.w X.K X.mg X.base CX k f fd ps sp) (hr : Room k X.A) (hg : Gl X x) (hm : X.mg x = some (.ref f)) (hk : PySem.W.keepIn X.K (.ref f) = true) (hb : Binds X.K fd ps ds) (hd : Vals dvs ds) (hx : Passes CX X E)
  (ha : PA X (e :: es) t) (hdb : (x == ("__debug__" : Str)) = false := by decide) (he : starEach (e :: es) X.env = (false, eval e X.env) :: starEach es X.env := by rfl) (hpl : (backTo pos (starEach es X.env)).any (·.1) = false := by rfl) :
  PE X (.Call (.Name x p) (e :: es) [] pos) (tCall sp dvs E t) := by
 intro pins s σ H Q I h
 refine wpAny_Call_Name_kw (kK I hg hm ?_ hdb)
 refine PySem.W.callWith_K (h₀ := X.base) I.ok.mod.kin hk (thn (ha pos pins s σ H _ I h) fun us s1 ⟨vs, H1, I1, r, q⟩ => ⟨I1.kIn, ?_⟩) he hpl
 exact run_fn F hr hb hd hx I1 r q
structure Mk (K : PySem.W.Frag) (C f : Addr) : Prop where
 makes : PySem.W.makesIn K C = true
 init : PySem.W.findIn K (.ref C) "__init__" = some (some (.ref f))
 fn : PySem.W.isFn K (.ref f) = true
 kp : PySem.W.keepIn K (.ref C) = true
theorem run_make {pins : List (Addr × Obj)} {σ : St} {H : Hp} {s : Shared} {Q : VK} {us : List Value} {vs : List V} (M : Mk X.K C f) (F : FnOk X.prog X.w X.K X.mg X.base CX k f fd ps sp) (hr : Room (k + 1) X.A) (hb : Binds X.K fd ps ds) (hd : Vals dvs ds)
  (hx : Passes CX X E) (I : Inv X pins σ H s) (r : Vals vs us)
  (h : ∀ x dx, H x = none -> H dx = none -> dx ≠ x -> sp (.ref x :: (vs ++ dvs)) (upd (upd H dx (.own x)) x (.ins C dx [])) (fun v H2 => v = .non /\ Q (.ref x) H2) E) :
  wpAny (model X.prog X.w) X.A (call (.ref C) us) (EP X pins σ Q) X.xe s := by
 have hq := h (s.heap.objs.size + 1) s.heap.objs.size (I.hok.fresh (Nat.le_succ _)) (I.hok.fresh (Nat.le_refl _)) (Nat.ne_of_lt (Nat.lt_succ_self _))
 have I2 := Inv.made (C := C) I
 have r2 : Vals (V.ref (s.heap.objs.size + 1) :: (vs ++ dvs)) (Value.ref (s.heap.objs.size + 1) :: (us ++ ds)) := .cons rfl (r.append hd)
 have hl : (Value.ref (s.heap.objs.size + 1) :: us ++ ds).length = ps.length := by
  have e := r2.length
  rw [F.len _ _ _ _ hq] at e
  exact e.symm
 refine wpAny_call (make_map (f := f) I.kIn M.makes M.init (beq_iff_eq.mp M.fn) (codeAny_mono (F.run _ X.stack _ _ ⟨Value.ref (s.heap.objs.size + 1) :: us, []⟩ (Value.ref (s.heap.objs.size + 1) :: (us ++ ds)) _ _ E (hr.make C us [])
  (I2.env0.make C us []) (hb _ (Value.ref (s.heap.objs.size + 1) :: us) I2.kIn hl) r2 hq) fun r s' hq' => ?_))
 cases r with
 | error e => exact hx pins σ _ _ e s' I2 hq'
 | ok fl =>
   cases fl with
   | ret u =>
     obtain ⟨v, H', I3, rv, ev, q3⟩ := I2.after hq'
     subst ev
     exact ⟨rv, ⟨V.ref (s.heap.objs.size + 1), H', I3, rfl, q3⟩⟩
   | next => exact False.elim hq'
   | brk => exact False.elim hq'
   | cont => exact False.elim hq'
theorem pe_make (M : Mk X.K C f) (F : FnOk X.prog X.w X.K X.mg X.base CX k f fd ps sp) (hr : Room (k + 1) X.A) (hg : Gl X x) (hm : X.mg x = some (.ref C)) (hb : Binds X.K fd ps ds) (hd : Vals dvs ds) (hx : Passes CX X E)
  (ha : PA X (e :: es) t) (hdb : (x == ("__debug__" : Str)) = false := by decide) (he : starEach (e :: es) X.env = (false, eval e X.env) :: starEach es X.env := by rfl) (hpl : (backTo pos (starEach es X.env)).any (·.1) = false := by rfl) :
  PE X (.Call (.Name x p) (e :: es) [] pos) (tMake C sp dvs E t) := by
 intro pins s σ H Q I h
 refine wpAny_Call_Name_kw (kK I hg hm ?_ hdb)
 refine PySem.W.callWith_K (h₀ := X.base) I.ok.mod.kin M.kp (thn (ha pos pins s σ H _ I h) fun us s1 ⟨vs, H1, I1, r, q⟩ => ⟨I1.kIn, ?_⟩) he hpl
 exact run_make M F hr hb hd hx I1 r q
end
section
variable {X : Cx} {CX : CXT} {k : Nat} {f C : Addr} {fd : FuncData} {ps ks : List Str} {sp : Sp} {E : XK} {x m : Str} {p pos apos kpos : Pos} {e o : Expr} {es : List Expr} {kws : List Keyword} {te ta : TE} {t tk : TA} {nm : Option Str}
variable {g : List Value -> List Value -> List Value} {gV : List V -> List V -> List V}
end
structure FnScope (N P : List Str) (sc : Scope) : Prop where
 kind : sc.kind = .function
 co : sc.isCoroutine = false
 gen : sc.isGenerator = false
 nd : N.Nodup
 pre : N.take P.length = P
 par : ∀ x ∈ P, sc.names.lookup x = some .local \/ sc.names.lookup x = some .cell
 nofree : ∀ y ∈ sc.names, y.2 ≠ .free
theorem bindL_out {kindOf : Str -> Option NameKind} {x : Str} : ∀ {binds : List (Str × Value)} {m : Str -> Option Value}, (∀ v, (x, v) ∉ binds) -> bindL kindOf binds m x = m x
 | [], _, _ => rfl
 | (n, v) :: r, m, h => by
   unfold bindL
   rw [bindL_out fun w hw => h w (List.mem_cons_of_mem _ hw)]
   split
   · have : x ≠ n := by rintro rfl; exact h v List.mem_cons_self
     simp [this]
   · rfl
theorem bindC_out {kindOf : Str -> Option NameKind} {x : Str} : ∀ {binds : List (Str × Value)} {m : Str -> Option Value}, (∀ v, (x, v) ∉ binds) -> bindC kindOf binds m x = m x
 | [], _, _ => rfl
 | (n, v) :: r, m, h => by
   unfold bindC
   rw [bindC_out fun w hw => h w (List.mem_cons_of_mem _ hw)]
   split
   · rfl
   · have : x ≠ n := by rintro rfl; exact h v List.mem_cons_self
     simp [this]
theorem bindL_get {kindOf : Str -> Option NameKind} {x : Str} {v : Value} : ∀ {P : List Str} {vs : List Value} {i : Nat} {m : Str -> Option Value}, P.Nodup -> P[i]? = some x -> vs[i]? = some v -> kindOf x = some .local →
  bindL kindOf (P.zip vs) m x = some v
 | [], _, _, _, _, h, _, _ => by simp at h
 | _ :: _, [], _, _, _, _, h, _ => by simp at h
 | p :: P, w :: vs, 0, m, nd, h1, h2, hk => by
   simp at h1 h2; subst h1; subst h2
   show bindL kindOf ((p, w) :: P.zip vs) m p = _
   unfold bindL
   rw [bindL_out fun v hv => (List.nodup_cons.mp nd).1 (List.of_mem_zip hv).1, if_pos hk]
   simp
 | p :: P, w :: vs, i + 1, m, nd, h1, h2, hk => by
   show bindL kindOf ((p, w) :: P.zip vs) m x = _
   unfold bindL
   exact bindL_get (i := i) (List.nodup_cons.mp nd).2 (by simpa using h1) (by simpa using h2) hk
theorem bindC_get {kindOf : Str -> Option NameKind} {x : Str} {v : Value} : ∀ {P : List Str} {vs : List Value} {i : Nat} {m : Str -> Option Value}, P.Nodup -> P[i]? = some x -> vs[i]? = some v -> kindOf x ≠ some .local →
  bindC kindOf (P.zip vs) m x = some v
 | [], _, _, _, _, h, _, _ => by simp at h
 | _ :: _, [], _, _, _, _, h, _ => by simp at h
 | p :: P, w :: vs, 0, m, nd, h1, h2, hk => by
   simp at h1 h2; subst h1; subst h2
   show bindC kindOf ((p, w) :: P.zip vs) m p = _
   unfold bindC
   rw [bindC_out fun v hv => (List.nodup_cons.mp nd).1 (List.of_mem_zip hv).1, if_neg hk]
   simp
 | p :: P, w :: vs, i + 1, m, nd, h1, h2, hk => by
   show bindC kindOf ((p, w) :: P.zip vs) m x = _
   unfold bindC
   exact bindC_get (i := i) (List.nodup_cons.mp nd).2 (by simpa using h1) (by simpa using h2) hk
def start (N : List Str) (vs : List V) : St := vs.map some ++ List.replicate (N.length - vs.length) none
def cxOf (CX : CXT) (P : Program) (w : World) (K : PySem.W.Frag) (mg : Str -> Option Value) (base : Heap) (N : List Str) (qual : Str) (scope : Scope) (f : Addr) (cd : Value) (A : Around) (outer : List Env) (s : Shared) (H : Hp) (E : XK) : Cx where
 prog := P
 w := w
 K := K
 mg := mg
 base := base
 A := A.deeper (envOfC qual scope s.heap.objs.size f cd)
 N := N
 s₀ := s
 H₀ := H
 env := envOfC qual scope s.heap.objs.size f cd
 outer := outer
 stack := envOfC qual scope s.heap.objs.size f cd :: outer
 ex := []
 calm := true
 fn := fun _ => true
 pn := []
 xe := fun e s' => wpAny (model P w) (A.deeper (envOfC qual scope s.heap.objs.size f cd)) (leaving (envOfC qual scope s.heap.objs.size f cd) e) (fun _ s'' => CX outer H s E e s'') (fun e' s'' => CX outer H s E e' s'') s'
theorem cell_has {sc : Scope} {n : Nat} {x : Str} (h : sc.names.lookup x = some .cell) : ∃ c, (cellsFrom n sc.names []).lookup x = some c := by
 have q := PySem.W.cellsFrom_some sc.names n [] (.inl h)
 exact Option.isSome_iff_exists.mp q
theorem inv_start {CX : CXT} {P : Program} {w : World} {K : PySem.W.Frag} {mg : Str -> Option Value} {base : Heap} {N ps : List Str} {qual : Str} {scope : Scope} {f : Addr} {cd : Value} {A : Around} {outer : List Env} {s s1 : Shared} {H : Hp} {E : XK} {us : List Value} {vs : List V}
  (S : FnScope N ps scope) (hd : A.handled = none) (e0 : Env0 P w K mg base A outer s H) (hl : vs.length = ps.length) (r : Vals vs us)
  (x : InCallC s s.heap.objs.size (bindL (envOfC qual scope s.heap.objs.size f cd).kindOf (ps.zip us) fun _ => none) (cellsFrom (s.heap.objs.size + 1) scope.names []) (bindC (envOfC qual scope s.heap.objs.size f cd).kindOf (ps.zip us) fun _ => none) s1) :
  Inv (cxOf CX P w K mg base N qual scope f cd A outer s H E) [] (start N vs) H s1 := by
 have hpl : ps.length <= N.length := by have := congrArg List.length S.pre; rw [List.length_take] at this; omega
 obtain ⟨h1, tk, rfl, hk⟩ := x.done
 have noA : ∀ b : Addr, b ∉ (cxOf CX P w K mg base N qual scope f cd A outer s H E).ex := fun b z => absurd (show b ∈ ([] : List Addr) from z) (by simp)
 refine ⟨⟨e0.mod, S.kind, rfl, rfl, Nat.le_refl _, fun y z c h1 h2 => ?_, fun y hy => ?_, fun y c _ h => ?_, fun _ => hd, Around.frames_deeper e0.frames, .inr ⟨rfl, rfl⟩, fun b z => absurd z (noA b), e0.bs, e0.bsz, fun b _ _ => noA b, fun b z => absurd z (noA b), e0.funs, e0.frf⟩,
  rfl, e0.bare, Un.kept hk, ⟨_, x.toInCall.ns, fun i y v h1 h2 h3 => ?_⟩, fun y c h => ⟨_, x.cell y c h⟩, e0.hok.fresh (Nat.le_refl _), fun y c h => ?_, fun p hp => absurd (show p ∈ ([] : List (Addr × Obj)) from hp) (by simp), e0.hok.kept hk, ?_⟩
 · exact name_of_addr x.apart (PySem.mem_of_lookup h1) (PySem.mem_of_lookup h2)
 · have hy : scope.names.lookup y = some .cell \/ scope.names.lookup y = some .free := hy
   rcases hy with hy | hy
   · exact cell_has hy
   · exact absurd rfl (S.nofree _ (PySem.mem_of_lookup hy))
 · exact Nat.le_of_lt (x.above y c (PySem.mem_of_lookup h))
 · have hi : i < vs.length := by
    unfold start at h2
    by_cases hi : i < vs.length
    · exact hi
    · rw [List.getElem?_append_right (by simpa using hi)] at h2
      rw [List.getElem?_replicate] at h2
      split at h2 <;> cases h2
   have ha : vs[i]? = some v := by
    unfold start at h2
    rw [List.getElem?_append_left (by simpa using hi), List.getElem?_map] at h2
    cases e : vs[i]? with
    | none => rw [e] at h2; cases h2
    | some a => rw [e] at h2; cases h2; rfl
   obtain ⟨u, hu, rv⟩ := r.get ha
   have hp : ps[i]? = some y := by
    rw [<- S.pre, List.getElem?_take_of_lt (by omega)]; exact h1
   have ndP : ps.Nodup := by rw [<- S.pre]; exact S.nd.sublist (List.take_sublist _ _)
   refine ⟨u, rv, ?_⟩
   rcases S.par y (List.mem_of_getElem? hp) with k | k
   · exact .inl ⟨k, bindL_get ndP hp hu k⟩
   · obtain ⟨c, e⟩ := cell_has (n := s.heap.objs.size + 1) k
     refine .inr ⟨.inl k, c, e, ?_⟩
     have q := x.cell y c e
     rw [bindC_get ndP hp hu (by show scope.names.lookup y ≠ _; rw [k]; decide)] at q
     exact q
 · exact .inl (e0.hok.fresh (Nat.le_of_lt (x.above y c (PySem.mem_of_lookup h))))
 · unfold start
   show _ = N.length
   rw [List.length_append, List.length_map, List.length_replicate]
   omega
theorem fn_of {CX : CXT} {P : Program} {w : World} {K : PySem.W.Frag} {mg : Str -> Option Value} {base : Heap} {k : Nat} {f : Addr} {name qual : Str} {params : Arguments} {body : List Stmt} {scope : Scope} {dV kV doc pm cdv ct oc : Value} {an od : Option Addr}
  {osl : Array (Option Value)} {N ps : List Str} {sp : Sp} (lk : K.lookup f = some ⟨oc, od, .func (PySem.W.fnOf name qual params body scope dV kV doc pm an cdv ct), osl⟩) (hcd : PySem.W.codeIn K cdv qual = true) (S : FnScope N ps scope)
  (len : ∀ vs H Q E, sp vs H Q E -> vs.length = ps.length)
  (hbody : ∀ (A : Around) (outer : List Env) (s : Shared) (H : Hp) (vs : List V) (Q : VK) (E : XK), Room k (A.deeper (envOfC qual scope s.heap.objs.size f cdv)) -> sp vs H Q E →
    ∃ t, PSs (cxOf CX P w K mg base N qual scope f cdv A outer s H E) body t /\ t { nx := fun _ H' => Q .non H', rt := Q } (start N vs) H) :
  FnOk P w K mg base CX (k + 1) f (PySem.W.fnOf name qual params body scope dV kV doc pm an cdv ct) ps sp := by
 refine ⟨len, fun A outer s H args us vs Q E hr e0 hb r hsp => ?_⟩
 have hl := len _ _ _ _ hsp
 have KX : K.In s.heap := e0.mod.kin.keeps fun b o e => (e0.bs b o e).1
 have lim : s.heap.NoLimit := e0.mod.nolimit.keeps fun b o e => (e0.bs b o e).1
 have hkind : ∀ y ∈ ps.zip us, scope.names.lookup y.1 = some .local \/ (scope.names.lookup y.1 = some .cell /\ ((cellsFrom (s.heap.objs.size + 1) scope.names []).lookup y.1).isSome = true) := fun ⟨n, v⟩ hy => by
  rcases S.par n (List.of_mem_zip hy).1 with q | q
  · exact .inl q
  · exact .inr ⟨q, PySem.W.cellsFrom_some _ _ _ (.inl q)⟩
 refine codeAny_call_function hr.depth (KX _ _ lk) rfl S.co S.gen rfl (PySem.W.codeRec_of KX hcd) (hb _ _ _ _ ?_)
 refine wpAny_newFunctionEnv_cells S.kind hkind fun env he s1 x => ?_
 subst he
 refine ⟨lim.keeps x.toInCall.keep, codeAny_func ?_⟩
 obtain ⟨t, ht, hq⟩ := hbody A outer s H vs Q E (hr.deeper _) hsp
 have I : Inv (cxOf CX P w K mg base N qual scope f cdv A outer s H E) [] (start N vs) H s1 := inv_start S hr.hd e0 hl r x
 refine wpAny_mono (ht [] s1 (start N vs) H _ I hq) (fun fl s' hs => ?_) fun e s' hs => hs
 have fin : ∀ {σ' : St} {H' : Hp} {v : V} {u : Value}, Inv (cxOf CX P w K mg base N qual scope f cdv A outer s H E) [] σ' H' s' -> RelV v u -> Q v H' -> CE outer P w H s Q u s' :=
  fun {σ' H' v u} J rv q => ⟨v, H', J.os, J.bare, J.base, J.hok, rv, q⟩
 cases fl with
 | ret u =>
   obtain ⟨v, σ', H', J, rv, q⟩ := hs
   exact fin J rv q
 | next =>
   obtain ⟨σ', H', J, q⟩ := hs
   exact fin (v := V.non) (u := Value.none) J rfl q
 | brk =>
   obtain ⟨_, _, _, q⟩ := hs
   exact False.elim q
 | cont =>
   obtain ⟨_, _, _, q⟩ := hs
   exact False.elim q
end L2
namespace L2
open PySem PySem.Spec PyProof.Rows
section
variable {X : Cx} {x : Str} {p pos : Pos} {e : Expr} {es : List Expr} {t : TA} {id T : String} {r : List V -> Hp -> VK -> Prop}
def tCB (r : List V -> Hp -> VK -> Prop) (t : TA) : TE := fun σ H Q => t σ H fun vs H1 => r vs H1 Q
theorem pe_callB (hc : CallR X (.builtin id) r) (hg : Gl X x) (hm : X.mg x = none) (hv : bootBuiltins x = some (.builtin id)) (ha : PA X (e :: es) t) (hn : x ≠ "__name__" := by decide) (hdb : (x == ("__debug__" : Str)) = false := by decide)
  (he : starEach (e :: es) X.env = (false, eval e X.env) :: starEach es X.env := by rfl) (hpl : (backTo pos (starEach es X.env)).any (·.1) = false := by rfl) : PE X (.Call (.Name x p) (e :: es) [] pos) (tCB r t) := by
 intro pins s σ H Q I h
 refine wpAny_Call_Name_kw (vR I hg hm hv ?_ hn hdb)
 exact PyProof.Rows.callWith_builtin1 (thn (ha pos pins s σ H _ I h) fun us s1 ⟨vs, H1, I1, r1, q1⟩ => hc pins s1 σ H1 vs us Q I1 r1 q1) he hpl
theorem vL (hc : CallR X (.type T) r) (hg : Gl X x) (hm : X.mg x = none) (hv : bootBuiltins x = some (.type T)) (ha : PA X (e :: es) t) (hn : x ≠ "__name__" := by decide) (hdb : (x == ("__debug__" : Str)) = false := by decide)
  (he : starEach (e :: es) X.env = (false, eval e X.env) :: starEach es X.env := by rfl) (hpl : (backTo pos (starEach es X.env)).any (·.1) = false := by rfl) : PE X (.Call (.Name x p) (e :: es) [] pos) (tCB r t) := by
 intro pins s σ H Q I h
 refine wpAny_Call_Name_kw (vR I hg hm hv ?_ hn hdb)
 exact PyProof.Rows.callWith_type1 (thn (ha pos pins s σ H _ I h) fun us s1 ⟨vs, H1, I1, r1, q1⟩ => hc pins s1 σ H1 vs us Q I1 r1 q1) he hpl
end
end L2
namespace HT
open PySem PyProof.Rows
section
open PySem.SeqAt
open PySem.AutoSeq1 (wpAny_loadPart')
open PySem.MeetsSeq PySem.MeetsSeq2 PySem.MeetsSeq3
end
section
variable {prog : Program} {w : World} {A : Around} {E : Value -> Shared -> Prop} {s : Shared}
end
end HT
namespace L2
open PySem PySem.Spec PyProof.Rows
abbrev TO := St -> Hp -> (Option Int -> Hp -> Prop) -> Prop
def PO (X : Cx) (e : Option Expr) (t : TO) : Prop :=
 ∀ (pins : List (Addr × Obj)) (s : Shared) (σ : St) (H : Hp) (Q : Option Int -> Hp -> Prop), Inv X pins σ H s -> t σ H Q →
  wpAny (model X.prog X.w) X.A (evalPart e X.env) (fun u s' => ∃ o H', Inv X pins σ H' s' /\ IsPart u o /\ Q o H') X.xe s
def tNoPart : TO := fun _ H Q => Q none H
def tPart (t : TE) : TO := fun σ H Q => t σ H fun x H1 => ∃ i, x = .int i /\ Q (some i) H1
section
variable {X : Cx} {e : Expr} {te : TE} {lo hi : Option Expr} {tl th : TO} {pos p2 : Pos}
theorem po_none : PO X none tNoPart := by
 intro pins s σ H Q I h
 rw [evalPart_none]
 exact wpAny_pure ⟨none, H, I, .none, h⟩
theorem po_some (h : PE X e te) : PO X (some e) (tPart te) := by
 intro pins s σ H Q I hw
 rw [evalPart_some]
 refine thn (h pins s σ H _ I hw) fun u s1 ⟨x, H1, I1, r1, q1⟩ => ?_
 obtain ⟨i, rfl, q⟩ := q1
 obtain ⟨t, rfl⟩ := r1
 exact ⟨some i, H1, I1, .int i t, q⟩
def SlR (X : Cx) (r : V -> Option Int -> Option Int -> Hp -> VK -> Prop) : Prop :=
 ∀ (pins : List (Addr × Obj)) (s : Shared) (σ : St) (H : Hp) (x : V) (v vl vu : Value) (lo hi : Option Int) (sl : Addr) (Q : VK), Inv X pins σ H s -> RelV x v -> s.heap.IsSliceOf sl vl vu .none -> IsPart vl lo -> IsPart vu hi -> r x lo hi H Q →
  ∃ T id, typeLookup (.type T) "__getitem__" = pure (some (.builtin id)) /\ s.TypeIs v T /\ wpAny (model X.prog X.w) X.A (getItem v (.ref sl)) (EP X pins σ Q) X.xe s
def tSl (r : V -> Option Int -> Option Int -> Hp -> VK -> Prop) (te : TE) (tl th : TO) : TE := fun σ H Q => te σ H fun x H1 => tl σ H1 fun l H2 => th σ H2 fun u H3 => r x l u H3 Q
theorem pe_slice {r : V -> Option Int -> Option Int -> Hp -> VK -> Prop} (hr : SlR X r) (he : PE X e te) (hl : PO X lo tl) (hu : PO X hi th) : PE X (.Subscript e (.Slice lo hi none p2) pos) (tSl r te tl th) := by
 intro pins s σ H Q I h
 refine Subscript_ (thn (he pins s σ H _ I h) fun v s1 ⟨x, H1, I1, r1, q1⟩ => ?_)
 refine wpAny_Slice (thn (hl pins s1 σ H1 _ I1 q1) fun vl s2 ⟨l, H2, I2, pl, q2⟩ => thn (hu pins s2 σ H2 _ I2 q2) fun vu s3 ⟨u, H3, I3, pu, q3⟩ => ?_)
 rw [evalPart_none]
 refine wpAny_pure ?_
 have I4 : Inv X pins σ H3 { s3 with heap := s3.heap.push { cls := .type "slice", data := .fields #[vl, vu, .none] } } := I3.kept (t' := s3.toks) fun b ob q => Heap.get?_push_of_some _ q
 obtain ⟨T, id, hT, ht, hg⟩ := hr pins { s3 with heap := s3.heap.push { cls := .type "slice", data := .fields #[vl, vu, .none] } } σ H3 x v vl vu l u s3.heap.objs.size Q I4 r1 (Heap.IsSliceOf.new ..) pl pu q3
 show wpAny (model X.prog X.w) X.A (subscriptTail e (.Slice lo hi none p2) v (.ref s3.heap.objs.size)) (EP X pins σ Q) X.xe { s3 with heap := s3.heap.push { cls := .type "slice", data := .fields #[vl, vu, .none] } }
 exact tail_any (ops := [.ref s3.heap.objs.size, v]) ht hT hg (by with_unfolding_all rfl)
def cutV (xs : List V) (lo hi : Option Int) : List V := (xs.drop (HT.sIx xs.length 0 lo)).take (HT.sIx xs.length xs.length hi - HT.sIx xs.length 0 lo)
theorem cutV_length (xs : List V) (lo hi : Option Int) : (cutV xs lo hi).length <= xs.length := by
 unfold cutV
 rw [List.length_take, List.length_drop]
 omega
end
end L2
namespace L2
open PySem PySem.Spec PyProof.Rows
theorem ixN_seq {n : Nat} {i : Int} {j : Nat} (h : ixN n i = some j) : seqIndex? i n = some j /\ j < n /\ -(n : Int) <= i /\ i < n := by
 unfold ixN at h
 by_cases h0 : 0 <= i
 · rw [if_pos h0] at h
   by_cases h1 : i < n
   · rw [if_pos h1] at h
     have e : i.toNat = j := Option.some.inj h
     exact ⟨by rw [seqIndex_of h0 h1, e], by omega, by omega, h1⟩
   · rw [if_neg h1] at h; cases h
 · rw [if_neg h0] at h
   by_cases h1 : -(n : Int) <= i
   · rw [if_pos h1] at h
     have e : (i + n).toNat = j := Option.some.inj h
     exact ⟨by rw [seqIndex_neg (by omega) h1, e], by omega, h1, by omega⟩
   · rw [if_neg h1] at h; cases h
theorem atI_get {α : Type} {xs : List α} {i : Int} {v : α} (h : atI xs i = some v) : ∃ j, seqIndex? i xs.length = some j /\ xs[j]? = some v /\ j < xs.length /\ -(xs.length : Int) <= i /\ i < xs.length := by
 unfold atI at h
 cases e : ixN xs.length i with
 | none => rw [e] at h; cases h
 | some j =>
   rw [e] at h
   obtain ⟨h1, h2, h3, h4⟩ := ixN_seq e
   exact ⟨j, h1, h, h2, h3, h4⟩
def PlainIx (b : Expr) : Prop := ∀ o i, subscripted b false o i = operate [o, i] (getItem o i)
def IxR (X : Cx) (r : R2) : Prop :=
 ∀ (value slice : Expr) (pins : List (Addr × Obj)) (s : Shared) (σ : St) (H : Hp) (x y : V) (v u : Value) (Q : VK), Inv X pins σ H s -> RelV x v -> RelV y u -> r x y H Q →
  subscripted slice false v u = operate [v, u] (getItem v u) -> wpAny (model X.prog X.w) X.A (subscriptTail value slice v u) (EP X pins σ Q) X.xe s
def MtR (X : Cx) (id : String) (r : V -> List V -> Hp -> VK -> Prop) : Prop :=
 ∀ (pins : List (Addr × Obj)) (s : Shared) (σ : St) (H : Hp) (x : V) (xs : List V) (v : Value) (us : List Value) (Q : VK), Inv X pins σ H s -> RelV x v -> Vals xs us -> r x xs H Q →
  wpAny (model X.prog X.w) X.A (call (.builtin id) (v :: us)) (EP X pins σ Q) X.xe s
section
variable {X : Cx} {a b : Expr} {ta tb : TE} {pos : Pos}
theorem IxR.or {r r' : R2} (h : IxR X r) (h' : IxR X r') : IxR X (fun x y H Q => r x y H Q \/ r' x y H Q) := by
 intro value slice pins s σ H x y v u Q I rx ry q hs
 rcases q with q | q
 · exact h value slice pins s σ H x y v u Q I rx ry q hs
 · exact h' value slice pins s σ H x y v u Q I rx ry q hs
theorem pe_ix {r : R2} (hr : IxR X r) (ha : PE X a ta) (hb : PE X b tb) (hs : PlainIx b) : PE X (.Subscript a b pos) (tOp r ta tb) := by
 intro pins s σ H Q I h
 exact Subscript_ (binT ha hb I h fun v u s2 x y H2 I2 rx ry q => hr a b pins s2 σ H2 x y v u Q I2 rx ry q (hs _ _))
def rIxL (K : PySem.W.Frag) : R2 := fun x y H Q => ∃ p xs i v, x = .ref p /\ y = .int i /\ SqL K H p xs /\ atI xs i = some v /\ Q v H
def rIxT (K : PySem.W.Frag) : R2 := fun x y H Q => ∃ p xs i v, x = .ref p /\ y = .int i /\ SqT K H p xs /\ atI xs i = some v /\ Q v H
def rIxS : R2 := fun x y H Q => ∃ z i c, x = .str z /\ y = .int i /\ z.length <= sizeLine /\ atI z.cps.toList i = some c /\ Q (.str ⟨#[c]⟩) H
theorem ix_list : IxR X (rIxL X.K) := by
 intro value slice pins s σ H x y v u Q I rx ry h hs
 obtain ⟨p, xs, i, z, rfl, rfl, hq, he, q⟩ := h
 cases rx
 obtain ⟨t, rfl⟩ := ry
 obtain ⟨its, r, pl, hz⟩ := I.list hq
 obtain ⟨j, h1, h2, h3, h4, h5⟩ := atI_get he
 obtain ⟨w, ew, rw'⟩ := r.get h2
 have hl := r.length
 have hn := line63
 have fin : EP X pins σ Q w s := ⟨z, H, I, rw', q⟩
 by_cases h0 : 0 <= i
 · have hj : i.toNat = j := by
    rw [seqIndex_of h0 h5] at h1
    exact Option.some.inj h1
   exact item_listR pl.isList h0 (by omega) (by rw [hj]; simpa using ew) fin hs
 · have hj : (i + (its.toArray.size : Int)).toNat = j := by
    rw [seqIndex_neg (by omega) h4] at h1
    rw [List.size_toArray, <- hl]
    exact Option.some.inj h1
   exact subscriptTail_builtinR (x := w) pl.isList.typeIs slot_list_getitem.lookup
    (wpAny_getItem_list_neg (Q := fun r s' => r = w /\ EP X pins σ Q r s') pl.isList (by omega) (by rw [List.size_toArray] <;> omega) (by omega) (by rw [hj]; simpa using ew) ⟨rfl, fin⟩) hs
theorem ix_tup : IxR X (rIxT X.K) := by
 intro value slice pins s σ H x y v u Q I rx ry h hs
 obtain ⟨p, xs, i, z, rfl, rfl, hq, he, q⟩ := h
 cases rx
 obtain ⟨t, rfl⟩ := ry
 obtain ⟨its, r, pl, hz⟩ := I.tuple hq
 obtain ⟨j, h1, h2, h3, h4, h5⟩ := atI_get he
 obtain ⟨w, ew, rw'⟩ := r.get h2
 have hl := r.length
 have hn := line63
 have fin : EP X pins σ Q w s := ⟨z, H, I, rw', q⟩
 exact subscriptTail_builtinR (x := w) pl.typeIs slot_tuple_getitem.lookup
  (getItem_tuple (j := j) (Q := fun r s' => r = w /\ EP X pins σ Q r s') pl (by omega) (by omega) (by rw [List.size_toArray, <- hl]; exact h1) (by simpa using ew) ⟨rfl, fin⟩) hs
theorem ix_str : IxR X rIxS := by
 intro value slice pins s σ H x y v u Q I rx ry h hs
 obtain ⟨z, i, c, rfl, rfl, hz, he, q⟩ := h
 obtain ⟨t, rfl⟩ := rx
 obtain ⟨t', rfl⟩ := ry
 obtain ⟨j, h1, h2, h3, h4, h5⟩ := atI_get he
 have hl : z.cps.toList.length = z.length := by simp [Str.length]
 rw [hl] at h1 h4 h5
 have hn := line63
 exact tail_any (typeIs_str s z t) slot_str_getitem.lookup (getItem_str (c := c) (by
  have e1 : decide (i < -(2 ^ 63 : Int)) = false := decide_eq_false (by omega)
  have e2 : decide (i ≥ 2 ^ 63) = false := decide_eq_false (by omega)
  rw [e1, e2, Bool.or_false]) (by rw [h1]; simpa using h2) ⟨.str ⟨#[c]⟩, H, I.tok _, ⟨_, rfl⟩, q⟩) hs
def rIx (K : PySem.W.Frag) : R2 := fun x y H Q => rIxL K x y H Q \/ rIxT K x y H Q \/ rIxS x y H Q
theorem ix_seq : IxR X (rIx X.K) := ix_list.or (ix_tup.or ix_str)
theorem mapSeq_set (its : List Value) (n j : Nat) (u : Value) : Obj.mapSeq (·.setIfInBounds j u) { cls := .type "list", data := .seq its.toArray n } = { cls := .type "list", data := .seq (its.set j u).toArray n } := by
 simp [Obj.mapSeq]
theorem Inv.lst {pins : List (Addr × Obj)} {σ : St} {H : Hp} {s : Shared} {p : Addr} {xs : List V} (I : Inv X pins σ H s) (h : H p = some (.lst xs)) :
  ∃ (its : List Value) (n : Nat), Vals xs its /\ s.heap.get? p = some { cls := .type "list", data := .seq its.toArray n } /\ xs.length <= sizeLine := by
 obtain ⟨z, its, n, r, e⟩ := I.hok p _ h
 exact ⟨its, n, r, e, z⟩
theorem Inv.lstUpd {pins : List (Addr × Obj)} {σ : St} {H : Hp} {s : Shared} {p : Addr} {xs ys : List V} {its its' : List Value} {n n' : Nat} {f : Obj -> Obj} (I : Inv X pins σ H s) (h : H p = some (.lst xs))
  (ho : s.heap.get? p = some { cls := .type "list", data := .seq its.toArray n }) (hf : f { cls := .type "list", data := .seq its.toArray n } = { cls := .type "list", data := .seq its'.toArray n' }) (r : Vals ys its') (hz : ys.length <= sizeLine) (t : Nat) :
  Inv X pins σ (upd H p (.lst ys)) { s with heap := s.heap.update p f, toks := t } := by
 have e : (s.heap.update p f).get? p = some { cls := .type "list", data := .seq its'.toArray n' } := by
  rw [Heap.get?_update_self f ho (by rw [hf] <;> rfl), hf]
 refine I.write (x := p) (e := p) (by rw [h]; trivial) (.inl rfl) (fun b u hb q => (Heap.get?_update_other _ _ (Ne.symm hb)).trans q) ⟨_, e⟩ ?_
 exact ⟨hz, its', n', r, e⟩
def rSetL : V -> V -> V -> Hp -> (Hp -> Prop) -> Prop := fun o i v H Q => ∃ p xs k j, o = .ref p /\ i = .int k /\ H p = some (.lst xs) /\ ixN xs.length k = some j /\ Q (upd H p (.lst (xs.set j v)))
theorem set_list : PSet X rSetL := by
 intro pins s σ H o i v ov iv u Q I ro ri rv h
 obtain ⟨p, xs, k, j, rfl, rfl, hp, hj, q⟩ := h
 cases ro
 obtain ⟨t, rfl⟩ := ri
 obtain ⟨its, n, r, ho, hz⟩ := I.lst hp
 obtain ⟨h1, h2, h3, h4⟩ := ixN_seq hj
 have hl := r.length
 have hn := line63
 have I' : Inv X pins σ (upd H p (.lst (xs.set j v))) { s with heap := s.heap.update p (Obj.mapSeq (·.setIfInBounds j u)) } :=
  I.lstUpd hp ho (mapSeq_set its n j u) (r.set rv j) (by rw [List.length_set]; exact hz) s.toks
 by_cases h0 : 0 <= k
 · have hk : k.toNat = j := by
    rw [seqIndex_of h0 h4] at h1
    exact Option.some.inj h1
   exact PySem.W.ki_setAt ho h0 (by omega) (by rw [List.size_toArray, <- hl]; exact h4) (by rw [hk]; exact ⟨_, I', q⟩)
 · have hk : (k + (its.toArray.size : Int)).toNat = j := by
    rw [seqIndex_neg (by omega) h3] at h1
    rw [List.size_toArray, <- hl]
    exact Option.some.inj h1
   exact PySem.W.ki_setBack ho (by omega) (by rw [List.size_toArray, <- hl]; exact h3) (by omega) (by rw [hk]; exact ⟨_, I', q⟩)
theorem slice_bounds (lo hi : Option Int) (n : Nat) : (sliceBounds lo hi none n).1 = ((HT.sIx n 0 lo : Nat) : Int) /\ (sliceBounds lo hi none n).2.1 = ((HT.sIx n n hi : Nat) : Int) /\ (sliceBounds lo hi none n).2.2 = 1 := by
 refine ⟨?_, ?_, rfl⟩
 · cases lo with
   | none => simp [sliceBounds, HT.sIx]
   | some i =>
     simp only [sliceBounds, HT.sIx, Option.getD_none, show (1 : Int) > 0 by decide, if_true]
     by_cases h : i < 0
     · simp only [h, if_true] <;> omega
     · simp only [h, if_false] <;> omega
 · cases hi with
   | none => simp [sliceBounds, HT.sIx]
   | some i =>
     simp only [sliceBounds, HT.sIx, Option.getD_none, show (1 : Int) > 0 by decide, if_true]
     by_cases h : i < 0
     · simp only [h, if_true] <;> omega
     · simp only [h, if_false] <;> omega
theorem slicePick_cut (its : List Value) (lo hi : Option Int) : slicePick its.toArray lo hi none = ((its.drop (HT.sIx its.length 0 lo)).take (HT.sIx its.length its.length hi - HT.sIx its.length 0 lo)).toArray := by
 obtain ⟨h1, h2, h3⟩ := slice_bounds lo hi its.toArray.size
 unfold slicePick
 rw [h1, h2, h3]
 simp only [sliceRange_one, pick_run, List.size_toArray] <;> rfl
def rSlL (K : PySem.W.Frag) : V -> Option Int -> Option Int -> Hp -> VK -> Prop := fun x lo hi H Q => ∃ a xs, x = .ref a /\ SqL K H a xs /\ ∀ p, H p = none -> Q (.ref p) (upd H p (.lst (cutV xs lo hi)))
theorem sl_list : SlR X (rSlL X.K) := by
 intro pins s σ H x v vl vu lo hi sl Q I rx hs pl pu h
 obtain ⟨a, xs, rfl, hx, q⟩ := h
 cases rx
 obtain ⟨its, r, ht, hz⟩ := I.list hx
 have hlen := r.length
 refine ⟨"list", _, slot_list_getitem.lookup, ht.isList.typeIs, ?_⟩
 refine wpAny_getItem_list_slice ht.isList hs pl pu .none (by simp) ?_ (by rw [List.size_toArray] <;> omega)
 rw [slicePick_cut, <- hlen]
 refine ⟨.ref s.heap.objs.size, _, I.laid (t' := s.toks) (o := .lst (cutV xs lo hi)) (fun b ob q => Heap.get?_push_of_some _ q) (Nat.le_refl _) ?_, rfl, q _ (I.hok.fresh (Nat.le_refl _))⟩
 exact ⟨Nat.le_trans (cutV_length xs lo hi) hz, _, 0, (r.drop (HT.sIx xs.length 0 lo)).take (HT.sIx xs.length xs.length hi - HT.sIx xs.length 0 lo), Heap.get?_push_size _ rfl⟩
theorem call_len_seq : CallR X (.builtin "len") (fun xs H Q => ∃ p ys, xs = [.ref p] /\ (SqL X.K H p ys \/ SqT X.K H p ys) /\ Q (.int ys.length) H) := by
 intro pins s σ H xs us Q I r h
 obtain ⟨p, ys, rfl, hq, q⟩ := h
 obtain ⟨u, rfl, rx⟩ := vals1 r
 cases rx
 have hn := line63
 rcases hq with hq | hq
 · obtain ⟨its, r', pl, hz⟩ := I.list hq
   have hlen := r'.length
   exact Calls.call_len_list pl.isList (by simp only [List.size_toArray] <;> omega) ⟨.int ys.length, H, I.tok _, ⟨s.toks + 1, by rw [List.size_toArray, hlen]⟩, q⟩
 · obtain ⟨its, r', pl, hz⟩ := I.tuple hq
   have hlen := r'.length
   exact len_tuple pl (by simp only [List.size_toArray] <;> omega) ⟨.int ys.length, H, I.tok _, ⟨s.toks + 1, by rw [List.size_toArray, hlen]⟩, q⟩
theorem call_len_str : CallR X (.builtin "len") (fun xs H Q => ∃ z, xs = [.str z] /\ z.length <= sizeLine /\ Q (.int z.length) H) := by
 intro pins s σ H xs us Q I r h
 obtain ⟨z, rfl, hz, q⟩ := h
 obtain ⟨u, rfl, t, rfl⟩ := vals1 r
 have hn := line63
 exact len_str (by omega) ⟨.int z.length, H, I.tok _, ⟨_, rfl⟩, q⟩
theorem CallR.or {f : Value} {r r' : List V -> Hp -> VK -> Prop} (h : CallR X f r) (h' : CallR X f r') : CallR X f (fun xs H Q => r xs H Q \/ r' xs H Q) := by
 intro pins s σ H xs us Q I rs q
 rcases q with q | q
 · exact h pins s σ H xs us Q I rs q
 · exact h' pins s σ H xs us Q I rs q
theorem call_list_of : CallR X (.type "list") (fun xs H Q => ∃ p ys, xs = [.ref p] /\ (SqL X.K H p ys \/ SqT X.K H p ys) /\ ∀ l, H l = none -> Q (.ref l) (upd H l (.lst ys))) := by
 intro pins s σ H xs us Q I r h
 obtain ⟨p, ys, rfl, hq, q⟩ := h
 obtain ⟨u, rfl, rx⟩ := vals1 r
 cases rx
 have fin : ∀ (its : List Value), Vals ys its -> ys.length <= sizeLine -> ∀ (h' : Heap) (c' : Nat), (∀ b o', s.heap.get? b = some o' -> h'.get? b = some o') →
   h'.get? s.heap.objs.size = some { cls := .type "list", dict := none, data := .seq its.toArray c', slots := #[] } -> EP X pins σ Q (.ref s.heap.objs.size) { s with heap := h' } := fun its r' hz h' c' kp e =>
  ⟨.ref s.heap.objs.size, _, I.laid (t' := s.toks) kp (Nat.le_refl _) (show ObjOk X.prog X.w _ h' _ (.lst ys) from ⟨hz, its, c', r', e⟩), rfl, q _ (I.hok.fresh (Nat.le_refl _))⟩
 rcases hq with hq | hq
 · obtain ⟨its, r', pl, hz⟩ := I.list hq
   have hlen := r'.length
   obtain ⟨o, ho, hc, n, hd⟩ := pl.isList
   exact call_list_seq p (.inl rfl) ho hc hd (fun h' c' kp e => fin its r' hz h' c' kp e) (by simp only [List.size_toArray] <;> omega)
 · obtain ⟨its, r', pl, hz⟩ := I.tuple hq
   have hlen := r'.length
   obtain ⟨o, ho, hc, n, hd⟩ := pl
   exact call_list_seq p (.inr rfl) ho hc hd (fun h' c' kp e => fin its r' hz h' c' kp e) (by simp only [List.size_toArray] <;> omega)
def tyV (K : PySem.W.Frag) (T : String) (x : V) (H : Hp) : Prop := match x with
 | .str _ => T = "str"
 | .int _ => T = "int"
 | .ref p => (T = "list" /\ ∃ xs, SqL K H p xs) \/ (T = "tuple" /\ ∃ o, K.lookup p = some o /\ o.cls = .type "tuple" /\ o.dict = none) ∨
    (T = "dict" /\ ((∃ kvs, H p = some (.dK kvs)) \/ ∃ kvs, H p = some (.dT kvs))) \/ (T = "set" /\ ∃ S n, H p = some (.set S n))
 | _ => False
theorem tyV_is {pins : List (Addr × Obj)} {σ : St} {H : Hp} {s : Shared} {T : String} {x : V} {v : Value} (I : Inv X pins σ H s) (r : RelV x v) (ty : tyV X.K T x H) :
  s.TypeIs v T /\ ∀ a, v = .ref a -> ∃ ob, s.heap.get? a = some ob /\ ob.dict = none := by
 cases x with
 | str z =>
   obtain ⟨t, rfl⟩ := r
   cases (show T = "str" from ty)
   exact ⟨typeIs_str s z t, fun _ e => nomatch e⟩
 | int i =>
   obtain ⟨t, rfl⟩ := r
   cases (show T = "int" from ty)
   exact ⟨typeIs_int s i t, fun _ e => nomatch e⟩
 | ref p =>
   cases r
   rcases ty with ⟨rfl, xs, hq⟩ | ⟨rfl, o, hk, hc, hd⟩ | ⟨rfl, hk⟩ | ⟨rfl, S, n, hk⟩
   · obtain ⟨its, _, pl, _⟩ := I.list hq
     refine ⟨pl.isList.typeIs, fun a e => ?_⟩
     cases e
     obtain ⟨o, n, e, c, hd, _⟩ := pl
     exact ⟨o, e, hd⟩
   · refine ⟨⟨o, I.kIn p o hk, hc⟩, fun a e => ?_⟩
     cases e
     exact ⟨o, I.kIn _ o hk, hd⟩
   · have z : ∃ o, s.heap.get? p = some o /\ o.ExactDict := by
      rcases hk with ⟨kvs, hk⟩ | ⟨kvs, hk⟩
      · obtain ⟨_, _, _, _, o, _, _, e, ex, _⟩ := I.hok p _ hk
        exact ⟨o, e, ex⟩
      · obtain ⟨_, _, _, _, o, _, _, e, ex, _⟩ := I.hok p _ hk
        exact ⟨o, e, ex⟩
     obtain ⟨o, e, ex⟩ := z
     refine ⟨⟨o, e, ex.1⟩, fun a e2 => ?_⟩
     cases e2
     exact ⟨o, e, ex.2.1⟩
   · obtain ⟨o, _, _, _, e, ex, _⟩ := I.hok p _ hk
     refine ⟨⟨o, e, ex.1⟩, fun a e2 => ?_⟩
     cases e2
     exact ⟨o, e, ex.2.1⟩
 | _ => exact False.elim ty
def tBM0 (K : PySem.W.Frag) (T : String) (r : V -> List V -> Hp -> VK -> Prop) (to : TE) : TE := fun σ H Q => to σ H fun x H1 => tyV K T x H1 /\ r x [] H1 Q
def tBM (K : PySem.W.Frag) (T : String) (r : V -> List V -> Hp -> VK -> Prop) (to : TE) (t : TA) : TE := fun σ H Q => to σ H fun x H1 => tyV K T x H1 /\ t σ H1 fun xs H2 => r x xs H2 Q
variable {o e : Expr} {es : List Expr} {to : TE} {t : TA} {name : Str} {apos cpos : Pos} {T id : String} {r : V -> List V -> Hp -> VK -> Prop}
theorem pe_bm0 (pa : PlainAttrs T) (slot : Slot T name id) (hty : typeOf (.builtin id) = pure (.type "method_descriptor")) (hm : MtR X id r) (ho : PE X o to)
  (hbase : attributeBase o name X.env (eval o X.env) = eval o X.env := by rfl) (hline : (apos.endLine == cpos.line) = true := by rfl) : PE X (.Call (.Attribute o name apos) [] [] cpos) (tBM0 X.K T r to) := by
 intro pins s σ H Q I h
 refine wpAny_Call_method0_late hbase hline (thn (ho pins s σ H _ I h) fun v s1 ⟨x, H1, I1, r1, ty, q1⟩ => ?_)
 obtain ⟨h1, h2⟩ := tyV_is I1 r1 ty
 exact ⟨T, id, pa, slot, hty, h1, h2, Calls.callWith_builtin rfl (PySem.evalArgs_none (hm pins s1 σ H1 x [] v [] Q I1 r1 .nil q1))⟩
theorem pe_bm (pa : PlainAttrs T) (slot : Slot T name id) (hty : typeOf (.builtin id) = pure (.type "method_descriptor")) (hm : MtR X id r) (ho : PE X o to) (ha : PA X (e :: es) t)
  (hbase : attributeBase o name X.env (eval o X.env) = eval o X.env := by rfl)
  (hfew : ((backTo cpos (starEach (e :: es) X.env)).all (fun x => !x.1) && (backToKw cpos (keywordEach [] X.env)).all (fun x => x.1.isSome)
    && decide ((e :: es).length + ([] : List Keyword).length + (if ([] : List Keyword).isEmpty then 0 else 1) < 30)) = true := by rfl)
  (hline : (apos.endLine == cpos.line) = true := by rfl) (hs : starEach (e :: es) X.env = (false, eval e X.env) :: starEach es X.env := by rfl) (hplain : (backTo cpos (starEach es X.env)).any (·.1) = false := by rfl) :
  PE X (.Call (.Attribute o name apos) (e :: es) [] cpos) (tBM X.K T r to t) := by
 intro pins s σ H Q I h
 refine wpAny_Call_method_late hbase hfew hline rfl (thn (ho pins s σ H _ I h) fun v s1 ⟨x, H1, I1, r1, ty, q1⟩ => ?_)
 obtain ⟨h1, h2⟩ := tyV_is I1 r1 ty
 refine ⟨T, id, pa, slot, hty, h1, h2, ?_⟩
 have hA := ha cpos pins s1 σ H1 _ I1 q1
 rw [hs] at hA ⊢
 refine Calls.callWith_builtin (by show (false || (backTo cpos (starEach es X.env)).any (·.1)) = false; rw [hplain] <;> rfl) (Calls.evalArgs_plain ?_)
 exact thn hA fun us s2 ⟨vs, H2, I2, r2, q2⟩ => hm pins s2 σ H2 x vs v us Q I2 r1 r2 q2
/- xs.append(e), list.index on a module's tuple .. are MtR facts of 06m -/
end
end L2
namespace L2
open PySem PySem.Spec PyProof.Rows
def MtM (X : Cx) (id : String) (r : V -> List V -> Hp -> VK -> Prop) : Prop :=
 ∀ (pins : List (Addr × Obj)) (s : Shared) (σ : St) (H : Hp) (x : V) (xs : List V) (v : Value) (us : List Value) (Q : VK), Inv X pins σ H s -> RelV x v -> Vals xs us -> r x xs H Q →
  wpAny (model X.prog X.w) X.A (call (.builtin id) (v :: us)) (EP X pins σ Q) X.xe s
theorem Vals.one : ∀ {x : V} {us : List Value}, Vals [x] us -> ∃ u, us = [u] /\ RelV x u
 | _, _, .cons r .nil => ⟨_, rfl, r⟩
theorem Vals.zero : ∀ {us : List Value}, Vals [] us -> us = []
 | _, .nil => rfl
theorem Vals.reverse {xs : List V} {us : List Value} (h : Vals xs us) : Vals xs.reverse us.reverse := by
 induction h with
 | nil => exact .nil
 | cons r t ih => rw [List.reverse_cons, List.reverse_cons]; exact Vals.append ih (.cons r .nil)
section
variable {X : Cx} {pins : List (Addr × Obj)} {σ : St} {H : Hp} {s : Shared} {l b : Addr} {xs ys zs : List V}
theorem Inv.lset {its its' : List Value} {n : Nat} {f : Array Value -> Array Value} {t' : Nat} (I : Inv X pins σ H s) (hH : H l = some (.lst xs))
  (e : s.heap.get? l = some { cls := .type "list", data := .seq its.toArray n }) (hf : f its.toArray = its'.toArray) (hv : Vals ys its') (hz : ys.length <= sizeLine) :
  Inv X pins σ (upd H l (.lst ys)) { s with heap := s.heap.update l (Obj.mapSeq f), toks := t' } := by
 have q := PySem.IsL.update e f
 rw [hf] at q
 refine I.write (x := l) (e := l) (by rw [hH]; exact trivial) (.inl rfl) (fun b' u hb hu => (Heap.get?_update_other s.heap (Obj.mapSeq f) (Ne.symm hb)).trans hu) ⟨_, q⟩ ?_
 exact ⟨hz, its', _, hv, q⟩
theorem Inv.lnew {its : List Value} {t' : Nat} (I : Inv X pins σ H s) (hv : Vals ys its) (hz : ys.length <= sizeLine) :
  Inv X pins σ (upd H s.heap.objs.size (.lst ys)) { s with heap := s.heap.push { cls := .type "list", data := .seq its.toArray }, toks := t' } :=
 I.laid (fun _ _ q => Heap.get?_push_of_some _ q) (Nat.le_refl _) ⟨hz, its, 0, hv, Heap.get?_push_size _ rfl⟩
theorem Inv.fresh (I : Inv X pins σ H s) : H s.heap.objs.size = none := I.hok.fresh (Nat.le_refl _)
theorem Inv.lstM (I : Inv X pins σ H s) (hH : H l = some (.lst xs)) : xs.length <= sizeLine /\ ∃ (its : List Value) (n : Nat), Vals xs its /\ xs.length = its.length /\ s.heap.get? l = some { cls := .type "list", data := .seq its.toArray n } := by
 obtain ⟨z, its, n, r, e⟩ := I.hok l _ hH
 exact ⟨z, its, n, r, r.length, e⟩
theorem notLongL {n : Nat} (h : n <= sizeLine) : Builtin.List.listTooLong n = false := by
 unfold Builtin.List.listTooLong
 exact decide_eq_false (by omega)
end
section
variable {X : Cx}
def rAppend : V -> List V -> Hp -> VK -> Prop := fun x vs H Q => ∃ l xs y, x = .ref l /\ vs = [y] /\ H l = some (.lst xs) /\ xs.length < sizeLine /\ Q .non (upd H l (.lst (xs ++ [y])))
theorem mt_append : MtM X "list.append" rAppend := by
 intro pins s σ H x vs v us Q I rx rv h
 obtain ⟨l, xs, y, rfl, rfl, hH, hz, q⟩ := h
 cases rx
 obtain ⟨u, rfl, ru⟩ := rv.one
 obtain ⟨z, its, n, r, hl, e⟩ := I.lstM hH
 refine call_meets F.slot_list_append ⟨_, e, rfl⟩ F.entry_list_append (F.args_list_append_2 _ _) (PySem.list_append l its.toArray n u (by rw [List.size_toArray]; omega)) ⟨e, ?_⟩
 refine ⟨.non, _, I.lset (its' := its ++ [u]) hH e (by simp) (r.append (.cons ru .nil)) ?_, rfl, q⟩
 rw [List.length_append, List.length_singleton]
 omega
def rExtend : V -> List V -> Hp -> VK -> Prop := fun x vs H Q => ∃ l b xs zs, x = .ref l /\ vs = [.ref b] /\ H l = some (.lst xs) /\ H b = some (.lst zs) /\ xs.length + zs.length <= sizeLine /\ Q .non (upd H l (.lst (xs ++ zs)))
theorem mt_extend : MtM X "list.extend" rExtend := by
 intro pins s σ H x vs v us Q I rx rv h
 obtain ⟨l, b, xs, zs, rfl, rfl, hH, hB, hz, q⟩ := h
 cases rx
 obtain ⟨u, rfl, ru⟩ := rv.one
 cases ru
 obtain ⟨z, its, n, r, hl, e⟩ := I.lstM hH
 obtain ⟨z2, its2, n2, r2, hl2, e2⟩ := I.lstM hB
 have hsz : its.toArray.size + its2.toArray.size <= sizeLine := by rw [List.size_toArray, List.size_toArray]; omega
 have hlong : ¬ (!its.toArray.isEmpty && Builtin.List.listTooLong (its.toArray.size + its2.toArray.size)) = true := by
  rw [notLongL hsz, Bool.and_false]
  exact Bool.false_ne_true
 refine call_meets F.slot_list_extend ⟨_, e, rfl⟩ F.entry_list_extend (F.args_list_extend_2 _ _)
  (AutoSeq1.list_extend_list_list_0 l its.toArray n b its2.toArray n2 hlong (by rw [List.size_toArray]; omega) (by omega)) ⟨e, e2, ?_⟩
 refine ⟨.non, _, I.lset (its' := its ++ its2) hH e (by simp) (r.append r2) ?_, rfl, q⟩
 rw [List.length_append]
 omega
def rClear : V -> List V -> Hp -> VK -> Prop := fun x vs H Q => ∃ l xs, x = .ref l /\ vs = [] /\ H l = some (.lst xs) /\ Q .non (upd H l (.lst []))
theorem mt_clear : MtM X "list.clear" rClear := by
 intro pins s σ H x vs v us Q I rx rv h
 obtain ⟨l, xs, rfl, rfl, hH, q⟩ := h
 cases rx
 have hus := rv.zero
 subst hus
 obtain ⟨z, its, n, r, hl, e⟩ := I.lstM hH
 refine call_meets F.slot_list_clear ⟨_, e, rfl⟩ F.entry_list_clear (F.args_list_clear_1 _) (AutoSeq1.list_clear_list_0 l its.toArray n (by rw [List.size_toArray]; omega)) ⟨e, ?_⟩
 exact ⟨.non, _, I.lset (its' := []) (ys := []) hH e rfl .nil (Nat.zero_le _), rfl, q⟩
end
section
variable {prog : Program} {w : World} {A : Around} {E : Value -> Shared -> Prop} {s : Shared}
end
section
variable {X : Cx}
end
end L2
namespace L2
open PySem PySem.Spec PyProof.Rows
section
variable {κ : Type} [DecidableEq κ]
def valV (kvs : List (κ × V)) (k : κ) : Option V := (kvs.find? fun kv => decide (kv.1 = k)).map (·.2)
def putK (kvs : List (κ × V)) (k : κ) (v : V) : List (κ × V) :=
 if (kvs.any fun kv => decide (kv.1 = k)) = true then kvs.map (fun kv => if kv.1 = k then (kv.1, v) else kv) else kvs ++ [(k, v)]
def dropK (kvs : List (κ × V)) (k : κ) : List (κ × V) := kvs.filter fun kv => decide (kv.1 ≠ k)
theorem valV_pos {p : κ × V} {r : List (κ × V)} {k : κ} (e : p.1 = k) : valV (p :: r) k = some p.2 := by simp [valV, List.find?_cons, e]
theorem valV_neg {p : κ × V} {r : List (κ × V)} {k : κ} (e : ¬ p.1 = k) : valV (p :: r) k = valV r k := by simp [valV, List.find?_cons, e]
theorem RelO.getD {o : Option V} {u : Option Value} {d : V} {d' : Value} (r : RelO o u) (rd : RelV d d') : RelV (o.getD d) (u.getD d') := by
 cases o with
 | none => cases u with
   | none => exact rd
   | some _ => exact (show False from r).elim
 | some _ => cases u with
   | none => exact (show False from r).elim
   | some _ => exact r
theorem KV.val {kvs : List (κ × V)} {vs : List (κ × Value)} (r : KV kvs vs) (k : κ) : RelO (valV kvs k) (valueAt vs k) := by
 unfold KV at r
 induction r with
 | nil => exact True.intro
 | @cons p q ps qs h t ih =>
   obtain ⟨h1, h2⟩ := h
   by_cases e : p.1 = k
   · have e' : q.1 = k := h1.symm.trans e
     have b : valueAt (q :: qs) k = some q.2 := by simp [valueAt, List.find?_cons, e']
     rw [valV_pos e, b]; exact h2
   · have e' : ¬ q.1 = k := fun z => e (h1.trans z)
     have b : valueAt (q :: qs) k = valueAt qs k := by simp [valueAt, List.find?_cons, e']
     rw [valV_neg e, b]; exact ih
theorem KV.any {kvs : List (κ × V)} {vs : List (κ × Value)} (r : KV kvs vs) (k : κ) : (kvs.any fun kv => decide (kv.1 = k)) = vs.any fun kv => decide (kv.1 = k) := by
 unfold KV at r
 induction r with
 | nil => rfl
 | cons h t ih => rw [List.any_cons, List.any_cons, ih, h.1]
theorem KV.drop {kvs : List (κ × V)} {vs : List (κ × Value)} (r : KV kvs vs) (k : κ) : KV (dropK kvs k) (without vs k) := by
 unfold KV at r ⊢
 unfold dropK without
 induction r with
 | nil => exact .nil
 | @cons p q ps qs h t ih =>
   obtain ⟨h1, h2⟩ := h
   rw [List.filter_cons, List.filter_cons]
   by_cases e : p.1 = k
   · have a : ¬ decide (p.1 ≠ k) = true := by simp [e]
     have b : ¬ decide (q.1 ≠ k) = true := by simp [h1.symm.trans e]
     rw [if_neg a, if_neg b]; exact ih
   · have e' : ¬ q.1 = k := fun z => e (h1.trans z)
     have a : decide (p.1 ≠ k) = true := by simp [e]
     have b : decide (q.1 ≠ k) = true := by simp [e']
     rw [if_pos a, if_pos b]; exact .cons ⟨h1, h2⟩ ih
theorem KV.length {kvs : List (κ × V)} {vs : List (κ × Value)} (r : KV kvs vs) : kvs.length = vs.length := Paired.length r
end
abbrev KT (H : Hp) : List (List Key × V) -> List (List Key × Addr × Value) -> Prop := Paired fun p q => p.1 = q.1 /\ H q.2.1 = some (.tup (p.1.map kV)) /\ RelV p.2 q.2.2
theorem KT.val {H : Hp} {kvs : List (List Key × V)} {xs : List (List Key × Addr × Value)} (r : KT H kvs xs) (k : List Key) : RelO (valV kvs k) ((atKey xs k).map (·.2)) := by
 induction r with
 | nil => exact True.intro
 | @cons p q ps qs h t ih =>
   obtain ⟨h1, _, h2⟩ := h
   by_cases e : p.1 = k
   · have e' : q.1 = k := h1.symm.trans e
     have b : atKey (q :: qs) k = some q.2 := by simp [atKey, List.find?_cons, e']
     rw [valV_pos e, b]; exact h2
   · have e' : ¬ q.1 = k := fun z => e (h1.trans z)
     have b : atKey (q :: qs) k = atKey qs k := by simp [atKey, List.find?_cons, e']
     rw [valV_neg e, b]; exact ih
section
variable {P : Program} {w : World} {H : Hp} {h : Heap} {a : Addr}
end
def DGet (H : Hp) (a : Addr) (y : V) (r : Option V) : Prop :=
 (∃ kvs k, Rd H a (.dK kvs) /\ y = kV k /\ r = valV kvs k) \/ ∃ kvs k b, Rd H a (.dT kvs) /\ y = .ref b /\ H b = some (.tup (k.map kV)) /\ r = valV kvs k
def DPut (H : Hp) (a : Addr) (y v : V) (H' : Hp) : Prop :=
 (∃ kvs k, H a = some (.dK kvs) /\ y = kV k /\ kvs.length < sizeLine /\ H' = upd H a (.dK (putK kvs k v))) ∨
 ∃ kvs k b, H a = some (.dT kvs) /\ y = .ref b /\ H b = some (.tup (k.map kV)) /\ kvs.length < sizeLine /\ H' = upd H a (.dT (putK kvs k v))
theorem DGet.t {H : Hp} {a b : Addr} {kvs : List (List Key × V)} {k : List Key} (e : H a = some (.dT kvs)) (eb : H b = some (.tup (k.map kV))) : DGet H a (.ref b) (valV kvs k) := .inr ⟨kvs, k, b, .inl e, rfl, eb, rfl⟩
theorem DPut.t {H : Hp} {a b : Addr} {kvs : List (List Key × V)} {k : List Key} {v : V} (e : H a = some (.dT kvs)) (eb : H b = some (.tup (k.map kV))) (hl : kvs.length < sizeLine) :
  DPut H a (.ref b) v (upd H a (.dT (putK kvs k v))) := .inr ⟨kvs, k, b, e, rfl, eb, hl, rfl⟩
section
variable {X : Cx} {pins : List (Addr × Obj)} {σ : St} {H : Hp} {s : Shared} {a : Addr} {y v : V} {u r : Value} {o : Option V} {A : Around} {E : Value -> Shared -> Prop}
end
section
variable {X : Cx} {pins : List (Addr × Obj)} {σ : St} {H : Hp} {s : Shared} {a : Addr} {kvs : List (Key × V)} {k : Key} {u : Value} {A : Around} {E : Value -> Shared -> Prop}
end
section
variable {X : Cx} {o i e value : Expr} {pos pos' tpos : Pos} {td ty tv : TE}
end
section
variable {X : Cx} {pos : Pos}
end
section
variable {X : Cx} {pins : List (Addr × Obj)} {σ : St} {H : Hp} {s : Shared} {a : Addr} {y d : V} {u r : Value} {o : Option V} {A : Around} {E : Value -> Shared -> Prop}
end
section
variable {X : Cx} {o e f : Expr} {apos cpos : Pos} {td ty tx : TE}
end
section
variable {X : Cx} {pins : List (Addr × Obj)} {σ : St} {H : Hp} {s : Shared} {a : Addr} {kvs : List (Key × V)} {A : Around} {E : Value -> Shared -> Prop}
end
section
variable {X : Cx} {pins : List (Addr × Obj)} {σ : St} {H : Hp} {s : Shared} {a : Addr} {y : V} {u : Value} {A : Around} {E : Value -> Shared -> Prop}
end
end L2
namespace Att
open PySem PySem.W PySem.Calls PyProof.Rows
theorem ints_of_wellAll {P : Params} {h : Heap} : ∀ (ns : List Int) (vs : List Value), WellAll P h vs (ns.map WData.int) -> IntsAre vs ns := by
 intro ns
 induction ns with
 | nil =>
   intro vs w
   rw [List.map_nil] at w
   cases w
   exact .nil
 | cons n ns ih =>
   intro vs w
   rw [List.map_cons] at w
   cases w with
   | cons a b =>
     cases a
     exact .cons _ _ (ih _ b)
theorem script_of {l : OpenLaw} {n : Nat} (hn : l.most = some n) {P : Params} {h : Heap} {args : List WData} {vals : List Value}
  (hpre : l.row.toRowW.claim.pre args = true) (hwl : WellAll P h vals args) :
  ∃ a vs ns, vals = [Value.ref a] /\ args = [WData.list (ns.map WData.int)] /\ h.get? a = some { cls := .type "list", data := .seq vs.toArray } /\ IntsAre vs ns /\ ns.length <= n := by
 have hsh : WShape.hasAll [] args [.list .int] = true := (pre_splitW hpre).1
 have hc : l.pre.holds [] { args := args } = true := (pre_splitW hpre).2
 obtain ⟨d, r, rfl, h1, h2⟩ := hasAllW_cons hsh
 obtain rfl := hasAllW_nil h2
 obtain ⟨xs, rfl, h3⟩ := hasW_list h1
 obtain ⟨ns, rfl⟩ := items_int h3
 have hlen : ns.length <= n := by
  unfold OpenLaw.pre at hc
  have h4 : (WTm.not (.lt (.lit (.int (n : Int))) (.len (.arg 0)))).holds [] { args := [.list (ns.map .int)] } = true := by
   have h4 := (holds_andW hc).1
   rw [hn] at h4
   exact h4
  have h5 := condW_of h4 (w_not (w_lt w_lit (w_len_list (w_arg rfl))))
  rw [List.length_map] at h5
  refine Nat.le_of_not_lt fun q => ?_
  have q' : (n : Int) < ((ns.length : Nat) : Int) := by omega
  first
   | (rw [decide_eq_true q'] at h5; exact absurd h5 (by decide))
   | (simp at h5; omega)
 cases hwl with
 | cons w1 w2 =>
   cases w2
   cases w1 with
   | list ho hall => exact ⟨_, _, ns, rfl, rfl, ho, ints_of_wellAll ns _ hall, hlen⟩
theorem post_true (l : OpenLaw) (args : List WData) : l.row.toRowW.claim.post args (.bool true) args = true :=
 postW_of (r := l.row.toRowW) (X := (true == true))
  (show WShape.has [] (.bool true) .bool = true by first | rfl | decide | simp [WShape.has, WShape.arms, WShape.armsAll])
  (show (WTm.eq .res (.lit (.bool true))).value [] { args := args, res := some (.bool true), after := args } = some (.bool (true == true)) from w_eq_bool (w_res rfl) w_lit) rfl
section
variable {prog : Program} {w : World} {A : Around} {E : Value -> Shared -> Prop} {s : Shared} {K : Frag}
end
end Att
namespace L2
open PySem PySem.Spec PyProof.Rows
theorem vals_ints : ∀ {vs : List Value} {ns : List Int}, IntsAre vs ns -> Vals (ns.map V.int) vs
 | _, _, .nil => .nil
 | _, _, .cons n t h => .cons ⟨t, rfl⟩ (vals_ints h)
end L2
namespace L2
open PySem PySem.Spec PyProof.Rows
def inClass (s : Stmt) (j : Nat) : Stmt := match s with
 | .ClassDef _ _ _ body _ _ _ _ _ _ _ => body.getD j (.Pass ⟨0, 0, 0, 0⟩)
 | _ => .Pass ⟨0, 0, 0, 0⟩
def zU (s : Stmt) : Arguments := match s with
 | .FunctionDef _ a _ _ _ _ _ _ _ _ => a
 | _ => { posonlyargs := [], args := [], vararg := none, kwonlyargs := [], kw_defaults := [], kwarg := none, defaults := [] }
def zH (s : Stmt) : List Stmt := match s with
 | .FunctionDef _ _ b _ _ _ _ _ _ _ => b
 | _ => []
def zA (s : Stmt) : Scope := match s with
 | .FunctionDef _ _ _ _ _ _ sc _ _ _ => sc
 | _ => { kind := .function, names := [], isGenerator := false, isCoroutine := false }
abbrev CX0 : CXT := fun _ _ _ _ _ _ => False
abbrev E0 : XK := fun _ _ _ => False
theorem pass0 {X : Cx} : Passes CX0 X E0 := fun _ _ _ _ _ _ _ h => h.elim
structure Fun (K : PySem.W.Frag) (x qual : Str) (st : Stmt) (f : Addr) (fd : FuncData) : Prop where
 ex : ∃ (oc : Value) (od : Option Addr) (kV doc pm : Value) (an : Option Addr) (cdv ct : Value) (osl : Array (Option Value)),
  fd = PySem.W.fnOf x qual (zU st) (zH st) (zA st) .none kV doc pm an cdv ct /\ K.lookup f = some ⟨oc, od, .func fd, osl⟩ /\ PySem.W.codeIn K cdv qual = true
 kp : PySem.W.keepIn K (.ref f) = true
section
variable {P : Program} {w : World} {K : PySem.W.Frag} {mg : Str -> Option Value} {base : Heap}
theorem Fun.ok {x qual : Str} {st : Stmt} {f : Addr} {fd : FuncData} {N ps : List Str} {k : Nat} {sp : Sp} (F : Fun K x qual st f fd) (S : FnScope N ps (zA st)) (len : ∀ vs H Q E, sp vs H Q E -> vs.length = ps.length)
  (hbody : ∀ (cdv : Value) (A : Around) (outer : List Env) (s : Shared) (H : Hp) (vs : List V) (Q : VK) (E : XK), Room k (A.deeper (envOfC qual (zA st) s.heap.objs.size f cdv)) -> sp vs H Q E →
    ∃ t, PSs (cxOf CX0 P w K mg base N qual (zA st) f cdv A outer s H E).nox (zH st) t /\ t { nx := fun _ H' => Q .non H', rt := Q } (start N vs) H) : FnOk P w K mg base CX0 (k + 1) f fd ps sp := by
 obtain ⟨oc, od, kV, doc, pm, an, cdv, ct, osl, rfl, lk, hcd⟩ := F.ex
 refine fn_of lk hcd S len fun A outer s H vs Q E hr hsp => ?_
 obtain ⟨t, h, q⟩ := hbody cdv A outer s H vs Q E hr hsp
 exact ⟨t, h.nox, q⟩
theorem Fun.binds {x qual : Str} {st : Stmt} {f : Addr} {fd : FuncData} {ps : List Str} (F : Fun K x qual st f fd)
  (h : ∀ (kV doc pm : Value) (an : Option Addr) (cdv ct : Value) (us : List Value), us.length = ps.length -> bindArgs (PySem.W.fnOf x qual (zU st) (zH st) (zA st) .none kV doc pm an cdv ct) ⟨us, []⟩ = pure (ps.zip us)) : Binds K fd ps [] := by
 obtain ⟨oc, od, kV, doc, pm, an, cdv, ct, osl, rfl, lk, hcd⟩ := F.ex
 exact .all (h kV doc pm an cdv ct)
theorem qG {x qual : Str} {st : Stmt} {f : Addr} {oc : Value} {od an : Option Addr} {osl : Array (Option Value)} {kV doc pm cdv ct : Value} (l : K.lookup f = some ⟨oc, od, .func (PySem.W.fnOf x qual (zU st) (zH st) (zA st) .none kV doc pm an cdv ct), osl⟩)
  (c : PySem.W.codeIn K cdv qual = true) (k : PySem.W.keepIn K (.ref f) = true) : Fun K x qual st f (PySem.W.fnOf x qual (zU st) (zH st) (zA st) .none kV doc pm an cdv ct) := ⟨⟨oc, od, kV, doc, pm, an, cdv, ct, osl, rfl, l, c⟩, k⟩
end
section
variable {X : Cx}
end
theorem iteF {A B : Prop} (h : B) : if false = true then A else B := by
 rw [if_neg Bool.false_ne_true]
 exact h
theorem iteT {A B : Prop} (h : A) : if true = true then A else B := by
 rw [if_pos rfl]
 exact h
def Same (H H' : Hp) : Prop := ∀ b o, H b = some o -> H' b = some o
theorem Same.refl (H : Hp) : Same H H := fun _ _ h => h
theorem Same.trans {H H1 H2 : Hp} (a : Same H H1) (b : Same H1 H2) : Same H H2 := fun c o h => b c o (a c o h)
theorem Same.free {H H' : Hp} (e : Same H H') {l : Addr} (h : H' l = Option.none) : H l = Option.none := by
 cases q : H l with
 | none => rfl
 | some o =>
   rw [e l o q] at h
   cases h
end L2
namespace L2
open PySem PySem.Spec PyProof.Rows
section
variable {X : Cx}
end
section
variable {κ : Type} [DecidableEq κ]
end
end L2
namespace L2
open PySem PySem.Spec PyProof.Rows
def wP (env : Env) : List (Str × NameKind) -> List (Str × Addr) -> List (Str × Addr)
 | [], cs => cs
 | (n, k) :: r, cs => wP env r (if k == NameKind.free then (match env.cells.lookup n with | some c => (n, c) :: cs | none => cs) else cs)
theorem closureFor_of {scope : Scope} {env : Env} (h : ∀ y ∈ scope.names, y.2 = NameKind.free -> ∃ c, env.cells.lookup y.1 = some c) : closureFor scope env = pure (wP env scope.names []) := by
 simp only [closureFor]
 generalize ([] : List (Str × Addr)) = cs
 revert h cs
 generalize scope.names = l
 intro h
 induction l with
 | nil => intro cs; rfl
 | cons y r ih =>
   intro cs
   obtain ⟨n, k⟩ := y
   have ihr := ih fun z hz => h z (List.mem_cons_of_mem _ hz)
   simp only [List.forIn_cons, wP]
   by_cases hk : k = NameKind.free
   · obtain ⟨c, hc⟩ := h (n, k) List.mem_cons_self hk
     have hc' : env.cells.lookup n = some c := hc
     have hcell : cellOf env n = pure c := by unfold cellOf; rw [hc']
     subst hk
     simp only [hcell, hc', beq_self_eq_true, if_true, pure_bind, bind_pure_comp, map_pure, bind_assoc]
     first
      | exact ihr _
      | simpa using ihr _
   · have hb : (k == NameKind.free) = false := by simpa using hk
     simp only [hb, Bool.false_eq_true, if_false, pure_bind]
     first
      | exact ihr _
      | simpa using ihr _
theorem closL_from {env : Env} : ∀ (l : List (Str × NameKind)) (cs : List (Str × Addr)), (∀ x c, cs.lookup x = some c -> env.cells.lookup x = some c) -> ∀ x c, (wP env l cs).lookup x = some c -> env.cells.lookup x = some c
 | [], _, h => h
 | (n, k) :: r, cs, h => by
   unfold wP
   refine closL_from r _ fun x c e => ?_
   split at e
   · cases hc : env.cells.lookup n with
     | none => rw [hc] at e; exact h x c e
     | some c' =>
       rw [hc] at e
       simp only [List.lookup_cons] at e
       by_cases hx : x == n
       · rw [hx] at e
         cases e
         rw [beq_iff_eq] at hx
         rw [hx]
         exact hc
       · have hx' : (x == n) = false := by simpa using hx
         rw [hx'] at e
         exact h x c e
   · exact h x c e
theorem closL_keep {env : Env} : ∀ (l : List (Str × NameKind)) (cs : List (Str × Addr)) (x : Str), (∃ c, cs.lookup x = some c) -> ∃ c, (wP env l cs).lookup x = some c
 | [], _, _, h => h
 | (n, k) :: r, cs, x, h => by
   unfold wP
   refine closL_keep r _ x ?_
   split
   · cases hc : env.cells.lookup n with
     | none => exact h
     | some c' =>
       simp only [List.lookup_cons]
       by_cases hx : x == n
       · rw [hx]; exact ⟨_, rfl⟩
       · have hx' : (x == n) = false := by simpa using hx
         rw [hx']; exact h
   · exact h
theorem vG {env : Env} : ∀ (l : List (Str × NameKind)) (cs : List (Str × Addr)) (x : Str) (c : Addr), (x, NameKind.free) ∈ l -> env.cells.lookup x = some c -> ∃ c, (wP env l cs).lookup x = some c
 | [], _, _, _, h, _ => nomatch h
 | (n, k) :: r, cs, x, c, h, hc => by
   unfold wP
   rcases List.mem_cons.mp h with e | e
   · cases e
     refine closL_keep r _ _ ?_
     simp only [beq_self_eq_true, if_true, hc, List.lookup_cons]
     exact ⟨_, rfl⟩
   · exact vG r _ x c e hc
theorem lookup_relabel_free {env : Env} : ∀ {names : List (Str × NameKind)} {x : Str}, names.lookup x = some NameKind.free →
  (names.map fun (n, k) => if (k == NameKind.free && env.scope.kind == .function && env.kindOf n == some .cell) then (n, NameKind.cell) else (n, k)).lookup x = some NameKind.cell ∨
  (names.map fun (n, k) => if (k == NameKind.free && env.scope.kind == .function && env.kindOf n == some .cell) then (n, NameKind.cell) else (n, k)).lookup x = some NameKind.free
 | [], _, h => by simp at h
 | (n, k) :: r, x, h => by
   have ih := @lookup_relabel_free env r x
   simp only [List.map_cons]
   cases hx : x == n with
   | true =>
     simp only [List.lookup_cons, hx] at h
     cases h
     by_cases hc : (NameKind.free == NameKind.free && env.scope.kind == .function && env.kindOf n == some .cell) = true
     · rw [if_pos hc]; left; simp only [List.lookup_cons, hx]
     · rw [if_neg hc]; right; simp only [List.lookup_cons, hx]
   | false =>
     simp only [List.lookup_cons, hx] at h
     by_cases hc : (k == NameKind.free && env.scope.kind == .function && env.kindOf n == some .cell) = true
     · rw [if_pos hc]; simp only [List.lookup_cons, hx]; exact ih h
     · rw [if_neg hc]; simp only [List.lookup_cons, hx]; exact ih h
theorem wF {env : Env} : ∀ {names : List (Str × NameKind)} {x : Str} {k' : NameKind}, (∀ y ∈ names, y.2 ≠ NameKind.cell) →
  (names.map fun (n, k) => if (k == NameKind.free && env.scope.kind == .function && env.kindOf n == some .cell) then (n, NameKind.cell) else (n, k)).lookup x = some k' -> (k' = NameKind.cell \/ k' = NameKind.free) -> (x, NameKind.free) ∈ names
 | [], _, _, _, h, _ => by simp at h
 | (n, k) :: r, x, k', hn, h, hk => by
   have ih := @wF env r x k' fun y hy => hn y (List.mem_cons_of_mem _ hy)
   simp only [List.map_cons] at h
   cases hx : x == n with
   | true =>
     have ex : x = n := by simpa using hx
     by_cases hc : (k == NameKind.free && env.scope.kind == .function && env.kindOf n == some .cell) = true
     · have : k = NameKind.free := by
        simp only [Bool.and_eq_true, beq_iff_eq] at hc
        exact hc.1.1
       subst this; subst ex
       exact List.mem_cons_self
     · rw [if_neg hc] at h
       simp only [List.lookup_cons, hx] at h
       cases h
       rcases hk with hk | hk
       · exact absurd hk (hn (n, k) List.mem_cons_self)
       · subst hk; subst ex; exact List.mem_cons_self
   | false =>
     by_cases hc : (k == NameKind.free && env.scope.kind == .function && env.kindOf n == some .cell) = true
     · rw [if_pos hc] at h; simp only [List.lookup_cons, hx] at h; exact List.mem_cons_of_mem _ (ih h hk)
     · rw [if_neg hc] at h; simp only [List.lookup_cons, hx] at h; exact List.mem_cons_of_mem _ (ih h hk)
section
variable {X : Cx}
structure CI where
 C : Addr
 s : Shared
 H : Hp
 ex : List Addr
def yD (X : Cx) (scope : Scope) (NY : List Str) (c : CI) : Cx where
 prog := X.prog
 w := X.w
 K := X.K
 mg := X.mg
 base := X.base
 A := X.A
 N := NY
 s₀ := c.s
 H₀ := c.H
 env := compEnvC scope (wP X.env scope.names []) c.C X.env
 outer := X.stack
 stack := X.stack
 ex := c.ex
 fn := fun _ => false
 calm := X.calm
 pn := []
 xe := fun _ _ => False
theorem Inv.adopt {pins : List (Addr × Obj)} {σ : St} {H : Hp} {s : Shared} {a : Addr} {o : HO} (I : Inv X pins σ H s) (hn : H a = none) (young : X.s₀.heap.objs.size <= a) (hL : a ≠ X.env.locals)
  (hc : ∀ x c, X.env.cells.lookup x = some c -> c ≠ a) (hp : ∀ p ∈ X.pn ++ pins, p.1 ≠ a) (new : ObjOk X.prog X.w (upd H a o) s.heap a o) : Inv X pins σ (upd H a o) s := by
 have ne : ∀ {b : Addr} {u : HO}, H b = some u -> b ≠ a := fun e z => by rw [z, hn] at e; cases e
 refine ⟨I.ok, I.os, I.bare, ⟨I.base.keep, I.base.slot, fun b ob q n hx => ?_, I.base.there, fun b xs q => ?_, fun b ob u q => ?_, fun b ps q => ?_⟩, I.loc, I.cell, ?_, fun x c e => ?_, fun p hpm => ?_, fun b u e => ?_, I.len⟩
 · rw [qI (Nat.ne_of_lt (Nat.lt_of_lt_of_le (Heap.lt_size q) young))]
   exact I.base.free b ob q n hx
 · have := I.base.tups b xs q
   rw [qI (ne this)]; exact this
 · have := I.base.frzs b ob u q
   rw [qI (ne this)]; exact this
 · have := I.base.tbls b ps q
   rw [qI (ne this)]; exact this
 · rw [qI (Ne.symm hL)]; exact I.free
 · have := I.freeC x c e
   unfold FreeC at this ⊢
   rw [qI (hc x c e)]; exact this
 · obtain ⟨h1, h2, h3⟩ := I.pin p hpm
   exact ⟨h1, by rw [qI (hp p hpm)]; exact h2, h3⟩
 · by_cases hb : b = a
   · subst hb; rw [qQ] at e; cases e; exact new
   · rw [qI hb] at e
     exact (I.hok b u e).stay (fun c v _ q => q) (fun c q => by rw [qI (ne q)]; exact q) fun c xs q => by rw [qI (ne q)]; exact q
def PF (X : Cx) (ifs : List Expr) (t : TT) : Prop :=
 ∀ (pins : List (Addr × Obj)) (s : Shared) (σ : St) (H : Hp) (Q : Bool -> Hp -> Prop), Inv X pins σ H s -> t σ H Q →
  wpAny (model X.prog X.w) X.A (forIn ifs true fun c r => if r = true then do let ok <- isTrue c X.env (eval c X.env); pure (ForInStep.yield ok) else pure (ForInStep.yield r)) (TP X pins σ Q) X.xe s
def tNoIf : TT := fun _ H Q => Q true H
theorem pf_nil : PF X [] tNoIf := fun _ _ _ H _ I h => wpAny_tests_nil ⟨H, I, h⟩
def slotsY (mp : List (Option Nat)) (σ : St) : St := mp.map fun o => o.bind fun j => σ[j]?.join
def tCompK (J : It) (mp : List (Option Nat)) (g : CI -> TG) (tt : CI -> TT) (te : CI -> TE) (σ : St) (H1 : Hp) (R : List V -> Hp -> Prop) : Prop :=
 ∀ c : CI, ∃ W : Nat -> Nat -> List V -> Hp -> Prop, (∃ m, W 0 m [] H1) /\ ∀ i m ys H, W i m ys H →
  (J.stop i H /\ R ys H) ∨
  (J.go i H /\ ys.length < sizeLine /\ ∀ x H', J.yld i H x H' -> g c x (slotsY mp σ) H' fun σ2 H2 => tt c σ2 H2 fun b H3 =>
    if b = true then te c σ2 H3 fun y H4 => ∃ m', m' < m /\ W (i + 1) m' (ys ++ [y]) H4 else ∃ m', m' < m /\ W (i + 1) m' ys H3)
def tComp (wi : TI) (mp : List (Option Nat)) (g : CI -> TG) (tt : CI -> TT) (te : CI -> TE) : TE := fun σ H Q => wi σ H fun J H1 =>
 tCompK J mp g tt te σ H1 fun ys H' => ys.length <= sizeLine /\ ∀ p, H' p = none -> Q (.ref p) (upd H' p (.lst ys))
structure CompScope (X : Cx) (scope : Scope) (NY : List Str) (mp : List (Option Nat)) : Prop where
 kind : scope.kind = .function
 nocell : ∀ y ∈ scope.names, y.2 ≠ .cell
 names : ∀ y ∈ scope.names, y.2 = .local -> scope.names.lookup y.1 = some .local
 free : ∀ y ∈ scope.names, y.2 = .free -> (X.env.kindOf y.1 = some .cell \/ X.env.kindOf y.1 = some .free)
 len : mp.length = NY.length
 map : ∀ (i : Nat) (x : Str) (j : Nat), NY[i]? = some x -> mp[i]? = some (some j) -> X.N[j]? = some x /\ scope.names.lookup x = some .free
theorem compLoop_own {prog : Program} {w : World} {A : Around} {R : Result -> Shared -> Prop} {s : Shared} {elt target iter : Expr} {ifs : List Expr} {scope : Scope} {pos : Pos} {it acc : Value} {env : Env} (I : Nat -> Shared -> Prop)
  (turn : ∀ n s, I n s -> wpAny (model prog w) A (pyNext it) (fun r s₁ => match r with
    | none => R (.ok .next) s₁
    | some v => wpAny (model prog w) A (letOwnedTupleGo target it v) (fun _ s₁' => wpAny (model prog w) A (assign target env v) (fun _ s₂ =>
       wpAny (model prog w) A (forIn ifs true fun c r => if r = true then do let ok <- isTrue c env (eval c env); pure (ForInStep.yield ok) else pure (ForInStep.yield r)) (fun ok s₃ =>
        if ok = true then wpAny (model prog w) A (eval elt env) (fun x s₄ =>
         wpAny (model prog w) A (call (.builtin "list.append") [acc, x]) (fun _ s₅ => ∃ m, m < n /\ I m s₅) (fun _ _ => False) s₄) (fun _ _ => False) s₃
        else ∃ m, m < n /\ I m s₃) (fun _ _ => False) s₂) (fun _ _ => False) s₁') (fun _ _ => False) s₁) (fun _ _ => False) s)
  (n : Nat) (h : I n s) :
  codeAny (model prog w) A (.compLoop (.ListComp elt [⟨target, iter, ifs, 0⟩] scope pos) 0 it acc env) R s := by
 refine codeAny_loop rfl I (fun n s hI => ?_) n h
 show wpAny _ A ((compTurn (.ListComp elt [⟨target, iter, ifs, 0⟩] scope pos) 0 it acc env).onRaise (fun x => do noteFrame x env; theTreesLotGoes x)) _ _ s
 refine wpAny_noted ?_
 rw [compTurn_list]
 refine wpAny_bind (wpAny_standAt (wpAny_bind (wpAny_mono (turn n s hI) (fun r s₁ h₁ => ?_) fun _ _ h' => h'.elim)))
 cases r with
 | none => exact wpAny_pure h₁
 | some v =>
   refine wpAny_bind (wpAny_mono h₁ (fun _ s₁' h₁' => ?_) fun _ _ h' => h'.elim)
   refine wpAny_bind (wpAny_mono h₁' (fun _ s₂ h₂ => wpAny_bind (wpAny_mono h₂ (fun ok s₃ h₃ => ?_) fun _ _ h' => h'.elim)) fun _ _ h' => h'.elim)
   cases ok with
   | false => exact wpAny_pure ⟨rfl, h₃⟩
   | true =>
     exact wpAny_bind (wpAny_bind (wpAny_mono h₃ (fun x s₄ h₄ => wpAny_bind (wpAny_mono h₄ (fun _ s₅ h₅ => wpAny_pure (wpAny_pure ⟨rfl, h₅⟩)) fun _ _ h' => h'.elim)) fun _ _ h' => h'.elim))
theorem comp_block {E : Value -> Shared -> Prop} {scope : Scope} {NY : List Str} {mp : List (Option Nat)} {tg iter elt : Expr} {ifs : List Expr} {pos : Pos} {g : CI -> TG} {tt : CI -> TT} {te : CI -> TE} {pins : List (Addr × Obj)} {σ : St} {H : Hp} {s₂ : Shared}
  {J : It} {fp : List Addr} {it : Addr} {tn : Nat -> Heap -> Prop} {R : List V -> Hp -> Prop} {RR : Value -> Addr -> Result -> Shared -> Prop}
  (S : CompScope X scope NY mp) (hc : X.calm = true) (I : Inv X pins σ H s₂) (T : Turn X.prog X.w X.K tg J fp it tn) (st : tn 0 s₂.heap) (hf : ∀ b ∈ fp, FpOk X pins H b)
  (hg : ∀ c, PG (yD X scope NY c) tg (g c)) (ht : ∀ c, PF (yD X scope NY c) ifs (tt c)) (he : ∀ c, PE (yD X scope NY c) elt (te c))
  (h : tCompK J mp g tt te σ H R)
  (fin : ∀ (s' : Shared) (C : Addr) (m : Str -> Option Value) (ys : List V) (H' : Hp), R ys H' -> H' s₂.heap.objs.size = none -> H' C = none -> C ≠ s₂.heap.objs.size -> s'.heap.Ns C m →
    (ys.length <= sizeLine -> Inv X pins σ (upd H' s₂.heap.objs.size (.lst ys)) s') →
    (C ≠ X.env.locals /\ X.s₀.heap.objs.size <= C /\ (∀ x c, X.env.cells.lookup x = some c -> c ≠ C) /\ ∀ p ∈ X.pn ++ pins, p.1 ≠ C) -> RR (.ref s₂.heap.objs.size) C (.ok .next) s') :
  wpAny (model X.prog X.w) X.A (newList []) (fun acc s₃ => wpAny (model X.prog X.w) X.A (newFunctionEnv scope X.env.globals (wP X.env scope.names []) [] X.env.qual none .none (some X.env)) (fun cenv s₄ =>
   codeAny (model X.prog X.w) X.A (.compStart (.ListComp elt [⟨tg, iter, ifs, 0⟩] scope pos) 0 (.ref it) acc { cenv with scope := relabel scope X.env }) (RR acc cenv.locals) s₄) E s₃) E s₂ := by
 refine wpAny_newObj_type (wpAny_newFunctionEnv S.nocell (by intro y hy; simp at hy) (fun h₁ hns₁ hsb₁ => ?_) S.kind)
 dsimp only at hns₁ hsb₁ ⊢
 generalize hH2 : s₂.heap.push { cls := .type "list", dict := none, data := .seq ([] : List Value).toArray } = H2 at hns₁ hsb₁ ⊢
 have hC : (H2.objs.size : Nat) = s₂.heap.objs.size + 1 := by rw [<- hH2, Heap.size_push]
 generalize hDd : s₂.heap.objs.size = D at fin hC ⊢
 generalize hCC : H2.objs.size = C at hns₁ hsb₁ hC ⊢
 have hC : (C : Nat) = (D : Nat) + 1 := hC
 have hDC : D ≠ C := fun z => absurd (z.trans hC) (Nat.ne_of_lt (Nat.lt_succ_self _))
 have ltC : ∀ {b : Addr}, b < D -> b ≠ C := fun {b} h => Nat.ne_of_lt (Nat.lt_of_lt_of_eq (Nat.lt_succ_of_lt h) hC.symm)
 have ltD : ∀ {b : Addr}, b < D -> b ≠ D := fun {b} h => Nat.ne_of_lt h
 have hlt : ∀ {b : Addr} {o : Obj}, s₂.heap.get? b = some o -> (b : Nat) < D := fun e => hDd ▸ Heap.lt_size e
 have k2 : ∀ b o, s₂.heap.get? b = some o -> H2.get? b = some o := fun b o e => hH2 ▸ Heap.get?_push_of_some _ e
 have k1 : ∀ b o, H2.get? b = some o -> h₁.get? b = some o := fun b o e => by
  have hb : b < C := hCC ▸ Heap.lt_size e
  exact hsb₁.extBut b o (Nat.ne_of_lt hb) (Heap.get?_push_of_some _ e)
 have fr : ∀ a, D <= a -> H a = none := fun a ha => I.hok.fresh (hDd ▸ ha)
 have accP : h₁.PlainList D #[] := ⟨_, k1 _ _ (by rw [<- hH2, <- hDd]; exact Heap.get?_push_size _ rfl)⟩
 have fpo : ∀ b ∈ fp, (b : Nat) < D := fun b hb => let ⟨o, e, _⟩ := T.obj 0 _ st b hb; hlt e
 have clF : ∀ x c, (wP X.env scope.names []).lookup x = some c -> X.env.cells.lookup x = some c := closL_from _ _ fun x c e => nomatch e
 have cellLt : ∀ x c, X.env.cells.lookup x = some c -> (c : Nat) < D := fun x c e => by
  obtain ⟨v, o, ho, _⟩ := I.cell x c e
  exact hlt ho
 have locLt : (X.env.locals : Nat) < D := hDd ▸ I.lt
 have stkLt : ∀ b ∈ frs X.stack, (b : Nat) < D := fun b hb => by
  obtain ⟨_, o, ho, _⟩ := I.stack.mem hb
  exact hlt ho
 have fpStk : ∀ b ∈ fp, b ∉ frs X.stack := fun b hb z => by
  obtain ⟨_, f1, f2, _⟩ := hf b hb
  rcases List.mem_cons.mp (I.stkSub b z) with q | q
  · exact f1 q
  · exact f2 q
 have pinLt : ∀ p ∈ X.pn ++ pins, (p.1 : Nat) < D := fun p hp => hlt (I.pin p hp).1
 have pinStk : ∀ p ∈ X.pn ++ pins, p.1 ∉ frs X.stack := fun p hp z => by
  obtain ⟨_, _, f1, f2, _⟩ := I.pin p hp
  rcases List.mem_cons.mp (I.stkSub _ z) with q | q
  · exact f1 q
  · exact f2 q
 let Y : Cx := yD X scope NY ⟨C, { s₂ with heap := H2 }, H, D :: fp⟩
 obtain ⟨W, ⟨m0, w0⟩, turn⟩ := h ⟨C, { s₂ with heap := H2 }, H, D :: fp⟩
 have okY : Y.Ok := by
  refine ⟨I.ok.mod, S.kind, I.ok.glob, I.ok.blt, Nat.le_of_eq hCC, fun x y c h1 h2 => I.ok.inj x y c (clF _ _ h1) (clF _ _ h2), fun x hx => ?_, fun x c hfn => absurd hfn (by intro z; cases z), I.ok.hd, I.ok.frames, .inl rfl, fun b hb => ?_, fun b o e => ?_, ?_, fun b o e => ?_, fun b hb => ?_, ?_, I.stkFree⟩
  · have hx' : (x, NameKind.free) ∈ scope.names := by
     rcases hx with hx | hx
     · exact wF S.nocell hx (.inl rfl)
     · exact wF S.nocell hx (.inr rfl)
    obtain ⟨c, e⟩ := I.ok.has x (S.free _ hx' rfl)
    exact vG _ _ x c hx' e
  · rcases List.mem_cons.mp hb with z | z
    · subst z
      exact ⟨hDC, fun x c e q => absurd (cellLt x c (clF x c e)) (by rw [q]; exact Nat.lt_irrefl _)⟩
    · have := fpo b z
      exact ⟨ltC this, fun x c e q => (hf b z).2.2.2.2.1 x c (clF x c e) q⟩
  · have := I.bs b o e
    exact ⟨k2 b o this.1, this.2⟩
  · refine ⟨?_, I.tabsH⟩
    show (X.base.objs.size : Nat) <= H2.objs.size
    have h1 : (X.base.objs.size : Nat) <= s₂.heap.objs.size := Nat.le_trans I.ok.bsz.1 I.sz
    have h2 : (H2.objs.size : Nat) = C := hCC
    have h3 : (s₂.heap.objs.size : Nat) = D := hDd
    omega
  · have hb := I.bs b o e
    have hb' := hlt hb.1
    intro z
    rcases List.mem_cons.mp z with z | z
    · rw [z] at hb'; exact Nat.lt_irrefl _ hb'
    · rcases (hf b z).2.2.2.1 with q | q
      · exact I.ok.noex b o e q
      · exact absurd (Nat.lt_of_lt_of_le (Heap.lt_size (I.ok.bs b o e).1) q) (Nat.lt_irrefl _)
  · rcases List.mem_cons.mp hb with z | z
    · subst z
      exact fun q => absurd (stkLt _ q) (Nat.lt_irrefl _)
    · exact fpStk b z
  · exact I.stack.of_keeps fun b o e _ => ⟨o, k2 b o e, rfl⟩
 have capt : ∀ (i : Nat) (x : Str) (v : V), NY[i]? = some x -> (slotsY mp σ)[i]? = some (some v) -> ∃ u c, RelV v u /\ (Y.env.kindOf x = some .cell \/ Y.env.kindOf x = some .free) /\ Y.env.cells.lookup x = some c /\ H2.IsCell c (some u) /\ (H c = none \/ ∃ o u, H c = some (.frz o u)) /\ c ∉ D :: fp := by
  intro i x v e1 e2
  have e2' : (mp[i]?.map fun o => o.bind fun j => σ[j]?.join) = some (some v) := by
   unfold slotsY at e2
   rwa [List.getElem?_map] at e2
  cases hm : mp[i]? with
  | none => rw [hm] at e2'; cases e2'
  | some o =>
    rw [hm] at e2'
    cases o with
    | none => simp at e2'
    | some j =>
      simp only [Option.map_some, Option.bind_some, Option.some.injEq] at e2'
      have e4 : σ[j]? = some (some v) := by
       cases hs : σ[j]? with
       | none => rw [hs] at e2'; cases e2'
       | some q => rw [hs] at e2'; simp at e2'; rw [e2']
      obtain ⟨hXj, hfr⟩ := S.map i x j e1 hm
      have hmem : (x, NameKind.free) ∈ scope.names := PySem.mem_of_lookup hfr
      have hk := S.free _ hmem rfl
      obtain ⟨m, hn, hl⟩ := I.loc
      obtain ⟨u, ru, l⟩ := hl j x v hXj e4 (hk.elim (fun z => .inr (.inl z)) fun z => .inr (.inr z))
      have hlook : ∃ c, X.env.cells.lookup x = some c /\ s₂.heap.IsCell c (some u) := by
       rcases l with ⟨kl, _⟩ | ⟨_, c, ec, hcell⟩
       · rcases hk with q | q
         · exact absurd (kl.symm.trans q) (by intro z; cases z)
         · exact absurd (kl.symm.trans q) (by intro z; cases z)
       · exact ⟨c, ec, hcell⟩
      obtain ⟨c, ec, oc, hoc, hocd⟩ := hlook
      obtain ⟨c', ec'⟩ := vG (env := X.env) scope.names [] x c hmem ec
      have : c' = c := Option.some.inj ((clF x c' ec').symm.trans ec)
      subst this
      refine ⟨u, c', ru, lookup_relabel_free hfr, ec', ⟨oc, k2 _ _ hoc, hocd⟩, (I.freeC x c' ec).imp id And.right, fun z => ?_⟩
      rcases List.mem_cons.mp z with z | z
      · have := cellLt x c' ec; rw [z] at this; exact Nat.lt_irrefl _ this
      · exact (hf c' z).2.2.2.2.1 x c' ec rfl
 have lenY : (slotsY mp σ).length = NY.length := by
  unfold slotsY
  rw [List.length_map]
  exact S.len
 have I0 : ∀ tk, Inv Y [] (slotsY mp σ) H { s₂ with heap := h₁, toks := tk } := by
  intro tk
  refine ⟨okY, rfl, I.bare, Un.kept k1, ⟨_, hns₁, fun i x v e1 e2 e3 => ?_⟩, fun x c e => ?_, fr C (by show (D : Nat) <= C; omega), fun x c e => (I.freeC x c (clF x c e)).imp id fun z => ⟨rfl, z.2⟩, fun p hp => absurd (show p ∈ ([] : List (Addr × Obj)) from hp) (by simp), I.hok.kept fun b o e => k1 b o (k2 b o e), lenY⟩
  · obtain ⟨u, c, ru, hk, ec, ⟨oc, hoc, hocd⟩, _⟩ := capt i x v e1 e2
    exact ⟨u, ru, .inr ⟨hk, c, ec, oc, k1 _ _ hoc, hocd⟩⟩
  · obtain ⟨v, o, ho, hd⟩ := I.cell x c (clF x c e)
    exact ⟨v, o, k1 _ _ (k2 _ _ ho), hd⟩
 have stat : ∀ {H' : Hp} {pl : List (Addr × Obj)}, (∀ p ∈ pl, p.1 ∉ fp) -> (∀ b ∈ fp, H' b = none) -> ∀ b ∈ fp, FpOk Y pl H' b := fun hpl hn b hb => by
  have hbD := fpo b hb
  refine ⟨hn b hb, ltC hbD, fpStk b hb, .inl (List.mem_cons_of_mem _ hb), fun x c e => (hf b hb).2.2.2.2.1 x c (clF x c e), fun p hp z => hpl p (show p ∈ _ from hp) (z ▸ hb)⟩
 have dN : D ∉ Y.fs := fun q => absurd (stkLt _ q) (Nat.lt_irrefl _)
 have dFp : D ∉ fp := fun q => absurd (fpo _ q) (Nat.lt_irrefl _)
 have plD : ∀ (o : Obj), ∀ p ∈ [(D, o)], p.1 ∉ fp := fun o p hp => by
  have e : p = (D, o) := by simpa using hp
  rw [e]; exact dFp
 have keyC : ∀ (tk : Nat) (it' : Value), it' = .ref it -> codeAny (model X.prog X.w) X.A (.compLoop (.ListComp elt [⟨tg, iter, ifs, 0⟩] scope pos) 0 it' (.ref D) Y.env) (RR (.ref D) C) { s₂ with heap := h₁, toks := tk } := by
  rintro tk _ rfl
  refine compLoop_own (fun n s' => ∃ i ys H' its, Inv Y [] (slotsY mp σ) H' s' /\ tn i s'.heap /\ (∀ b ∈ fp, H' b = none) /\ H' D = none /\ s'.heap.PlainList D its /\ Vals ys its.toList /\ W i n ys H') ?_ m0
   ⟨0, [], H, #[], I0 tk, T.keep 0 _ _ st fun b _ o e => k1 b o (k2 b o e), fun b hb => (hf b hb).1, fr D (Nat.le_refl _), accP, .nil, w0⟩
  rintro n s3 ⟨i, ys, H3, its, I3, st3, fr3, d3, ⟨kk, pl3⟩, rv3, w3⟩
  have I3' : Inv Y [(D, { cls := .type "list", data := .seq its kk })] (slotsY mp σ) H3 s3 := I3.pins_of fun p hp => by
   have e : p = (D, { cls := .type "list", data := .seq its kk }) := by simpa using hp
   subst e
   exact ⟨pl3, d3, hDC, dN, fun v z => nomatch (show Data.seq its kk = Data.cell v from z)⟩
  rcases turn i n ys H3 w3 with ⟨stop, qn⟩ | ⟨go, hsz, step⟩
  · refine thn (T.done Y rfl rfl rfl hc i _ s3 _ H3 _ I3' (stat (plD _) fr3) st3 stop) fun r s4 ⟨hr, I4⟩ => ?_
    subst hr
    have hD4 : s4.heap.get? D = some { cls := .type "list", data := .seq its kk } := (I4.pin (D, _) (by simp)).1
    have u : Un (frs X.stack) fp H H3 s₂.heap s4.heap := by
     have B : Un (frs X.stack) (D :: fp) H H3 H2 s4.heap := I4.base
     have nx : ∀ {b : Addr} {o : Obj}, s₂.heap.get? b = some o -> b ∉ fp -> b ∉ D :: fp := fun e hb z => by
      rcases List.mem_cons.mp z with z | z
      · have := hlt e; rw [z] at this; exact Nat.lt_irrefl _ this
      · exact hb z
     exact ⟨fun b o q n hb hx => B.keep b o (k2 b o q) n hb (nx q hx), fun b o q n hb hx => B.slot b o (k2 b o q) n hb (nx q hx), fun b o q n hx => B.free b o (k2 b o q) n (nx q hx), fun b o q hx => B.there b o (k2 b o q) (nx q hx), B.tups, B.frzs, B.tbls⟩
    have J4 : Inv X pins σ H3 s4 := I.call' I4.os u I4.hok I4.bare fun b hb => ⟨(hf b hb).2.2.2.1, (hf b hb).2.1, (hf b hb).2.2.2.2.1, (hf b hb).2.2.2.2.2⟩
    obtain ⟨m4, hn4, _⟩ := I4.loc
    refine fin s4 C m4 ys H3 qn d3 I4.free (Ne.symm hDC) hn4 (fun hz => ?_) ⟨(ltC locLt).symm, ?_, fun x c e => ?_, fun p hp => ?_⟩
    · refine J4.adopt d3 ?_ (ltD locLt).symm (fun x c e => ?_) (fun p hp => ?_) ⟨hz, its.toList, kk, rv3, hD4⟩
      · exact hDd ▸ I.sz
      · exact ltD (cellLt x c e)
      · exact ltD (pinLt p hp)
    · have : (X.s₀.heap.objs.size : Nat) <= D := hDd ▸ I.sz
      show (X.s₀.heap.objs.size : Nat) <= C
      omega
    · exact ltC (cellLt x c e)
    · exact ltC (pinLt p hp)
  · refine thn (T.item Y rfl rfl rfl hc i _ s3 _ H3 _ I3' (stat (plD _) fr3) st3 go) fun r s4 ⟨u, hr, h4⟩ => ?_
    subst hr
    refine thn h4 fun _ s5 ⟨x, H5, I5, r5, y5, st5, fr5⟩ => ?_
    have I5' := I5.pinned (stat (plD _) fr5) (T.obj _ _ st5)
    refine thn (hg _ _ s5 _ H5 x u _ I5' r5 (step x H5 y5)) fun _ s6 ⟨σ6, H6, I6, q6⟩ => ?_
    refine thn (ht _ _ s6 σ6 H6 _ I6 q6) fun ok s7 ⟨H7, I7, q7⟩ => ?_
    have back : ∀ {s8 : Shared} {σ8 : St} {H8 : Hp}, Inv Y ([(D, { cls := .type "list", data := .seq its kk })] ++ pinsAt fp s5.heap) σ8 H8 s8 →
      tn (i + 1) s8.heap /\ (∀ b ∈ fp, H8 b = none) /\ H8 D = none /\ s8.heap.get? D = some { cls := .type "list", data := .seq its kk } := fun {s8 σ8 H8} I8 => by
     refine ⟨T.keep _ _ _ st5 fun b hb o e => (I8.pin (b, o) (List.mem_append_right _ (List.mem_append_right _ (xH hb e)))).1, fun b hb => ?_, ?_, ?_⟩
     · obtain ⟨o, e, d⟩ := T.obj _ _ st5 b hb
       exact (I8.pin (b, o) (List.mem_append_right _ (List.mem_append_right _ (xH hb e)))).2.1
     · exact (I8.pin (D, _) (List.mem_append_right _ (List.mem_append_left _ (List.mem_singleton.mpr rfl)))).2.1
     · exact (I8.pin (D, _) (List.mem_append_right _ (List.mem_append_left _ (List.mem_singleton.mpr rfl)))).1
    have drop : ∀ {s8 : Shared} {σ8 : St} {H8 : Hp} {pl : List (Addr × Obj)}, Inv Y pl σ8 H8 s8 -> Inv Y [] (slotsY mp σ) H8 s8 := fun {s8 σ8 H8 pl} I8 => by
     obtain ⟨m8, hn8, _⟩ := I8.loc
     refine ⟨I8.ok, I8.os, I8.bare, I8.base, ⟨m8, hn8, fun i x v e1 e2 e3 => ?_⟩, I8.cell, I8.free, I8.freeC, fun p hp => absurd (show p ∈ ([] : List (Addr × Obj)) from hp) (by simp), I8.hok, lenY⟩
     obtain ⟨u, c, ru, hk, ec, ⟨oc, hoc, hocd⟩, hn, hx⟩ := capt i x v e1 e2
     rcases hn with hn | ⟨ob, ub, hn⟩
     · obtain ⟨sl, e⟩ := I8.base.any hoc hn hx
       exact ⟨u, ru, .inr ⟨hk, c, ec, _, e, hocd⟩⟩
     · obtain ⟨e1, _⟩ := I.hok c _ hn
       obtain ⟨e2, _⟩ := I8.hok c _ (I8.base.frzs c ob ub hn)
       have e3 := k2 _ _ e1
       rw [hoc] at e3; cases e3
       exact ⟨u, ru, .inr ⟨hk, c, ec, oc, e2, hocd⟩⟩
    cases ok with
    | false =>
      obtain ⟨m', hm', w'⟩ := q7
      obtain ⟨b1, b2, b3, b4⟩ := back I7
      exact ⟨m', hm', i + 1, ys, H7, its, drop I7, b1, b2, b3, ⟨kk, b4⟩, rv3, w'⟩
    | true =>
      refine thn (he _ _ s7 σ6 H7 _ I7 q7) fun y s8 ⟨yv, H8, I8, r8, q8⟩ => ?_
      obtain ⟨b1, b2, b3, b4⟩ := back I8
      have hl : ys.length = its.size := by simpa using rv3.length
      refine wpAny_list_append_plain (items := its) ⟨kk, b4⟩ (fun h' pl' sb => ?_) (by omega)
      obtain ⟨m', hm', w'⟩ := q8
      have I9 : Inv Y [] (slotsY mp σ) H8 { s8 with heap := h' } := (drop I8).turned (it := D) (t' := s8.toks) (fun b o hb e => (sb.2 b hb).trans e) b3 hDC (.inl List.mem_cons_self) (fun x c e => ltD (cellLt x c (clF x c e))) fun p hp => absurd (show p ∈ ([] : List (Addr × Obj)) from hp) (by simp)
      refine ⟨m', hm', i + 1, ys ++ [yv], H8, its.push y, I9, ?_, b2, b3, pl', ?_, w'⟩
      · exact T.keep _ _ _ b1 fun b hb o e => (sb.2 b (fun z => dFp (z ▸ hb))).trans e
      · rw [Array.toList_push]
        exact rv3.append (.cons r8 .nil)
 exact codeAny_compStart_list (keyC _ _ rfl) (T.self _ 0 _ _ _ (T.keep 0 _ _ st fun b _ o e => k1 b o (k2 b o e)) (keyC _ _ rfl))
theorem pe_comp {scope : Scope} {NY : List Str} {mp : List (Option Nat)} {tg iter elt : Expr} {ifs : List Expr} {pos : Pos} {wi : TI} {g : CI -> TG} {tt : CI -> TT} {te : CI -> TE}
  (S : CompScope X scope NY mp) (hc : X.calm = true) (hi : PI X tg iter wi)
  (hg : ∀ c, PG (yD X scope NY c) tg (g c)) (ht : ∀ c, PF (yD X scope NY c) ifs (tt c)) (he : ∀ c, PE (yD X scope NY c) elt (te c))
  (hs : ∀ x, foldedSetIterable iter X.env x = pure x := by intro _; rfl) : PE X (.ListComp elt [⟨tg, iter, ifs, 0⟩] scope pos) (tComp wi mp g tt te) := by
 intro pins s σ H Q I h
 rw [eval_ListComp]
 refine wpAny_comprehension_free (use := none) rfl hs (closureFor_of fun y hy hk => I.ok.has y.1 (S.free y hy hk)) S.kind S.names (thn (hi pins s σ H _ I h) fun v s1 h1 => thn h1 fun itv s2 h2 => ?_)
 obtain ⟨it, fp, tn, J, H2, e, I2, T, st2, f2, hk⟩ := h2
 subst e
 refine comp_block (RR := fun acc C => compPost (model X.prog X.w) X.A X.xe none (EP X pins σ Q) acc C) S hc I2 T st2 f2 hg ht he hk ?_
 intro s' C m ys H' q hD hC hCD hn hI hct
 refine ⟨m, hn, fun h' sb => ?_⟩
 have J' := hI q.1
 refine ⟨.ref s2.heap.objs.size, _, J'.turned (it := C) (t' := s'.toks) (fun b o hb e => (sb.2 b hb).trans e) (by rw [qI hCD]; exact hC) hct.1 (.inr hct.2.1) hct.2.2.1 hct.2.2.2, rfl, q.2 _ hD⟩
def tCompS (wi : TI) (mp : List (Option Nat)) (g : CI -> TG) (tt : CI -> TT) (te : CI -> TE) (i : Nat) : TS := fun D σ H => tComp wi mp g tt te σ H fun v H1 => D.nx (σ.set i (some v)) H1
theorem ps_comp {i : Nat} {y : Str} {py : Pos} {scope : Scope} {NY : List Str} {mp : List (Option Nat)} {tg iter elt : Expr} {ifs : List Expr} {pos spos : Pos} {wi : TI} {g : CI -> TG} {tt : CI -> TT} {te : CI -> TE}
  (hN : X.N.Nodup) (hy : X.N[i]? = some y) (hl : X.env.scope.names.lookup y = some .local)
  (hsw : swapsWith (.ListComp elt [⟨tg, iter, ifs, 0⟩] scope pos) (some (.Name y py)) spos.line X.env = pure true)
  (S : CompScope X scope NY mp) (hc : X.calm = true) (hi : PI X tg iter wi)
  (hg : ∀ c, PG (yD X scope NY c) tg (g c)) (ht : ∀ c, PF (yD X scope NY c) ifs (tt c)) (he : ∀ c, PE (yD X scope NY c) elt (te c))
  (hs : ∀ x, foldedSetIterable iter X.env x = pure x := by intro _; rfl) : PS X (.Assign [.Name y py] (.ListComp elt [⟨tg, iter, ifs, 0⟩] scope pos) spos) (tCompS wi mp g tt te i) := by
 intro pins s σ H D I h
 rw [exec_Assign_Name_used _ _ _ _ hsw]
 refine wpAny_bind (wpAny_standAt (wpAny_bind ?_))
 show wpAny _ X.A (do let _ <- comprehension (.ListComp elt [⟨tg, iter, ifs, 0⟩] scope pos) scope X.env _ (newList []) false (eval iter X.env) (some (assign (.Name y py) X.env))) _ _ s
 refine wpAny_bind (wpAny_mono (wpAny_comprehension_free (use := some (assign (.Name y py) X.env)) (Q := fun _ s' => SP X pins D .next s') rfl hs (closureFor_of fun y hy hk => I.ok.has y.1 (S.free y hy hk)) S.kind S.names
  (thn (hi pins s σ H _ I h) fun v s1 h1 => thn h1 fun itv s2 h2 => ?_)) (fun _ s' hq => wpAny_pure (wpAny_pure hq)) fun _ _ e => e)
 obtain ⟨it, fp, tn, J, H2, e, I2, T, st2, f2, hk⟩ := h2
 subst e
 refine comp_block (RR := fun acc C => compPost (model X.prog X.w) X.A X.xe (some (assign (.Name y py) X.env)) (fun _ s' => SP X pins D .next s') acc C) S hc I2 T st2 f2 hg ht he hk ?_
 intro s' C m ys H' q hD hC hCD hn hI hct
 have J' := hI q.1
 refine wpAny_assign_Name (store_ok2 J' hN hy (.inl hl) (v := .ref s2.heap.objs.size) rfl (fun s'' I'' sb => ?_) (.inr hl))
 obtain ⟨a, sba, ha⟩ := sb
 have haC : C ≠ a := by
  rcases ha with rfl | ha
  · exact hct.1
  · exact fun z => hct.2.2.1 _ _ ha z.symm
 refine ⟨m, hn.sameBut sba haC, fun h' sb' => ?_⟩
 exact ⟨_, _, I''.turned (it := C) (t' := s''.toks) (fun b o hb e => (sb'.2 b hb).trans e) (by rw [qI hCD]; exact hC) hct.1 (.inr hct.2.1) hct.2.2.1 hct.2.2.2, q.2 _ hD⟩
end
end L2
namespace TS
open PySem PyProof.Rows
set_option autoImplicit false
def ky (p : Keyed) : Int := numOf p.1
section
variable {prog : Program} {w : World} {A : Around} {E : Value -> Shared -> Prop} {s : Shared} {a₀ : Array Keyed}
end
end TS
namespace TS
open PySem PyProof.Rows
set_option autoImplicit false
def gallop' : Bool -> Keyed -> Array Keyed -> Nat -> Nat -> Nat -> StateT SortSt Sem (Option Nat) := sortPriv% PySem.Builtin.gallop
section
variable {prog : Program} {w : World} {A : Around} {E : Value -> Shared -> Prop} {s : Shared}
variable {st : SortSt} {ask : Nat -> StateT SortSt Sem (Option Bool)} {g : Nat -> Bool} {n : Nat}
 (hask : ∀ (i : Nat) (R : Option Bool -> SortSt -> Prop), i < n -> R (some (g i)) st -> wpS (model prog w) A E s (ask i) R st)
 (mono : ∀ i j, i <= j -> j < n -> g j = true -> g i = true)
include hask mono
end
section
variable {prog : Program} {w : World} {A : Around} {E : Value -> Shared -> Prop} {s : Shared} {st : SortSt}
end
end TS
namespace TS
open PySem PyProof.Rows
set_option autoImplicit false
def Sd (l : List Keyed) : Prop := l.Pairwise fun p q => ky p <= ky q
structure Mg (a b : List Keyed) (o : List Keyed) (x y : Nat) : Prop where
 xa : x <= a.length
 yb : y <= b.length
 pm : (o ++ (a.drop x ++ b.drop y)).Perm (a ++ b)
 sd : Sd o
 le : ∀ p ∈ o, ∀ q, (q ∈ a.drop x \/ q ∈ b.drop y) -> ky p <= ky q
def setMG (g : Nat) : StateT SortSt Sem Unit := (sortPriv% PySem.Builtin.setMinGallop) g
def fin (a b o : Array Keyed) (x y : Nat) : Array Keyed := o ++ a.extract x a.size ++ b.extract y b.size
section
variable {prog : Program} {w : World} {A : Around} {E : Value -> Shared -> Prop} {s : Shared} {a b : Array Keyed}
structure In (a b o : Array Keyed) (x y : Nat) : Prop where
 mg : Mg a.toList b.toList o.toList x y
 x1 : x + 1 < a.size
 y1 : y < b.size
end
end TS
namespace TS
open PySem PyProof.Rows
set_option autoImplicit false
def fiH (a b o : Array Keyed) (x y : Nat) : Array Keyed := a.extract 0 x ++ b.extract 0 y ++ o.reverse
def fiB (a b o : Array Keyed) (x y : Nat) : Array Keyed := b.extract 0 y ++ a.extract 0 x ++ o.reverse
abbrev GH := Option (Array Keyed) × Nat × Nat × Array Keyed × Nat × Nat × Nat
def hi3 (a b o : Array Keyed) (x y mg ca cb : Nat) : StateT SortSt Sem (ForInStep GH) := do
 let p <- elem' a (x - 1)
 if (x - 1 == 0) = true then pure (ForInStep.done (some (fiH a b (o.push p) (x - 1) y), x - 1, y, o.push p, mg, ca, cb))
 else if (decide (ca < 7) && decide (cb < 7)) = true then pure (ForInStep.done (none, x - 1, y, o.push p, mg, ca, cb))
 else pure (ForInStep.yield (none, x - 1, y, o.push p, mg, ca, cb))
def hi2 (a b o : Array Keyed) (x y mg ca cb : Nat) : StateT SortSt Sem (ForInStep GH) := do
 let p <- elem' b (y - 1)
 if (y - 1 == 1) = true then pure (ForInStep.done (some (fiB a b (o.push p) x (y - 1)), x, y - 1, o.push p, mg, ca, cb))
 else do
  let q <- elem' a (x - 1)
  let r <- gallop' true q b 0 (y - 1) (y - 1 - 1)
  match r with
   | some t =>
     if y - 1 - t > 0 then
      if (t == 1) = true then pure (ForInStep.done (some (fiB a b (o.push p ++ (b.extract t (y - 1)).reverse) x t), x, t, o.push p ++ (b.extract t (y - 1)).reverse, mg, ca, y - 1 - t))
      else if (t == 0) = true then pure (ForInStep.done (some (fiH a b (o.push p ++ (b.extract t (y - 1)).reverse) x t), x, t, o.push p ++ (b.extract t (y - 1)).reverse, mg, ca, y - 1 - t))
      else hi3 a b (o.push p ++ (b.extract t (y - 1)).reverse) x t mg ca (y - 1 - t)
     else hi3 a b (o.push p) x (y - 1) mg ca (y - 1 - t)
   | _ => pure (ForInStep.done (some (fiH a b (o.push p) x (y - 1)), x, y - 1, o.push p, mg, ca, cb))
def hi1 (a b o : Array Keyed) (x y mg ca cb : Nat) : StateT SortSt Sem (ForInStep GH) := do
 setMG mg
 let q <- elem' b (y - 1)
 let r <- gallop' false q a 0 x (x - 1)
 match r with
  | some t =>
    if x - t > 0 then
     if (t == 0) = true then pure (ForInStep.done (some (fiH a b (o ++ (a.extract t x).reverse) t y), t, y, o ++ (a.extract t x).reverse, mg, x - t, cb))
     else hi2 a b (o ++ (a.extract t x).reverse) t y mg (x - t) cb
    else hi2 a b o x y mg (x - t) cb
  | _ => pure (ForInStep.done (some (fiH a b o x y), x, y, o, mg, ca, cb))
section
variable {prog : Program} {w : World} {A : Around} {E : Value -> Shared -> Prop} {s : Shared} {a b : Array Keyed}
end
end TS
namespace TS
open PySem PyProof.Rows
set_option autoImplicit false
section
variable {prog : Program} {w : World} {A : Around} {E : Value -> Shared -> Prop} {s : Shared} {a₀ : Array Keyed}
end
end TS
namespace TS
open PySem PyProof.Rows
set_option autoImplicit false
abbrev PQ := Nat × Nat × Nat
def pick (p : Array PQ) : Nat :=
 if Option.any (fun x => decide (x < p[p.size - 2 + 1]?.elim 0 fun x => x.2.1)) (if p.size - 2 > 0 then Option.map (fun x => x.2.1) p[p.size - 2 - 1]? else none) = true then p.size - 2 - 1 else p.size - 2
section
variable {prog : Program} {w : World} {A : Around} {E : Value -> Shared -> Prop} {s : Shared} {a₀ : Array Keyed}
end
section
variable {prog : Program} {w : World} {A : Around} {E : Value -> Shared -> Prop} {s : Shared}
end
end TS
namespace TS
open PySem PyProof.Rows
set_option autoImplicit false
section
variable {prog : Program} {w : World} {A : Around} {E : Value -> Shared -> Prop} {s : Shared}
end
end TS
namespace TS
open PySem PyProof.Rows
set_option autoImplicit false
section
variable {prog : Program} {w : World}
section
variable {A : Around} {R : Result -> Shared -> Prop} {J : Addr} {feet hand : List Addr} {G : Array GenState -> Array GenState -> Prop} {n : Nat} {P : Nat -> Value -> Prop} {Z : Nat -> Shared -> Prop}
end
section
variable {A : Around} {E : Value -> Shared -> Prop} {s : Shared}
end
end
end TS
namespace TS
open PySem PyProof.Rows
set_option autoImplicit false
section
variable {prog : Program} {w : World} {A : Around} {E : Value -> Shared -> Prop} {s : Shared}
end
end TS
namespace TS
open PySem PyProof.Rows
set_option autoImplicit false
section
variable {prog : Program} {w : World} {A : Around} {E : Value -> Shared -> Prop} {s : Shared}
end
end TS
namespace FL
open PySem PySem.Spec PyProof.Rows L2
abbrev Frag := PySem.W.Frag
def KLst (K : Frag) (a : Addr) (xs : List V) : Prop := ∃ (o : Obj) (its : Array Value) (n : Nat), K.lookup a = some o /\ o.cls = .type "list" /\ o.dict = none /\ o.data = .seq its n /\ its.size <= sizeLine /\ Vals xs its.toList
def KTup (K : Frag) (a : Addr) (xs : List V) : Prop := ∃ (o : Obj) (its : Array Value) (n : Nat), K.lookup a = some o /\ o.cls = .type "tuple" /\ o.data = .seq its n /\ its.size <= sizeLine /\ Vals xs its.toList
structure LamT where
 qual : Str
 params : Arguments
 body : FuncBody
 scope : Scope
def lamsE (q : Str) : Nat -> Expr -> List LamT
 | 0, _ => []
 | n + 1, e => match e with
   | .Lambda a b sc _ => [⟨q ++ "<lambda>", a, .expr b, sc⟩]
   | .Call _ as _ _ => as.flatMap (lamsE q n)
   | .Compare l _ cs _ => lamsE q n l ++ cs.flatMap (lamsE q n)
   | .BoolOp _ vs _ => vs.flatMap (lamsE q n)
   | .UnaryOp _ o _ => lamsE q n o
   | .BinOp l _ r _ => lamsE q n l ++ lamsE q n r
   | .IfExp t b o _ => lamsE q n t ++ (lamsE q n b ++ lamsE q n o)
   | .List es _ => es.flatMap (lamsE q n)
   | .Tuple es _ _ => es.flatMap (lamsE q n)
   | .Subscript v i _ => lamsE q n v ++ lamsE q n i
   | _ => []
def lamsS (q : Str) : Nat -> Stmt -> List LamT
 | 0, _ => []
 | n + 1, s => match s with
   | .FunctionDef x a b _ _ _ sc _ _ _ => [⟨q ++ x, a, .stmts b, sc⟩]
   | .Assign _ e _ => lamsE q 12 e
   | .Return (some e) _ => lamsE q 12 e
   | .Expr e _ => lamsE q 12 e
   | .If t a b _ => lamsE q 12 t ++ (a.flatMap (lamsS q n) ++ b.flatMap (lamsS q n))
   | .For _ _ a _ _ => a.flatMap (lamsS q n)
   | .While _ a _ _ => a.flatMap (lamsS q n)
   | _ => []
def lamsOf (x : Str) (b : List Stmt) : List LamT := b.flatMap (lamsS (x ++ ".<locals>.") 8)
def textIn (K : PySem.W.Frag) (m n : Nat) : Option LamT := (makers[m]?).bind fun x => match PySem.W.nsIn K mainGlobals x with
 | some (some (.ref f)) => (match K.lookup f with
   | some ⟨_, _, .func fd, _⟩ => (match fd.body with
     | .stmts b => (lamsOf x b)[n]?
     | _ => none)
   | _ => none)
 | _ => none
def freeR (l : List (Str × NameKind)) : List Str := ((l.filter fun y => y.2 == NameKind.free).map (·.1)).reverse
inductive ClosOk (H : Hp) (O : Addr -> Prop) : List (Str × Addr) -> List V -> Prop
 | nil : ClosOk H O [] []
 | cons {n : Str} {c : Addr} {o : Obj} {u : HO} {w : Value} {x : V} {cl : List (Str × Addr)} {xs : List V} (no : ¬ O c) (h : H c = some (.frz o u)) (d : o.data = .cell (some w)) (r : RelV x w) (t : ClosOk H O cl xs) : ClosOk H O ((n, c) :: cl) (x :: xs)
def LamAt (H : Hp) (O : Addr -> Prop) (f : Addr) (t : LamT) (cl : List (Str × Addr)) : Prop := ¬ O f /\ ∃ (o oc : Obj) (u uc : HO) (fd : FuncData) (c : Addr) (vs : Array Value) (tq : Tok),
 H f = some (.frz o u) /\ o.cls = .type "function" /\ o.data = .func fd /\ fd.qualname = t.qual /\ fd.params = t.params /\ fd.body = t.body /\ fd.scope = t.scope /\ fd.globals = mainGlobals /\ fd.closure = cl /\ fd.defaults = .none /\ fd.kwdefaults = .none /\ fd.code = .ref c /\ fd.builtins = builtinsNs ∧
 ¬ O c /\ H c = some (.frz oc uc) /\ oc.data = .fields vs /\ vs[1]? = some (.str t.qual tq)
mutual
inductive Rep (K : Frag) (H : Hp) (O : Addr -> Prop) : V -> D -> Prop
 | non : Rep K H O .non .non
 | bl (b : Bool) : Rep K H O (.bl b) (.bl b)
 | int (i : Int) : Rep K H O (.int i) (.int i)
 | str (x : Str) : Rep K H O (.str x) (.str x)
 | tup {a : Addr} {xs : List V} {ds : List D} (n : ¬ O a) (h : Rd H a (.tup xs)) (r : Reps K H O xs ds) : Rep K H O (.ref a) (.tup ds)
 | tupK {a : Addr} {xs : List V} {ds : List D} (h : KTup K a xs) (r : Reps K H O xs ds) : Rep K H O (.ref a) (.tup ds)
 | lst {a : Addr} {xs : List V} {ds : List D} (n : ¬ O a) (h : Rd H a (.lst xs)) (r : Reps K H O xs ds) : Rep K H O (.ref a) (.lst ds)
 | lstK {a : Addr} {xs : List V} {ds : List D} (h : KLst K a xs) (r : Reps K H O xs ds) : Rep K H O (.ref a) (.lst ds)
 | dct {a : Addr} {kvs : List (Key × V)} {ks : List Key} {ds : List D} (n : ¬ O a) (h : H a = some (.dK kvs)) (e : kvs.map (·.1) = ks) (r : Reps K H O (kvs.map (·.2)) ds) : Rep K H O (.ref a) (.dct ks ds)
 | ins {a C dx : Addr} {t : Nat} {kvs : List (Str × V)} {ds : List D} (c : PySem.W.nsIn K mainGlobals (clsName t) = some (some (.ref C))) (n : ¬ O a) (h : H a = some (.ins C dx kvs)) (e : kvs.map (·.1) = clsFlds t) (r : Reps K H O (kvs.map (·.2)) ds) : Rep K H O (.ref a) (.ins t ds)
 | clo {f : Addr} {m n : Nat} {t : LamT} {cl : List (Str × Addr)} {xs : List V} {ds : List D} (tx : textIn K m n = some t) (h : LamAt H O f t cl) (e : cl.map (·.1) = freeR t.scope.names) (nd : (cl.map (·.2)).Nodup) (c : ClosOk H O cl xs) (r : Reps K H O xs ds) : Rep K H O (.ref f) (.clo m n ds)
 | fnK {f : Addr} {k : Nat} (h : PySem.W.nsIn K mainGlobals (fnName k) = some (some (.ref f))) : Rep K H O (.ref f) (.clo 1000 k [])
inductive Reps (K : Frag) (H : Hp) (O : Addr -> Prop) : List V -> List D -> Prop
 | nil : Reps K H O [] []
 | cons {x : V} {d : D} {xs : List V} {ds : List D} (h : Rep K H O x d) (t : Reps K H O xs ds) : Reps K H O (x :: xs) (d :: ds)
end
section
variable {K : Frag} {H H' : Hp} {O O' : Addr -> Prop}
def Keep (O : Addr -> Prop) (H H' : Hp) : Prop := ∀ b o, ¬ O b -> H b = some o -> H' b = some o
theorem Keep.of_same (h : Same H H') : Keep O H H' := fun b o _ e => h b o e
theorem Keep.rd {a : Addr} {u : HO} (k : Keep O H H') (n : ¬ O a) (h : Rd H a u) : Rd H' a u := by
 rcases h with h | ⟨o, h⟩
 · exact .inl (k _ _ n h)
 · exact .inr ⟨o, k _ _ n h⟩
theorem ClosOk.keep (k : Keep O H H') : ∀ {cl : List (Str × Addr)} {xs : List V}, ClosOk H O cl xs -> ClosOk H' O cl xs
 | _, _, .nil => .nil
 | _, _, .cons no h d r t => .cons no (k _ _ no h) d r (ClosOk.keep k t)
theorem LamAt.keep {f : Addr} {t : LamT} {cl : List (Str × Addr)} (k : Keep O H H') (h : LamAt H O f t cl) : LamAt H' O f t cl := by
 obtain ⟨n, o, oc, u, uc, fd, c, vs, tq, h1, h2, h3, h4, h5, h6, h7, h8, h9, h10, h11, h12, h13, h14, h15, h16, h17⟩ := h
 exact ⟨n, o, oc, u, uc, fd, c, vs, tq, k _ _ n h1, h2, h3, h4, h5, h6, h7, h8, h9, h10, h11, h12, h13, h14, k _ _ h14 h15, h16, h17⟩
theorem ClosOk.nots (k : ∀ a, O' a -> O a) : ∀ {cl : List (Str × Addr)} {xs : List V}, ClosOk H O cl xs -> ClosOk H O' cl xs
 | _, _, .nil => .nil
 | _, _, .cons no h d r t => .cons (fun z => no (k _ z)) h d r (ClosOk.nots k t)
theorem LamAt.nots {f : Addr} {t : LamT} {cl : List (Str × Addr)} (k : ∀ a, O' a -> O a) (h : LamAt H O f t cl) : LamAt H O' f t cl := by
 obtain ⟨n, o, oc, u, uc, fd, c, vs, tq, h1, h2, h3, h4, h5, h6, h7, h8, h9, h10, h11, h12, h13, h14, h15, h16, h17⟩ := h
 exact ⟨fun z => n (k _ z), o, oc, u, uc, fd, c, vs, tq, h1, h2, h3, h4, h5, h6, h7, h8, h9, h10, h11, h12, h13, fun z => h14 (k _ z), h15, h16, h17⟩
def ins1 (p : Addr) (O : Addr -> Prop) : Addr -> Prop := fun b => b = p \/ O b
theorem ClosOk.ins {p : Addr} (hp : H p = none) : ∀ {cl : List (Str × Addr)} {xs : List V}, ClosOk H O cl xs -> ClosOk H (ins1 p O) cl xs
 | _, _, .nil => .nil
 | _, _, .cons no h d r t => .cons (fun z => z.elim (fun e => by rw [e, hp] at h; cases h) no) h d r (ClosOk.ins hp t)
theorem LamAt.ins {p f : Addr} {t : LamT} {cl : List (Str × Addr)} (hp : H p = none) (h : LamAt H O f t cl) : LamAt H (ins1 p O) f t cl := by
 obtain ⟨n, o, oc, u, uc, fd, c, vs, tq, h1, h2, h3, h4, h5, h6, h7, h8, h9, h10, h11, h12, h13, h14, h15, h16, h17⟩ := h
 exact ⟨fun z => z.elim (fun e => by rw [e, hp] at h1; cases h1) n, o, oc, u, uc, fd, c, vs, tq, h1, h2, h3, h4, h5, h6, h7, h8, h9, h10, h11, h12, h13, fun z => z.elim (fun e => by rw [e, hp] at h15; cases h15) h14, h15, h16, h17⟩
mutual
theorem Rep.keep (k : Keep O H H') : ∀ {v : V} {d : D}, Rep K H O v d -> Rep K H' O v d
 | _, _, .non => .non
 | _, _, .bl b => .bl b
 | _, _, .int i => .int i
 | _, _, .str x => .str x
 | _, _, .tup n h r => .tup n (k.rd n h) (Reps.keep k r)
 | _, _, .tupK h r => .tupK h (Reps.keep k r)
 | _, _, .lst n h r => .lst n (k.rd n h) (Reps.keep k r)
 | _, _, .lstK h r => .lstK h (Reps.keep k r)
 | _, _, .dct n h e r => .dct n (k _ _ n h) e (Reps.keep k r)
 | _, _, .ins c n h e r => .ins c n (k _ _ n h) e (Reps.keep k r)
 | _, _, .clo tx h e nd c r => .clo tx (h.keep k) e nd (c.keep k) (Reps.keep k r)
 | _, _, .fnK h => .fnK h
theorem Reps.keep (k : Keep O H H') : ∀ {vs : List V} {ds : List D}, Reps K H O vs ds -> Reps K H' O vs ds
 | _, _, .nil => .nil
 | _, _, .cons h t => .cons (Rep.keep k h) (Reps.keep k t)
end
theorem Rep.mono (k : Same H H') {v : V} {d : D} (h : Rep K H O v d) : Rep K H' O v d := h.keep (.of_same k)
theorem Reps.mono (k : Same H H') {v : List V} {d : List D} (h : Reps K H O v d) : Reps K H' O v d := h.keep (.of_same k)
mutual
theorem Rep.less (k : ∀ a, O' a -> O a) : ∀ {v : V} {d : D}, Rep K H O v d -> Rep K H O' v d
 | _, _, .non => .non
 | _, _, .bl b => .bl b
 | _, _, .int i => .int i
 | _, _, .str x => .str x
 | _, _, .tup n h r => .tup (fun z => n (k _ z)) h (Reps.less k r)
 | _, _, .tupK h r => .tupK h (Reps.less k r)
 | _, _, .lst n h r => .lst (fun z => n (k _ z)) h (Reps.less k r)
 | _, _, .lstK h r => .lstK h (Reps.less k r)
 | _, _, .dct n h e r => .dct (fun z => n (k _ z)) h e (Reps.less k r)
 | _, _, .ins c n h e r => .ins c (fun z => n (k _ z)) h e (Reps.less k r)
 | _, _, .clo tx h e nd c r => .clo tx (h.nots k) e nd (c.nots k) (Reps.less k r)
 | _, _, .fnK h => .fnK h
theorem Reps.less (k : ∀ a, O' a -> O a) : ∀ {vs : List V} {ds : List D}, Reps K H O vs ds -> Reps K H O' vs ds
 | _, _, .nil => .nil
 | _, _, .cons h t => .cons (Rep.less k h) (Reps.less k t)
end
theorem Rd.some {a : Addr} {u : HO} (h : Rd H a u) : H a ≠ none := by
 rcases h with h | ⟨o, h⟩ <;> (rw [h]; simp)
mutual
theorem Rep.more {p : Addr} (hp : H p = none) : ∀ {v : V} {d : D}, Rep K H O v d -> Rep K H (ins1 p O) v d
 | _, _, .non => .non
 | _, _, .bl b => .bl b
 | _, _, .int i => .int i
 | _, _, .str x => .str x
 | _, _, .tup n h r => .tup (fun z => z.elim (fun e => Rd.some h (e ▸ hp)) n) h (Reps.more hp r)
 | _, _, .tupK h r => .tupK h (Reps.more hp r)
 | _, _, .lst n h r => .lst (fun z => z.elim (fun e => Rd.some h (e ▸ hp)) n) h (Reps.more hp r)
 | _, _, .lstK h r => .lstK h (Reps.more hp r)
 | _, _, .dct n h e r => .dct (fun z => z.elim (fun e => by rw [e, hp] at h; cases h) n) h e (Reps.more hp r)
 | _, _, .ins c n h e r => .ins c (fun z => z.elim (fun e => by rw [e, hp] at h; cases h) n) h e (Reps.more hp r)
 | _, _, .clo tx h e nd c r => .clo tx (h.ins hp) e nd (c.ins hp) (Reps.more hp r)
 | _, _, .fnK h => .fnK h
theorem Reps.more {p : Addr} (hp : H p = none) : ∀ {vs : List V} {ds : List D}, Reps K H O vs ds -> Reps K H (ins1 p O) vs ds
 | _, _, .nil => .nil
 | _, _, .cons h t => .cons (Rep.more hp h) (Reps.more hp t)
end
def mutO : HO -> Bool
 | .lst _ | .dK _ | .dT _ | .set _ _ | .ins _ _ _ => true
 | _ => false
def Old (H : Hp) : Addr -> Prop := fun a => ∃ o, H a = some o /\ mutO o = true
theorem Old.mono (k : Same H H') {a : Addr} (h : Old H a) : Old H' a := let ⟨o, e, m⟩ := h; ⟨o, k _ _ e, m⟩
def jY : Addr -> Prop := fun _ => False
mutual
theorem Rep.flatten (ho : ∀ a, O a -> Old H a) : ∀ {v : V} {d : D}, flat d = true -> Rep K H O' v d -> Rep K H O v d
 | _, _, _, .non => .non
 | _, _, _, .bl b => .bl b
 | _, _, _, .int i => .int i
 | _, _, _, .str x => .str x
 | _, _, f, .tup (a := a) n h r => .tup (fun z => by
    obtain ⟨u, e, m⟩ := ho a z
    rcases h with h | ⟨o, h⟩
    · rw [e] at h; cases h; cases m
    · rw [e] at h; cases h; cases m) h (Reps.flatten ho (by simpa [flat] using f) r)
 | _, _, f, .tupK h r => .tupK h (Reps.flatten ho (by simpa [flat] using f) r)
 | _, _, f, .lst _ _ _ => by simp [flat] at f
 | _, _, f, .lstK _ _ => by simp [flat] at f
 | _, _, f, .dct _ _ _ _ => by simp [flat] at f
 | _, _, f, .ins _ _ _ _ _ => by simp [flat] at f
 | _, _, f, .clo _ _ _ _ _ _ => by simp [flat] at f
 | _, _, f, .fnK _ => by simp [flat] at f
theorem Reps.flatten (ho : ∀ a, O a -> Old H a) : ∀ {vs : List V} {ds : List D}, flats ds = true -> Reps K H O' vs ds -> Reps K H O vs ds
 | _, _, _, .nil => .nil
 | _, _, f, .cons h t => by
   simp only [flats, Bool.and_eq_true] at f
   exact .cons (Rep.flatten ho f.1 h) (Reps.flatten ho f.2 t)
end
theorem Reps.length : ∀ {vs : List V} {ds : List D}, Reps K H O vs ds -> vs.length = ds.length
 | _, _, .nil => rfl
 | _, _, .cons _ t => by simp [Reps.length t]
theorem Reps.get : ∀ {vs : List V} {ds : List D} {i : Nat} {d : D}, Reps K H O vs ds -> ds[i]? = some d -> ∃ v, vs[i]? = some v /\ Rep K H O v d
 | _, _, _, _, .nil, e => by simp at e
 | _, _, 0, _, .cons h _, e => by simp at e; subst e; exact ⟨_, rfl, h⟩
 | _, _, i + 1, d, .cons _ t, e => by
   obtain ⟨v, h1, h2⟩ := Reps.get (i := i) (d := d) t (by simpa using e)
   exact ⟨v, by simpa using h1, h2⟩
theorem Reps.append : ∀ {xs ys : List V} {ds es : List D}, Reps K H O xs ds -> Reps K H O ys es -> Reps K H O (xs ++ ys) (ds ++ es)
 | _, _, _, _, .nil, s => s
 | _, _, _, _, .cons r t, s => .cons r (Reps.append t s)
theorem Reps.set {x : V} {d : D} (r : Rep K H O x d) : ∀ {xs : List V} {ds : List D} (i : Nat), Reps K H O xs ds -> Reps K H O (xs.set i x) (ds.set i d)
 | _, _, _, .nil => .nil
 | _, _, 0, .cons _ t => .cons r t
 | _, _, i + 1, .cons q t => .cons q (Reps.set r i t)
theorem Reps.drop : ∀ {xs : List V} {ds : List D} (n : Nat), Reps K H O xs ds -> Reps K H O (xs.drop n) (ds.drop n)
 | _, _, 0, r => r
 | _, _, _ + 1, .nil => .nil
 | _, _, n + 1, .cons _ t => Reps.drop n t
theorem Reps.take : ∀ {xs : List V} {ds : List D} (n : Nat), Reps K H O xs ds -> Reps K H O (xs.take n) (ds.take n)
 | _, _, 0, _ => .nil
 | _, _, _ + 1, .nil => .nil
 | _, _, n + 1, .cons r t => .cons r (Reps.take n t)
theorem Reps.ints : ∀ (ns : List Int), Reps K H O (ns.map V.int) (ns.map D.int)
 | [] => .nil
 | n :: r => .cons (.int n) (Reps.ints r)
def WRep (K : Frag) (H : Hp) (O : Addr -> Prop) (v : V) (d : D) : Prop := Rep K H O v d \/ ∃ a xs l, v = .ref a /\ d = .lst l /\ O a /\ H a = some (.lst xs) /\ Reps K H O xs l
theorem WRep.mono (k : Same H H') {v : V} {d : D} (h : WRep K H O v d) : WRep K H' O v d := by
 rcases h with h | ⟨a, xs, l, e1, e2, ho, h, r⟩
 · exact .inl (h.mono k)
 · exact .inr ⟨a, xs, l, e1, e2, ho, k _ _ h, r.mono k⟩
theorem WRep.any {v : V} {d : D} (h : WRep K H O v d) : Rep K H jY v d := by
 rcases h with h | ⟨a, xs, l, rfl, rfl, ho, h, r⟩
 · exact h.less (fun _ z => z.elim)
 · exact .lst (fun z => z.elim) (.inl h) (r.less fun _ z => z.elim)
theorem WRep.seqL {v : V} {l : List D} (h : WRep K H O v (.lst l)) : ∃ a xs, v = .ref a /\ SqL K H a xs /\ Reps K H O xs l := by
 rcases h with h | ⟨a, xs, l', rfl, e, ho, h, r⟩
 · cases h with
   | lst n h r => exact ⟨_, _, rfl, .inl h, r⟩
   | lstK h r => exact ⟨_, _, rfl, .inr h, r⟩
 · cases e; exact ⟨a, xs, rfl, .inl (.inl h), r⟩
theorem WRep.seqT {v : V} {l : List D} (h : WRep K H O v (.tup l)) : ∃ a xs, v = .ref a /\ SqT K H a xs /\ Reps K H O xs l := by
 rcases h with h | ⟨a, xs, l', rfl, e, ho, h, r⟩
 · cases h with
   | tup n h r => exact ⟨_, _, rfl, .inl h, r⟩
   | tupK h r => exact ⟨_, _, rfl, .inr h, r⟩
 · cases e
theorem WRep.int' {v : V} {i : Int} (h : WRep K H O v (.int i)) : v = .int i := by
 rcases h with h | ⟨a, xs, l', rfl, e, _⟩
 · cases h; rfl
 · cases e
theorem WRep.bl' {v : V} {i : Bool} (h : WRep K H O v (.bl i)) : v = .bl i := by
 rcases h with h | ⟨a, xs, l', rfl, e, _⟩
 · cases h; rfl
 · cases e
theorem WRep.str' {v : V} {i : Str} (h : WRep K H O v (.str i)) : v = .str i := by
 rcases h with h | ⟨a, xs, l', rfl, e, _⟩
 · cases h; rfl
 · cases e
end
def SlOk (K : Frag) (H₀ H : Hp) (O : Addr -> Prop) : Option V -> Sl -> Prop
 | _, .no => True
 | some x, .v d => Rep K H O x d
 | some (.ref a), .own l => O a /\ ∃ xs, H a = some (.lst xs) /\ Reps K H O xs l
 | some (.ref a), .fr l => ¬ O a /\ H₀ a = none /\ ∃ xs, H a = some (.lst xs) /\ Reps K H O xs l
 | some (.ref a), .exc t => ∃ C o u, PySem.W.nsIn K mainGlobals (xName t) = some (some (.ref C)) /\ H a = some (.frz o u) /\ o.cls = .ref C
 | _, _ => False
def IsOwn (ds : List Sl) (i : Nat) : Prop := ∃ l, ds[i]? = some (.own l)
inductive HI where
 | rep (v : V) (d : D) | base (B : Addr -> Prop)
abbrev Hold := List HI
def HOk (K : Frag) (H₀ H : Hp) (O : Addr -> Prop) : HI -> Prop
 | .rep v d => Rep K H O v d
 | .base B => ∀ a, B a -> O a /\ H₀ a ≠ none
structure Ok (K : Frag) (H₀ H : Hp) (O : Addr -> Prop) (σ : L2.St) (ds : List Sl) (hd : Hold) : Prop where
 same : Same H₀ H
 fresh : ∀ (i : Nat) (l : List D) (a : Addr), ds[i]? = some (.own l) -> σ[i]? = some (some (.ref a)) -> H₀ a = none
 dom : ∀ a, O a -> ∃ xs, H a = some (.lst xs)
 len : σ.length = ds.length
 sl : ∀ (i : Nat) (s : Sl), ds[i]? = some s -> SlOk K H₀ H O (σ[i]?.join) s
 apart : ∀ (i j : Nat) (a : Addr), i ≠ j -> IsOwn ds i -> IsOwn ds j -> σ[i]? = some (some (.ref a)) -> σ[j]? = some (some (.ref a)) -> False
 hold : ∀ p ∈ hd, HOk K H₀ H O p
section
variable {K : Frag} {H₀ H H' : Hp} {O O' : Addr -> Prop} {σ : L2.St} {ds : List Sl} {hd : Hold}
theorem HOk.mono (k : Same H H') : ∀ {p : HI}, HOk K H₀ H O p -> HOk K H₀ H' O p
 | .rep _ _, h => Rep.mono k h
 | .base _, h => h
theorem HOk.keep (k : Keep O H H') : ∀ {p : HI}, HOk K H₀ H O p -> HOk K H₀ H' O p
 | .rep _ _, h => Rep.keep k h
 | .base _, h => h
theorem SlOk.mono (k : Same H H') : ∀ {x : Option V} {s : Sl}, SlOk K H₀ H O x s -> SlOk K H₀ H' O x s
 | none, .no, _ => trivial
 | some (.ref _), .no, _ => trivial
 | some _, .no, _ => by simp [SlOk]
 | some x, .v d, h => by
   have h : Rep K H O x d := by cases x <;> exact h
   show SlOk K H₀ H' O (some x) (.v d)
   have := h.mono k
   cases x <;> exact this
 | some (.ref a), .own l, ⟨ho, xs, h, r⟩ => ⟨ho, xs, k _ _ h, r.mono k⟩
 | some (.ref a), .fr l, ⟨ho, h0, xs, h, r⟩ => ⟨ho, h0, xs, k _ _ h, r.mono k⟩
 | some (.ref a), .exc t, ⟨C, o, u, h1, h2, h3⟩ => ⟨C, o, u, h1, k _ _ h2, h3⟩
theorem Ok.old (o : Ok K H₀ H O σ ds hd) {a : Addr} (h : O a) : Old H a := let ⟨xs, e⟩ := o.dom a h; ⟨_, e, rfl⟩
theorem Ok.mono (k : Same H H') (o : Ok K H₀ H O σ ds hd) : Ok K H₀ H' O σ ds hd :=
 ⟨o.same.trans k, o.fresh, fun a h => let ⟨xs, e⟩ := o.dom a h; ⟨xs, k _ _ e⟩, o.len, fun i s e => (o.sl i s e).mono k, o.apart, fun p hp => (o.hold p hp).mono k⟩
theorem Ok.free {p : Addr} (o : Ok K H₀ H O σ ds hd) (h : H p = none) : ¬ O p := fun z => by
 obtain ⟨xs, e⟩ := o.dom p z
 rw [h] at e; cases e
theorem Ok.read {i : Nat} {d : D} (o : Ok K H₀ H O σ ds hd) (e : ds[i]? = some (.v d)) : ∃ v, σ[i]? = some (some v) /\ Rep K H O v d := by
 have h := o.sl i _ e
 cases q : σ[i]? with
 | none => rw [q] at h; exact h.elim
 | some x =>
   rw [q] at h
   cases x with
   | none => exact h.elim
   | some x => exact ⟨x, rfl, by cases x <;> exact h⟩
theorem Ok.readO {i : Nat} {l : List D} (o : Ok K H₀ H O σ ds hd) (e : ds[i]? = some (.own l)) : ∃ a xs, σ[i]? = some (some (.ref a)) /\ O a /\ H a = some (.lst xs) /\ Reps K H O xs l := by
 have h := o.sl i _ e
 cases q : σ[i]? with
 | none => rw [q] at h; exact h.elim
 | some x =>
   rw [q] at h
   cases x with
   | none => exact h.elim
   | some x =>
     cases x with
     | ref a => obtain ⟨ho, xs, h1, h2⟩ := h; exact ⟨a, xs, rfl, ho, h1, h2⟩
     | _ => exact h.elim
theorem Ok.readX {i t : Nat} (o : Ok K H₀ H O σ ds hd) (e : ds[i]? = some (.exc t)) : ∃ a C ob u, σ[i]? = some (some (.ref a)) /\ PySem.W.nsIn K mainGlobals (xName t) = some (some (.ref C)) /\ H a = some (.frz ob u) /\ ob.cls = .ref C := by
 have h := o.sl i _ e
 cases q : σ[i]? with
 | none => rw [q] at h; exact h.elim
 | some x =>
   rw [q] at h
   cases x with
   | none => exact h.elim
   | some x =>
     cases x with
     | ref a => obtain ⟨C, ob, u, h1, h2, h3⟩ := h; exact ⟨a, C, ob, u, rfl, h1, h2, h3⟩
     | _ => exact h.elim
theorem Ok.readF {i : Nat} {l : List D} (o : Ok K H₀ H O σ ds hd) (e : ds[i]? = some (.fr l)) : ∃ a xs, σ[i]? = some (some (.ref a)) /\ ¬ O a /\ H₀ a = none /\ H a = some (.lst xs) /\ Reps K H O xs l := by
 have h := o.sl i _ e
 cases q : σ[i]? with
 | none => rw [q] at h; exact h.elim
 | some x =>
   rw [q] at h
   cases x with
   | none => exact h.elim
   | some x =>
     cases x with
     | ref a => obtain ⟨ho, h0, xs, h1, h2⟩ := h; exact ⟨a, xs, rfl, ho, h0, h1, h2⟩
     | _ => exact h.elim
theorem yL {x : Option V} : SlOk K H₀ H O x .no := by
 cases x with
 | none => trivial
 | some x => cases x <;> trivial
theorem wI {x : V} {d : D} (h : Rep K H O x d) : SlOk K H₀ H O (some x) (.v d) := by
 cases x <;> exact h
theorem Ok.set {i : Nat} {v : V} {d : D} (o : Ok K H₀ H O σ ds hd) (r : Rep K H O v d) : Ok K H₀ H O (σ.set i (some v)) (ds.set i (.v d)) hd := by
 have own' : ∀ {j : Nat}, IsOwn (ds.set i (.v d)) j -> j ≠ i /\ IsOwn ds j := fun {j} ⟨l, e⟩ => by
  by_cases hj : j = i
  · subst hj
    by_cases hl : j < ds.length
    · rw [List.getElem?_set_self hl] at e; cases e
    · rw [List.getElem?_eq_none (by simpa using hl)] at e; cases e
  · rw [List.getElem?_set_ne (Ne.symm hj)] at e
    exact ⟨hj, l, e⟩
 refine ⟨o.same, fun j l a e1 e2 => ?_, o.dom, by simpa using o.len, fun j s e => ?_, fun j k a hjk hj hk e1 e2 => ?_, o.hold⟩
 · obtain ⟨n1, h1⟩ := own' ⟨l, e1⟩
   rw [List.getElem?_set_ne (Ne.symm n1)] at e1 e2
   exact o.fresh j l a e1 e2
 · by_cases hj : j = i
   · subst hj
     by_cases hl : j < ds.length
     · rw [List.getElem?_set_self hl] at e
       cases e
       rw [List.getElem?_set_self (by rw [o.len]; exact hl)]
       exact wI r
     · rw [List.getElem?_eq_none (by simpa using hl)] at e; cases e
   · rw [List.getElem?_set_ne (Ne.symm hj)] at e
     rw [List.getElem?_set_ne (Ne.symm hj)]
     exact o.sl j s e
 · obtain ⟨n1, h1⟩ := own' hj
   obtain ⟨n2, h2⟩ := own' hk
   rw [List.getElem?_set_ne (Ne.symm n1)] at e1
   rw [List.getElem?_set_ne (Ne.symm n2)] at e2
   exact o.apart j k a hjk h1 h2 e1 e2
theorem Ok.setO {i : Nat} {a : Addr} {xs : List V} {l : List D} (o : Ok K H₀ H O σ ds hd) (k : Same H H') (hn : H a = none) (e : H' a = some (.lst xs)) (r : Reps K H' (ins1 a O) xs l) :
  Ok K H₀ H' (ins1 a O) (σ.set i (some (.ref a))) (ds.set i (.own l)) hd := by
 have up : ∀ {v : V} {d : D}, Rep K H O v d -> Rep K H' (ins1 a O) v d := fun h => (h.more hn).mono k
 have ups : ∀ {v : List V} {d : List D}, Reps K H O v d -> Reps K H' (ins1 a O) v d := fun h => (h.more hn).mono k
 have other : ∀ j : Nat, IsOwn ds j -> σ[j]? = some (some (.ref a)) -> False := fun j ⟨l', e'⟩ q => by
  obtain ⟨b, ys, h1, h2, h3, _⟩ := o.readO e'
  rw [q] at h1; cases h1
  rw [hn] at h3; cases h3
 have own' : ∀ {j : Nat}, j ≠ i -> IsOwn (ds.set i (.own l)) j -> IsOwn ds j := fun {j} hj ⟨l', e'⟩ => ⟨l', by rwa [List.getElem?_set_ne (Ne.symm hj)] at e'⟩
 refine ⟨o.same.trans k, fun j l' b e1 e2 => ?_, fun b hb => ?_, by simpa using o.len, fun j s es => ?_, fun j m b hjm hj hm e1 e2 => ?_, fun p hp => ?_⟩
 rotate_left 4
 · have := o.hold p hp
   cases p with
   | rep v d => exact up this
   | base B => exact fun b hb => ⟨.inr (this b hb).1, (this b hb).2⟩
 · by_cases hj : j = i
   · subst hj
     by_cases hl : j < σ.length
     · rw [List.getElem?_set_self hl] at e2
       cases e2
       exact o.same.free hn
     · rw [List.getElem?_eq_none (by simpa using hl)] at e2; cases e2
   · rw [List.getElem?_set_ne (Ne.symm hj)] at e1 e2
     exact o.fresh j l' b e1 e2
 · rcases hb with rfl | hb
   · exact ⟨xs, e⟩
   · obtain ⟨ys, q⟩ := o.dom b hb
     exact ⟨ys, k _ _ q⟩
 · by_cases hj : j = i
   · subst hj
     by_cases hl : j < ds.length
     · rw [List.getElem?_set_self hl] at es
       cases es
       rw [List.getElem?_set_self (by rw [o.len]; exact hl)]
       exact ⟨.inl rfl, xs, e, r⟩
     · rw [List.getElem?_eq_none (by simpa using hl)] at es; cases es
   · rw [List.getElem?_set_ne (Ne.symm hj)] at es
     rw [List.getElem?_set_ne (Ne.symm hj)]
     cases s with
     | no => exact yL
     | exc t =>
       obtain ⟨a', C', ob', u', q1, q2, q3, q4⟩ := o.readX es
       rw [q1]
       exact ⟨C', ob', u', q2, k _ _ q3, q4⟩
     | fr l' =>
       obtain ⟨a', xs', q1, q2, q0, q3, q4⟩ := o.readF es
       rw [q1]
       exact ⟨fun z => z.elim (fun e' => by rw [e', hn] at q3; cases q3) q2, q0, xs', k _ _ q3, ups q4⟩
     | v d =>
       obtain ⟨v, h1, h2⟩ := o.read es
       rw [h1]
       exact wI (up h2)
     | own l' =>
       obtain ⟨b, ys, h1, h2, h3, h4⟩ := o.readO es
       rw [h1]
       exact ⟨.inr h2, ys, k _ _ h3, ups h4⟩
 · have hs : ∀ {q : Nat}, q = i -> (σ.set i (some (V.ref a)))[q]? = some (some (.ref b)) -> b = a := fun {q} hq eq => by
    subst hq
    by_cases hl : q < σ.length
    · rw [List.getElem?_set_self hl] at eq
      cases eq; rfl
    · rw [List.getElem?_eq_none (by simpa using hl)] at eq; cases eq
   by_cases h1 : j = i
   · have hb := hs h1 e1
     have h2 : m ≠ i := fun z => hjm (h1.trans z.symm)
     rw [List.getElem?_set_ne (Ne.symm h2), hb] at e2
     exact other m (own' h2 hm) e2
   · by_cases h2 : m = i
     · have hb := hs h2 e2
       rw [List.getElem?_set_ne (Ne.symm h1), hb] at e1
       exact other j (own' h1 hj) e1
     · rw [List.getElem?_set_ne (Ne.symm h1)] at e1
       rw [List.getElem?_set_ne (Ne.symm h2)] at e2
       exact o.apart j m b hjm (own' h1 hj) (own' h2 hm) e1 e2
theorem Ok.release {i : Nat} {l : List D} (o : Ok K H₀ H O σ ds hd) (e : ds[i]? = some (.own l)) : ∃ O', Ok K H₀ H O' σ (ds.set i (.v (.lst l))) hd := by
 obtain ⟨a, xs, h1, h2, h3, h4⟩ := o.readO e
 have hl : i < ds.length := (List.getElem?_eq_some_iff.mp e).1
 let O' : Addr -> Prop := fun b => O b /\ b ≠ a
 have sub : ∀ b, O' b -> O b := fun b hb => hb.1
 have na : ¬ O' a := fun hb => hb.2 rfl
 have own0 : ∀ {j : Nat} {l' : List D}, (ds.set i (.v (.lst l)))[j]? = some (.own l') -> ds[j]? = some (.own l') := fun {j l'} e' => by
  by_cases hj : j = i
  · subst hj
    rw [List.getElem?_set_self hl] at e'; cases e'
  · rwa [List.getElem?_set_ne (Ne.symm hj)] at e'
 refine ⟨O', o.same, fun j l' b e1 e2 => o.fresh j l' b (own0 e1) e2, fun b hb => o.dom b (sub b hb), by simpa using o.len, fun j s es => ?_, fun j m b hjm hj hm e1 e2 => ?_, fun p hp => ?_⟩
 rotate_left 2
 · have := o.hold p hp
   cases p with
   | rep v d => exact Rep.less sub this
   | base B => exact fun b hb => ⟨⟨(this b hb).1, fun z => (this b hb).2 (z ▸ o.fresh i l a e h1)⟩, (this b hb).2⟩
 · by_cases hj : j = i
   · subst hj
     rw [List.getElem?_set_self hl] at es
     cases es
     rw [h1]
     exact wI (.lst na (.inl h3) (h4.less sub))
   · rw [List.getElem?_set_ne (Ne.symm hj)] at es
     cases s with
     | no => exact yL
     | exc t =>
       obtain ⟨a', C', ob', u', q1, q2, q3, q4⟩ := o.readX es
       rw [q1]
       exact ⟨C', ob', u', q2, q3, q4⟩
     | fr l' =>
       obtain ⟨a', xs', q1, q2, q0, q3, q4⟩ := o.readF es
       rw [q1]
       exact ⟨fun z => q2 (sub _ z), q0, xs', q3, q4.less sub⟩
     | v d =>
       obtain ⟨v, q1, q2⟩ := o.read es
       rw [q1]
       exact wI (q2.less sub)
     | own l' =>
       obtain ⟨b, ys, q1, q2, q3, q4⟩ := o.readO es
       rw [q1]
       refine ⟨⟨q2, fun z => ?_⟩, ys, q3, q4.less sub⟩
       subst z
       exact o.apart j i b hj ⟨l', es⟩ ⟨l, e⟩ q1 h1
 · have own' : ∀ {j : Nat}, IsOwn (ds.set i (.v (.lst l))) j -> IsOwn ds j := fun {j} ⟨l', e'⟩ => by
    by_cases hj : j = i
    · subst hj
      rw [List.getElem?_set_self hl] at e'; cases e'
    · rw [List.getElem?_set_ne (Ne.symm hj)] at e'; exact ⟨l', e'⟩
   exact o.apart j m b hjm (own' hj) (own' hm) e1 e2
theorem Ok.modify {i : Nat} {l l' : List D} {a : Addr} {xs' : List V} (o : Ok K H₀ H O σ ds hd) (e : ds[i]? = some (.own l)) (ea : σ[i]? = some (some (.ref a))) (r : Reps K H O xs' l') :
  Ok K H₀ (upd H a (.lst xs')) O σ (ds.set i (.own l')) hd := by
 obtain ⟨a', xs, h1, h2, h3, h4⟩ := o.readO e
 rw [ea] at h1; cases h1
 have hl : i < ds.length := (List.getElem?_eq_some_iff.mp e).1
 have k : Keep O H (upd H a (.lst xs')) := fun b u hb eb => by
  rw [qI (fun (z : b = a) => hb (z.symm ▸ h2))]; exact eb
 refine ⟨fun b u eb => ?_, fun j l2 b e1 e2 => ?_, fun b hb => ?_, by simpa using o.len, fun j s es => ?_, fun j m b hjm hj hm e1 e2 => ?_, fun p hp => (o.hold p hp).keep k⟩
 rotate_left 1
 · by_cases hj : j = i
   · subst hj; exact o.fresh j l b e e2
   · rw [List.getElem?_set_ne (Ne.symm hj)] at e1; exact o.fresh j l2 b e1 e2
 rotate_right 1
 · rw [qI (fun z => by rw [z, o.fresh i l a e ea] at eb; cases eb)]
   exact o.same b u eb
 · by_cases hba : b = a
   · subst hba; exact ⟨xs', qQ⟩
   · rw [qI hba]; exact o.dom b hb
 · by_cases hj : j = i
   · subst hj
     rw [List.getElem?_set_self hl] at es
     cases es
     rw [ea]
     exact ⟨h2, xs', qQ, r.keep k⟩
   · rw [List.getElem?_set_ne (Ne.symm hj)] at es
     cases s with
     | no => exact yL
     | exc t =>
       obtain ⟨a', C', ob', u', q1, q2, q3, q4⟩ := o.readX es
       rw [q1]
       exact ⟨C', ob', u', q2, by rw [qI (fun z => by rw [z, h3] at q3; cases q3)]; exact q3, q4⟩
     | fr l' =>
       obtain ⟨a', xs'', q1, q2, q0, q3, q4⟩ := o.readF es
       rw [q1]
       exact ⟨q2, q0, xs'', by rw [qI (fun z => q2 (by rw [z]; exact h2))]; exact q3, q4.keep k⟩
     | v d =>
       obtain ⟨v, q1, q2⟩ := o.read es
       rw [q1]
       exact wI (q2.keep k)
     | own l'' =>
       obtain ⟨b, ys, q1, q2, q3, q4⟩ := o.readO es
       rw [q1]
       refine ⟨q2, ys, ?_, q4.keep k⟩
       rw [qI (fun z => ?_)]
       · exact q3
       · subst z
         exact o.apart j i b hj ⟨_, es⟩ ⟨l, e⟩ q1 ea
 · have own' : ∀ {j : Nat}, IsOwn (ds.set i (.own l')) j -> IsOwn ds j := fun {j} ⟨l'', e'⟩ => by
    by_cases hj : j = i
    · subst hj; exact ⟨l, e⟩
    · rw [List.getElem?_set_ne (Ne.symm hj)] at e'; exact ⟨l'', e'⟩
   exact o.apart j m b hjm (own' hj) (own' hm) e1 e2
theorem Ok.holdMore {p : HI} (o : Ok K H₀ H O σ ds hd) (r : HOk K H₀ H O p) : Ok K H₀ H O σ ds (p :: hd) :=
 ⟨o.same, o.fresh, o.dom, o.len, o.sl, o.apart, fun q hq => (List.mem_cons.mp hq).elim (fun e => e ▸ r) (o.hold q)⟩
theorem Ok.holdLess {p : HI} (o : Ok K H₀ H O σ ds (p :: hd)) : Ok K H₀ H O σ ds hd :=
 ⟨o.same, o.fresh, o.dom, o.len, o.sl, o.apart, fun q hq => o.hold q (List.mem_cons_of_mem _ hq)⟩
end
end FL
namespace FL
open PySem PySem.Spec PyProof.Rows L2
section
variable (X : Cx)
def PV (e : Expr) (f : FE) : Prop := ∃ t, PE X e t /\ ∀ H₀ H O σ ds hd d Q, Ok X.K H₀ H O σ ds hd -> f ds = some d -> (∀ v H', Same H H' -> Rep X.K H' O v d -> Q v H') -> t σ H Q
def PVw (e : Expr) (f : FE) : Prop := ∃ t, PE X e t /\ ∀ H₀ H O σ ds hd d Q, Ok X.K H₀ H O σ ds hd -> f ds = some d -> (∀ v H', Same H H' -> WRep X.K H' O v d -> Q v H') -> t σ H Q
def PVf (e : Expr) (f : FA) : Prop := ∃ t, PE X e t /\ ∀ H₀ H O σ ds hd l Q, Ok X.K H₀ H O σ ds hd -> f ds = some l →
 (∀ a xs H', Same H H' -> H a = none -> H' a = some (.lst xs) -> Reps X.K H' (ins1 a O) xs l -> Q (.ref a) H') -> t σ H Q
def PTv (e : Expr) (c : FT) : Prop := ∃ t, PT X e t /\ ∀ H₀ H O σ ds hd b Q, Ok X.K H₀ H O σ ds hd -> c ds = some b -> (∀ H', Same H H' -> Q b H') -> t σ H Q
def PWv (e : Expr) (c : FT) : Prop := ∃ t, PW X e t /\ ∀ H₀ H O σ ds hd b Q, Ok X.K H₀ H O σ ds hd -> c ds = some b -> (∀ H', Same H H' -> Q b H') -> t σ H Q
def PAv (es : List Expr) (f : FA) : Prop := ∃ t, PA X es t /\ ∀ H₀ H O σ ds hd l Q, Ok X.K H₀ H O σ ds hd -> f ds = some l -> (∀ vs H', Same H H' -> Paired (WRep X.K H' O) vs l -> Q vs H') -> t σ H Q
def PAs (es : List Expr) (f : FA) : Prop := ∃ t, PA X es t /\ ∀ H₀ H O σ ds hd l Q, Ok X.K H₀ H O σ ds hd -> f ds = some l -> (∀ vs H', Same H H' -> Reps X.K H' O vs l -> Q vs H') -> t σ H Q
end
section
variable {X : Cx}
theorem PV.w {e : Expr} {f : FE} (h : PV X e f) : PVw X e f := by
 obtain ⟨t, ht, hf⟩ := h
 exact ⟨t, ht, fun H₀ H O σ ds hd d Q o e q => hf H₀ H O σ ds hd d Q o e fun v H' s r => q v H' s (.inl r)⟩
theorem PVf.s {e : Expr} {f : FA} (h : PVf X e f) : PV X e (mkL f) := by
 obtain ⟨t, ht, hf⟩ := h
 refine ⟨t, ht, fun H₀ H O σ ds hd d Q o e q => ?_⟩
 unfold mkL at e
 cases hl : f ds with
 | none => rw [hl] at e; cases e
 | some l =>
   rw [hl] at e; cases e
   refine hf H₀ H O σ ds hd l Q o hl fun a xs H' s hn he r => q _ _ s ?_
   exact .lst (o.free hn) (.inl he) (r.less fun _ z => .inr z)
theorem zZ (i : Nat) {x : Str} {pos : Pos} (hN : X.N[i]? = some x := by rfl) (hv : Vis X.env.scope x := by first | exact Or.inl rfl | exact Or.inr (Or.inl rfl) | exact Or.inr (Or.inr rfl)) (hd : (x == ("__debug__" : Str)) = false := by decide)
  (hcd : (x == ("__classdict__" : Str)) = false := by decide) : PV X (.Name x pos) (qZ i) := by
 refine ⟨_, wK hN hv hd hcd, fun H₀ H O σ ds hd d Q o e q => ?_⟩
 unfold qZ at e
 cases hs : ds[i]? with
 | none => rw [hs] at e; cases e
 | some s =>
   rw [hs] at e
   cases s with
   | v d' =>
     cases e
     obtain ⟨v, h1, h2⟩ := o.read hs
     exact ⟨v, h1, q v H (Same.refl _) h2⟩
   | no => cases e
   | exc _ => cases e
   | fr _ => cases e
   | own l => cases e
theorem zB (i : Nat) {x : Str} {pos : Pos} (hN : X.N[i]? = some x := by rfl) (hv : Vis X.env.scope x := by first | exact Or.inl rfl | exact Or.inr (Or.inl rfl) | exact Or.inr (Or.inr rfl)) (hd : (x == ("__debug__" : Str)) = false := by decide)
  (hcd : (x == ("__classdict__" : Str)) = false := by decide) : PVw X (.Name x pos) (zL i) := by
 refine ⟨_, wK hN hv hd hcd, fun H₀ H O σ ds hd d Q o e q => ?_⟩
 unfold zL at e
 cases hs : ds[i]? with
 | none => rw [hs] at e; cases e
 | some s =>
   rw [hs] at e
   cases s with
   | v d' =>
     cases e
     obtain ⟨v, h1, h2⟩ := o.read hs
     exact ⟨v, h1, q v H (Same.refl _) (.inl h2)⟩
   | no => cases e
   | exc _ => cases e
   | fr _ => cases e
   | own l =>
     cases e
     obtain ⟨a, xs, h1, h2, h3, h4⟩ := o.readO hs
     exact ⟨.ref a, h1, q _ H (Same.refl _) (.inr ⟨a, xs, l, rfl, rfl, h2, h3, h4⟩)⟩
theorem zF {i : Int} {j pos} : PV X (.Constant (.int i) j pos) (zC (.int i)) := ⟨_, pe_int, fun _ H _ _ _ _ _ _ _ e q => by cases e; exact q _ H (Same.refl _) (.int i)⟩
theorem xD {b : Bool} {j pos} : PV X (.Constant (.bool b) j pos) (zC (.bl b)) := ⟨_, pe_bl, fun _ H _ _ _ _ _ _ _ e q => by cases e; exact q _ H (Same.refl _) (.bl b)⟩
theorem qP {j pos} : PV X (.Constant .none j pos) (zC .non) := ⟨_, pe_non, fun _ H _ _ _ _ _ _ _ e q => by cases e; exact q _ H (Same.refl _) .non⟩
theorem qR {x : Str} {j pos} : PV X (.Constant (.str x) j pos) (zC (.str x)) := ⟨_, pe_str, fun _ H _ _ _ _ _ _ _ e q => by cases e; exact q _ H (Same.refl _) (.str x)⟩
theorem pv_glob {x : Str} {v : V} {u : Value} {d : D} {pos : Pos} (hg : Gl X x) (hm : X.mg x = some u) (r : RelV v u) (hr : ∀ H O, Rep X.K H O v d) (hd : (x == ("__debug__" : Str)) = false := by decide) : PV X (.Name x pos) (zC d) :=
 ⟨_, pe_glob hg hm r hd, fun _ H O _ _ _ _ _ _ e q => by cases e; exact q _ H (Same.refl _) (hr H O)⟩
def OpS (X : Cx) (r : R2) (op : D -> D -> Option D) : Prop := ∀ H O x y dx dy d Q, (∀ a, O a -> ∃ xs, H a = some (.lst xs)) -> WRep X.K H O x dx -> WRep X.K H O y dy -> op dx dy = some d -> (∀ v H', Same H H' -> Rep X.K H' O v d -> Q v H') -> r x y H Q
theorem pv_tOp {r : R2} {op : D -> D -> Option D} (hs : OpS X r op) {a b : Expr} {fa fb : FE} {ta tb : TE} (ha : ∀ H₀ H O σ ds hd d Q, Ok X.K H₀ H O σ ds hd -> fa ds = some d -> (∀ v H', Same H H' -> WRep X.K H' O v d -> Q v H') -> ta σ H Q)
  (hb : ∀ H₀ H O σ ds hd d Q, Ok X.K H₀ H O σ ds hd -> fb ds = some d -> (∀ v H', Same H H' -> WRep X.K H' O v d -> Q v H') -> tb σ H Q) :
  ∀ H₀ H O σ ds hd d Q, Ok X.K H₀ H O σ ds hd -> zK op fa fb ds = some d -> (∀ v H', Same H H' -> Rep X.K H' O v d -> Q v H') -> tOp r ta tb σ H Q := by
 intro H₀ H O σ ds hd d Q o e q
 unfold zK at e
 cases h1 : fa ds with
 | none => rw [h1] at e; cases e
 | some dx =>
   cases h2 : fb ds with
   | none => rw [h1, h2] at e; cases e
   | some dy =>
     rw [h1, h2] at e
     refine ha H₀ H O σ ds hd dx _ o h1 fun x H1 s1 r1 => ?_
     refine hb H₀ H1 O σ ds hd dy _ (o.mono s1) h2 fun y H2 s2 r2 => ?_
     exact hs H2 O x y dx dy d Q ((o.mono s1).mono s2).dom (r1.mono s2) r2 e fun v H' s r => q v H' ((s1.trans s2).trans s) r
theorem vO {op : Operator} {r : R2} {opD : D -> D -> Option D} {a b : Expr} {fa fb : FE} {pos : Pos} (ho : OpR X (binaryOp op) r) (hs : OpS X r opD) (ha : PVw X a fa) (hb : PVw X b fb) : PV X (.BinOp a op b pos) (zK opD fa fb) := by
 obtain ⟨ta, pa, ha⟩ := ha
 obtain ⟨tb, pb, hb⟩ := hb
 exact ⟨_, pe_op ho pa pb, pv_tOp hs (a := a) (b := b) ha hb⟩
theorem pv_cmp {op : CmpOp} {r : R2} {opD : D -> D -> Option D} {a b : Expr} {fa fb : FE} {pos : Pos} (ho : OpR X (compareOp op) r) (hs : OpS X r opD) (ha : PVw X a fa) (hb : PVw X b fb) (hm : behindInMarks op b = false) : PV X (.Compare a [op] [b] pos) (zK opD fa fb) := by
 obtain ⟨ta, pa, ha⟩ := ha
 obtain ⟨tb, pb, hb⟩ := hb
 exact ⟨_, pe_cmpR ho pa pb hm, pv_tOp hs (a := a) (b := b) ha hb⟩
theorem pt_cmpV {op : CmpOp} {r : R2} {opD : D -> D -> Option D} {a b : Expr} {fa fb : FE} {pos : Pos} (ho : OpR X (compareOp op) r) (hs : OpS X r opD) (ha : PVw X a fa) (hb : PVw X b fb) (hm : behindInMarks op b = false) : PTv X (.Compare a [op] [b] pos) (zW (zK opD fa fb)) := by
 obtain ⟨ta, pa, ha⟩ := ha
 obtain ⟨tb, pb, hb⟩ := hb
 refine ⟨_, pt_cmpR ho pa pb hm, fun H₀ H O σ ds hd k Q o e q => ?_⟩
 unfold zW at e
 cases h : zK opD fa fb ds with
 | none => rw [h] at e; cases e
 | some d =>
   rw [h] at e
   refine pv_tOp hs (a := a) (b := b) ha hb H₀ H O σ ds hd d _ o h fun v H' s r => ?_
   cases d with
   | bl c => cases e; cases r; exact ⟨_, rfl, q H' s⟩
   | _ => cases e
theorem os_add : OpS X (fun x y H Q => rI0 (fun i j => .int (i + j)) x y H Q \/ ∃ i j, x = .str i /\ y = .str j /\ i.length + j.length <= sizeLine /\ Q (.str (i ++ j)) H) jT := by
 intro H O x y dx dy d Q ho rx ry e q
 cases dx <;> cases dy <;> first | (simp [jT] at e; done) | skip
 · cases e
   rw [rx.int', ry.int']
   exact .inl ⟨_, _, rfl, rfl, q _ H (Same.refl _) (.int _)⟩
 · rename_i x y
   simp only [jT] at e
   split at e
   · rename_i hl
     cases e
     rw [rx.str', ry.str']
     exact .inr ⟨_, _, rfl, rfl, hl, q _ H (Same.refl _) (.str _)⟩
   · cases e
theorem op_addU : OpR X (binaryOp .Add) (fun x y H Q => rI0 (fun i j => .int (i + j)) x y H Q \/ ∃ i j, x = .str i /\ y = .str j /\ i.length + j.length <= sizeLine /\ Q (.str (i ++ j)) H) := op_add.or op_add_str
theorem os_sub : OpS X (rI0 fun i j => .int (i - j)) subD := by
 intro H O x y dx dy d Q ho rx ry e q
 cases dx <;> cases dy <;> first | (simp [subD] at e; done) | skip
 cases e
 rw [rx.int', ry.int']
 exact ⟨_, _, rfl, rfl, q _ H (Same.refl _) (.int _)⟩
def CDivB (i j : Int) : Prop := divOk j
theorem op_fdivB : OpR X (binaryOp .FloorDiv) (rI CDivB fun i j => .int (i / j)) := opI fun i j _ _ _ _ _ hc q => by
 have e : i.fdiv j = i / j := Int.fdiv_eq_ediv_of_nonneg _ (Int.le_of_lt hc.1)
 refine floordiv_int (by have := hc.1; omega) ?_ (.inl (PyProof.noPylong_of_log2 hc.2))
 rw [e]; exact q
theorem os_fdiv : OpS X (rI CDivB fun i j => .int (i / j)) yT := by
 intro H O x y dx dy d Q ho rx ry e q
 cases dx <;> cases dy <;> first | (simp [yT] at e; done) | skip
 simp only [yT] at e
 split at e
 · rename_i hc
   cases e
   rw [rx.int', ry.int']
   exact ⟨_, _, rfl, rfl, hc, q _ H (Same.refl _) (.int _)⟩
 · cases e
theorem os_mod : OpS X (rI (fun _ j => 0 < j) fun i j => .int (i % j)) wW := by
 intro H O x y dx dy d Q ho rx ry e q
 cases dx <;> cases dy <;> first | (simp [wW] at e; done) | skip
 simp only [wW] at e
 split at e
 · rename_i hc
   cases e
   rw [rx.int', ry.int']
   exact ⟨_, _, rfl, rfl, hc, q _ H (Same.refl _) (.int _)⟩
 · cases e
theorem yQ {p : Int -> Int -> Bool} : OpS X (rI0 fun i j => .bl (p i j)) (cmpI p) := by
 intro H O x y dx dy d Q ho rx ry e q
 cases dx <;> cases dy <;> first | (simp [cmpI] at e; done) | skip
 cases e
 rw [rx.int', ry.int']
 exact ⟨_, _, rfl, rfl, q _ H (Same.refl _) (.bl _)⟩
end
end FL
namespace FL
open PySem PySem.Spec PyProof.Rows L2
section
variable {X : Cx}
theorem PV.t {e : Expr} {f : FE} (h : PV X e f) (he : ∀ whole, isTrue e X.env whole = (do let v <- whole; standAt e.pos; holding [v] (truthy v)) := by intro _; rfl) : PTv X e (zW f) := by
 obtain ⟨t, ht, hf⟩ := h
 refine ⟨_, pt_val ht he, fun H₀ H O σ ds hd k Q o e q => ?_⟩
 unfold zW at e
 cases h : f ds with
 | none => rw [h] at e; cases e
 | some d =>
   rw [h] at e
   refine hf H₀ H O σ ds hd d _ o h fun v H' s r => ?_
   cases d with
   | bl c => cases e; cases r; exact ⟨_, rfl, q H' s⟩
   | _ => cases e
theorem yG {a : Expr} {pos : Pos} {c : FT} (ha : PTv X a c) : PWv X (.BoolOp .And [a] pos) c := by
 obtain ⟨t, ht, hf⟩ := ha
 exact ⟨_, pw_and1 ht, hf⟩
theorem xA {a : Expr} {pos : Pos} {c : FT} (ha : PTv X a c) : PWv X (.BoolOp .Or [a] pos) c := by
 obtain ⟨t, ht, hf⟩ := ha
 exact ⟨_, pw_or1 ht, hf⟩
theorem yK {a b : Expr} {rest : List Expr} {pos : Pos} {c d : FT} (ha : PTv X a c) (hb : PWv X (.BoolOp .And (b :: rest) pos) d) : PWv X (.BoolOp .And (a :: b :: rest) pos) (andT c d) := by
 obtain ⟨t, ht, hf⟩ := ha
 obtain ⟨u, hu, hg⟩ := hb
 refine ⟨_, pw_and ht hu, fun H₀ H O σ ds hd k Q o e q => ?_⟩
 unfold andT at e
 cases h : c ds with
 | none => rw [h] at e; cases e
 | some b =>
   rw [h] at e
   refine hf H₀ H O σ ds hd b _ o h fun H' s => ?_
   cases b with
   | true => exact iteT (hg H₀ H' O σ ds hd k Q (o.mono s) (by simpa using e) fun H'' s' => q H'' (s.trans s'))
   | false =>
     have : false = k := by simpa using e
     subst this
     exact iteF (q H' s)
theorem xE {a b : Expr} {rest : List Expr} {pos : Pos} {c d : FT} (ha : PTv X a c) (hb : PWv X (.BoolOp .Or (b :: rest) pos) d) : PWv X (.BoolOp .Or (a :: b :: rest) pos) (orT c d) := by
 obtain ⟨t, ht, hf⟩ := ha
 obtain ⟨u, hu, hg⟩ := hb
 refine ⟨_, pw_or ht hu, fun H₀ H O σ ds hd k Q o e q => ?_⟩
 unfold orT at e
 cases h : c ds with
 | none => rw [h] at e; cases e
 | some b =>
   rw [h] at e
   refine hf H₀ H O σ ds hd b _ o h fun H' s => ?_
   cases b with
   | false => exact iteF (hg H₀ H' O σ ds hd k Q (o.mono s) (by simpa using e) fun H'' s' => q H'' (s.trans s'))
   | true =>
     have : true = k := by simpa using e
     subst this
     exact iteT (q H' s)
theorem PWv.t {e : Expr} {c : FT} (h : PWv X e c) : PTv X e c := by
 obtain ⟨t, ht, hf⟩ := h
 exact ⟨t, ht.pt, hf⟩
theorem jH {a : Expr} {pos : Pos} {c : FT} (ha : PTv X a c) : PTv X (.UnaryOp .Not a pos) (notT c) := by
 obtain ⟨t, ht, hf⟩ := ha
 refine ⟨_, pt_not ht, fun H₀ H O σ ds hd k Q o e q => ?_⟩
 unfold notT at e
 cases h : c ds with
 | none => rw [h] at e; cases e
 | some b =>
   rw [h] at e
   cases e
   exact hf H₀ H O σ ds hd b _ o h fun H' s => q H' s
theorem vU {a : Expr} {op} {pos : Pos} {f : FE} (ha : PV X a f) : PV X (.BoolOp op [a] pos) f := by
 obtain ⟨t, ht, hf⟩ := ha
 exact ⟨_, pe_one ht, hf⟩
theorem vT {a b : Expr} {rest : List Expr} {pos : Pos} {f g : FE} (ha : PV X a f) (hb : PV X (.BoolOp .And (b :: rest) pos) g) : PV X (.BoolOp .And (a :: b :: rest) pos) (andV f g) := by
 obtain ⟨t, ht, hf⟩ := ha
 obtain ⟨u, hu, hg⟩ := hb
 refine ⟨_, pe_and ht hu, fun H₀ H O σ ds hd d Q o e q => ?_⟩
 unfold andV at e
 cases h : f ds with
 | none => rw [h] at e; cases e
 | some dd =>
   rw [h] at e
   refine hf H₀ H O σ ds hd dd _ o h fun v H' s r => ?_
   cases dd with
   | bl c =>
     cases r
     cases c with
     | true => exact ⟨true, rfl, iteT (hg H₀ H' O σ ds hd d Q (o.mono s) e fun v H'' s' => q v H'' (s.trans s'))⟩
     | false =>
       have : D.bl false = d := Option.some.inj e
       subst this
       exact ⟨false, rfl, iteF (q _ H' s (.bl false))⟩
   | _ => cases e
theorem pv_or {a b : Expr} {rest : List Expr} {pos : Pos} {f g : FE} (ha : PV X a f) (hb : PV X (.BoolOp .Or (b :: rest) pos) g) : PV X (.BoolOp .Or (a :: b :: rest) pos) (orV f g) := by
 obtain ⟨t, ht, hf⟩ := ha
 obtain ⟨u, hu, hg⟩ := hb
 refine ⟨_, pe_or ht hu, fun H₀ H O σ ds hd d Q o e q => ?_⟩
 unfold orV at e
 cases h : f ds with
 | none => rw [h] at e; cases e
 | some dd =>
   rw [h] at e
   refine hf H₀ H O σ ds hd dd _ o h fun v H' s r => ?_
   cases dd with
   | bl c =>
     cases r
     cases c with
     | false => exact ⟨false, rfl, iteF (hg H₀ H' O σ ds hd d Q (o.mono s) e fun v H'' s' => q v H'' (s.trans s'))⟩
     | true =>
       have : D.bl true = d := Option.some.inj e
       subst this
       exact ⟨true, rfl, iteT (q _ H' s (.bl true))⟩
   | _ => cases e
theorem pv_not {a : Expr} {pos : Pos} {f : FE} (ha : PV X a f) : PV X (.UnaryOp .Not a pos) (notV f) := by
 obtain ⟨t, ht, hf⟩ := ha
 refine ⟨_, pe_not ht, fun H₀ H O σ ds hd d Q o e q => ?_⟩
 unfold notV at e
 cases h : f ds with
 | none => rw [h] at e; cases e
 | some dd =>
   rw [h] at e
   refine hf H₀ H O σ ds hd dd _ o h fun v H' s r => ?_
   cases dd with
   | bl c => cases r; cases e; exact ⟨c, rfl, q _ H' s (.bl _)⟩
   | _ => cases e
theorem pv_if {c a b : Expr} {pos : Pos} {fc : FT} {f g : FE} (hc : PTv X c fc) (ha : PV X a f) (hb : PV X b g) : PV X (.IfExp c a b pos) (ifV fc f g) := by
 obtain ⟨tc, pc, hc⟩ := hc
 obtain ⟨t, ht, hf⟩ := ha
 obtain ⟨u, hu, hg⟩ := hb
 refine ⟨_, pe_ifExp pc ht hu, fun H₀ H O σ ds hd d Q o e q => ?_⟩
 unfold ifV at e
 cases h : fc ds with
 | none => rw [h] at e; cases e
 | some k =>
   rw [h] at e
   refine hc H₀ H O σ ds hd k _ o h fun H' s => ?_
   cases k with
   | true => exact iteT (hf H₀ H' O σ ds hd d Q (o.mono s) (by simpa using e) fun v H'' s' => q v H'' (s.trans s'))
   | false => exact iteF (hg H₀ H' O σ ds hd d Q (o.mono s) (by simpa using e) fun v H'' s' => q v H'' (s.trans s'))
theorem qM : PAv X [] qC := ⟨_, xC, fun _ H _ _ _ _ _ _ _ e q => by cases e; exact q _ H (Same.refl _) .nil⟩
theorem qE : PAs X [] qC := ⟨_, xC, fun _ H _ _ _ _ _ _ _ e q => by cases e; exact q _ H (Same.refl _) .nil⟩
theorem zX {e : Expr} {es : List Expr} {f : FE} {g : FA} (ha : PVw X e f) (hr : PAv X es g) (hs : starEach (e :: es) X.env = (false, eval e X.env) :: starEach es X.env := by rfl) : PAv X (e :: es) (zG f g) := by
 obtain ⟨t, ht, hf⟩ := ha
 obtain ⟨u, hu, hg⟩ := hr
 refine ⟨_, jS ht hu hs, fun H₀ H O σ ds hd l Q o e q => ?_⟩
 unfold zG at e
 cases h : f ds with
 | none => rw [h] at e; cases e
 | some x =>
   cases h2 : g ds with
   | none => rw [h, h2] at e; cases e
   | some r =>
     rw [h, h2] at e
     cases e
     refine hf H₀ H O σ ds hd x _ o h fun v H1 s1 r1 => ?_
     refine hg H₀ H1 O σ ds hd r _ (o.mono s1) h2 fun vs H2 s2 r2 => ?_
     exact q _ H2 (s1.trans s2) (.cons (r1.mono s2) r2)
theorem zJ {e : Expr} {es : List Expr} {f : FE} {g : FA} (ha : PV X e f) (hr : PAs X es g) (hs : starEach (e :: es) X.env = (false, eval e X.env) :: starEach es X.env := by rfl) : PAs X (e :: es) (zG f g) := by
 obtain ⟨t, ht, hf⟩ := ha
 obtain ⟨u, hu, hg⟩ := hr
 refine ⟨_, jS ht hu hs, fun H₀ H O σ ds hd l Q o e q => ?_⟩
 unfold zG at e
 cases h : f ds with
 | none => rw [h] at e; cases e
 | some x =>
   cases h2 : g ds with
   | none => rw [h, h2] at e; cases e
   | some r =>
     rw [h, h2] at e
     cases e
     refine hf H₀ H O σ ds hd x _ o h fun v H1 s1 r1 => ?_
     refine hg H₀ H1 O σ ds hd r _ (o.mono s1) h2 fun vs H2 s2 r2 => ?_
     exact q _ H2 (s1.trans s2) (.cons (r1.mono s2) r2)
theorem qT {H : Hp} {p : Addr} (h : H p = none) (o : HO) : Same H (upd H p o) := fun b u q => by rw [qI (jE q h)]; exact q
theorem jI {es : List Expr} {pos : Pos} {g : FA} (h : PAs X es g) : PVf X (.List es pos) (qU g) := by
 obtain ⟨t, ht, hf⟩ := h
 refine ⟨_, pe_lst ht, fun H₀ H O σ ds hd l Q o e q => ?_⟩
 unfold qU at e
 cases h : g ds with
 | none => rw [h] at e; cases e
 | some l' =>
   rw [h] at e
   simp only [Option.bind_some] at e
   split at e
   · rename_i hl
     cases e
     refine hf H₀ H O σ ds hd l _ o h fun vs H1 s1 r1 => ⟨by rw [r1.length]; exact hl, fun p hp => ?_⟩
     refine q p vs _ (s1.trans (qT hp _)) (s1.free hp) qQ ?_
     exact (r1.more hp).mono (qT hp _)
   · cases e
theorem jM {es : List Expr} {x1} {pos : Pos} {g : FA} (h : PAs X es g) : PV X (.Tuple es x1 pos) (mkT (qU g)) := by
 obtain ⟨t, ht, hf⟩ := h
 refine ⟨_, pe_tup ht, fun H₀ H O σ ds hd d Q o e q => ?_⟩
 unfold mkT qU at e
 cases h : g ds with
 | none => rw [h] at e; cases e
 | some l' =>
   rw [h] at e
   simp only [Option.bind_some] at e
   split at e
   · rename_i hl
     cases e
     refine hf H₀ H O σ ds hd l' _ o h fun vs H1 s1 r1 => ⟨by rw [r1.length]; exact hl, fun p hp => ?_⟩
     refine q _ _ (s1.trans (qT hp _)) ?_
     exact .tup ((o.mono s1).free hp) (.inl qQ) (r1.mono (qT hp _))
   · cases e
theorem atI_rep {K : Frag} {H : Hp} {O : Addr -> Prop} {xs : List V} {l : List D} {i : Int} {d : D} (r : Reps K H O xs l) (e : atI l i = some d) : ∃ v, atI xs i = some v /\ Rep K H O v d := by
 unfold atI at e ⊢
 rw [r.length]
 cases h : ixN l.length i with
 | none => rw [h] at e; cases e
 | some j =>
   rw [h] at e
   exact r.get e
theorem ix_sem {K : Frag} {H : Hp} {O : Addr -> Prop} {x y : V} {dx dy d : D} {Q : VK} (rx : WRep K H O x dx) (ry : WRep K H O y dy) (e : ixD dx dy = some d) (q : ∀ v H', Same H H' -> Rep K H' O v d -> Q v H') : rIx K x y H Q := by
 cases dx <;> cases dy <;> first | (simp [ixD] at e; done) | skip
 · simp only [ixD] at e
   split at e
   · rename_i hl
     rw [rx.str', ry.int']
     rename_i z i
     cases hc : atI z.cps.toList i with
     | none => rw [hc] at e; cases e
     | some c =>
       rw [hc] at e
       cases e
       exact .inr (.inr ⟨_, _, c, rfl, rfl, hl, hc, q _ H (Same.refl _) (.str _)⟩)
   · cases e
 · obtain ⟨a, xs, rfl, hs, r⟩ := rx.seqT
   rw [ry.int']
   obtain ⟨v, h1, h2⟩ := atI_rep r e
   exact .inr (.inl ⟨a, xs, _, v, rfl, rfl, hs, h1, q _ H (Same.refl _) h2⟩)
 · obtain ⟨a, xs, rfl, hs, r⟩ := rx.seqL
   rw [ry.int']
   obtain ⟨v, h1, h2⟩ := atI_rep r e
   exact .inl ⟨a, xs, _, v, rfl, rfl, hs, h1, q _ H (Same.refl _) h2⟩
theorem os_ix : OpS X (rIx X.K) ixD := fun H O x y dx dy d Q ho rx ry e q => ix_sem rx ry e q
theorem qL {a b : Expr} {fa fb : FE} {pos : Pos} (ha : PVw X a fa) (hb : PVw X b fb) (hs : PlainIx b := by exact fun _ _ => rfl) : PV X (.Subscript a b pos) (zK ixD fa fb) := by
 obtain ⟨ta, pa, ha⟩ := ha
 obtain ⟨tb, pb, hb⟩ := hb
 exact ⟨_, pe_ix ix_seq pa pb hs, pv_tOp os_ix (a := a) (b := b) ha hb⟩
end
end FL
namespace FL
open PySem PySem.Spec PyProof.Rows L2
def RetOk (K : Frag) (H H' : Hp) (v : V) : Ret -> Prop
 | .val d => Rep K H' (Old H) v d
 | .fresh l => ∃ a xs, v = .ref a /\ H a = none /\ H' a = some (.lst xs) /\ Reps K H' (ins1 a (Old H)) xs l
 | .any d => Rep K H' jY v d
def RetB (K : Frag) (H : Hp) (hd : Hold) (v : V) : Ret -> Prop
 | .any d => ∀ B, HI.base B ∈ hd -> Rep K H B v d
 | _ => True
def spF (K : Frag) (n : Nat) (F : List D -> Option Ret) : Sp := fun vs H Q _ => vs.length = n /\ ∃ ds r, Reps K H jY vs ds /\ F ds = some r /\ ∀ v H', Same H H' -> RetOk K H H' v r -> Q v H'
section
variable {X : Cx}
theorem retV_ok {K : Frag} {H H' : Hp} {O : Addr -> Prop} {v : V} {r : Ret} {d : D} (h : RetOk K H H' v r) (e : retV r = some d) (ho : ∀ a, O a -> Old H a) : Rep K H' O v d := by
 cases r with
 | any d' => cases e
 | val d' => cases e; exact h.less ho
 | fresh l =>
   cases e
   obtain ⟨a, xs, rfl, h1, h2, h3⟩ := h
   refine .lst (fun z => ?_) (.inl h2) (h3.less fun b z => .inr (ho b z))
   obtain ⟨o, e, _⟩ := ho a z
   rw [h1] at e; cases e
theorem retF_ok {K : Frag} {H H' : Hp} {O : Addr -> Prop} {v : V} {r : Ret} {l : List D} (h : RetOk K H H' v r) (e : retF r = some l) (ho : ∀ a, O a -> Old H a) : ∃ a xs, v = .ref a /\ H a = none /\ H' a = some (.lst xs) /\ Reps K H' (ins1 a O) xs l := by
 cases r with
 | any d' => cases e
 | val d' => cases e
 | fresh l' =>
   cases e
   obtain ⟨a, xs, rfl, h1, h2, h3⟩ := h
   exact ⟨a, xs, rfl, h1, h2, h3.less fun b z => z.elim .inl fun z => .inr (ho b z)⟩
section
variable {k : Nat} {f : Addr} {fd : FuncData} {ps : List Str} {n : Nat} {F : List D -> Option Ret} {x : Str} {p pos : Pos} {e : Expr} {es : List Expr} {g : FA}
end
def CallS (X : Cx) (r : List V -> Hp -> VK -> Prop) (F : List D -> Option D) : Prop := ∀ H O vs l d Q, (∀ a, O a -> ∃ xs, H a = some (.lst xs)) -> Paired (WRep X.K H O) vs l -> F l = some d -> (∀ v H', Same H H' -> Rep X.K H' O v d -> Q v H') -> r vs H Q
theorem wX {x : Str} {p pos : Pos} {e : Expr} {es : List Expr} {id : String} {r : List V -> Hp -> VK -> Prop} {F : List D -> Option D} {g : FA} (hc : CallR X (.builtin id) r) (hs : CallS X r F) (hm : X.mg x = none) (hv : bootBuiltins x = some (.builtin id)) (ha : PAv X (e :: es) g)
  (hg : Gl X x) (hn : x ≠ "__name__" := by decide) (hdb : (x == ("__debug__" : Str)) = false := by decide) (he : starEach (e :: es) X.env = (false, eval e X.env) :: starEach es X.env := by rfl) (hpl : (backTo pos (starEach es X.env)).any (·.1) = false := by rfl) :
  PV X (.Call (.Name x p) (e :: es) [] pos) (callB F g) := by
 obtain ⟨t, ht, hf⟩ := ha
 refine ⟨_, pe_callB hc hg hm hv ht hn hdb he hpl, fun H₀ H O σ ds hd d Q o e q => ?_⟩
 unfold callB at e
 cases h : g ds with
 | none => rw [h] at e; cases e
 | some l =>
   rw [h] at e
   refine hf H₀ H O σ ds hd l _ o h fun vs H1 s1 r1 => ?_
   exact hs H1 O vs l d Q (o.mono s1).dom r1 e fun v H' s' r => q v H' (s1.trans s') r
theorem call_lenU : CallR X (.builtin "len") (fun xs H Q => (∃ p ys, xs = [.ref p] /\ (SqL X.K H p ys \/ SqT X.K H p ys) /\ Q (.int ys.length) H) \/ ∃ z, xs = [.str z] /\ z.length <= sizeLine /\ Q (.int z.length) H) := call_len_seq.or call_len_str
theorem cs_len : CallS X (fun xs H Q => (∃ p ys, xs = [.ref p] /\ (SqL X.K H p ys \/ SqT X.K H p ys) /\ Q (.int ys.length) H) \/ ∃ z, xs = [.str z] /\ z.length <= sizeLine /\ Q (.int z.length) H) lenD := by
 intro H O vs l d Q ho r e q
 match l, r, e with
 | [.lst l], .cons r .nil, e =>
   cases e
   obtain ⟨a, xs, rfl, hs, rs⟩ := r.seqL
   refine .inl ⟨a, xs, rfl, .inl hs, ?_⟩
   rw [rs.length]
   exact q _ H (Same.refl _) (.int _)
 | [.tup l], .cons r .nil, e =>
   cases e
   obtain ⟨a, xs, rfl, hs, rs⟩ := r.seqT
   refine .inl ⟨a, xs, rfl, .inr hs, ?_⟩
   rw [rs.length]
   exact q _ H (Same.refl _) (.int _)
 | [.str x], .cons r .nil, e =>
   simp only [lenD] at e
   split at e
   · rename_i hl
     cases e
     rw [r.str']
     exact .inr ⟨x, rfl, hl, q _ H (Same.refl _) (.int _)⟩
   · cases e
theorem xB {p pos : Pos} {e : Expr} {g : FA} (hm : X.mg "len" = none) (ha : PAv X [e] g) (hg : Gl X "len" := by rfl) (he : starEach [e] X.env = [(false, eval e X.env)] := by rfl) :
  PV X (.Call (.Name "len" p) [e] [] pos) (callB lenD g) := wX call_lenU cs_len hm PySem.boot_len ha hg (by decide) (by decide) he rfl
def After (X : Cx) (H₀ : Hp) (hd : Hold) (E : Ends) : Out -> Prop
 | .nx ds => ∀ σ H O, Ok X.K H₀ H O σ ds hd -> E.nx σ H
 | .bk ds => ∀ σ H O, Ok X.K H₀ H O σ ds hd -> E.bk σ H
 | .ct ds => ∀ σ H O, Ok X.K H₀ H O σ ds hd -> E.ct σ H
 | .rt r => ∀ v H, Same H₀ H -> RetOk X.K H₀ H v r -> RetB X.K H hd v r -> E.rt v H
variable (X) in
def PSv (st : Stmt) (g : FS) : Prop := ∃ t, PS X st t /\ ∀ H₀ H O σ ds hd out E, Ok X.K H₀ H O σ ds hd -> g ds = some out -> After X H₀ hd E out -> t E σ H
variable (X) in
def PSsv (st : List Stmt) (g : FS) : Prop := ∃ t, PSs X st t /\ ∀ H₀ H O σ ds hd out E, Ok X.K H₀ H O σ ds hd -> g ds = some out -> After X H₀ hd E out -> t E σ H
theorem zM : PSsv X [] qF := ⟨_, pss_nil, fun _ H O σ ds hd out E o e h => by cases e; exact h σ H O o⟩
theorem zD {st : Stmt} {rest : List Stmt} {f g : FS} (h1 : PSv X st f) (h2 : PSsv X rest g) : PSsv X (st :: rest) (qJ f g) := by
 obtain ⟨t, ht, hf⟩ := h1
 obtain ⟨u, hu, hg⟩ := h2
 refine ⟨_, pss_cons ht hu, fun H₀ H O σ ds hd out E o e h => ?_⟩
 unfold qJ at e
 cases h1 : f ds with
 | none => rw [h1] at e; cases e
 | some o1 =>
   rw [h1] at e
   refine hf H₀ H O σ ds hd o1 _ o h1 ?_
   cases o1 with
   | nx ds' => exact fun σ' H' O' o' => hg H₀ H' O' σ' ds' hd out E o' e h
   | rt r => cases e; exact h
   | bk ds' => cases e; exact h
   | ct ds' => cases e; exact h
theorem zE {st : Stmt} {f : FS} (h1 : PSv X st f) : PSsv X [st] f := by
 obtain ⟨t, ht, hf⟩ := h1
 exact ⟨_, pss_one ht, hf⟩
theorem psv_continue {pos : Pos} : PSv X (.Continue pos) (fun ds => some (.ct ds)) := ⟨_, ps_continue, fun _ H O σ ds hd out E o e h => by cases e; exact h σ H O o⟩
theorem zY {c : Expr} {a b : List Stmt} {pos : Pos} {fc : FT} {f g : FS} (hc : PTv X c fc) (ha : PSsv X a f) (hb : PSsv X b g) : PSv X (.If c a b pos) (ifG fc f g) := by
 obtain ⟨tc, pc, hc⟩ := hc
 obtain ⟨t, ht, hf⟩ := ha
 obtain ⟨u, hu, hg⟩ := hb
 refine ⟨_, ps_if pc ht hu, fun H₀ H O σ ds hd out E o e h => ?_⟩
 unfold ifG at e
 cases h1 : fc ds with
 | none => rw [h1] at e; cases e
 | some k =>
   rw [h1] at e
   refine hc H₀ H O σ ds hd k _ o h1 fun H' s => ?_
   cases k with
   | true => exact iteT (hf H₀ H' O σ ds hd out E (o.mono s) (by simpa using e) h)
   | false => exact iteF (hg H₀ H' O σ ds hd out E (o.mono s) (by simpa using e) h)
theorem qB {i : Nat} {x : Str} {e : Expr} {pos pos' : Pos} {f : FE} (hN : X.N.Nodup) (he : PV X e f) (hi : X.N[i]? = some x := by rfl) (hx : Loc X.env.scope x := by first | exact Or.inl rfl | exact Or.inr rfl) (hs : swapsWith e (some (.Name x pos')) pos.line X.env = pure false := by rfl)
  (hf : X.fn x = true \/ X.env.scope.names.lookup x = some .local := by first | exact .inl rfl | exact .inr rfl) : PSv X (.Assign [.Name x pos'] e pos) (yI i f) := by
 obtain ⟨t, ht, hg⟩ := he
 refine ⟨_, ps_set hN hi hx ht hs hf, fun H₀ H O σ ds hd out E o e h => ?_⟩
 unfold yI at e
 cases h1 : f ds with
 | none => rw [h1] at e; cases e
 | some d =>
   rw [h1] at e
   cases e
   exact hg H₀ H O σ ds hd d _ o h1 fun v H' s r => h _ _ _ ((o.mono s).set r)
theorem jN {i : Nat} {x : Str} {e : Expr} {pos pos' : Pos} {f : FA} (hN : X.N.Nodup) (he : PVf X e f) (hi : X.N[i]? = some x := by rfl) (hx : Loc X.env.scope x := by first | exact Or.inl rfl | exact Or.inr rfl) (hs : swapsWith e (some (.Name x pos')) pos.line X.env = pure false := by rfl)
  (hf : X.fn x = true \/ X.env.scope.names.lookup x = some .local := by first | exact .inl rfl | exact .inr rfl) : PSv X (.Assign [.Name x pos'] e pos) (setOG i f) := by
 obtain ⟨t, ht, hg⟩ := he
 refine ⟨_, ps_set hN hi hx ht hs hf, fun H₀ H O σ ds hd out E o e h => ?_⟩
 unfold setOG at e
 cases h1 : f ds with
 | none => rw [h1] at e; cases e
 | some l =>
   rw [h1] at e
   cases e
   exact hg H₀ H O σ ds hd l _ o h1 fun a xs H' s hn he r => h _ _ _ (o.setO s hn he r)
theorem zQ {e : Expr} {pos : Pos} {f : FE} (he : PVw X e f) : PSv X (.Return (some e) pos) (retG f) := by
 obtain ⟨t, ht, hg⟩ := he
 refine ⟨_, ps_ret ht, fun H₀ H O σ ds hd out E o e h => ?_⟩
 unfold retG at e
 cases h1 : f ds with
 | none => rw [h1] at e; cases e
 | some d =>
   rw [h1] at e
   simp only [Option.bind_some, flatR] at e
   split at e
   · rename_i hf
     cases e
     exact hg H₀ H O σ ds hd d _ o h1 fun v H' s r => h _ _ (o.same.trans s) (Rep.flatten (fun a z => Old.mono (o.same.trans s) z) hf r.any) True.intro
   · cases e
theorem yY {e : Expr} {pos : Pos} {f : FA} (he : PVf X e f) : PSv X (.Return (some e) pos) (retOG f) := by
 obtain ⟨t, ht, hg⟩ := he
 refine ⟨_, ps_ret ht, fun H₀ H O σ ds hd out E o e h => ?_⟩
 unfold retOG at e
 cases h1 : f ds with
 | none => rw [h1] at e; cases e
 | some l =>
   rw [h1] at e
   simp only [Option.bind_some, flatF] at e
   split at e
   · rename_i hf
     cases e
     refine hg H₀ H O σ ds hd l _ o h1 fun a xs H' s hn he r => h _ _ (o.same.trans s) ⟨a, xs, rfl, o.same.free hn, he, Reps.flatten (fun b z => ?_) hf r⟩ True.intro
     rcases z with rfl | z
     · exact ⟨_, he, rfl⟩
     · exact Old.mono (o.same.trans s) z
   · cases e
theorem xS (i : Nat) {x : Str} {pos pos' : Pos} (hN : X.N[i]? = some x := by rfl) (hv : Vis X.env.scope x := by first | exact Or.inl rfl | exact Or.inr (Or.inl rfl) | exact Or.inr (Or.inr rfl)) (hd : (x == ("__debug__" : Str)) = false := by decide)
  (hcd : (x == ("__classdict__" : Str)) = false := by decide) : PSv X (.Return (some (.Name x pos')) pos) (retXG i) := by
 refine ⟨_, ps_ret (wK hN hv hd hcd), fun H₀ H O σ ds hd out E o e h => ?_⟩
 unfold retXG at e
 cases hs : ds[i]? with
 | none => rw [hs] at e; cases e
 | some s =>
   rw [hs] at e
   cases s with
   | v d' => cases e
   | no => cases e
   | exc _ => cases e
   | fr _ => cases e
   | own l =>
     simp only [flatF] at e
     split at e
     · rename_i hf
       cases e
       obtain ⟨a, xs, h1, h2, h3, h4⟩ := o.readO hs
       refine ⟨.ref a, h1, h _ _ o.same ⟨a, xs, rfl, o.fresh i l a hs h1, h3, Reps.flatten (fun b z => ?_) hf h4⟩ True.intro⟩
       rcases z with rfl | z
       · exact ⟨_, h3, rfl⟩
       · exact Old.mono o.same z
     · cases e
theorem psv_put {i : Nat} {x : Str} {e ek : Expr} {pos p1 p2 : Pos} {fk fe : FE} (he : PV X e fe) (hk : PV X ek fk) (hN : X.N[i]? = some x := by rfl) (hv : Vis X.env.scope x := by first | exact Or.inl rfl | exact Or.inr (Or.inl rfl) | exact Or.inr (Or.inr rfl)) (hd : (x == ("__debug__" : Str)) = false := by decide)
  (hcd : (x == ("__classdict__" : Str)) = false := by decide)
  (ha : ∀ v, assign (.Subscript (.Name x p1) ek p2) X.env v = (do
    let ov <- holding [v] (eval (.Name x p1) X.env)
    let iv <- holding [v, ov] (eval ek X.env)
    standAt p2
    holding [v, ov, iv] (setItem ov iv v)
    release [v, ov, iv] []) := by intro _; rfl)
  (hs : swapsWithSole [.Subscript (.Name x p1) ek p2] e pos.line X.env = pure false := by rfl) (hw : swappedStores [.Subscript (.Name x p1) ek p2] e X.env = pure none := by rfl)
  (h1 : (assignEach [.Subscript (.Name x p1) ek p2] X.env).map (·.2) = [assign (.Subscript (.Name x p1) ek p2) X.env] := by rfl) : PSv X (.Assign [.Subscript (.Name x p1) ek p2] e pos) (putG i fk fe) := by
 obtain ⟨te, pe, he⟩ := he
 obtain ⟨tk, pk, hk⟩ := hk
 refine ⟨_, ps_asg pe (pg_sub (wK hN hv hd hcd) pk set_list ha) hs hw h1, fun H₀ H O σ ds hd out E o e h => ?_⟩
 unfold putG at e
 cases hsl : ds[i]? with
 | none => rw [hsl] at e; cases e
 | some s =>
   rw [hsl] at e
   cases s with
   | v d' => cases e
   | no => cases e
   | exc _ => cases e
   | fr _ => cases e
   | own l =>
     simp only at e
     cases h1 : fe ds with
     | none => rw [h1] at e; cases e
     | some d =>
       cases h2 : fk ds with
       | none => rw [h1, h2] at e; cases e
       | some kd =>
         rw [h1, h2] at e
         simp only [Option.bind_some] at e
         cases kd with
         | int n =>
           simp only at e
           cases h3 : ixN l.length n with
           | none => rw [h3] at e; cases e
           | some j =>
             rw [h3] at e
             cases e
             refine he H₀ H O σ ds hd d _ o h1 fun v H1 s1 r1 => ?_
             obtain ⟨a, xs, q1, q2, q3, q4⟩ := (o.mono s1).readO hsl
             refine ⟨.ref a, q1, ?_⟩
             refine hk H₀ H1 O σ ds hd _ _ (o.mono s1) h2 fun kv H2 s2 r2 => ?_
             cases r2
             refine ⟨a, xs, n, j, rfl, rfl, s2 _ _ q3, by rw [q4.length]; exact h3, ?_⟩
             exact h _ _ _ (((o.mono s1).mono s2).modify hsl q1 ((q4.mono s2).set (r1.mono s2) j))
         | _ => cases e
theorem vB {i : Nat} {x : Str} {e : Expr} {pos p1 p2 p3 : Pos} {fe : FE} (he : PV X e fe) (hN : X.N[i]? = some x := by rfl) (hv : Vis X.env.scope x := by first | exact Or.inl rfl | exact Or.inr (Or.inl rfl) | exact Or.inr (Or.inr rfl)) (hd : (x == ("__debug__" : Str)) = false := by decide)
  (hcd : (x == ("__classdict__" : Str)) = false := by decide)
  (hfew : ((backTo p3 (starEach [e] X.env)).all (fun x => !x.1) && (backToKw p3 (keywordEach [] X.env)).all (fun x => x.1.isSome)
    && decide ([e].length + ([] : List Keyword).length + (if ([] : List Keyword).isEmpty then 0 else 1) < 30)) = true := by rfl)
  (hline : (p2.endLine == p3.line) = true := by rfl) (hs : starEach [e] X.env = (false, eval e X.env) :: starEach [] X.env := by rfl)
  (hbase : attributeBase (.Name x p1) "append" X.env (eval (.Name x p1) X.env) = eval (.Name x p1) X.env := by rfl) (hsw : swapsWith (.Call (.Attribute (.Name x p1) "append" p2) [e] [] p3) none pos.line X.env = pure false := by rfl) :
  PSv X (.Expr (.Call (.Attribute (.Name x p1) "append" p2) [e] [] p3) pos) (appG i fe) := by
 obtain ⟨te, pe, he⟩ := he
 refine ⟨_, ps_expr (pe_bm PySem.F.plainAttrs_list PySem.F.slot_list_append PySem.F.type_list_append mt_append (wK hN hv hd hcd) (jS pe xC hs) hbase hfew hline hs rfl) hsw, fun H₀ H O σ ds hd out E o e h => ?_⟩
 unfold appG at e
 cases hsl : ds[i]? with
 | none => rw [hsl] at e; cases e
 | some s =>
   rw [hsl] at e
   cases s with
   | v d' => cases e
   | no => cases e
   | exc _ => cases e
   | fr _ => cases e
   | own l =>
     simp only at e
     cases h1 : fe ds with
     | none => rw [h1] at e; cases e
     | some d =>
       rw [h1] at e
       simp only [Option.bind_some] at e
       split at e
       · rename_i hl
         cases e
         obtain ⟨a, xs, q1, q2, q3, q4⟩ := o.readO hsl
         refine ⟨.ref a, q1, .inl ⟨rfl, xs, SqL.of q3⟩, ?_⟩
         refine he H₀ H O σ ds hd d _ o h1 fun v H1 s1 r1 => ?_
         refine ⟨a, xs, v, rfl, rfl, s1 _ _ q3, by rw [q4.length]; exact hl, ?_⟩
         exact h _ _ _ ((o.mono s1).modify hsl q1 ((q4.mono s1).append (.cons r1 .nil)))
       · cases e
theorem ok_start {K : Frag} {H : Hp} {N : List Str} {vs : List V} {ds : List D} (r : Reps K H jY vs ds) : Ok K H H jY (L2.start N vs) (args N.length ds) [] := by
 have hl := r.length
 have no : ∀ i, IsOwn (args N.length ds) i -> False := fun i ⟨l, e⟩ => by
  unfold args at e
  by_cases hi : i < ds.length
  · rw [List.getElem?_append_left (by simpa using hi), List.getElem?_map] at e
    cases h : ds[i]? with
    | none => rw [h] at e; cases e
    | some d => rw [h] at e; cases e
  · rw [List.getElem?_append_right (by simpa using hi), List.getElem?_replicate] at e
    split at e <;> cases e
 refine ⟨Same.refl _, fun i l a e _ => (no i ⟨l, e⟩).elim, fun _ z => z.elim, by simp [L2.start, args, hl], fun i s e => ?_, fun i j a _ hi _ _ _ => no i hi, fun p hp => nomatch hp⟩
 unfold args at e
 unfold L2.start
 by_cases hi : i < ds.length
 · rw [List.getElem?_append_left (by simpa using hi), List.getElem?_map] at e
   rw [List.getElem?_append_left (by simpa [hl] using hi), List.getElem?_map]
   cases h : ds[i]? with
   | none => rw [h] at e; cases e
   | some d =>
     rw [h] at e
     cases e
     obtain ⟨v, h1, h2⟩ := r.get h
     rw [h1]
     exact wI h2
 · rw [List.getElem?_append_right (by simpa using hi), List.getElem?_replicate] at e
   split at e
   · cases e; exact yL
   · cases e
def Does (g : FS) (n : Nat) (ds : List D) (r : Ret) : Prop := g (args n ds) = some (.rt r) \/ (r = .val .non /\ ∃ ds', g (args n ds) = some (.nx ds'))
theorem qH {P : Program} {w : World} {K : Frag} {mg : Str -> Option Value} {base : Heap} {x qual : Str} {st : Stmt} {f : Addr} {fd : FuncData} {N ps : List Str} {k : Nat} {F : List D -> Option Ret} (Fn : Fun K x qual st f fd) (S : FnScope N ps (zA st))
  {g : FS} (hbody : ∀ (cdv : Value) (A : Around) (outer : List Env) (s : Shared) (H : Hp) (E : XK), Room k (A.deeper (envOfC qual (zA st) s.heap.objs.size f cdv)) -> PSsv (cxOf CX0 P w K mg base N qual (zA st) f cdv A outer s H E).nox (zH st) g)
  (hg : ∀ ds r, ds.length = ps.length -> F ds = some r -> Does g N.length ds r) : FnOk P w K mg base CX0 (k + 1) f fd ps (spF K ps.length F) := by
 refine Fn.ok S (fun vs H Q E h => h.1) (fun cdv A outer s H vs Q E hr h => ?_)
 obtain ⟨hl, ds, r, rv, e, q⟩ := h
 obtain ⟨t, ht, hf⟩ := hbody cdv A outer s H E hr
 refine ⟨t, ht, ?_⟩
 have o := ok_start (N := N) rv
 rcases hg ds r (by rw [<- rv.length]; exact hl) e with e' | ⟨rfl, ds', e'⟩
 · exact hf H H jY _ _ [] _ _ o e' (fun v H' s r _ => q v H' s r)
 · exact hf H H jY _ _ [] _ _ o e' (fun σ H' O o' => q .non H' o'.same .non)
end
end FL
namespace L2
open PySem PySem.Spec PyProof.Rows
def Its (x : Str) : It := ⟨fun i _ => i < x.cps.size, fun i H v H' => H' = H /\ ∃ c, x.cps[i]? = some c /\ v = .str ⟨#[c]⟩, fun i _ => i = x.cps.size⟩
theorem turn_str {P : Program} {w : World} {K : PySem.W.Frag} {tg : Expr} (x : Str) (t : Tok) (it : Addr) (ty : String) (hn : ["enumerate", "zip", "dict_itemiterator", "dict_reverseitemiterator", "odict_iterator", "itertools.zip_longest", "itertools.pairwise"].contains ty = false)
  (Wk : ∀ A : Around, A.handled = none -> Walks P w A it [it] [it] x.cps.size (SignAt x) (fun i h => h.IsStrIter it ty x t i))
  (hself : ∀ (A : Around) (i : Nat) (s : Shared) (Q : Value -> Shared -> Prop) (E : Value -> Shared -> Prop), s.heap.IsStrIter it ty x t i -> Q (.ref it) s -> wpAny (model P w) A (pyIter (.ref it)) Q E s) : Turn P w K tg (Its x) [it] it (fun i h => h.IsStrIter it ty x t i) where
 mem := by simp
 obj := fun i h st b hb => by
  have e : b = it := by simpa using hb
  subst e
  obtain ⟨o, e, c, d⟩ := st
  exact ⟨o, e, fun v z => by rw [d] at z; cases z⟩
 keep := fun i h h' st k => by
  obtain ⟨o, e, r⟩ := st
  exact ⟨o, k it (by simp) o e, r⟩
 item := by
  intro X hP hw hK hc i pins s σ H E I hf st hg
  subst hP hw hK
  obtain ⟨f0, f1, f2, f3, f4, f5⟩ := hf it (by simp)
  refine (Wk X.A (I.ok.hd hc)).item i s _ _ hg st fun v h' tk hv st' kk => ?_
  obtain ⟨c, u, hc', rfl⟩ := hv
  have I1 : Inv X pins σ H { s with heap := h', toks := tk } := I.turned (fun b o hb e => kk b o (by simpa using hb) e) f0 f1 f3 f4 f5
  obtain ⟨o, e, c1, d⟩ := id st'
  exact ⟨_, rfl, go_of (s := { s with heap := h', toks := tk }) e c1 d hn ⟨.str ⟨#[c]⟩, H, I1, ⟨u, rfl⟩, ⟨rfl, c, hc', rfl⟩, st', fun b hb => (hf b hb).1⟩⟩
 done := by
  intro X hP hw hK hc i pins s σ H E I hf st hg
  subst hP hw hK
  obtain ⟨f0, f1, f2, f3, f4, f5⟩ := hf it (by simp)
  have hg' : i = x.cps.size := hg
  subst hg'
  exact (Wk X.A (I.ok.hd hc)).done s _ _ st fun h' tk eb => ⟨rfl, I.turned (fun b o hb e => eb b o (by simpa using hb) e) f0 f1 f3 f4 f5⟩
 self := hself
section
variable {X : Cx} {tg : Expr}
def iStr (tl : TE) : TI := fun σ H R => tl σ H fun x H1 => ∃ z, x = .str z /\ R (Its z) H1
theorem pi_str {l : Expr} {tl : TE} (hl : PE X l tl) : PI X tg l (iStr tl) := by
 intro pins s σ H R I h
 refine thn (hl pins s σ H _ I h) fun v s1 ⟨x, H1, I1, r1, q1⟩ => ?_
 obtain ⟨z, e, q⟩ := q1
 subst e
 obtain ⟨t, rfl⟩ := r1
 cases ha : z.cps.all (· < 128)
 · refine wpAny_pyIter_wide ha ⟨s1.heap.objs.size, [s1.heap.objs.size], _, _, H1, rfl, I1.kept (t' := s1.toks) fun b o e => Heap.get?_push_of_some _ e, turn_str z t _ "str_iterator" (by decide) (fun A hA => Walks.strWide hA _ z t) (fun _ _ _ _ _ st h => wpAny_pyIter_striter_wide st h), ⟨_, Heap.get?_push_size _ rfl, rfl, rfl⟩, fun b hb => ?_, q⟩
   have e : b = s1.heap.objs.size := by simpa using hb
   subst e
   exact I1.fpOk (Nat.le_refl _) (I1.hok.fresh (Nat.le_refl _))
 · refine wpAny_pyIter_ascii ha ⟨s1.heap.objs.size, [s1.heap.objs.size], _, _, H1, rfl, I1.kept (t' := s1.toks) fun b o e => Heap.get?_push_of_some _ e, turn_str z t _ "str_ascii_iterator" (by decide) (fun A hA => Walks.strAscii hA _ z t) (fun _ _ _ _ _ st h => wpAny_pyIter_striter_ascii st h), ⟨_, Heap.get?_push_size _ rfl, rfl, rfl⟩, fun b hb => ?_, q⟩
   have e : b = s1.heap.objs.size := by simpa using hb
   subst e
   exact I1.fpOk (Nat.le_refl _) (I1.hok.fresh (Nat.le_refl _))
end
end L2
namespace FL
open PySem PySem.Spec PyProof.Rows L2
def Wlk (K : Frag) (J : It) (p : V × D) (items : List D) : Prop := ∀ H O, (∀ a, O a -> ∃ xs, H a = some (HO.lst xs)) -> Rep K H O p.1 p.2 →
 (∀ i d, items[i]? = some d -> J.go i H /\ ∀ x H', J.yld i H x H' -> Same H H' /\ Rep K H' O x d) /\ J.stop items.length H
section
variable {X : Cx}
variable (X) in
def PIv (tg iter : Expr) (fi : FA) : Prop := ∃ wi, PI X tg iter wi /\ ∀ H₀ H O σ ds hd items R, Ok X.K H₀ H O σ ds hd -> fi ds = some items →
 (∀ J p H', Same H H' -> Rep X.K H' O p.1 p.2 -> Wlk X.K J p items -> R J H') -> wi σ H R
theorem wlk_list {K : Frag} {a : Addr} {l : List D} : Wlk K (Itl K a) (.ref a, .lst l) l := by
 intro H O _ r
 obtain ⟨b, xs, e, hs, rs⟩ := WRep.seqL (.inl r)
 cases e
 refine ⟨fun i d hd => ?_, ⟨xs, hs, by rw [rs.length]; exact Nat.le_refl _⟩⟩
 obtain ⟨v, h1, h2⟩ := rs.get hd
 refine ⟨⟨xs, v, hs, h1⟩, fun x H' y => ?_⟩
 obtain ⟨rfl, y⟩ := y
 have := y xs hs
 rw [h1] at this; cases this
 exact ⟨Same.refl _, h2⟩
theorem wlk_tup {K : Frag} {a : Addr} {l : List D} : Wlk K (Itt K a) (.ref a, .tup l) l := by
 intro H O _ r
 obtain ⟨b, xs, e, hs, rs⟩ := WRep.seqT (.inl r)
 cases e
 refine ⟨fun i d hd => ?_, ⟨xs, hs, by rw [rs.length]; exact Nat.le_refl _⟩⟩
 obtain ⟨v, h1, h2⟩ := rs.get hd
 refine ⟨⟨xs, v, hs, h1⟩, fun x H' y => ?_⟩
 obtain ⟨rfl, y⟩ := y
 have := y xs hs
 rw [h1] at this; cases this
 exact ⟨Same.refl _, h2⟩
theorem wlk_range {K : Frag} {lo : Int} {n : Nat} : Wlk K (Itr lo n) (.non, .non) (rangeD lo n) := by
 intro H O _ r
 have hl : (rangeD lo n).length = n := by simp [rangeD]
 refine ⟨fun i d hd => ?_, show n <= _ by rw [hl]; exact Nat.le_refl _⟩
 have hi : i < n := by
  have := (List.getElem?_eq_some_iff.mp hd).1
  rwa [hl] at this
 refine ⟨hi, fun x H' y => ?_⟩
 obtain ⟨rfl, rfl⟩ := y
 have : d = D.int (lo + (i : Int)) := by
  simp only [rangeD, List.getElem?_map, List.getElem?_range hi, Option.map_some] at hd
  exact (Option.some.inj hd).symm
 subst this
 exact ⟨Same.refl _, .int _⟩
theorem wlk_str {K : Frag} {x : Str} : Wlk K (Its x) (.non, .non) (sgns x) := by
 intro H O _ r
 have hl : (sgns x).length = x.cps.size := by simp [sgns]
 refine ⟨fun i d hd => ?_, show _ = x.cps.size from hl⟩
 have hi : i < x.cps.size := by
  have := (List.getElem?_eq_some_iff.mp hd).1
  rwa [hl] at this
 refine ⟨hi, fun v H' y => ?_⟩
 obtain ⟨rfl, c, hc, rfl⟩ := y
 have : d = D.str ⟨#[c]⟩ := by
  simp only [sgns, List.getElem?_map, Array.getElem?_toList, hc, Option.map_some] at hd
  exact (Option.some.inj hd).symm
 subst this
 exact ⟨Same.refl _, .str _⟩
theorem piv_str {tg e : Expr} {f : FE} (h : PV X e f) : PIv X tg e (viaA f asS) := by
 obtain ⟨t, ht, hf⟩ := h
 refine ⟨_, pi_str ht, fun H₀ H O σ ds hd items R o e q => ?_⟩
 unfold viaA at e
 cases h1 : f ds with
 | none => rw [h1] at e; cases e
 | some d =>
   rw [h1] at e
   cases d with
   | str x =>
     cases e
     refine hf H₀ H O σ ds hd _ _ o h1 fun v H' s r => ?_
     cases r
     exact ⟨x, rfl, q _ (.non, .non) H' s .non wlk_str⟩
   | _ => cases e
theorem wE {tg e : Expr} {p pos : Pos} {f : FE} (hm : X.mg "range" = none) (h : PV X e f) (hg : Gl X "range" := by rfl) (hs : starEach [e] X.env = [(false, eval e X.env)] := by rfl) : PIv X tg (.Call (.Name "range" p) [e] [] pos) (rng1 f) := by
 obtain ⟨t, ht, hf⟩ := h
 refine ⟨_, pi_range1 hg hm (jS ht xC hs) hs, fun H₀ H O σ ds hd items R o e q => ?_⟩
 unfold rng1 at e
 cases h1 : f ds with
 | none => rw [h1] at e; cases e
 | some d =>
   rw [h1] at e
   simp only [Option.bind_some] at e
   cases d with
   | int j =>
     simp only at e
     split at e
     · rename_i hj
       cases e
       refine hf H₀ H O σ ds hd _ _ o h1 fun v H' s r => ?_
       cases r
       exact ⟨j, rfl, hj.1, hj.2, q _ (.non, .non) H' s .non wlk_range⟩
     · cases e
   | _ => cases e
variable (X) in
def PGv (tg : Expr) (ga : D -> List Sl -> Option (List Sl)) : Prop := ∃ g, PG X tg g /\ ∀ H₀ H O σ ds hd v d ds' Q, Ok X.K H₀ H O σ ds hd -> Rep X.K H O v d -> ga d ds = some ds' -> (∀ σ', Ok X.K H₀ H O σ' ds' hd -> Q σ' H) -> g v σ H Q
variable (X) in
def PGsv (tgs : List Expr) (ga : List D -> List Sl -> Option (List Sl)) : Prop := ∃ g, PGs X tgs g /\ ∀ H₀ H O σ ds hd vs l ds' Q, Ok X.K H₀ H O σ ds hd -> Reps X.K H O vs l -> ga l ds = some ds' -> (∀ σ', Ok X.K H₀ H O σ' ds' hd -> Q σ' H) -> g vs σ H Q
theorem zN {i : Nat} {x : Str} {pos : Pos} (hN : X.N.Nodup) (hi : X.N[i]? = some x := by rfl) (hx : Loc X.env.scope x := by first | exact Or.inl rfl | exact Or.inr rfl)
  (hf : X.fn x = true \/ X.env.scope.names.lookup x = some .local := by first | exact .inl rfl | exact .inr rfl) : PGv X (.Name x pos) (zT i) :=
 ⟨_, pg_name hN hi hx hf, fun H₀ H O σ ds hd v d ds' Q o r e q => by cases e; exact q _ (o.set r)⟩
theorem jF : PGsv X [] tgNil := ⟨_, pgs_nil, fun H₀ H O σ ds hd vs l ds' Q o r e q => by
 cases r with
 | nil => cases e; exact ⟨rfl, q _ o⟩
 | cons _ _ => cases e⟩
theorem zO {e : Expr} {es : List Expr} {g : D -> List Sl -> Option (List Sl)} {h : List D -> List Sl -> Option (List Sl)} (h1 : PGv X e g) (h2 : PGsv X es h)
  (hs : (assignEach (e :: es) X.env).map (·.2) = assign e X.env :: (assignEach es X.env).map (·.2) := by rfl) : PGsv X (e :: es) (zP g h) := by
 obtain ⟨t, ht, hf⟩ := h1
 obtain ⟨u, hu, hg⟩ := h2
 refine ⟨_, pgs_cons ht hu hs, fun H₀ H O σ ds hd vs l ds' Q o r e q => ?_⟩
 cases r with
 | nil => cases e
 | cons r1 rr =>
   rename_i v d vr dr
   simp only [zP] at e
   cases h1 : g d ds with
   | none => rw [h1] at e; cases e
   | some ds1 =>
     rw [h1] at e
     exact ⟨v, vr, rfl, hf H₀ H O σ ds hd v d ds1 _ o r1 h1 fun σ' o' => hg H₀ H O σ' ds1 hd vr dr ds' Q o' rr e q⟩
theorem yM {es : List Expr} {k : Nat} {pos : Pos} {h : List D -> List Sl -> Option (List Sl)} {n : Nat} (hc : X.calm = true) (hh : PGsv X es h)
  (hn : (assignEach es X.env).length = n := by rfl) (hst : (assignEach es X.env).findIdx? (·.1) = none := by rfl) : PGv X (.Tuple es k pos) (tupG n h) := by
 obtain ⟨t, ht, hf⟩ := hh
 refine ⟨_, pg_tup hc ht hn hst, fun H₀ H O σ ds hd v d ds' Q o r e q => ?_⟩
 cases d with
 | tup l =>
   simp only [tupG] at e
   split at e
   · rename_i hl
     obtain ⟨a, xs, rfl, hs, rs⟩ := WRep.seqT (.inl r)
     exact ⟨a, xs, rfl, hs, by rw [rs.length]; exact hl, hf H₀ H O σ ds hd xs l ds' Q o rs e q⟩
   · cases e
 | _ => cases e
theorem retB_less {K : Frag} {H : Hp} {hd : Hold} {q : HI} {v : V} {r : Ret} (h : RetB K H (q :: hd) v r) : RetB K H hd v r := by
 cases r with
 | any d => exact fun B hB => h B (List.mem_cons_of_mem _ hB)
 | _ => exact True.intro
theorem jZ {tg iter : Expr} {body : List Stmt} {pos : Pos} {fi : FA} {ga : D -> List Sl -> Option (List Sl)} {g : FS} (hp : PassesOwn (model X.prog X.w) X.A X.env X.xe) (hc : X.calm = true) (hi : PIv X tg iter fi) (hg : PGv X tg ga) (hb : PSsv X body g)
  (hs : ∀ x, foldedSetIterable iter X.env x = pure x := by intro _; rfl) : PSv X (.For tg iter body [] pos) (forG fi ga g) := by
 obtain ⟨wi, pi, hi⟩ := hi
 obtain ⟨tg', pg, hg⟩ := hg
 obtain ⟨tb, pb, hb⟩ := hb
 refine ⟨_, ps_for hp hc pi pg pb hs, fun H₀ H O σ ds hd out E o e h => ?_⟩
 unfold forG at e
 cases h1 : fi ds with
 | none => rw [h1] at e; cases e
 | some items =>
   rw [h1] at e
   simp only [Option.bind_some] at e
   refine hi H₀ H O σ ds hd items _ o h1 fun J p H' s r wk => ?_
   refine ⟨fun i m σ' H' => i <= items.length /\ m = items.length - i /\ ∃ O' ds', Ok X.K H₀ H' O' σ' ds' (HI.rep p.1 p.2 :: hd) /\ jD ga g (items.drop i) ds' = some out, ⟨items.length, Nat.zero_le _, rfl, O, ds, (o.mono s).holdMore (p := HI.rep p.1 p.2) r, by simpa using e⟩, ?_⟩
   rintro i m σ1 H1 ⟨hi1, rfl, O1, ds1, o1, e1⟩
   obtain ⟨go, stop⟩ := wk H1 O1 o1.dom (o1.hold (HI.rep p.1 p.2) List.mem_cons_self)
   by_cases hlt : i < items.length
   · right
     have hd0 : items[i]? = some items[i] := List.getElem?_eq_getElem hlt
     obtain ⟨hgo, hy⟩ := go i _ hd0
     rw [List.drop_eq_getElem_cons hlt, jD] at e1
     refine ⟨hgo, fun σ' H' => i + 1 <= items.length /\ ∃ O' ds', Ok X.K H₀ H' O' σ' ds' (HI.rep p.1 p.2 :: hd) /\ jD ga g (items.drop (i + 1)) ds' = some out, fun σ' H' ⟨q1, q2⟩ => ⟨items.length - (i + 1), by omega, q1, rfl, q2⟩, fun x H2 y => ?_⟩
     obtain ⟨s2, r2⟩ := hy x H2 y
     cases h2 : ga items[i] ds1 with
     | none => rw [h2] at e1; cases e1
     | some ds2 =>
       rw [h2] at e1
       simp only [Option.bind_some] at e1
       cases h3 : g ds2 with
       | none => rw [h3] at e1; cases e1
       | some o3 =>
         rw [h3] at e1
         simp only [Option.bind_some] at e1
         refine hg H₀ H2 O1 σ1 ds1 (HI.rep p.1 p.2 :: hd) x _ ds2 _ (o1.mono s2) r2 h2 fun σ' o' => ?_
         refine hb H₀ H2 O1 σ' ds2 (HI.rep p.1 p.2 :: hd) o3 _ o' h3 ?_
         cases o3 with
         | nx ds3 => exact fun σ3 H3 O3 ok3 => ⟨hlt, O3, ds3, ok3, e1⟩
         | ct ds3 => exact fun σ3 H3 O3 ok3 => ⟨hlt, O3, ds3, ok3, e1⟩
         | bk ds3 => cases e1; exact fun σ3 H3 O3 ok3 => h σ3 H3 O3 ok3.holdLess
         | rt rr => cases e1; exact fun v H s r b => h v H s r (retB_less b)
   · left
     have ei : i = items.length := by omega
     subst ei
     rw [List.drop_length, jD] at e1
     cases e1
     exact ⟨stop, h σ1 H1 O1 o1.holdLess⟩
variable (X) in
def PFv (ifs : List Expr) (c : FT) : Prop := ∃ t, PF X ifs t /\ ∀ H₀ H O σ ds hd b Q, Ok X.K H₀ H O σ ds hd -> c ds = some b -> (∀ H', Same H H' -> Q b H') -> t σ H Q
theorem xL : PFv X [] (fun _ => some true) := ⟨_, pf_nil, fun _ H _ _ _ _ _ _ _ e q => by cases e; exact q H (Same.refl _)⟩
theorem Ok.inner {K : Frag} {H₀ H : Hp} {O : Addr -> Prop} {σ : L2.St} {ds : List Sl} {hd : Hold} (o : Ok K H₀ H O σ ds hd) (mp : List (Option Nat)) : Ok K H₀ H O (slotsY mp σ) (jK mp ds) hd := by
 have no : ∀ {i : Nat} {l : List D}, (jK mp ds)[i]? = some (.own l) -> False := fun {i l} e => by
  unfold jK at e
  rw [List.getElem?_map] at e
  cases hm : mp[i]? with
  | none => rw [hm] at e; cases e
  | some m =>
    rw [hm] at e
    simp only [Option.map_some, Option.some.injEq] at e
    cases m with
    | none => cases e
    | some j =>
      simp only at e
      split at e <;> cases e
 refine ⟨o.same, fun i l a e _ => (no e).elim, o.dom, by simp [slotsY, jK], fun i s e => ?_, fun i j a hij hi hj e1 e2 => ?_, o.hold⟩
 · unfold jK at e
   unfold slotsY
   rw [List.getElem?_map] at e ⊢
   cases hm : mp[i]? with
   | none => rw [hm] at e; cases e
   | some m =>
     rw [hm] at e
     simp only [Option.map_some, Option.some.injEq] at e
     cases m with
     | none =>
       simp only at e
       subst e; exact yL
     | some j =>
       simp only at e
       cases hj : ds[j]? with
       | none => rw [hj] at e; subst e; exact yL
       | some s' =>
         rw [hj] at e
         cases s' with
         | no => subst e; exact yL
         | exc _ => subst e; exact yL
         | fr _ => subst e; exact yL
         | own l => subst e; exact yL
         | v d =>
           simp only at e
           subst e
           obtain ⟨v, h1, h2⟩ := o.read hj
           simp only [Option.map_some, Option.bind_some, h1, Option.join_some]
           exact wI h2
 · obtain ⟨l, e⟩ := hi
   unfold jK at e
   rw [List.getElem?_map] at e
   cases hm : mp[i]? with
   | none => rw [hm] at e; cases e
   | some m =>
     rw [hm] at e
     simp only [Option.map_some, Option.some.injEq] at e
     cases m with
     | none => cases e
     | some j =>
       simp only at e
       cases hj : ds[j]? with
       | none => rw [hj] at e; cases e
       | some s' => rw [hj] at e; cases s' <;> cases e
section
variable {scope : Scope} {NY : List Str} {mp : List (Option Nat)} {tg iter elt : Expr} {ifs : List Expr} {pos : Pos} {fi : FA} {ga : D -> List Sl -> Option (List Sl)} {tt : FT} {fe : FE}
theorem comp_sem {wi : TI} {g : CI -> TG} {t1 : CI -> TT} {t2 : CI -> TE}
  (hi : ∀ H₀ H O σ ds hd items R, Ok X.K H₀ H O σ ds hd -> fi ds = some items -> (∀ J p H', Same H H' -> Rep X.K H' O p.1 p.2 -> Wlk X.K J p items -> R J H') -> wi σ H R)
  (hg : ∀ c H₀ H O σ ds hd v d ds' Q, Ok X.K H₀ H O σ ds hd -> Rep X.K H O v d -> ga d ds = some ds' -> (∀ σ', Ok X.K H₀ H O σ' ds' hd -> Q σ' H) -> g c v σ H Q)
  (ht : ∀ c H₀ H O σ ds hd b Q, Ok X.K H₀ H O σ ds hd -> tt ds = some b -> (∀ H', Same H H' -> Q b H') -> t1 c σ H Q)
  (he : ∀ c H₀ H O σ ds hd d Q, Ok X.K H₀ H O σ ds hd -> fe ds = some d -> (∀ v H', Same H H' -> Rep X.K H' O v d -> Q v H') -> t2 c σ H Q) :
  ∀ H₀ H O σ ds hd l Q, Ok X.K H₀ H O σ ds hd -> compG fi mp ga tt fe ds = some l →
   (∀ a xs H', Same H H' -> H a = none -> H' a = some (.lst xs) -> Reps X.K H' (ins1 a O) xs l -> Q (.ref a) H') -> tComp wi mp g t1 t2 σ H Q := by
 intro H₀ H O σ ds hd l Q o e q
 unfold compG at e
 cases h1 : fi ds with
 | none => rw [h1] at e; cases e
 | some items =>
   rw [h1] at e
   simp only [Option.bind_some] at e
   split at e
   · rename_i hsz
     refine hi H₀ H O σ ds hd items _ o h1 fun J p H1 s1 r1 wk => fun c => ?_
     have oI : Ok X.K H₀ H1 O (slotsY mp σ) (jK mp ds) (HI.rep p.1 p.2 :: hd) := ((o.mono s1).holdMore (p := HI.rep p.1 p.2) r1).inner mp
     refine ⟨fun i m ys H2 => i <= items.length /\ m = items.length - i /\ Same H1 H2 /\ ys.length <= i /\ ∃ l' rest, Reps X.K H2 O ys l' /\ compL ga tt fe (jK mp ds) (items.drop i) = some rest /\ l = l' ++ rest,
      ⟨items.length, Nat.zero_le _, rfl, Same.refl _, Nat.le_refl _, [], l, .nil, by simpa using e, rfl⟩, ?_⟩
     rintro i m ys H2 ⟨hi1, rfl, s2, hy, l', rest, ry, er, el⟩
     have o2 := oI.mono s2
     obtain ⟨go, stop⟩ := wk H2 O o2.dom (o2.hold (HI.rep p.1 p.2) List.mem_cons_self)
     by_cases hlt : i < items.length
     · right
       have hd0 : items[i]? = some items[i] := List.getElem?_eq_getElem hlt
       obtain ⟨hgo, hyl⟩ := go i _ hd0
       refine ⟨hgo, by omega, fun x H3 y => ?_⟩
       obtain ⟨s3, r3⟩ := hyl x H3 y
       rw [List.drop_eq_getElem_cons hlt, compL] at er
       cases h2 : ga items[i] (jK mp ds) with
       | none => rw [h2] at er; cases er
       | some ds1 =>
         rw [h2] at er
         simp only [Option.bind_some] at er
         refine hg c H₀ H3 O _ _ (HI.rep p.1 p.2 :: hd) x _ ds1 _ (o2.mono s3) r3 h2 fun σ' o3 => ?_
         cases h3 : tt ds1 with
         | none => rw [h3] at er; cases er
         | some b =>
           rw [h3] at er
           simp only [Option.bind_some] at er
           refine ht c H₀ H3 O σ' ds1 (HI.rep p.1 p.2 :: hd) b _ o3 h3 fun H4 s4 => ?_
           cases b with
           | false =>
             refine iteF ⟨items.length - (i + 1), by omega, hlt, rfl, (s2.trans s3).trans s4, Nat.le_succ_of_le hy, l', rest, (ry.mono s3).mono s4, by simpa using er, el⟩
           | true =>
             refine iteT ?_
             simp only [if_true] at er
             cases h4 : fe ds1 with
             | none => rw [h4] at er; cases er
             | some yd =>
               rw [h4] at er
               simp only [Option.bind_some] at er
               cases h5 : compL ga tt fe (jK mp ds) (items.drop (i + 1)) with
               | none => rw [h5] at er; cases er
               | some rest' =>
                 rw [h5] at er
                 cases er
                 refine he c H₀ H4 O σ' ds1 (HI.rep p.1 p.2 :: hd) yd _ (o3.mono s4) h4 fun v H5 s5 r5 => ?_
                 refine ⟨items.length - (i + 1), by omega, hlt, rfl, ((s2.trans s3).trans s4).trans s5, by simp; omega, l' ++ [yd], rest', (((ry.mono s3).mono s4).mono s5).append (.cons r5 .nil), h5, ?_⟩
                 rw [el]; simp
     · left
       have ei : i = items.length := by omega
       subst ei
       rw [List.drop_length, compL] at er
       cases er
       rw [List.append_nil] at el
       subst el
       refine ⟨stop, by omega, fun a ha => ?_⟩
       refine q a ys _ ((s1.trans s2).trans (qT ha _)) ((s1.trans s2).free ha) qQ ?_
       exact (ry.more ha).mono (qT ha _)
   · cases e
theorem xI (S : CompScope X scope NY mp) (hc : X.calm = true) (hi : PIv X tg iter fi) (hg : ∀ c, PGv (yD X scope NY c) tg ga) (ht : ∀ c, PFv (yD X scope NY c) ifs tt) (he : ∀ c, PV (yD X scope NY c) elt fe)
  (hs : ∀ x, foldedSetIterable iter X.env x = pure x := by intro _; rfl) : PVf X (.ListComp elt [⟨tg, iter, ifs, 0⟩] scope pos) (compG fi mp ga tt fe) := by
 obtain ⟨wi, pi, hi⟩ := hi
 refine ⟨_, pe_comp S hc pi (fun c => (Classical.choose_spec (hg c)).1) (fun c => (Classical.choose_spec (ht c)).1) (fun c => (Classical.choose_spec (he c)).1) hs, ?_⟩
 exact comp_sem hi (fun c => (Classical.choose_spec (hg c)).2) (fun c => (Classical.choose_spec (ht c)).2) (fun c => (Classical.choose_spec (he c)).2)
end
end
end FL
namespace L2
open PySem PySem.Spec PyProof.Rows
section
variable {X : Cx}
inductive TyV (K : PySem.W.Frag) (H : Hp) : V -> Value -> Prop where
 | of {x : V} {t : Value} (h : TyOf K H x t) : TyV K H x t
 | lstK {a : Addr} {o : Obj} (h : K.lookup a = some o) (c : o.cls = .type "list") : TyV K H (.ref a) (.type "list")
 | tupK {a : Addr} {o : Obj} (h : K.lookup a = some o) (c : o.cls = .type "tuple") : TyV K H (.ref a) (.type "tuple")
 | tupF {a : Addr} {o : Obj} {xs : List V} (h : H a = some (.frz o (.tup xs))) : TyV K H (.ref a) (.type "tuple")
def clsV : V -> Value -> Prop
 | .ty n, u => u = .type n
 | .ref a, u => u = .ref a
 | _, _ => False
theorem call_isi : CallR X (.builtin "isinstance") (fun xs H Q => ∃ x c cv t b, xs = [x, c] /\ clsV c cv /\ TyV X.K H x t /\ PySem.W.kitOne X.K t cv = some b /\ Q (.bl b) H) := by
 intro pins s σ H xs us Q I r h
 obtain ⟨x, c, cv, t, b, rfl, hc, ty, e, q⟩ := h
 obtain ⟨u, u2, rfl, ru, ru2⟩ := vals2 r
 have e2 : u2 = cv := by
  cases c with
  | ty n => cases (show cv = .type n from hc); cases (show u2 = .type n from ru2); rfl
  | ref a => cases (show cv = .ref a from hc); cases (show u2 = .ref a from ru2); rfl
  | _ => exact (show False from hc).elim
 subst e2
 have fin : ∀ tk, EP X pins σ Q (.bool b) { s with toks := tk } := fun tk => ⟨.bl b, H, I.tok tk, rfl, q⟩
 cases ty with
 | of h => exact isinst_ok I ru h e fin
 | @lstK a o h c =>
   cases (show u = Value.ref a from ru)
   exact PySem.W.kia_one PySem.W.kitx_list I.kIn ⟨o, I.kIn _ _ h, c⟩ e (fun z => nomatch z) fin
 | @tupK a o h c =>
   cases (show u = Value.ref a from ru)
   exact PySem.W.kia_one PySem.W.kitx_tuple I.kIn ⟨o, I.kIn _ _ h, c⟩ e (fun z => nomatch z) fin
 | @tupF a o xs ea =>
   cases (show u = Value.ref a from ru)
   obtain ⟨e0, _, _, _, p⟩ := (show ObjOk X.prog X.w H s.heap a (.frz o (.tup xs)) from I.hok a _ ea)
   obtain ⟨o', h1, h2, _⟩ := p
   exact PySem.W.kia_one PySem.W.kitx_tuple I.kIn ⟨o', h1, h2⟩ e (fun z => nomatch z) fin
theorem bools_of : ∀ {bs : List Bool} {us : List Value}, Vals (bs.map V.bl) us -> LSm.BoolsAre us bs
 | [], _, .nil => .nil
 | b :: r, _, .cons h t => by
   cases (show _ = Value.bool b from h)
   exact .cons b (bools_of t)
theorem call_allB (hc : X.calm = true) : CallR X (.builtin "all") (fun xs H Q => ∃ (p : Addr) (bs : List Bool), xs = [.ref p] /\ SqL X.K H p (bs.map V.bl) /\ Q (.bl (bs.all id)) H) := by
 intro pins s σ H xs us Q I r h
 obtain ⟨p, bs, rfl, hq, q⟩ := h
 obtain ⟨u, rfl, ru⟩ := vals1 r
 cases ru
 obtain ⟨its, rv, pl, hz⟩ := I.list hq
 have hlt : p < s.heap.objs.size := by obtain ⟨_, e, _⟩ := pl.isList; exact Heap.lt_size e
 have hb := bools_of rv
 refine call_all_walk (wpAny_pyIter_list pl.isList ?_)
 refine ⟨s.heap.objs.size, [s.heap.objs.size, p], [s.heap.objs.size], its.toArray.size, _, _, fun i => (bs[i]?).getD true, rfl, Walks.list (A := X.A.in1) (I.ok.hd hc) _ p (Nat.ne_of_lt hlt) its.toArray,
  ⟨⟨_, Heap.get?_push_size _ rfl, rfl, rfl⟩, pl.isList.push _⟩, fun i v s' Q' E' hP hQ => ?_, fun h' tk hk => ?_⟩
 · obtain ⟨b, e, rfl⟩ := hb.get i v (by simpa using hP)
   simp only [e, Option.getD_some] at hQ
   exact wpAny_truthy_bool hQ
 · have e : ((List.range its.toArray.size).all fun i => (bs[i]?).getD true) = bs.all id := by
    rw [List.size_toArray, hb.length]; exact LSm.range_all bs
   rw [e]
   exact ⟨.bl _, H, I.kept (LSm.kept_iter hk), rfl, q⟩
theorem strs_of : ∀ {ts : List Str} {us : List Value}, Vals (ts.map V.str) us -> StrsAre us ts
 | [], _, .nil => .nil
 | b :: r, _, .cons h t => by
   obtain ⟨tk, rfl⟩ := (show ∃ tk, _ = Value.str b tk from h)
   exact .cons b tk (strs_of t)
def rJoin (K : PySem.W.Frag) : V -> List V -> Hp -> VK -> Prop := fun x vs H Q => ∃ (z : Str) (p : Addr) (ts : List Str), x = .str z /\ vs = [.ref p] /\ SqL K H p (ts.map V.str) /\ z.length <= 16 /\ (ts.map (·.length)).sum + ts.length <= 1048576 /\ Q (.str (Txt.join z ts)) H
theorem mt_join : MtR X "str.join" (rJoin X.K) := by
 intro pins s σ H x vs v us Q I rx rv h
 obtain ⟨z, p, ts, rfl, rfl, hq, hz, hw, q⟩ := h
 obtain ⟨tk, rfl⟩ := (show ∃ tk, v = Value.str z tk from rx)
 obtain ⟨u, rfl, ru⟩ := rv.one
 cases ru
 obtain ⟨its, rv, pl, hl⟩ := I.list hq
 exact join_listW pl.isList (by simpa using strs_of rv) hz hw fun t' k => ⟨.str _, H, I.tok k, ⟨t', rfl⟩, q⟩
end
end L2
namespace FL
open PySem PySem.Spec PyProof.Rows L2
section
variable {X : Cx}
def kitO (t T : String) : Option Bool := if ((Value.type t) == (Value.type T)) = true then some true else if PySem.W.kitMeta T = true then (fastBuiltinMro t).map (·.contains (.type T)) else none
theorem kit_all : ∀ t ∈ kitN, ∀ T ∈ kitT, kitO t T = some (t == T || (t == "bool" && T == "int")) := by decide +kernel
theorem kit_of {K : Frag} {t T : String} {b : Bool} (h : kitF t T = some b) : PySem.W.kitOne K (.type t) (.type T) = some b := by
 unfold kitF at h
 split at h
 · rename_i hm
   cases h
   exact kit_all t hm.1 T hm.2
 · cases h
theorem ty_of {K : Frag} {H : Hp} {O : Addr -> Prop} {v : V} {d : D} {t : String} (r : WRep K H O v d) (e : tyD d = some t) : TyV K H v (.type t) := by
 rcases r with r | ⟨a, xs, l, rfl, rfl, ho, h, rs⟩
 · cases r with
   | non => cases e; exact .of .non
   | bl b => cases e; exact .of (.bl b)
   | int i => cases e; exact .of (.int i)
   | str x => cases e; exact .of (.str x)
   | tup n h r =>
     cases e
     rcases h with h | ⟨o, h⟩
     · exact .of (.tup h)
     · exact .tupF h
   | tupK h r => cases e; obtain ⟨o, its, m, hk, hc, _⟩ := h; exact .tupK hk hc
   | lst n h r =>
     cases e
     rcases h with h | ⟨o, h⟩
     · exact .of (.lst h)
     · exact .of (.frz h)
   | lstK h r => cases e; obtain ⟨o, its, m, hk, hc, _⟩ := h; exact .lstK hk hc
   | dct n h e' r => cases e; exact .of (.dK h)
   | ins c n h e' r => cases e
   | clo tx h e' nd c r => cases e
   | fnK h => cases e
 · cases e; exact .of (.lst h)
theorem wH {p pT pos : Pos} {e : Expr} {f : FE} {x : Str} {T : String} (hm : X.mg "isinstance" = none) (hT : X.mg x = none) (hv : bootBuiltins x = some (.type T)) (he : PVw X e f) (hg : Gl X "isinstance" := by rfl) (hgT : Gl X x := by rfl)
  (h1 : starEach [e, .Name x pT] X.env = (false, eval e X.env) :: starEach [.Name x pT] X.env := by rfl) (h2 : starEach [.Name x pT] X.env = (false, eval (.Name x pT) X.env) :: starEach [] X.env := by rfl) (h3 : (backTo pos (starEach [.Name x pT] X.env)).any (·.1) = false := by rfl)
  (hn : x ≠ "__name__" := by decide) (hd : (x == ("__debug__" : Str)) = false := by decide) : PV X (.Call (.Name "isinstance" p) [e, .Name x pT] [] pos) (isiG T f) := by
 obtain ⟨t, ht, hf⟩ := he
 refine ⟨_, pe_callB call_isi hg hm (by decide +kernel) (jS ht (jS (pe_bltn (v := .ty T) hgT hT hv rfl hn hd) xC h2) h1) (by decide) (by decide) h1 h3, fun H₀ H O σ ds hd d Q o e q => ?_⟩
 unfold isiG at e
 cases hh : f ds with
 | none => rw [hh] at e; cases e
 | some dx =>
   rw [hh] at e
   simp only [Option.bind_some, isiD] at e
   cases ht : tyD dx with
   | none => rw [ht] at e; cases e
   | some t =>
     rw [ht] at e
     simp only [Option.bind_some] at e
     cases hk : kitF t T with
     | none => rw [hk] at e; cases e
     | some b =>
       rw [hk] at e
       cases e
       refine hf H₀ H O σ ds hd dx _ o hh fun v H' s r => ?_
       exact ⟨v, .ty T, .type T, .type t, b, rfl, rfl, ty_of r ht, kit_of hk, q _ H' s (.bl b)⟩
theorem bls_rep {K : Frag} {H : Hp} {O : Addr -> Prop} : ∀ {xs : List V} {l : List D} {bs : List Bool}, Reps K H O xs l -> blsD l = some bs -> xs = bs.map V.bl
 | _, _, _, .nil, e => by cases e; rfl
 | _, _, bs, .cons (d := d) h t, e => by
   cases d with
   | bl b =>
     rename_i ds
     simp only [blsD] at e
     cases hr : blsD ds with
     | none => rw [hr] at e; cases e
     | some r =>
       rw [hr] at e
       cases e
       cases h
       rw [bls_rep t hr]
       rfl
   | _ => cases e
theorem cs_all : CallS X (fun xs H Q => ∃ (p : Addr) (bs : List Bool), xs = [.ref p] /\ SqL X.K H p (bs.map V.bl) /\ Q (.bl (bs.all id)) H) allD := by
 intro H O vs l d Q ho r e q
 match l, r, e with
 | [.lst l], .cons r .nil, e =>
   simp only [allD] at e
   cases hb : blsD l with
   | none => rw [hb] at e; cases e
   | some bs =>
     rw [hb] at e
     cases e
     obtain ⟨a, xs, rfl, hs, rs⟩ := r.seqL
     refine ⟨a, bs, rfl, ?_, q _ H (Same.refl _) (.bl _)⟩
     rw [<- bls_rep rs hb]
     exact hs
theorem pv_all {p pos : Pos} {e : Expr} {g : FA} (hc : X.calm = true) (hm : X.mg "all" = none) (ha : PAv X [e] g) (hg : Gl X "all" := by rfl) (he : starEach [e] X.env = [(false, eval e X.env)] := by rfl) :
  PV X (.Call (.Name "all" p) [e] [] pos) (callB allD g) := wX (call_allB hc) cs_all hm (by decide +kernel) ha hg (by decide) (by decide) he rfl
theorem strs_rep {K : Frag} {H : Hp} {O : Addr -> Prop} : ∀ {xs : List V} {l : List D} {bs : List Str}, Reps K H O xs l -> strsD l = some bs -> xs = bs.map V.str
 | _, _, _, .nil, e => by cases e; rfl
 | _, _, bs, .cons (d := d) h t, e => by
   cases d with
   | str b =>
     rename_i ds
     simp only [strsD] at e
     cases hr : strsD ds with
     | none => rw [hr] at e; cases e
     | some r =>
       rw [hr] at e
       cases e
       cases h
       rw [strs_rep t hr]
       rfl
   | _ => cases e
theorem kI {o e : Expr} {apos cpos : Pos} {f g : FE} (ho : PVw X o f) (he : PVw X e g)
  (hbase : attributeBase o "join" X.env (eval o X.env) = eval o X.env := by rfl)
  (hfew : ((backTo cpos (starEach [e] X.env)).all (fun x => !x.1) && (backToKw cpos (keywordEach [] X.env)).all (fun x => x.1.isSome)
    && decide ([e].length + ([] : List Keyword).length + (if ([] : List Keyword).isEmpty then 0 else 1) < 30)) = true := by rfl)
  (hline : (apos.endLine == cpos.line) = true := by rfl) (hs : starEach [e] X.env = (false, eval e X.env) :: starEach [] X.env := by rfl) :
  PV X (.Call (.Attribute o "join" apos) [e] [] cpos) (zK joinD f g) := by
 obtain ⟨to, po, ho⟩ := ho
 obtain ⟨te, pe, he⟩ := he
 refine ⟨_, pe_bm PySem.F.plainAttrs_str PySem.F.slot_str_join PySem.F.type_str_join mt_join po (jS pe xC hs) hbase hfew hline hs rfl, fun H₀ H O σ ds hd d Q o e q => ?_⟩
 unfold zK at e
 cases h1 : f ds with
 | none => rw [h1] at e; cases e
 | some dx =>
   cases h2 : g ds with
   | none => rw [h1, h2] at e; cases e
   | some dy =>
     rw [h1, h2] at e
     simp only [Option.bind_some] at e
     cases dx with
     | str z =>
       cases dy with
       | lst l =>
         simp only [joinD] at e
         cases h3 : strsD l with
         | none => rw [h3] at e; cases e
         | some ts =>
           rw [h3] at e
           simp only [Option.bind_some] at e
           split at e
           · rename_i hc
             cases e
             refine ho H₀ H O σ ds hd _ _ o h1 fun x H1 s1 r1 => ?_
             rw [r1.str']
             refine ⟨rfl, ?_⟩
             refine he H₀ H1 O σ ds hd _ _ (o.mono s1) h2 fun y H2 s2 r2 => ?_
             obtain ⟨a, xs, rfl, hs, rs⟩ := r2.seqL
             refine ⟨z, a, ts, rfl, rfl, ?_, hc.1, hc.2, q _ H2 (s1.trans s2) (.str _)⟩
             rw [<- strs_rep rs h3]
             exact hs
           · cases e
       | _ => simp [joinD] at e
     | _ => simp [joinD] at e
theorem xV {a : Expr} {pos : Pos} {f : FE} (ha : PV X a f) : PV X (.UnaryOp .USub a pos) (un1 negD f) := by
 obtain ⟨ta, pa, ha⟩ := ha
 refine ⟨_, pe_un un_neg pa, fun H₀ H O σ ds hd d Q o e q => ?_⟩
 unfold un1 at e
 cases h1 : f ds with
 | none => rw [h1] at e; cases e
 | some dx =>
   rw [h1] at e
   cases dx with
   | int i =>
     cases e
     refine ha H₀ H O σ ds hd _ _ o h1 fun x H1 s1 r1 => ?_
     cases r1
     exact ⟨i, rfl, q _ H1 s1 (.int _)⟩
   | _ => cases e
theorem os_inS : OpS X (fun x y H Q => ∃ i j, x = .str i /\ y = .str j /\ Q (.bl (!(Builtin.Str.occurrences j i 0 j.length 1).isEmpty)) H) inS := by
 intro H O x y dx dy d Q ho rx ry e q
 cases dx <;> cases dy <;> first | (simp [inS] at e; done) | skip
 cases e
 rw [rx.str', ry.str']
 exact ⟨_, _, rfl, rfl, q _ H (Same.refl _) (.bl _)⟩
variable (X) in
def PVd (e : Expr) (f : FE) : Prop := ∃ t, PE X e t /\ ∀ H₀ H O σ ds hd d Q, Ok X.K H₀ H O σ ds hd -> f ds = some d -> (∀ v H', Same H H' -> Rep X.K H' (Old H) v d -> Q v H') -> t σ H Q
theorem not_old {H : Hp} {p : Addr} (h : H p = none) : ¬ Old H p := fun ⟨o, e, _⟩ => by rw [h] at e; cases e
theorem xJ {e : Expr} {pos : Pos} {f : FE} (he : PVd X e f) : PSv X (.Return (some e) pos) (retDG f) := by
 obtain ⟨t, ht, hg⟩ := he
 refine ⟨_, ps_ret ht, fun H₀ H O σ ds hd out E o e h => ?_⟩
 unfold retDG at e
 cases h1 : f ds with
 | none => rw [h1] at e; cases e
 | some d =>
   rw [h1] at e
   cases e
   exact hg H₀ H O σ ds hd d _ o h1 fun v H' s r => h _ _ (o.same.trans s) (r.less fun a z => Old.mono o.same z) True.intro
end
end FL
namespace FL
open PySem PySem.Spec PyProof.Rows L2
section
variable {X : Cx}
def compOk (sc scope : Scope) (N NY : List Str) (mp : List (Option Nat)) : Bool :=
 scope.kind == .function && scope.names.all (fun y => y.2 != .cell) && scope.names.all (fun y => y.2 != .local || scope.names.lookup y.1 == some .local)
 && scope.names.all (fun y => y.2 != .free || (sc.names.lookup y.1 == some .cell || sc.names.lookup y.1 == some .free)) && mp.length == NY.length
 && (List.range NY.length).all (fun i => match NY[i]?, mp[i]? with | some x, some (some j) => N[j]? == some x && scope.names.lookup x == some .free | _, _ => true)
theorem jR {scope : Scope} {NY : List Str} {mp : List (Option Nat)} (h : compOk X.env.scope scope X.N NY mp = true) : CompScope X scope NY mp := by
 unfold compOk at h
 simp only [Bool.and_eq_true, List.all_eq_true, beq_iff_eq] at h
 obtain ⟨⟨⟨⟨⟨h1, h2⟩, h3⟩, h4⟩, h5⟩, h6⟩ := h
 refine ⟨h1, fun y hy => by simpa using h2 y hy, fun y hy hk => ?_, fun y hy hk => ?_, h5, fun i x j e1 e2 => ?_⟩
 · have := h3 y hy
   simpa [hk] using this
 · have := h4 y hy
   simp only [hk, bne_self_eq_false, Bool.false_or, Bool.or_eq_true, beq_iff_eq] at this
   exact this
 · have hi : i ∈ List.range NY.length := List.mem_range.mpr (List.getElem?_eq_some_iff.mp e1).1
   have := h6 i hi
   rw [e1, e2] at this
   simpa using this
end
theorem zR {g : FS} {n : Nat} {ds : List D} {r : Ret} (e : runG g n ds = some r) : Does g n ds r := by
 unfold runG at e
 cases h : g (args n ds) with
 | none => rw [h] at e; cases e
 | some o =>
   rw [h] at e
   cases o with
   | rt r' => cases e; exact .inl h
   | nx ds' => cases e; exact .inr ⟨rfl, ds', h⟩
   | bk ds' => cases e
   | ct ds' => cases e
end FL
namespace L2
open PySem PySem.Spec PyProof.Rows
section
variable {X : Cx}
theorem op_mulB : OpR X (binaryOp .Mult) (rI IntMulOk fun i j => .int (i * j)) := opI fun _ _ _ _ _ _ _ hc q => mul_int q hc
theorem op_powB : OpR X (binaryOp .Pow) (rI FL.CPowB fun i j => .int (i ^ j.toNat)) := opI fun _ _ _ _ _ _ _ hc q => pow_int hc.1 hc.2 q
def rCatS (K : PySem.W.Frag) : R2 := fun x y H Q => ∃ l b xs zs, x = .ref l /\ y = .ref b /\ SqL K H l xs /\ SqL K H b zs /\ xs.length + zs.length <= sizeLine /\ ∀ p, H p = none -> Q (.ref p) (upd H p (.lst (xs ++ zs)))
theorem op_catS : OpR X (binaryOp .Add) (rCatS X.K) := by
 intro pins s σ H x y v u Q I rx ry h
 obtain ⟨l, b, xs, zs, rfl, rfl, hH, hB, hz, q⟩ := h
 cases rx
 cases ry
 obtain ⟨its, r, pl, z⟩ := I.list hH
 obtain ⟨its2, r2, pl2, z2⟩ := I.list hB
 obtain ⟨⟨cls, dd, data, sl⟩, ho, hc, n, hd⟩ := pl.isList
 obtain ⟨⟨cls2, dd2, data2, sl2⟩, ho2, hc2, n2, hd2⟩ := pl2.isList
 simp only at hc hd hc2 hd2
 subst hc hd hc2 hd2
 have hl := r.length
 have hl2 := r2.length
 refine concat_meets ⟨_, ho, rfl⟩ ⟨_, ho2, rfl⟩ noFill_list_add seq_list_add PySem.F.slot_list_add PySem.F.entry_list_add (PySem.F.args_list_add_2 _ _) (list_addW l b its.toArray its2.toArray n n2 dd dd2 sl sl2 (by simp only [List.size_toArray]; omega)) ⟨ho, ho2, ?_⟩
 have ea : its.toArray ++ its2.toArray = (its ++ its2).toArray := by simp
 rw [ea]
 exact ⟨.ref _, _, I.lnew (t' := s.toks) (r.append r2) (by rw [List.length_append]; omega), rfl, q _ I.fresh⟩
end
end L2
namespace FL
open PySem PySem.Spec PyProof.Rows L2
section
variable {X : Cx}
variable (X) in
def PVn (e : Expr) (f : FE) : Prop := ∃ t, PE X e t /\ ∀ H₀ H O σ ds hd d Q, Ok X.K H₀ H O σ ds hd -> f ds = some d -> (∀ v H', Same H H' -> Rep X.K H' jY v d -> Q v H') -> t σ H Q
variable (X) in
def PAn (es : List Expr) (f : FA) : Prop := ∃ t, PA X es t /\ ∀ H₀ H O σ ds hd l Q, Ok X.K H₀ H O σ ds hd -> f ds = some l -> (∀ vs H', Same H H' -> Reps X.K H' jY vs l -> Q vs H') -> t σ H Q
theorem PVw.n {e : Expr} {f : FE} (h : PVw X e f) : PVn X e f := by
 obtain ⟨t, ht, hf⟩ := h
 exact ⟨t, ht, fun H₀ H O σ ds hd d Q o e q => hf H₀ H O σ ds hd d Q o e fun v H' s r => q v H' s r.any⟩
theorem PV.n {e : Expr} {f : FE} (h : PV X e f) : PVn X e f := h.w.n
theorem zS : PAn X [] qC := ⟨_, xC, fun _ H _ _ _ _ _ _ _ e q => by cases e; exact q _ H (Same.refl _) .nil⟩
theorem zI {e : Expr} {es : List Expr} {f : FE} {g : FA} (ha : PVn X e f) (hr : PAn X es g) (hs : starEach (e :: es) X.env = (false, eval e X.env) :: starEach es X.env := by rfl) : PAn X (e :: es) (zG f g) := by
 obtain ⟨t, ht, hf⟩ := ha
 obtain ⟨u, hu, hg⟩ := hr
 refine ⟨_, jS ht hu hs, fun H₀ H O σ ds hd l Q o e q => ?_⟩
 unfold zG at e
 cases h : f ds with
 | none => rw [h] at e; cases e
 | some x =>
   cases h2 : g ds with
   | none => rw [h, h2] at e; cases e
   | some r =>
     rw [h, h2] at e
     cases e
     refine hf H₀ H O σ ds hd x _ o h fun v H1 s1 r1 => ?_
     refine hg H₀ H1 O σ ds hd r _ (o.mono s1) h2 fun vs H2 s2 r2 => ?_
     exact q _ H2 (s1.trans s2) (.cons (r1.mono s2) r2)
section
variable {k : Nat} {f : Addr} {fd : FuncData} {ps : List Str} {n : Nat} {F : List D -> Option Ret} {x : Str} {p pos : Pos} {e : Expr} {es : List Expr} {g : FA}
theorem pv_callN (Fn : FnOk X.prog X.w X.K X.mg X.base CX0 k f fd ps (spF X.K n F)) (hr : Room k X.A) (hm : X.mg x = some (.ref f)) (hk : PySem.W.keepIn X.K (.ref f) = true) (hb : Binds X.K fd ps []) (ha : PAn X (e :: es) g)
  (hg : Gl X x := by rfl) (hdb : (x == ("__debug__" : Str)) = false := by decide) (he : starEach (e :: es) X.env = (false, eval e X.env) :: starEach es X.env := by rfl) (hpl : (backTo pos (starEach es X.env)).any (·.1) = false := by rfl) :
  PV X (.Call (.Name x p) (e :: es) [] pos) (qO n F g) := by
 obtain ⟨t, ht, hf⟩ := ha
 refine ⟨_, pe_call (CX := CX0) (E := E0) Fn hr hg hm hk hb .nil pass0 ht hdb he hpl, fun H₀ H O σ ds hd d Q o e q => ?_⟩
 unfold qO at e
 cases h : g ds with
 | none => rw [h] at e; cases e
 | some l =>
   rw [h] at e
   simp only [Option.bind_some] at e
   split at e
   · rename_i hln
     cases h2 : F l with
     | none => rw [h2] at e; cases e
     | some r =>
       rw [h2] at e
       simp only [Option.bind_some] at e
       refine hf H₀ H O σ ds hd l _ o h fun vs H1 s1 r1 => ?_
       have hl := r1.length
       refine ⟨by simp only [List.append_nil]; omega, l, r, by simpa using r1, h2, fun v H' s' ro => q v H' (s1.trans s') ?_⟩
       exact retV_ok ro e fun a ha => (o.mono s1).old ha
   · cases e
theorem pvf_callN (Fn : FnOk X.prog X.w X.K X.mg X.base CX0 k f fd ps (spF X.K n F)) (hr : Room k X.A) (hm : X.mg x = some (.ref f)) (hk : PySem.W.keepIn X.K (.ref f) = true) (hb : Binds X.K fd ps []) (ha : PAn X (e :: es) g)
  (hg : Gl X x := by rfl) (hdb : (x == ("__debug__" : Str)) = false := by decide) (he : starEach (e :: es) X.env = (false, eval e X.env) :: starEach es X.env := by rfl) (hpl : (backTo pos (starEach es X.env)).any (·.1) = false := by rfl) :
  PVf X (.Call (.Name x p) (e :: es) [] pos) (wO n F g) := by
 obtain ⟨t, ht, hf⟩ := ha
 refine ⟨_, pe_call (CX := CX0) (E := E0) Fn hr hg hm hk hb .nil pass0 ht hdb he hpl, fun H₀ H O σ ds hd d Q o e q => ?_⟩
 unfold wO at e
 cases h : g ds with
 | none => rw [h] at e; cases e
 | some l =>
   rw [h] at e
   simp only [Option.bind_some] at e
   split at e
   · rename_i hln
     cases h2 : F l with
     | none => rw [h2] at e; cases e
     | some r =>
       rw [h2] at e
       simp only [Option.bind_some] at e
       refine hf H₀ H O σ ds hd l _ o h fun vs H1 s1 r1 => ?_
       have hl := r1.length
       refine ⟨by simp only [List.append_nil]; omega, l, r, by simpa using r1, h2, fun v H' s' ro => ?_⟩
       obtain ⟨a, xs, rfl, h3, h4, h5⟩ := retF_ok ro e fun a ha => (o.mono s1).old ha
       exact q a xs H' (s1.trans s') (s1.free h3) h4 h5
   · cases e
end
def OpN (X : Cx) (r : R2) (op : D -> D -> Option D) : Prop := ∀ H O x y dx dy d Q, Rep X.K H jY x dx -> Rep X.K H jY y dy -> op dx dy = some d -> (∀ v H', Same H H' -> Rep X.K H' O v d -> Q v H') -> r x y H Q
theorem pvn_tOp {r : R2} {op : D -> D -> Option D} (hs : OpN X r op) {fa fb : FE} {ta tb : TE} (ha : ∀ H₀ H O σ ds hd d Q, Ok X.K H₀ H O σ ds hd -> fa ds = some d -> (∀ v H', Same H H' -> Rep X.K H' jY v d -> Q v H') -> ta σ H Q)
  (hb : ∀ H₀ H O σ ds hd d Q, Ok X.K H₀ H O σ ds hd -> fb ds = some d -> (∀ v H', Same H H' -> Rep X.K H' jY v d -> Q v H') -> tb σ H Q) :
  ∀ H₀ H O σ ds hd d Q, Ok X.K H₀ H O σ ds hd -> zK op fa fb ds = some d -> (∀ v H', Same H H' -> Rep X.K H' O v d -> Q v H') -> tOp r ta tb σ H Q := by
 intro H₀ H O σ ds hd d Q o e q
 unfold zK at e
 cases h1 : fa ds with
 | none => rw [h1] at e; cases e
 | some dx =>
   cases h2 : fb ds with
   | none => rw [h1, h2] at e; cases e
   | some dy =>
     rw [h1, h2] at e
     refine ha H₀ H O σ ds hd dx _ o h1 fun x H1 s1 r1 => ?_
     refine hb H₀ H1 O σ ds hd dy _ (o.mono s1) h2 fun y H2 s2 r2 => ?_
     exact hs H2 O x y dx dy d Q (r1.mono s2) r2 e fun v H' s r => q v H' ((s1.trans s2).trans s) r
theorem kA {op : CmpOp} {r : R2} {opD : D -> D -> Option D} {a b : Expr} {fa fb : FE} {pos : Pos} (ho : OpR X (compareOp op) r) (hs : OpN X r opD) (ha : PVn X a fa) (hb : PVn X b fb) (hm : behindInMarks op b = false) : PV X (.Compare a [op] [b] pos) (zK opD fa fb) := by
 obtain ⟨ta, pa, ha⟩ := ha
 obtain ⟨tb, pb, hb⟩ := hb
 exact ⟨_, pe_cmpR ho pa pb hm, pvn_tOp hs ha hb⟩
theorem kJ {op : CmpOp} {r : R2} {opD : D -> D -> Option D} {a b : Expr} {fa fb : FE} {pos : Pos} (ho : OpR X (compareOp op) r) (hs : OpN X r opD) (ha : PVn X a fa) (hb : PVn X b fb) (hm : behindInMarks op b = false) : PTv X (.Compare a [op] [b] pos) (zW (zK opD fa fb)) := by
 obtain ⟨ta, pa, ha⟩ := ha
 obtain ⟨tb, pb, hb⟩ := hb
 refine ⟨_, pt_cmpR ho pa pb hm, fun H₀ H O σ ds hd k Q o e q => ?_⟩
 unfold zW at e
 cases h : zK opD fa fb ds with
 | none => rw [h] at e; cases e
 | some d =>
   rw [h] at e
   refine pvn_tOp hs ha hb H₀ H O σ ds hd d _ o h fun v H' s r => ?_
   cases d with
   | bl c => cases e; cases r; exact ⟨_, rfl, q H' s⟩
   | _ => cases e
mutual
theorem Rep.reads {pins : List (Addr × Obj)} {σ : L2.St} {H : Hp} {s : Shared} {O : Addr -> Prop} (I : Inv X pins σ H s) : ∀ {v : V} {d : D} {u : Value} {n : Nat}, Rep X.K H O v d -> RelV v u -> shal n d = true -> ∃ as, Reads s.heap u (toPy d) as /\ (toPy d).canLay0 = true /\ (toPy d).depth <= n + 1
 | _, _, _, _, .non, r, _ => by cases r; exact ⟨[], .none, rfl, Nat.zero_le _⟩
 | _, _, _, _, .bl b, r, _ => by cases r; exact ⟨[], .bool b, rfl, Nat.zero_le _⟩
 | _, _, _, _, .int i, r, _ => by obtain ⟨t, rfl⟩ := r; exact ⟨[], .int i t, rfl, Nat.zero_le _⟩
 | _, _, _, _, .str x, r, h => by obtain ⟨t, rfl⟩ := r; exact ⟨[], .str x t, by simpa [toPy, PyData.canLay0, shal] using h, Nat.zero_le _⟩
 | _, _, _, n, .tup m h q, r, hs => by
   cases r
   obtain ⟨its, rv, ⟨o, ho, hc, k, hd⟩, hz⟩ := I.tuple (.inl h)
   obtain ⟨as, h1, h2, h3⟩ := Reps.reads I q rv (by simpa [shal] using hs)
   exact ⟨as, .tuple ho hc hd (by simpa using h1), by simpa [toPy, PyData.canLay0] using h2, by simpa [toPy, PyData.depth] using h3⟩
 | _, _, _, n, .tupK h q, r, hs => by
   cases r
   obtain ⟨its, rv, ⟨o, ho, hc, k, hd⟩, hz⟩ := I.tuple (.inr h)
   obtain ⟨as, h1, h2, h3⟩ := Reps.reads I q rv (by simpa [shal] using hs)
   exact ⟨as, .tuple ho hc hd (by simpa using h1), by simpa [toPy, PyData.canLay0] using h2, by simpa [toPy, PyData.depth] using h3⟩
 | _, _, _, n, .lst m h q, r, hs => by
   cases r
   obtain ⟨its, rv, pl, hz⟩ := I.list (.inl h)
   obtain ⟨o, ho, hc, k, hd⟩ := pl.isList
   obtain ⟨as, h1, h2, h3⟩ := Reps.reads I q rv (by simpa [shal] using hs)
   exact ⟨_, .list ho hc hd (by simpa using h1), by simpa [toPy, PyData.canLay0] using h2, by simpa [toPy, PyData.depth] using h3⟩
 | _, _, _, n, .lstK h q, r, hs => by
   cases r
   obtain ⟨its, rv, pl, hz⟩ := I.list (.inr h)
   obtain ⟨o, ho, hc, k, hd⟩ := pl.isList
   obtain ⟨as, h1, h2, h3⟩ := Reps.reads I q rv (by simpa [shal] using hs)
   exact ⟨_, .list ho hc hd (by simpa using h1), by simpa [toPy, PyData.canLay0] using h2, by simpa [toPy, PyData.depth] using h3⟩
 | _, _, _, _, .dct _ _ _ _, _, hs => by simp [shal] at hs
 | _, _, _, _, .ins _ _ _ _ _, _, hs => by simp [shal] at hs
 | _, _, _, _, .clo _ _ _ _ _ _, _, hs => by simp [shal] at hs
 | _, _, _, _, .fnK _, _, hs => by simp [shal] at hs
theorem Reps.reads {pins : List (Addr × Obj)} {σ : L2.St} {H : Hp} {s : Shared} {O : Addr -> Prop} (I : Inv X pins σ H s) : ∀ {vs : List V} {ds : List D} {us : List Value} {n : Nat}, Reps X.K H O vs ds -> Vals vs us -> shals n ds = true -> ∃ as, ReadsAll s.heap us (toPys ds) as /\ PyData.canLayAll0 (toPys ds) = true /\ PyData.depthAll (toPys ds) <= n
 | _, _, _, _, .nil, r, _ => by cases r; exact ⟨[], .nil, rfl, Nat.zero_le _⟩
 | _, _, _, 0, .cons h t, _, hs => by simp [shals] at hs
 | _, _, _, n + 1, .cons h t, r, hs => by
   cases r with
   | cons r1 r2 =>
     simp only [shals, Bool.and_eq_true] at hs
     obtain ⟨as, h1, h2, h3⟩ := Rep.reads I h r1 hs.1
     obtain ⟨bs, k1, k2, k3⟩ := Reps.reads I t r2 hs.2
     exact ⟨_, .cons h1 k1, by simp [toPys, PyData.canLayAll0, h2, k2], by simp only [toPys, PyData.depthAll]; omega⟩
end
def rEqD (X : Cx) (neg : Bool) : R2 := fun x y H Q => ∃ dx dy, Rep X.K H jY x dx /\ Rep X.K H jY y dy /\ shal 40 dx = true /\ shal 40 dy = true /\ Q (.bl (if neg then !eqvD dx dy else eqvD dx dy)) H
theorem op_eqD (hu : X.A.units + 100 < cLine) : OpR X (compareOp .Eq) (rEqD X false) := by
 intro pins s σ H x y v u Q I rx ry h
 obtain ⟨dx, dy, r1, r2, s1, s2, q⟩ := h
 obtain ⟨as, a1, a2, a3⟩ := r1.reads I rx s1
 obtain ⟨bs, b1, b2, b3⟩ := r2.reads I ry s2
 exact SeqAt.compareEq_reads a1 b1 a2 b2 (by omega) ⟨.bl _, H, I, rfl, q⟩
theorem op_neD (hu : X.A.units + 100 < cLine) : OpR X (compareOp .NotEq) (rEqD X true) := by
 intro pins s σ H x y v u Q I rx ry h
 obtain ⟨dx, dy, r1, r2, s1, s2, q⟩ := h
 obtain ⟨as, a1, a2, a3⟩ := r1.reads I rx s1
 obtain ⟨bs, b1, b2, b3⟩ := r2.reads I ry s2
 exact SeqAt.compareNe_reads a1 b1 a2 b2 (by omega) ⟨.bl _, H, I, rfl, q⟩
theorem on_eqD : OpN X (rEqD X false) eqD := by
 intro H O x y dx dy d Q rx ry e q
 unfold eqD at e
 split at e
 · rename_i hs
   cases e
   exact ⟨dx, dy, rx, ry, hs.1, hs.2, q _ H (Same.refl _) (.bl _)⟩
 · cases e
theorem on_neD : OpN X (rEqD X true) neD := by
 intro H O x y dx dy d Q rx ry e q
 unfold neD at e
 split at e
 · rename_i hs
   cases e
   exact ⟨dx, dy, rx, ry, hs.1, hs.2, q _ H (Same.refl _) (.bl _)⟩
 · cases e
theorem hu100 {k : Nat} {A : Around} (hr : Room k A) : A.units + 100 < cLine := by have := hr.un; omega
theorem pv_eq {a b : Expr} {fa fb : FE} {pos : Pos} {k : Nat} (hr : Room k X.A) (ha : PVn X a fa) (hb : PVn X b fb) : PV X (.Compare a [.Eq] [b] pos) (zK eqD fa fb) := kA (op_eqD (hu100 hr)) on_eqD ha hb (nomark _)
theorem pv_ne {a b : Expr} {fa fb : FE} {pos : Pos} {k : Nat} (hr : Room k X.A) (ha : PVn X a fa) (hb : PVn X b fb) : PV X (.Compare a [.NotEq] [b] pos) (zK neD fa fb) := kA (op_neD (hu100 hr)) on_neD ha hb (nomark _)
theorem xY {a b : Expr} {fa fb : FE} {pos : Pos} {k : Nat} (hr : Room k X.A) (ha : PVn X a fa) (hb : PVn X b fb) : PTv X (.Compare a [.Eq] [b] pos) (zW (zK eqD fa fb)) := kJ (op_eqD (hu100 hr)) on_eqD ha hb (nomark _)
theorem pt_ne {a b : Expr} {fa fb : FE} {pos : Pos} {k : Nat} (hr : Room k X.A) (ha : PVn X a fa) (hb : PVn X b fb) : PTv X (.Compare a [.NotEq] [b] pos) (zW (zK neD fa fb)) := kJ (op_neD (hu100 hr)) on_neD ha hb (nomark _)
theorem non_iff {K : Frag} {H : Hp} {O : Addr -> Prop} {v : V} {d : D} (r : Rep K H O v d) : decide (v = .non) = (match d with | .non => true | _ => false) := by
 cases r <;> rfl
theorem on_is : OpN X (fun x y H Q => y = .non /\ Q (.bl (decide (x = .non))) H) isD := by
 intro H O x y dx dy d Q rx ry e q
 cases dy <;> first | (cases dx <;> simp [isD] at e; done) | skip
 cases ry
 refine ⟨rfl, ?_⟩
 rw [non_iff rx]
 cases dx <;> (simp only [isD, Option.some.injEq] at e; subst e; exact q _ H (Same.refl _) (.bl _))
theorem on_not : OpN X (fun x y H Q => y = .non /\ Q (.bl (!decide (x = .non))) H) notD := by
 intro H O x y dx dy d Q rx ry e q
 cases dy <;> first | (cases dx <;> simp [notD] at e; done) | skip
 cases ry
 refine ⟨rfl, ?_⟩
 rw [non_iff rx]
 cases dx <;> (simp only [notD, Option.some.injEq] at e; subst e; exact q _ H (Same.refl _) (.bl _))
theorem pv_is {a b : Expr} {fa fb : FE} {pos : Pos} (ha : PVn X a fa) (hb : PVn X b fb) : PV X (.Compare a [.Is] [b] pos) (zK isD fa fb) := kA op_isN on_is ha hb (nomark _)
theorem pv_isnot {a b : Expr} {fa fb : FE} {pos : Pos} (ha : PVn X a fa) (hb : PVn X b fb) : PV X (.Compare a [.IsNot] [b] pos) (zK notD fa fb) := kA op_notN on_not ha hb (nomark _)
theorem wM {a b : Expr} {fa fb : FE} {pos : Pos} (ha : PVn X a fa) (hb : PVn X b fb) : PTv X (.Compare a [.Is] [b] pos) (zW (zK isD fa fb)) := kJ op_isN on_is ha hb (nomark _)
theorem jO {a b : Expr} {fa fb : FE} {pos : Pos} (ha : PVn X a fa) (hb : PVn X b fb) : PTv X (.Compare a [.IsNot] [b] pos) (zW (zK notD fa fb)) := kJ op_notN on_not ha hb (nomark _)
theorem os_mul : OpS X (rI IntMulOk fun i j => .int (i * j)) xX := by
 intro H O x y dx dy d Q ho rx ry e q
 cases dx <;> cases dy <;> first | (simp [xX] at e; done) | skip
 simp only [xX] at e
 split at e
 · rename_i hc
   cases e
   rw [rx.int', ry.int']
   exact ⟨_, _, rfl, rfl, hc, q _ H (Same.refl _) (.int _)⟩
 · cases e
theorem os_pow : OpS X (rI CPowB fun i j => .int (i ^ j.toNat)) powD := by
 intro H O x y dx dy d Q ho rx ry e q
 cases dx <;> cases dy <;> first | (simp [powD] at e; done) | skip
 simp only [powD] at e
 split at e
 · rename_i hc
   cases e
   rw [rx.int', ry.int']
   exact ⟨_, _, rfl, rfl, hc, q _ H (Same.refl _) (.int _)⟩
 · cases e
theorem pvf_cat {a b : Expr} {fa fb : FE} {pos : Pos} (ha : PVw X a fa) (hb : PVw X b fb) : PVf X (.BinOp a .Add b pos) (catA fa fb) := by
 obtain ⟨ta, pa, ha⟩ := ha
 obtain ⟨tb, pb, hb⟩ := hb
 refine ⟨_, pe_op op_catS pa pb, fun H₀ H O σ ds hd l Q o e q => ?_⟩
 unfold catA at e
 cases h1 : fa ds with
 | none => rw [h1] at e; cases e
 | some dx =>
   cases h2 : fb ds with
   | none => rw [h1, h2] at e; cases e
   | some dy =>
     rw [h1, h2] at e
     simp only [Option.bind_some] at e
     cases dx <;> cases dy <;> first | (simp at e; done) | skip
     simp only at e
     split at e
     · rename_i hz
       cases e
       refine ha H₀ H O σ ds hd _ _ o h1 fun x H1 s1 r1 => ?_
       refine hb H₀ H1 O σ ds hd _ _ (o.mono s1) h2 fun y H2 s2 r2 => ?_
       obtain ⟨a1, xs, rfl, hq1, rs1⟩ := (r1.mono s2).seqL
       obtain ⟨a2, ys, rfl, hq2, rs2⟩ := r2.seqL
       refine ⟨a1, a2, xs, ys, rfl, rfl, hq1, hq2, by rw [rs1.length, rs2.length]; exact hz, fun p hp => ?_⟩
       refine q p _ _ ((s1.trans s2).trans (qT hp _)) ((s1.trans s2).free hp) qQ ?_
       exact ((rs1.append rs2).more hp).mono (qT hp _)
     · cases e
variable (X) in
def POv (e : Option Expr) (f : List Sl -> Option (Option Int)) : Prop := ∃ t, PO X e t /\ ∀ H₀ H O σ ds hd i Q, Ok X.K H₀ H O σ ds hd -> f ds = some i -> (∀ H', Same H H' -> Q i H') -> t σ H Q
theorem vP : POv X none noP := ⟨_, po_none, fun _ H _ _ _ _ _ _ _ e q => by cases e; exact q H (Same.refl _)⟩
theorem wJ {e : Expr} {f : FE} (h : PVw X e f) : POv X (some e) (soP f) := by
 obtain ⟨t, ht, hf⟩ := h
 refine ⟨_, po_some ht, fun H₀ H O σ ds hd i Q o e q => ?_⟩
 unfold soP at e
 cases h1 : f ds with
 | none => rw [h1] at e; cases e
 | some d =>
   rw [h1] at e
   simp only [Option.bind_some] at e
   cases d <;> first | (cases e; done) | skip
   cases e
   refine hf H₀ H O σ ds hd _ _ o h1 fun v H' s r => ?_
   rw [r.int']
   exact ⟨_, rfl, q H' s⟩
theorem cut_reps {K : Frag} {H : Hp} {O : Addr -> Prop} {xs : List V} {l : List D} {a b : Option Int} (rs : Reps K H O xs l) : Reps K H O (cutV xs a b) (cutD l a b) := by
 unfold cutV cutD
 rw [rs.length]
 exact (rs.drop _).take _
theorem pvf_slice {e : Expr} {lo hi : Option Expr} {f : FE} {gl gh : List Sl -> Option (Option Int)} {p2 pos : Pos} (he : PVw X e f) (hl : POv X lo gl) (hh : POv X hi gh) : PVf X (.Subscript e (.Slice lo hi none p2) pos) (sliA f gl gh) := by
 obtain ⟨te, pe, he⟩ := he
 obtain ⟨tl, pl, hl⟩ := hl
 obtain ⟨th, ph, hh⟩ := hh
 refine ⟨_, pe_slice sl_list pe pl ph, fun H₀ H O σ ds hd l Q o e q => ?_⟩
 unfold sliA at e
 cases h1 : f ds with
 | none => rw [h1] at e; cases e
 | some d =>
   cases h2 : gl ds with
   | none => rw [h1, h2] at e; cases e
   | some a =>
     cases h3 : gh ds with
     | none => rw [h1, h2, h3] at e; cases e
     | some b =>
       rw [h1, h2, h3] at e
       simp only [Option.bind_some] at e
       cases d <;> first | (cases e; done) | skip
       cases e
       refine he H₀ H O σ ds hd _ _ o h1 fun v H1 s1 r1 => ?_
       refine hl H₀ H1 O σ ds hd _ _ (o.mono s1) h2 fun H2 s2 => ?_
       refine hh H₀ H2 O σ ds hd _ _ ((o.mono s1).mono s2) h3 fun H3 s3 => ?_
       obtain ⟨a1, xs, rfl, hq, rs⟩ := ((r1.mono s2).mono s3).seqL
       refine ⟨a1, xs, rfl, hq, fun p hp => ?_⟩
       have ss := (s1.trans s2).trans s3
       refine q p _ _ (ss.trans (qT hp _)) (ss.free hp) qQ ?_
       exact ((cut_reps rs).more hp).mono (qT hp _)
theorem pvf_list {e : Expr} {f : FE} {p pos : Pos} (hm : X.mg "list" = none) (he : PVw X e f) (hg : Gl X "list" := by rfl) (hs : starEach [e] X.env = [(false, eval e X.env)] := by rfl) : PVf X (.Call (.Name "list" p) [e] [] pos) (lisA f) := by
 obtain ⟨te, pe, he⟩ := he
 refine ⟨_, vL call_list_of hg hm (by decide +kernel) (jS pe xC hs) (by decide) (by decide) hs rfl, fun H₀ H O σ ds hd l Q o e q => ?_⟩
 unfold lisA at e
 cases h1 : f ds with
 | none => rw [h1] at e; cases e
 | some d =>
   rw [h1] at e
   simp only [Option.bind_some] at e
   refine he H₀ H O σ ds hd _ _ o h1 fun v H1 s1 r1 => ?_
   cases d <;> first | (cases e; done) | skip
   · cases e
     obtain ⟨a1, xs, rfl, hq, rs⟩ := r1.seqT
     refine ⟨a1, xs, rfl, .inr hq, fun p hp => ?_⟩
     exact q p _ _ (s1.trans (qT hp _)) (s1.free hp) qQ ((rs.more hp).mono (qT hp _))
   · cases e
     obtain ⟨a1, xs, rfl, hq, rs⟩ := r1.seqL
     refine ⟨a1, xs, rfl, .inl hq, fun p hp => ?_⟩
     exact q p _ _ (s1.trans (qT hp _)) (s1.free hp) qQ ((rs.more hp).mono (qT hp _))
theorem cs_max : CallS X (fun xs H Q => ∃ i j, xs = [.int i, .int j] /\ Q (.int (if j > i then j else i)) H) mxD := by
 intro H O vs l d Q ho r e q
 match l, r, e with
 | [.int i, .int j], .cons r1 (.cons r2 .nil), e =>
   cases e
   exact ⟨i, j, by rw [r1.int', r2.int'], q _ H (Same.refl _) (.int _)⟩
theorem cs_min : CallS X (fun xs H Q => ∃ i j, xs = [.int i, .int j] /\ Q (.int (if j < i then j else i)) H) mnD := by
 intro H O vs l d Q ho r e q
 match l, r, e with
 | [.int i, .int j], .cons r1 (.cons r2 .nil), e =>
   cases e
   exact ⟨i, j, by rw [r1.int', r2.int'], q _ H (Same.refl _) (.int _)⟩
theorem pv_max2 {p pos : Pos} {a b : Expr} {g : FA} (hc : X.calm = true) (hm : X.mg "max" = none) (ha : PAv X [a, b] g) (hg : Gl X "max" := by rfl) (he : starEach [a, b] X.env = (false, eval a X.env) :: starEach [b] X.env := by rfl) (hpl : (backTo pos (starEach [b] X.env)).any (·.1) = false := by rfl) :
  PV X (.Call (.Name "max" p) [a, b] [] pos) (callB mxD g) := wX (call_max2 hc) cs_max hm (by decide +kernel) ha hg (by decide) (by decide) he hpl
theorem pv_min2 {p pos : Pos} {a b : Expr} {g : FA} (hc : X.calm = true) (hm : X.mg "min" = none) (ha : PAv X [a, b] g) (hg : Gl X "min" := by rfl) (he : starEach [a, b] X.env = (false, eval a X.env) :: starEach [b] X.env := by rfl) (hpl : (backTo pos (starEach [b] X.env)).any (·.1) = false := by rfl) :
  PV X (.Call (.Name "min" p) [a, b] [] pos) (callB mnD g) := wX (call_min2 hc) cs_min hm (by decide +kernel) ha hg (by decide) (by decide) he hpl
theorem isEmpty_len {α β : Type} {xs : List α} {ys : List β} (h : xs.length = ys.length) : xs.isEmpty = ys.isEmpty := by
 cases xs <;> cases ys <;> simp_all
theorem PVn.t {e : Expr} {f : FE} (h : PVn X e f) (he : ∀ whole, isTrue e X.env whole = (do let v <- whole; standAt e.pos; holding [v] (truthy v)) := by intro _; rfl) : PTv X e (testT f) := by
 obtain ⟨t, ht, hf⟩ := h
 refine ⟨_, pt_truth ht he, fun H₀ H O σ ds hd k Q o e q => ?_⟩
 unfold testT at e
 cases h : f ds with
 | none => rw [h] at e; cases e
 | some d =>
   rw [h] at e
   simp only [Option.bind_some] at e
   refine hf H₀ H O σ ds hd d _ o h fun v H' s r => ⟨k, ?_, q H' s⟩
   cases d with
   | non => cases e; cases r; exact rfl
   | bl b => cases e; cases r; exact rfl
   | int i => cases e; cases r; exact rfl
   | str x =>
     simp only [truD] at e
     split at e
     · rename_i hz; cases e; cases r; exact ⟨hz, rfl⟩
     · cases e
   | tup l =>
     cases e
     obtain ⟨a, xs, rfl, hq, rs⟩ := WRep.seqT (.inl r)
     exact .inr (.inl ⟨xs, hq, by rw [isEmpty_len rs.length]⟩)
   | lst l =>
     cases e
     obtain ⟨a, xs, rfl, hq, rs⟩ := WRep.seqL (.inl r)
     exact .inl ⟨xs, hq, by rw [isEmpty_len rs.length]⟩
   | _ => cases e
theorem jC {st : Stmt} : PSv X st (fun _ => none) := ⟨_, ps_never, fun _ _ _ _ _ _ _ _ _ e _ => by cases e⟩
theorem vZ {tg e : Expr} {pos : Pos} {f : FE} {ga : D -> List Sl -> Option (List Sl)} (he : PV X e f) (hg : PGv X tg ga) (hs : swapsWithSole [tg] e pos.line X.env = pure false := by rfl) (hw : swappedStores [tg] e X.env = pure none := by rfl)
  (h1 : (assignEach [tg] X.env).map (·.2) = [assign tg X.env] := by rfl) : PSv X (.Assign [tg] e pos) (asgG ga f) := by
 obtain ⟨te, pe, he⟩ := he
 obtain ⟨tg', pg, hg⟩ := hg
 refine ⟨_, ps_asg pe pg hs hw h1, fun H₀ H O σ ds hd out E o e h => ?_⟩
 unfold asgG at e
 cases h2 : f ds with
 | none => rw [h2] at e; cases e
 | some d =>
   rw [h2] at e
   simp only [Option.bind_some] at e
   cases h3 : ga d ds with
   | none => rw [h3] at e; cases e
   | some ds' =>
     rw [h3] at e
     cases e
     refine he H₀ H O σ ds hd d _ o h2 fun v H1 s1 r1 => ?_
     exact hg H₀ H1 O σ ds hd v d ds' _ (o.mono s1) r1 h3 fun σ' o' => h σ' H1 O o'
theorem psv_ext {i : Nat} {x : Str} {e : Expr} {pos p1 p2 p3 : Pos} {fe : FA} (he : PVf X e fe) (hN : X.N[i]? = some x := by rfl) (hv : Vis X.env.scope x := by first | exact Or.inl rfl | exact Or.inr (Or.inl rfl) | exact Or.inr (Or.inr rfl)) (hd : (x == ("__debug__" : Str)) = false := by decide)
  (hcd : (x == ("__classdict__" : Str)) = false := by decide)
  (hfew : ((backTo p3 (starEach [e] X.env)).all (fun x => !x.1) && (backToKw p3 (keywordEach [] X.env)).all (fun x => x.1.isSome)
    && decide ([e].length + ([] : List Keyword).length + (if ([] : List Keyword).isEmpty then 0 else 1) < 30)) = true := by rfl)
  (hline : (p2.endLine == p3.line) = true := by rfl) (hs : starEach [e] X.env = (false, eval e X.env) :: starEach [] X.env := by rfl)
  (hbase : attributeBase (.Name x p1) "extend" X.env (eval (.Name x p1) X.env) = eval (.Name x p1) X.env := by rfl) (hsw : swapsWith (.Call (.Attribute (.Name x p1) "extend" p2) [e] [] p3) none pos.line X.env = pure false := by rfl) :
  PSv X (.Expr (.Call (.Attribute (.Name x p1) "extend" p2) [e] [] p3) pos) (extG i fe) := by
 obtain ⟨te, pe, he⟩ := he
 refine ⟨_, ps_expr (pe_bm PySem.F.plainAttrs_list PySem.F.slot_list_extend PySem.F.type_list_extend mt_extend (wK hN hv hd hcd) (jS pe xC hs) hbase hfew hline hs rfl) hsw, fun H₀ H O σ ds hd out E o e h => ?_⟩
 unfold extG at e
 cases hsl : ds[i]? with
 | none => rw [hsl] at e; cases e
 | some s =>
   rw [hsl] at e
   cases s with
   | v d' => cases e
   | no => cases e
   | exc _ => cases e
   | fr _ => cases e
   | own l =>
     simp only at e
     cases h1 : fe ds with
     | none => rw [h1] at e; cases e
     | some d =>
       rw [h1] at e
       simp only [Option.bind_some] at e
       split at e
       · rename_i hl
         cases e
         obtain ⟨a, xs, q1, q2, q3, q4⟩ := o.readO hsl
         refine ⟨.ref a, q1, .inl ⟨rfl, xs, SqL.of q3⟩, ?_⟩
         refine he H₀ H O σ ds hd d _ o h1 fun b ys H1 s1 hn hb r1 => ?_
         refine ⟨a, b, xs, ys, rfl, rfl, s1 _ _ q3, hb, by rw [q4.length, r1.length]; exact hl, ?_⟩
         exact h _ _ _ ((o.mono s1).modify hsl q1 ((q4.mono s1).append (r1.less fun a z => .inr z)))
       · cases e
theorem psv_clr {i : Nat} {x : Str} {pos p1 p2 p3 : Pos} (hN : X.N[i]? = some x := by rfl) (hv : Vis X.env.scope x := by first | exact Or.inl rfl | exact Or.inr (Or.inl rfl) | exact Or.inr (Or.inr rfl)) (hd : (x == ("__debug__" : Str)) = false := by decide)
  (hcd : (x == ("__classdict__" : Str)) = false := by decide) (hline : (p2.endLine == p3.line) = true := by rfl)
  (hbase : attributeBase (.Name x p1) "clear" X.env (eval (.Name x p1) X.env) = eval (.Name x p1) X.env := by rfl) (hsw : swapsWith (.Call (.Attribute (.Name x p1) "clear" p2) [] [] p3) none pos.line X.env = pure false := by rfl) :
  PSv X (.Expr (.Call (.Attribute (.Name x p1) "clear" p2) [] [] p3) pos) (clrG i) := by
 refine ⟨_, ps_expr (pe_bm0 PySem.F.plainAttrs_list PySem.F.slot_list_clear PySem.F.type_list_clear mt_clear (wK hN hv hd hcd) hbase hline) hsw, fun H₀ H O σ ds hd out E o e h => ?_⟩
 unfold clrG at e
 cases hsl : ds[i]? with
 | none => rw [hsl] at e; cases e
 | some s =>
   rw [hsl] at e
   cases s with
   | v d' => cases e
   | no => cases e
   | exc _ => cases e
   | fr _ => cases e
   | own l =>
     cases e
     obtain ⟨a, xs, q1, q2, q3, q4⟩ := o.readO hsl
     refine ⟨.ref a, q1, .inl ⟨rfl, xs, SqL.of q3⟩, ?_⟩
     exact ⟨a, xs, rfl, rfl, q3, h _ _ _ (o.modify hsl q1 .nil)⟩
theorem psv_compV {i : Nat} {y : Str} {py spos : Pos} {scope : Scope} {NY : List Str} {mp : List (Option Nat)} {tg iter elt : Expr} {ifs : List Expr} {pos : Pos} {fi : FA} {ga : D -> List Sl -> Option (List Sl)} {tt : FT} {fe : FE} (hN : X.N.Nodup)
  (S : CompScope X scope NY mp) (hc : X.calm = true) (hi : PIv X tg iter fi) (hg : ∀ c, PGv (yD X scope NY c) tg ga) (ht : ∀ c, PFv (yD X scope NY c) ifs tt) (he : ∀ c, PV (yD X scope NY c) elt fe)
  (hy : X.N[i]? = some y := by rfl) (hl : X.env.scope.names.lookup y = some .local := by rfl)
  (hsw : swapsWith (.ListComp elt [⟨tg, iter, ifs, 0⟩] scope pos) (some (.Name y py)) spos.line X.env = pure true := by rfl)
  (hs : ∀ x, foldedSetIterable iter X.env x = pure x := by intro _; rfl) : PSv X (.Assign [.Name y py] (.ListComp elt [⟨tg, iter, ifs, 0⟩] scope pos) spos) (yI i (mkL (compG fi mp ga tt fe))) := by
 obtain ⟨wi, pi, hi⟩ := hi
 refine ⟨_, ps_comp hN hy hl hsw S hc pi (fun c => (Classical.choose_spec (hg c)).1) (fun c => (Classical.choose_spec (ht c)).1) (fun c => (Classical.choose_spec (he c)).1) hs, fun H₀ H O σ ds hd out E o e h => ?_⟩
 unfold yI mkL at e
 cases h1 : compG fi mp ga tt fe ds with
 | none => rw [h1] at e; cases e
 | some l =>
   rw [h1] at e
   cases e
   exact comp_sem hi (fun c => (Classical.choose_spec (hg c)).2) (fun c => (Classical.choose_spec (ht c)).2) (fun c => (Classical.choose_spec (he c)).2) H₀ H O σ ds hd l _ o h1 fun a xs H' s hn he r =>
    h _ _ _ ((o.mono s).set (.lst (o.free hn) (.inl he) (r.less fun _ z => .inr z)))
end
end FL
namespace L2
open PySem PySem.Spec PyProof.Rows
section
variable {X : Cx}
end
end L2
namespace Att
open PySem PySem.W PySem.Calls PyProof.Rows
theorem bits_script : ∀ {ns : List Int} {b : Nat}, WData.weightAll (ns.map WData.int) <= b -> ∀ c ∈ ns, Builtin.Int.intBits c <= b
 | [], _, _ => fun c hc => by cases hc
 | n :: r, b, h => fun c hc => by
   simp only [List.map_cons, WData.weightAll, WData.weight] at h
   rcases List.mem_cons.mp hc with rfl | hc
   · unfold Builtin.Int.intBits
     omega
   · exact bits_script (ns := r) (b := b) (by omega) c hc
theorem attach_callB {l : OpenLaw} {n : Nat} {q : Program} {loose : List Str} {XP : (Str -> Option Value) -> Heap -> Prop} {YP : World -> Heap -> Prop} {d : DefRec}
  (hn : l.most = some n) (hdf : d.params.defaults = [])
  (call : ∀ (w : World) (s₀ s₁ : Shared) (mg mb : Str -> Option Value) (fa : Addr) (o : Obj) (pm cd doc : Value) (a : Addr) (vs : List Value) (ns : List Int),
    Ground q loose [] XP w s₀ mg mb s₁.heap -> YP w s₁.heap →
    s₁.heap.get? fa = some o -> o.data = .func (docDef d.name d.params d.body d.scope pm cd doc) -> s₁.heap.CodeRec cd d.name -> mg d.name = some (.ref fa) →
    s₁.heap.get? a = some { cls := .type "list", data := .seq vs.toArray } -> IntsAre vs ns -> ns.length <= n -> (∀ c ∈ ns, Builtin.Int.intBits c <= 1048576) -> s₁.gens = #[] →
    codeAny (model l.prog w) callerA (.call (.ref fa) ⟨[.ref a], []⟩) (fun r s' => r = .ok (.ret (.bool true)) /\ OldK s₁.heap s'.heap /\ s'.os = s₁.os /\ AllBare s'.gens) s₁) :
  WalkO q loose XP YP l.row.toRowW d [] (fun f vs => PySem.call f vs) := by
 intro w s₀ s₁ mg mb G Y fa o pm cd doc dV kV ho hd hcd hD hmg hg args vals as hpre hlay hrd hwl hlo
 obtain rfl : dV = .none := Dflts.none hD hdf
 obtain rfl : kV = .none := Dflts.noKw hD
 obtain ⟨a, vs, ns, rfl, rfl, hobj, hints, hlen⟩ := script_of hn hpre hwl
 have hb : ∀ c ∈ ns, Builtin.Int.intBits c <= 1048576 := by
  have h1 := (layableW_iff.mp (layW_cons hlay).1).2.2
  simp only [WData.weight] at h1
  exact bits_script (Nat.le_trans h1 (by decide))
 refine enter_call (codeAny_mono (call w s₀ s₁ mg mb fa o pm cd doc a vs ns G Y ho (fd_plain hd) hcd hmg hobj hints hlen hb hg) fun r s' hq => ?_)
 obtain ⟨rfl, h2, h3, h4⟩ := hq
 exact ⟨.inl ⟨.bool true, .bool true, [], rfl, fun _ => rfl, .bool true, post_true l _, fun _ => ⟨List.Pairwise.nil, fun _ hm => (nomatch hm)⟩⟩, h2, h3, h4⟩
end Att
namespace FL
open PySem PySem.Spec PyProof.Rows L2
def spLawB (K : Frag) (n : Nat) : Sp := fun vs H Q _ => ∃ (a : Addr) (ns : List Int), vs = [.ref a] /\ SqL K H a (ns.map V.int) /\ ns.length <= n /\ (∀ c ∈ ns, Builtin.Int.intBits c <= 1048576) /\ ∀ H', Q (.bl true) H'
theorem law_ofB {P : Program} {w : World} {K : Frag} {mg : Str -> Option Value} {base : Heap} {k : Nat} {f : Addr} {fd : FuncData} {x : Str} {n : Nat} {F : List D -> Option Ret} (Fn : FnOk P w K mg base CX0 k f fd [x] (spF K 1 F))
  (h : ∀ ns : List Int, ns.length <= n -> (∀ c ∈ ns, Builtin.Int.intBits c <= 1048576) -> F [.lst (ns.map D.int)] = some (.val (.bl true))) : FnOk P w K mg base CX0 k f fd [x] (spLawB K n) := by
 refine Fn.imp fun vs H Q E hq => ?_
 obtain ⟨a, ns, rfl, hS, hl, hb, q⟩ := hq
 refine ⟨rfl, [.lst (ns.map D.int)], .val (.bl true), .cons ?_ .nil, h ns hl hb, fun v H' s r => ?_⟩
 · rcases hS with hS | hS
   · exact .lst (fun z => z.elim) hS (Reps.ints ns)
   · exact .lstK hS (Reps.ints ns)
 · cases r; exact q H'
open PySem.W (tabIn CodeHd tabObj noTabs tab_of) in
inductive TabL (K : Frag) (q : Program) : List Str -> List (Str × Addr × Addr) -> Prop
 | nil : TabL K q [] []
 | yes {x : Str} {xs : List Str} {c P : Addr} {tl : List (Str × Addr × Addr)} (h : PySem.W.tabIn K x = some (c, P)) (r : ((recsOf q).find? (fun e => e.name == x)).isSome = true) (ap : (tl.all fun p => p.2.2 != P) = true) (t : TabL K q xs tl) : TabL K q (x :: xs) ((x, c, P) :: tl)
 | no {x : Str} {xs : List Str} {tl : List (Str × Addr × Addr)} (h : PySem.W.tabIn K x = none) (t : TabL K q xs tl) : TabL K q (x :: xs) tl
theorem tabL_no {K : Frag} {q : Program} {x : Str} {xs : List Str} {tl : List (Str × Addr × Addr)} (h : PySem.W.nsIn K mainGlobals x = some none) (t : TabL K q xs tl) : TabL K q (x :: xs) tl := .no (by unfold PySem.W.tabIn; rw [h]) t
theorem tabL_yes {K : Frag} {q : Program} {x : Str} {xs : List Str} {c P f : Addr} {fd : FuncData} {oc oc' : Value} {od od' : Option Addr} {sl sl' : Array (Option Value)} {vs : Array Value} {tl : List (Str × Addr × Addr)} (h1 : PySem.W.nsIn K mainGlobals x = some (some (.ref f))) (h2 : K.lookup f = some ⟨oc, od, .func fd, sl⟩)
  (h3 : fd.code = .ref c) (h4 : K.lookup c = some ⟨oc', od', .fields vs, sl'⟩) (h5 : (vs[11]? : Option Value) = some (.ref P)) (r : ((recsOf q).find? (fun e => e.name == x)).isSome = true) (t : TabL K q xs tl) (ap : (tl.all fun p => p.2.2 != P) = true) : TabL K q (x :: xs) ((x, c, P) :: tl) :=
 .yes (by unfold PySem.W.tabIn; simp only [h1, h2, h3, h4, h5]) r ap t
section
variable {K : Frag} {q : Program} {xs : List Str} {tl : List (Str × Addr × Addr)}
theorem TabL.get (h : TabL K q xs tl) : ∀ {x : Str} {c P : Addr}, x ∈ xs -> PySem.W.tabIn K x = some (c, P) -> (x, c, P) ∈ tl := by
 induction h with
 | nil => intro x c P hx; cases hx
 | yes h r ap t ih =>
   intro x c P hx ht
   rcases List.mem_cons.mp hx with e | e
   · subst e
     rw [h] at ht
     cases ht
     exact List.mem_cons_self
   · exact List.mem_cons_of_mem _ (ih e ht)
 | no h t ih =>
   intro x c P hx ht
   rcases List.mem_cons.mp hx with e | e
   · subst e
     rw [h] at ht
     cases ht
   · exact ih e ht
theorem TabL.fact (h : TabL K q xs tl) : ∀ p ∈ tl, PySem.W.tabIn K p.1 = some (p.2.1, p.2.2) /\ ((recsOf q).find? (fun e => e.name == p.1)).isSome = true := by
 induction h with
 | nil => intro p hp; cases hp
 | yes h r ap t ih =>
   intro p hp
   rcases List.mem_cons.mp hp with e | e
   · subst e; exact ⟨h, r⟩
   · exact ih p e
 | no h t ih => exact ih
def tabH (K : Frag) (tl : List (Str × Addr × Addr)) : Hp := fun b => (tl.find? fun p => p.2.2 == b).map fun p => .tbl (innerQ K p.1)
theorem kB {b : Addr} {u : HO} (e : tabH K tl b = some u) : ∃ p ∈ tl, b = p.2.2 /\ u = .tbl (innerQ K p.1) := by
 unfold tabH at e
 cases h : tl.find? fun p => p.2.2 == b with
 | none => rw [h] at e; cases e
 | some p =>
   rw [h] at e
   cases e
   exact ⟨p, List.mem_of_find?_eq_some h, (beq_iff_eq.mp (List.find?_some (p := fun p : Str × Addr × Addr => p.2.2 == b) h)).symm, rfl⟩
theorem TabL.at (h : TabL K q xs tl) : ∀ p ∈ tl, tabH K tl p.2.2 = some (.tbl (innerQ K p.1)) := by
 induction h with
 | nil => intro p hp; cases hp
 | yes h r ap t ih =>
   intro p hp
   rename_i x xs c P tl
   unfold tabH
   rcases List.mem_cons.mp hp with e | e
   · subst e
     simp
   · have : (P == p.2.2) = false := by
      have := List.all_eq_true.mp ap p e
      simp only [bne_iff_ne, ne_eq] at this
      exact beq_eq_false_iff_ne.mpr (Ne.symm this)
     rw [List.find?_cons, this]
     exact ih p e
 | no h t ih => exact ih
end
theorem no_cls {K : Frag} {h : Heap} {b : Addr} {o : Obj} {ps : Array Value} (X : K.In h) (hK : PySem.W.noTabs K = true) (e : K.lookup b = some o) (hb : h.get? b = some (PySem.W.tabObj ps)) : False := by
 have q := X b o e
 rw [hb] at q
 cases q
 have h2 := List.all_eq_true.mp hK (b, _) (PySem.W.mem_of_lookupK e)
 exact absurd (show false = true from h2) Bool.false_ne_true
theorem law_callT {P : Program} {w : World} {K : Frag} {q : Program} {loose : List Str} {mean : ExcName -> Option Value} {mg mb : Str -> Option Value} {k : Nat} {fa a : Addr} {fd : FuncData} {x : Str} {sp : Sp} {s₁ : Shared} {vs : List Value} {ns : List Int} {tl : List (Str × Addr × Addr)}
  (KX : K.In s₁.heap) (T : Top q loose mean mg mb s₁.heap) (hT : TabL K q makers tl) (hK : PySem.W.noTabs K = true) (hg : s₁.gens = #[]) (ha : s₁.heap.get? a = some { cls := .type "list", data := .seq vs.toArray }) (hi : IntsAre vs ns) (hl : ns.length <= sizeLine) (hr : Room k callerA)
  (F : ∀ base : Heap, K.In base -> base.Ns mainGlobals mg -> FnOk P w K mg base CX0 k fa fd [x] sp) (hbind : ∀ (s : Shared) (u : Value), BindsTo s fd ⟨[u], []⟩ [(x, u)])
  (hsp : ∀ H : Hp, SqL K H a (ns.map V.int) -> sp [.ref a] H (fun v _ => v = .bl true) fun _ _ _ => False) :
  codeAny (model P w) callerA (.call (.ref fa) ⟨[.ref a], []⟩) (fun r s' => r = .ok (.ret (.bool true)) /\ OldK s₁.heap s'.heap /\ s'.os = s₁.os /\ AllBare s'.gens) s₁ := by
 have rv := vals_ints hi
 have tf : ∀ p ∈ tl, PySem.W.CodeHd s₁.heap p.2.1 p.2.2 /\ s₁.heap.get? p.2.2 = some (PySem.W.tabObj #[]) := fun p hp => by
  obtain ⟨h1, h2⟩ := hT.fact p hp
  obtain ⟨d, hd⟩ := Option.isSome_iff_exists.mp h2
  exact PySem.W.tab_of T KX hd h1
 have core : ∀ H : Hp, SqL K H a (ns.map V.int) -> L2.HOk P w H s₁.heap -> (∀ b u, H b = some u -> (b = a /\ K.lookup a = none /\ ∃ o xs, u = .frz o (.lst xs)) \/ ∃ p ∈ tl, b = p.2.2 /\ u = .tbl (innerQ K p.1)) -> (∀ p ∈ tl, H p.2.2 = some (.tbl (innerQ K p.1))) →
   codeAny (model P w) callerA (.call (.ref fa) ⟨[.ref a], []⟩) (fun r s' => r = .ok (.ret (.bool true)) /\ OldK s₁.heap s'.heap /\ s'.os = s₁.os /\ AllBare s'.gens) s₁ := by
  intro H hS hok hA hP
  have free_of : ∀ {b : Addr} {o : Obj}, s₁.heap.get? b = some o -> (∀ its n, o.data ≠ .seq its n) -> o.data ≠ .fields #[] -> H b = none := fun {b o} e n1 n2 => by
   cases qb : H b with
   | none => rfl
   | some u =>
     rcases hA b u qb with ⟨rfl, _, _⟩ | ⟨p, hp, rfl, _⟩
     · rw [ha] at e; cases e; exact (n1 _ _ rfl).elim
     · rw [(tf p hp).2] at e; cases e; exact (n2 rfl).elim
  have base_of : ∀ {b : Addr} {o : Obj}, s₁.heap.get? b = some o -> (∀ its n, o.data ≠ .seq its n) -> o.data ≠ .fields #[] -> (hidT s₁.heap H).get? b = some o := fun e n1 n2 => hidT_get e (free_of e n1 n2)
  have nsK : ∀ {b : Addr} {m : Str -> Option Value}, s₁.heap.Ns b m -> (hidT s₁.heap H).Ns b m := fun {b m} ⟨o, es, ep, e, d, r⟩ => ⟨o, es, ep, base_of e (fun _ _ z => by rw [d] at z; cases z) (fun z => by rw [d] at z; cases z), d, r⟩
  have hKb : K.In (hidT s₁.heap H) := fun b o e => hidT_get (KX b o e) (by
   cases qb : H b with
   | none => rfl
   | some u =>
     rcases hA b u qb with ⟨rfl, z, _⟩ | ⟨p, hp, rfl, _⟩
     · rw [z] at e; cases e
     · exact (no_cls KX hK e (tf p hp).2).elim)
  have hM : Mod K mg (hidT s₁.heap H) := ⟨hKb, nsK T.g, ⟨mb, nsK T.b, T.builtins⟩, let ⟨mc, h1, h2⟩ := T.nolimit; ⟨mc, nsK h1, h2⟩⟩
  have hTab : TabsK K mg (hidT s₁.heap H) H := by
   refine ⟨?_, fun y c P' hy ht => ?_⟩
   · obtain ⟨bm, ob, b1, b2, b3, b4, b5, b6⟩ := T.bmain
     exact ⟨bm, ob, b1, b2, base_of b3 (fun _ _ z => by rw [b6] at z; cases z) (fun z => by rw [b6] at z; cases z), b4, b5, b6⟩
   · have hm := hT.get hy ht
     refine ⟨?_, hP _ hm⟩
     obtain ⟨o, ws, file, tf', flags, tg, inF, text, tt, e1, r1, r2, r3, rest⟩ := (tf _ hm).1
     refine ⟨o, ws, file, tf', flags, tg, inF, text, tt, base_of e1 (fun _ _ z => by rw [r2] at z; cases z) (fun z => ?_), r1, r2, r3, rest⟩
     rw [r2] at z
     cases z
     cases r3
  have e0 : Env0 P w K mg (hidT s₁.heap H) callerA [] s₁ H := ⟨rfl, hM, fun b o e => of_hidT e, ⟨Nat.le_of_eq (hidT_size _ _), hTab⟩, trivial, fun b hb => absurd (show b ∈ ([] : List Addr) from hb) (by simp), hok, .of_eq hg⟩
  refine codeAny_mono ((F _ hKb (nsK T.g)).run callerA [] s₁ H ⟨[.ref a], []⟩ [.ref a] [.ref a] _ _ hr e0 (hbind s₁ (.ref a)) (.cons rfl .nil) (hsp H hS)) fun r s' h => ?_
  cases r with
  | error e => exact False.elim h
  | ok fl =>
    cases fl with
    | next => exact False.elim h
    | brk => exact False.elim h
    | cont => exact False.elim h
    | ret u =>
      obtain ⟨v, H', os, bare, un, hok', r', hv⟩ := h
      have hv' : v = .bl true := hv
      subst hv'
      obtain rfl : u = Value.bool true := r'
      refine ⟨rfl, ⟨fun b o e => ?_, fun b o e => un.there b o e (by simp)⟩, os, bare⟩
      cases qb : H b with
      | none => exact .inl (un.keep b o e qb (by intro z; exact absurd (show b ∈ ([] : List Addr) from z) (by simp)) (by simp))
      | some u =>
        rcases hA b u qb with ⟨_, _, ob, xs, rfl⟩ | ⟨p, hp, rfl, rfl⟩
        · obtain ⟨e1, _⟩ := hok b _ qb
          obtain ⟨e2, _⟩ := hok' b _ (un.frzs b ob _ qb)
          rw [e] at e1; cases e1
          exact .inl e2
        · have t2 := (tf p hp).2
          rw [e] at t2
          cases t2
          obtain ⟨ps, e2, _⟩ := hok' _ _ (un.tbls _ _ qb)
          exact .inr (.inl ⟨((tf p hp).1.tab (tf p hp).2).isCodeTable, rfl, #[], ps, rfl, by rw [Array.empty_append]; exact e2⟩)
 have tabOk : ∀ (H : Hp) (p : Str × Addr × Addr), p ∈ tl -> ObjOk P w H s₁.heap p.2.2 (.tbl (innerQ K p.1)) := fun H p hp => ⟨#[], (tf p hp).2, trivial, fun pos v z => by cases z⟩
 cases hk : K.lookup a with
 | some o =>
   have e := KX a o hk
   rw [ha] at e
   cases e
   refine core (tabH K tl) (.inr ⟨_, vs.toArray, _, hk, rfl, rfl, rfl, by rw [List.size_toArray, hi.length]; exact hl, by simpa using rv⟩) (fun b u z => ?_) (fun b u z => .inr (kB z)) fun p hp => hT.at p hp
   obtain ⟨p, hp, rfl, rfl⟩ := kB z
   exact tabOk _ p hp
 | none =>
   have na : ∀ p ∈ tl, p.2.2 ≠ a := fun p hp z => by
    have := (tf p hp).2
    rw [z, ha] at this; cases this
   refine core (upd (tabH K tl) a (.frz { cls := .type "list", data := .seq vs.toArray } (.lst (ns.map V.int)))) (.inl (.inr ⟨_, qQ⟩)) (fun b u z => ?_) (fun b u z => ?_) fun p hp => by rw [qI (na p hp)]; exact hT.at p hp
   · by_cases hb : b = a
     · subst hb
       rw [qQ] at z
       cases z
       exact ⟨ha, by rw [List.length_map]; exact hl, vs, _, rv, ha⟩
     · rw [qI hb] at z
       obtain ⟨p, hp, rfl, rfl⟩ := kB z
       exact tabOk _ p hp
   · by_cases hb : b = a
     · subst hb
       rw [qQ] at z
       cases z
       exact .inl ⟨rfl, hk, _, _, rfl⟩
     · rw [qI hb] at z
       exact .inr (kB z)
theorem walkB {l : PySem.W.OpenLaw} {q : Program} {loose : List Str} {XP : (Str -> Option Value) -> Heap -> Prop} {YP : World -> Heap -> Prop} {d : DefRec} {K : Params -> PySem.W.Frag} {k : Nat} {tl : List (Str × Addr × Addr)} (hn : l.most = some 63) (hdf : d.params.defaults = []) (hr : Room k callerA)
  (hY : ∀ (w : World) (h : Heap), YP w h -> (K w.params).In h) (hK : ∀ w : World, PySem.W.noTabs (K w.params) = true) (hT : ∀ w : World, TabL (K w.params) q makers tl)
  (F : ∀ (w : World) (mg : Str -> Option Value) (fa : Addr) (h : Heap), (K w.params).In h -> h.Ns mainGlobals mg -> mg d.name = some (.ref fa) →
    ∃ fd : FuncData, (∀ (s : Shared) (u : Value), BindsTo s fd ⟨[u], []⟩ [("_law_script", u)]) /\ ∀ base : Heap, (K w.params).In base -> base.Ns mainGlobals mg -> FnOk l.prog w (K w.params) mg base CX0 k fa fd ["_law_script"] (spLawB (K w.params) 63)) :
  PySem.W.WalkO q loose XP YP l.row.toRowW d [] (fun f vs => PySem.call f vs) := by
 refine Att.attach_callB hn hdf fun w s₀ s₁ mg mb fa o pm cd doc a vs ns G Y ho hd hcd hmg hobj hints hlen hb hg => ?_
 have KX := hY w _ Y
 obtain ⟨fd, hbd, hF⟩ := F w mg fa _ KX G.T.g hmg
 exact law_callT KX G.T (hT w) (hK w) hg hobj hints (Nat.le_trans hlen (by decide)) hr hF hbd fun H hS => ⟨a, ns, rfl, hS, hlen, hb, fun _ => rfl⟩
structure Cal (P : Program) (w : World) (K : Frag) (mg : Str -> Option Value) (base : Heap) (x : Str) (k n : Nat) (F : List D -> Option Ret) : Prop where
 ex : ∃ (f : Addr) (fd : FuncData) (ps : List Str), FnOk P w K mg base CX0 k f fd ps (spF K n F) /\ Binds K fd ps [] /\ PySem.W.keepIn K (.ref f) = true /\ mg x = some (.ref f)
section
variable {X : Cx}
section
variable {k j : Nat} {n : Nat} {F : List D -> Option Ret} {x : Str} {p pos : Pos} {e : Expr} {es : List Expr} {g : FA}
theorem zV (C : Cal X.prog X.w X.K X.mg X.base x k n F) (hr : Room j X.A) (ha : PAn X (e :: es) g) (hj : k <= j := by decide)
  (hg : Gl X x := by rfl) (hdb : (x == ("__debug__" : Str)) = false := by decide) (he : starEach (e :: es) X.env = (false, eval e X.env) :: starEach es X.env := by rfl) (hpl : (backTo pos (starEach es X.env)).any (·.1) = false := by rfl) :
  PV X (.Call (.Name x p) (e :: es) [] pos) (qO n F g) := by
 obtain ⟨f, fd, ps, Fn, hb, hk, hm⟩ := C.ex
 exact pv_callN Fn (hr.mono hj) hm hk hb ha hg hdb he hpl
theorem jW (C : Cal X.prog X.w X.K X.mg X.base x k n F) (hr : Room j X.A) (ha : PAn X (e :: es) g) (hj : k <= j := by decide)
  (hg : Gl X x := by rfl) (hdb : (x == ("__debug__" : Str)) = false := by decide) (he : starEach (e :: es) X.env = (false, eval e X.env) :: starEach es X.env := by rfl) (hpl : (backTo pos (starEach es X.env)).any (·.1) = false := by rfl) :
  PVf X (.Call (.Name x p) (e :: es) [] pos) (wO n F g) := by
 obtain ⟨f, fd, ps, Fn, hb, hk, hm⟩ := C.ex
 exact pvf_callN Fn (hr.mono hj) hm hk hb ha hg hdb he hpl
end
end
section
variable {X : Cx} {a b : Expr} {fa fb : FE} {pos : Pos}
theorem pv_lt (ha : PVw X a fa) (hb : PVw X b fb) : PV X (.Compare a [.Lt] [b] pos) (zK ltD fa fb) := pv_cmp op_lt yQ ha hb (nomark _)
theorem pv_le (ha : PVw X a fa) (hb : PVw X b fb) : PV X (.Compare a [.LtE] [b] pos) (zK leD fa fb) := pv_cmp op_le yQ ha hb (nomark _)
theorem pv_gt (ha : PVw X a fa) (hb : PVw X b fb) : PV X (.Compare a [.Gt] [b] pos) (zK gtD fa fb) := pv_cmp op_gt yQ ha hb (nomark _)
theorem pt_lt (ha : PVw X a fa) (hb : PVw X b fb) : PTv X (.Compare a [.Lt] [b] pos) (zW (zK ltD fa fb)) := pt_cmpV op_lt yQ ha hb (nomark _)
theorem kM (ha : PVw X a fa) (hb : PVw X b fb) : PTv X (.Compare a [.Gt] [b] pos) (zW (zK gtD fa fb)) := pt_cmpV op_gt yQ ha hb (nomark _)
theorem pt_ge (ha : PVw X a fa) (hb : PVw X b fb) : PTv X (.Compare a [.GtE] [b] pos) (zW (zK geD fa fb)) := pt_cmpV op_ge yQ ha hb (nomark _)
theorem qA (ha : PVw X a fa) (hb : PVw X b fb) : PV X (.BinOp a .Add b pos) (zK jT fa fb) := vO op_addU os_add ha hb
theorem jJ (ha : PVw X a fa) (hb : PVw X b fb) : PV X (.BinOp a .Sub b pos) (zK subD fa fb) := vO op_sub os_sub ha hb
theorem yN (ha : PVw X a fa) (hb : PVw X b fb) : PV X (.BinOp a .Mult b pos) (zK xX fa fb) := vO op_mulB os_mul ha hb
theorem yC (ha : PVw X a fa) (hb : PVw X b fb) : PV X (.BinOp a .Pow b pos) (zK powD fa fb) := vO op_powB os_pow ha hb
theorem jA (ha : PVw X a fa) (hb : PVw X b fb) : PV X (.BinOp a .Mod b pos) (zK wW fa fb) := vO op_mod os_mod ha hb
theorem yB (ha : PVw X a fa) (hb : PVw X b fb) : PV X (.BinOp a .FloorDiv b pos) (zK yT fa fb) := vO op_fdivB os_fdiv ha hb
end
end FL
namespace L2
open PySem PySem.Spec PyProof.Rows
section
variable {X : Cx} {tg : Expr}
theorem pi_seq {l : Expr} {tl : TE} (hl : PE X l tl) : PI X tg l (fun σ H R => iList X.K tl σ H R \/ iTup X.K tl σ H R) := by
 intro pins s σ H R I h
 rcases h with h | h
 · exact pi_list hl pins s σ H R I h
 · exact pi_tup hl pins s σ H R I h
end
end L2
namespace FL
open PySem PySem.Spec PyProof.Rows L2
section
variable {X : Cx}
theorem jQ {tg e : Expr} {f : FE} (h : PV X e f) : PIv X tg e (viaA f asLT) := by
 obtain ⟨t, ht, hf⟩ := h
 refine ⟨_, pi_seq ht, fun H₀ H O σ ds hd items R o e q => ?_⟩
 unfold viaA at e
 cases h1 : f ds with
 | none => rw [h1] at e; cases e
 | some d =>
   rw [h1] at e
   cases d with
   | lst l =>
     cases e
     refine .inl (hf H₀ H O σ ds hd _ _ o h1 fun v H' s r => ?_)
     obtain ⟨a, xs, rfl, hs, rs⟩ := WRep.seqL (.inl r)
     exact ⟨a, rfl, ⟨xs, hs⟩, q _ (.ref a, .lst items) H' s r wlk_list⟩
   | tup l =>
     cases e
     refine .inr (hf H₀ H O σ ds hd _ _ o h1 fun v H' s r => ?_)
     obtain ⟨a, xs, rfl, hs, rs⟩ := WRep.seqT (.inl r)
     exact ⟨a, rfl, ⟨xs, hs⟩, q _ (.ref a, .tup items) H' s r wlk_tup⟩
   | _ => cases e
end
end FL
namespace L2
open PySem PySem.Spec PyProof.Rows
def Itr3 (lo c : Int) (n : Nat) : It := ⟨fun i _ => i < n, fun i H x H' => H' = H /\ x = .int (lo + (i : Int) * c), fun i _ => n <= i⟩
theorem turn_range3 {P : Program} {w : World} {K : PySem.W.Frag} {tg : Expr} (it : Addr) (lo c : Int) (n : Nat) : Turn P w K tg (Itr3 lo c n) [it] it (fun i h => IsRangeIter h it (lo + (i : Nat) * c) ((n : Int) - (i : Nat)) c) where
 mem := by simp
 obj := fun i h st b hb => by
  have e : b = it := by simpa using hb
  subst e
  exact ⟨_, st, fun v z => by
   have z' : Data.fields _ = Data.cell v := z
   cases z'⟩
 keep := fun i h h' st k => k it (by simp) _ st
 item := by
  intro X hP hw hK hc i pins s σ H E I hf st hg
  subst hP hw hK
  obtain ⟨f0, f1, f2, f3, f4, f5⟩ := hf it (by simp)
  have W := Walks.range (prog := X.prog) (w := X.w) (I.ok.hd hc) it lo c n
  refine W.item i s _ _ hg st fun v h' tk hv st' kk => ?_
  obtain ⟨t, rfl⟩ := hv
  have I1 : Inv X pins σ H { s with heap := h', toks := tk } := I.turned (fun b o hb e => kk b o (by simpa using hb) e) f0 f1 f3 f4 f5
  exact ⟨_, rfl, go_of (s := { s with heap := h', toks := tk }) (n := "range_iterator") st' rfl rfl (by decide) ⟨.int (lo + (i : Int) * c), H, I1, ⟨t, rfl⟩, ⟨rfl, rfl⟩, st', fun b hb => (hf b hb).1⟩⟩
 done := by
  intro X hP hw hK hc i pins s σ H E I hf st hg
  subst hP hw hK
  obtain ⟨f0, f1, f2, f3, f4, f5⟩ := hf it (by simp)
  exact wpAny_pyNext_range_end (I.ok.hd hc) st (by have : n <= i := hg; omega) fun h' eb => ⟨rfl, I.turned (t' := s.toks) (fun b o hb e => eb b o hb e) f0 f1 f3 f4 f5⟩
 self := fun _ _ _ _ _ st h => wpAny_pyIter_rangeiter st h
theorem steps3_eq {i j c : Int} (hc : 0 < c) : ((FL.steps3 i j c : Nat) : Int) = Builtin.Range.rangeSize i j c := by
 unfold FL.steps3 Builtin.Range.rangeSize
 rw [if_pos (show c > 0 from hc)]
 by_cases h : i < j
 · rw [if_pos h, if_pos h]
   have := Int.ediv_nonneg (show 0 <= j - i - 1 by omega) (Int.le_of_lt hc)
   omega
 · rw [if_neg h, if_neg h]; rfl
theorem small_step {i j c : Int} (h : FL.okR3 i j c) : Builtin.Range.small i j c = true := by
 obtain ⟨h1, h2, h3, h4, h5, h6⟩ := h
 have e61 : (2 : Int) ^ 61 = 2305843009213693952 := by decide
 have hs : 0 <= Builtin.Range.rangeSize i j c /\ Builtin.Range.rangeSize i j c <= 2 ^ 62 := by
  unfold Builtin.Range.rangeSize
  rw [if_pos (show c > 0 from h5)]
  have e62 : (2 : Int) ^ 62 = 4611686018427387904 := by decide
  split
  · have h7 := Int.ediv_nonneg (show 0 <= j - i - 1 by omega) (Int.le_of_lt h5)
    have h8 : (j - i - 1) / c <= j - i - 1 := Int.ediv_le_self _ (by omega)
    omega
  · omega
 have e62 : (2 : Int) ^ 62 = 4611686018427387904 := by decide
 unfold Builtin.Range.small
 simp only [Builtin.Range.rangeFitsLong, Bool.and_eq_true, Bool.or_eq_true, decide_eq_true_eq, beq_iff_eq, show c > 0 from h5, if_true]
 omega
section
variable {X : Cx} {tg : Expr}
def iRng3 (ta : TA) : TI := fun σ H R => ta σ H fun vs H1 => ∃ i j c : Int, vs = [.int i, .int j, .int c] /\ FL.okR3 i j c /\ R (Itr3 i c (FL.steps3 i j c)) H1
theorem pi_range3 {a b c : Expr} {ta : TA} {p pos : Pos} (hg : Gl X "range") (hm : X.mg "range" = none) (ha : PA X [a, b, c] ta) (hs : starEach [a, b, c] X.env = (false, eval a X.env) :: starEach [b, c] X.env := by rfl) (hs2 : (backTo pos (starEach [b, c] X.env)).any (·.1) = false := by rfl) :
  PI X tg (.Call (.Name "range" p) [a, b, c] [] pos) (iRng3 ta) := by
 intro pins s σ H R I h
 refine Call_ (vR I hg hm boot_range (PyProof.Rows.callWith_type1 (thn (ha pos pins s σ H _ I h) fun us s1 ⟨vs, H1, I1, r1, q1⟩ => ?_) hs hs2))
 obtain ⟨i, j, c, e, hk, q⟩ := q1
 subst e
 cases r1 with
 | cons r rr =>
   cases rr with
   | cons r' rr =>
     cases rr with
     | cons r'' rr =>
       cases rr
       obtain ⟨t, rfl⟩ := r
       obtain ⟨t', rfl⟩ := r'
       obtain ⟨t'', rfl⟩ := r''
       have hc0 : 0 < c := hk.2.2.2.2.1
       refine call_range_3 (by omega) ?_ (.inl (PyProof.noPylong_small (by have := hk.2.2.2.2.2; omega)))
       refine wpAny_pyIter_range (IsRange.new ..) (small_step hk) ?_
       have I2 : Inv X pins σ H1 { s1 with heap := s1.heap.push { cls := .type "range", data := .fields #[.int i t, .int j t', .int c t''] }, toks := s1.toks } := I1.kept fun b o e => Heap.get?_push_of_some _ e
       refine ⟨(s1.heap.push { cls := .type "range", data := .fields #[.int i t, .int j t', .int c t''] }).objs.size, [(s1.heap.push { cls := .type "range", data := .fields #[.int i t, .int j t', .int c t''] }).objs.size], _, _, H1, rfl,
        I2.kept (t' := s1.toks) fun b o e => Heap.get?_push_of_some _ e, turn_range3 _ i c (FL.steps3 i j c), ?_, fun b hb => ?_, q⟩
       · have e1 : i + ((0 : Nat) : Int) * c = i := by simp
         have e2 : ((FL.steps3 i j c : Nat) : Int) - ((0 : Nat) : Int) = Builtin.Range.rangeSize i j c := by rw [steps3_eq hc0]; simp
         show IsRangeIter _ _ (i + ((0 : Nat) : Int) * c) (((FL.steps3 i j c : Nat) : Int) - ((0 : Nat) : Int)) c
         rw [e1, e2]
         exact Heap.get?_push_size _ rfl
       · have e : b = (s1.heap.push { cls := .type "range", data := .fields #[.int i t, .int j t', .int c t''] }).objs.size := by simpa using hb
         subst e
         exact I2.fpOk (Nat.le_refl _) (I2.hok.fresh (Nat.le_refl _))
def Itv (K : PySem.W.Frag) (a : Addr) (n : Nat) : It :=
 ⟨fun i H => ∃ xs x, SqL K H a xs /\ xs.length = n /\ i < n /\ xs[n - 1 - i]? = some x, fun i H x H' => H' = H /\ ∀ xs, SqL K H a xs -> xs[n - 1 - i]? = some x, fun i _ => i = n⟩
theorem turn_rev {P : Program} {w : World} {K : PySem.W.Frag} {tg : Expr} (a it : Addr) (n : Nat) : Turn P w K tg (Itv K a n) [it] it (fun i h => i <= n /\ h.IsRevIter it a ((n : Int) - 1 - (i : Int))) where
 mem := by simp
 obj := fun i h st b hb => by
  have e : b = it := by simpa using hb
  subst e
  obtain ⟨_, o, e, c, d⟩ := st
  exact ⟨o, e, fun v z => by rw [d] at z; cases z⟩
 keep := fun i h h' st k => ⟨st.1, st.2.at fun o e => k it (by simp) o e⟩
 item := by
  intro X hP hw hK hc i pins s σ H E I hf st hg
  subst hP hw hK
  obtain ⟨xs, x, hq, hn, hi, hx⟩ := hg
  obtain ⟨its, rv, p, hz⟩ := I.list hq
  obtain ⟨u, hu, ru⟩ := rv.get hx
  obtain ⟨f0, f1, f2, f3, f4, f5⟩ := hf it (by simp)
  have e : (n : Int) - 1 - (i : Int) = ((n - 1 - i : Nat) : Int) := by omega
  have hit := st.2
  rw [e] at hit
  refine wpAny_pyNext_rev_item hit p.isList (x := u) (by simpa using hu) fun h' st' sb => ?_
  have I1 : Inv X pins σ H { s with heap := h' } := I.turned (t' := s.toks) (fun b o hb e => (sb.2 b hb).trans e) f0 f1 f3 f4 f5
  have e2 : ((n - 1 - i : Nat) : Int) - 1 = (n : Int) - 1 - ((i + 1 : Nat) : Int) := by omega
  rw [e2] at st'
  obtain ⟨o, eo, co, d⟩ := id st'
  exact ⟨u, rfl, go_of (s := { s with heap := h' }) eo co d (by decide) ⟨x, H, I1, ru, ⟨rfl, fun ys hy => by rw [I.list_inj hy hq]; exact hx⟩, ⟨hi, st'⟩, fun b hb => (hf b hb).1⟩⟩
 done := by
  intro X hP hw hK hc i pins s σ H E I hf st hg
  subst hP hw hK
  have hg' : i = n := hg
  subst hg'
  obtain ⟨f0, f1, f2, f3, f4, f5⟩ := hf it (by simp)
  have e : (i : Int) - 1 - (i : Int) = -1 := by omega
  have hit := st.2
  rw [e] at hit
  exact wpAny_pyNext_rev_end (I.ok.hd hc) hit fun h' eb => ⟨rfl, I.turned (t' := s.toks) (fun b o hb e => eb b o hb e) f0 f1 f3 f4 f5⟩
 self := fun _ _ _ _ _ st h => wpAny_pyIter_revIter st.2 h
def iRev (K : PySem.W.Frag) (ta : TA) : TI := fun σ H R => ta σ H fun vs H1 => ∃ a xs, vs = [.ref a] /\ SqL K H1 a xs /\ R (Itv K a xs.length) H1
theorem pi_rev {l : Expr} {ta : TA} {p pos : Pos} (hg : Gl X "reversed") (hm : X.mg "reversed" = none) (ha : PA X [l] ta) (hs : starEach [l] X.env = [(false, eval l X.env)] := by rfl) : PI X tg (.Call (.Name "reversed" p) [l] [] pos) (iRev X.K ta) := by
 intro pins s σ H R I h
 refine Call_ (vR I hg hm (show bootBuiltins "reversed" = some (.type "reversed") by decide +kernel) (PyProof.Rows.callWith_type1 (thn (ha pos pins s σ H _ I h) fun us s1 ⟨vs, H1, I1, r1, q1⟩ => ?_) hs rfl))
 obtain ⟨a, xs, e, hq, q⟩ := q1
 subst e
 obtain ⟨u, rfl, ru⟩ := vals1 r1
 cases ru
 obtain ⟨its, rv, pl, hz⟩ := I1.list hq
 have hlen := rv.length
 refine call_reversed_list pl.isList ?_
 have hst : Heap.IsRevIter (s1.heap.push (revObj a ((its.toArray.size : Int) - 1))) s1.heap.objs.size a ((its.toArray.size : Int) - 1) := ⟨_, Heap.get?_push_size _ rfl, rfl, rfl⟩
 refine wpAny_pyIter_revIter hst ?_
 refine ⟨s1.heap.objs.size, [s1.heap.objs.size], _, _, H1, rfl, I1.kept (t' := s1.toks) fun b o e => Heap.get?_push_of_some _ e, turn_rev a _ xs.length, ⟨Nat.zero_le _, ?_⟩, fun b hb => ?_, q⟩
 · have e1 : ((its.toArray.size : Nat) : Int) - 1 = (xs.length : Int) - 1 - ((0 : Nat) : Int) := by simp only [List.size_toArray]; omega
   show Heap.IsRevIter _ _ a ((xs.length : Int) - 1 - ((0 : Nat) : Int))
   rw [<- e1]
   exact hst
 · have e : b = s1.heap.objs.size := by simpa using hb
   subst e
   exact I1.fpOk (Nat.le_refl _) (I1.hok.fresh (Nat.le_refl _))
end
end L2
namespace FL
open PySem PySem.Spec PyProof.Rows L2
section
variable {X : Cx}
theorem wlk_range3 {K : Frag} {lo c : Int} {n : Nat} : Wlk K (Itr3 lo c n) (.non, .non) (range3D lo c n) := by
 intro H O _ r
 have hl : (range3D lo c n).length = n := by simp [range3D]
 refine ⟨fun i d hd => ?_, show n <= _ by rw [hl]; exact Nat.le_refl _⟩
 have hi : i < n := by
  have := (List.getElem?_eq_some_iff.mp hd).1
  rwa [hl] at this
 refine ⟨hi, fun x H' y => ?_⟩
 obtain ⟨rfl, rfl⟩ := y
 have : d = D.int (lo + (i : Int) * c) := by
  simp only [range3D, List.getElem?_map, List.getElem?_range hi, Option.map_some] at hd
  exact (Option.some.inj hd).symm
 subst this
 exact ⟨Same.refl _, .int _⟩
theorem piv_range3 {tg a b c : Expr} {p pos : Pos} {fa fb fc : FE} (hm : X.mg "range" = none) (ha : PVw X a fa) (hb : PVw X b fb) (hc : PVw X c fc) (hg : Gl X "range" := by rfl)
  (hs : starEach [a, b, c] X.env = (false, eval a X.env) :: starEach [b, c] X.env := by rfl) (hs2 : starEach [b, c] X.env = (false, eval b X.env) :: starEach [c] X.env := by rfl) (hs3 : starEach [c] X.env = (false, eval c X.env) :: starEach [] X.env := by rfl) (hp : (backTo pos (starEach [b, c] X.env)).any (·.1) = false := by rfl) :
  PIv X tg (.Call (.Name "range" p) [a, b, c] [] pos) (rng3 fa fb fc) := by
 obtain ⟨t, ht, hf⟩ := zX ha (zX hb (zX hc qM hs3) hs2) hs
 refine ⟨_, pi_range3 hg hm ht hs hp, fun H₀ H O σ ds hd items R o e q => ?_⟩
 unfold rng3 at e
 cases h1 : fa ds with
 | none => rw [h1] at e; cases e
 | some dx =>
   cases h2 : fb ds with
   | none => rw [h1, h2] at e; cases e
   | some dy =>
     cases h3 : fc ds with
     | none => rw [h1, h2, h3] at e; cases e
     | some dz =>
       rw [h1, h2, h3] at e
       simp only [Option.bind_some] at e
       cases dx <;> first | (cases e; done) | skip
       cases dy <;> first | (cases e; done) | skip
       cases dz <;> first | (cases e; done) | skip
       simp only at e
       split at e
       · rename_i i j c hk
         cases e
         refine hf H₀ H O σ ds hd [.int i, .int j, .int c] _ o (by simp [zG, h1, h2, h3, qC]) fun vs H' s r => ?_
         cases r with
         | cons r1 rr =>
           cases rr with
           | cons r2 rr =>
             cases rr with
             | cons r3 rr =>
               cases rr
               exact ⟨i, j, c, by rw [r1.int', r2.int', r3.int'], hk, q _ (.non, .non) H' s .non wlk_range3⟩
       · cases e
theorem wlk_rev {K : Frag} {a : Addr} {l : List D} : Wlk K (Itv K a l.length) (.ref a, .lst l) l.reverse := by
 intro H O _ r
 obtain ⟨b, xs, e, hs, rs⟩ := WRep.seqL (.inl r)
 cases e
 have hlen := rs.length
 refine ⟨fun i d hd => ?_, show _ = l.length from List.length_reverse⟩
 have hi : i < l.length := by
  have := (List.getElem?_eq_some_iff.mp hd).1
  rwa [List.length_reverse] at this
 rw [List.getElem?_reverse hi] at hd
 obtain ⟨v, h1, h2⟩ := rs.get hd
 refine ⟨⟨xs, v, hs, hlen, hi, h1⟩, fun x H' y => ?_⟩
 obtain ⟨rfl, y⟩ := y
 have := y xs hs
 rw [h1] at this; cases this
 exact ⟨Same.refl _, h2⟩
theorem piv_rev {tg e : Expr} {p pos : Pos} {f : FE} (hc : True) (hm : X.mg "reversed" = none) (h : PV X e f) (hg : Gl X "reversed" := by rfl) (hs : starEach [e] X.env = [(false, eval e X.env)] := by rfl) : PIv X tg (.Call (.Name "reversed" p) [e] [] pos) (revA f) := by
 obtain ⟨t, ht, hf⟩ := zJ h qE hs
 refine ⟨_, pi_rev hg hm ht hs, fun H₀ H O σ ds hd items R o e q => ?_⟩
 unfold revA at e
 cases h1 : f ds with
 | none => rw [h1] at e; cases e
 | some d =>
   rw [h1] at e
   simp only [Option.bind_some] at e
   cases d <;> first | (cases e; done) | skip
   rename_i l
   cases e
   refine hf H₀ H O σ ds hd [.lst l] _ o (by simp [zG, h1, qC]) fun vs H' s r => ?_
   cases r with
   | cons r1 rr =>
     cases rr
     obtain ⟨a, xs, rfl, hq, rs⟩ := WRep.seqL (.inl r1)
     refine ⟨a, xs, rfl, hq, ?_⟩
     rw [rs.length]
     exact q _ (.ref a, .lst l) H' s r1 wlk_rev
theorem ptv_chain {op op' : CmpOp} {r r' : R2} {opD opD' : D -> D -> Option D} {a b c : Expr} {fa fb fc : FE} {pos : Pos} (ho : OpR X (compareOp op) r) (hs : OpS X r opD) (ho' : OpR X (compareOp op') r') (hs' : OpS X r' opD') (ha : PVw X a fa) (hb : PVw X b fb) (hc : PVw X c fc)
  (hm : lastMarks [op, op'] [b, c] = false := by with_unfolding_all rfl) : PTv X (.Compare a [op, op'] [b, c] pos) (zW (chain opD opD' fa fb fc)) := by
 obtain ⟨ta, pa, ha⟩ := ha
 obtain ⟨tb, pb, hb⟩ := hb
 obtain ⟨tc, pc, hc⟩ := hc
 refine ⟨_, pt_chain ho ho' pa pb pc hm, fun H₀ H O σ ds hd k Q o e q => ?_⟩
 unfold zW chain at e
 cases h1 : fa ds with
 | none => rw [h1] at e; cases e
 | some dx =>
   cases h2 : fb ds with
   | none => rw [h1, h2] at e; cases e
   | some dy =>
     rw [h1, h2] at e
     simp only [Option.bind_some] at e
     cases h3 : opD dx dy with
     | none => rw [h3] at e; cases e
     | some z =>
       rw [h3] at e
       simp only [Option.bind_some] at e
       refine ha H₀ H O σ ds hd dx _ o h1 fun x H1 s1 r1 => ?_
       refine hb H₀ H1 O σ ds hd dy _ (o.mono s1) h2 fun y H2 s2 r2 => ?_
       have o2 := (o.mono s1).mono s2
       refine hs H2 O x y dx dy z _ o2.dom (r1.mono s2) r2 h3 fun zv H3 s3 r3 => ?_
       cases z with
       | bl kk =>
         cases r3
         cases kk with
         | false =>
           simp only [Option.bind_some, isB, Option.some.injEq] at e
           subst e
           exact ⟨false, rfl, iteF ⟨false, rfl, q H3 ((s1.trans s2).trans s3)⟩⟩
         | true =>
           simp only at e
           cases h4 : fc ds with
           | none => rw [h4] at e; cases e
           | some dw =>
             rw [h4] at e
             simp only [Option.bind_some] at e
             cases h5 : opD' dy dw with
             | none => rw [h5] at e; cases e
             | some zz =>
               rw [h5] at e
               simp only [Option.bind_some] at e
               refine ⟨true, rfl, iteT ?_⟩
               refine hc H₀ H3 O σ ds hd dw _ (o2.mono s3) h4 fun wv H4 s4 r4 => ?_
               refine hs' H4 O y wv dy dw zz _ ((o2.mono s3).mono s4).dom ((r2.mono s3).mono s4) r4 h5 fun v H' s r => ?_
               cases zz with
               | bl k2 => cases e; cases r; exact ⟨_, rfl, q H' ((((s1.trans s2).trans s3).trans s4).trans s)⟩
               | _ => cases e
       | _ => cases e
end
end FL
namespace L2
open PySem PySem.Spec PyProof.Rows
section
variable {X : Cx} {pins : List (Addr × Obj)} {σ : St} {H : Hp} {s : Shared} {h' : Heap}
end
section
variable {X : Cx}
end
end L2
namespace FL
open PySem PySem.Spec PyProof.Rows L2
section
variable {X : Cx}
section
variable {scope : Scope} {NY : List Str} {mp : List (Option Nat)} {tg iter elt : Expr} {ifs : List Expr} {pos : Pos} {fi : FA} {ga : D -> List Sl -> Option (List Sl)} {tt : FT} {fe : FE}
end
end
end FL
namespace L2
open PySem PySem.Spec PyProof.Rows
section
variable {X : Cx}
end
end L2
namespace FL
open PySem PySem.Spec PyProof.Rows L2
section
variable {X : Cx}
end
end FL
namespace FL
open PySem PySem.Spec PyProof.Rows L2
section
variable {X : Cx}
end
end FL
namespace FL
open PySem PySem.Spec PyProof.Rows L2
section
variable {X : Cx}
end
end FL
namespace L2
open PySem PySem.Spec PyProof.Rows
section
variable {X : Cx}
end
end L2
namespace FL
open PySem PySem.Spec PyProof.Rows L2
section
variable {X : Cx}
end
end FL
namespace L2
open PySem PySem.Spec PyProof.Rows
section
variable {X : Cx}
def tMethD (X : Cx) (m : Str) (k : Nat) (ta : TE) (t : TA) : TE := fun σ H Q => ta σ H fun x H1 => ∃ (a C dx : Addr) (fs : List (Str × V)) (f : Addr) (fd : FuncData) (ps : List Str) (sp : Sp), x = .ref a /\ H1 a = some (.ins C dx fs) /\ fs.lookup m = none ∧
 Cls X.K C /\ Meth X.K C m f /\ FnOk X.prog X.w X.K X.mg X.base CX0 k f fd ps sp /\ Binds X.K fd ps [] /\ t σ H1 fun vs H2 => sp (x :: vs) H2 Q E0
theorem pe_methD0 {k : Nat} {m : Str} {o : Expr} {apos pos : Pos} {ta : TE} {pl : Sem Bool} (he : PE X o ta) (hr : Room k X.A)
  (ht : eval (.Call (.Attribute o m apos) [] [] pos) X.env = (do
    let ov <- eval o X.env
    standAt apos.atName
    let (f, first) <- holding [ov] (getMethod ov m pl)
    callWith pos f first (backTo pos (starEach [] X.env)) (backToKw pos (keywordEach [] X.env))) := by rfl) :
  PE X (.Call (.Attribute o m apos) [] [] pos) (tMethD X m k ta tNil) := by
 intro pins s σ H Q I h
 refine PySem.W.methodCall_KW (pl := pl) (thn (he pins s σ H _ I h) fun u s1 ⟨x, H1, I1, rx, a, C, dx, fs, f, fd, ps, sp, ex, ea, l, c, hm, F, hb, q⟩ => ?_) ht
 subst ex
 obtain rfl : u = Value.ref a := rx
 refine getmeth_ok I1 ea c hm l ?_
 exact PySem.W.callWith_K0 (first := [.ref a]) I1.kIn hm.kp (run_fn (us := [.ref a]) (vs := [.ref a]) F hr hb .nil pass0 I1 (.cons rfl .nil) q)
end
end L2
namespace FL
open PySem PySem.Spec PyProof.Rows L2
section
variable {X : Cx}
theorem PVd.v {e : Expr} {f : FE} (h : PVd X e f) : PV X e f := by
 obtain ⟨t, ht, hf⟩ := h
 exact ⟨t, ht, fun H₀ H O σ ds hd d Q o e q => hf H₀ H O σ ds hd d Q o e fun v H' s r => q v H' s (r.less fun a z => o.old z)⟩
def FldOk (K : Frag) (f : Str) (ix : List (Nat × Nat)) : Prop := ∀ t i, ix.lookup t = some i -> (clsFlds t)[i]? = some f /\ (∀ j, j < i -> (clsFlds t)[j]? ≠ some f) /\ ∀ C, PySem.W.nsIn K mainGlobals (clsName t) = some (some (.ref C)) -> Cls K C /\ NoAttr K C f
theorem fldOk_nil {K : Frag} {f : Str} : FldOk K f [] := fun t i h => by simp at h
theorem fldOk_cons {K : Frag} {f : Str} {t i : Nat} {C : Addr} {ix : List (Nat × Nat)} (a : PySem.W.nsIn K mainGlobals (clsName t) = some (some (.ref C))) (c : Cls K C) (n : NoAttr K C f) (h1 : (clsFlds t)[i]? = some f) (h2 : ∀ j, j < i -> (clsFlds t)[j]? ≠ some f)
  (h : FldOk K f ix) : FldOk K f ((t, i) :: ix) := by
 intro t' i' e
 by_cases q : t' = t
 · subst q
   simp at e
   subst e
   refine ⟨h1, h2, fun C' e' => ?_⟩
   rw [a] at e'
   cases e'
   exact ⟨c, n⟩
 · have : (t' == t) = false := by simpa using q
   rw [List.lookup_cons, this] at e
   exact h t' i' e
theorem lookup_fld {f : Str} : ∀ {kvs : List (Str × V)} {i : Nat} {v : V}, (kvs.map (·.1))[i]? = some f -> (∀ j, j < i -> (kvs.map (·.1))[j]? ≠ some f) -> (kvs.map (·.2))[i]? = some v -> kvs.lookup f = some v
 | [], _, _, h, _, _ => by simp at h
 | (g, x) :: r, 0, v, h1, _, h3 => by
   simp at h1 h3
   subst h1 h3
   simp [List.lookup]
 | (g, x) :: r, i + 1, v, h1, h2, h3 => by
   have hg : g ≠ f := fun z => h2 0 (by omega) (by simp [z])
   have : (f == g) = false := by simpa using fun z => hg z.symm
   rw [List.lookup_cons, this]
   exact lookup_fld (i := i) (by simpa using h1) (fun j hj => by have := h2 (j + 1) (by omega); simpa using this) (by simpa using h3)
theorem pv_fld {e : Expr} {f : Str} {pos : Pos} {fe : FE} {ix : List (Nat × Nat)} (hF : FldOk X.K f ix) (he : PV X e fe) (hb : attributeBase e f X.env (eval e X.env) = eval e X.env := by rfl) : PV X (.Attribute e f pos) (fldG ix fe) := by
 obtain ⟨t, ht, hf⟩ := he
 refine ⟨_, pe_fld ht hb, fun H₀ H O σ ds hd d Q o e q => ?_⟩
 unfold fldG at e
 cases h : fe ds with
 | none => rw [h] at e; cases e
 | some x =>
   rw [h] at e
   simp only [Option.bind_some] at e
   refine hf H₀ H O σ ds hd x _ o h fun v H1 s1 r1 => ?_
   cases x with
   | ins t es =>
     simp only [fldD] at e
     cases hl : ix.lookup t with
     | none => rw [hl] at e; cases e
     | some i =>
       rw [hl] at e
       simp only [Option.bind_some] at e
       obtain ⟨h1, h2, h3⟩ := hF t i hl
       cases r1 with
       | @ins a C dx _ kvs _ c n ha ek rr =>
         obtain ⟨cl, na⟩ := h3 C c
         obtain ⟨w, hw, rw'⟩ := rr.get e
         refine ⟨a, C, dx, kvs, w, rfl, ha, cl, na, lookup_fld (i := i) (by rw [ek]; exact h1) (by rw [ek]; exact h2) hw, ?_⟩
         exact q w H1 s1 rw'
   | _ => simp [fldD] at e
structure MCal (P : Program) (w : World) (K : Frag) (mg : Str -> Option Value) (base : Heap) (m : Str) (k n : Nat) (cs : List Nat) (F : Nat -> List D -> Option Ret) : Prop where
 no : ∀ t ∈ cs, m ∉ clsFlds t
 of : ∀ t ∈ cs, ∀ C, PySem.W.nsIn K mainGlobals (clsName t) = some (some (.ref C)) -> ∃ (f : Addr) (fd : FuncData) (ps : List Str), Cls K C /\ Meth K C m f /\ FnOk P w K mg base CX0 k f fd ps (spF K (n + 1) (F t)) /\ Binds K fd ps []
theorem mcal_nil {P : Program} {w : World} {K : Frag} {mg : Str -> Option Value} {base : Heap} {m : Str} {k n : Nat} {F : Nat -> List D -> Option Ret} : MCal P w K mg base m k n [] F := ⟨fun _ h => (nomatch h), fun _ h => (nomatch h)⟩
theorem jV {P : Program} {w : World} {K : Frag} {mg : Str -> Option Value} {base : Heap} {m : Str} {j k n t : Nat} {cs : List Nat} {F : Nat -> List D -> Option Ret} {C f : Addr} {fd : FuncData} {ps : List Str} (a : PySem.W.nsIn K mainGlobals (clsName t) = some (some (.ref C)))
  (c : Cls K C) (hm : Meth K C m f) (G : FnOk P w K mg base CX0 j f fd ps (spF K (n + 1) (F t))) (hj : j <= k) (b : Binds K fd ps []) (hn : m ∉ clsFlds t) (h : MCal P w K mg base m k n cs F) : MCal P w K mg base m k n (t :: cs) F := by
 refine ⟨fun t' ht => (List.mem_cons.mp ht).elim (fun e => e ▸ hn) (h.no t'), fun t' ht C' e => ?_⟩
 rcases List.mem_cons.mp ht with rfl | ht
 · rw [a] at e
   cases e
   exact ⟨f, fd, ps, c, hm, G.mono hj, b⟩
 · exact h.of t' ht C' e
theorem lookup_none_of {m : Str} : ∀ {kvs : List (Str × V)}, m ∉ kvs.map (·.1) -> kvs.lookup m = none
 | [], _ => rfl
 | (g, x) :: r, h => by
   have hg : (m == g) = false := by simpa using fun z => h (by simp [z])
   rw [List.lookup_cons, hg]
   exact lookup_none_of fun z => h (by simp at z ⊢; exact .inr z)
theorem meth_sem {m : Str} {k n : Nat} {cs : List Nat} {F : Nat -> List D -> Option Ret} (M : MCal X.prog X.w X.K X.mg X.base m k n cs F) {ta : TE} {t : TA} {fo : FE} {g : FA}
  (hfo : ∀ H₀ H O σ ds hd d Q, Ok X.K H₀ H O σ ds hd -> fo ds = some d -> (∀ v H', Same H H' -> Rep X.K H' O v d -> Q v H') -> ta σ H Q)
  (hfg : ∀ H₀ H O σ ds hd l Q, Ok X.K H₀ H O σ ds hd -> g ds = some l -> (∀ vs H', Same H H' -> Reps X.K H' jY vs l -> Q vs H') -> t σ H Q)
  {H₀ H : Hp} {O : Addr -> Prop} {σ : L2.St} {ds : List Sl} {hd : Hold} {x : D} {l : List D} {r : Ret} {Q : VK} (o : Ok X.K H₀ H O σ ds hd) (h1 : fo ds = some x) (h2 : g ds = some l) (h3 : methR n cs F x l = some r)
  (q : ∀ v H1 H', Same H H1 -> Same H1 H' -> RetOk X.K H1 H' v r -> Q v H') : tMethD X m k ta t σ H Q := by
 refine hfo H₀ H O σ ds hd x _ o h1 fun v H1 s1 r1 => ?_
 cases x with
 | ins c es =>
   simp only [methR] at h3
   split at h3
   · rename_i hc
     cases r1 with
     | @ins a C dx _ kvs _ cc nn ha ek rr =>
       obtain ⟨f, fd, ps, cl, hm, Fn, hb⟩ := M.of c hc.1 C cc
       refine ⟨a, C, dx, kvs, f, fd, ps, _, rfl, ha, lookup_none_of (by rw [ek]; exact M.no c hc.1), cl, hm, Fn, hb, ?_⟩
       refine hfg H₀ H1 O σ ds hd l _ (o.mono s1) h2 fun vs H2 s2 r2 => ?_
       have hl := r2.length
       have r1' : Rep X.K H2 jY (.ref a) (.ins c es) := (Rep.ins cc (fun z => z.elim) (s2 _ _ ha) ek ((rr.mono s2).less fun _ z => z.elim))
       exact ⟨by simp only [List.length_cons]; omega, _, r, .cons r1' r2, h3, fun v H' s' ro => q v H2 H' (s1.trans s2) s' ro⟩
   · cases h3
 | _ => simp [methR] at h3
section
variable {m : Str} {k j n : Nat} {cs : List Nat} {F : Nat -> List D -> Option Ret} {o e : Expr} {es : List Expr} {apos pos : Pos} {fo : FE} {g : FA}
end
end
end FL
namespace FL
open PySem PySem.Spec PyProof.Rows L2
def eH : Hp := fun _ => none
def Keepx (x : Addr) (H H' : Hp) : Prop := ∀ b o, b ≠ x -> H b = some o -> H' b = some o
theorem Keepx.trans {x : Addr} {H H1 H2 : Hp} (a : Keepx x H H1) (b : Keepx x H1 H2) : Keepx x H H2 := fun c o n e => b c o n (a c o n e)
theorem Keepx.of_same {x : Addr} {H H1 : Hp} (s : Same H H1) : Keepx x H H1 := fun c o _ e => s c o e
section
variable {K : Frag} {H H' : Hp} {O : Addr -> Prop} {x : Addr}
theorem Keepx.rd {a C dx : Addr} {kvs : List (Str × V)} {xs : List V} (k : Keepx x H H') (hx : H x = some (.ins C dx kvs)) (h : Rd H a (.tup xs)) : Rd H' a (.tup xs) := by
 rcases h with h | ⟨o, h⟩
 · exact .inl (k _ _ (fun z => by rw [z, hx] at h; cases h) h)
 · exact .inr ⟨o, k _ _ (fun z => by rw [z, hx] at h; cases h) h⟩
mutual
theorem Rep.flatKeep {C dx : Addr} {kvs : List (Str × V)} (k : Keepx x H H') (hx : H x = some (.ins C dx kvs)) : ∀ {v : V} {d : D}, flat d = true -> Rep K H O v d -> Rep K H' O v d
 | _, _, _, .non => .non
 | _, _, _, .bl b => .bl b
 | _, _, _, .int i => .int i
 | _, _, _, .str y => .str y
 | _, _, f, .tup n h r => .tup n (k.rd hx h) (Reps.flatKeep k hx (by simpa [flat] using f) r)
 | _, _, f, .tupK h r => .tupK h (Reps.flatKeep k hx (by simpa [flat] using f) r)
 | _, _, f, .lst _ _ _ => by simp [flat] at f
 | _, _, f, .lstK _ _ => by simp [flat] at f
 | _, _, f, .dct _ _ _ _ => by simp [flat] at f
 | _, _, f, .ins _ _ _ _ _ => by simp [flat] at f
 | _, _, f, .clo _ _ _ _ _ _ => by simp [flat] at f
 | _, _, f, .fnK _ => by simp [flat] at f
theorem Reps.flatKeep {C dx : Addr} {kvs : List (Str × V)} (k : Keepx x H H') (hx : H x = some (.ins C dx kvs)) : ∀ {vs : List V} {ds : List D}, flats ds = true -> Reps K H O vs ds -> Reps K H' O vs ds
 | _, _, _, .nil => .nil
 | _, _, f, .cons h t => by
   simp only [flats, Bool.and_eq_true] at f
   exact .cons (Rep.flatKeep k hx f.1 h) (Reps.flatKeep k hx f.2 t)
end
end
def FlatS (ds : List Sl) : Prop := ∀ i : Nat, ds[i]? = none \/ ds[i]? = some Sl.no \/ ∃ d, ds[i]? = some (Sl.v d) /\ flat d = true
def putAll (kvs : List (Str × V)) (l : List (Str × V)) : List (Str × V) := l.foldl (fun k p => putF p.1 p.2 k) kvs
theorem putF_new {f : Str} {v : V} : ∀ {kvs : List (Str × V)}, f ∉ kvs.map (·.1) -> putF f v kvs = kvs ++ [(f, v)]
 | [], _ => rfl
 | (g, x) :: r, h => by
   have hg : ¬ g = f := fun z => h (by simp [z])
   rw [show putF f v ((g, x) :: r) = (if g = f then (g, v) :: r else (g, x) :: putF f v r) from rfl, if_neg hg, putF_new fun z => h (by simp at z ⊢; exact .inr z)]
   rfl
theorem putAll_new : ∀ {l kvs : List (Str × V)}, (kvs.map (·.1) ++ l.map (·.1)).Nodup -> putAll kvs l = kvs ++ l
 | [], kvs, _ => by simp [putAll]
 | p :: r, kvs, h => by
   have hp : p.1 ∉ kvs.map (·.1) := fun z => by
    rw [List.nodup_append] at h
    exact h.2.2 _ z _ (by simp) rfl
   have : putAll kvs (p :: r) = putAll (putF p.1 p.2 kvs) r := rfl
   rw [this, putF_new hp, putAll_new (by simpa [List.append_assoc] using h)]
   simp
def spN (K : Frag) (n : Nat) (ns : List Str) (G : List D -> Option (List D)) : Sp := fun vs H Q _ => ∃ (x C dx : Addr) (kvs : List (Str × V)) (vs' : List V) (ds new : List D), vs = .ref x :: vs' /\ vs'.length = n /\ H x = some (.ins C dx kvs) /\ Cls K C ∧
 Reps K H jY vs' ds /\ flats ds = true /\ G ds = some new /\ (∀ f ∈ ns, NoAttr K C f) /\ kvs.length + ns.length < 1000 ∧
 ∀ ws H', Keepx x H H' -> H' x = some (.ins C dx (putAll kvs (ns.zip ws))) -> Reps K H' jY ws new -> new.length = ns.length -> flats new = true -> Q .non H'
section
variable {X : Cx}
variable (X) in
def PIs (st : List Stmt) (ns : List Str) (g : FN) : Prop := ∃ t, PSs X st t /\ ∀ H σ ds x C dx kvs new E, Ok X.K eH H jY σ ds [] -> FlatS ds -> σ[0]? = some (some (.ref x)) -> H x = some (.ins C dx kvs) -> Cls X.K C -> g ds = some new -> flats new = true →
 (∀ f ∈ ns, NoAttr X.K C f) -> kvs.length + ns.length < 1000 -> (∀ ws H', Keepx x H H' -> H' x = some (.ins C dx (putAll kvs (ns.zip ws))) -> Reps X.K H' jY ws new -> new.length = ns.length -> E.nx σ H') -> t E σ H
variable (X) in
def PI1 (st : Stmt) (ns : List Str) (g : FN) : Prop := ∃ t, PS X st t /\ ∀ H σ ds x C dx kvs new E, Ok X.K eH H jY σ ds [] -> FlatS ds -> σ[0]? = some (some (.ref x)) -> H x = some (.ins C dx kvs) -> Cls X.K C -> g ds = some new -> flats new = true →
 (∀ f ∈ ns, NoAttr X.K C f) -> kvs.length + ns.length < 1000 -> (∀ ws H', Keepx x H H' -> H' x = some (.ins C dx (putAll kvs (ns.zip ws))) -> Reps X.K H' jY ws new -> new.length = ns.length -> E.nx σ H') -> t E σ H
theorem pis_one {st : Stmt} {ns : List Str} {g : FN} (h : PI1 X st ns g) : PIs X [st] ns g := by
 obtain ⟨t, ht, hf⟩ := h
 exact ⟨_, pss_one ht, hf⟩
theorem pi_fld {y f : Str} {e : Expr} {p pos pos' : Pos} {fe : FE} (he : PV X e fe) (hN : X.N[0]? = some y := by rfl) (hv : Vis X.env.scope y := by first | exact Or.inl rfl | exact Or.inr (Or.inl rfl) | exact Or.inr (Or.inr rfl)) (hd : (y == ("__debug__" : Str)) = false := by decide)
  (hcd : (y == ("__classdict__" : Str)) = false := by decide) (hs : swapsWith e (some (.Attribute (.Name y p) f pos')) pos.line X.env = pure false := by rfl) : PI1 X (.Assign [.Attribute (.Name y p) f pos'] e pos) [f] (fldN fe) := by
 obtain ⟨t, ht, hf⟩ := he
 refine ⟨_, ps_fld (wK hN hv hd hcd) ht hs, fun H σ ds x C dx kvs new E o fl h0 hx cl e hfl hn hk q => ?_⟩
 unfold fldN at e
 cases e1 : fe ds with
 | none => rw [e1] at e; cases e
 | some d =>
   rw [e1] at e
   simp only [Option.bind_some] at e
   split at e
   · rename_i hd1
     cases e
     simp only [List.length_cons, List.length_nil] at hk
     refine hf eH H jY σ ds [] d _ o e1 fun v H1 s1 r1 => ?_
     refine ⟨.ref x, h0, x, C, dx, kvs, rfl, s1 _ _ hx, cl, hn f (by simp), by omega, ?_⟩
     have k2 : Keepx x H1 (upd H1 x (.ins C dx (putF f v kvs))) := fun b u hb e => by rw [qI hb]; exact e
     exact q [v] _ ((Keepx.of_same s1).trans k2) qQ (.cons (r1.flatKeep k2 (s1 _ _ hx) hd1) .nil) rfl
   · cases e
end
theorem flats_mem : ∀ {ds : List D} {i : Nat} {d : D}, flats ds = true -> ds[i]? = some d -> flat d = true
 | [], _, _, _, e => by simp at e
 | c :: r, 0, d, h, e => by
   simp only [flats, Bool.and_eq_true] at h
   simp at e; subst e; exact h.1
 | c :: r, i + 1, d, h, e => by
   simp only [flats, Bool.and_eq_true] at h
   exact flats_mem h.2 (by simpa using e)
theorem xP {n : Nat} {ds : List D} {i : Nat} {s : Sl} (e : (argsN n ds)[i]? = some s) : s = .no \/ ∃ j d, i = j + 1 /\ ds[j]? = some d /\ s = .v d := by
 unfold argsN at e
 cases i with
 | zero => simp at e; exact .inl e.symm
 | succ j =>
   rw [List.getElem?_cons_succ] at e
   by_cases hj : j < ds.length
   · rw [List.getElem?_append_left (by simpa using hj), List.getElem?_map] at e
     cases h : ds[j]? with
     | none => rw [h] at e; cases e
     | some d => rw [h] at e; cases e; exact .inr ⟨j, d, rfl, h, rfl⟩
   · rw [List.getElem?_append_right (by simpa using hj), List.getElem?_replicate] at e
     split at e
     · cases e; exact .inl rfl
     · cases e
theorem init_ok {P : Program} {w : World} {K : Frag} {mg : Str -> Option Value} {base : Heap} {x qual : Str} {st : Stmt} {f : Addr} {fd : FuncData} {N ps : List Str} {k n m : Nat} {ns : List Str} {g : FN} (Fn : Fun K x qual st f fd) (S : FnScope N ps (zA st))
  (hbody : ∀ (cdv : Value) (A : Around) (outer : List Env) (s : Shared) (H : Hp) (E : XK), Room k (A.deeper (envOfC qual (zA st) s.heap.objs.size f cdv)) -> PIs (cxOf CX0 P w K mg base N qual (zA st) f cdv A outer s H E).nox (zH st) ns g)
  (hn : ps.length = n + 1) (hN : n + 1 <= m) (hm : N.length = m) : FnOk P w K mg base CX0 (k + 1) f fd ps (spN K n ns (runN g m)) := by
 subst hm
 refine Fn.ok S (fun vs H Q E h => ?_) (fun cdv A outer s H vs Q E hr h => ?_)
 · obtain ⟨x, C, dx, kvs, vs', ds, new, rfl, hl, _⟩ := h
   simp [hl, hn]
 · obtain ⟨x, C, dx, kvs, vs', ds, new, rfl, hl, hx, cl, rv, hfl, e, hna, hk, q⟩ := h
   obtain ⟨t, ht, hf⟩ := hbody cdv A outer s H E hr
   refine ⟨t, ht, ?_⟩
   have hld : ds.length = n := by rw [<- rv.length]; exact hl
   unfold runN at e
   cases e1 : g (argsN N.length ds) with
   | none => rw [e1] at e; cases e
   | some new' =>
     rw [e1] at e
     simp only [Option.bind_some] at e
     split at e
     · rename_i hfn
       cases e
       have o : Ok K eH H jY (L2.start N (.ref x :: vs')) (argsN N.length ds) [] := by
        refine ⟨(fun b u e => by cases e), (fun i l a hi _ => by rcases xP hi with h | ⟨j, d, _, _, h⟩ <;> cases h), fun _ z => z.elim, by simp [L2.start, argsN, hl, hld], fun i s e => ?_, fun i j a _ ⟨l, hi⟩ _ _ _ => ?_, (fun p hp => by cases hp)⟩
        · rcases xP e with rfl | ⟨j, d, rfl, hj, rfl⟩
          · exact yL
          · obtain ⟨v, h1, h2⟩ := rv.get hj
            have hjl : j < vs'.length := (List.getElem?_eq_some_iff.mp h1).1
            have : (L2.start N (.ref x :: vs'))[j + 1]? = some (some v) := by
             unfold L2.start
             rw [List.getElem?_append_left (by simpa using hjl)]
             simp [h1]
            rw [this]
            exact wI h2
        · rcases xP hi with h | ⟨j, d, _, _, h⟩ <;> cases h
       have fl : FlatS (argsN N.length ds) := fun i => by
        cases e : (argsN N.length ds)[i]? with
        | none => exact .inl rfl
        | some s =>
          rcases xP e with rfl | ⟨j, d, rfl, hj, rfl⟩
          · exact .inr (.inl rfl)
          · exact .inr (.inr ⟨d, rfl, flats_mem hfl hj⟩)
       exact hf H _ _ x C dx kvs new _ o fl (by simp [L2.start]) hx cl e1 hfn hna hk fun ws H' k' x' r' l' => q ws H' k' x' r' l' hfn
     · cases e
structure MkC (P : Program) (w : World) (K : Frag) (mg : Str -> Option Value) (base : Heap) (t k n : Nat) (G : List D -> Option (List D)) : Prop where
 ex : ∃ (C f : Addr) (fd : FuncData) (ps : List Str), PySem.W.nsIn K mainGlobals (clsName t) = some (some (.ref C)) /\ mg (clsName t) = some (.ref C) /\ Mk K C f /\ Cls K C /\ FnOk P w K mg base CX0 k f fd ps (spN K n (clsFlds t) G) /\ Binds K fd ps [] /\ (∀ f ∈ clsFlds t, NoAttr K C f)
section
variable {X : Cx} {t k j n : Nat} {G : List D -> Option (List D)} {x : Str} {p pos : Pos} {e : Expr} {es : List Expr} {g : FA}
theorem make_sem {C : Addr} {ta : TA} {l : List D} {new : List D} {H₀ H : Hp} {O : Addr -> Prop} {σ : L2.St} {ds : List Sl} {hd : Hold} {Q : VK} (hc : PySem.W.nsIn X.K mainGlobals (clsName t) = some (some (.ref C))) (hcl : Cls X.K C) (hna : ∀ f ∈ clsFlds t, NoAttr X.K C f) (hnd : (clsFlds t).Nodup) (hln : (clsFlds t).length < 900)
  (hfa : ∀ H₀ H O σ ds hd l Q, Ok X.K H₀ H O σ ds hd -> g ds = some l -> (∀ vs H', Same H H' -> Reps X.K H' jY vs l -> Q vs H') -> ta σ H Q) (o : Ok X.K H₀ H O σ ds hd) (h1 : g ds = some l) (hl : l.length = n /\ flats l = true) (h2 : G l = some new)
  (q : ∀ v H', Same H H' -> Rep X.K H' (Old H) v (.ins t new) -> Q v H') : tMake C (spN X.K n (clsFlds t) G) [] E0 ta σ H Q := by
 refine hfa H₀ H O σ ds hd l _ o h1 fun vs H1 s1 r1 => ?_
 intro x dx nx ndx nex
 have s2 : Same H1 (upd (upd H1 dx (.own x)) x (.ins C dx [])) := fun b o e => by
  rw [qI (jE e nx), qI (jE e ndx)]
  exact e
 refine ⟨x, C, dx, [], vs, l, new, by simp, by rw [r1.length]; exact hl.1, qQ, hcl, r1.mono s2, hl.2, h2, hna, by simp; omega, fun ws H' k' x' r' l' f' => ⟨rfl, ?_⟩⟩
 have s3 : Same H1 H' := fun b o e => k' b o (jE e nx) (s2 b o e)
 have hlw : (clsFlds t).length = ws.length := by rw [r'.length]; exact l'.symm
 have ek : putAll [] ((clsFlds t).zip ws) = (clsFlds t).zip ws := by
  rw [putAll_new (by simpa [List.map_fst_zip (Nat.le_of_eq hlw)] using hnd)]
  simp
 rw [ek] at x'
 have nx0 : H x = none := s1.free nx
 refine q (.ref x) H' (s1.trans s3) (.ins hc (not_old nx0) x' (List.map_fst_zip (Nat.le_of_eq hlw)) ?_)
 rw [List.map_snd_zip (Nat.le_of_eq hlw.symm)]
 exact Reps.flatten (fun a z => Old.mono (s1.trans s3) z) f' r'
theorem wR (M : MkC X.prog X.w X.K X.mg X.base t k n G) (hr : Room j X.A) (ha : PAn X (e :: es) g) (hj : k + 1 <= j := by decide) (hx : clsName t = x := by rfl) (hnd : (clsFlds t).Nodup := by decide +kernel) (hln : (clsFlds t).length < 900 := by decide)
  (hg : Gl X x := by rfl) (hdb : (x == ("__debug__" : Str)) = false := by decide) (he : starEach (e :: es) X.env = (false, eval e X.env) :: starEach es X.env := by rfl) (hpl : (backTo pos (starEach es X.env)).any (·.1) = false := by rfl) :
  PVd X (.Call (.Name x p) (e :: es) [] pos) (makeG t n G g) := by
 obtain ⟨C, f, fd, ps, hc, hm, mk, cl, Fn, hb, hna⟩ := M.ex
 obtain ⟨ta, pa, hfa⟩ := ha
 subst hx
 refine ⟨_, pe_make (CX := CX0) (E := E0) mk Fn (hr.mono hj) hg hm hb .nil pass0 pa hdb he hpl, fun H₀ H O σ ds hd d Q o e q => ?_⟩
 unfold makeG at e
 cases h1 : g ds with
 | none => rw [h1] at e; cases e
 | some l =>
   rw [h1] at e
   simp only [Option.bind_some] at e
   split at e
   · rename_i hl
     cases h2 : G l with
     | none => rw [h2] at e; cases e
     | some new =>
       rw [h2] at e
       cases e
       exact make_sem hc cl hna hnd hln hfa o h1 hl h2 q
   · cases e
end
section
variable {X : Cx}
end
section
variable {X : Cx}
theorem vX {x : Str} {i : Int} {pos : Pos} (hm : ∃ t, X.mg x = some (.int i t)) (hg : Gl X x := by rfl) (hd : (x == ("__debug__" : Str)) = false := by decide) : PV X (.Name x pos) (zC (.int i)) :=
 let ⟨t, h⟩ := hm
 pv_glob (v := .int i) hg h ⟨t, rfl⟩ (fun _ _ => .int i) hd
theorem pv_globS {x : Str} {i : Str} {pos : Pos} (hm : ∃ t, X.mg x = some (.str i t)) (hg : Gl X x := by rfl) (hd : (x == ("__debug__" : Str)) = false := by decide) : PV X (.Name x pos) (zC (.str i)) :=
 let ⟨t, h⟩ := hm
 pv_glob (v := .str i) hg h ⟨t, rfl⟩ (fun _ _ => .str i) hd
end
inductive NoAll (K : Frag) (C : Addr) : List Str -> Prop
 | nil : NoAll K C []
 | cons {f : Str} {l : List Str} (h : NoAttr K C f) (t : NoAll K C l) : NoAll K C (f :: l)
theorem noAll_nil {K : Frag} {C : Addr} : NoAll K C [] := .nil
theorem noAll_cons {K : Frag} {C : Addr} {f : Str} {l : List Str} (h : NoAttr K C f) (t : NoAll K C l) : NoAll K C (f :: l) := .cons h t
theorem vC {K : Frag} {C : Addr} : ∀ {l : List Str}, NoAll K C l -> ∀ f ∈ l, NoAttr K C f
 | _, .nil, f, h => (nomatch h)
 | _, .cons q t, f, h => (List.mem_cons.mp h).elim (fun e => e ▸ q) (vC t f)
end FL
namespace FL
open PySem PySem.Spec PyProof.Rows L2
section
variable {X : Cx}
end
section
variable {X : Cx} {k j n : Nat} {F : List D -> Option Ret} {x : Str} {p pos : Pos} {e : Expr} {es : List Expr} {g : FA}
end
end FL
namespace PySem
open Sem (wp)
section
variable {prog : Program} {w : World} {A : Around} {R : Result -> Shared -> Prop} {I : Addr} {fp wr : List Addr} {n : Nat} {P : Nat -> Value -> Prop} {St : Nat -> Heap -> Prop} {kw : List (Str × Value)}
end
section
variable {prog : Program} {w : World} {A : Around} {E : Value -> Shared -> Prop} {s : Shared}
end
end PySem
namespace FL
open PySem PySem.Spec PyProof.Rows L2
section
variable {X : Cx}
end
end FL
namespace FL
open PySem PySem.Spec PyProof.Rows L2
open PySem.Calls PySem.Builtin PySem.Builtin.ObjectAttr PySem.Builtin.Getset_descriptor
open PySem.W (Looks looks_findIn looks_mroIn findIn mroIn specialIn takesIn KitX)
section
variable {prog : Program} {w : World} {A : Around} {E : Value -> Shared -> Prop} {h : Heap} {g : Array GenState} {d : Drawn} {t : Nat} {os : OsState} {a C : Addr} {o : Obj} {K : Frag}
end
end FL
namespace FL
open PySem PySem.Spec PyProof.Rows L2
open PySem.W (hideAll hideAll_get of_hideAll hideAll_none funFrames_hide excIn tail_of_in nsMap_none_of_in isNs_of_in)
theorem obj_get {P : Program} {w : World} {H : Hp} {h : Heap} {a : Addr} {o : HO} (x : ObjOk P w H h a o) : ∃ u, h.get? a = some u := by
 cases o with
 | lst xs => obtain ⟨_, _, _, _, e⟩ := x; exact ⟨_, e⟩
 | tup xs => obtain ⟨_, _, _, _, e, _⟩ := x; exact ⟨_, e⟩
 | dK kvs => obtain ⟨_, _, _, _, o, _, _, e, _⟩ := x; exact ⟨_, e⟩
 | dT kvs => obtain ⟨_, _, _, _, o, _, _, e, _⟩ := x; exact ⟨_, e⟩
 | set S n => obtain ⟨o, _, _, _, e, _⟩ := x; exact ⟨_, e⟩
 | ins C dx fs => obtain ⟨_, _, _, e, _⟩ := x; exact ⟨_, e⟩
 | own y => obtain ⟨_, e⟩ := x; exact ⟨_, e⟩
 | xd fs => obtain ⟨_, ⟨_, _, _, e, _⟩, _⟩ := x; exact ⟨_, e⟩
 | rng lo hi => obtain ⟨_, _, _, e⟩ := x; exact ⟨_, e⟩
 | frz ob u => obtain ⟨e, _⟩ := x; exact ⟨_, e⟩
 | tbl ps => obtain ⟨_, e, _⟩ := x; exact ⟨_, e⟩
 | met f y => exact ⟨_, (show h.get? a = some _ from x)⟩
 | ext φ => obtain ⟨_, ⟨_, e⟩, _⟩ := x; exact ⟨_, e⟩
structure Thrown (P : Program) (w : World) (outer : List Env) (H : Hp) (s : Shared) (cls : Value) (ea : Addr) (a0 : Value) (B : Heap) (H' : Hp) (h : Heap) : Prop where
 fly : Heap.FlyingW B outer ea cls a0 h
 keep : ∀ b o, s.heap.get? b = some o -> H b = none -> b ∉ frs outer -> B.get? b = some o
 there : ∀ b o, s.heap.get? b = some o -> b ∉ frs outer -> ∃ o', B.get? b = some o'
 slot : ∀ b o, s.heap.get? b = some o -> b ∈ frs outer -> ∃ sl, h.get? b = some { o with slots := sl }
 free : ∀ b o, s.heap.get? b = some o -> H b = none -> H' b = none
 tups : ∀ b xs, H b = some (.tup xs) -> H' b = some (.tup xs)
 frzs : ∀ b o u, H b = some (.frz o u) -> H' b = some (.frz o u)
 tbls : ∀ b ps, H b = some (.tbl ps) -> H' b = some (.tbl ps)
 hok : L2.HOk P w H' B
section
variable {P : Program} {w : World} {outer : List Env} {H H' : Hp} {s : Shared} {cls a0 : Value} {ea : Addr} {B h h' : Heap}
theorem Thrown.no (t : Thrown P w outer H s cls ea a0 B H' h) : H' ea = none := by
 cases q : H' ea with
 | none => rfl
 | some u =>
   obtain ⟨o, e⟩ := obj_get (t.hok _ _ q)
   rw [t.fly.2.1] at e; cases e
end
section
variable (X : Cx) (C : Addr)
end
section
variable {X : Cx} {C : Addr}
end
end FL
namespace FL
open PySem PySem.Spec PyProof.Rows L2
open PySem.W (Looks looks_mroIn mroIn)
section
variable {X : Cx} {pins : List (Addr × Obj)} {σ : L2.St} {H : Hp} {s : Shared} {ea : Addr} {oe : Obj} {xe : Value -> Shared -> Prop}
end
section
variable {X : Cx} {k j n : Nat} {R : List D -> Bool} {C : Addr} {x : Str} {p pos : Pos} {e : Expr} {es : List Expr} {g : FA}
end
end FL
namespace FL
open PySem PySem.Spec PyProof.Rows L2
open PySem.W (Looks looks_mroIn mroIn clsIn)
structure XCatch (K : Frag) (C S : Addr) : Prop where
 kit : PySem.W.kitCls K (.ref C) (.ref S) = some true
 be : mroIn K S (.type "BaseException") = some true
section
variable {prog : Program} {w : World} {A : Around} {E : Value -> Shared -> Prop} {h : Heap} {g : Array GenState} {d : Drawn} {t : Nat} {os : OsState} {a C S : Addr} {o : Obj} {K : Frag}
end
section
variable {X : Cx}
end
end FL
namespace FL
open PySem PySem.Spec PyProof.Rows L2
section
variable {X : Cx}
section
variable {en : Str} {i : Nat} {p pe pT pos : Pos} {tb : List (Nat × Bool)}
end
end
structure XT (K : Frag) (mg : Str -> Option Value) (t : Nat) (x : Str) (C S : Addr) : Prop where
 nm : PySem.W.nsIn K mainGlobals (xName t) = some (some (.ref C))
 gl : mg x = some (.ref S)
 cat : XCatch K C S
end FL
namespace FL
open PySem PySem.Spec PyProof.Rows L2
section
variable {X : Cx} {m : Str} {k j : Nat} {cs : List Nat} {F : Nat -> List D -> Option Ret} {o : Expr} {apos pos : Pos} {fo : FE}
theorem pv_meth0 {pl : Sem Bool} (M : MCal X.prog X.w X.K X.mg X.base m k 0 cs F) (hr : Room j X.A) (ho : PV X o fo) (hj : k <= j := by decide)
  (ht : eval (.Call (.Attribute o m apos) [] [] pos) X.env = (do
    let ov <- eval o X.env
    standAt apos.atName
    let (f, first) <- holding [ov] (getMethod ov m pl)
    callWith pos f first (backTo pos (starEach [] X.env)) (backToKw pos (keywordEach [] X.env))) := by rfl) : PV X (.Call (.Attribute o m apos) [] [] pos) (methV 0 cs F fo qC) := by
 obtain ⟨ta, pa, hfo⟩ := ho
 refine ⟨_, pe_methD0 (pl := pl) (k := k) pa (hr.mono hj) ht, fun H₀ H O σ ds hd d Q o e q => ?_⟩
 unfold methV at e
 cases h1 : fo ds with
 | none => rw [h1] at e; cases e
 | some x =>
   rw [h1] at e
   simp only [qC, Option.bind_some] at e
   cases h3 : methR 0 cs F x [] with
   | none => rw [h3] at e; cases e
   | some r =>
     rw [h3] at e
     refine meth_sem (g := qC) M hfo (fun _ H _ _ _ _ _ _ _ e q => by cases e; exact q _ H (Same.refl _) .nil) o h1 rfl h3 fun v H1 H' s1 s' ro => q v H' (s1.trans s') ?_
     exact retV_ok ro e fun a ha => (o.mono s1).old ha
end
section
variable {X : Cx} {C : Addr} {x : Str} {p pos : Pos}
structure MkP (K : Frag) (mg : Str -> Option Value) (t : Nat) : Prop where
 ex : ∃ C, PySem.W.nsIn K mainGlobals (clsName t) = some (some (.ref C)) /\ mg (clsName t) = some (.ref C) /\ PySem.W.makesIn K C = true /\ PySem.W.findIn K (.ref C) "__init__" = some (some (.builtin "object.__init__")) /\ PySem.W.keepIn K (.ref C) = true
theorem run_makeP {pins : List (Addr × Obj)} {σ : L2.St} {H : Hp} {s : Shared} {Q : VK} (hm : PySem.W.makesIn X.K C = true) (hi : PySem.W.findIn X.K (.ref C) "__init__" = some (some (.builtin "object.__init__"))) (I : Inv X pins σ H s)
  (h : ∀ x dx, H x = none -> H dx = none -> dx ≠ x -> Q (.ref x) (upd (upd H dx (.own x)) x (.ins C dx []))) : wpAny (model X.prog X.w) X.A (call (.ref C) []) (EP X pins σ Q) X.xe s := by
 have hq := h (s.heap.objs.size + 1) s.heap.objs.size (I.hok.fresh (Nat.le_succ _)) (I.hok.fresh (Nat.le_refl _)) (Nat.ne_of_lt (Nat.lt_succ_self _))
 have I2 := Inv.made (C := C) I
 refine wpAny_call ?_
 have X' := I.kIn
 obtain ⟨hh, g, d, t, os⟩ := s
 have Y := PySem.W.makes_of (M := model X.prog X.w) X' hm
 refine PySem.W.make_core Y (PySem.W.looks_findIn X' hi) (fun self => PySem.W.Looks.of_pure (PySem.W.oi_bind self)) (.inr ⟨rfl, rfl⟩) ?_
 have gx : ((hh.push PySem.W.emptyDict).push (PySem.W.instObj C hh.objs.size)).get? (hh.objs.size + 1) = some (PySem.W.instObj C hh.objs.size) := by
  have := Heap.get?_push_size (hh.push PySem.W.emptyDict) (o := PySem.W.instObj C hh.objs.size) rfl
  rwa [Heap.size_push] at this
 have t1 : PySem.W.Looks (model X.prog X.w) ((hh.push PySem.W.emptyDict).push (PySem.W.instObj C hh.objs.size)) (typeOf (.ref (hh.objs.size + 1))) (.ref C) := (PySem.W.Looks.ld gx).andThen .now
 have t2 : PySem.W.Looks (model X.prog X.w) ((hh.push PySem.W.emptyDict).push (PySem.W.instObj C hh.objs.size)) (isInstance (.ref (hh.objs.size + 1)) (.type "object")) true := t1.andThen (Y.top.keeps fun b o e => Heap.get?_push_of_some _ (Heap.get?_push_of_some _ e))
 refine codeAny_call_builtin PySem.W.oi_plain PySem.W.entry_oi (@PySem.W.check_slot (model X.prog X.w) _ _ _ "object.__init__" "object" "__init__" (.ref (hh.objs.size + 1)) [] [] _ PySem.W.oi_kind PySem.W.oi_split t2 (PySem.W.oi_args (.ref (hh.objs.size + 1))) ?_)
 rw [PySem.W.oi_run]
 exact wpAny_pure (And.intro rfl ⟨V.ref (hh.objs.size + 1), _, I2, rfl, hq⟩)
theorem pvd_makeP {t : Nat} (M : MkP X.K X.mg t) (hx : clsName t = x := by rfl) (hf : clsFlds t = [] := by rfl) (hg : Gl X x := by rfl) (hdb : (x == ("__debug__" : Str)) = false := by decide) :
  PVd X (.Call (.Name x p) [] [] pos) (zC (.ins t [])) := by
 obtain ⟨C, hc, hm, mk, hi, kp⟩ := M.ex
 subst hx
 refine ⟨fun σ H Q => ∀ x dx, H x = none -> H dx = none -> dx ≠ x -> Q (.ref x) (upd (upd H dx (.own x)) x (.ins C dx [])), fun pins s σ H Q I h => ?_, fun H₀ H O σ ds hd d Q o e q x dx nx ndx ne => ?_⟩
 · refine wpAny_Call_Name_kw (kK I hg hm ?_ hdb)
   exact PySem.W.callWith_K0 I.kIn kp (run_makeP mk hi I h)
 · cases e
   refine q _ _ (fun b u e => ?_) (.ins hc (fun z => ?_) qQ (by rw [hf]; rfl) .nil)
   · rw [qI (fun z => by rw [z, nx] at e; cases e), qI (fun z => by rw [z, ndx] at e; cases e)]; exact e
   · obtain ⟨u, e, _⟩ := z
     rw [nx] at e; cases e
end
end FL
namespace FL
open PySem PySem.Spec PyProof.Rows L2
section
variable {K : Frag} {H : Hp} {O : Addr -> Prop} {a : Addr} {xs ys : List V}
end
section
variable {X : Cx}
end
end FL
namespace FL
open PySem PySem.Spec PyProof.Rows L2
section
variable (X : Cx) (E : XK) (C : Addr)
def PSsAny (st : List Stmt) : Prop := ∃ t, PSs X st t
end
section
variable {X : Cx} {E : XK} {C : Addr}
theorem PSsv.any {st : List Stmt} {g : FS} (h : PSsv X st g) : PSsAny X st := let ⟨t, ht, _⟩ := h; ⟨t, ht⟩
section
variable {k j n : Nat} {R : List D -> Bool} {x : Str} {p pos : Pos} {e : Expr} {es : List Expr} {g : FA}
end
end
section
variable {X : Cx} {E : XK} {C : Addr} {t k j n : Nat} {R : List D -> Bool} {x : Str} {p pos : Pos} {e : Expr} {es : List Expr} {g : FA}
end
section
variable {X : Cx}
end
end FL
namespace FL
open PySem PySem.Spec PyProof.Rows L2
section
variable {X : Cx} {k j i : Nat} {F : Nat -> Option Ret} {x en : Str} {p pe pos : Pos}
end
end FL
namespace L2
open PySem PySem.Spec PyProof.Rows
section
variable {X : Cx}
end
end L2
namespace FL
open PySem PySem.Spec PyProof.Rows L2
section
variable {X : Cx}
end
end FL
namespace FL
open PySem PySem.Spec PyProof.Rows L2
section
variable {X : Cx}
variable (X) in
def PVe (e : Expr) (f : FE) : Prop := ∃ t, PE X e t /\ ∀ H₀ H O σ ds hd d Q, Ok X.K H₀ H O σ ds hd -> f ds = some d -> (∀ v H', Same H H' -> Rep X.K H' (Old H₀) v d -> Q v H') -> t σ H Q
variable (X) in
def PAe (es : List Expr) (f : FA) : Prop := ∃ t, PA X es t /\ ∀ H₀ H O σ ds hd l Q, Ok X.K H₀ H O σ ds hd -> f ds = some l -> (∀ vs H', Same H H' -> Reps X.K H' (Old H₀) vs l -> Q vs H') -> t σ H Q
theorem PVd.e {e : Expr} {f : FE} (h : PVd X e f) : PVe X e f := by
 obtain ⟨t, ht, hf⟩ := h
 exact ⟨t, ht, fun H₀ H O σ ds hd d Q o e q => hf H₀ H O σ ds hd d Q o e fun v H' s r => q v H' s (r.less fun a z => Old.mono o.same z)⟩
theorem pae_nil : PAe X [] qC := ⟨_, xC, fun _ H _ _ _ _ _ _ _ e q => by cases e; exact q _ H (Same.refl _) .nil⟩
theorem pae_cons {e : Expr} {es : List Expr} {f : FE} {g : FA} (ha : PVe X e f) (hr : PAe X es g) (hs : starEach (e :: es) X.env = (false, eval e X.env) :: starEach es X.env := by rfl) : PAe X (e :: es) (zG f g) := by
 obtain ⟨t, ht, hf⟩ := ha
 obtain ⟨u, hu, hg⟩ := hr
 refine ⟨_, jS ht hu hs, fun H₀ H O σ ds hd l Q o e q => ?_⟩
 unfold zG at e
 cases h : f ds with
 | none => rw [h] at e; cases e
 | some x =>
   cases h2 : g ds with
   | none => rw [h, h2] at e; cases e
   | some r =>
     rw [h, h2] at e
     cases e
     refine hf H₀ H O σ ds hd x _ o h fun v H1 s1 r1 => ?_
     refine hg H₀ H1 O σ ds hd r _ (o.mono s1) h2 fun vs H2 s2 r2 => ?_
     exact q _ H2 (s1.trans s2) (.cons (r1.mono s2) r2)
theorem pve_tup {es : List Expr} {x1} {pos : Pos} {g : FA} (h : PAe X es g) : PVe X (.Tuple es x1 pos) (mkT (qU g)) := by
 obtain ⟨t, ht, hf⟩ := h
 refine ⟨_, pe_tup ht, fun H₀ H O σ ds hd d Q o e q => ?_⟩
 unfold mkT qU at e
 cases h : g ds with
 | none => rw [h] at e; cases e
 | some l' =>
   rw [h] at e
   simp only [Option.bind_some] at e
   split at e
   · rename_i hl
     cases e
     refine hf H₀ H O σ ds hd l' _ o h fun vs H1 s1 r1 => ⟨by rw [r1.length]; exact hl, fun p hp => ?_⟩
     refine q _ _ (s1.trans (qT hp _)) ?_
     exact .tup (not_old ((o.same.trans s1).free hp)) (.inl qQ) (r1.mono (qT hp _))
   · cases e
theorem psv_retE {e : Expr} {pos : Pos} {f : FE} (he : PVe X e f) : PSv X (.Return (some e) pos) (retDG f) := by
 obtain ⟨t, ht, hg⟩ := he
 refine ⟨_, ps_ret ht, fun H₀ H O σ ds hd out E o e h => ?_⟩
 unfold retDG at e
 cases h1 : f ds with
 | none => rw [h1] at e; cases e
 | some d =>
   rw [h1] at e
   cases e
   exact hg H₀ H O σ ds hd d _ o h1 fun v H' s r => h _ _ (o.same.trans s) r True.intro
end
end FL
namespace L2
open PySem PySem.Spec PyProof.Rows
section
variable {X : Cx}
end
end L2
namespace FL
open PySem PySem.Spec PyProof.Rows L2
section
variable {X : Cx}
end
end FL
namespace L2
open PySem PySem.Spec PyProof.Rows
section
variable {prog : Program} {w : World} {A : Around} {E : Value -> Shared -> Prop} {s : Shared}
end
section
variable {X : Cx}
end
end L2
namespace FL
open PySem PySem.Spec PyProof.Rows L2
section
variable {X : Cx}
end
end FL
namespace FL
open PySem PySem.Spec PyProof.Rows L2
open PySem.W (tabIn CodeHd tabObj kla_eval kla_makeFunction kla_makeFunctionHit kla_obj kla_fn kla_callFunE kla_codeExpr FnAt callWith_F envX)
section
variable {X : Cx}
end
section
variable {X : Cx} {pins : List (Addr × Obj)} {σ : L2.St} {H H' : Hp} {s s' : Shared} {cs : List Addr}
end
section
variable {K : Frag} {H : Hp} {O : Addr -> Prop} {cs : List Addr}
end
section
variable {X : Cx}
end
end FL
namespace FL
open PySem PySem.Spec PyProof.Rows L2
open PySem.W (tabIn CodeHd tabObj kla_callFunE kla_codeExpr FnAt callWith_F envX)
section
variable {X : Cx}
section
variable {k j' n m j : Nat} {F : List D -> Option Ret} {x y : Str} {p pos : Pos} {e : Expr} {es : List Expr} {g : FA} {is : List Nat} {t : LamT} {st : Stmt} {f c P : Addr}
end
end
theorem ClosOk.length {H : Hp} {O : Addr -> Prop} : ∀ {cl : List (Str × Addr)} {xs : List V}, ClosOk H O cl xs -> cl.length = xs.length
 | _, _, .nil => rfl
 | _, _, .cons no h d r t => by simp [t.length]
section
variable {X : Cx} {k j i : Nat} {Φ : Fun2} {x : Str} {p pos : Pos} {e : Expr} {es : List Expr} {g : FA}
end
end FL
namespace FL
open PySem PySem.Spec PyProof.Rows L2
theorem Reps.pick {K : Frag} {H : Hp} {O : Addr -> Prop} {xs : List V} {ds : List D} (r : Reps K H O xs ds) : ∀ ix : List Nat, Reps K H O (ix.filterMap (xs[·]?)) (ix.filterMap (ds[·]?))
 | [] => .nil
 | i :: ix => by
   have ih := r.pick ix
   rw [List.filterMap_cons, List.filterMap_cons]
   cases hd : ds[i]? with
   | none =>
     have : xs[i]? = none := by
      rw [List.getElem?_eq_none_iff] at hd ⊢
      rw [r.length]; exact hd
     rw [this]
     exact ih
   | some d =>
     obtain ⟨v, h1, h2⟩ := r.get hd
     rw [h1]
     exact .cons h2 ih
theorem vals_pick {xs : List V} {us : List Value} (r : Vals xs us) : ∀ ix : List Nat, Vals (ix.filterMap (xs[·]?)) (ix.filterMap (us[·]?))
 | [] => .nil
 | i :: ix => by
   have ih := vals_pick r ix
   rw [List.filterMap_cons, List.filterMap_cons]
   cases hd : xs[i]? with
   | none =>
     have : us[i]? = none := by
      rw [List.getElem?_eq_none_iff] at hd ⊢
      rw [<- r.length]; exact hd
     rw [this]
     exact ih
   | some v =>
     obtain ⟨u, h1, h2⟩ := r.get hd
     rw [h1]
     exact .cons h2 ih
theorem slicePick_pick (its : List Value) (lo hi : Option Int) (c : Int) : slicePick its.toArray lo hi (some c) = (wC its lo hi c).toArray := by
 unfold slicePick wC
 simp
section
variable {X : Cx}
theorem pe_step {e : Expr} {lo hi : Option Expr} {te : TE} {tl th : TO} {c : Int} {j : Nat} {cp p2 pos : Pos} (he : PE X e te) (hl : PO X lo tl) (hu : PO X hi th) (hc : c ≠ 0) :
  PE X (.Subscript e (.Slice lo hi (some (.Constant (.int c) j cp)) p2) pos) (fun σ H Q => te σ H fun x H1 => tl σ H1 fun l H2 => th σ H2 fun u H3 => ∃ a xs, x = .ref a /\ SqL X.K H3 a xs /\ ∀ p, H3 p = none -> Q (.ref p) (upd H3 p (.lst (wC xs l u c)))) := by
 intro pins s σ H Q I h
 refine Subscript_ (thn (he pins s σ H _ I h) fun v s1 ⟨x, H1, I1, r1, q1⟩ => ?_)
 refine wpAny_Slice (thn (hl pins s1 σ H1 _ I1 q1) fun vl s2 ⟨l, H2, I2, pl, q2⟩ => thn (hu pins s2 σ H2 _ I2 q2) fun vu s3 ⟨u, H3, I3, pu, q3⟩ => ?_)
 rw [evalPart_some]
 refine wpAny_Constant_int ?_
 obtain ⟨a, xs, rfl, hx, q⟩ := q3
 cases r1
 generalize hct : Value.int c s3.toks = vc
 have pc : IsPart vc (some c) := by rw [<- hct]; exact .int c _
 have I4 : Inv X pins σ H3 { s3 with heap := s3.heap.push { cls := .type "slice", data := .fields #[vl, vu, vc] }, toks := s3.toks + 1 } := I3.kept (t' := s3.toks + 1) fun b ob q => Heap.get?_push_of_some _ q
 obtain ⟨its, r, ht, hz⟩ := I4.list hx
 have hlen := r.length
 have hg : wpAny (model X.prog X.w) X.A (getItem (.ref a) (.ref s3.heap.objs.size)) (EP X pins σ Q) X.xe { s3 with heap := s3.heap.push { cls := .type "slice", data := .fields #[vl, vu, vc] }, toks := s3.toks + 1 } := by
  refine wpAny_getItem_list_slice ht.isList (Heap.IsSliceOf.new ..) pl pu pc (fun z => hc (Option.some.inj z)) ?_ (by rw [List.size_toArray]; omega)
  have hsl := slicePick_size_le its.toArray l u (some c)
  rw [slicePick_pick] at hsl ⊢
  refine ⟨.ref _, _, I4.laid (t' := s3.toks + 1) (o := .lst (wC xs l u c)) (fun b ob q => Heap.get?_push_of_some _ q) (Nat.le_refl _) ?_, rfl, q _ (I4.hok.fresh (Nat.le_refl _))⟩
  have rp : Vals (wC xs l u c) (wC its l u c) := by
   unfold wC
   rw [hlen]
   exact vals_pick r _
  refine ⟨?_, _, 0, rp, Heap.get?_push_size _ rfl⟩
  rw [rp.length]
  simp only [List.size_toArray] at hsl
  omega
 show wpAny (model X.prog X.w) X.A (subscriptTail e (.Slice lo hi (some (.Constant (.int c) j cp)) p2) (.ref a) (.ref s3.heap.objs.size)) (EP X pins σ Q) X.xe _
 exact tail_any (ops := [.ref a, .ref s3.heap.objs.size]) ht.isList.typeIs slot_list_getitem.lookup hg (by with_unfolding_all rfl)
theorem pvf_step {e : Expr} {lo hi : Option Expr} {f : FE} {gl gh : List Sl -> Option (Option Int)} {c : Int} {j : Nat} {cp p2 pos : Pos} (he : PVw X e f) (hl : POv X lo gl) (hh : POv X hi gh) (hc : c ≠ 0 := by decide) :
  PVf X (.Subscript e (.Slice lo hi (some (.Constant (.int c) j cp)) p2) pos) (stpA f gl gh c) := by
 obtain ⟨te, pe, he⟩ := he
 obtain ⟨tl, pl, hl⟩ := hl
 obtain ⟨th, ph, hh⟩ := hh
 refine ⟨_, pe_step pe pl ph hc, fun H₀ H O σ ds hd l Q o e q => ?_⟩
 unfold stpA at e
 cases h1 : f ds with
 | none => rw [h1] at e; cases e
 | some d =>
   cases h2 : gl ds with
   | none => rw [h1, h2] at e; cases e
   | some a =>
     cases h3 : gh ds with
     | none => rw [h1, h2, h3] at e; cases e
     | some b =>
       rw [h1, h2, h3] at e
       simp only [Option.bind_some] at e
       cases d <;> first | (cases e; done) | skip
       rename_i l0
       cases e
       refine he H₀ H O σ ds hd _ _ o h1 fun v H1 s1 r1 => ?_
       refine hl H₀ H1 O σ ds hd _ _ (o.mono s1) h2 fun H2 s2 => ?_
       refine hh H₀ H2 O σ ds hd _ _ ((o.mono s1).mono s2) h3 fun H3 s3 => ?_
       obtain ⟨a1, xs, rfl, hq, rs⟩ := ((r1.mono s2).mono s3).seqL
       refine ⟨a1, xs, rfl, hq, fun p hp => ?_⟩
       have ss := (s1.trans s2).trans s3
       refine q p _ _ (ss.trans (qT hp _)) (ss.free hp) qQ ?_
       have rp : Reps X.K H3 O (wC xs a b c) (wC l0 a b c) := by
        unfold wC
        rw [rs.length]
        exact rs.pick _
       exact (rp.more hp).mono (qT hp _)
end
end FL
namespace FL
open PySem PySem.Spec PyProof.Rows L2
open PySem.W (tabIn CodeHd tabObj makeFunction_K makeFunction_hit fnMade fnX nestDef_K kla_callFunE envX)
section
variable {X : Cx} {pins : List (Addr × Obj)} {σ : L2.St} {H : Hp} {s : Shared}
end
section
variable {X : Cx}
end
section
variable {X : Cx} {pins : List (Addr × Obj)} {σ : L2.St} {H : Hp} {s : Shared} {cs : List Addr}
end
section
variable {X : Cx}
end
end FL
namespace FL
open PySem PySem.Spec PyProof.Rows L2
section
variable {X : Cx} {tg : Expr}
end
section
variable {X : Cx}
end
end FL
namespace FL
open PySem PySem.Spec PyProof.Rows L2
open PySem.W (tabIn CodeHd)
section
variable {X : Cx}
end
section
variable {X : Cx} {E : XK} {C : Addr}
end
section
variable {X : Cx} {k j : Nat} {n : Nat} {F : List D -> Option Ret} {x : Str} {p pos : Pos} {e : Expr} {es : List Expr} {g : FA}
theorem pvd_callC (C : Cal X.prog X.w X.K X.mg X.base x k n F) (hr : Room j X.A) (ha : PAn X (e :: es) g) (hj : k <= j := by decide)
  (hg : Gl X x := by rfl) (hdb : (x == ("__debug__" : Str)) = false := by decide) (he : starEach (e :: es) X.env = (false, eval e X.env) :: starEach es X.env := by rfl) (hpl : (backTo pos (starEach es X.env)).any (·.1) = false := by rfl) :
  PVd X (.Call (.Name x p) (e :: es) [] pos) (qO n F g) := by
 obtain ⟨f, fd, ps, Fn, hb, hk, hm⟩ := C.ex
 obtain ⟨t, ht, hf⟩ := ha
 refine ⟨_, pe_call (CX := CX0) (E := E0) Fn (hr.mono hj) hg hm hk hb .nil pass0 ht hdb he hpl, fun H₀ H O σ ds hd d Q o e q => ?_⟩
 unfold qO at e
 cases h : g ds with
 | none => rw [h] at e; cases e
 | some l =>
   rw [h] at e
   simp only [Option.bind_some] at e
   split at e
   · rename_i hln
     cases h2 : F l with
     | none => rw [h2] at e; cases e
     | some r =>
       rw [h2] at e
       simp only [Option.bind_some] at e
       refine hf H₀ H O σ ds hd l _ o h fun vs H1 s1 r1 => ?_
       have hl := r1.length
       refine ⟨by simp only [List.append_nil]; omega, l, r, by simpa using r1, h2, fun v H' s' ro => q v H' (s1.trans s') ?_⟩
       exact retV_ok ro e fun a ha => Old.mono s1 ha
   · cases e
end
end FL
namespace FL
open PySem PySem.Spec PyProof.Rows L2
section
variable {M : Model} {A : Around} {E : Value -> Shared -> Prop} {s : Shared} {base : Heap} {l : List Env} {e L : Addr} {cls a0 : Value}
end
section
variable {X : Cx} {E : XK} {C : Addr}
end
section
variable {X : Cx} {E : XK} {C : Addr}
end
end FL
namespace L2
open PySem PySem.Spec PyProof.Rows
section
variable {X : Cx}
end
end L2
namespace FL
open PySem PySem.Spec PyProof.Rows L2
section
variable {X : Cx} {E : XK} {C : Addr}
end
section
variable {X : Cx}
end
end FL
namespace L2
open PySem PySem.Spec PyProof.Rows
open Builtin Builtin.Str
section
variable {X : Cx}
def rTxt (F : Str -> Str -> V) : V -> List V -> Hp -> VK -> Prop := fun x vs H Q => ∃ a b, x = .str a /\ vs = [.str b] /\ Q (F a b) H
theorem mt_startswith : MtR X "str.startswith" (rTxt fun a b => .bl (Txt.startswith a b)) := by
 intro pins s σ H x vs v us Q I rx rv h
 obtain ⟨a, b, rfl, rfl, q⟩ := h
 obtain ⟨tk, rfl⟩ := (show ∃ tk, v = Value.str a tk from rx)
 obtain ⟨u, rfl, ru⟩ := rv.one
 obtain ⟨tk2, rfl⟩ := (show ∃ tk, u = Value.str b tk from ru)
 exact SC.startswith ⟨.bl _, H, I, rfl, q⟩
theorem mt_endswith : MtR X "str.endswith" (rTxt fun a b => .bl (Txt.endswith a b)) := by
 intro pins s σ H x vs v us Q I rx rv h
 obtain ⟨a, b, rfl, rfl, q⟩ := h
 obtain ⟨tk, rfl⟩ := (show ∃ tk, v = Value.str a tk from rx)
 obtain ⟨u, rfl, ru⟩ := rv.one
 obtain ⟨tk2, rfl⟩ := (show ∃ tk, u = Value.str b tk from ru)
 exact SC.endswith ⟨.bl _, H, I, rfl, q⟩
theorem split1P {prog : Program} {w : World} {A : Around} {E : Value -> Shared -> Prop} {s : Shared} {x y : Str} {t u : Tok} {Q : Value -> Shared -> Prop} (hy : (y.length == 0) = false)
  (hq : ∀ l k, l.map (·.1) = Txt.split x y -> Q (.ref s.heap.objs.size) { s with heap := s.heap.push { cls := .type "list", data := .seq (strValues l).toArray }, toks := k })
  (hsz : x.length + 2 <= sizeLine) : wpAny (model prog w) A (call (.builtin "str.split") [.str x t, .str y u]) Q E s := by
 have hsz2 : (partsBetween x (occurrences x y 0 x.length (x.length + 1)) y.length).length <= sizeLine := by
  have e1 := StrLaws.occ_length_le x y 0 x.length (x.length + 1)
  rw [length_partsBetween]; omega
 cases h1 : (decide (x.length < y.length) || decide (strKind x < strKind y))
 · cases hf : (occurrences x y 0 x.length (x.length + 1)).isEmpty
   · refine call_meets F.slot_str_split (typeIs_str _ _ _) F.entry_str_split (F.args_str_split_2 _ _) (meets_str_split_sep x y t u h1 hy hf (by omega) hsz2) ?_
     show wants Q E _ { s with toks := _, heap := s.heap.push { cls := .type "list", data := .seq (strsFrom s.toks (partsBetween x (occurrences x y 0 x.length (x.length + 1)) y.length)).toArray } }
     rw [strsFrom_eq]
     exact hq (numbered s.toks _) _ ((numbered_texts _ _).trans ((if_neg (ne_true_of_eq_false h1)).trans (if_neg (ne_true_of_eq_false hf))).symm)
   · exact call_meets F.slot_str_split (typeIs_str _ _ _) F.entry_str_split (F.args_str_split_2 _ _) (meets_str_split_not_found x y t u h1 hy hf)
      (hq [(x, t)] s.toks ((if_neg (ne_true_of_eq_false h1)).trans (if_pos hf)).symm)
 · exact call_meets F.slot_str_split (typeIs_str _ _ _) F.entry_str_split (F.args_str_split_2 _ _) (meets_str_split_cannot_occur x y t u h1)
    (hq [(x, t)] s.toks (if_pos h1).symm)
theorem vals_strs : ∀ (l : List (Str × Tok)), Vals ((l.map (·.1)).map V.str) (strValues l)
 | [] => .nil
 | (a, t) :: l => .cons ⟨t, rfl⟩ (vals_strs l)
theorem split_len (x y : Str) : (Txt.split x y).length <= x.length + 2 := by
 unfold Txt.split
 have e1 := StrLaws.occ_length_le x y 0 x.length (x.length + 1)
 split
 · simp
 · split
   · simp
   · rw [length_partsBetween]; omega
def rSplit : V -> List V -> Hp -> VK -> Prop := fun x vs H Q => ∃ a b, x = .str a /\ vs = [.str b] /\ (b.length == 0) = false /\ a.length + 2 <= sizeLine /\ ∀ p, H p = none -> Q (.ref p) (upd H p (.lst ((Txt.split a b).map V.str)))
theorem mt_split : MtR X "str.split" rSplit := by
 intro pins s σ H x vs v us Q I rx rv h
 obtain ⟨a, b, rfl, rfl, hb, hz, q⟩ := h
 obtain ⟨tk, rfl⟩ := (show ∃ tk, v = Value.str a tk from rx)
 obtain ⟨u, rfl, ru⟩ := rv.one
 obtain ⟨tk2, rfl⟩ := (show ∃ tk, u = Value.str b tk from ru)
 refine split1P hb (fun l k e => ?_) hz
 have hv := vals_strs l
 rw [e] at hv
 have := split_len a b
 exact ⟨.ref _, _, I.lnew (t' := k) hv (by rw [List.length_map]; omega), rfl, q _ I.fresh⟩
theorem call_intT : CallR X (.type "int") (fun xs H Q => (∃ x n, xs = [.str x] /\ x.length <= 640 /\ PySem.intText? x = some n /\ Q (.int n) H) \/ (∃ i, xs = [.int i] /\ Q (.int i) H) \/ ∃ k, xs = [.bl k] /\ Q (.int (if k then 1 else 0)) H) := by
 intro pins s σ H xs us Q I r h
 rcases h with ⟨x, n, rfl, hl, hn, q⟩ | h
 · obtain ⟨u, rfl, t, rfl⟩ := vals1 r
   exact PySem.W.KIN.call_text hn hl ⟨.int n, H, I.tok _, ⟨_, rfl⟩, q⟩
 · exact call_int1 pins s σ H xs us Q I r h
def rSlS : V -> Option Int -> Option Int -> Hp -> VK -> Prop := fun x lo hi H Q => ∃ a, x = .str a /\ a.length <= sizeLine /\ Q (.str (Txt.slice a lo hi)) H
theorem sl_str : SlR X rSlS := by
 intro pins s σ H x v vl vu lo hi sl Q I rx hs pl pu h
 obtain ⟨a, rfl, hz, q⟩ := h
 obtain ⟨tk, rfl⟩ := (show ∃ tk, v = Value.str a tk from rx)
 obtain ⟨o, ho, hc, hd⟩ := hs
 have fin : ∀ (l u : Option (Int × Tok)), partValue l = vl -> partValue u = vu -> l.map (·.1) = lo -> u.map (·.1) = hi -> wpAny (model X.prog X.w) X.A (getItem (.str a tk) (.ref sl)) (EP X pins σ Q) X.xe s := by
  intro l u e1 e2 e3 e4
  refine wpAny_getItem_str_slice (l := l) (u := u) (st := none) ⟨o, ho, hc, by rw [hd, e1, e2]; rfl⟩ rfl ?_
  subst e3 e4
  exact post_val_or_str ⟨Nat.le_trans (Txt.slice_le a _ _) hz, fun t' k => ⟨.str _, H, I.tok _, ⟨_, rfl⟩, q⟩⟩
 refine ⟨"str", _, F.slot_str_getitem.lookup, typeIs_str _ _ _, ?_⟩
 cases pl with
 | none =>
   cases pu with
   | none => exact fin none none rfl rfl rfl rfl
   | int j t2 => exact fin none (some (j, t2)) rfl rfl rfl rfl
 | int i t1 =>
   cases pu with
   | none => exact fin (some (i, t1)) none rfl rfl rfl rfl
   | int j t2 => exact fin (some (i, t1)) (some (j, t2)) rfl rfl rfl rfl
end
end L2
namespace FL
open PySem PySem.Spec PyProof.Rows L2
section
variable {X : Cx}
section
variable {o e : Expr} {apos cpos : Pos} {f g : FE} {name : Str} {id : String}
theorem pv_txt {F : Str -> Str -> V} {G : D -> D -> Option D} (slot : Slot "str" name id) (hty : typeOf (.builtin id) = pure (.type "method_descriptor")) (hm : MtR X id (rTxt F)) (hG : ∀ dx dy d, G dx dy = some d -> ∃ a b, dx = .str a /\ dy = .str b /\ ∀ H O, Rep X.K H O (F a b) d)
  (ho : PVw X o f) (he : PVw X e g)
  (hbase : attributeBase o name X.env (eval o X.env) = eval o X.env := by rfl)
  (hfew : ((backTo cpos (starEach [e] X.env)).all (fun x => !x.1) && (backToKw cpos (keywordEach [] X.env)).all (fun x => x.1.isSome)
    && decide ([e].length + ([] : List Keyword).length + (if ([] : List Keyword).isEmpty then 0 else 1) < 30)) = true := by rfl)
  (hline : (apos.endLine == cpos.line) = true := by rfl) (hs : starEach [e] X.env = (false, eval e X.env) :: starEach [] X.env := by rfl) :
  PV X (.Call (.Attribute o name apos) [e] [] cpos) (zK G f g) := by
 obtain ⟨to, po, ho⟩ := ho
 obtain ⟨te, pe, he⟩ := he
 refine ⟨_, pe_bm PySem.F.plainAttrs_str slot hty hm po (jS pe xC hs) hbase hfew hline hs rfl, fun H₀ H O σ ds hd d Q o e q => ?_⟩
 unfold zK at e
 cases h1 : f ds with
 | none => rw [h1] at e; cases e
 | some dx =>
   cases h2 : g ds with
   | none => rw [h1, h2] at e; cases e
   | some dy =>
     rw [h1, h2] at e
     simp only [Option.bind_some] at e
     obtain ⟨a, b, rfl, rfl, rr⟩ := hG dx dy d e
     refine ho H₀ H O σ ds hd _ _ o h1 fun x H1 s1 r1 => ?_
     rw [r1.str']
     refine ⟨rfl, ?_⟩
     refine he H₀ H1 O σ ds hd _ _ (o.mono s1) h2 fun y H2 s2 r2 => ?_
     rw [r2.str']
     exact ⟨a, b, rfl, rfl, q _ H2 (s1.trans s2) (rr H2 O)⟩
theorem pv_stw (ho : PVw X o f) (he : PVw X e g)
  (hbase : attributeBase o "startswith" X.env (eval o X.env) = eval o X.env := by rfl)
  (hfew : ((backTo cpos (starEach [e] X.env)).all (fun x => !x.1) && (backToKw cpos (keywordEach [] X.env)).all (fun x => x.1.isSome)
    && decide ([e].length + ([] : List Keyword).length + (if ([] : List Keyword).isEmpty then 0 else 1) < 30)) = true := by rfl)
  (hline : (apos.endLine == cpos.line) = true := by rfl) (hs : starEach [e] X.env = (false, eval e X.env) :: starEach [] X.env := by rfl) :
  PV X (.Call (.Attribute o "startswith" apos) [e] [] cpos) (zK stwD f g) :=
 pv_txt PySem.F.slot_str_startswith PySem.F.type_str_startswith mt_startswith (fun dx dy d e => by cases dx <;> cases dy <;> simp [stwD] at e; subst e; exact ⟨_, _, rfl, rfl, fun H O => .bl _⟩) ho he hbase hfew hline hs
theorem pv_enw (ho : PVw X o f) (he : PVw X e g)
  (hbase : attributeBase o "endswith" X.env (eval o X.env) = eval o X.env := by rfl)
  (hfew : ((backTo cpos (starEach [e] X.env)).all (fun x => !x.1) && (backToKw cpos (keywordEach [] X.env)).all (fun x => x.1.isSome)
    && decide ([e].length + ([] : List Keyword).length + (if ([] : List Keyword).isEmpty then 0 else 1) < 30)) = true := by rfl)
  (hline : (apos.endLine == cpos.line) = true := by rfl) (hs : starEach [e] X.env = (false, eval e X.env) :: starEach [] X.env := by rfl) :
  PV X (.Call (.Attribute o "endswith" apos) [e] [] cpos) (zK enwD f g) :=
 pv_txt PySem.F.slot_str_endswith PySem.F.type_str_endswith mt_endswith (fun dx dy d e => by cases dx <;> cases dy <;> simp [enwD] at e; subst e; exact ⟨_, _, rfl, rfl, fun H O => .bl _⟩) ho he hbase hfew hline hs
theorem reps_strs {K : Frag} {H : Hp} {O : Addr -> Prop} : ∀ (l : List Str), Reps K H O (l.map V.str) (l.map D.str)
 | [] => .nil
 | a :: l => .cons (.str a) (reps_strs l)
theorem xQ (ho : PVw X o f) (he : PVw X e g)
  (hbase : attributeBase o "split" X.env (eval o X.env) = eval o X.env := by rfl)
  (hfew : ((backTo cpos (starEach [e] X.env)).all (fun x => !x.1) && (backToKw cpos (keywordEach [] X.env)).all (fun x => x.1.isSome)
    && decide ([e].length + ([] : List Keyword).length + (if ([] : List Keyword).isEmpty then 0 else 1) < 30)) = true := by rfl)
  (hline : (apos.endLine == cpos.line) = true := by rfl) (hs : starEach [e] X.env = (false, eval e X.env) :: starEach [] X.env := by rfl) :
  PVf X (.Call (.Attribute o "split" apos) [e] [] cpos) (splA f g) := by
 obtain ⟨to, po, ho⟩ := ho
 obtain ⟨te, pe, he⟩ := he
 refine ⟨_, pe_bm PySem.F.plainAttrs_str PySem.F.slot_str_split PySem.F.type_str_split mt_split po (jS pe xC hs) hbase hfew hline hs rfl, fun H₀ H O σ ds hd l Q o e q => ?_⟩
 unfold splA at e
 cases h1 : f ds with
 | none => rw [h1] at e; cases e
 | some dx =>
   cases h2 : g ds with
   | none => rw [h1, h2] at e; cases e
   | some dy =>
     rw [h1, h2] at e
     simp only [Option.bind_some] at e
     cases dx <;> cases dy <;> first | (cases e; done) | skip
     rename_i a b
     simp only at e
     split at e
     · rename_i hc
       cases e
       refine ho H₀ H O σ ds hd _ _ o h1 fun x H1 s1 r1 => ?_
       rw [r1.str']
       refine ⟨rfl, ?_⟩
       refine he H₀ H1 O σ ds hd _ _ (o.mono s1) h2 fun y H2 s2 r2 => ?_
       rw [r2.str']
       refine ⟨a, b, rfl, rfl, hc.1, hc.2, fun p hp => ?_⟩
       exact q p _ _ ((s1.trans s2).trans (qT hp _)) ((s1.trans s2).free hp) qQ (reps_strs _)
     · cases e
end
theorem yR {p pos : Pos} {e : Expr} {g : FA} (hm : X.mg "str" = none) (ha : PAv X [e] g) (hg : Gl X "str" := by rfl) (he : starEach [e] X.env = [(false, eval e X.env)] := by rfl) : PV X (.Call (.Name "str" p) [e] [] pos) (callB strD g) := by
 obtain ⟨t, ht, hf⟩ := ha
 refine ⟨_, vL call_str_int hg hm (by decide +kernel) ht (by decide) (by decide) he rfl, fun H₀ H O σ ds hd d Q o e q => ?_⟩
 unfold callB at e
 cases h : g ds with
 | none => rw [h] at e; cases e
 | some l =>
   rw [h] at e
   simp only [Option.bind_some] at e
   refine hf H₀ H O σ ds hd l _ o h fun vs H1 s1 r1 => ?_
   match l, r1, e with
   | [.int i], .cons r .nil, e =>
     simp only [strD] at e
     split at e
     · rename_i hc
       cases e
       exact ⟨i, by rw [r.int'], hc, q _ H1 s1 (.str _)⟩
     · cases e
theorem pv_intT {p pos : Pos} {e : Expr} {g : FA} (hm : X.mg "int" = none) (ha : PAv X [e] g) (hg : Gl X "int" := by rfl) (he : starEach [e] X.env = [(false, eval e X.env)] := by rfl) : PV X (.Call (.Name "int" p) [e] [] pos) (callB intTD g) := by
 obtain ⟨t, ht, hf⟩ := ha
 refine ⟨_, vL call_intT hg hm (by decide +kernel) ht (by decide) (by decide) he rfl, fun H₀ H O σ ds hd d Q o e q => ?_⟩
 unfold callB at e
 cases h : g ds with
 | none => rw [h] at e; cases e
 | some l =>
   rw [h] at e
   simp only [Option.bind_some] at e
   refine hf H₀ H O σ ds hd l _ o h fun vs H1 s1 r1 => ?_
   match l, r1, e with
   | [.str x], .cons r .nil, e =>
     simp only [intTD] at e
     split at e
     · rename_i hc
       cases hn : intText? x with
       | none => rw [hn] at e; cases e
       | some n =>
         rw [hn] at e
         cases e
         exact .inl ⟨x, n, by rw [r.str'], hc, hn, q _ H1 s1 (.int _)⟩
     · cases e
   | [.int i], .cons r .nil, e =>
     cases e
     exact .inr (.inl ⟨i, by rw [r.int'], q _ H1 s1 (.int _)⟩)
   | [.bl b], .cons r .nil, e =>
     cases e
     exact .inr (.inr ⟨b, by rw [r.bl'], q _ H1 s1 (.int _)⟩)
theorem pv_sls {e : Expr} {lo hi : Option Expr} {f : FE} {gl gh : List Sl -> Option (Option Int)} {p2 pos : Pos} (he : PVw X e f) (hl : POv X lo gl) (hh : POv X hi gh) : PV X (.Subscript e (.Slice lo hi none p2) pos) (slsS f gl gh) := by
 obtain ⟨te, pe, he⟩ := he
 obtain ⟨tl, pl, hl⟩ := hl
 obtain ⟨th, ph, hh⟩ := hh
 refine ⟨_, pe_slice sl_str pe pl ph, fun H₀ H O σ ds hd d' Q o e q => ?_⟩
 unfold slsS at e
 cases h1 : f ds with
 | none => rw [h1] at e; cases e
 | some d =>
   cases h2 : gl ds with
   | none => rw [h1, h2] at e; cases e
   | some a =>
     cases h3 : gh ds with
     | none => rw [h1, h2, h3] at e; cases e
     | some b =>
       rw [h1, h2, h3] at e
       simp only [Option.bind_some] at e
       cases d <;> first | (cases e; done) | skip
       simp only at e
       split at e
       · rename_i hc
         cases e
         refine he H₀ H O σ ds hd _ _ o h1 fun v H1 s1 r1 => ?_
         refine hl H₀ H1 O σ ds hd _ _ (o.mono s1) h2 fun H2 s2 => ?_
         refine hh H₀ H2 O σ ds hd _ _ ((o.mono s1).mono s2) h3 fun H3 s3 => ?_
         rw [r1.str']
         exact ⟨_, rfl, hc, q _ H3 ((s1.trans s2).trans s3) (.str _)⟩
       · cases e
end
end FL
namespace FL
open PySem PySem.Spec PyProof.Rows L2
section
variable {X : Cx} {E : XK} {C : Addr}
theorem pe_or {e : Expr} {t u : TE} (h1 : PE X e t) (h2 : PE X e u) : PE X e (fun σ H Q => t σ H Q \/ u σ H Q) := fun pins s σ H Q I h => h.elim (h1 pins s σ H Q I) (h2 pins s σ H Q I)
section
variable {x : Str} {p pos : Pos} {e : Expr} {t k j : Nat} {G : List D -> Option (List D)} {y : List Sl -> Bool}
end
end
end FL
namespace L2
open PySem PySem.Spec PyProof.Rows
section
variable {prog : Program} {w : World} {A : Around} {E : Value -> Shared -> Prop} {s : Shared}
theorem isList_sameBut {h h' : Heap} {l it : Addr} {items : Array Value} (hl : h.IsList l items) (hs : Heap.SameBut it h h') (hne : l ≠ it) : h'.IsList l items := by
 obtain ⟨o, ho, r⟩ := hl
 exact ⟨o, (hs.2 l hne).trans ho, r⟩
theorem draw_list {it l : Addr} {items : Array Value} (hne : l ≠ it) : ∀ (n i : Nat) (s : Shared) (Q : List Value -> Shared -> Prop), s.heap.IsListIter it l i -> s.heap.IsList l items -> i + n <= items.size →
  (∀ h', h'.IsListIter it l (i + n) -> Heap.SameBut it s.heap h' -> Q ((items.toList.drop i).take n) { s with heap := h' }) -> wpAny (model prog w) A (draw (.ref it) n) Q E s
 | 0, i, s, Q, hit, _, _, hQ => by
   show wpAny _ _ (pure []) Q E s
   exact wpAny_pure (by simpa using hQ s.heap hit (Heap.SameBut.refl ..))
 | n + 1, i, s, Q, hit, ht, hle, hQ => by
   have hlt : i < items.size := by omega
   show wpAny _ _ (pyNext (.ref it) >>= _) Q E s
   refine wpAny_bind (wpAny_pyNext_list_item hit ht (x := items[i]) (by simp [hlt]) fun h₁ hit₁ hs₁ => ?_)
   refine wpAny_bind (wpAny_holding (draw_list hne n (i + 1) _ _ hit₁ (isList_sameBut ht hs₁ hne) (by omega) fun h₂ hit₂ hs₂ => wpAny_pure ?_))
   have hd : items.toList.drop i = items[i] :: items.toList.drop (i + 1) := by simp [List.drop_eq_getElem_cons, hlt]
   have := hQ h₂ (by rw [show i + (n + 1) = i + 1 + n by omega]; exact hit₂) (hs₁.trans hs₂)
   rw [hd, List.take_succ_cons] at this
   exact this
theorem unpackItems_list {l : Addr} {items : Array Value} {Q : List Value -> Shared -> Prop} (hh : A.handled = none) (ht : s.heap.IsList l items)
  (hQ : ∀ h', Heap.ExtBut s.heap.objs.size s.heap h' -> Q items.toList { s with heap := h' }) : wpAny (model prog w) A (unpackItems (.ref l) items.size none) Q E s := by
 have hlt : l ≠ s.heap.objs.size := by obtain ⟨o, ho, _⟩ := ht; exact Nat.ne_of_lt (Heap.lt_size ho)
 unfold unpackItems
 refine wpAny_bind ?_
 · unfold notIterableAtAll
   refine wpAny_bind (wpAny_specialOf ht.typeIs F.slot_list_iter.lookup ?_)
   refine wpAny_pure ?_
   simp only [Bool.false_eq_true, if_false]
   refine wpAny_bind (wpAny_holding (wpAny_pyIter_list ht ?_))
   refine wpAny_bind (wpAny_holding (draw_list hlt items.size 0 _ _ ⟨_, Heap.get?_push_size _ rfl, rfl, rfl⟩ (ht.push _) (by omega) fun h₁ hit₁ hs₁ => ?_))
   have hall : List.take items.size (List.drop 0 items.toList) = items.toList := by
    rw [List.drop_zero]; exact List.take_of_length_le (by simp)
   rw [hall]
   rw [if_neg (by simp)]
   have ht₁ : h₁.IsList l items := isList_sameBut (ht.push _) hs₁ hlt
   refine wpAny_bind (wpAny_holding (wpAny_pyNext_list_end hh hit₁ ht₁ (by simp) fun h₂ he₂ => ?_))
   simp only [Option.isSome_none, Bool.false_eq_true, if_false]
   refine wpAny_pure (hQ h₂ fun b o hb e => he₂ b o hb (hs₁.extBut b o hb (Heap.get?_push_of_some _ e)))
theorem assign_Tuple_list {env : Env} {elts : List Expr} {x1} {pos : Pos} {l : Addr} {items : Array Value} {Q : Unit -> Shared -> Prop} (hh : A.handled = none) (ht : s.heap.IsList l items)
  (hn : (assignEach elts env).length = items.size) (hstar : (assignEach elts env).findIdx? (·.1) = none)
  (h : ∀ h', Heap.ExtBut s.heap.objs.size s.heap h' -> wpAny (model prog w) A (assignInOrder ((assignEach elts env).map (·.2)) items.toList) Q E { s with heap := h' }) :
  wpAny (model prog w) A (assign (.Tuple elts x1 pos) env (.ref l)) Q E s := by
 rw [arm_assign_Tuple]
 refine wpAny_bind (wpAny_standAt ?_)
 unfold unpack
 rw [hn, hstar]
 exact wpAny_bind (wpAny_holding (unpackItems_list hh ht h))
end
section
variable {X : Cx} {pos : Pos}
def gLst (K : PySem.W.Frag) (n : Nat) (t : TGs) : TG := fun v σ H Q => ∃ a xs, v = .ref a /\ SqL K H a xs /\ xs.length = n /\ t xs σ H Q
theorem pg_lst {es : List Expr} {k : Nat} {t : TGs} {n : Nat} (hc : X.calm = true) (h : PGs X es t)
  (hn : (assignEach es X.env).length = n := by rfl) (hst : (assignEach es X.env).findIdx? (·.1) = none := by rfl) : PG X (.Tuple es k pos) (gLst X.K n t) := by
 intro pins s σ H v u Q I r hw
 obtain ⟨a, xs, e1, hq, hl, hw⟩ := hw
 subst e1
 cases r
 obtain ⟨its, rv, pl, hz⟩ := I.list hq
 refine assign_Tuple_list (I.ok.hd hc) pl.isList (by simp [hn, <- hl, rv.length]) hst fun h' hx => ?_
 have I1 : Inv X pins σ H { s with heap := h' } := I.kept (t' := s.toks) fun b o e => hx b o (Nat.ne_of_lt (Heap.lt_size e)) e
 exact h pins _ σ H xs _ Q I1 (by simpa using rv) hw
end
end L2
namespace FL
open PySem PySem.Spec PyProof.Rows L2
section
variable {X : Cx}
theorem pgv_lst {es : List Expr} {k : Nat} {pos : Pos} {h : List D -> List Sl -> Option (List Sl)} {n : Nat} (hc : X.calm = true) (hh : PGsv X es h)
  (hn : (assignEach es X.env).length = n := by rfl) (hst : (assignEach es X.env).findIdx? (·.1) = none := by rfl) : PGv X (.Tuple es k pos) (lstG n h) := by
 obtain ⟨t, ht, hf⟩ := hh
 refine ⟨_, pg_lst hc ht hn hst, fun H₀ H O σ ds hd v d ds' Q o r e q => ?_⟩
 cases d with
 | lst l =>
   simp only [lstG] at e
   split at e
   · rename_i hl
     obtain ⟨a, xs, rfl, hs, rs⟩ := WRep.seqL (.inl r)
     exact ⟨a, xs, rfl, hs, by rw [rs.length]; exact hl, hf H₀ H O σ ds hd xs l ds' Q o rs e q⟩
   · cases e
 | _ => cases e
theorem pv_rel (i : Nat) {e : Expr} {f : FE} (h : PV X e f) : PV X e (relV i f) := by
 obtain ⟨t, ht, hf⟩ := h
 refine ⟨t, ht, fun H₀ H O σ ds hd d Q o e q => ?_⟩
 unfold relV at e
 have key : ∀ (O' : Addr -> Prop) (ds' : List Sl), Ok X.K H₀ H O' σ ds' hd -> relS i ds = ds' -> t σ H Q := by
  intro O' ds' o' es
  rw [es] at e
  cases h1 : f ds' with
  | none => rw [h1] at e; cases e
  | some d1 =>
    rw [h1] at e
    refine hf H₀ H O' σ ds' hd d1 Q o' h1 fun v H' s r => ?_
    cases d1 <;> first | (cases e; done) | skip
    all_goals (cases e; cases r)
    · exact q _ H' s (.bl _)
    · exact q _ H' s (.int _)
    · exact q _ H' s (.str _)
 by_cases hs : ∃ l, ds[i]? = some (.own l)
 · obtain ⟨l, hl⟩ := hs
   obtain ⟨O', o'⟩ := o.release hl
   exact key O' _ o' (by unfold relS; rw [hl])
 · exact key O ds o (by
    unfold relS
    split
    · rename_i l hl; exact (hs ⟨l, hl⟩).elim
    · rfl)
end
end FL
namespace FL
open PySem PySem.Spec PyProof.Rows L2
def oi : Option Int -> D
 | none => .non
 | some i => .int i
@[simp] theorem oi_none : oi none = .non := rfl
@[simp] theorem oi_some (i : Int) : oi (some i) = .int i := rfl
def andK (r : Option D) : D -> Option D := fun d => match d with | .bl true => r | .bl false => some (.bl false) | _ => none
def orK (r : Option D) : D -> Option D := fun d => match d with | .bl true => some (.bl true) | .bl false => r | _ => none
@[simp] theorem andK_bl (r : Option D) (b : Bool) : andK r (.bl b) = if b = true then r else some (.bl false) := by cases b <;> rfl
@[simp] theorem orK_bl (r : Option D) (b : Bool) : orK r (.bl b) = if b = true then some (.bl true) else r := by cases b <;> rfl
@[simp] theorem ite_andD (b c : Bool) : (if b = true then some (D.bl c) else some (D.bl false)) = some (.bl (b && c)) := by cases b <;> rfl
@[simp] theorem ite_orD (b c : Bool) : (if b = true then some (D.bl true) else some (D.bl c)) = some (.bl (b || c)) := by cases b <;> rfl
@[simp] theorem ite_andB (b c : Bool) : (if b = true then some c else some false) = some (b && c) := by cases b <;> rfl
@[simp] theorem ite_orB (b c : Bool) : (if b = true then some true else some c) = some (b || c) := by cases b <;> rfl
@[simp] theorem ite_andD' (p : Prop) [Decidable p] (c : Bool) : (if p then some (D.bl c) else some (D.bl false)) = some (.bl (decide p && c)) := by by_cases h : p <;> simp [h]
@[simp] theorem ite_orD' (p : Prop) [Decidable p] (c : Bool) : (if p then some (D.bl true) else some (D.bl c)) = some (.bl (decide p || c)) := by by_cases h : p <;> simp [h]
@[simp] theorem ite_andB' (p : Prop) [Decidable p] (c : Bool) : (if p then some c else some false) = some (decide p && c) := by by_cases h : p <;> simp [h]
@[simp] theorem ite_orB' (p : Prop) [Decidable p] (c : Bool) : (if p then some true else some c) = some (decide p || c) := by by_cases h : p <;> simp [h]
@[simp] theorem szl : sizeLine = 16777216 := sizeLine_eq
section
variable (ds : List Sl)
@[simp] theorem getV_eq (i : Nat) : qZ i ds = match ds[i]? with | some (.v d) => some d | _ => none := rfl
@[simp] theorem wD (i : Nat) : zL i ds = match ds[i]? with | some (.v d) => some d | some (.own l) => some (.lst l) | _ => none := rfl
@[simp] theorem xG (d : D) : zC d ds = some d := rfl
@[simp] theorem bin2_eq (op : D -> D -> Option D) (fa fb : FE) : zK op fa fb ds = (fa ds).bind fun x => (fb ds).bind fun y => op x y := rfl
@[simp] theorem un1_eq (op : D -> Option D) (f : FE) : un1 op f ds = (f ds).bind op := rfl
@[simp] theorem callB_eq (F : List D -> Option D) (g : FA) : callB F g ds = (g ds).bind F := rfl
@[simp] theorem callV_eq (n : Nat) (F : List D -> Option Ret) (g : FA) : qO n F g ds = (g ds).bind fun l => if l.length = n then (F l).bind retV else none := rfl
@[simp] theorem callF_eq (n : Nat) (F : List D -> Option Ret) (g : FA) : wO n F g ds = (g ds).bind fun l => if l.length = n then (F l).bind retF else none := rfl
@[simp] theorem retV_val (d : D) : retV (.val d) = some d := rfl
@[simp] theorem retV_fresh (l : List D) : retV (.fresh l) = some (.lst l) := rfl
@[simp] theorem retF_val (d : D) : retF (.val d) = none := rfl
@[simp] theorem retF_fresh (l : List D) : retF (.fresh l) = some l := rfl
@[simp] theorem consA_eq (f : FE) (g : FA) : zG f g ds = (f ds).bind fun x => (g ds).map fun r => x :: r := rfl
@[simp] theorem nilA_eq : qC ds = some [] := rfl
@[simp] theorem sized_eq (f : FA) : qU f ds = (f ds).bind fun l => if l.length <= sizeLine then some l else none := rfl
@[simp] theorem xU (f : FA) : mkL f ds = (f ds).map D.lst := rfl
@[simp] theorem mkT_eq (f : FA) : mkT f ds = (f ds).map D.tup := rfl
@[simp] theorem testB_eq (f : FE) : zW f ds = (f ds).bind isB := rfl
@[simp] theorem testT_eq (f : FE) : testT f ds = (f ds).bind truD := rfl
@[simp] theorem isB_bl (b : Bool) : isB (.bl b) = some b := rfl
@[simp] theorem andT_eq (c d : FT) : andT c d ds = (c ds).bind fun b => if b = true then d ds else some false := rfl
@[simp] theorem orT_eq (c d : FT) : orT c d ds = (c ds).bind fun b => if b = true then some true else d ds := rfl
@[simp] theorem notT_eq (c : FT) : notT c ds = (c ds).map not := rfl
@[simp] theorem andV_eq (f g : FE) : andV f g ds = (f ds).bind (andK (g ds)) := rfl
@[simp] theorem orV_eq (f g : FE) : orV f g ds = (f ds).bind (orK (g ds)) := rfl
@[simp] theorem notV_eq (f : FE) : notV f ds = (f ds).bind fun d => match d with | .bl b => some (.bl (!b)) | _ => none := rfl
@[simp] theorem ifV_eq (c : FT) (f g : FE) : ifV c f g ds = (c ds).bind fun b => if b = true then f ds else g ds := rfl
@[simp] theorem seqG_eq (f g : FS) : qJ f g ds = (f ds).bind fun o => match o with | .nx ds' => g ds' | o => some o := rfl
@[simp] theorem ifG_eq (c : FT) (f g : FS) : ifG c f g ds = (c ds).bind fun b => if b = true then f ds else g ds := rfl
@[simp] theorem yZ (i : Nat) (f : FE) : yI i f ds = (f ds).map fun d => .nx (ds.set i (.v d)) := rfl
@[simp] theorem setOG_eq (i : Nat) (f : FA) : setOG i f ds = (f ds).map fun l => .nx (ds.set i (.own l)) := rfl
@[simp] theorem retG_eq (f : FE) : retG f ds = (f ds).bind flatR := rfl
@[simp] theorem retOG_eq (f : FA) : retOG f ds = (f ds).bind flatF := rfl
@[simp] theorem retXG_eq (i : Nat) : retXG i ds = match ds[i]? with | some (.own l) => flatF l | _ => none := rfl
@[simp] theorem nextG_eq : qF ds = some (.nx ds) := rfl
@[simp] theorem appG_eq (i : Nat) (fe : FE) : appG i fe ds = match ds[i]? with
 | some (.own l) => (fe ds).bind fun d => if l.length < sizeLine then some (.nx (ds.set i (.own (l ++ [d])))) else none
 | _ => none := rfl
@[simp] theorem extG_eq (i : Nat) (fe : FA) : extG i fe ds = match ds[i]? with
 | some (.own l) => (fe ds).bind fun d => if l.length + d.length <= sizeLine then some (.nx (ds.set i (.own (l ++ d)))) else none
 | _ => none := rfl
@[simp] theorem putG_eq (i : Nat) (fk fe : FE) : putG i fk fe ds = match ds[i]? with
 | some (.own l) => (fe ds).bind fun d => (fk ds).bind fun k => match k with
   | .int n => (ixN l.length n).map fun j => .nx (ds.set i (.own (l.set j d)))
   | _ => none
 | _ => none := rfl
@[simp] theorem clrG_eq (i : Nat) : clrG i ds = match ds[i]? with
 | some (.own l) => some (.nx (ds.set i (.own [])))
 | _ => none := rfl
@[simp] theorem asgG_eq (ga : D -> List Sl -> Option (List Sl)) (f : FE) : asgG ga f ds = (f ds).bind fun d => (ga d ds).map .nx := rfl
@[simp] theorem relS_eq (i : Nat) : relS i ds = match ds[i]? with | some (.own l) => ds.set i (.v (.lst l)) | _ => ds := rfl
@[simp] theorem viaA_eq (f : FE) (k : D -> Option (List D)) : viaA f k ds = (f ds).bind k := rfl
@[simp] theorem asLT_lst (l : List D) : asLT (.lst l) = some l := rfl
@[simp] theorem asLT_tup (l : List D) : asLT (.tup l) = some l := rfl
@[simp] theorem catA_eq (fa fb : FE) : catA fa fb ds = (fa ds).bind fun x => (fb ds).bind fun y => match x, y with
 | .lst a, .lst b => if a.length + b.length <= sizeLine then some (a ++ b) else none
 | _, _ => none := rfl
@[simp] theorem sliA_eq (f : FE) (lo hi : List Sl -> Option (Option Int)) : sliA f lo hi ds = (f ds).bind fun d => (lo ds).bind fun a => (hi ds).bind fun b => match d with
 | .lst l => some (cutD l a b)
 | _ => none := rfl
@[simp] theorem lisA_eq (f : FE) : lisA f ds = (f ds).bind asLT := rfl
@[simp] theorem noP_eq : noP ds = some none := rfl
@[simp] theorem soP_eq (f : FE) : soP f ds = (f ds).bind fun d => match d with | .int i => some (some i) | _ => none := rfl
@[simp] theorem xW (fi : FA) (ga : D -> List Sl -> Option (List Sl)) (body : FS) : forG fi ga body ds = (fi ds).bind fun items => jD ga body items ds := rfl
@[simp] theorem nameG_eq (i : Nat) (d : D) : zT i d ds = some (ds.set i (.v d)) := rfl
@[simp] theorem tupG_eq (n : Nat) (h : List D -> List Sl -> Option (List Sl)) (l : List D) : tupG n h (.tup l) ds = if l.length = n then h l ds else none := rfl
@[simp] theorem tgCons_eq (g : D -> List Sl -> Option (List Sl)) (h : List D -> List Sl -> Option (List Sl)) (d : D) (r : List D) : zP g h (d :: r) ds = (g d ds).bind fun ds' => h r ds' := rfl
@[simp] theorem tgNil_eq : tgNil [] ds = some ds := rfl
@[simp] theorem isiG_eq (T : String) (f : FE) : isiG T f ds = (f ds).bind (isiD T) := rfl
@[simp] theorem chain_eq (op op' : D -> D -> Option D) (fa fb fc : FE) : chain op op' fa fb fc ds = (fa ds).bind fun x => (fb ds).bind fun y => (op x y).bind fun z => match z with
 | .bl true => (fc ds).bind fun w => op' y w
 | .bl false => some (.bl false)
 | _ => none := rfl
end
@[simp] theorem addD_int (i j : Int) : jT (.int i) (.int j) = some (.int (i + j)) := rfl
@[simp] theorem subD_int (i j : Int) : subD (.int i) (.int j) = some (.int (i - j)) := rfl
@[simp] theorem negD_int (i : Int) : negD (.int i) = some (.int (-i)) := rfl
@[simp] theorem ltD_int (i j : Int) : ltD (.int i) (.int j) = some (.bl (decide (i < j))) := rfl
@[simp] theorem leD_int (i j : Int) : leD (.int i) (.int j) = some (.bl (decide (i <= j))) := rfl
@[simp] theorem gtD_int (i j : Int) : gtD (.int i) (.int j) = some (.bl (decide (j < i))) := rfl
@[simp] theorem geD_int (i j : Int) : geD (.int i) (.int j) = some (.bl (decide (j <= i))) := rfl
@[simp] theorem modD_pos {j : Int} (i : Int) (h : 0 < j) : wW (.int i) (.int j) = some (.int (i % j)) := if_pos h
theorem divOk_small {j : Int} (h : 0 < j) (h2 : j < 1000000000) : divOk j := ⟨h, by
 have h3 : j.natAbs < 2 ^ 30 := by
  have : (2 : Nat) ^ 30 = 1073741824 := by decide
  omega
 have h4 : j.natAbs ≠ 0 := by omega
 have := (Nat.log2_lt h4).mpr h3
 omega⟩
@[simp] theorem fdivD_small {j : Int} (i : Int) (h : 0 < j) (h2 : j < 1000000000) : yT (.int i) (.int j) = some (.int (i / j)) := if_pos (divOk_small h h2)
theorem yX {i j : Int} (h : IntMulOk i j) : xX (.int i) (.int j) = some (.int (i * j)) := if_pos h
theorem powD_ok {i j : Int} (h : CPowB i j) : powD (.int i) (.int j) = some (.int (i ^ j.toNat)) := if_pos h
theorem cpow_of {i j : Int} {n m : Nat} (h : i.natAbs < 2 ^ n) (h0 : 0 <= j) (h1 : j <= m) (h2 : n * m <= 134217728) : CPowB i j := by
 refine ⟨h0, ?_⟩
 have hb : Builtin.Int.intBits i <= n := intBits_le_iff.mpr h
 have h3 : (Builtin.Int.intBits i : Int) * j <= (n : Int) * (m : Int) := Int.mul_le_mul (by omega) h1 h0 (by omega)
 have h4 : ((n * m : Nat) : Int) <= 134217728 := by omega
 have e : ((n * m : Nat) : Int) = (n : Int) * (m : Int) := Int.natCast_mul n m
 have e2 : (2 : Int) ^ 27 = 134217728 := by decide
 rw [e2]
 omega
@[simp] theorem pow10 {j : Int} (h0 : 0 <= j) (h1 : j <= 1000) : powD (.int 10) (.int j) = some (.int (10 ^ j.toNat)) := powD_ok (cpow_of (n := 4) (m := 1000) (by decide) h0 h1 (by decide))
@[simp] theorem mxD_int (i j : Int) : mxD [.int i, .int j] = some (.int (max i j)) := by
 show some (D.int (if j > i then j else i)) = _
 congr 2
 split <;> omega
@[simp] theorem mnD_int (i j : Int) : mnD [.int i, .int j] = some (.int (min i j)) := by
 show some (D.int (if j < i then j else i)) = _
 congr 2
 split <;> omega
@[simp] theorem lenD_lst (l : List D) : lenD [.lst l] = some (.int l.length) := rfl
@[simp] theorem lenD_tup (l : List D) : lenD [.tup l] = some (.int l.length) := rfl
@[simp] theorem isD_non : isD .non .non = some (.bl true) := rfl
@[simp] theorem isD_int (i : Int) : isD (.int i) .non = some (.bl false) := rfl
@[simp] theorem isD_bl (i : Bool) : isD (.bl i) .non = some (.bl false) := rfl
@[simp] theorem isD_tup (i : List D) : isD (.tup i) .non = some (.bl false) := rfl
@[simp] theorem isD_lst (i : List D) : isD (.lst i) .non = some (.bl false) := rfl
@[simp] theorem isD_oi (o : Option Int) : isD (oi o) .non = some (.bl o.isNone) := by cases o <;> rfl
@[simp] theorem notD_non : notD .non .non = some (.bl false) := rfl
@[simp] theorem notD_int (i : Int) : notD (.int i) .non = some (.bl true) := rfl
@[simp] theorem notD_bl (i : Bool) : notD (.bl i) .non = some (.bl true) := rfl
@[simp] theorem notD_tup (i : List D) : notD (.tup i) .non = some (.bl true) := rfl
@[simp] theorem notD_lst (i : List D) : notD (.lst i) .non = some (.bl true) := rfl
@[simp] theorem notD_oi (o : Option Int) : notD (oi o) .non = some (.bl o.isSome) := by cases o <;> rfl
@[simp] theorem truD_bl (b : Bool) : truD (.bl b) = some b := rfl
@[simp] theorem truD_non : truD .non = some false := rfl
@[simp] theorem truD_lst (l : List D) : truD (.lst l) = some (!l.isEmpty) := rfl
@[simp] theorem truD_tup (l : List D) : truD (.tup l) = some (!l.isEmpty) := rfl
theorem ixN_pos {n : Nat} {i : Int} (h : 0 <= i) (h2 : i < n) : ixN n i = some i.toNat := by
 unfold ixN
 rw [if_pos h, if_pos h2]
theorem xM (l : List D) {i : Int} (h : 0 <= i) (h2 : i < l.length) : ixD (.lst l) (.int i) = l[i.toNat]? := by
 show atI l i = _
 unfold atI
 rw [ixN_pos h h2]
 rfl
theorem vJ (l : List D) {i : Int} (h : 0 <= i) (h2 : i < l.length) : ixD (.tup l) (.int i) = l[i.toNat]? := by
 show atI l i = _
 unfold atI
 rw [ixN_pos h h2]
 rfl
@[simp] theorem ixT0 (a : D) (l : List D) : ixD (.tup (a :: l)) (.int 0) = some a := by
 rw [vJ _ (by decide) (by rw [List.length_cons]; omega)]
 rfl
@[simp] theorem ixT1 (a b : D) (l : List D) : ixD (.tup (a :: b :: l)) (.int 1) = some b := by
 rw [vJ _ (by decide) (by rw [List.length_cons, List.length_cons]; omega)]
 rfl
@[simp] theorem ixT2 (a b c : D) (l : List D) : ixD (.tup (a :: b :: c :: l)) (.int 2) = some c := by
 rw [vJ _ (by decide) (by rw [List.length_cons, List.length_cons, List.length_cons]; omega)]
 rfl
@[simp] theorem ixL0 (a : D) (l : List D) : ixD (.lst (a :: l)) (.int 0) = some a := by
 rw [xM _ (by decide) (by rw [List.length_cons]; omega)]
 rfl
@[simp] theorem ixL1 (a b : D) (l : List D) : ixD (.lst (a :: b :: l)) (.int 1) = some b := by
 rw [xM _ (by decide) (by rw [List.length_cons, List.length_cons]; omega)]
 rfl
theorem ixL_last (l : List D) (a : D) : ixD (.lst (l ++ [a])) (.int (-1)) = some a := by
 show atI (l ++ [a]) (-1) = _
 unfold atI ixN
 rw [if_neg (by decide), if_pos (by rw [List.length_append, List.length_singleton]; omega), List.length_append, List.length_singleton]
 have e : (-1 + ((l.length + 1 : Nat) : Int)).toNat = l.length := by omega
 rw [e]
 simp
@[simp] theorem flat_non : flat .non = true := by simp [flat]
@[simp] theorem flat_bl (b : Bool) : flat (.bl b) = true := by simp [flat]
@[simp] theorem flat_int (i : Int) : flat (.int i) = true := by simp [flat]
@[simp] theorem flat_str (i : Str) : flat (.str i) = true := by simp [flat]
@[simp] theorem flat_tup (l : List D) : flat (.tup l) = flats l := by simp [flat]
@[simp] theorem flats_nil : flats [] = true := by simp [flats]
@[simp] theorem flats_cons (d : D) (l : List D) : flats (d :: l) = (flat d && flats l) := by simp [flats]
@[simp] theorem flat_oi (o : Option Int) : flat (oi o) = true := by cases o <;> simp
theorem yE {d : D} (h : flat d = true) : flatR d = some (.rt (.val d)) := if_pos h
@[simp] theorem flatR_non : flatR .non = some (.rt (.val .non)) := yE (by simp)
@[simp] theorem flatR_bl (b : Bool) : flatR (.bl b) = some (.rt (.val (.bl b))) := yE (by simp)
@[simp] theorem flatR_int (i : Int) : flatR (.int i) = some (.rt (.val (.int i))) := yE (by simp)
@[simp] theorem flatR_str (i : Str) : flatR (.str i) = some (.rt (.val (.str i))) := yE (by simp)
@[simp] theorem flatR_oi (o : Option Int) : flatR (oi o) = some (.rt (.val (oi o))) := yE (by simp)
@[simp] theorem flatR_tup (l : List D) (h : flats l = true) : flatR (.tup l) = some (.rt (.val (.tup l))) := yE (by simpa using h)
@[simp] theorem flatF_of (l : List D) (h : flats l = true) : flatF l = some (.rt (.fresh l)) := if_pos h
@[simp] theorem shal_int (n : Nat) (i : Int) : shal n (.int i) = true := by simp [shal]
@[simp] theorem shal_non (n : Nat) : shal n .non = true := by simp [shal]
@[simp] theorem shal_bl (n : Nat) (b : Bool) : shal n (.bl b) = true := by simp [shal]
@[simp] theorem shal_oi (n : Nat) (o : Option Int) : shal n (oi o) = true := by cases o <;> simp
@[simp] theorem shal_tup (n : Nat) (l : List D) : shal n (.tup l) = shals n l := by simp [shal]
@[simp] theorem shal_lst (n : Nat) (l : List D) : shal n (.lst l) = shals n l := by simp [shal]
@[simp] theorem shals_nil (n : Nat) : shals n [] = true := by cases n <;> simp [shals]
@[simp] theorem shals_cons (n : Nat) (d : D) (l : List D) : shals (n + 1) (d :: l) = (shal n d && shals (n + 1) l) := by simp [shals]
theorem shals_all {n : Nat} {l : List D} (h : ∀ d ∈ l, shal n d = true) : shals (n + 1) l = true := by
 induction l with
 | nil => simp
 | cons d r ih =>
   rw [shals_cons, h d List.mem_cons_self, ih fun x hx => h x (List.mem_cons_of_mem _ hx)]
   rfl
theorem kL {x y : D} (h : shal 40 x = true) (h2 : shal 40 y = true) : eqD x y = some (.bl (eqvD x y)) := if_pos ⟨h, h2⟩
theorem vV {x y : D} (h : shal 40 x = true) (h2 : shal 40 y = true) : neD x y = some (.bl (!eqvD x y)) := if_pos ⟨h, h2⟩
@[simp] theorem eqvD_int (i j : Int) : eqvD (.int i) (.int j) = decide (i = j) := by
 show (i == j) = _
 rw [Bool.eq_iff_iff]; simp
@[simp] theorem eqvD_bl (i j : Bool) : eqvD (.bl i) (.bl j) = decide (i = j) := by
 show (i == j) = _
 rw [Bool.eq_iff_iff]; simp
@[simp] theorem eqvD_non : eqvD .non .non = true := rfl
@[simp] theorem eqvD_non_int (j : Int) : eqvD .non (.int j) = false := rfl
@[simp] theorem eqvD_int_non (j : Int) : eqvD (.int j) .non = false := rfl
@[simp] theorem eqvD_oi (o p : Option Int) : eqvD (oi o) (oi p) = decide (o = p) := by cases o <;> cases p <;> simp
@[simp] theorem eqvD_tup (a b : List D) : eqvD (.tup a) (.tup b) = eqvs a b := by simp [eqvD, eqvs, toPy, PyData.eqv]
@[simp] theorem eqvD_lst (a b : List D) : eqvD (.lst a) (.lst b) = eqvs a b := by simp [eqvD, eqvs, toPy, PyData.eqv]
@[simp] theorem eqvs_nil : eqvs [] [] = true := by simp [eqvs, toPys, PyData.eqvAll]
@[simp] theorem eqvs_cons (x y : D) (a b : List D) : eqvs (x :: a) (y :: b) = (eqvD x y && eqvs a b) := by simp [eqvs, eqvD, toPys, PyData.eqvAll]
@[simp] theorem eqvs_nil_cons (y : D) (b : List D) : eqvs [] (y :: b) = false := by simp [eqvs, toPys, PyData.eqvAll]
@[simp] theorem eqvs_cons_nil (y : D) (b : List D) : eqvs (y :: b) [] = false := by simp [eqvs, toPys, PyData.eqvAll]
@[simp] theorem eqD_int (i j : Int) : eqD (.int i) (.int j) = some (.bl (decide (i = j))) := by rw [kL (by simp) (by simp)]; simp
@[simp] theorem neD_int (i j : Int) : neD (.int i) (.int j) = some (.bl (!decide (i = j))) := by rw [vV (by simp) (by simp)]; simp
@[simp] theorem eqD_bl (i j : Bool) : eqD (.bl i) (.bl j) = some (.bl (decide (i = j))) := by rw [kL (by simp) (by simp)]; simp
@[simp] theorem neD_bl (i j : Bool) : neD (.bl i) (.bl j) = some (.bl (!decide (i = j))) := by rw [vV (by simp) (by simp)]; simp
@[simp] theorem eqD_oi (i j : Option Int) : eqD (oi i) (oi j) = some (.bl (decide (i = j))) := by rw [kL (by simp) (by simp)]; simp
@[simp] theorem neD_oi (i j : Option Int) : neD (oi i) (oi j) = some (.bl (!decide (i = j))) := by rw [vV (by simp) (by simp)]; simp
theorem flats_ints (l : List Int) : flats (l.map D.int) = true := by
 induction l with
 | nil => simp
 | cons a r ih => simp [ih]
theorem kits : kitF "int" "int" = some true /\ kitF "NoneType" "int" = some false /\ kitF "bool" "int" = some true /\ kitF "tuple" "int" = some false /\ kitF "list" "int" = some false /\ kitF "str" "int" = some false ∧
  kitF "bool" "bool" = some true /\ kitF "int" "bool" = some false /\ kitF "NoneType" "bool" = some false /\ kitF "tuple" "tuple" = some true /\ kitF "list" "tuple" = some false /\ kitF "NoneType" "tuple" = some false ∧
  kitF "list" "list" = some true /\ kitF "tuple" "list" = some false /\ kitF "NoneType" "list" = some false := by
 refine ⟨?_, ?_, ?_, ?_, ?_, ?_, ?_, ?_, ?_, ?_, ?_, ?_, ?_, ?_, ?_⟩ <;> decide +kernel
@[simp] theorem isi_int_int (i : Int) : isiD "int" (.int i) = some (.bl true) := by simp [isiD, tyD, kits.1]
@[simp] theorem isi_int_non : isiD "int" .non = some (.bl false) := by simp [isiD, tyD, kits.2.1]
@[simp] theorem isi_int_bl (b : Bool) : isiD "int" (.bl b) = some (.bl true) := by simp [isiD, tyD, kits.2.2.1]
@[simp] theorem isi_bool_bl (b : Bool) : isiD "bool" (.bl b) = some (.bl true) := by simp [isiD, tyD, kits.2.2.2.2.2.2.1]
@[simp] theorem isi_bool_int (i : Int) : isiD "bool" (.int i) = some (.bl false) := by simp [isiD, tyD, kits.2.2.2.2.2.2.2.1]
@[simp] theorem isi_bool_non : isiD "bool" .non = some (.bl false) := by simp [isiD, tyD, kits.2.2.2.2.2.2.2.2.1]
@[simp] theorem isi_tup_tup (l : List D) : isiD "tuple" (.tup l) = some (.bl true) := by simp [isiD, tyD, kits.2.2.2.2.2.2.2.2.2.1]
@[simp] theorem isi_lst_lst (l : List D) : isiD "list" (.lst l) = some (.bl true) := by simp [isiD, tyD, kits.2.2.2.2.2.2.2.2.2.2.2.2.1]
@[simp] theorem bind_ite {α β : Type} {c : Prop} [Decidable c] (a b : Option α) (f : α -> Option β) : (if c then a else b).bind f = if c then a.bind f else b.bind f := by split <;> rfl
@[simp] theorem map_ite {α β : Type} {c : Prop} [Decidable c] (a b : Option α) (f : α -> β) : (if c then a else b).map f = if c then a.map f else b.map f := by split <;> rfl
theorem kE {ga : D -> List Sl -> Option (List Sl)} {body : FS} (P : List Sl -> Prop) : ∀ (items : List D) (ds : List Sl), P ds →
  (∀ d ∈ items, ∀ ds, P ds -> ∃ ds1 ds2, ga d ds = some ds1 /\ (body ds1 = some (.nx ds2) \/ body ds1 = some (.ct ds2)) /\ P ds2) -> ∃ ds', jD ga body items ds = some (.nx ds') /\ P ds'
 | [], ds, h, _ => ⟨ds, rfl, h⟩
 | d :: r, ds, h, H => by
   obtain ⟨ds1, ds2, e1, e2, h2⟩ := H d List.mem_cons_self ds h
   obtain ⟨ds', e3, h3⟩ := kE P r ds2 h2 fun x hx => H x (List.mem_cons_of_mem _ hx)
   refine ⟨ds', ?_, h3⟩
   rcases e2 with e2 | e2 <;> simp only [jD, e1, e2, Option.bind_some, e3]
theorem yO {fi : FA} {mp : List (Option Nat)} {ga : D -> List Sl -> Option (List Sl)} {tt : FT} {fe : FE} {ds : List Sl} {items l : List D} (h : fi ds = some items) (hl : items.length <= sizeLine) (hc : compL ga tt fe (jK mp ds) items = some l) : compG fi mp ga tt fe ds = some l := by
 unfold compG
 rw [h]
 show (if items.length <= sizeLine then compL ga tt fe (jK mp ds) items else none) = _
 rw [if_pos hl]
 exact hc
theorem kD : ∀ bs : List Bool, blsD (bs.map D.bl) = some bs
 | [] => rfl
 | b :: r => by simp [blsD, kD r]
@[simp] theorem allD_bls (bs : List Bool) : allD [.lst (bs.map D.bl)] = some (.bl (bs.all id)) := by simp [allD, kD]
@[simp] theorem anyD_bls (bs : List Bool) : anyD [.lst (bs.map D.bl)] = some (.bl (bs.any id)) := by simp [anyD, kD]
theorem vI {ga : D -> List Sl -> Option (List Sl)} {body : FS} (P : Nat -> List Sl -> Prop) : ∀ (items : List D) (n : Nat) (ds : List Sl), P n ds →
  (∀ d ∈ items, ∀ m ds, m < n + items.length -> P m ds -> ∃ ds1 ds2, ga d ds = some ds1 /\ (body ds1 = some (.nx ds2) \/ body ds1 = some (.ct ds2)) /\ P (m + 1) ds2) -> ∃ ds', jD ga body items ds = some (.nx ds') /\ P (n + items.length) ds'
 | [], n, ds, h, _ => ⟨ds, rfl, h⟩
 | d :: r, n, ds, h, H => by
   obtain ⟨ds1, ds2, e1, e2, h2⟩ := H d List.mem_cons_self n ds (by simp) h
   obtain ⟨ds', e3, h3⟩ := vI P r (n + 1) ds2 h2 fun x hx m ds hm => H x (List.mem_cons_of_mem _ hx) m ds (by simp only [List.length_cons]; omega)
   refine ⟨ds', ?_, by rw [List.length_cons]; have e : n + (r.length + 1) = n + 1 + r.length := by omega
                       rw [e]; exact h3⟩
   rcases e2 with e2 | e2 <;> simp only [jD, e1, e2, Option.bind_some, e3]
@[simp] theorem ixL2 (a b c : D) (l : List D) : ixD (.lst (a :: b :: c :: l)) (.int 2) = some c := by
 rw [xM _ (by decide) (by rw [List.length_cons, List.length_cons, List.length_cons]; omega)]
 rfl
@[simp] theorem ixL3 (a b c d : D) (l : List D) : ixD (.lst (a :: b :: c :: d :: l)) (.int 3) = some d := by
 rw [xM _ (by decide) (by rw [List.length_cons, List.length_cons, List.length_cons, List.length_cons]; omega)]
 rfl
@[simp] theorem rng3_eq (fa fb fc : FE) (ds : List Sl) : rng3 fa fb fc ds = (fa ds).bind fun x => (fb ds).bind fun y => (fc ds).bind fun z => match x, y, z with
 | .int i, .int j, .int c => if okR3 i j c then some (range3D i c (steps3 i j c)) else none
 | _, _, _ => none := rfl
@[simp] theorem rng2_eq (fa fb : FE) (ds : List Sl) : rng2 fa fb ds = (fa ds).bind fun x => (fb ds).bind fun y => match x, y with
 | .int i, .int j => if okR i /\ okR j then some (rangeD i (j - i).toNat) else none
 | _, _ => none := rfl
@[simp] theorem rng1_eq (f : FE) (ds : List Sl) : rng1 f ds = (f ds).bind fun d => match d with | .int j => if okR j then some (rangeD 0 j.toNat) else none | _ => none := rfl
theorem vE {j : Int} (h : -1000000000 <= j) (h2 : j <= 1000000000) : okR j := ⟨Int.le_trans (by decide) h, Int.lt_of_le_of_lt h2 (by decide)⟩
theorem okR3_small {i j c : Int} (h : -1000000000 <= i) (h2 : i <= 1000000000) (h3 : -1000000000 <= j) (h4 : j <= 1000000000) (h5 : 0 < c) (h6 : c < 1000000) : okR3 i j c :=
 ⟨Int.le_trans (by decide) h, Int.lt_of_le_of_lt h2 (by decide), Int.le_trans (by decide) h3, Int.lt_of_le_of_lt h4 (by decide), h5, h6⟩
@[simp] theorem absD_int (i : Int) : absD [.int i] = some (.int (if i < 0 then -i else i)) := rfl
@[simp] theorem int1D_int (i : Int) : int1D [.int i] = some (.int i) := rfl
@[simp] theorem int1D_bl (b : Bool) : int1D [.bl b] = some (.int (if b then 1 else 0)) := rfl
@[simp] theorem augA_eq (i : Nat) (f : FE) (ds : List Sl) : augA i f ds = (qZ i ds).bind fun x => (f ds).bind fun y => match x, y with
 | .int a, .int b => some (.nx (ds.set i (.v (.int (a + b)))))
 | _, _ => none := rfl
@[simp] theorem parG_eq (i j : Nat) (f : FA) (ds : List Sl) : parG i j f ds = (f ds).bind fun l => match l with
 | [a, b] => some (.nx ((ds.set i (.v a)).set j (.v b)))
 | _ => none := rfl
@[simp] theorem revA_eq (f : FE) (ds : List Sl) : revA f ds = (f ds).bind fun d => match d with
 | .lst l => some l.reverse
 | _ => none := rfl
theorem mem_range3 {d : D} {lo c : Int} {n : Nat} (h : d ∈ range3D lo c n) : ∃ k : Nat, k < n /\ d = .int (lo + (k : Int) * c) := by
 obtain ⟨k, hk, rfl⟩ := List.mem_map.mp h
 exact ⟨k, List.mem_range.mp hk, rfl⟩
theorem mem_rangeD {d : D} {lo : Int} {n : Nat} (h : d ∈ rangeD lo n) : ∃ k : Nat, k < n /\ d = .int (lo + (k : Int)) := by
 obtain ⟨k, hk, rfl⟩ := List.mem_map.mp h
 exact ⟨k, List.mem_range.mp hk, rfl⟩
theorem qK {f g : FS} {ds ds' : List Sl} (h : f ds = some (.nx ds')) : qJ f g ds = g ds' := by simp [h]
theorem vD {f g : FS} {ds : List Sl} {r : Ret} (h : f ds = some (.rt r)) : qJ f g ds = some (.rt r) := by simp [h]
theorem jL {g : FS} {n : Nat} {ds : List D} {r : Ret} (h : g (args n ds) = some (.rt r)) : runG g n ds = some r := by unfold runG; rw [h]
end FL
section
open PySem PyProof.Rows L2 FL
noncomputable def GP.ends_ahead.g : FS := (retG (andV (zK notD (zL 0) (zC .non)) (andV (zK notD (zL 1) (zC .non)) (zK leD (zL 0) (zL 1)))))
noncomputable def GP.ends_ahead.f : List D -> Option Ret := runG GP.ends_ahead.g 2
noncomputable def GP.Shut_low.g : FS := (retG (fldG [(7, 0), (8, 0)] (qZ 0)))
noncomputable def GP.Shut_low.f : List D -> Option Ret := runG GP.Shut_low.g 1
noncomputable def GP.Open_low.g : FS := (retG (zK jT (fldG [(7, 0), (8, 0)] (qZ 0)) (zC (.int 1))))
noncomputable def GP.Open_low.f : List D -> Option Ret := runG GP.Open_low.g 1
noncomputable def GP.Endless_low.g : FS := (retG (zC .non))
noncomputable def GP.Endless_low.f : List D -> Option Ret := runG GP.Endless_low.g 1
noncomputable def GP.Shut_behind.g : FS := (retG (zK jT (fldG [(7, 0), (8, 0)] (qZ 0)) (zC (.int 1))))
noncomputable def GP.Shut_behind.f : List D -> Option Ret := runG GP.Shut_behind.g 1
noncomputable def GP.Open_behind.g : FS := (retG (fldG [(7, 0), (8, 0)] (qZ 0)))
noncomputable def GP.Open_behind.f : List D -> Option Ret := runG GP.Open_behind.g 1
noncomputable def GP.Endless_behind.g : FS := (retG (zC .non))
noncomputable def GP.Endless_behind.f : List D -> Option Ret := runG GP.Endless_behind.g 1
noncomputable def GP.M_low_88ddca : Nat -> List D -> Option Ret
 | 7 => GP.Shut_low.f
 | 8 => GP.Open_low.f
 | 9 => GP.Endless_low.f
 | 10 => GP.Endless_low.f
 | _ => fun _ => none
noncomputable def GP.M_behind_f72aa6 : Nat -> List D -> Option Ret
 | 7 => GP.Shut_behind.f
 | 8 => GP.Open_behind.f
 | 9 => GP.Endless_behind.f
 | 10 => GP.Endless_behind.f
 | _ => fun _ => none
noncomputable def GP.span2.g : FS := (qJ (yI 2 (methV 0 [7, 8, 9, 10] GP.M_low_88ddca (qZ 0) qC))
 (qJ (yI 3 (methV 0 [7, 8, 9, 10] GP.M_behind_f72aa6 (qZ 1) qC))
 (qJ (ifG (testT (qO 2 GP.ends_ahead.f (zG (zL 3) (zG (zL 2) qC)))) (fun _ => none) qF)
 (retG (mkT (qU (zG (qZ 2) (zG (qZ 3) qC))))))))
noncomputable def GP.span2.f : List D -> Option Ret := runG GP.span2.g 4
noncomputable def GP.Shut___init__.i : FN := (fldN (qZ 1))
noncomputable def GP.Shut___init__.f : List D -> Option (List D) := runN GP.Shut___init__.i 2
noncomputable def GP.length.g : FS := (qJ (ifG (orT (zW (zK isD (zK ixD (zL 0) (zC (.int 0))) (zC .non))) (zW (zK isD (zK ixD (zL 0) (zC (.int 1))) (zC .non)))) (retG (zC .non)) qF)
 (retG (zK subD (zK ixD (zL 0) (zC (.int 1))) (zK ixD (zL 0) (zC (.int 0))))))
noncomputable def GP.length.f : List D -> Option Ret := runG GP.length.g 1
noncomputable def GP.later_low.g : FS := (qJ (ifG (zW (zK isD (zL 0) (zC .non))) (retG (zL 1)) qF)
 (qJ (ifG (zW (zK isD (zL 1) (zC .non))) (retG (zL 0)) qF)
 (retG (callB mxD (zG (zL 0) (zG (zL 1) qC))))))
noncomputable def GP.later_low.f : List D -> Option Ret := runG GP.later_low.g 2
noncomputable def GP.earlier_behind.g : FS := (qJ (ifG (zW (zK isD (zL 0) (zC .non))) (retG (zL 1)) qF)
 (qJ (ifG (zW (zK isD (zL 1) (zC .non))) (retG (zL 0)) qF)
 (retG (callB mnD (zG (zL 0) (zG (zL 1) qC))))))
noncomputable def GP.earlier_behind.f : List D -> Option Ret := runG GP.earlier_behind.g 2
noncomputable def GP.meet.g : FS := (qJ (yI 2 (qO 2 GP.later_low.f (zG (zK ixD (zL 0) (zC (.int 0))) (zG (zK ixD (zL 1) (zC (.int 0))) qC))))
 (qJ (yI 3 (qO 2 GP.earlier_behind.f (zG (zK ixD (zL 0) (zC (.int 1))) (zG (zK ixD (zL 1) (zC (.int 1))) qC))))
 (qJ (ifG (testT (qO 2 GP.ends_ahead.f (zG (zL 3) (zG (zL 2) qC)))) (retG (zC .non)) qF)
 (retG (mkT (qU (zG (qZ 2) (zG (qZ 3) qC))))))))
noncomputable def GP.meet.f : List D -> Option Ret := runG GP.meet.g 4
noncomputable def GP.knit.b1 : FS := (qJ (ifG (zW (zK isD (zL 4) (zC .non))) (fun ds => some (.ct ds)) qF)
 (ifG (andT (testT (zL 1)) (andT (zW (zK eqD (zK ixD (zK ixD (zL 1) (un1 negD (zC (.int 1)))) (zC (.int 1))) (zL 2))) (zW (zK eqD (zK ixD (zK ixD (zL 1) (un1 negD (zC (.int 1)))) (zC (.int 2))) (zL 4))))) (putG 1 (un1 negD (zC (.int 1))) (mkT (qU (zG (zK ixD (zK ixD (zL 1) (un1 negD (zC (.int 1)))) (zC (.int 0))) (zG (qZ 3) (zG (qZ 4) qC)))))) (appG 1 (mkT (qU (zG (qZ 2) (zG (qZ 3) (zG (qZ 4) qC))))))))
noncomputable def GP.knit.g : FS := (qJ (setOG 1 (qU qC))
 (qJ (forG (viaA (qZ 0) asLT) (tupG 3 (zP (zT 2) (zP (zT 3) (zP (zT 4) tgNil)))) GP.knit.b1)
 (retXG 1)))
noncomputable def GP.knit.f : List D -> Option Ret := runG GP.knit.g 5
noncomputable def GP.parts_in.b1 : FS := (qJ (yI 6 (qO 2 GP.meet.f (zG (mkT (qU (zG (qZ 3) (zG (qZ 4) qC)))) (zG (zL 1) qC))))
 (ifG (zW (zK notD (zL 6) (zC .non))) (appG 2 (mkT (qU (zG (zK ixD (zL 6) (zC (.int 0))) (zG (zK ixD (zL 6) (zC (.int 1))) (zG (qZ 5) qC)))))) qF))
noncomputable def GP.parts_in.g : FS := (qJ (setOG 2 (qU qC))
 (qJ (forG (viaA (qZ 0) asLT) (tupG 3 (zP (zT 3) (zP (zT 4) (zP (zT 5) tgNil)))) GP.parts_in.b1)
 (retXG 2)))
noncomputable def GP.parts_in.f : List D -> Option Ret := runG GP.parts_in.g 7
noncomputable def GP.rows_over.g : FS := (qJ (setOG 3 (qU qC))
 (qJ (ifG (zW (zK notD (zK ixD (zL 1) (zC (.int 0))) (zC .non))) (extG 3 (wO 2 GP.parts_in.f (zG (zL 0) (zG (mkT (qU (zG (zC .non) (zG (zK ixD (zL 1) (zC (.int 0))) qC)))) qC)))) qF)
 (qJ (appG 3 (mkT (qU (zG (zK ixD (zL 1) (zC (.int 0))) (zG (zK ixD (zL 1) (zC (.int 1))) (zG (qZ 2) qC))))))
 (qJ (ifG (zW (zK notD (zK ixD (zL 1) (zC (.int 1))) (zC .non))) (extG 3 (wO 2 GP.parts_in.f (zG (zL 0) (zG (mkT (qU (zG (zK ixD (zL 1) (zC (.int 1))) (zG (zC .non) qC)))) qC)))) qF)
 (retXG 3)))))
noncomputable def GP.rows_over.f : List D -> Option Ret := runG GP.rows_over.g 4
noncomputable def GP.formed.b1 : FS := (setOG 1 (wO 1 GP.knit.f (zG (qO 3 GP.rows_over.f (zG (zL 1) (zG (zL 2) (zG (zL 3) qC)))) qC)))
noncomputable def GP.formed.g : FS := (qJ (setOG 1 (qU qC))
 (qJ (forG (viaA (qZ 0) asLT) (tupG 2 (zP (zT 2) (zP (zT 3) tgNil))) GP.formed.b1)
 (retXG 1)))
noncomputable def GP.formed.f : List D -> Option Ret := runG GP.formed.g 4
noncomputable def GP.some_place.g : FS := (qJ (ifG (zW (zK notD (zK ixD (zL 0) (zC (.int 0))) (zC .non))) (retG (zK ixD (zL 0) (zC (.int 0)))) qF)
 (qJ (ifG (zW (zK notD (zK ixD (zL 0) (zC (.int 1))) (zC .non))) (retG (zK subD (zK ixD (zL 0) (zC (.int 1))) (zC (.int 1)))) qF)
 (retG (zC (.int 0)))))
noncomputable def GP.some_place.f : List D -> Option Ret := runG GP.some_place.g 1
noncomputable def GP.is_rule.g : FS := (qJ (yI 1 (zK subD (zK ixD (zL 0) (zC (.int 1))) (zK ixD (zL 0) (zC (.int 0)))))
 (qJ (yI 2 (zK ixD (zL 0) (zC (.int 2))))
 (qJ (yI 3 (zK ixD (zL 0) (zC (.int 3))))
 (qJ (ifG (orT (zW (zK ltD (zL 1) (zC (.int 1)))) (orT (zW (zK ltD (zL 3) (zC (.int 1)))) (zW (zK gtD (zL 3) (zC (.int 100)))))) (retG (zC (.bl false))) qF)
 (retG (ifV (zW (zK eqD (zL 3) (zC (.int 1)))) (zK eqD (zL 2) (zC (.int 0))) (zK gtD (zL 2) (zL 1))))))))
noncomputable def GP.is_rule.f : List D -> Option Ret := runG GP.is_rule.g 4
noncomputable def GP.stretches.g : FS := (qJ (ifG (notT (testT (qO 1 GP.is_rule.f (zG (zL 0) qC)))) (fun _ => none) qF)
 (qJ (yI 1 (zK ixD (zL 0) (zC (.int 2))))
 (retOG (compG (rng1 (zK ixD (zL 0) (zC (.int 3)))) [none, some 0, some 1] (zT 0) (fun _ => some true) (mkT (qU (zG (zK jT (zK ixD (zL 1) (zC (.int 0))) (zK xX (zL 0) (zL 2))) (zG (zK jT (zK ixD (zL 1) (zC (.int 1))) (zK xX (zL 0) (zL 2))) qC))))))))
noncomputable def GP.stretches.f : List D -> Option Ret := runG GP.stretches.g 2
noncomputable def GP.laid_rows.g : FS := (qJ (ifG (zW (zK gtD (callB lenD (zG (zL 0) qC)) (zC (.int 300)))) (fun _ => none) qF)
 (retOG (wO 1 GP.formed.f (zG (zL 0) qC))))
noncomputable def GP.laid_rows.f : List D -> Option Ret := runG GP.laid_rows.g 1
noncomputable def GP.rule_rows.g : FS := (retOG (compG (viaA (qO 1 GP.stretches.f (zG (zL 0) qC)) asLT) [none, some 0] (zT 0) (fun _ => some true) (mkT (qU (zG (qZ 0) (zG (zK ixD (zL 1) (zC (.int 4))) qC))))))
noncomputable def GP.rule_rows.f : List D -> Option Ret := runG GP.rule_rows.g 1
noncomputable def GP.is_number.g : FS := (qJ (ifG (notT (testT (isiG "str" (zL 0)))) (retG (zC (.bl false))) qF)
 (qJ (yI 1 (ifV (testT (zK stwD (zL 0) (zC (.str "-")))) (slsS (zL 0) (soP (zC (.int 1))) noP) (qZ 0)))
 (qJ (ifG (orT (zW (zK ltD (callB lenD (zG (zL 1) qC)) (zC (.int 1)))) (zW (zK gtD (callB lenD (zG (zL 1) qC)) (zC (.int 60))))) (retG (zC (.bl false))) qF)
 (qJ (ifG (notT (testT (callB allD (zG (mkL (compG (viaA (qZ 1) asS) [none] (zT 0) (fun _ => some true) (zK inS (zL 0) (zC (.str "0123456789"))))) qC)))) (retG (zC (.bl false))) qF)
 (retG (orV (zK neD (zK ixD (zL 1) (zC (.int 0))) (zC (.str "0"))) (zK eqD (zL 0) (zC (.str "0")))))))))
noncomputable def GP.is_number.f : List D -> Option Ret := runG GP.is_number.g 2
noncomputable def GP.read_number.g : FS := (qJ (ifG (notT (testT (qO 1 GP.is_number.f (zG (zL 0) qC)))) (fun _ => none) qF)
 (retG (callB intTD (zG (zL 0) qC))))
noncomputable def GP.read_number.f : List D -> Option Ret := runG GP.read_number.g 1
noncomputable def GP.read_low_end.g : FS := (qJ (ifG (zW (zK eqD (zL 0) (zC (.str "(..")))) (retDG (zC (.ins 9 []))) qF)
 (qJ (ifG (testT (zK stwD (zL 0) (zC (.str "[")))) (retDG (makeG 7 1 GP.Shut___init__.f (zG (qO 1 GP.read_number.f (zG (slsS (zL 0) (soP (zC (.int 1))) noP) qC)) qC))) qF)
 (qJ (ifG (testT (zK stwD (zL 0) (zC (.str "(")))) (retDG (makeG 8 1 GP.Shut___init__.f (zG (qO 1 GP.read_number.f (zG (slsS (zL 0) (soP (zC (.int 1))) noP) qC)) qC))) qF)
 (fun _ => none))))
noncomputable def GP.read_low_end.f : List D -> Option Ret := runG GP.read_low_end.g 1
noncomputable def GP.read_high_end.g : FS := (qJ (ifG (zW (zK eqD (zL 0) (zC (.str "..)")))) (retDG (zC (.ins 9 []))) qF)
 (qJ (ifG (testT (zK enwD (zL 0) (zC (.str "]")))) (retDG (makeG 7 1 GP.Shut___init__.f (zG (qO 1 GP.read_number.f (zG (slsS (zL 0) noP (soP (un1 negD (zC (.int 1))))) qC)) qC))) qF)
 (qJ (ifG (testT (zK enwD (zL 0) (zC (.str ")")))) (retDG (makeG 8 1 GP.Shut___init__.f (zG (qO 1 GP.read_number.f (zG (slsS (zL 0) noP (soP (un1 negD (zC (.int 1))))) qC)) qC))) qF)
 (fun _ => none))))
noncomputable def GP.read_high_end.f : List D -> Option Ret := runG GP.read_high_end.g 1
noncomputable def GP.read_ends.g : FS := (qJ (ifG (notT (testT (isiG "str" (zL 0)))) (fun _ => none) qF)
 (qJ (yI 1 (mkL (splA (zL 0) (zC (.str ",")))))
 (qJ (ifG (zW (zK neD (callB lenD (zG (zL 1) qC)) (zC (.int 2)))) (fun _ => none) qF)
 (retDG (mkT (qU (zG (qO 1 GP.read_low_end.f (zG (zK ixD (zL 1) (zC (.int 0))) qC)) (zG (qO 1 GP.read_high_end.f (zG (zK ixD (zL 1) (zC (.int 1))) qC)) qC))))))))
noncomputable def GP.read_ends.f : List D -> Option Ret := runG GP.read_ends.g 2
noncomputable def GP.show_span.g : FS := (qJ (yI 1 (ifV (zW (zK isD (zK ixD (zL 0) (zC (.int 0))) (zC .non))) (zC (.str "(..")) (zK jT (zC (.str "[")) (callB strD (zG (zK ixD (zL 0) (zC (.int 0))) qC)))))
 (qJ (yI 2 (ifV (zW (zK isD (zK ixD (zL 0) (zC (.int 1))) (zC .non))) (zC (.str "..)")) (zK jT (callB strD (zG (zK ixD (zL 0) (zC (.int 1))) qC)) (zC (.str ")")))))
 (retG (zK jT (zK jT (zL 1) (zC (.str ","))) (zL 2)))))
noncomputable def GP.show_span.f : List D -> Option Ret := runG GP.show_span.g 3
noncomputable def GP.comes_each.g : FS := (retG (andV (zK eqD (callB lenD (zG (zL 0) qC)) (zC (.int 5))) (andV (zK eqD (zK ixD (zL 0) (zC (.int 1))) (zC (.str "each"))) (zK eqD (zK ixD (zL 0) (zC (.int 3))) (zC (.str "times"))))))
noncomputable def GP.comes_each.f : List D -> Option Ret := runG GP.comes_each.g 1
noncomputable def GP.item_rows.g : FS := (qJ (yI 1 (mkL (splA (zL 0) (zC (.str " ")))))
 (qJ (yI 2 (mkL (splA (zK ixD (zL 1) (zC (.int 0))) (zC (.str "=")))))
 (qJ (ifG (orT (zW (zK neD (callB lenD (zG (zL 2) qC)) (zC (.int 2)))) (notT (orT (zW (zK eqD (callB lenD (zG (zL 1) qC)) (zC (.int 1)))) (testT (qO 1 GP.comes_each.f (zG (zL 1) qC)))))) (fun _ => none) qF)
 (qJ (yI 3 (qO 1 GP.read_ends.f (zG (zK ixD (zL 2) (zC (.int 0))) qC)))
 (qJ (yI 4 (qO 1 GP.read_number.f (zG (zK ixD (zL 2) (zC (.int 1))) qC)))
 (qJ (yI 5 (mkL (compG (viaA (mkL (stpA (zL 1) (soP (zC (.int 2))) noP 2)) asLT) [none] (zT 0) (fun _ => some true) (qO 1 GP.read_number.f (zG (zL 0) qC)))))
 (qJ (yI 6 (qO 2 GP.span2.f (zG (zK ixD (zL 3) (zC (.int 0))) (zG (zK ixD (zL 3) (zC (.int 1))) qC))))
 (qJ (ifG (notT (testT (zL 5))) (retOG (qU (zG (mkT (qU (zG (qZ 6) (zG (qZ 4) qC)))) qC))) qF)
 (qJ (ifG (zW (zK isD (qO 1 GP.length.f (zG (zL 6) qC)) (zC .non))) (fun _ => none) qF)
 (retOG (wO 1 GP.rule_rows.f (zG (mkT (qU (zG (zK ixD (zL 6) (zC (.int 0))) (zG (zK ixD (zL 6) (zC (.int 1))) (zG (zK ixD (zL 5) (zC (.int 0))) (zG (zK ixD (zL 5) (zC (.int 1))) (zG (qZ 4) qC))))))) qC))))))))))))
noncomputable def GP.item_rows.f : List D -> Option Ret := runG GP.item_rows.g 7
noncomputable def GP.read_map.b1 : FS := (extG 1 (wO 1 GP.item_rows.f (zG (zL 2) qC)))
noncomputable def GP.read_map.g : FS := (qJ (ifG (notT (testT (isiG "str" (zL 0)))) (fun _ => none) qF)
 (qJ (ifG (zW (zK eqD (zL 0) (zC (.str "")))) (retOG (qU qC)) qF)
 (qJ (setOG 1 (qU qC))
 (qJ (forG (viaA (mkL (splA (zL 0) (zC (.str "; ")))) asLT) (zT 2) GP.read_map.b1)
 (retOG (wO 1 GP.laid_rows.f (zG (zL 1) qC)))))))
noncomputable def GP.read_map.f : List D -> Option Ret := runG GP.read_map.g 3
noncomputable def GP.show_piece.g : FS := (retG (zK jT (zK jT (qO 1 GP.show_span.f (zG (mkT (qU (zG (qZ 0) (zG (qZ 1) qC)))) qC)) (zC (.str "="))) (callB strD (zG (zL 2) qC))))
noncomputable def GP.show_piece.f : List D -> Option Ret := runG GP.show_piece.g 3
noncomputable def GP.show_map.g : FS := (retG (zK joinD (zC (.str "; ")) (mkL (compG (viaA (qZ 0) asLT) [none, none, none] (tupG 3 (zP (zT 0) (zP (zT 1) (zP (zT 2) tgNil)))) (fun _ => some true) (qO 3 GP.show_piece.f (zG (zL 0) (zG (zL 1) (zG (zL 2) qC))))))))
noncomputable def GP.show_map.f : List D -> Option Ret := runG GP.show_map.g 1
noncomputable def GL.cell_at.g : FS := (qJ (ifG (zW (zK ltD (zL 1) (callB lenD (zG (zL 0) qC)))) (retG (zK ixD (zL 0) (zL 1))) qF)
 (retG (zC (.int 0))))
noncomputable def GL.cell_at.f : List D -> Option Ret := runG GL.cell_at.g 2
noncomputable def GL.end.g : FS := (retG (orV (zK isD (zL 0) (zC .non)) (andV (isiG "int" (zL 0)) (notV (isiG "bool" (zL 0))))))
noncomputable def GL.end.f : List D -> Option Ret := runG GL.end.g 1
noncomputable def GL.whole.g : FS := (retG (andV (isiG "int" (zL 0)) (notV (isiG "bool" (zL 0)))))
noncomputable def GL.whole.f : List D -> Option Ret := runG GL.whole.g 1
noncomputable def GL.is_map4.b1 : FS := (qJ (ifG (orT (notT (testT (isiG "tuple" (zK ixD (zL 0) (zL 1))))) (zW (zK neD (callB lenD (zG (zK ixD (zL 0) (zL 1)) qC)) (zC (.int 3))))) (retG (zC (.bl false))) qF)
 (qJ (asgG (tupG 3 (zP (zT 2) (zP (zT 3) (zP (zT 4) tgNil)))) (zK ixD (zL 0) (zL 1)))
 (qJ (ifG (orT (notT (testT (qO 1 GL.whole.f (zG (zL 4) qC)))) (andT (zW (zK isD (zL 2) (zC .non))) (zW (zK gtD (zL 1) (zC (.int 0)))))) (retG (zC (.bl false))) qF)
 (qJ (ifG (andT (zW (zK isD (zL 3) (zC .non))) (zW (zK ltD (zL 1) (zK subD (callB lenD (zG (zL 0) qC)) (zC (.int 1)))))) (retG (zC (.bl false))) qF)
 (qJ (ifG (andT (zW (zK notD (zL 2) (zC .non))) (notT (testT (qO 1 GL.whole.f (zG (zL 2) qC))))) (retG (zC (.bl false))) qF)
 (qJ (ifG (andT (zW (zK notD (zL 3) (zC .non))) (notT (testT (qO 1 GL.whole.f (zG (zL 3) qC))))) (retG (zC (.bl false))) qF)
 (qJ (ifG (andT (zW (zK notD (zL 2) (zC .non))) (andT (zW (zK notD (zL 3) (zC .non))) (zW (zK geD (zL 2) (zL 3))))) (retG (zC (.bl false))) qF)
 (ifG (zW (zK gtD (zL 1) (zC (.int 0)))) (qJ (yI 5 (zK ixD (zL 0) (zK subD (zL 1) (zC (.int 1)))))
 (ifG (orT (zW (zK gtD (zK ixD (zL 5) (zC (.int 1))) (zL 2))) (andT (zW (zK eqD (zK ixD (zL 5) (zC (.int 1))) (zL 2))) (zW (zK eqD (zK ixD (zL 5) (zC (.int 2))) (zL 4))))) (retG (zC (.bl false))) qF)) qF))))))))
noncomputable def GL.is_map4.g : FS := (qJ (ifG (notT (testT (isiG "list" (zL 0)))) (retG (zC (.bl false))) qF)
 (qJ (forG (rng1 (callB lenD (zG (zL 0) qC))) (zT 1) GL.is_map4.b1)
 (retG (zC (.bl true)))))
noncomputable def GL.is_map4.f : List D -> Option Ret := runG GL.is_map4.g 6
noncomputable def GL.is_map3.b1 : FS := (qJ (ifG (orT (notT (testT (isiG "tuple" (zK ixD (zL 0) (zL 1))))) (zW (zK neD (callB lenD (zG (zK ixD (zL 0) (zL 1)) qC)) (zC (.int 3))))) (retG (zC (.bl false))) qF)
 (qJ (asgG (tupG 3 (zP (zT 2) (zP (zT 3) (zP (zT 4) tgNil)))) (zK ixD (zL 0) (zL 1)))
 (qJ (ifG (orT (notT (testT (qO 1 GL.whole.f (zG (zL 4) qC)))) (andT (zW (zK isD (zL 2) (zC .non))) (zW (zK gtD (zL 1) (zC (.int 0)))))) (retG (zC (.bl false))) qF)
 (qJ (ifG (andT (zW (zK isD (zL 3) (zC .non))) (zW (zK ltD (zL 1) (zK subD (callB lenD (zG (zL 0) qC)) (zC (.int 1)))))) (retG (zC (.bl false))) qF)
 (qJ (ifG (andT (zW (zK notD (zL 2) (zC .non))) (notT (testT (qO 1 GL.whole.f (zG (zL 2) qC))))) (retG (zC (.bl false))) qF)
 (qJ (ifG (andT (zW (zK notD (zL 3) (zC .non))) (notT (testT (qO 1 GL.whole.f (zG (zL 3) qC))))) (retG (zC (.bl false))) qF)
 (qJ (ifG (andT (zW (zK notD (zL 2) (zC .non))) (andT (zW (zK notD (zL 3) (zC .non))) (zW (zK geD (zL 2) (zL 3))))) (retG (zC (.bl false))) qF)
 (ifG (zW (zK gtD (zL 1) (zC (.int 0)))) (qJ (yI 5 (zK ixD (zL 0) (zK subD (zL 1) (zC (.int 1)))))
 (ifG (orT (zW (zK gtD (zK ixD (zL 5) (zC (.int 1))) (zL 2))) (andT (zW (zK eqD (zK ixD (zL 5) (zC (.int 1))) (zL 2))) (zW (zK eqD (zK ixD (zL 5) (zC (.int 2))) (zL 4))))) (retG (zC (.bl false))) qF)) qF))))))))
noncomputable def GL.is_map3.g : FS := (qJ (ifG (notT (testT (isiG "list" (zL 0)))) (retG (zC (.bl false))) qF)
 (qJ (forG (rng1 (callB lenD (zG (zL 0) qC))) (zT 1) GL.is_map3.b1)
 (retG (zC (.bl true)))))
noncomputable def GL.is_map3.f : List D -> Option Ret := runG GL.is_map3.g 6
noncomputable def GL.number.g : FS := (qJ (ifG (zW (zK eqD (zK wW (zL 0) (zC (.int 3))) (zC (.int 0)))) (retG (zK subD (zK wW (zK xX (zK yT (zL 0) (zC (.int 3))) (zK jT (zK powD (zC (.int 10)) (zC (.int 41))) (zC (.int 9)))) (zK jT (zK xX (zC (.int 2)) (zK powD (zC (.int 10)) (zC (.int 58)))) (zC (.int 1)))) (zK powD (zC (.int 10)) (zC (.int 58))))) qF)
 (retG (zK subD (zK wW (zK yT (zL 0) (zC (.int 3))) (zC (.int 41))) (zC (.int 20)))))
noncomputable def GL.number.f : List D -> Option Ret := runG GL.number.g 1
end
namespace FL
open PySem PySem.Spec PyProof.Rows L2
abbrev Spn := Option Int × Option Int
def spD (s : Spn) : D := .tup [oi s.1, oi s.2]
def oS : Option Spn -> D
 | none => .non
 | some s => spD s
def hasS (s : Spn) (p : Int) : Bool := (match s.1 with | none => true | some a => decide (a <= p)) && (match s.2 with | none => true | some b => decide (p < b))
def okS (s : Spn) : Prop := ∀ a b, s.1 = some a -> s.2 = some b -> a < b
@[simp] theorem spD_0 (s : Spn) : ixD (spD s) (.int 0) = some (oi s.1) := ixT0 _ _
@[simp] theorem spD_1 (s : Spn) : ixD (spD s) (.int 1) = some (oi s.2) := ixT1 _ _ _
@[simp] theorem spD_flat (s : Spn) : flat (spD s) = true := by simp [spD]
@[simp] theorem spD_flatR (s : Spn) : flatR (spD s) = some (.rt (.val (spD s))) := yE (by simp)
@[simp] theorem spD_shal (s : Spn) (n : Nat) : shal (n + 1) (spD s) = true := by simp [spD]
@[simp] theorem spD_isi (s : Spn) : isiD "tuple" (spD s) = some (.bl true) := by simp [spD]
@[simp] theorem spD_len (s : Spn) : lenD [spD s] = some (.int 2) := by simp [spD]
@[simp] theorem spD_isD (s : Spn) : isD (spD s) .non = some (.bl false) := rfl
@[simp] theorem spD_notD (s : Spn) : notD (spD s) .non = some (.bl true) := rfl
@[simp] theorem spD_asLT (s : Spn) : asLT (spD s) = some [oi s.1, oi s.2] := rfl
@[simp] theorem spD_eqv (s t : Spn) : eqvD (spD s) (spD t) = decide (s = t) := by
 rw [Bool.eq_iff_iff]
 simp [spD, Prod.ext_iff]
@[simp] theorem oS_isD (o : Option Spn) : isD (oS o) .non = some (.bl o.isNone) := by cases o <;> rfl
@[simp] theorem oS_notD (o : Option Spn) : notD (oS o) .non = some (.bl o.isSome) := by cases o <;> rfl
@[simp] theorem oS_flatR (o : Option Spn) : flatR (oS o) = some (.rt (.val (oS o))) := by cases o <;> simp [oS]
theorem length_eq (s : Spn) : GP.length.f [spD s] = some (.val (oi (match s.1, s.2 with | some a, some b => some (b - a) | _, _ => none))) := by
 obtain ⟨a, b⟩ := s
 unfold GP.length.f runG GP.length.g
 cases a <;> cases b <;> simp [args]
def lateL : Option Int -> Option Int -> Option Int
 | none, b => b
 | a, none => a
 | some a, some b => some (max a b)
def xK : Option Int -> Option Int -> Option Int
 | none, b => b
 | a, none => a
 | some a, some b => some (min a b)
def aheadE : Option Int -> Option Int -> Bool
 | some b, some l => decide (b <= l)
 | _, _ => false
theorem lateL_eq (a b : Option Int) : GP.later_low.f [oi a, oi b] = some (.val (oi (lateL a b))) := by
 unfold GP.later_low.f runG GP.later_low.g
 cases a <;> cases b <;> simp [args, lateL]
theorem earlB_eq (a b : Option Int) : GP.earlier_behind.f [oi a, oi b] = some (.val (oi (xK a b))) := by
 unfold GP.earlier_behind.f runG GP.earlier_behind.g
 cases a <;> cases b <;> simp [args, xK]
theorem aheadE_eq (a b : Option Int) : GP.ends_ahead.f [oi a, oi b] = some (.val (.bl (aheadE a b))) := by
 unfold GP.ends_ahead.f runG GP.ends_ahead.g
 cases a <;> cases b <;> simp [args, aheadE]
def meetS (s t : Spn) : Option Spn := if aheadE (xK s.2 t.2) (lateL s.1 t.1) = true then none else some (lateL s.1 t.1, xK s.2 t.2)
theorem meet_eq (s t : Spn) : GP.meet.f [spD s, spD t] = some (.val (oS (meetS s t))) := by
 unfold GP.meet.f runG GP.meet.g
 cases h : aheadE (xK s.2 t.2) (lateL s.1 t.1) <;> simp [args, lateL_eq, earlB_eq, aheadE_eq, h, meetS, oS, spD]
def HasS (s : Spn) (p : Int) : Prop := (∀ a, s.1 = some a -> a <= p) /\ (∀ b, s.2 = some b -> p < b)
theorem yP (s : Spn) (p : Int) : hasS s p = true ↔ HasS s p := by
 obtain ⟨a, b⟩ := s
 cases a <;> cases b <;> simp [hasS, HasS]
theorem lateL_le {a c : Option Int} {p : Int} : (∀ x, lateL a c = some x -> x <= p) ↔ (∀ x, a = some x -> x <= p) /\ (∀ x, c = some x -> x <= p) := by
 cases a <;> cases c <;> simp [lateL]
 omega
theorem earlB_lt {a c : Option Int} {p : Int} : (∀ x, xK a c = some x -> p < x) ↔ (∀ x, a = some x -> p < x) /\ (∀ x, c = some x -> p < x) := by
 cases a <;> cases c <;> simp [xK]
 omega
theorem aheadE_no {b l : Option Int} {p : Int} (h : aheadE b l = true) (h1 : ∀ x, l = some x -> x <= p) (h2 : ∀ x, b = some x -> p < x) : False := by
 cases b <;> cases l <;> simp [aheadE] at h
 have := h1 _ rfl
 have := h2 _ rfl
 omega
def hasO (o : Option Spn) (p : Int) : Bool := match o with
 | none => false
 | some u => hasS u p
theorem hasO_meet (s t : Spn) (p : Int) : hasO (meetS s t) p = (hasS s p && hasS t p) := by
 rw [Bool.eq_iff_iff, Bool.and_eq_true, yP, yP]
 unfold meetS
 by_cases h : aheadE (xK s.2 t.2) (lateL s.1 t.1) = true
 · rw [if_pos h]
   refine ⟨fun z => by simp [hasO] at z, fun z => (aheadE_no h (lateL_le.mpr ⟨z.1.1, z.2.1⟩) (earlB_lt.mpr ⟨z.1.2, z.2.2⟩)).elim⟩
 · rw [if_neg h]
   show hasS _ p = true ↔ _
   rw [yP]
   show (∀ x, lateL s.1 t.1 = some x -> x <= p) /\ (∀ x, xK s.2 t.2 = some x -> p < x) ↔ _
   rw [lateL_le, earlB_lt]
   exact ⟨fun ⟨⟨a, b⟩, c, d⟩ => ⟨⟨a, c⟩, b, d⟩, fun ⟨⟨a, c⟩, b, d⟩ => ⟨⟨a, b⟩, c, d⟩⟩
theorem meetS_ok {s t u : Spn} (h : meetS s t = some u) : okS u := by
 unfold meetS at h
 split at h
 · cases h
 · rename_i hn
   cases h
   intro a b h1 h2
   simp only at h1 h2
   rw [h1, h2] at hn
   simp [aheadE] at hn
   omega
theorem lateL_mem (a b : Option Int) : lateL a b = a \/ lateL a b = b := by
 cases a <;> cases b <;> simp [lateL]
 omega
theorem earlB_mem (a b : Option Int) : xK a b = a \/ xK a b = b := by
 cases a <;> cases b <;> simp [xK]
 omega
theorem meetS_mem {s t u : Spn} (h : meetS s t = some u) : (u.1 = s.1 \/ u.1 = t.1) /\ (u.2 = s.2 \/ u.2 = t.2) := by
 unfold meetS at h
 split at h
 · cases h
 · cases h
   exact ⟨lateL_mem _ _, earlB_mem _ _⟩
end FL
namespace FL
open PySem PySem.Spec PyProof.Rows L2
open Builtin.Int (intBits)
def cel (ns : List Int) (k : Nat) : Int := ns.getD k 0
theorem cell_eq0 (ns : List Int) {k : Int} (h : 0 <= k) : GL.cell_at.f [.lst (ns.map D.int), .int k] = some (.val (.int (ns.getD k.toNat 0))) := by
 unfold GL.cell_at.f runG GL.cell_at.g
 by_cases hk : k < (ns.length : Int)
 · have hl : k < ((ns.map D.int).length : Int) := by simpa using hk
   have e : (ns.map D.int)[k.toNat]? = some (.int (ns.getD k.toNat 0)) := by
    have : k.toNat < ns.length := by omega
    simp [this, List.getD]
   simp [args, hk, xM _ h hl, e]
 · have : ns.getD k.toNat 0 = 0 := by
    have : ns.length <= k.toNat := by omega
    simp [List.getD, List.getElem?_eq_none this]
   rw [this]
   simp [args, hk]
theorem cell_eq (ns : List Int) (k : Nat) : GL.cell_at.f [.lst (ns.map D.int), .int (k : Int)] = some (.val (.int (cel ns k))) := cell_eq0 ns (k := (k : Int)) (by omega)
theorem xO {a b : Int} {m : Nat} (hb : 0 <= b) (h : intBits a <= m) : intBits (a / b) <= m := by
 rw [<- Int.fdiv_eq_ediv_of_nonneg _ hb]
 exact bits_fdiv h
theorem yH {a : Int} {m : Nat} (h : a.natAbs < 2 ^ m) : intBits a <= m := intBits_le_iff.mpr h
theorem bits_cell {ns : List Int} (hb : ∀ c ∈ ns, intBits c <= 1048576) (k : Nat) : intBits (cel ns k) <= 1048576 := by
 show intBits (ns.getD k 0) <= 1048576
 by_cases h : k < ns.length
 · have : ns.getD k 0 = ns[k] := by simp [List.getD, h]
   rw [this]
   exact hb _ (List.getElem_mem h)
 · have : ns.getD k 0 = 0 := by simp [List.getD, List.getElem?_eq_none (Nat.le_of_not_lt h)]
   rw [this]
   decide
theorem end_eq (o : Option Int) : GL.end.f [oi o] = some (.val (.bl true)) := by
 unfold GL.end.f runG GL.end.g
 cases o <;> simp [args]
@[simp] theorem end_int (i : Int) : GL.end.f [.int i] = some (.val (.bl true)) := end_eq (some i)
@[simp] theorem end_non : GL.end.f [.non] = some (.val (.bl true)) := end_eq none
end FL
namespace FL
open PySem PySem.Spec PyProof.Rows L2
open Builtin.Int (intBits)
@[simp] theorem eqS_put_put : eqD (.str "put") (.str "put") = some (.bl true) := by kernel_rfl
@[simp] theorem neS_put_put : neD (.str "put") (.str "put") = some (.bl false) := by kernel_rfl
@[simp] theorem eqS_put_widen : eqD (.str "put") (.str "widen") = some (.bl false) := by kernel_rfl
@[simp] theorem neS_put_widen : neD (.str "put") (.str "widen") = some (.bl true) := by kernel_rfl
@[simp] theorem eqS_put_narrow : eqD (.str "put") (.str "narrow") = some (.bl false) := by kernel_rfl
@[simp] theorem neS_put_narrow : neD (.str "put") (.str "narrow") = some (.bl true) := by kernel_rfl
@[simp] theorem eqS_put_move : eqD (.str "put") (.str "move") = some (.bl false) := by kernel_rfl
@[simp] theorem neS_put_move : neD (.str "put") (.str "move") = some (.bl true) := by kernel_rfl
@[simp] theorem eqS_put_stretch : eqD (.str "put") (.str "stretch") = some (.bl false) := by kernel_rfl
@[simp] theorem neS_put_stretch : neD (.str "put") (.str "stretch") = some (.bl true) := by kernel_rfl
@[simp] theorem eqS_put_mirror : eqD (.str "put") (.str "mirror") = some (.bl false) := by kernel_rfl
@[simp] theorem neS_put_mirror : neD (.str "put") (.str "mirror") = some (.bl true) := by kernel_rfl
@[simp] theorem eqS_widen_put : eqD (.str "widen") (.str "put") = some (.bl false) := by kernel_rfl
@[simp] theorem neS_widen_put : neD (.str "widen") (.str "put") = some (.bl true) := by kernel_rfl
@[simp] theorem eqS_widen_widen : eqD (.str "widen") (.str "widen") = some (.bl true) := by kernel_rfl
@[simp] theorem neS_widen_widen : neD (.str "widen") (.str "widen") = some (.bl false) := by kernel_rfl
@[simp] theorem eqS_widen_narrow : eqD (.str "widen") (.str "narrow") = some (.bl false) := by kernel_rfl
@[simp] theorem neS_widen_narrow : neD (.str "widen") (.str "narrow") = some (.bl true) := by kernel_rfl
@[simp] theorem eqS_widen_move : eqD (.str "widen") (.str "move") = some (.bl false) := by kernel_rfl
@[simp] theorem neS_widen_move : neD (.str "widen") (.str "move") = some (.bl true) := by kernel_rfl
@[simp] theorem eqS_widen_stretch : eqD (.str "widen") (.str "stretch") = some (.bl false) := by kernel_rfl
@[simp] theorem neS_widen_stretch : neD (.str "widen") (.str "stretch") = some (.bl true) := by kernel_rfl
@[simp] theorem eqS_widen_mirror : eqD (.str "widen") (.str "mirror") = some (.bl false) := by kernel_rfl
@[simp] theorem neS_widen_mirror : neD (.str "widen") (.str "mirror") = some (.bl true) := by kernel_rfl
@[simp] theorem eqS_narrow_put : eqD (.str "narrow") (.str "put") = some (.bl false) := by kernel_rfl
@[simp] theorem neS_narrow_put : neD (.str "narrow") (.str "put") = some (.bl true) := by kernel_rfl
@[simp] theorem eqS_narrow_widen : eqD (.str "narrow") (.str "widen") = some (.bl false) := by kernel_rfl
@[simp] theorem neS_narrow_widen : neD (.str "narrow") (.str "widen") = some (.bl true) := by kernel_rfl
@[simp] theorem eqS_narrow_narrow : eqD (.str "narrow") (.str "narrow") = some (.bl true) := by kernel_rfl
@[simp] theorem neS_narrow_narrow : neD (.str "narrow") (.str "narrow") = some (.bl false) := by kernel_rfl
@[simp] theorem eqS_narrow_move : eqD (.str "narrow") (.str "move") = some (.bl false) := by kernel_rfl
@[simp] theorem neS_narrow_move : neD (.str "narrow") (.str "move") = some (.bl true) := by kernel_rfl
@[simp] theorem eqS_narrow_stretch : eqD (.str "narrow") (.str "stretch") = some (.bl false) := by kernel_rfl
@[simp] theorem neS_narrow_stretch : neD (.str "narrow") (.str "stretch") = some (.bl true) := by kernel_rfl
@[simp] theorem eqS_narrow_mirror : eqD (.str "narrow") (.str "mirror") = some (.bl false) := by kernel_rfl
@[simp] theorem neS_narrow_mirror : neD (.str "narrow") (.str "mirror") = some (.bl true) := by kernel_rfl
@[simp] theorem eqS_move_put : eqD (.str "move") (.str "put") = some (.bl false) := by kernel_rfl
@[simp] theorem neS_move_put : neD (.str "move") (.str "put") = some (.bl true) := by kernel_rfl
@[simp] theorem eqS_move_widen : eqD (.str "move") (.str "widen") = some (.bl false) := by kernel_rfl
@[simp] theorem neS_move_widen : neD (.str "move") (.str "widen") = some (.bl true) := by kernel_rfl
@[simp] theorem eqS_move_narrow : eqD (.str "move") (.str "narrow") = some (.bl false) := by kernel_rfl
@[simp] theorem neS_move_narrow : neD (.str "move") (.str "narrow") = some (.bl true) := by kernel_rfl
@[simp] theorem eqS_move_move : eqD (.str "move") (.str "move") = some (.bl true) := by kernel_rfl
@[simp] theorem neS_move_move : neD (.str "move") (.str "move") = some (.bl false) := by kernel_rfl
@[simp] theorem eqS_move_stretch : eqD (.str "move") (.str "stretch") = some (.bl false) := by kernel_rfl
@[simp] theorem neS_move_stretch : neD (.str "move") (.str "stretch") = some (.bl true) := by kernel_rfl
@[simp] theorem eqS_move_mirror : eqD (.str "move") (.str "mirror") = some (.bl false) := by kernel_rfl
@[simp] theorem neS_move_mirror : neD (.str "move") (.str "mirror") = some (.bl true) := by kernel_rfl
@[simp] theorem eqS_stretch_put : eqD (.str "stretch") (.str "put") = some (.bl false) := by kernel_rfl
@[simp] theorem neS_stretch_put : neD (.str "stretch") (.str "put") = some (.bl true) := by kernel_rfl
@[simp] theorem eqS_stretch_widen : eqD (.str "stretch") (.str "widen") = some (.bl false) := by kernel_rfl
@[simp] theorem neS_stretch_widen : neD (.str "stretch") (.str "widen") = some (.bl true) := by kernel_rfl
@[simp] theorem eqS_stretch_narrow : eqD (.str "stretch") (.str "narrow") = some (.bl false) := by kernel_rfl
@[simp] theorem neS_stretch_narrow : neD (.str "stretch") (.str "narrow") = some (.bl true) := by kernel_rfl
@[simp] theorem eqS_stretch_move : eqD (.str "stretch") (.str "move") = some (.bl false) := by kernel_rfl
@[simp] theorem neS_stretch_move : neD (.str "stretch") (.str "move") = some (.bl true) := by kernel_rfl
@[simp] theorem eqS_stretch_stretch : eqD (.str "stretch") (.str "stretch") = some (.bl true) := by kernel_rfl
@[simp] theorem neS_stretch_stretch : neD (.str "stretch") (.str "stretch") = some (.bl false) := by kernel_rfl
@[simp] theorem eqS_stretch_mirror : eqD (.str "stretch") (.str "mirror") = some (.bl false) := by kernel_rfl
@[simp] theorem neS_stretch_mirror : neD (.str "stretch") (.str "mirror") = some (.bl true) := by kernel_rfl
@[simp] theorem eqS_mirror_put : eqD (.str "mirror") (.str "put") = some (.bl false) := by kernel_rfl
@[simp] theorem neS_mirror_put : neD (.str "mirror") (.str "put") = some (.bl true) := by kernel_rfl
@[simp] theorem eqS_mirror_widen : eqD (.str "mirror") (.str "widen") = some (.bl false) := by kernel_rfl
@[simp] theorem neS_mirror_widen : neD (.str "mirror") (.str "widen") = some (.bl true) := by kernel_rfl
@[simp] theorem eqS_mirror_narrow : eqD (.str "mirror") (.str "narrow") = some (.bl false) := by kernel_rfl
@[simp] theorem neS_mirror_narrow : neD (.str "mirror") (.str "narrow") = some (.bl true) := by kernel_rfl
@[simp] theorem eqS_mirror_move : eqD (.str "mirror") (.str "move") = some (.bl false) := by kernel_rfl
@[simp] theorem neS_mirror_move : neD (.str "mirror") (.str "move") = some (.bl true) := by kernel_rfl
@[simp] theorem eqS_mirror_stretch : eqD (.str "mirror") (.str "stretch") = some (.bl false) := by kernel_rfl
@[simp] theorem neS_mirror_stretch : neD (.str "mirror") (.str "stretch") = some (.bl true) := by kernel_rfl
@[simp] theorem eqS_mirror_mirror : eqD (.str "mirror") (.str "mirror") = some (.bl true) := by kernel_rfl
@[simp] theorem neS_mirror_mirror : neD (.str "mirror") (.str "mirror") = some (.bl false) := by kernel_rfl
@[simp] theorem fldG_eq (ix : List (Nat × Nat)) (f : FE) (ds : List Sl) : fldG ix f ds = (f ds).bind (fldD ix) := rfl
@[simp] theorem fldD_ins (ix : List (Nat × Nat)) (t : Nat) (es : List D) : fldD ix (.ins t es) = (ix.lookup t).bind fun i => es[i]? := rfl
@[simp] theorem methV_eq (n : Nat) (cs : List Nat) (F : Nat -> List D -> Option Ret) (fo : FE) (g : FA) (ds : List Sl) : methV n cs F fo g ds = (fo ds).bind fun o => (g ds).bind fun l => (methR n cs F o l).bind retV := rfl
@[simp] theorem methF_eq (n : Nat) (cs : List Nat) (F : Nat -> List D -> Option Ret) (fo : FE) (g : FA) (ds : List Sl) : methF n cs F fo g ds = (fo ds).bind fun o => (g ds).bind fun l => (methR n cs F o l).bind retF := rfl
@[simp] theorem makeG_eq (t n : Nat) (G : List D -> Option (List D)) (g : FA) (ds : List Sl) : makeG t n G g ds = (g ds).bind fun l => if l.length = n /\ flats l = true then (G l).map (D.ins t) else none := rfl
@[simp] theorem retDG_eq (f : FE) (ds : List Sl) : retDG f ds = (f ds).map fun d => .rt (.val d) := rfl
end FL
namespace FL
open PySem PySem.Spec PyProof.Rows L2
abbrev Rw := Option Int × Option Int × Option Int
def rwD (r : Rw) : D := .tup [oi r.1, oi r.2.1, oi r.2.2]
def has3 (r : Rw) (p : Int) : Bool := hasS (r.1, r.2.1) p
def ok3 (r : Rw) : Prop := okS (r.1, r.2.1)
@[simp] theorem rwD_0 (r : Rw) : ixD (rwD r) (.int 0) = some (oi r.1) := ixT0 _ _
@[simp] theorem rwD_1 (r : Rw) : ixD (rwD r) (.int 1) = some (oi r.2.1) := ixT1 _ _ _
@[simp] theorem rwD_2 (r : Rw) : ixD (rwD r) (.int 2) = some (oi r.2.2) := ixT2 _ _ _ _
@[simp] theorem rwD_flat (r : Rw) : flat (rwD r) = true := by simp [rwD]
@[simp] theorem rwD_flatR (r : Rw) : flatR (rwD r) = some (.rt (.val (rwD r))) := yE (by simp)
@[simp] theorem rwD_shal (r : Rw) (n : Nat) : shal (n + 1) (rwD r) = true := by simp [rwD]
@[simp] theorem rwD_isi (r : Rw) : isiD "tuple" (rwD r) = some (.bl true) := by simp [rwD]
@[simp] theorem rwD_len (r : Rw) : lenD [rwD r] = some (.int 3) := by simp [rwD]
@[simp] theorem rwD_tupG (h : List D -> List Sl -> Option (List Sl)) (r : Rw) (ds : List Sl) : tupG 3 h (rwD r) ds = h [oi r.1, oi r.2.1, oi r.2.2] ds := by simp [rwD]
@[simp] theorem rwD_eqv (r t : Rw) : eqvD (rwD r) (rwD t) = decide (r = t) := by
 obtain ⟨a, b, c⟩ := r
 obtain ⟨x, y, z⟩ := t
 rw [Bool.eq_iff_iff]
 simp [rwD]
theorem yW (l : List Rw) : flats (l.map rwD) = true := by
 induction l with
 | nil => simp
 | cons a r ih => simp [ih]
theorem wU (n : Nat) (l : List Rw) : shals (n + 2) (l.map rwD) = true := shals_all fun d hd => by obtain ⟨r, _, rfl⟩ := List.mem_map.mp hd; simp
theorem eqvs_rw : ∀ a b : List Rw, eqvs (a.map rwD) (b.map rwD) = decide (a = b)
 | [], [] => by simp
 | [], y :: b => by simp
 | x :: a, [] => by simp
 | x :: a, y :: b => by
   simp only [List.map_cons, eqvs_cons, rwD_eqv, eqvs_rw a b]
   rw [Bool.eq_iff_iff]
   simp
theorem eqD_rw (a b : List Rw) : eqD (.lst (a.map rwD)) (.lst (b.map rwD)) = some (.bl (decide (a = b))) := by rw [kL (by simpa using wU 38 a) (by simpa using wU 38 b), eqvD_lst, eqvs_rw]
theorem neD_rw (a b : List Rw) : neD (.lst (a.map rwD)) (.lst (b.map rwD)) = some (.bl (!decide (a = b))) := by rw [vV (by simpa using wU 38 a) (by simpa using wU 38 b), eqvD_lst, eqvs_rw]
theorem ixN_last {n : Nat} (h : 0 < n) : ixN n (-1) = some (n - 1) := by
 unfold ixN
 rw [if_neg (by decide), if_pos (by omega)]
 congr 1
 omega
def ahead (a b : Rw) : Prop := ∃ x y, a.2.1 = some x /\ b.1 = some y /\ x <= y
structure Ord (rows : List Rw) : Prop where
 ok : ∀ r ∈ rows, ok3 r
 pw : rows.Pairwise ahead
def Tel (rows : List Rw) (p v : Int) : Prop := ∃ r ∈ rows, has3 r p = true /\ r.2.2 = some v
def knit1 (acc : List Rw) (r : Rw) : List Rw := match r.2.2 with
 | none => acc
 | some v => match acc with
   | [] => [r]
   | q :: t => if q.2.1 = r.1 /\ q.2.2 = some v then (q.1, r.2.1, some v) :: t else r :: q :: t
def knitF (rows : List Rw) : List Rw := (rows.foldl knit1 []).reverse
theorem knit_turn (acc : List Rw) (r : Rw) (R a b c : Sl) (hl : acc.length < 16777216) :
  GP.knit.b1 [R, .own (acc.map rwD).reverse, .v (oi r.1), .v (oi r.2.1), .v (oi r.2.2)] = some (.nx [R, .own ((knit1 acc r).map rwD).reverse, .v (oi r.1), .v (oi r.2.1), .v (oi r.2.2)]) ∨
  GP.knit.b1 [R, .own (acc.map rwD).reverse, .v (oi r.1), .v (oi r.2.1), .v (oi r.2.2)] = some (.ct [R, .own ((knit1 acc r).map rwD).reverse, .v (oi r.1), .v (oi r.2.1), .v (oi r.2.2)]) := by
 obtain ⟨lo, bh, v⟩ := r
 unfold GP.knit.b1
 cases v with
 | none => right; simp [knit1]
 | some v =>
   left
   cases acc with
   | nil =>
     have e : D.tup [oi lo, oi bh, .int v] = rwD (lo, bh, some v) := rfl
     simp [knit1, e]
   | cons q t =>
     have last : ixD (.lst ((t.map rwD).reverse ++ [rwD q])) (.int (-1)) = some (rwD q) := ixL_last _ _
     have le : ixN (t.length + 1) (-1) = some t.length := by rw [ixN_last (by omega)]; rfl
     have hl' : t.length + 1 < 16777216 := by simpa using hl
     have e2 : ∀ x : Option Int, eqD (oi x) (D.int v) = some (.bl (decide (x = some v))) := fun x => eqD_oi x (some v)
     by_cases h1 : q.2.1 = lo
     · by_cases h2 : q.2.2 = some v
       · have e : D.tup [oi q.1, oi bh, .int v] = rwD (q.1, bh, some v) := rfl
         simp [knit1, h1, h2, last, le, e2, e]
       · have e : D.tup [oi lo, oi bh, .int v] = rwD (lo, bh, some v) := rfl
         simp [knit1, h1, h2, last, le, e2, hl', e]
     · have e : D.tup [oi lo, oi bh, .int v] = rwD (lo, bh, some v) := rfl
       simp [knit1, h1, last, le, hl', e]
theorem knit1_len (acc : List Rw) (r : Rw) : (knit1 acc r).length <= acc.length + 1 := by
 unfold knit1
 split
 · omega
 · split
   · simp
   · split <;> simp
theorem knit_loop (R : Sl) : ∀ (rows acc : List Rw) (a b c : Sl), acc.length + rows.length < 16777216 →
  ∃ a' b' c', jD (tupG 3 (zP (zT 2) (zP (zT 3) (zP (zT 4) tgNil)))) GP.knit.b1 (rows.map rwD) [R, .own (acc.map rwD).reverse, a, b, c] = some (.nx [R, .own ((rows.foldl knit1 acc).map rwD).reverse, a', b', c'])
 | [], acc, a, b, c, _ => ⟨a, b, c, rfl⟩
 | r :: rows, acc, a, b, c, h => by
   simp only [List.length_cons] at h
   have hl := knit1_len acc r
   obtain ⟨a', b', c', ih⟩ := knit_loop R rows (knit1 acc r) (.v (oi r.1)) (.v (oi r.2.1)) (.v (oi r.2.2)) (by omega)
   refine ⟨a', b', c', ?_⟩
   rcases knit_turn acc r R a b c (by omega) with e | e <;> simp [jD, e, ih]
theorem knit_eq (rows : List Rw) (h : rows.length < 16777216) : GP.knit.f [.lst (rows.map rwD)] = some (.fresh ((knitF rows).map rwD)) := by
 obtain ⟨a, b, c, e⟩ := knit_loop (.v (.lst (rows.map rwD))) rows [] .no .no .no (by simpa using h)
 simp only [List.reverse_nil, List.map_nil] at e
 unfold GP.knit.f runG GP.knit.g
 have fl := yW (knitF rows)
 unfold knitF at fl ⊢
 rw [List.map_reverse] at fl ⊢
 simp [args, e, fl]
theorem knitF_len (rows : List Rw) : (knitF rows).length <= rows.length := by
 unfold knitF
 rw [List.length_reverse]
 have : ∀ (rows acc : List Rw), (rows.foldl knit1 acc).length <= acc.length + rows.length := by
  intro rows
  induction rows with
  | nil => intro acc; simp
  | cons r t ih =>
    intro acc
    have := ih (knit1 acc r)
    have := knit1_len acc r
    simp only [List.foldl_cons, List.length_cons]
    omega
 have := this rows []
 simpa using this
def adjOk : List Rw -> Prop
 | b :: a :: t => ¬ (a.2.1 = b.1 /\ a.2.2 = b.2.2) /\ adjOk (a :: t)
 | _ => True
structure KI (acc : List Rw) : Prop where
 ok : ∀ r ∈ acc, ok3 r
 pw : acc.Pairwise fun b a => ahead a b
 val : ∀ r ∈ acc, r.2.2 ≠ none
 adj : adjOk acc
theorem KI.nil : KI [] := ⟨(fun _ h => nomatch h), List.Pairwise.nil, (fun _ h => nomatch h), trivial⟩
theorem wV (r : Rw) (p : Int) : has3 r p = true ↔ (∀ a, r.1 = some a -> a <= p) /\ (∀ b, r.2.1 = some b -> p < b) := yP _ _
theorem knit1_step {acc : List Rw} {r : Rw} (k : KI acc) (ho : ok3 r) (ha : ∀ a ∈ acc, ahead a r) :
  KI (knit1 acc r) /\ (∀ r', ahead r r' -> (∀ a ∈ acc, ahead a r') -> ∀ a ∈ knit1 acc r, ahead a r') /\ ∀ p v, Tel (knit1 acc r) p v ↔ Tel acc p v \/ (has3 r p = true /\ r.2.2 = some v) := by
 obtain ⟨lo, bh, w⟩ := r
 cases w with
 | none =>
   refine ⟨k, fun r' _ h => h, fun p v => ⟨.inl, fun h => h.elim id fun z => by simp at z⟩⟩
 | some w =>
   cases acc with
   | nil =>
     refine ⟨⟨?_, ?_, ?_, trivial⟩, ?_, ?_⟩
     · intro x hx; simp [knit1] at hx; subst hx; exact ho
     · simp [knit1]
     · intro x hx; simp [knit1] at hx; subst hx; simp
     · intro r' h1 _ a h; simp [knit1] at h; subst h; exact h1
     · intro p v; simp [knit1, Tel]
   | cons q t =>
     obtain ⟨x, y, hx, hy, hxy⟩ := ha q List.mem_cons_self
     simp only at hy
     have pw := List.pairwise_cons.mp k.pw
     by_cases hm : q.2.1 = lo /\ q.2.2 = some w
     · have e : knit1 (q :: t) (lo, bh, some w) = (q.1, bh, some w) :: t := by simp [knit1, hm.1, hm.2]
       rw [e]
       have exy : x = y := by
        have := hm.1
        rw [hx, hy] at this
        exact Option.some.inj this
       have hn : ∀ p, has3 (q.1, bh, some w) p = true ↔ has3 q p = true \/ has3 (lo, bh, some w) p = true := by
        intro p
        rw [wV, wV, wV]
        simp only
        constructor
        · rintro ⟨h1, h2⟩
          by_cases hp : p < x
          · exact .inl ⟨h1, fun b hb => by rw [hx] at hb; cases hb; exact hp⟩
          · exact .inr ⟨fun a h => by rw [hy] at h; cases h; omega, h2⟩
        · rintro (⟨h1, h2⟩ | ⟨h1, h2⟩)
          · refine ⟨h1, fun b hb => ?_⟩
            have := h2 x hx
            have := ho y b hy hb
            omega
          · refine ⟨fun a h => ?_, h2⟩
            have := k.ok q List.mem_cons_self a x h hx
            have := h1 y hy
            omega
       refine ⟨⟨?_, ?_, ?_, ?_⟩, ?_, ?_⟩
       · intro z hz
         rcases List.mem_cons.mp hz with rfl | hz
         · intro a b h1 h2
           have := k.ok q List.mem_cons_self a x h1 hx
           have := ho y b hy h2
           omega
         · exact k.ok z (List.mem_cons_of_mem _ hz)
       · refine List.pairwise_cons.mpr ⟨fun a h => ?_, pw.2⟩
         exact pw.1 a h
       · intro z hz
         rcases List.mem_cons.mp hz with rfl | hz
         · simp
         · exact k.val z (List.mem_cons_of_mem _ hz)
       · have ka := k.adj
         cases t with
         | nil => trivial
         | cons a t =>
           refine ⟨fun h => ka.1 ⟨h.1, ?_⟩, ka.2⟩
           rw [hm.2]
           exact h.2
       · intro r' h1 h2 a h
         rcases List.mem_cons.mp h with rfl | h
         · exact h1
         · exact h2 a (List.mem_cons_of_mem _ h)
       · intro p v
         constructor
         · rintro ⟨z, hz, h1, h2⟩
           rcases List.mem_cons.mp hz with rfl | hz
           · rcases (hn p).mp h1 with h3 | h3
             · exact .inl ⟨q, List.mem_cons_self, h3, hm.2.trans h2⟩
             · exact .inr ⟨h3, h2⟩
           · exact .inl ⟨z, List.mem_cons_of_mem _ hz, h1, h2⟩
         · rintro (⟨z, hz, h1, h2⟩ | ⟨h1, h2⟩)
           · rcases List.mem_cons.mp hz with rfl | hz
             · exact ⟨_, List.mem_cons_self, (hn p).mpr (.inl h1), by rw [hm.2] at h2; exact h2⟩
             · exact ⟨z, List.mem_cons_of_mem _ hz, h1, h2⟩
           · exact ⟨_, List.mem_cons_self, (hn p).mpr (.inr h1), h2⟩
     · have e : knit1 (q :: t) (lo, bh, some w) = (lo, bh, some w) :: q :: t := by simp only [knit1]; rw [if_neg hm]
       rw [e]
       refine ⟨⟨?_, List.pairwise_cons.mpr ⟨ha, k.pw⟩, ?_, hm, k.adj⟩, ?_, ?_⟩
       · intro z hz
         rcases List.mem_cons.mp hz with rfl | hz
         · exact ho
         · exact k.ok z hz
       · intro z hz
         rcases List.mem_cons.mp hz with rfl | hz
         · simp
         · exact k.val z hz
       · intro r' h1 h2 a h
         rcases List.mem_cons.mp h with rfl | h
         · exact h1
         · exact h2 a h
       · intro p v
         constructor
         · rintro ⟨z, hz, h1, h2⟩
           rcases List.mem_cons.mp hz with rfl | hz
           · exact .inr ⟨h1, h2⟩
           · exact .inl ⟨z, hz, h1, h2⟩
         · rintro (⟨z, hz, h1, h2⟩ | ⟨h1, h2⟩)
           · exact ⟨z, List.mem_cons_of_mem _ hz, h1, h2⟩
           · exact ⟨_, List.mem_cons_self, h1, h2⟩
theorem vN : ∀ (rows acc : List Rw), KI acc -> Ord rows -> (∀ a ∈ acc, ∀ r ∈ rows, ahead a r) -> KI (rows.foldl knit1 acc) /\ ∀ p v, Tel (rows.foldl knit1 acc) p v ↔ Tel acc p v \/ Tel rows p v
 | [], acc, k, _, _ => ⟨k, fun p v => ⟨.inl, fun h => h.elim id fun ⟨r, hr, _⟩ => nomatch hr⟩⟩
 | r :: rows, acc, k, o, h => by
   have pw := List.pairwise_cons.mp o.pw
   obtain ⟨k1, h1, t1⟩ := knit1_step k (o.ok r List.mem_cons_self) fun a ha => h a ha r List.mem_cons_self
   obtain ⟨k2, t2⟩ := vN rows (knit1 acc r) k1 ⟨fun z hz => o.ok z (List.mem_cons_of_mem _ hz), pw.2⟩ fun a ha r' hr' => h1 r' (pw.1 r' hr') (fun b hb => h b hb r' (List.mem_cons_of_mem _ hr')) a ha
   refine ⟨k2, fun p v => ?_⟩
   show Tel (rows.foldl knit1 (knit1 acc r)) p v ↔ _
   rw [t2, t1]
   constructor
   · rintro ((h | ⟨h, e⟩) | ⟨z, hz, h⟩)
     · exact .inl h
     · exact .inr ⟨r, List.mem_cons_self, h, e⟩
     · exact .inr ⟨z, List.mem_cons_of_mem _ hz, h⟩
   · rintro (h' | ⟨z, hz, h'⟩)
     · exact .inl (.inl h')
     · rcases List.mem_cons.mp hz with rfl | hz
       · exact .inl (.inr h')
       · exact .inr ⟨z, hz, h'⟩
structure MapF (ps : List Rw) : Prop where
 ord : Ord ps
 val : ∀ r ∈ ps, r.2.2 ≠ none
 adj : ∀ (i : Nat) (a b : Rw), ps[i]? = some a -> ps[i + 1]? = some b -> ¬ (a.2.1 = b.1 /\ a.2.2 = b.2.2)
theorem adjOk_get : ∀ {l : List Rw}, adjOk l -> ∀ (i : Nat) (b a : Rw), l[i]? = some b -> l[i + 1]? = some a -> ¬ (a.2.1 = b.1 /\ a.2.2 = b.2.2)
 | [], _, i, b, a, e, _ => by simp at e
 | [x], _, i, b, a, e, e2 => by simp at e2
 | x :: y :: t, h, 0, b, a, e, e2 => by
   simp at e e2
   subst e e2
   exact h.1
 | x :: y :: t, h, i + 1, b, a, e, e2 => adjOk_get h.2 i b a (by simpa using e) (by simpa using e2)
theorem KI.map {acc : List Rw} (k : KI acc) : MapF acc.reverse := by
 refine ⟨⟨fun r hr => k.ok r (List.mem_reverse.mp hr), List.pairwise_reverse.mpr k.pw⟩, fun r hr => k.val r (List.mem_reverse.mp hr), fun i a b h1 h2 => ?_⟩
 have l2 := (List.getElem?_eq_some_iff.mp h2).1
 rw [List.length_reverse] at l2
 rw [List.getElem?_reverse (by omega)] at h1 h2
 refine adjOk_get k.adj (acc.length - 1 - (i + 1)) b a h2 ?_
 rw [<- h1]
 congr 1
 omega
theorem tel_reverse {l : List Rw} {p v : Int} : Tel l.reverse p v ↔ Tel l p v := ⟨fun ⟨r, h, q⟩ => ⟨r, List.mem_reverse.mp h, q⟩, fun ⟨r, h, q⟩ => ⟨r, List.mem_reverse.mpr h, q⟩⟩
theorem knitF_map {rows : List Rw} (o : Ord rows) : MapF (knitF rows) := (vN rows [] KI.nil o (fun _ h => nomatch h)).1.map
theorem knitF_tel {rows : List Rw} (o : Ord rows) (p v : Int) : Tel (knitF rows) p v ↔ Tel rows p v := by
 unfold knitF
 rw [tel_reverse, (vN rows [] KI.nil o (fun _ h => nomatch h)).2]
 exact ⟨fun h => h.elim (fun ⟨r, hr, _⟩ => nomatch hr) id, .inr⟩
def valL (rows : List Rw) (p : Int) : Option Int := rows.foldl (fun t r => if has3 r p = true then r.2.2 else t) none
theorem xT {a b : Rw} {p : Int} (h : ahead a b) (h1 : has3 a p = true) (h2 : has3 b p = true) : False := by
 obtain ⟨x, y, hx, hy, hxy⟩ := h
 rw [wV] at h1 h2
 have := h1.2 x hx
 have := h2.1 y hy
 omega
theorem valL_none {rows : List Rw} {p : Int} (h : ∀ r ∈ rows, has3 r p = false) (t : Option Int) : rows.foldl (fun t r => if has3 r p = true then r.2.2 else t) t = t := by
 induction rows generalizing t with
 | nil => rfl
 | cons r rows ih =>
   rw [List.foldl_cons, h r List.mem_cons_self]
   exact ih (fun z hz => h z (List.mem_cons_of_mem _ hz)) _
theorem yU {rows : List Rw} (o : Ord rows) (p v : Int) : valL rows p = some v ↔ Tel rows p v := by
 have key : ∀ (rows : List Rw), Ord rows -> ∀ t : Option Int, rows.foldl (fun t r => if has3 r p = true then r.2.2 else t) t = (match rows.find? (fun r => has3 r p) with | some r => r.2.2 | none => t) := by
  intro rows
  induction rows with
  | nil => intro _ t; rfl
  | cons r rows ih =>
    intro o t
    have pw := List.pairwise_cons.mp o.pw
    rw [List.foldl_cons]
    cases h : has3 r p with
    | true =>
      rw [List.find?_cons_of_pos (by exact h)]
      simp only [if_true]
      exact valL_none (fun z hz => by
       cases hz' : has3 z p with
       | false => rfl
       | true => exact (xT (pw.1 z hz) h hz').elim) _
    | false =>
      rw [List.find?_cons_of_neg (by simpa using h)]
      simp only [Bool.false_eq_true, if_false]
      exact ih ⟨fun z hz => o.ok z (List.mem_cons_of_mem _ hz), pw.2⟩ t
 unfold valL
 rw [key rows o none]
 constructor
 · intro h
   cases hf : rows.find? (fun r => has3 r p) with
   | none => rw [hf] at h; cases h
   | some r =>
     rw [hf] at h
     exact ⟨r, List.mem_of_find?_eq_some hf, by simpa using List.find?_some hf, h⟩
 · rintro ⟨r, hr, h1, h2⟩
   cases hf : rows.find? (fun r => has3 r p) with
   | none =>
     have := List.find?_eq_none.mp hf r hr
     exact (this h1).elim
   | some r' =>
     have h3 : has3 r' p = true := by simpa using List.find?_some hf
     have hm := List.mem_of_find?_eq_some hf
     have : r' = r := by
      by_cases e : r' = r
      · exact e
      · exfalso
        have pw := o.pw
        rcases List.mem_iff_getElem.mp hr with ⟨i, hi, rfl⟩
        rcases List.mem_iff_getElem.mp hm with ⟨j, hj, rfl⟩
        rcases Nat.lt_trichotomy i j with hlt | hlt | hlt
        · exact xT (List.pairwise_iff_getElem.mp pw i j hi hj hlt) h1 h3
        · subst hlt; exact e rfl
        · exact xT (List.pairwise_iff_getElem.mp pw j i hj hi hlt) h3 h1
     rw [this]
     exact h2
end FL
namespace FL
open PySem PySem.Spec PyProof.Rows L2
open Builtin.Int (intBits)
structure Drawn (rows : List Rw) (s : Int) : Prop where
 ord : Ord rows
 fin : ∀ r ∈ rows, ∃ lo bh, r.1 = some lo /\ r.2.1 = some bh /\ bh <= s
theorem jX (i : Int) : GL.whole.f [.int i] = some (.val (.bl true)) := by
 unfold GL.whole.f runG GL.whole.g
 simp [args]
end FL
namespace FL
open PySem PySem.Spec PyProof.Rows L2
open Builtin.Int (intBits)
@[simp] theorem methR_ins (n : Nat) (cs : List Nat) (F : Nat -> List D -> Option Ret) (t : Nat) (es l : List D) : methR n cs F (.ins t es) l = if t ∈ cs /\ l.length = n then F t (.ins t es :: l) else none := rfl
end FL
namespace FL
open PySem PySem.Spec PyProof.Rows L2
open Builtin.Int (intBits)
end FL
namespace FL
open PySem PySem.Spec PyProof.Rows L2
end FL
namespace FL
open PySem PySem.Spec PyProof.Rows L2
theorem valL_find {rows : List Rw} (o : Ord rows) (p : Int) : valL rows p = (match rows.find? (fun r => has3 r p) with | some r => r.2.2 | none => none) := by
 cases hf : rows.find? (fun r => has3 r p) with
 | none =>
   cases hv : valL rows p with
   | none => rfl
   | some v =>
     obtain ⟨r, hr, h1, _⟩ := (yU o p v).mp hv
     exact (List.find?_eq_none.mp hf r hr h1).elim
 | some r =>
   have hm := List.mem_of_find?_eq_some hf
   have h3 : has3 r p = true := by simpa using List.find?_some hf
   cases hw : r.2.2 with
   | some v => exact ((yU o p v).mpr ⟨r, hm, h3, hw⟩).trans hw.symm
   | none =>
     cases hv : valL rows p with
     | none => exact hw.symm
     | some v =>
       obtain ⟨r', hr', h1, h2⟩ := (yU o p v).mp hv
       have : r' = r := by
        by_cases e : r' = r
        · exact e
        · exfalso
          rcases List.mem_iff_getElem.mp hr' with ⟨i, hi, rfl⟩
          rcases List.mem_iff_getElem.mp hm with ⟨j, hj, rfl⟩
          rcases Nat.lt_trichotomy i j with hlt | hlt | hlt
          · exact xT (List.pairwise_iff_getElem.mp o.pw i j hi hj hlt) h1 h3
          · subst hlt; exact e rfl
          · exact xT (List.pairwise_iff_getElem.mp o.pw j i hj hi hlt) h3 h1
       rw [this, hw] at h2
       cases h2
end FL
namespace FL
open PySem PySem.Spec PyProof.Rows L2
def part1 (s : Spn) (r : Rw) : Option Rw := (meetS (r.1, r.2.1) s).map fun u => (u.1, u.2, r.2.2)
def qD (ps : List Rw) (s : Spn) : List Rw := ps.filterMap (part1 s)
theorem wB (R : Sl) (s : Spn) : ∀ (ps acc : List Rw) (a b c d : Sl), acc.length + ps.length < 16777216 -> ∃ a' b' c' d', jD (tupG 3 (zP (zT 3) (zP (zT 4) (zP (zT 5) tgNil)))) GP.parts_in.b1 (ps.map rwD) [R, .v (spD s), .own (acc.map rwD), a, b, c, d] = some (.nx [R, .v (spD s), .own ((acc ++ qD ps s).map rwD), a', b', c', d'])
 | [], acc, a, b, c, d, _ => ⟨a, b, c, d, by simp [qD, jD]⟩
 | r :: ps, acc, a, b, c, d, h => by
   simp only [List.length_cons] at h
   have me : GP.meet.f [.tup [oi r.1, oi r.2.1], spD s] = some (.val (oS (meetS (r.1, r.2.1) s))) := meet_eq (r.1, r.2.1) s
   cases hm : meetS (r.1, r.2.1) s with
   | none =>
     rw [hm] at me
     obtain ⟨a', b', c', d', ih⟩ := wB R s ps acc (.v (oi r.1)) (.v (oi r.2.1)) (.v (oi r.2.2)) (.v .non) (by omega)
     refine ⟨a', b', c', d', ?_⟩
     have turn : GP.parts_in.b1 [R, .v (spD s), .own (acc.map rwD), .v (oi r.1), .v (oi r.2.1), .v (oi r.2.2), d] = some (.nx [R, .v (spD s), .own (acc.map rwD), .v (oi r.1), .v (oi r.2.1), .v (oi r.2.2), .v .non]) := by simp [GP.parts_in.b1, me, oS]
     have e : qD (r :: ps) s = qD ps s := by simp [qD, part1, hm]
     rw [e]
     simp [jD, turn, ih]
   | some u =>
     rw [hm] at me
     obtain ⟨a', b', c', d', ih⟩ := wB R s ps (acc ++ [(u.1, u.2, r.2.2)]) (.v (oi r.1)) (.v (oi r.2.1)) (.v (oi r.2.2)) (.v (spD u)) (by simp; omega)
     refine ⟨a', b', c', d', ?_⟩
     have z : acc.length < 16777216 := by omega
     have e0 : D.tup [oi u.1, oi u.2, oi r.2.2] = rwD (u.1, u.2, r.2.2) := rfl
     have turn : GP.parts_in.b1 [R, .v (spD s), .own (acc.map rwD), .v (oi r.1), .v (oi r.2.1), .v (oi r.2.2), d] = some (.nx [R, .v (spD s), .own (acc.map rwD ++ [rwD (u.1, u.2, r.2.2)]), .v (oi r.1), .v (oi r.2.1), .v (oi r.2.2), .v (spD u)]) := by simp [GP.parts_in.b1, me, oS, z, e0]
     have e : qD (r :: ps) s = (u.1, u.2, r.2.2) :: qD ps s := by simp [qD, part1, hm]
     rw [e]
     simp only [List.map_append, List.map_cons, List.map_nil, List.append_assoc, List.cons_append, List.nil_append] at ih ⊢
     simp [jD, turn, ih]
theorem jU (ps : List Rw) (s : Spn) : (qD ps s).length <= ps.length := List.length_filterMap_le _ _
theorem parts_eq (ps : List Rw) (s : Spn) (h : ps.length < 16777216) : GP.parts_in.f [.lst (ps.map rwD), spD s] = some (.fresh ((qD ps s).map rwD)) := by
 obtain ⟨a, b, c, d, e⟩ := wB (.v (.lst (ps.map rwD))) s ps [] .no .no .no .no (by simpa using h)
 simp only [List.map_nil, List.nil_append] at e
 unfold GP.parts_in.f runG GP.parts_in.g
 simp [args, e, yW]
theorem qV {s : Spn} {r r' : Rw} (h : part1 s r = some r') : ok3 r' /\ r'.2.2 = r.2.2 /\ (∀ p, has3 r' p = (has3 r p && hasS s p)) /\ (∀ x, r.2.1 = some x -> ∃ x', r'.2.1 = some x' /\ x' <= x) /\ (∀ y, r.1 = some y -> ∃ y', r'.1 = some y' /\ y <= y') /\ (∀ x, s.2 = some x -> ∃ x', r'.2.1 = some x' /\ x' <= x) /\ (∀ y, s.1 = some y -> ∃ y', r'.1 = some y' /\ y <= y') := by
 unfold part1 at h
 cases hm : meetS (r.1, r.2.1) s with
 | none => rw [hm] at h; cases h
 | some u =>
   rw [hm] at h
   cases h
   have hp := fun p => hasO_meet (r.1, r.2.1) s p
   rw [hm] at hp
   refine ⟨meetS_ok hm, rfl, fun p => hp p, ?_, ?_, ?_, ?_⟩
   all_goals (unfold meetS at hm; split at hm; (· cases hm); cases hm)
   · intro x hx
     show ∃ x', xK r.2.1 s.2 = some x' /\ x' <= x
     rw [hx]
     cases s.2 <;> simp [xK]
     omega
   · intro y hy
     show ∃ y', lateL r.1 s.1 = some y' /\ y <= y'
     rw [hy]
     cases s.1 <;> simp [lateL]
     omega
   · intro x hx
     show ∃ x', xK r.2.1 s.2 = some x' /\ x' <= x
     rw [hx]
     cases r.2.1 <;> simp [xK]
     omega
   · intro y hy
     show ∃ y', lateL r.1 s.1 = some y' /\ y <= y'
     rw [hy]
     cases r.1 <;> simp [lateL]
     omega
theorem part1_none {s : Spn} {r : Rw} (h : part1 s r = none) (p : Int) : (has3 r p && hasS s p) = false := by
 unfold part1 at h
 have hp := hasO_meet (r.1, r.2.1) s p
 cases hm : meetS (r.1, r.2.1) s with
 | none => rw [hm] at hp; exact hp.symm
 | some u => rw [hm] at h; cases h
theorem mem_parts {ps : List Rw} {s : Spn} {r' : Rw} : r' ∈ qD ps s ↔ ∃ r ∈ ps, part1 s r = some r' := List.mem_filterMap
theorem parts_ord {ps : List Rw} (o : Ord ps) (s : Spn) : Ord (qD ps s) := by
 refine ⟨fun r' h => ?_, ?_⟩
 · obtain ⟨r, _, h⟩ := mem_parts.mp h
   exact (qV h).1
 · unfold qD
   rw [List.pairwise_filterMap]
   refine o.pw.imp fun {a b} hab a' ha b' hb => ?_
   obtain ⟨x, y, hx, hy, hxy⟩ := hab
   obtain ⟨x', e1, h1⟩ := (qV ha).2.2.2.1 x hx
   obtain ⟨y', e2, h2⟩ := (qV hb).2.2.2.2.1 y hy
   exact ⟨x', y', e1, e2, by omega⟩
theorem parts_tel {ps : List Rw} {s : Spn} {p v : Int} : Tel (qD ps s) p v ↔ hasS s p = true /\ Tel ps p v := by
 constructor
 · rintro ⟨r', h, h1, h2⟩
   obtain ⟨r, hr, h⟩ := mem_parts.mp h
   obtain ⟨_, e, hh, _⟩ := qV h
   rw [hh p, Bool.and_eq_true] at h1
   exact ⟨h1.2, r, hr, h1.1, e ▸ h2⟩
 · rintro ⟨hs, r, hr, h1, h2⟩
   cases h : part1 s r with
   | none =>
     have := part1_none h p
     rw [h1, hs] at this
     cases this
   | some r' =>
     obtain ⟨_, e, hh, _⟩ := qV h
     exact ⟨r', mem_parts.mpr ⟨r, hr, h⟩, by rw [hh p, h1, hs]; rfl, e.trans h2⟩
def loP (ps : List Rw) : Option Int -> List Rw
 | none => []
 | some a => qD ps (none, some a)
def hiP (ps : List Rw) : Option Int -> List Rw
 | none => []
 | some b => qD ps (some b, none)
def overF (ps : List Rw) (s : Spn) (v : Option Int) : List Rw := loP ps s.1 ++ (s.1, s.2, v) :: hiP ps s.2
theorem parts_two {ps : List Rw} (o : Ord ps) {a b : Int} (h : a < b) : (qD ps (none, some a)).length + (qD ps (some b, none)).length <= ps.length + 1 := by
 induction ps with
 | nil => simp [qD]
 | cons r t ih =>
   have pw := List.pairwise_cons.mp o.pw
   have ot : Ord t := ⟨fun z hz => o.ok z (List.mem_cons_of_mem _ hz), pw.2⟩
   have ih := ih ot
   cases h1 : part1 (none, some a) r with
   | none =>
     have e1 : qD (r :: t) (none, some a) = qD t (none, some a) := by simp [qD, h1]
     rw [e1]
     have : (qD (r :: t) (some b, none)).length <= (qD t (some b, none)).length + 1 := by
      unfold qD
      rw [List.filterMap_cons]
      split <;> simp
     simp only [List.length_cons]
     omega
   | some r1 =>
     have e1 : qD (r :: t) (none, some a) = r1 :: qD t (none, some a) := by simp [qD, h1]
     rw [e1]
     cases h2 : part1 (some b, none) r with
     | none =>
       have e2 : qD (r :: t) (some b, none) = qD t (some b, none) := by simp [qD, h2]
       rw [e2]
       simp only [List.length_cons]
       omega
     | some r2 =>
       have e2 : qD (r :: t) (some b, none) = r2 :: qD t (some b, none) := by simp [qD, h2]
       have e3 : qD t (none, some a) = [] := by
        unfold qD
        rw [List.filterMap_eq_nil_iff]
        intro z hz
        cases hz' : part1 (none, some a) z with
        | none => rfl
        | some z' =>
          exfalso
          obtain ⟨x, y, hx, hy, hxy⟩ := pw.1 z hz
          have k2 := qV h2
          have kz := qV hz'
          obtain ⟨x2, ex2, hx2⟩ := k2.2.2.2.1 x hx
          obtain ⟨y2, ey2, hy2⟩ := k2.2.2.2.2.2.2 b rfl
          have := k2.1 y2 x2 ey2 ex2
          obtain ⟨y3, ey3, hy3⟩ := kz.2.2.2.2.1 y hy
          obtain ⟨x3, ex3, hx3⟩ := kz.2.2.2.2.2.1 a rfl
          have := kz.1 y3 x3 ey3 ex3
          omega
       rw [e2, e3]
       have := jU t (some b, none)
       simp only [List.length_cons, List.length_nil]
       omega
theorem over_len {ps : List Rw} (o : Ord ps) (s : Spn) (hs : okS s) (v : Option Int) : (overF ps s v).length <= ps.length + 2 := by
 obtain ⟨lo, bh⟩ := s
 unfold overF loP hiP
 cases lo with
 | none =>
   cases bh with
   | none => simp
   | some b =>
     have := jU ps (some b, none)
     simp
     omega
 | some a =>
   cases bh with
   | none =>
     have := jU ps (none, some a)
     simp
     omega
   | some b =>
     have := parts_two o (hs a b rfl rfl)
     simp
     omega
theorem over_ord {ps : List Rw} (o : Ord ps) (s : Spn) (hs : okS s) (v : Option Int) : Ord (overF ps s v) := by
 obtain ⟨lo, bh⟩ := s
 unfold overF
 have l1 : ∀ r ∈ (loP ps lo), ok3 r /\ ∃ a x, lo = some a /\ r.2.1 = some x /\ x <= a := by
  cases lo with
  | none => intro r h; cases h
  | some a =>
    intro r h
    obtain ⟨q, _, h⟩ := mem_parts.mp h
    obtain ⟨x, e, hx⟩ := (qV h).2.2.2.2.2.1 a rfl
    exact ⟨(qV h).1, a, x, rfl, e, hx⟩
 have l2 : ∀ r ∈ (hiP ps bh), ok3 r /\ ∃ b y, bh = some b /\ r.1 = some y /\ b <= y := by
  cases bh with
  | none => intro r h; cases h
  | some b =>
    intro r h
    obtain ⟨q, _, h⟩ := mem_parts.mp h
    obtain ⟨y, e, hy⟩ := (qV h).2.2.2.2.2.2 b rfl
    exact ⟨(qV h).1, b, y, rfl, e, hy⟩
 have o1 : Ord (loP ps lo) := by
  cases lo with
  | none => exact ⟨(fun _ h => nomatch h), List.Pairwise.nil⟩
  | some a => exact parts_ord o _
 have o2 : Ord (hiP ps bh) := by
  cases bh with
  | none => exact ⟨(fun _ h => nomatch h), List.Pairwise.nil⟩
  | some b => exact parts_ord o _
 refine ⟨fun r h => ?_, ?_⟩
 · rcases List.mem_append.mp h with h | h
   · exact (l1 r h).1
   · rcases List.mem_cons.mp h with rfl | h
     · exact hs
     · exact (l2 r h).1
 · refine List.pairwise_append.mpr ⟨o1.pw, List.pairwise_cons.mpr ⟨fun r h => ?_, o2.pw⟩, fun a ha b hb => ?_⟩
   · obtain ⟨_, b, y, e, e2, hy⟩ := l2 r h
     exact ⟨b, y, e, e2, hy⟩
   · obtain ⟨_, x, x', e, e2, hx⟩ := l1 a ha
     rcases List.mem_cons.mp hb with rfl | hb
     · exact ⟨x', x, e2, e, hx⟩
     · obtain ⟨_, y, y', e3, e4, hy⟩ := l2 b hb
       have := hs x y e e3
       exact ⟨x', y', e2, e4, by omega⟩
theorem over_tel {ps : List Rw} (s : Spn) (hs : okS s) (v : Option Int) (p w : Int) : Tel (overF ps s v) p w ↔ if hasS s p = true then v = some w else Tel ps p w := by
 obtain ⟨lo, bh⟩ := s
 have h1 : Tel (loP ps lo) p w ↔ (∃ a, lo = some a /\ p < a) /\ Tel ps p w := by
  cases lo with
  | none => exact ⟨(fun ⟨r, h, _⟩ => nomatch h), (fun ⟨⟨a, e, _⟩, _⟩ => by cases e)⟩
  | some a =>
    show Tel (qD ps (none, some a)) p w ↔ _
    rw [parts_tel]
    simp [hasS]
 have h2 : Tel (hiP ps bh) p w ↔ (∃ b, bh = some b /\ b <= p) /\ Tel ps p w := by
  cases bh with
  | none => exact ⟨(fun ⟨r, h, _⟩ => nomatch h), (fun ⟨⟨a, e, _⟩, _⟩ => by cases e)⟩
  | some b =>
    show Tel (qD ps (some b, none)) p w ↔ _
    rw [parts_tel]
    simp [hasS]
 have h3 : Tel (overF ps (lo, bh) v) p w ↔ Tel (loP ps lo) p w \/ (hasS (lo, bh) p = true /\ v = some w) \/ Tel (hiP ps bh) p w := by
  unfold overF
  constructor
  · rintro ⟨r, h, e1, e2⟩
    rcases List.mem_append.mp h with h | h
    · exact .inl ⟨r, h, e1, e2⟩
    · rcases List.mem_cons.mp h with rfl | h
      · exact .inr (.inl ⟨e1, e2⟩)
      · exact .inr (.inr ⟨r, h, e1, e2⟩)
  · rintro (⟨r, h, e1, e2⟩ | ⟨e1, e2⟩ | ⟨r, h, e1, e2⟩)
    · exact ⟨r, List.mem_append_left _ h, e1, e2⟩
    · exact ⟨_, List.mem_append_right _ List.mem_cons_self, e1, e2⟩
    · exact ⟨r, List.mem_append_right _ (List.mem_cons_of_mem _ h), e1, e2⟩
 rw [h3, h1, h2]
 by_cases hp : hasS (lo, bh) p = true
 · rw [if_pos hp]
   have hq := (yP _ _).mp hp
   constructor
   · rintro (⟨⟨a, e, hlt⟩, _⟩ | ⟨_, e⟩ | ⟨⟨b, e, hle⟩, _⟩)
     · have := hq.1 a e; omega
     · exact e
     · have := hq.2 b e; omega
   · exact fun e => .inr (.inl ⟨hp, e⟩)
 · rw [if_neg hp]
   constructor
   · rintro (⟨_, h⟩ | ⟨e, _⟩ | ⟨_, h⟩)
     · exact h
     · exact (hp e).elim
     · exact h
   · intro h
     by_cases hl : ∃ a, lo = some a /\ p < a
     · exact .inl ⟨hl, h⟩
     · by_cases hb : ∃ b, bh = some b /\ b <= p
       · exact .inr (.inr ⟨hb, h⟩)
       · exfalso
         apply hp
         rw [yP]
         refine ⟨fun a e => ?_, fun b e => ?_⟩
         · exact Int.not_lt.mp fun z => hl ⟨a, e, z⟩
         · exact Int.not_le.mp fun z => hb ⟨b, e, z⟩
theorem over_eq {ps : List Rw} (s : Spn) (v : Option Int) (h : ps.length <= 1000000) : GP.rows_over.f [.lst (ps.map rwD), spD s, oi v] = some (.fresh ((overF ps s v).map rwD)) := by
 obtain ⟨lo, bh⟩ := s
 have p1 : ∀ a : Int, GP.parts_in.f [.lst (ps.map rwD), .tup [.non, .int a]] = some (.fresh ((qD ps (none, some a)).map rwD)) := fun a => parts_eq ps (none, some a) (by omega)
 have p2 : ∀ a : Int, GP.parts_in.f [.lst (ps.map rwD), .tup [.int a, .non]] = some (.fresh ((qD ps (some a, none)).map rwD)) := fun a => parts_eq ps (some a, none) (by omega)
 have e0 : D.tup [oi lo, oi bh, oi v] = rwD (lo, bh, v) := rfl
 have fl := yW (overF ps (lo, bh) v)
 unfold overF loP hiP at fl ⊢
 unfold GP.rows_over.f runG GP.rows_over.g
 cases lo with
 | none =>
   cases bh with
   | none => simp at fl e0; simp [args, e0]
   | some b =>
     have z := jU ps (some b, none)
     have z1 : 1 + (qD ps (some b, none)).length <= 16777216 := by omega
     simp at fl e0
     simp [args, p2, e0, z1, fl]
 | some a =>
   have z := jU ps (none, some a)
   have z0 : (qD ps (none, some a)).length <= 16777216 := by omega
   have z1 : (qD ps (none, some a)).length < 16777216 := by omega
   cases bh with
   | none =>
     simp at fl e0
     simp [args, p1, e0, z0, z1, fl]
   | some b =>
     have z' := jU ps (some b, none)
     have z2 : (qD ps (none, some a)).length + 1 + (qD ps (some b, none)).length <= 16777216 := by omega
     simp at fl e0
     simp [args, p1, p2, e0, z0, z1, z2, fl]
abbrev Rv := Spn × Option Int
def rvD (r : Rv) : D := .tup [spD r.1, oi r.2]
@[simp] theorem rvD_flat (r : Rv) : flat (rvD r) = true := by simp [rvD]
@[simp] theorem rvD_flatR (r : Rv) : flatR (rvD r) = some (.rt (.val (rvD r))) := yE (by simp)
@[simp] theorem rvD_shal (r : Rv) (n : Nat) : shal (n + 2) (rvD r) = true := by simp [rvD]
@[simp] theorem rvD_tupG (h : List D -> List Sl -> Option (List Sl)) (r : Rv) (ds : List Sl) : tupG 2 h (rvD r) ds = h [spD r.1, oi r.2] ds := by simp [rvD]
@[simp] theorem rvD_eqv (r t : Rv) : eqvD (rvD r) (rvD t) = decide (r = t) := by
 obtain ⟨a, b⟩ := r
 obtain ⟨x, y⟩ := t
 rw [Bool.eq_iff_iff]
 simp [rvD]
theorem flats_rv (l : List Rv) : flats (l.map rvD) = true := by
 induction l with
 | nil => simp
 | cons a r ih => simp [ih]
def put1 (ps : List Rw) (r : Rv) : List Rw := knitF (overF ps r.1 r.2)
def formedF (rows : List Rv) : List Rw := rows.foldl put1 []
theorem kF {ps : List Rw} (m : MapF ps) {r : Rv} (h : okS r.1) : MapF (put1 ps r) := knitF_map (over_ord m.ord r.1 h r.2)
theorem put1_len {ps : List Rw} (m : MapF ps) {r : Rv} (h : okS r.1) : (put1 ps r).length <= ps.length + 2 := Nat.le_trans (knitF_len _) (over_len m.ord r.1 h r.2)
theorem put1_tel {ps : List Rw} (m : MapF ps) {r : Rv} (h : okS r.1) (p w : Int) : Tel (put1 ps r) p w ↔ if hasS r.1 p = true then r.2 = some w else Tel ps p w := by
 unfold put1
 rw [knitF_tel (over_ord m.ord r.1 h r.2), over_tel r.1 h r.2]
theorem put1_eq {ps : List Rw} (m : MapF ps) (hl : ps.length <= 100000) {s : Spn} {v : Option Int} (h : okS s) : (GP.rows_over.f [.lst (ps.map rwD), spD s, oi v] = some (.fresh ((overF ps s v).map rwD))) /\ GP.knit.f [.lst ((overF ps s v).map rwD)] = some (.fresh ((put1 ps (s, v)).map rwD)) :=
 ⟨over_eq s v (by omega), knit_eq _ (by have := over_len m.ord s h v; omega)⟩
theorem MapF.nil : MapF [] := ⟨⟨(fun _ h => nomatch h), List.Pairwise.nil⟩, (fun _ h => nomatch h), (fun i a b h _ => by simp at h)⟩
theorem formed_loop (R : Sl) : ∀ (rows : List Rv) (ps : List Rw) (a b : Sl), MapF ps -> (∀ r ∈ rows, okS r.1) -> ps.length + 2 * rows.length <= 100000 →
  (∃ a' b', jD (tupG 2 (zP (zT 2) (zP (zT 3) tgNil))) GP.formed.b1 (rows.map rvD) [R, .own (ps.map rwD), a, b] = some (.nx [R, .own ((rows.foldl put1 ps).map rwD), a', b'])) /\ MapF (rows.foldl put1 ps) /\ (rows.foldl put1 ps).length <= ps.length + 2 * rows.length
 | [], ps, a, b, m, _, _ => ⟨⟨a, b, rfl⟩, m, by simp⟩
 | r :: rows, ps, a, b, m, hs, hl => by
   simp only [List.length_cons] at hl
   have hr := hs r List.mem_cons_self
   have z := put1_len m hr
   obtain ⟨⟨a', b', ih⟩, m', l'⟩ := formed_loop R rows (put1 ps r) (.v (spD r.1)) (.v (oi r.2)) (kF m hr) (fun x hx => hs x (List.mem_cons_of_mem _ hx)) (by omega)
   obtain ⟨e1, e2⟩ := put1_eq m (by omega) (s := r.1) (v := r.2) hr
   refine ⟨⟨a', b', ?_⟩, m', by simp only [List.foldl_cons, List.length_cons]; omega⟩
   have turn : GP.formed.b1 [R, .own (ps.map rwD), .v (spD r.1), .v (oi r.2)] = some (.nx [R, .own ((put1 ps r).map rwD), .v (spD r.1), .v (oi r.2)]) := by simp [GP.formed.b1, e1, e2]
   rw [List.foldl_cons]
   simp [jD, turn, ih]
theorem vK (rows : List Rv) (hs : ∀ r ∈ rows, okS r.1) (hl : rows.length <= 1000) : GP.formed.f [.lst (rows.map rvD)] = some (.fresh ((formedF rows).map rwD)) /\ MapF (formedF rows) /\ (formedF rows).length <= 2 * rows.length := by
 obtain ⟨⟨a, b, e⟩, m, l⟩ := formed_loop (.v (.lst (rows.map rvD))) rows [] .no .no MapF.nil hs (by simp; omega)
 refine ⟨?_, m, by unfold formedF; simpa using l⟩
 simp only [List.map_nil] at e
 have fl := yW (formedF rows)
 unfold formedF at fl ⊢
 unfold GP.formed.f runG GP.formed.g
 simp [args, e, fl]
def dueF (rows : List Rv) (p : Int) : Option Int := match rows.reverse.find? (fun r => hasS r.1 p) with
 | some r => r.2
 | none => none
theorem formed_tel (rows : List Rv) (hs : ∀ r ∈ rows, okS r.1) (p w : Int) : Tel (formedF rows) p w ↔ dueF rows p = some w := by
 have key : ∀ (rows : List Rv) (ps : List Rw), MapF ps -> (∀ r ∈ rows, okS r.1) -> (Tel (rows.foldl put1 ps) p w ↔ (match rows.reverse.find? (fun r => hasS r.1 p) with | some r => r.2 = some w | none => Tel ps p w)) := by
  intro rows
  induction rows with
  | nil => intro ps _ _; exact Iff.rfl
  | cons r rows ih =>
    intro ps m hs
    have hr := hs r List.mem_cons_self
    rw [List.foldl_cons, ih (put1 ps r) (kF m hr) fun x hx => hs x (List.mem_cons_of_mem _ hx)]
    rw [List.reverse_cons, List.find?_append]
    cases hf : rows.reverse.find? (fun r => hasS r.1 p) with
    | some q => simp
    | none =>
      rw [Option.none_or, put1_tel m hr]
      cases h : hasS r.1 p with
      | true => simp [h]
      | false => simp [h]
 unfold formedF
 rw [key rows [] MapF.nil hs]
 unfold dueF
 cases rows.reverse.find? (fun r => hasS r.1 p) with
 | some r => exact Iff.rfl
 | none => exact ⟨(fun ⟨r, h, _⟩ => nomatch h), (fun h => nomatch h)⟩
end FL
namespace FL
open PySem PySem.Spec PyProof.Rows L2
open Builtin.Int (intBits)
theorem is_map3_eq (ps : List Rw) (h : MapF ps) (hl : ps.length <= 1000) : GL.is_map3.f [.lst (ps.map rwD)] = some (.val (.bl true)) := by
 have lp : ∀ a b c d e : Sl, ∃ a' b' c' d' e', jD (zT 1) GL.is_map3.b1 (rangeD 0 ps.length) [.v (.lst (ps.map rwD)), a, b, c, d, e] = some (.nx [.v (.lst (ps.map rwD)), a', b', c', d', e']) := by
  intro a b c d e
  obtain ⟨ds', e1, a', b', c', d', e', rfl⟩ := kE (ga := zT 1) (body := GL.is_map3.b1) (fun ds => ∃ a b c d e, ds = [.v (.lst (ps.map rwD)), a, b, c, d, e]) (rangeD 0 ps.length) _ ⟨a, b, c, d, e, rfl⟩ (by
   rintro _ hd _ ⟨a, b, c, d, e, rfl⟩
   obtain ⟨k, hk, rfl⟩ := mem_rangeD hd
   have hr : ps[k]? = some ps[k] := List.getElem?_eq_getElem hk
   have i1 : ixD (.lst (ps.map rwD)) (.int (0 + (k : Int))) = some (rwD ps[k]) := by
    rw [xM _ (by omega) (by simp; omega)]
    have : (0 + (k : Int)).toNat = k := by omega
    rw [this]
    simp [hk]
   obtain ⟨v, hv⟩ : ∃ v, ps[k].2.2 = some v := by
    cases hv : ps[k].2.2 with
    | none => exact (h.val _ (List.getElem_mem hk) hv).elim
    | some v => exact ⟨v, rfl⟩
   have ok := h.ord.ok _ (List.getElem_mem hk)
   have hbh : ps[k].2.1 = none -> k + 1 = ps.length := by
    intro hn
    by_cases e : k + 1 < ps.length
    · obtain ⟨x, y, h1, _⟩ := List.pairwise_iff_getElem.mp h.ord.pw k (k + 1) hk e (by omega)
      rw [hn] at h1
      cases h1
    · omega
   have hkz : (0 + (k : Int)) = (k : Int) := by omega
   rw [hkz] at i1
   rw [hkz]
   generalize hR : ps[k] = r at *
   obtain ⟨lo, bh, w⟩ := r
   simp only at hv hbh
   subst hv
   have c3 : bh = none -> ¬ ((k : Int) < (ps.length : Int) - 1) := fun z => by have := hbh z; omega
   by_cases h0 : k = 0
   · subst h0
     have i1 : ixD (.lst (ps.map rwD)) (.int 0) = some (rwD (lo, bh, some v)) := i1
     have c3 : bh = none -> ¬ ((0 : Int) < (ps.length : Int) - 1) := c3
     refine ⟨_, [.v (.lst (ps.map rwD)), .v (.int 0), .v (oi lo), .v (oi bh), .v (.int v), e], rfl, .inl ?_, _, _, _, _, _, rfl⟩
     unfold GL.is_map3.b1
     have e5 : tupG 3 (zP (zT 2) (zP (zT 3) (zP (zT 4) tgNil))) (rwD (lo, bh, some v)) [.v (.lst (ps.map rwD)), .v (.int 0), b, c, d, e] = some [.v (.lst (ps.map rwD)), .v (.int 0), .v (oi lo), .v (oi bh), .v (.int v), e] := by simp
     cases lo with
     | none =>
       cases bh with
       | none => have := c3 rfl; simp [i1, jX]; omega
       | some y => simp [i1, jX]
     | some x =>
       cases bh with
       | none => have := c3 rfl; simp [i1, jX]; omega
       | some y =>
         have : ¬ y <= x := by have := ok x y rfl rfl; omega
         simp [i1, jX, this]
   · have hk1 : k - 1 < ps.length := by omega
     obtain ⟨x, y, hx, hy, hxy⟩ := List.pairwise_iff_getElem.mp h.ord.pw (k - 1) k hk1 hk (by omega)
     rw [hR] at hy
     simp only at hy
     subst hy
     obtain ⟨v', hv'⟩ : ∃ v', ps[k - 1].2.2 = some v' := by
      cases hv : ps[k - 1].2.2 with
      | none => exact (h.val _ (List.getElem_mem hk1) hv).elim
      | some v => exact ⟨v, rfl⟩
     have adj := h.adj (k - 1) ps[k - 1] (some y, bh, some v) (List.getElem?_eq_getElem hk1) (by
      have : k - 1 + 1 = k := by omega
      rw [this, hr])
     simp only [hx, hv'] at adj
     have i2 : ixD (.lst (ps.map rwD)) (.int ((k : Int) - 1)) = some (rwD ps[k - 1]) := by
      rw [xM _ (by omega) (by simp; omega)]
      have : ((k : Int) - 1).toNat = k - 1 := by omega
      rw [this]
      simp [hk1]
     refine ⟨_, [.v (.lst (ps.map rwD)), .v (.int (k : Int)), .v (.int y), .v (oi bh), .v (.int v), .v (rwD ps[k - 1])], rfl, .inl ?_, _, _, _, _, _, rfl⟩
     unfold GL.is_map3.b1
     have hkp : 0 < k := by omega
     have g1 : ¬ y < x := by omega
     have g2 : x = y -> ¬ v' = v := fun e1 e2 => adj ⟨by rw [e1], by rw [e2]⟩
     by_cases hxy' : x = y
     · have := g2 hxy'
       subst hxy'
       cases bh with
       | none => have := c3 rfl; simp [i1, i2, jX, hx, hv', hkp, this]; omega
       | some z =>
         have : ¬ z <= x := by have := ok x z rfl rfl; omega
         simp [i1, i2, jX, hx, hv', hkp, this]; omega
     · cases bh with
       | none => have := c3 rfl; simp [i1, i2, jX, hx, hv', hkp, g1, hxy']; omega
       | some z =>
         have : ¬ z <= y := by have := ok y z rfl rfl; omega
         simp [i1, i2, jX, hx, hv', hkp, this, g1, hxy'])
  exact ⟨a', b', c', d', e', e1⟩
 obtain ⟨a', b', c', d', e', e⟩ := lp .no .no .no .no .no
 have ok : okR (ps.length : Int) := vE (by omega) (by omega)
 unfold GL.is_map3.f runG GL.is_map3.g
 simp [args, ok, e]
end FL
namespace FL
open PySem PySem.Spec PyProof.Rows L2
theorem yJ {α : Type} {ga : D -> List Sl -> Option (List Sl)} {fe : FE} {s0 : List Sl} (f h : α -> D) : ∀ (xs : List α), (∀ x ∈ xs, ∃ ds1, ga (f x) s0 = some ds1 /\ fe ds1 = some (h x)) -> compL ga (fun _ => some true) fe s0 (xs.map f) = some (xs.map h)
 | [], _ => rfl
 | x :: xs, H => by
   obtain ⟨ds1, e1, e2⟩ := H x List.mem_cons_self
   have ih := yJ (ga := ga) (fe := fe) (s0 := s0) f h xs fun y hy => H y (List.mem_cons_of_mem _ hy)
   simp only [List.map_cons, compL, e1, e2, ih, Option.bind_some, if_true, Option.map_some]
end FL
namespace FL
open PySem PySem.Spec PyProof.Rows L2
theorem flats_spn (l : List Spn) : flats (l.map spD) = true := by
 induction l with
 | nil => simp
 | cons a r ih => simp [ih, spD]
end FL
namespace FL
open PySem PySem.Spec PyProof.Rows L2
abbrev R4 := Option Int × Option Int × Option Int × Option Int
def r4D (r : R4) : D := .tup [oi r.1, oi r.2.1, oi r.2.2.1, oi r.2.2.2]
end FL
namespace FL
open PySem PySem.Spec PyProof.Rows L2
@[simp] theorem r4D_tupG (h : List D -> List Sl -> Option (List Sl)) (r : R4) (ds : List Sl) : tupG 4 h (r4D r) ds = h [oi r.1, oi r.2.1, oi r.2.2.1, oi r.2.2.2] ds := by simp [r4D]
theorem some_place_ex (s : Spn) (h : okS s) : ∃ p, hasS s p = true /\ GP.some_place.f [spD s] = some (.val (.int p)) := by
 obtain ⟨a, b⟩ := s
 unfold GP.some_place.f runG GP.some_place.g
 cases a with
 | some x =>
   refine ⟨x, ?_, by simp [args]⟩
   cases b with
   | none => simp [hasS]
   | some y => have := h x y rfl rfl; simp [hasS, this]
 | none =>
   cases b with
   | some y => exact ⟨y - 1, by simp [hasS]; omega, by simp [args]⟩
   | none => exact ⟨0, by simp [hasS], by simp [args]⟩
theorem wT {r : Rw} {t : List Rw} (m : MapF (r :: t)) : MapF t :=
 ⟨⟨fun z hz => m.ord.ok z (List.mem_cons_of_mem _ hz), (List.pairwise_cons.mp m.ord.pw).2⟩, fun z hz => m.val z (List.mem_cons_of_mem _ hz), fun i a b h1 h2 => m.adj (i + 1) a b (by simpa using h1) (by simpa using h2)⟩
theorem has_place (r : Rw) (h : ok3 r) : ∃ p, has3 r p = true := by
 obtain ⟨p, hp, _⟩ := some_place_ex (r.1, r.2.1) h
 exact ⟨p, hp⟩
theorem later {r z : Rw} {t : List Rw} (o : Ord (r :: t)) (hz : z ∈ t) {p : Int} (hp : has3 z p = true) : ∃ x y, r.2.1 = some x /\ z.1 = some y /\ x <= y /\ y <= p := by
 obtain ⟨x, y, h1, h2, h3⟩ := (List.pairwise_cons.mp o.pw).1 z hz
 refine ⟨x, y, h1, h2, h3, ?_⟩
 unfold has3 hasS at hp
 simp only [h2, Bool.and_eq_true, decide_eq_true_eq] at hp
 exact hp.1
theorem qX (r : Rw) (p : Int) : has3 r p = true ↔ (∀ x, r.1 = some x -> x <= p) /\ ∀ y, r.2.1 = some y -> p < y := by
 obtain ⟨a, b, v⟩ := r
 unfold has3 hasS
 cases a <;> cases b <;> simp
theorem low_le {r s : Rw} {t u : List Rw} (m : MapF (r :: t)) (k : MapF (s :: u)) (h : ∀ p v, Tel (r :: t) p v -> Tel (s :: u) p v) : ∀ b, s.1 = some b -> ∃ a, r.1 = some a /\ b <= a := by
 intro b hb
 obtain ⟨v, hv⟩ : ∃ v, r.2.2 = some v := by
  cases hv : r.2.2 with
  | none => exact (m.val r List.mem_cons_self hv).elim
  | some v => exact ⟨v, rfl⟩
 have ge : ∀ p, has3 r p = true -> b <= p := by
  intro p hp
  obtain ⟨z, hz, hzp, _⟩ := h p v ⟨r, List.mem_cons_self, hp, hv⟩
  rcases List.mem_cons.mp hz with rfl | hz
  · exact ((qX _ p).mp hzp).1 b hb
  · obtain ⟨x, y, h1, h2, h3, h4⟩ := later k.ord hz hzp
    have := k.ord.ok s List.mem_cons_self b x hb h1
    omega
 cases ha : r.1 with
 | some a =>
   refine ⟨a, rfl, ge a ((qX r a).mpr ⟨fun x e => by rw [ha] at e; cases e; omega, fun y e => m.ord.ok r List.mem_cons_self a y ha e⟩)⟩
 | none =>
   exfalso
   cases hy : r.2.1 with
   | none =>
     have := ge (b - 1) ((qX r _).mpr ⟨(fun x e => by rw [ha] at e; cases e), fun y e => by rw [hy] at e; cases e⟩)
     omega
   | some y =>
     have := ge (min (b - 1) (y - 1)) ((qX r _).mpr ⟨(fun x e => by rw [ha] at e; cases e), fun y' e => by rw [hy] at e; cases e; omega⟩)
     omega
theorem beh_le {r s : Rw} {t u : List Rw} (m : MapF (r :: t)) (k : MapF (s :: u)) (h : ∀ p v, Tel (s :: u) p v -> Tel (r :: t) p v) (hl : r.1 = s.1) (hv : r.2.2 = s.2.2) : ∀ x, r.2.1 = some x -> ∃ y, s.2.1 = some y /\ y <= x := by
 intro x hx
 obtain ⟨v, hv'⟩ : ∃ v, r.2.2 = some v := by
  cases hv : r.2.2 with
  | none => exact (m.val r List.mem_cons_self hv).elim
  | some v => exact ⟨v, rfl⟩
 have key : has3 s x = true -> False := by
  intro hs
  obtain ⟨z, hz, hzp, hzv⟩ := h x v ⟨s, List.mem_cons_self, hs, by rw [<- hv]; exact hv'⟩
  rcases List.mem_cons.mp hz with rfl | hz
  · have := ((qX _ x).mp hzp).2 x hx
    omega
  · cases t with
    | nil => cases hz
    | cons r' t' =>
      obtain ⟨x', y, h1, h2, h3, h4⟩ := later m.ord hz hzp
      rw [hx] at h1
      cases h1
      have hz' : z = r' := by
       rcases List.mem_cons.mp hz with rfl | hz
       · rfl
       · exfalso
         obtain ⟨x2, y2, k1, k2, k3, k4⟩ := later (wT m).ord hz hzp
         obtain ⟨x3, y3, j1, j2, j3⟩ := (List.pairwise_cons.mp m.ord.pw).1 r' List.mem_cons_self
         rw [hx] at j1
         cases j1
         have := (wT m).ord.ok r' List.mem_cons_self y3 x2 j2 k1
         omega
      subst hz'
      have : y = x := by omega
      subst this
      exact m.adj 0 r z rfl rfl ⟨by rw [hx, h2], by rw [hv', hzv]⟩
 have lowx : ∀ a, s.1 = some a -> a <= x := by
  intro a ha
  have := m.ord.ok r List.mem_cons_self a x (by show r.1 = some a; rw [hl, ha]) hx
  omega
 cases hy : s.2.1 with
 | none => exact (key ((qX s x).mpr ⟨lowx, fun y e => by rw [hy] at e; cases e⟩)).elim
 | some y =>
   refine ⟨y, rfl, ?_⟩
   rcases Int.lt_or_le x y with hlt | hle
   · exact (key ((qX s x).mpr ⟨lowx, fun y' e => by rw [hy] at e; cases e; exact hlt⟩)).elim
   · exact hle
theorem map_one : ∀ {ps qs : List Rw}, MapF ps -> MapF qs -> (∀ p v, Tel ps p v ↔ Tel qs p v) -> ps = qs
 | [], [], _, _, _ => rfl
 | [], s :: u, _, k, h => by
   obtain ⟨p, hp⟩ := has_place s (k.ord.ok s List.mem_cons_self)
   cases hv : s.2.2 with
   | none => exact (k.val s List.mem_cons_self hv).elim
   | some v =>
     obtain ⟨z, hz, _⟩ := (h p v).mpr ⟨s, List.mem_cons_self, hp, hv⟩
     cases hz
 | s :: u, [], k, _, h => by
   obtain ⟨p, hp⟩ := has_place s (k.ord.ok s List.mem_cons_self)
   cases hv : s.2.2 with
   | none => exact (k.val s List.mem_cons_self hv).elim
   | some v =>
     obtain ⟨z, hz, _⟩ := (h p v).mp ⟨s, List.mem_cons_self, hp, hv⟩
     cases hz
 | r :: t, s :: u, m, k, h => by
   have l1 := low_le m k fun p v => (h p v).mp
   have l2 := low_le k m fun p v => (h p v).mpr
   have hl : r.1 = s.1 := by
    cases h1 : r.1 with
    | none =>
      cases h2 : s.1 with
      | none => rfl
      | some b => obtain ⟨a, ha, _⟩ := l1 b h2; rw [h1] at ha; cases ha
    | some a =>
      obtain ⟨b, hb, hab⟩ := l2 a h1
      obtain ⟨a', ha', hba⟩ := l1 b hb
      rw [h1] at ha'
      cases ha'
      rw [hb]
      congr 1
      omega
   have hv : r.2.2 = s.2.2 := by
    obtain ⟨p, hp1, hp2⟩ : ∃ p, has3 r p = true /\ has3 s p = true := by
     have okr := m.ord.ok r List.mem_cons_self
     have oks := k.ord.ok s List.mem_cons_self
     cases h1 : r.1 with
     | some a =>
       have h2 : s.1 = some a := by rw [<- hl, h1]
       exact ⟨a, (qX r a).mpr ⟨fun x e => by rw [h1] at e; cases e; omega, fun y e => okr a y h1 e⟩, (qX s a).mpr ⟨fun x e => by rw [h2] at e; cases e; omega, fun y e => oks a y h2 e⟩⟩
     | none =>
       have h2 : s.1 = none := by rw [<- hl, h1]
       have lowp : ∃ p : Int, (∀ y, r.2.1 = some y -> p < y) /\ ∀ y, s.2.1 = some y -> p < y := by
        cases r.2.1 with
        | none =>
          cases s.2.1 with
          | none => exact ⟨0, (fun _ e => nomatch e), (fun _ e => nomatch e)⟩
          | some y => exact ⟨y - 1, (fun _ e => nomatch e), fun z e => by cases e; omega⟩
        | some x =>
          cases s.2.1 with
          | none => exact ⟨x - 1, fun z e => by cases e; omega, (fun _ e => nomatch e)⟩
          | some y => exact ⟨min x y - 1, fun z e => by cases e; omega, fun z e => by cases e; omega⟩
       obtain ⟨p, q1, q2⟩ := lowp
       exact ⟨p, (qX r p).mpr ⟨(fun x e => by rw [h1] at e; cases e), q1⟩, (qX s p).mpr ⟨(fun x e => by rw [h2] at e; cases e), q2⟩⟩
    cases hv : r.2.2 with
    | none => exact (m.val r List.mem_cons_self hv).elim
    | some v =>
      obtain ⟨z, hz, hzp, hzv⟩ := (h p v).mp ⟨r, List.mem_cons_self, hp1, hv⟩
      rcases List.mem_cons.mp hz with rfl | hz
      · exact hzv.symm
      · exfalso
        obtain ⟨x, y, e1, e2, e3, e4⟩ := later k.ord hz hzp
        have := ((qX s p).mp hp2).2 x e1
        omega
   have b1 := beh_le m k (fun p v => (h p v).mpr) hl hv
   have b2 := beh_le k m (fun p v => (h p v).mp) hl.symm hv.symm
   have hb : r.2.1 = s.2.1 := by
    cases h1 : r.2.1 with
    | none =>
      cases h2 : s.2.1 with
      | none => rfl
      | some y => obtain ⟨x, hx, _⟩ := b2 y h2; rw [h1] at hx; cases hx
    | some x =>
      obtain ⟨y, hy, hyx⟩ := b1 x h1
      obtain ⟨x', hx', hxy⟩ := b2 y hy
      rw [h1] at hx'
      cases hx'
      rw [hy]
      congr 1
      omega
   have hrs : r = s := by
    obtain ⟨a, b, c⟩ := r
    obtain ⟨a', b', c'⟩ := s
    simp only at hl hb hv
    rw [hl, hb, hv]
   subst hrs
   have tl : ∀ {t' : List Rw}, MapF (r :: t') -> ∀ p v, Tel t' p v ↔ Tel (r :: t') p v /\ ¬ has3 r p = true := by
    intro t' m' p v
    constructor
    · rintro ⟨z, hz, hzp, hzv⟩
      refine ⟨⟨z, List.mem_cons_of_mem _ hz, hzp, hzv⟩, fun hr => ?_⟩
      obtain ⟨x, y, e1, e2, e3, e4⟩ := later m'.ord hz hzp
      have := ((qX r p).mp hr).2 x e1
      omega
    · rintro ⟨⟨z, hz, hzp, hzv⟩, hr⟩
      rcases List.mem_cons.mp hz with rfl | hz
      · exact (hr hzp).elim
      · exact ⟨z, hz, hzp, hzv⟩
   rw [map_one (wT m) (wT k) fun p v => by rw [tl m, tl k, h]]
end FL
namespace FL
open PySem PyProof.Rows L2
open Builtin.Int (intBits)
theorem val_due {rows : List Rv} (ok : ∀ r ∈ rows, okS r.1) (hl : rows.length <= 1000) (p : Int) : valL (formedF rows) p = dueF rows p := by
 have mf := (vK rows ok hl).2.1
 have tel := formed_tel rows ok
 cases h : valL (formedF rows) p with
 | some v => exact ((tel p v).mp ((yU mf.ord p v).mp h)).symm
 | none =>
   cases h2 : dueF rows p with
   | none => rfl
   | some v =>
     have := (yU mf.ord p v).mpr ((tel p v).mpr h2)
     rw [h] at this
     cases this
end FL
namespace FL
open PySem PySem.Spec PyProof.Rows L2
def shR (f : Int) (r : Rw) : Rw := (r.1.map (· + f), r.2.1.map (· + f), r.2.2)
def splitF (ps : List Rw) (a c f : Int) : List Rw := qD ps (none, some a) ++ (qD ps (some c, none)).map (shR f)
theorem split_len (ps : List Rw) (a c f : Int) : (splitF ps a c f).length <= 2 * ps.length := by
 have h1 := jU ps (none, some a)
 have h2 := jU ps (some c, none)
 simp only [splitF, List.length_append, List.length_map]
 omega
end FL
namespace FL
open PySem PySem.Spec PyProof.Rows L2
end FL
namespace FL
open PySem PySem.Spec PyProof.Rows L2
open Builtin.Int (intBits)
structure DrawM (rows : List Rw) (s : Int) : Prop where
 map : MapF rows
 fin : ∀ r ∈ rows, ∃ lo bh, r.1 = some lo /\ r.2.1 = some bh /\ bh <= s
 last : ∀ r, rows.getLast? = some r -> r.2.1 = some s
theorem DrawM.nil (s : Int) : DrawM [] s := ⟨MapF.nil, (fun _ h => nomatch h), fun r h => by simp at h⟩
end FL
namespace FL
open PySem PySem.Spec PyProof.Rows L2
open Builtin.Int (intBits)
@[simp] theorem notD_rw (r : Rw) : notD (rwD r) .non = some (.bl true) := rfl
end FL
namespace FL
open PySem PySem.Spec PyProof.Rows L2
theorem vS {t : FT} {f g : FS} {ds : List Sl} (h : t ds = some true) : ifG t f g ds = f ds := by simp [h]
theorem vQ {t : FT} {f g : FS} {ds : List Sl} (h : t ds = some false) : ifG t f g ds = g ds := by simp [h]
end FL
section
open PySem PyProof.Rows L2 FL
end
namespace FL
open PySem PySem.Spec PyProof.Rows L2
open Builtin.Int (intBits)
end FL
namespace FL
open PySem PySem.Spec PyProof.Rows L2
open Builtin.Int (intBits)
@[simp] theorem sltW_eq (f : FE) (lo hi : List Sl -> Option (Option Int)) (ds : List Sl) : sltW f lo hi ds = (f ds).bind fun d => (lo ds).bind fun a => (hi ds).bind fun b => match d with
 | .tup l => some (.tup (cutD l a b))
 | _ => none := rfl
end FL
namespace FL
open PySem PySem.Spec PyProof.Rows L2
open Builtin.Int (intBits)
end FL
namespace FL
open PySem PyProof.Rows L2
open Builtin.Int (intBits)
abbrev Rl := Int × Int × Int × Int × Int
def R5 (a b s t v : Int) : D := .tup [.int a, .int b, .int s, .int t, .int v]
def rlD (r : Rl) : D := R5 r.1 r.2.1 r.2.2.1 r.2.2.2.1 r.2.2.2.2
def isR (a b s t : Int) : Bool := decide (a < b) && (decide (1 <= t) && (decide (t <= 100) && (if t = 1 then decide (s = 0) else decide (b - a < s))))
def okL (r : Rl) : Bool := isR r.1 r.2.1 r.2.2.1 r.2.2.2.1
theorem ix5_3 (x y z w u : D) : ixD (.tup [x, y, z, w, u]) (.int 3) = some w := by rw [vJ _ (by decide) (by simp)]; rfl
theorem ix5_4 (x y z w u : D) : ixD (.tup [x, y, z, w, u]) (.int 4) = some u := by rw [vJ _ (by decide) (by simp)]; rfl
theorem rl0 (r : Rl) : ixD (rlD r) (.int 0) = some (.int r.1) := by unfold rlD R5; simp
theorem rl1 (r : Rl) : ixD (rlD r) (.int 1) = some (.int r.2.1) := by unfold rlD R5; simp
theorem rl2 (r : Rl) : ixD (rlD r) (.int 2) = some (.int r.2.2.1) := by unfold rlD R5; simp
theorem rl3 (r : Rl) : ixD (rlD r) (.int 3) = some (.int r.2.2.2.1) := by unfold rlD R5; exact ix5_3 _ _ _ _ _
theorem rl4 (r : Rl) : ixD (rlD r) (.int 4) = some (.int r.2.2.2.2) := by unfold rlD R5; exact ix5_4 _ _ _ _ _
theorem is_rule_eq (a b s t v : Int) : GP.is_rule.f [R5 a b s t v] = some (.val (.bl (isR a b s t))) := by
 unfold GP.is_rule.f runG GP.is_rule.g isR R5
 by_cases h1 : a < b
 · have e1 : ¬ b - a < 1 := by omega
   by_cases h2 : 1 <= t
   · have e2 : ¬ t < 1 := by omega
     by_cases h3 : t <= 100
     · have e3 : ¬ 100 < t := by omega
       by_cases h4 : t = 1
       · subst h4; simp [args, ix5_3, e1, h1]
       · simp [args, ix5_3, e1, h1, h2, e2, h3, e3, h4]
     · have e3 : 100 < t := by omega
       simp [args, ix5_3, e1, h1, h2, e2, h3, e3]
   · have e2 : t < 1 := by omega
     simp [args, ix5_3, e1, h1, h2, e2]
 · have e1 : b - a < 1 := by omega
   simp [args, ix5_3, e1, h1]
theorem okL_rule (r : Rl) : GP.is_rule.f [rlD r] = some (.val (.bl (okL r))) := is_rule_eq _ _ _ _ _
theorem xR {r : Rl} (h : okL r = true) : 1 <= r.2.2.2.1 /\ r.2.2.2.1 <= 100 /\ r.1 < r.2.1 /\ (r.2.2.2.1 = 1 -> r.2.2.1 = 0) /\ (r.2.2.2.1 ≠ 1 -> r.2.1 - r.1 < r.2.2.1) := by
 unfold okL isR at h
 simp only [Bool.and_eq_true, decide_eq_true_eq] at h
 obtain ⟨h1, h2, h3, h4⟩ := h
 refine ⟨h2, h3, h1, fun z => ?_, fun z => ?_⟩
 · rw [if_pos z] at h4; simpa using h4
 · rw [if_neg z] at h4; simpa using h4
def strP (a b s : Int) (n : Nat) : List Spn := (List.range n).map fun (k : Nat) => (some (a + (k : Int) * s), some (b + (k : Int) * s))
def strQ (r : Rl) : List Spn := strP r.1 r.2.1 r.2.2.1 r.2.2.2.1.toNat
theorem str_eq {r : Rl} (h : okL r = true) : GP.stretches.f [rlD r] = some (.fresh ((strQ r).map spD)) := by
 have pr := okL_rule r
 rw [h] at pr
 obtain ⟨t1, t2, _⟩ := xR h
 have ok : okR r.2.2.2.1 := vE (by omega) (by omega)
 have i0 := rl0 r
 have i1 := rl1 r
 have i2 := rl2 r
 have i3 := rl3 r
 have fl := flats_spn (strQ r)
 unfold GP.stretches.f
 refine jL ?_
 unfold GP.stretches.g
 unfold strQ at fl ⊢
 obtain ⟨a, b, s, t, v⟩ := r
 simp only at *
 generalize rlD (a, b, s, t, v) = R at *
 rw [qK (ds' := [.v R, .no]) (by simp [args, pr])]
 rw [qK (ds' := [.v R, .v (.int s)]) (by simp [i2])]
 have cp : (compG (rng1 (zK ixD (zL 0) (zC (.int 3)))) [none, some 0, some 1] (zT 0) (fun _ => some true) (mkT (qU (zG (zK jT (zK ixD (zL 1) (zC (.int 0))) (zK xX (zL 0) (zL 2))) (zG (zK jT (zK ixD (zL 1) (zC (.int 1))) (zK xX (zL 0) (zL 2))) qC))))) [.v R, .v (.int s)] = some ((strP a b s t.toNat).map spD) := by
  refine yO (items := rangeD 0 t.toNat) (by simp [i3, ok]) (by simp [rangeD]; omega) ?_
  have e : rangeD 0 t.toNat = (List.range t.toNat).map (fun (k : Nat) => D.int (k : Int)) := by simp [rangeD]
  rw [e, yJ (fun (k : Nat) => D.int (k : Int)) (fun (k : Nat) => spD (some (a + (k : Int) * s), some (b + (k : Int) * s))), strP, List.map_map]
  · rfl
  · intro k hk
    have hk' : k < t.toNat := List.mem_range.mp hk
    have ml : xX (.int (k : Int)) (.int s) = some (.int ((k : Int) * s)) := yX (.of_left (yH (Nat.lt_of_lt_of_le (show (k : Int).natAbs < 128 by omega) (by decide))))
    exact ⟨_, rfl, by simp [jK, i0, i1, ml, spD]⟩
 simp only [retOG_eq, cp, Option.bind_some]
 simp [fl]
def rowsR (r : Rl) : List Rv := (strQ r).map fun s => (s, some r.2.2.2.2)
theorem vF {r : Rl} (h : okL r = true) : (rowsR r).length <= 100 /\ ((rowsR r).length : Int) = r.2.2.2.1 := by
 obtain ⟨t1, t2, _⟩ := xR h
 have e : (rowsR r).length = r.2.2.2.1.toNat := by simp [rowsR, strQ, strP]
 rw [e]
 omega
theorem rowsR_ok {r : Rl} (h : okL r = true) : ∀ q ∈ rowsR r, okS q.1 := by
 intro q hq
 obtain ⟨s, hs, rfl⟩ := List.mem_map.mp hq
 obtain ⟨k, _, rfl⟩ := List.mem_map.mp hs
 intro a b e1 e2
 cases e1
 cases e2
 have := (xR h).2.2.1
 omega
theorem rule_rows_eq {r : Rl} (h : okL r = true) : GP.rule_rows.f [rlD r] = some (.fresh ((rowsR r).map rvD)) := by
 have se := str_eq h
 have i4 := rl4 r
 have fl := flats_rv (rowsR r)
 have hl := (vF h).1
 have hl' : (strQ r).length <= 100 := by simpa [rowsR] using hl
 refine jL ?_
 unfold GP.rule_rows.g
 have ar : args 1 [rlD r] = [.v (rlD r)] := by simp [args]
 rw [ar]
 have cp : compG (viaA (qO 1 GP.stretches.f (zG (zL 0) qC)) asLT) [none, some 0] (zT 0) (fun _ => some true) (mkT (qU (zG (qZ 0) (zG (zK ixD (zL 1) (zC (.int 4))) qC)))) [.v (rlD r)] = some ((rowsR r).map rvD) := by
  refine yO (items := (strQ r).map spD) (by simp [se]) (by simp; omega) ?_
  rw [yJ spD (fun s => rvD (s, some r.2.2.2.2)) (strQ r), rowsR, List.map_map]
  · rfl
  · intro s _
    exact ⟨_, rfl, by simp [jK, i4, rvD]⟩
 simp only [retOG_eq, cp, Option.bind_some]
 simp [fl]
theorem laid_rows_eq {rows : List Rv} (hs : ∀ r ∈ rows, okS r.1) (hl : rows.length <= 300) : GP.laid_rows.f [.lst (rows.map rvD)] = some (.fresh ((formedF rows).map rwD)) := by
 obtain ⟨e, _, _⟩ := vK rows hs (by omega)
 have fl := yW (formedF rows)
 have hn : ¬ (300 : Int) < ((rows.map rvD).length : Int) := by simp; omega
 refine jL ?_
 unfold GP.laid_rows.g
 generalize (formedF rows).map rwD = F at *
 generalize rows.map rvD = Q at *
 simp [args, e, fl, hn]
def hasR (r : Rl) (p : Int) : Bool := if 1 < r.2.2.2.1 then decide (0 <= (p - r.1) / r.2.2.1) && decide ((p - r.1) / r.2.2.1 < r.2.2.2.1) && decide ((p - r.1) % r.2.2.1 < r.2.1 - r.1) else decide (r.1 <= p) && decide (p < r.2.1)
theorem hasR_iff {r : Rl} (h : okL r = true) (p : Int) : (rowsR r).any (fun q => hasS q.1 p) = hasR r p := by
 obtain ⟨t1, t2, t3, t4, t5⟩ := xR h
 obtain ⟨a, b, s, t, v⟩ := r
 simp only at t1 t2 t3 t4 t5
 have key : (rowsR (a, b, s, t, v)).any (fun q => hasS q.1 p) = true ↔ ∃ k : Nat, k < t.toNat /\ a + (k : Int) * s <= p /\ p < b + (k : Int) * s := by
  rw [List.any_eq_true]
  constructor
  · rintro ⟨q, hq, hh⟩
    obtain ⟨u, hu, rfl⟩ := List.mem_map.mp hq
    obtain ⟨k, hk, rfl⟩ := List.mem_map.mp hu
    have := (yP _ _).mp hh
    exact ⟨k, List.mem_range.mp hk, this.1 _ rfl, this.2 _ rfl⟩
  · rintro ⟨k, hk, h1, h2⟩
    refine ⟨((some (a + (k : Int) * s), some (b + (k : Int) * s)), some v), List.mem_map.mpr ⟨_, List.mem_map.mpr ⟨k, List.mem_range.mpr hk, rfl⟩, rfl⟩, (yP _ _).mpr ⟨fun x e => ?_, fun x e => ?_⟩⟩
    · cases e; exact h1
    · cases e; exact h2
 rw [Bool.eq_iff_iff, key]
 unfold hasR
 simp only
 by_cases ht : 1 < t
 · have hs := t5 (by omega)
   have sp : 0 < s := by omega
   rw [if_pos ht]
   simp only [Bool.and_eq_true, decide_eq_true_eq]
   constructor
   · rintro ⟨k, hk, h1, h2⟩
     have e : (p - a) / s = (k : Int) /\ (p - a) % s = p - a - (k : Int) * s := by
      rw [Int.ediv_emod_unique sp]
      refine ⟨?_, by omega, by omega⟩
      rw [Int.mul_comm s]
      omega
     rw [e.1, e.2]
     omega
   · rintro ⟨⟨h1, h2⟩, h3⟩
     have e := Int.emod_add_mul_ediv (p - a) s
     have m0 := Int.emod_nonneg (p - a) (show s ≠ 0 by omega)
     refine ⟨((p - a) / s).toNat, by omega, ?_, ?_⟩
     · have : (((p - a) / s).toNat : Int) = (p - a) / s := by omega
       rw [this, Int.mul_comm]
       omega
     · have : (((p - a) / s).toNat : Int) = (p - a) / s := by omega
       rw [this, Int.mul_comm]
       omega
 · have e1 : t = 1 := by omega
   subst e1
   have hs := t4 rfl
   subst hs
   rw [if_neg ht]
   simp only [Bool.and_eq_true, decide_eq_true_eq]
   constructor
   · rintro ⟨k, hk, h1, h2⟩
     simp at h1 h2
     exact ⟨h1, h2⟩
   · rintro ⟨h1, h2⟩
     exact ⟨0, by decide, by simpa using h1, by simpa using h2⟩
theorem find_same (v : Option Int) (p : Int) : ∀ l : List Rv, (∀ q ∈ l, q.2 = v) -> (match l.find? (fun r => hasS r.1 p) with | some r => some r.2 | none => none) = if l.any (fun q => hasS q.1 p) = true then some v else none
 | [], _ => by simp
 | q :: l, h => by
   have ih := find_same v p l fun x hx => h x (.tail _ hx)
   cases e : hasS q.1 p with
   | true => simp [e, h q (.head _)]
   | false =>
     rw [List.find?_cons_of_neg (p := fun r : Rv => hasS r.1 p) (by simp [e]), ih, List.any_cons, e, Bool.false_or]
end FL
namespace FL
open PySem PyProof.Rows L2 Builtin.Str
def txS (cs : List Nat) : Str := ⟨cs.toArray⟩
theorem wQ (x : Str) : txS x.cps.toList = x := by cases x; simp [txS]
@[simp] theorem wY (cs : List Nat) : (txS cs).cps.toList = cs := rfl
@[simp] theorem jG (cs : List Nat) : (txS cs).length = cs.length := by simp [txS, Str.length]
theorem txS_inj {a b : List Nat} : txS a = txS b ↔ a = b := ⟨fun h => by have := congrArg (fun x : Str => x.cps.toList) h; simpa using this, fun h => by rw [h]⟩
@[simp] theorem xZ (a b : List Nat) : txS a ++ txS b = txS (a ++ b) := Str.ext' (by rw [Str.cps_append]; simp [txS])
theorem stw_txS (cs : List Nat) (c : Nat) : Txt.startswith (txS cs) (txS [c]) = decide (cs[0]? = some c) := by
 have h := StrLaws.subAt_one (txS cs) c 0
 rw [wY] at h
 rw [Bool.eq_iff_iff, decide_eq_true_eq, <- h]
 unfold Txt.startswith
 simp only [Bool.and_eq_true, decide_eq_true_eq]
 rfl
theorem enw_txS (cs : List Nat) (c : Nat) : Txt.endswith (txS cs) (txS [c]) = decide (cs.getLast? = some c) := by
 have h := StrLaws.subAt_one (txS cs) c (cs.length - 1)
 rw [wY, <- List.getLast?_eq_getElem?] at h
 rw [Bool.eq_iff_iff, decide_eq_true_eq, <- h]
 unfold Txt.endswith
 simp only [Bool.and_eq_true, decide_eq_true_eq, jG]
 have e : (⟨#[c]⟩ : Str).length = 1 := rfl
 have e2 : ([c] : List Nat).length = 1 := rfl
 have e3 : txS [c] = (⟨#[c]⟩ : Str) := rfl
 rw [e, e2, e3]
 constructor
 · rintro ⟨h1, h2⟩; exact ⟨by omega, h2⟩
 · rintro ⟨h1, h2⟩
   refine ⟨?_, h2⟩
   cases cs with
   | nil => exfalso; simp at h1
   | cons a r => simp
theorem yF (x : Str) (l u : Option Int) : Txt.slice x l u = StrLaws.sliceText x l u := rfl
theorem slice_nat (cs : List Nat) {a b : Nat} (hab : a <= b) (hb : b <= cs.length) : Txt.slice (txS cs) (some (a : Int)) (some (b : Int)) = txS ((cs.drop a).take (b - a)) := by
 rw [yF, StrLaws.sliceText_nat _ hab (by simpa using hb)]
 rfl
theorem slice_to (cs : List Nat) {b : Nat} (hb : b <= cs.length) : Txt.slice (txS cs) none (some (b : Int)) = txS (cs.take b) := by
 have e : Txt.slice (txS cs) none (some (b : Int)) = Txt.slice (txS cs) (some ((0 : Nat) : Int)) (some (b : Int)) := by
  rw [yF, yF]; unfold StrLaws.sliceText; rw [StrLaws.sliceIdx_none_lo]; rfl
 rw [e, slice_nat cs (Nat.zero_le _) hb]
 simp
theorem slice_from (cs : List Nat) (a : Nat) : Txt.slice (txS cs) (some (a : Int)) none = txS (cs.drop a) := by
 have key : ∀ a : Nat, a <= cs.length -> Txt.slice (txS cs) (some (a : Int)) none = txS (cs.drop a) := by
  intro a ha
  have e : Txt.slice (txS cs) (some (a : Int)) none = Txt.slice (txS cs) (some (a : Int)) (some (cs.length : Int)) := by
   rw [yF, yF]; unfold StrLaws.sliceText; rw [StrLaws.sliceIdx_none_hi]; simp
  rw [e, slice_nat cs ha (Nat.le_refl _)]
  congr 1
  exact List.take_of_length_le (by simp)
 by_cases ha : a <= cs.length
 · exact key a ha
 · have e : Txt.slice (txS cs) (some (a : Int)) none = Txt.slice (txS cs) (some (cs.length : Int)) none := by
    have : strSliceIndices (some (a : Int)) none 1 (txS cs).length = strSliceIndices (some (cs.length : Int)) none 1 (txS cs).length := by
     have h1 : ¬ ((a : Int) < 0) := by omega
     have h2 : ¬ ((cs.length : Int) < 0) := by omega
     have e1 : max (0 : Int) (min (a : Int) (cs.length : Int)) = cs.length := by omega
     have e2 : max (0 : Int) (min (cs.length : Int) (cs.length : Int)) = cs.length := by omega
     simp only [strSliceIndices, jG, h1, h2, if_false, e1, e2, show ((1 : Int) > 0) = True from by simp, if_true]
    rw [yF, yF]; unfold StrLaws.sliceText; rw [this]
   rw [e, key _ (Nat.le_refl _), List.drop_of_length_le (by omega), List.drop_of_length_le (by omega)]
theorem idx_neg (l : Option Int) {n : Nat} (h : 1 <= n) : strSliceIndices l (some (-1)) 1 n = strSliceIndices l (some ((n - 1 : Nat) : Int)) 1 n := by
 have h1 : ((-1 : Int) < 0) := by decide
 have h2 : ¬ (((n - 1 : Nat) : Int) < 0) := by omega
 have e1 : max (0 : Int) (min (-1 + (n : Int)) (n : Int)) = ((n - 1 : Nat) : Int) := by omega
 have e2 : max (0 : Int) (min ((n - 1 : Nat) : Int) (n : Int)) = ((n - 1 : Nat) : Int) := by omega
 simp only [strSliceIndices, h1, h2, if_true, if_false, e1, e2, show ((1 : Int) > 0) = True from by simp]
theorem slice_but (cs : List Nat) (h : cs ≠ []) : Txt.slice (txS cs) none (some (-1)) = txS cs.dropLast := by
 have hl : 1 <= cs.length := List.length_pos_iff.mpr h
 have e : Txt.slice (txS cs) none (some (-1)) = Txt.slice (txS cs) none (some ((cs.length - 1 : Nat) : Int)) := by
  rw [yF, yF]; unfold StrLaws.sliceText; rw [jG, idx_neg none hl]
 rw [e, slice_to cs (by omega), List.dropLast_eq_take]
theorem occ_all (x : Str) (c lim : Nat) : ∀ (m a : Nat) (st : Array Nat × Nat), st.snd <= a -> st.fst.size + m <= lim -> (forIn (m := Id) (List.range' a m) st (StrLaws.occBody x ⟨#[c]⟩ x.length lim)).run.fst.size = st.fst.size + ((List.range' a m).filter (fun i => decide (x.cps.toList[i]? = some c))).length
 | 0, a, st, _, _ => by simp
 | m + 1, a, st, h1, h2 => by
   rw [List.range'_succ, List.forIn_cons, List.filter_cons]
   have one := StrLaws.subAt_one x c a
   unfold StrLaws.occBody
   by_cases h : x.cps.toList[a]? = some c
   · obtain ⟨k1, k2⟩ := one.mpr h
     rw [if_pos ⟨⟨⟨by omega, h1⟩, k1⟩, k2⟩, if_pos (by simpa using h)]
     have ih := occ_all x c lim m (a + 1) (st.fst.push a, a + (⟨#[c]⟩ : Str).length) (Nat.le_refl _) (by simp; omega)
     simp only [Array.size_push] at ih
     simp only [List.length_cons]
     exact ih.trans (by omega)
   · rw [if_neg (fun z => h (one.mp ⟨z.1.2, z.2⟩)), if_neg (by simpa using h)]
     exact occ_all x c lim m (a + 1) st (by omega) (by omega)
theorem xN (c : Nat) : ∀ (l : List Nat) (p : List Nat), ((List.range' p.length l.length).filter (fun i => decide ((p ++ l)[i]? = some c))).length = l.count c
 | [], p => by simp
 | a :: l, p => by
   have ih := xN c l (p ++ [a])
   simp only [List.length_append, List.length_singleton, List.append_assoc, List.singleton_append] at ih
   rw [List.length_cons, List.range'_succ, List.filter_cons, List.getElem?_append_right (Nat.le_refl _)]
   simp only [Nat.sub_self, List.getElem?_cons_zero, Option.some.injEq]
   by_cases h : a = c
   · subst h; simp [ih]
   · simp [h, ih]
theorem occ_count (cs : List Nat) (c : Nat) : (occurrences (txS cs) (txS [c]) 0 (txS cs).length ((txS cs).length + 1)).length = cs.count c := by
 have e3 : txS [c] = (⟨#[c]⟩ : Str) := rfl
 rw [StrLaws.occ_eq, e3, Array.length_toList, occ_all (txS cs) c _ _ 0 (#[], 0) (Nat.le_refl _) (by simp)]
 have ec : ∀ m, ((List.range' 0 m).filter (fun i => decide ((txS cs).cps.toList[i]? = some c))).length = ((List.range' 0 m).filter (fun i => decide (cs[i]? = some c))).length := fun m => rfl
 rw [ec]
 have := xN c cs []
 simp only [List.length_nil, List.nil_append] at this
 rw [jG, Nat.sub_zero, List.range'_concat, List.filter_append, List.length_append, this]
 simp
theorem split_count (cs : List Nat) (c : Nat) (hc : c < 256) : (Txt.split (txS cs) (txS [c])).length = cs.count c + 1 := by
 have oc := occ_count cs c
 unfold Txt.split
 split
 · rename_i h
   rcases Bool.or_eq_true_iff.mp h with h | h
   · have : cs.length < 1 := by simpa using h
     have : cs = [] := List.eq_nil_of_length_eq_zero (by omega)
     subst this
     rfl
   · exfalso
     have k1 : Builtin.Str.strKind (txS [c]) = 1 := by simp [Builtin.Str.strKind, txS, hc]
     have k2 : 1 <= Builtin.Str.strKind (txS cs) := by
      unfold Builtin.Str.strKind
      split
      · decide
      · split <;> decide
     rw [k1] at h
     have := of_decide_eq_true h
     omega
 · split
   · rename_i h
     rw [List.isEmpty_iff.mp h] at oc
     simp at oc
     simp only [List.length_singleton]
     omega
   · rw [length_partsBetween, oc]
theorem in_one (cs : List Nat) (c : Nat) : inS (.str (txS [c])) (.str (txS cs)) = some (.bl (decide (c ∈ cs))) := by
 have e3 : txS [c] = (⟨#[c]⟩ : Str) := rfl
 have e := StrLaws.found_one (txS cs) c
 rw [wY] at e
 rw [e3]
 show some (D.bl _) = _
 rw [e]
theorem ix_tx0 (c : Nat) (r : List Nat) (h : (c :: r).length <= 16777216) : ixD (.str (txS (c :: r))) (.int 0) = some (.str (txS [c])) := by
 show (if (txS (c :: r)).length <= sizeLine then (atI (c :: r) 0).map fun c => D.str ⟨#[c]⟩ else none) = _
 rw [jG, if_pos (by simpa using h)]
 unfold atI
 rw [ixN_pos (by decide) (by simp)]
 rfl
theorem len_tx (cs : List Nat) (h : cs.length <= 16777216) : lenD [.str (txS cs)] = some (.int cs.length) := by
 simp [lenD, h]
theorem jP (a b : List Nat) (h : a.length + b.length <= 16777216) : jT (.str (txS a)) (.str (txS b)) = some (.str (txS (a ++ b))) := by
 simp [jT, h]
def Asc (cs : List Nat) : Prop := ∀ c ∈ cs, c < 1000
theorem kH {cs : List Nat} (h : Asc cs) (n : Nat) : shal n (.str (txS cs)) = true := by
 have : PyData.strOk (txS cs) = true := by
  unfold PyData.strOk
  rw [<- Array.all_toList, wY, List.all_eq_true]
  intro c hc
  have := h c hc
  simp
  omega
 simp [shal, this]
theorem eqv_tx (a b : List Nat) : eqvD (.str (txS a)) (.str (txS b)) = decide (a = b) := by
 have e : (txS a == txS b) = decide (a = b) := by
  rw [Bool.eq_iff_iff, decide_eq_true_eq, beq_iff_eq, txS_inj]
 simpa [eqvD, toPy, PyData.eqv] using e
theorem eq_tx {a b : List Nat} (ha : Asc a) (hb : Asc b) : eqD (.str (txS a)) (.str (txS b)) = some (.bl (decide (a = b))) := by rw [kL (kH ha 40) (kH hb 40), eqv_tx]
theorem ne_tx {a b : List Nat} (ha : Asc a) (hb : Asc b) : neD (.str (txS a)) (.str (txS b)) = some (.bl (!decide (a = b))) := by rw [vV (kH ha 40) (kH hb 40), eqv_tx]
end FL
namespace FL
open PySem PyProof.Rows L2 NumText
theorem kitS : kitF "str" "str" = some true /\ kitF "int" "str" = some false /\ kitF "NoneType" "str" = some false /\ kitF "tuple" "str" = some false /\ kitF "list" "str" = some false /\ kitF "str" "tuple" = some false /\ kitF "str" "bool" = some false := by
 refine ⟨?_, ?_, ?_, ?_, ?_, ?_, ?_⟩ <;> decide +kernel
@[simp] theorem isi_str_str (x : Str) : isiD "str" (.str x) = some (.bl true) := by simp [isiD, tyD, kitS.1]
@[simp] theorem isi_str_int (i : Int) : isiD "str" (.int i) = some (.bl false) := by simp [isiD, tyD, kitS.2.1]
@[simp] theorem isi_str_non : isiD "str" .non = some (.bl false) := by simp [isiD, tyD, kitS.2.2.1]
@[simp] theorem isi_str_tup (l : List D) : isiD "str" (.tup l) = some (.bl false) := by simp [isiD, tyD, kitS.2.2.2.1]
@[simp] theorem isi_str_lst (l : List D) : isiD "str" (.lst l) = some (.bl false) := by simp [isiD, tyD, kitS.2.2.2.2.1]
@[simp] theorem isi_int_str (x : Str) : isiD "int" (.str x) = some (.bl false) := by simp [isiD, tyD, kits.2.2.2.2.2.1]
theorem t_minus : Str.ofString "-" = txS [45] := by decide
theorem t_zero : Str.ofString "0" = txS [48] := by decide
theorem t_figs : Str.ofString "0123456789" = txS [48, 49, 50, 51, 52, 53, 54, 55, 56, 57] := by decide
theorem t_empty : Str.ofString "" = txS [] := by decide
theorem t_comma : Str.ofString "," = txS [44] := by decide
theorem t_lsh : Str.ofString "[" = txS [91] := by decide
theorem t_lop : Str.ofString "(" = txS [40] := by decide
theorem t_hsh : Str.ofString "]" = txS [93] := by decide
theorem t_hop : Str.ofString ")" = txS [41] := by decide
theorem t_lend : Str.ofString "(.." = txS [40, 46, 46] := by decide
theorem t_hend : Str.ofString "..)" = txS [46, 46, 41] := by decide
def dig (c : Nat) : Bool := decide (48 <= c) && decide (c <= 57)
def figs : List Nat -> List Nat
 | [] => []
 | c :: r => if c = 45 then r else c :: r
def numL (cs : List Nat) : Bool := decide (1 <= (figs cs).length) && (decide ((figs cs).length <= 60) && ((figs cs).all dig && (decide ((figs cs).head? ≠ some 48) || decide (cs = [48]))))
def valT : List Nat -> Int
 | [] => 0
 | c :: r => if c = 45 then -((digitsVal r : Nat) : Int) else ((digitsVal (c :: r) : Nat) : Int)
theorem asc_figs {cs : List Nat} (h : Asc cs) : Asc (figs cs) := by
 cases cs with
 | nil => exact h
 | cons c r =>
   show Asc (if c = 45 then r else c :: r)
   by_cases hc : c = 45
   · rw [if_pos hc]; exact fun d hd => h d (.tail _ hd)
   · rw [if_neg hc]; exact h
theorem figs_len (cs : List Nat) : (figs cs).length <= cs.length := by
 cases cs with
 | nil => simp [figs]
 | cons c r =>
   show (if c = 45 then r else c :: r).length <= _
   split <;> simp
theorem yA {cs : List Nat} (h : cs.all (fun c => decide (c < 1000)) = true) : Asc cs := fun c hc => by simpa using List.all_eq_true.mp h c hc
theorem mem_fig (c : Nat) : decide (c ∈ [48, 49, 50, 51, 52, 53, 54, 55, 56, 57]) = dig c := by
 rw [Bool.eq_iff_iff]
 simp only [dig, decide_eq_true_eq, List.mem_cons, List.not_mem_nil, or_false, Bool.and_eq_true]
 omega
theorem figs_stw (cs : List Nat) (hl : cs.length <= 100000) (ds : List Sl) (h : ds[0]? = some (.v (.str (txS cs)))) : ifV (testT (zK stwD (zL 0) (zC (.str (Str.ofString "-"))))) (slsS (zL 0) (soP (zC (.int 1))) noP) (qZ 0) ds = some (.str (txS (figs cs))) := by
 have z : cs.length <= 16777216 := by omega
 have e1 := stw_txS cs 45
 have e2 : Txt.slice (txS cs) (some 1) none = txS (cs.drop 1) := slice_from cs 1
 rw [t_minus]
 cases cs with
 | nil => simp [h, stwD, e1, figs]
 | cons c r =>
   simp only [List.length_cons] at z
   by_cases hc : c = 45
   · subst hc
     simp [h, stwD, e1, slsS, z, e2, figs]
   · simp [h, stwD, e1, hc, figs]
theorem is_number_eq {cs : List Nat} (ha : Asc cs) (hl : cs.length <= 100000) : GP.is_number.f [.str (txS cs)] = some (.val (.bl (numL cs))) := by
 have hf := figs_stw cs hl [.v (.str (txS cs)), .no] rfl
 have fl := figs_len cs
 have fa := asc_figs ha
 have lf := len_tx (figs cs) (by omega)
 have comp : compG (viaA (qZ 1) asS) [none] (zT 0) (fun _ => some true) (zK inS (zL 0) (zC (.str (Str.ofString "0123456789")))) [.v (.str (txS cs)), .v (.str (txS (figs cs)))] = some (((figs cs).map dig).map D.bl) := by
  rw [t_figs]
  refine yO (items := (figs cs).map fun c => D.str (txS [c])) (by simp; rfl) (by simp; omega) ?_
  rw [yJ (fun c => D.str (txS [c])) (fun c => D.bl (dig c)) (figs cs), List.map_map]
  · rfl
  · intro c _
    have := in_one [48, 49, 50, 51, 52, 53, 54, 55, 56, 57] c
    rw [mem_fig] at this
    exact ⟨_, rfl, by simp [jK, this]⟩
 have al : allD [.lst (((figs cs).map dig).map D.bl)] = some (.bl ((figs cs).all dig)) := by rw [allD_bls, List.all_map]; rfl
 have eq0 := eq_tx ha (yA (cs := [48]) rfl)
 refine jL ?_
 unfold GP.is_number.g
 have ar : args 2 [.str (txS cs)] = [.v (.str (txS cs)), .no] := by simp [args]
 rw [ar, qK (ds' := [.v (.str (txS cs)), .no]) (by simp), qK (ds' := [.v (.str (txS cs)), .v (.str (txS (figs cs)))]) (by rw [yZ, hf]; rfl)]
 unfold numL
 generalize hF : figs cs = F at *
 by_cases h1 : 1 <= F.length
 · have k1 : ¬ ((F.length : Int) < 1) := by omega
   by_cases h2 : F.length <= 60
   · have k2 : ¬ ((60 : Int) < (F.length : Int)) := by omega
     rw [qK (ds' := [.v (.str (txS cs)), .v (.str (txS F))]) (by simp [lf, k1, k2])]
     cases h3 : F.all dig with
     | false =>
       rw [h3] at al
       refine vD ?_
       simp only [ifG_eq, notT_eq, testT_eq, callB_eq, consA_eq, xU, comp, nilA_eq, Option.map_some, Option.bind_some, al, truD_bl]
       simp [h1, h2, h3]
     | true =>
       rw [h3] at al
       rw [qK (ds' := [.v (.str (txS cs)), .v (.str (txS F))]) (by
        simp only [ifG_eq, notT_eq, testT_eq, callB_eq, consA_eq, xU, comp, nilA_eq, Option.map_some, Option.bind_some, al, truD_bl]
        simp)]
       cases F with
       | nil => simp at h1
       | cons c r =>
         have ix := ix_tx0 c r (by omega)
         have ne0 := ne_tx (a := [c]) (fun d hd => by rw [List.mem_singleton.mp hd]; exact fa c (.head _)) (yA (cs := [48]) rfl)
         rw [t_zero]
         have h5 : r.length <= 59 := by simp at h2; omega
         by_cases h4 : c = 48
         · subst h4
           simp [ix, ne0, eq0, h1, h2, h3, h5]
         · simp [ix, ne0, eq0, h1, h2, h3, h4, h5]
   · have k2 : (60 : Int) < (F.length : Int) := by omega
     refine vD ?_
     simp [lf, k1, k2, h1, h2]
 · have k1 : (F.length : Int) < 1 := by omega
   refine vD ?_
   simp [lf, k1, h1]
theorem int_text {cs : List Nat} (h : numL cs = true) : cs.length <= 61 /\ intText? (txS cs) = some (valT cs) := by
 unfold numL at h
 simp only [Bool.and_eq_true, decide_eq_true_eq] at h
 obtain ⟨h1, h2, h3, h4⟩ := h
 have hd : AllDigits (figs cs) := fun c hc => by
  have := List.all_eq_true.mp h3 c hc
  simpa [dig] using this
 cases cs with
 | nil => simp [figs] at h1
 | cons c r =>
   by_cases hc : c = 45
   · subst hc
     have e : figs (45 :: r) = r := by simp [figs]
     rw [e] at h1 h2 hd
     refine ⟨by simp; omega, ?_⟩
     have := intText_neg (x := txS (45 :: r)) (cs := r) rfl hd (by intro z; rw [z] at h1; simp at h1) (by simp; omega)
     rw [this]
     simp [valT]
   · have e : figs (c :: r) = c :: r := by simp [figs, hc]
     rw [e] at h1 h2 hd
     refine ⟨by simp at h2 ⊢; omega, ?_⟩
     have := intText_digits (x := txS (c :: r)) hd (by simp) (by simp at h2 ⊢; omega)
     rw [this]
     simp [valT, hc]
theorem read_number_eq {cs : List Nat} (ha : Asc cs) (hl : cs.length <= 100000) (h : numL cs = true) : GP.read_number.f [.str (txS cs)] = some (.val (.int (valT cs))) := by
 have e := is_number_eq ha hl
 rw [h] at e
 obtain ⟨i1, i2⟩ := int_text h
 have it : intTD [.str (txS cs)] = some (.int (valT cs)) := by
  simp only [intTD, jG]
  rw [if_pos (by omega), i2]
  rfl
 refine jL ?_
 unfold GP.read_number.g
 simp [args, e, it]
end FL
namespace FL
open PySem PyProof.Rows L2 NumText
def splitL (c : Nat) : List Nat -> List (List Nat)
 | [] => [[]]
 | a :: r => if a = c then [] :: splitL c r else match splitL c r with
   | h :: t => (a :: h) :: t
   | [] => [[a]]
def joinL (c : Nat) : List (List Nat) -> List Nat
 | [] => []
 | [p] => p
 | p :: q :: r => p ++ c :: joinL c (q :: r)
theorem vM (c : Nat) (s : List Nat) : ∀ p : List Nat, c ∉ p -> ∀ h t, splitL c s = h :: t -> splitL c (p ++ s) = (p ++ h) :: t
 | [], _, h, t, e => e
 | a :: p, hp, h, t, e => by
   have ih := vM c s p (fun z => hp (.tail _ z)) h t e
   have ha : a ≠ c := fun z => hp (z ▸ .head _)
   show (if a = c then [] :: splitL c (p ++ s) else match splitL c (p ++ s) with | h :: t => (a :: h) :: t | [] => [[a]]) = _
   rw [if_neg ha, ih]
   rfl
theorem xF (c : Nat) : ∀ ps : List (List Nat), ps ≠ [] -> (∀ p ∈ ps, c ∉ p) -> splitL c (joinL c ps) = ps
 | [], h, _ => (h rfl).elim
 | [p], _, h => by
   have := vM c [] p (h p (.head _)) [] [] rfl
   simpa [joinL] using this
 | p :: q :: r, _, h => by
   have ih := xF c (q :: r) (by simp) fun x hx => h x (.tail _ hx)
   have e : splitL c (c :: joinL c (q :: r)) = [] :: (q :: r) := by
    show (if c = c then [] :: splitL c (joinL c (q :: r)) else _) = _
    rw [if_pos rfl, ih]
   have := vM c (c :: joinL c (q :: r)) p (h p (.head _)) [] (q :: r) e
   simpa [joinL] using this
theorem count_join (c : Nat) : ∀ ps : List (List Nat), ps ≠ [] -> (joinL c ps).count c + 1 = ps.length + (ps.map (·.count c)).sum
 | [], h => (h rfl).elim
 | [p], _ => by simp [joinL]; omega
 | p :: q :: r, _ => by
   have ih := count_join c (q :: r) (by simp)
   simp only [joinL, List.count_append, List.count_cons, beq_self_eq_true, if_true, List.length_cons, List.map_cons, List.sum_cons] at ih ⊢
   omega
theorem join_tx (c : Nat) : ∀ ps : List (List Nat), Str.join (txS [c]) (ps.map txS) = txS (joinL c ps)
 | [] => rfl
 | [p] => rfl
 | p :: q :: r => by
   have ih := join_tx c (q :: r)
   show txS p ++ txS [c] ++ Str.join (txS [c]) ((q :: r).map txS) = _
   rw [ih, xZ, xZ]
   simp [joinL]
theorem one_sum (x : Nat) : ∀ l : List Nat, x ∈ l -> x <= l.sum
 | a :: l, h => by
   rw [List.sum_cons]
   rcases List.mem_cons.mp h with z | z
   · omega
   · have := one_sum x l z; omega
theorem split_eq (cs : List Nat) {c : Nat} (hc : c < 256) : Txt.split (txS cs) (txS [c]) = (splitL c cs).map txS := by
 have hl := split_count cs c hc
 have hj := StrLaws.join_split (txS cs) (txS [c])
 generalize Txt.split (txS cs) (txS [c]) = L at *
 have eL : L = (L.map fun x => x.cps.toList).map txS := by
  rw [List.map_map]
  have : (txS ∘ fun x : Str => x.cps.toList) = id := funext fun x => wQ x
  rw [this, List.map_id]
 generalize hP : (L.map fun x => x.cps.toList) = ps at *
 have hlen : ps.length = cs.count c + 1 := by rw [<- hP, List.length_map]; exact hl
 rw [eL, join_tx, txS_inj] at hj
 have hne : ps ≠ [] := fun z => by rw [z] at hlen; simp at hlen
 have cj := count_join c ps hne
 rw [hj] at cj
 have z0 : (ps.map (·.count c)).sum = 0 := by omega
 have no : ∀ p ∈ ps, c ∉ p := fun p hp => by
  rw [<- List.count_eq_zero]
  have : p.count c <= (ps.map (·.count c)).sum := one_sum (p.count c) _ (List.mem_map.mpr ⟨p, hp, rfl⟩)
  omega
 rw [eL, <- hj, xF c ps hne no]
end FL
namespace FL
open PySem PyProof.Rows L2 NumText Builtin.Str
def join2 : List (List Nat) -> List Nat
 | [] => []
 | [p] => p
 | p :: q :: r => p ++ 59 :: 32 :: join2 (q :: r)
def mk2 : List (List Nat) -> List (List Nat)
 | [] => []
 | p :: r => p :: r.map (32 :: ·)
theorem mk2_inj {a b : List (List Nat)} (h : mk2 a = mk2 b) : a = b := by
 cases a with
 | nil => cases b with
   | nil => rfl
   | cons q r => simp [mk2] at h
 | cons p r =>
   cases b with
   | nil => simp [mk2] at h
   | cons q s =>
     simp only [mk2, List.cons.injEq] at h
     obtain ⟨rfl, h⟩ := h
     have : r = s := (List.map_inj_right (f := fun x : List Nat => 32 :: x) (fun x y z => by simpa using z)).mp h
     rw [this]
theorem join_mk2 : ∀ ps : List (List Nat), joinL 59 (mk2 ps) = join2 ps
 | [] => rfl
 | [p] => rfl
 | p :: q :: r => by
   have ih := join_mk2 (q :: r)
   show p ++ 59 :: joinL 59 ((32 :: q) :: r.map (32 :: ·)) = p ++ 59 :: 32 :: join2 (q :: r)
   rw [<- ih]
   cases r with
   | nil => rfl
   | cons s r => rfl
theorem uniq2 {a b : List (List Nat)} (ha : a ≠ []) (hb : b ≠ []) (na : ∀ p ∈ a, 59 ∉ p) (nb : ∀ p ∈ b, 59 ∉ p) (h : join2 a = join2 b) : a = b := by
 have key : ∀ c : List (List Nat), c ≠ [] -> (∀ p ∈ c, 59 ∉ p) -> splitL 59 (join2 c) = mk2 c := fun c hc nc => by
  rw [<- join_mk2]
  refine xF 59 (mk2 c) ?_ ?_
  · cases c with
    | nil => exact (hc rfl).elim
    | cons p r => simp [mk2]
  · cases c with
    | nil => exact (hc rfl).elim
    | cons p r =>
      intro x hx
      rcases List.mem_cons.mp hx with rfl | hx
      · exact nc _ (.head _)
      · obtain ⟨q, hq, rfl⟩ := List.mem_map.mp hx
        intro z
        rcases List.mem_cons.mp z with z | z
        · cases z
        · exact nc q (.tail _ hq) z
 exact mk2_inj (by rw [<- key a ha na, <- key b hb nb, h])
theorem count2 : ∀ ps : List (List Nat), ps ≠ [] -> (join2 ps).count 59 + 1 = ps.length + (ps.map (·.count 59)).sum
 | [], h => (h rfl).elim
 | [p], _ => by simp [join2]; omega
 | p :: q :: r, _ => by
   have ih := count2 (q :: r) (by simp)
   have e : (59 :: 32 :: join2 (q :: r)).count 59 = (join2 (q :: r)).count 59 + 1 := by simp [List.count_cons]
   simp only [join2, List.count_append, e, List.length_cons, List.map_cons, List.sum_cons] at ih ⊢
   omega
theorem next2 : ∀ ps : List (List Nat), (∀ p ∈ ps, 59 ∉ p) -> ∀ i, (join2 ps)[i]? = some 59 -> (join2 ps)[i + 1]? = some 32
 | [], _, i, h => by simp [join2] at h
 | [p], hp, i, h => (hp p (.head _) (List.mem_of_getElem? h)).elim
 | p :: q :: r, hp, i, h => by
   have ih := next2 (q :: r) fun x hx => hp x (.tail _ hx)
   show (p ++ 59 :: 32 :: join2 (q :: r))[i + 1]? = some 32
   have h : (p ++ 59 :: 32 :: join2 (q :: r))[i]? = some 59 := h
   by_cases hi : i < p.length
   · rw [List.getElem?_append_left hi] at h
     exact (hp p (.head _) (List.mem_of_getElem? h)).elim
   · rw [List.getElem?_append_right (by omega)] at h ⊢
     obtain ⟨k, hk⟩ : ∃ k, i - p.length = k := ⟨_, rfl⟩
     rw [show i + 1 - p.length = k + 1 by omega]
     rw [hk] at h
     match k, h with
     | 0, _ => rfl
     | 1, h => simp at h
     | k + 2, h => exact ih k (by simpa using h)
theorem occ2 (cs : List Nat) (hn : ∀ i, cs[i]? = some 59 -> cs[i + 1]? = some 32) (lim : Nat) : ∀ (m a : Nat) (st : Array Nat × Nat), (st.snd <= a \/ (st.snd = a + 1 /\ cs[a]? ≠ some 59)) -> st.fst.size + m <= lim →
  (forIn (m := Id) (List.range' a m) st (StrLaws.occBody (txS cs) (txS [59, 32]) (txS cs).length lim)).run.fst.size = st.fst.size + ((List.range' a m).filter (fun i => decide (cs[i]? = some 59))).length
 | 0, a, st, _, _ => by simp
 | m + 1, a, st, h1, h2 => by
   rw [List.range'_succ, List.forIn_cons, List.filter_cons]
   have sub : ∀ a, subAt (txS cs) (txS [59, 32]) a = ((cs.drop a).take 2 == [59, 32]) := fun a => by rw [StrLaws.subAt_eq]; rfl
   unfold StrLaws.occBody
   by_cases h : cs[a]? = some 59
   · have hx := hn a h
     have hlt : a + 1 < cs.length := (List.getElem?_eq_some_iff.mp hx).1
     have e0 : cs[a]'(by omega) = 59 := by have := (List.getElem?_eq_some_iff.mp h).2; exact this
     have e1 : cs[a + 1] = 32 := (List.getElem?_eq_some_iff.mp hx).2
     have tk : (cs.drop a).take 2 = [59, 32] := by
      rw [List.drop_eq_getElem_cons (by omega), List.drop_eq_getElem_cons hlt, e0, e1]
      rfl
     have hs : st.snd <= a := h1.elim id fun z => (z.2 h).elim
     rw [if_pos ⟨⟨⟨by omega, hs⟩, by rw [jG, jG]; show a + 2 <= _; omega⟩, by rw [sub, tk]; rfl⟩, if_pos (by simpa using h)]
     have ih := occ2 cs hn lim m (a + 1) (st.fst.push a, a + (txS [59, 32]).length) (.inr ⟨rfl, by rw [hx]; simp⟩) (by simp; omega)
     simp only [Array.size_push] at ih
     simp only [List.length_cons]
     exact ih.trans (by omega)
   · have nm : ¬ (subAt (txS cs) (txS [59, 32]) a = true) := fun z => by
      rw [sub, beq_iff_eq] at z
      apply h
      have : ((cs.drop a).take 2)[0]? = some 59 := by rw [z]; rfl
      rw [List.getElem?_take_of_lt (by decide), List.getElem?_drop] at this
      simpa using this
     rw [if_neg (fun z => nm z.2), if_neg (by simpa using h)]
     exact occ2 cs hn lim m (a + 1) st (.inl (by omega)) (by omega)
theorem sum0 : ∀ l : List Nat, (∀ x ∈ l, x = 0) -> l.sum = 0
 | [], _ => rfl
 | a :: l, h => by rw [List.sum_cons, h a (.head _), sum0 l fun x hx => h x (.tail _ hx)]
theorem split2 {ps : List (List Nat)} (hne : ps ≠ []) (hp : ∀ p ∈ ps, 59 ∉ p) : Txt.split (txS (join2 ps)) (txS [59, 32]) = ps.map txS := by
 have hn := next2 ps hp
 have hc2 := count2 ps hne
 have z0 : (ps.map (·.count 59)).sum = 0 := by
  have : ∀ x ∈ ps.map (·.count 59), x = 0 := fun x hx => by
   obtain ⟨p, h1, rfl⟩ := List.mem_map.mp hx
   exact List.count_eq_zero.mpr (hp p h1)
  exact sum0 _ this
 generalize hcs : join2 ps = cs at *
 have oc : (occurrences (txS cs) (txS [59, 32]) 0 (txS cs).length ((txS cs).length + 1)).length = cs.count 59 := by
  rw [StrLaws.occ_eq, Array.length_toList, occ2 cs hn _ _ 0 (#[], 0) (.inl (Nat.le_refl _)) (by simp)]
  have := xN 59 cs []
  simp only [List.length_nil, List.nil_append] at this
  rw [jG, Nat.sub_zero, List.range'_concat, List.filter_append, List.length_append, this]
  simp
 have hl : (Txt.split (txS cs) (txS [59, 32])).length = cs.count 59 + 1 := by
  unfold Txt.split
  split
  · rename_i h
    rcases Bool.or_eq_true_iff.mp h with h | h
    · have hs : cs.length < 2 := by simpa using h
      have : cs.count 59 = 0 := by
       rw [List.count_eq_zero]
       intro z
       obtain ⟨i, hi⟩ := List.mem_iff_getElem?.mp z
       have := (List.getElem?_eq_some_iff.mp (hn i hi)).1
       omega
      rw [this]
      rfl
    · exfalso
      have k1 : Builtin.Str.strKind (txS [59, 32]) = 1 := by simp [Builtin.Str.strKind, txS]
      have k2 : 1 <= Builtin.Str.strKind (txS cs) := by
       unfold Builtin.Str.strKind
       split
       · decide
       · split <;> decide
      rw [k1] at h
      have := of_decide_eq_true h
      omega
  · split
    · rename_i h
      rw [List.isEmpty_iff.mp h] at oc
      simp at oc
      simp only [List.length_singleton]
      omega
    · rw [length_partsBetween, oc]
 have hj := StrLaws.join_split (txS cs) (txS [59, 32])
 generalize Txt.split (txS cs) (txS [59, 32]) = L at *
 have eL : L = (L.map fun x => x.cps.toList).map txS := by
  rw [List.map_map]
  have : (txS ∘ fun x : Str => x.cps.toList) = id := funext fun x => wQ x
  rw [this, List.map_id]
 generalize hP : (L.map fun x => x.cps.toList) = qs at *
 have hlen : qs.length = cs.count 59 + 1 := by rw [<- hP, List.length_map]; exact hl
 have jt : ∀ qs : List (List Nat), Str.join (txS [59, 32]) (qs.map txS) = txS (join2 qs) := by
  intro qs
  match qs with
  | [] => rfl
  | [p] => rfl
  | p :: q :: r =>
    have ih : ∀ (q : List Nat) (r : List (List Nat)), Str.join (txS [59, 32]) ((q :: r).map txS) = txS (join2 (q :: r)) := by
     intro q r
     induction r generalizing q with
     | nil => rfl
     | cons s r ih =>
       show txS q ++ txS [59, 32] ++ Str.join (txS [59, 32]) ((s :: r).map txS) = _
       rw [ih s, xZ, xZ]
       simp [join2]
    exact ih p (q :: r)
 rw [eL, jt, txS_inj] at hj
 have hne' : qs ≠ [] := fun z => by rw [z] at hlen; simp at hlen
 have cj := count2 qs hne'
 rw [hj] at cj
 have no : ∀ p ∈ qs, 59 ∉ p := fun p hp => by
  rw [<- List.count_eq_zero]
  have : p.count 59 <= (qs.map (·.count 59)).sum := one_sum (p.count 59) _ (List.mem_map.mpr ⟨p, hp, rfl⟩)
  omega
 rw [eL, uniq2 hne' hne no hp (by rw [hj, hcs])]
end FL
namespace FL
open PySem PyProof.Rows L2 NumText
open Builtin.Int (intBits)
def endT (w : Nat) (p : Int) : D := if w = 0 then .ins 7 [.int p] else if w = 1 then .ins 8 [.int p] else .ins 9 []
def lowT (w : Nat) (p : Int) : Option Int := if w = 0 then some p else if w = 1 then some (p + 1) else none
def behT (w : Nat) (p : Int) : Option Int := if w = 0 then some (p + 1) else if w = 1 then some p else none
theorem lowT_eq (w : Nat) (p : Int) : methR 0 [7, 8, 9, 10] GP.M_low_88ddca (endT w p) [] = some (.val (oi (lowT w p))) := by
 unfold endT lowT
 by_cases h0 : w = 0
 · simp [h0, GP.M_low_88ddca, GP.Shut_low.f, runG, GP.Shut_low.g, args, List.lookup]
 · by_cases h1 : w = 1
   · simp [h1, GP.M_low_88ddca, GP.Open_low.f, runG, GP.Open_low.g, args, List.lookup]
   · simp [h0, h1, GP.M_low_88ddca, GP.Endless_low.f, runG, GP.Endless_low.g, args]
theorem behT_eq (w : Nat) (p : Int) : methR 0 [7, 8, 9, 10] GP.M_behind_f72aa6 (endT w p) [] = some (.val (oi (behT w p))) := by
 unfold endT behT
 by_cases h0 : w = 0
 · simp [h0, GP.M_behind_f72aa6, GP.Shut_behind.f, runG, GP.Shut_behind.g, args, List.lookup]
 · by_cases h1 : w = 1
   · simp [h1, GP.M_behind_f72aa6, GP.Open_behind.f, runG, GP.Open_behind.g, args, List.lookup]
   · simp [h0, h1, GP.M_behind_f72aa6, GP.Endless_behind.f, runG, GP.Endless_behind.g, args]
theorem span2_eq (w v : Nat) (p q : Int) : GP.span2.f [endT w p, endT v q] = if aheadE (behT v q) (lowT w p) = true then none else some (.val (spD (lowT w p, behT v q))) := by
 have m1 := lowT_eq w p
 have m2 := behT_eq v q
 have a := aheadE_eq (behT v q) (lowT w p)
 have ar : args 4 [endT w p, endT v q] = [.v (endT w p), .v (endT v q), .no, .no] := by simp [args]
 unfold GP.span2.f runG GP.span2.g
 rw [ar]
 generalize endT w p = A at *
 generalize endT v q = B at *
 generalize lowT w p = L at *
 generalize behT v q = H at *
 have e1 : yI 2 (methV 0 [7, 8, 9, 10] GP.M_low_88ddca (qZ 0) qC) [.v A, .v B, .no, .no] = some (.nx [.v A, .v B, .v (oi L), .no]) := by simp [m1]
 have e2 : yI 3 (methV 0 [7, 8, 9, 10] GP.M_behind_f72aa6 (qZ 1) qC) [.v A, .v B, .v (oi L), .no] = some (.nx [.v A, .v B, .v (oi L), .v (oi H)]) := by simp [m2]
 rw [qK e1, qK e2]
 cases h : aheadE H L with
 | true => simp [a, h]
 | false => simp [a, h, spD]
theorem numV {r : List Nat} (ha : Asc r) (hl : r.length <= 100000) : GP.read_number.f [.str (txS r)] = (if numL r = true then some (.val (.int (valT r))) else none) := by
 have e := is_number_eq ha hl
 cases h : numL r with
 | true => rw [if_pos rfl]; exact read_number_eq ha hl h
 | false =>
   rw [h] at e
   unfold GP.read_number.f runG GP.read_number.g
   simp [args, e]
theorem initX (p : Int) : GP.Shut___init__.f [.int p] = some [.int p] := by
 unfold GP.Shut___init__.f FL.runN GP.Shut___init__.i
 simp [fldN, argsN]
def lowP (A : List Nat) : Option (Nat × Int) := if A = [40, 46, 46] then some (2, 0) else if A[0]? = some 91 then (if numL (A.drop 1) = true then some (0, valT (A.drop 1)) else none) else if A[0]? = some 40 then (if numL (A.drop 1) = true then some (1, valT (A.drop 1)) else none) else none
def highP (B : List Nat) : Option (Nat × Int) := if B = [46, 46, 41] then some (2, 0) else if B.getLast? = some 93 then (if numL B.dropLast = true then some (0, valT B.dropLast) else none) else if B.getLast? = some 41 then (if numL B.dropLast = true then some (1, valT B.dropLast) else none) else none
theorem lowV {A : List Nat} (ha : Asc A) (hl : A.length <= 100000) : GP.read_low_end.f [.str (txS A)] = (lowP A).map (fun q => .val (endT q.1 q.2)) := by
 have hd : Asc (A.drop 1) := fun c hc => ha c (List.mem_of_mem_drop hc)
 have n1 := numV hd (by simp; omega)
 have z : A.length <= 16777216 := by omega
 have eqA := eq_tx ha (yA (cs := [40, 46, 46]) rfl)
 have s1 : stwD (.str (txS A)) (.str (txS [91])) = some (.bl (decide (A[0]? = some 91))) := by simp only [stwD, stw_txS]
 have s2 : stwD (.str (txS A)) (.str (txS [40])) = some (.bl (decide (A[0]? = some 40))) := by simp only [stwD, stw_txS]
 have sl : Txt.slice (txS A) (some 1) none = txS (A.drop 1) := slice_from A 1
 have ii := initX (valT (A.drop 1))
 have ss : slsS (zL 0) (soP (zC (.int 1))) noP [.v (.str (txS A))] = some (.str (txS (A.drop 1))) := by simp [slsS, z, sl]
 unfold GP.read_low_end.f runG GP.read_low_end.g
 have ar : args 1 [.str (txS A)] = [.v (.str (txS A))] := by simp [args]
 rw [ar, t_lend, t_lsh, t_lop]
 have lp : lowP A = if A = [40, 46, 46] then some (2, 0) else if A[0]? = some 91 then (if numL (A.drop 1) = true then some (0, valT (A.drop 1)) else none) else if A[0]? = some 40 then (if numL (A.drop 1) = true then some (1, valT (A.drop 1)) else none) else none := rfl
 rw [lp]
 clear lp sl ha hd hl z
 generalize txS (A.drop 1) = XR at *
 generalize numL (A.drop 1) = nb at *
 generalize valT (A.drop 1) = vv at *
 generalize txS A = XA at *
 by_cases h0 : A = [40, 46, 46]
 · rw [decide_eq_true h0] at eqA
   rw [if_pos h0]
   simp [eqA, retDG, endT]
 · rw [decide_eq_false h0] at eqA
   rw [if_neg h0]
   by_cases h1 : A[0]? = some 91
   · rw [decide_eq_true h1] at s1
     rw [if_pos h1]
     cases nb with
     | true =>
       rw [if_pos rfl] at n1 ⊢
       simp [eqA, s1, ss, n1, makeG, ii, retDG, endT]
     | false =>
       rw [if_neg (by simp)] at n1 ⊢
       simp [eqA, s1, ss, n1, makeG, retDG]
   · rw [decide_eq_false h1] at s1
     rw [if_neg h1]
     by_cases h2 : A[0]? = some 40
     · rw [decide_eq_true h2] at s2
       rw [if_pos h2]
       cases nb with
       | true =>
         rw [if_pos rfl] at n1 ⊢
         simp [eqA, s1, s2, ss, n1, makeG, ii, retDG, endT]
       | false =>
         rw [if_neg (by simp)] at n1 ⊢
         simp [eqA, s1, s2, ss, n1, makeG, retDG]
     · rw [decide_eq_false h2] at s2
       rw [if_neg h2]
       simp [eqA, s1, s2]
theorem highV {A : List Nat} (ha : Asc A) (hl : A.length <= 100000) : GP.read_high_end.f [.str (txS A)] = (highP A).map (fun q => .val (endT q.1 q.2)) := by
 have hd : Asc A.dropLast := fun c hc => ha c ((List.dropLast_sublist A).subset hc)
 have n1 := numV hd (by simp; omega)
 have z : A.length <= 16777216 := by omega
 have eqA := eq_tx ha (yA (cs := [46, 46, 41]) rfl)
 have s1 : enwD (.str (txS A)) (.str (txS [93])) = some (.bl (decide (A.getLast? = some 93))) := by simp only [enwD, enw_txS]
 have s2 : enwD (.str (txS A)) (.str (txS [41])) = some (.bl (decide (A.getLast? = some 41))) := by simp only [enwD, enw_txS]
 have ii := initX (valT A.dropLast)
 have ss : A.getLast? ≠ none -> slsS (zL 0) noP (soP (un1 negD (zC (.int 1)))) [.v (.str (txS A))] = some (.str (txS A.dropLast)) := fun h => by
  have sl := slice_but A (fun e => h (by rw [e]; rfl))
  simp [slsS, z, sl]
 unfold GP.read_high_end.f runG GP.read_high_end.g
 have ar : args 1 [.str (txS A)] = [.v (.str (txS A))] := by simp [args]
 rw [ar, t_hend, t_hsh, t_hop]
 have lp : highP A = if A = [46, 46, 41] then some (2, 0) else if A.getLast? = some 93 then (if numL A.dropLast = true then some (0, valT A.dropLast) else none) else if A.getLast? = some 41 then (if numL A.dropLast = true then some (1, valT A.dropLast) else none) else none := rfl
 rw [lp]
 clear lp ha hd hl z
 generalize txS A.dropLast = XR at *
 generalize numL A.dropLast = nb at *
 generalize valT A.dropLast = vv at *
 generalize txS A = XA at *
 by_cases h0 : A = [46, 46, 41]
 · rw [decide_eq_true h0] at eqA
   rw [if_pos h0]
   simp [eqA, retDG, endT]
 · rw [decide_eq_false h0] at eqA
   rw [if_neg h0]
   by_cases h1 : A.getLast? = some 93
   · have ss := ss (by rw [h1]; simp)
     rw [decide_eq_true h1] at s1
     rw [if_pos h1]
     cases nb with
     | true =>
       rw [if_pos rfl] at n1 ⊢
       simp [eqA, s1, ss, n1, makeG, ii, retDG, endT]
     | false =>
       rw [if_neg (by simp)] at n1 ⊢
       simp [eqA, s1, ss, n1, makeG, retDG]
   · rw [decide_eq_false h1] at s1
     rw [if_neg h1]
     by_cases h2 : A.getLast? = some 41
     · have ss := ss (by rw [h2]; simp)
       rw [decide_eq_true h2] at s2
       rw [if_pos h2]
       cases nb with
       | true =>
         rw [if_pos rfl] at n1 ⊢
         simp [eqA, s1, s2, ss, n1, makeG, ii, retDG, endT]
       | false =>
         rw [if_neg (by simp)] at n1 ⊢
         simp [eqA, s1, s2, ss, n1, makeG, retDG]
     · rw [decide_eq_false h2] at s2
       rw [if_neg h2]
       simp [eqA, s1, s2]
theorem head_dig : ∀ m : Nat, 0 < m -> (Nat.toDigits 10 m).head? ≠ some '0' := by
 intro m
 induction m using Nat.strongRecOn with
 | _ m ih =>
   intro h
   by_cases h10 : m < 10
   · rw [Nat.toDigits_of_lt_base h10]
     have : ∀ k : Nat, k < 10 -> 0 < k -> Nat.digitChar k ≠ '0' := by decide
     simpa using this m h10 h
   · have t := Nat.toDigits_append_toDigits (b := 10) (n := m / 10) (d := m % 10) (by decide) (by omega) (Nat.mod_lt m (by decide))
     rw [Nat.div_add_mod] at t
     rw [<- t]
     have i2 := ih (m / 10) (by omega) (by omega)
     cases hd : Nat.toDigits 10 (m / 10) with
     | nil => have := PySem.W.KIN.val_back (m / 10); rw [hd] at this; simp [digitsVal] at this; omega
     | cons a r => rw [hd] at i2; simpa using i2
theorem dig_spec (m : Nat) (h : m < 10 ^ 61) : ∃ d : List Nat, d = (Nat.toDigits 10 m).map Char.toNat /\ AllDigits d /\ 1 <= d.length /\ (d.length <= 61 /\ (m < 10 ^ 60 -> d.length <= 60)) /\ digitsVal d = m /\ (d.head? ≠ some 48 \/ d = [48]) := by
 refine ⟨_, rfl, ?_, ?_, ?_, PySem.W.KIN.val_back m, ?_⟩
 · intro c hc
   obtain ⟨ch, hch, e⟩ := List.mem_map.mp hc
   have r := digit_range (Nat.isDigit_of_mem_toDigits (by decide) (by decide) hch)
   rw [<- e]
   exact r
 · rw [List.length_map]
   cases hd : Nat.toDigits 10 m with
   | nil =>
     have := toDigits_len_ge 10 m
     rw [hd] at this
     exact absurd this (by decide)
   | cons a r => simp
 · have e := PySem.W.KIN.signs_num m
   have el : (Str.ofString (toString ((m : Nat) : Int))).length = ((Nat.toDigits 10 m).map Char.toNat).length := by rw [<- e]; simp [Str.length]
   constructor
   · have hl := toString_length_le (v := (m : Int)) (by omega) (k := 61) (by decide) (by exact_mod_cast h)
     rw [el] at hl
     exact hl
   · intro h'
     have hl := toString_length_le (v := (m : Int)) (by omega) (k := 60) (by decide) (by exact_mod_cast h')
     rw [el] at hl
     exact hl
 · by_cases h0 : m = 0
   · subst h0; right; decide
   · left
     have := head_dig m (by omega)
     cases hd : Nat.toDigits 10 m with
     | nil => simp
     | cons a r =>
       rw [hd] at this
       intro z
       have z' : a.toNat = 48 := by simpa using z
       refine this ?_
       have : a = '0' := Char.ext (UInt32.toNat_inj.mp (by exact z'))
       rw [this]
       rfl
theorem str_spec (n : Int) (h : n.natAbs < 10 ^ 61) : ∃ w, strD [.int n] = some (.str (txS w)) /\ Asc w /\ 44 ∉ w /\ w.length <= 62 /\ (n.natAbs < 10 ^ 60 -> numL w = true) /\ valT w = n := by
 obtain ⟨d, hd, d1, d2, ⟨d3, d3'⟩, d4, d5⟩ := dig_spec n.natAbs h
 have lg : n.natAbs.log2 < 1920 := by
  by_cases h0 : n.natAbs = 0
  · rw [h0]; decide
  · exact (Nat.log2_lt (k := 1920) h0).mpr (Nat.lt_trans h (by decide))
 have dg : ∀ c ∈ d, dig c = true := fun c hc => by simpa [dig] using d1 c hc
 have all : d.all dig = true := List.all_eq_true.mpr dg
 have n44 : 44 ∉ d := fun z => by have := d1 44 z; omega
 have n45 : d.head? ≠ some 45 := by
  cases d with
  | nil => simp
  | cons c r => have := d1 c (.head _); simp; omega
 have hs : strD [.int n] = some (.str (Str.ofString (toString n))) := by simp [strD, lg]
 by_cases hn : 0 <= n
 · have en : ((n.natAbs : Nat) : Int) = n := by omega
   have e : Str.ofString (toString n) = txS d := by
    rw [<- wQ (Str.ofString (toString n)), <- en, PySem.W.KIN.signs_num, <- hd]
   have fg : figs d = d := by
    cases d with
    | nil => rfl
    | cons c r => exact if_neg (by simpa using n45)
   refine ⟨d, by rw [hs, e], fun c hc => by have := d1 c hc; omega, n44, by omega, ?_, ?_⟩
   · intro hb
     have d3 := d3' hb
     unfold numL
     rw [fg, all]
     rcases d5 with z | z
     · simp [d2, d3, z]
     · simp [z]
   · cases d with
     | nil => simp at d2
     | cons c r =>
       show (if c = 45 then _ else _) = _
       rw [if_neg (by simpa using n45), d4]
       omega
 · obtain ⟨k, rfl⟩ : ∃ k : Nat, n = Int.negSucc k := by
    cases n with
    | ofNat k => simp at hn
    | negSucc k => exact ⟨k, rfl⟩
   have hk : (Int.negSucc k).natAbs = k + 1 := rfl
   rw [hk] at hd d4 d3'
   rw [hk]
   have e : Str.ofString (toString (Int.negSucc k)) = txS (45 :: d) := by
    rw [<- wQ (Str.ofString (toString (Int.negSucc k))), signs_ofString]
    have e1 : toString (Int.negSucc k) = "-" ++ Nat.repr (k + 1) := rfl
    rw [e1, String.toList_append, Nat.toList_repr, List.map_append, <- hd]
    rfl
   have hne : d ≠ [48] := fun z => by rw [z] at d4; simp [digitsVal] at d4
   refine ⟨45 :: d, by rw [hs, e], fun c hc => ?_, fun z => ?_, by simp; omega, ?_, ?_⟩
   · rcases List.mem_cons.mp hc with z | z
     · omega
     · have := d1 c z; omega
   · rcases List.mem_cons.mp z with z | z
     · omega
     · exact n44 z
   · intro hb
     have d3 := d3' hb
     have fg : figs (45 :: d) = d := by simp [figs]
     unfold numL
     rw [fg, all]
     rcases d5 with z | z
     · simp [d2, d3, z]
     · exact (hne z).elim
   · simp only [valT, if_true, d4]
     omega
end FL
namespace FL
open PySem PyProof.Rows L2 NumText
theorem yS {c : Nat} (hc : c < 256) {ps : List (List Nat)} (hne : ps ≠ []) (hp : ∀ p ∈ ps, c ∉ p) : Txt.split (txS (joinL c ps)) (txS [c]) = ps.map txS := by
 rw [split_eq _ hc, xF c ps hne hp]
theorem ends_val {A B : List Nat} {a b : Nat × Int} (aA : Asc A) (aB : Asc B) (hl : A.length + B.length <= 90000) (h1 : 44 ∉ A) (h2 : 44 ∉ B) (ha : lowP A = some a) (hb : highP B = some b) : GP.read_ends.f [.str (txS (A ++ 44 :: B))] = some (.val (.tup [endT a.1 a.2, endT b.1 b.2])) := by
 have es : Txt.split (txS (A ++ 44 :: B)) (txS [44]) = [txS A, txS B] := yS (c := 44) (ps := [A, B]) (by decide) (by simp) (fun p hp => by
  simp only [List.mem_cons, List.not_mem_nil, or_false] at hp
  rcases hp with rfl | rfl
  · exact h1
  · exact h2)
 have z : (A ++ 44 :: B).length + 2 <= 16777216 := by simp; omega
 have sp : splA (zL 0) (zC (.str (Str.ofString ","))) [.v (.str (txS (A ++ 44 :: B))), .no] = some [.str (txS A), .str (txS B)] := by
  rw [t_comma]
  simp only [splA, wD, xG, List.getElem?_cons_zero, Option.bind_some, jG, szl]
  rw [if_pos ⟨rfl, z⟩, es]
  rfl
 have l1 := lowV aA (by omega)
 have g1 := highV aB (by omega)
 rw [ha] at l1
 rw [hb] at g1
 have ar : args 2 [.str (txS (A ++ 44 :: B))] = [.v (.str (txS (A ++ 44 :: B))), .no] := by simp [args]
 clear es
 generalize txS (A ++ 44 :: B) = XC at *
 generalize txS A = XA at *
 generalize txS B = XB at *
 unfold GP.read_ends.f runG GP.read_ends.g
 rw [ar]
 simp [sp, l1, g1, retDG]
theorem t_blank : Str.ofString " " = txS [32] := by decide
theorem t_eq : Str.ofString "=" = txS [61] := by decide
theorem item1 {A B W : List Nat} {a b : Nat × Int} (aA : Asc A) (aB : Asc B) (aW : Asc W) (hl : A.length + B.length + W.length <= 10000) (hA : 44 ∉ A /\ 32 ∉ A /\ 61 ∉ A) (hB : 44 ∉ B /\ 32 ∉ B /\ 61 ∉ B) (hW : 32 ∉ W /\ 61 ∉ W) (ha : lowP A = some a) (hb : highP B = some b) (hw : numL W = true) (ho : aheadE (behT b.1 b.2) (lowT a.1 a.2) = false) :
  GP.item_rows.f [.str (txS ((A ++ 44 :: B) ++ 61 :: W))] = some (.fresh [rvD ((lowT a.1 a.2, behT b.1 b.2), some (valT W))]) := by
 have s32 : Txt.split (txS ((A ++ 44 :: B) ++ 61 :: W)) (txS [32]) = [txS ((A ++ 44 :: B) ++ 61 :: W)] := yS (c := 32) (ps := [(A ++ 44 :: B) ++ 61 :: W]) (by decide) (by simp) (fun p hp => by
  rw [List.mem_singleton.mp hp]
  simp [hA.2.1, hB.2.1, hW.1])
 have s61 : Txt.split (txS ((A ++ 44 :: B) ++ 61 :: W)) (txS [61]) = [txS (A ++ 44 :: B), txS W] := yS (c := 61) (ps := [A ++ 44 :: B, W]) (by decide) (by simp) (fun p hp => by
  simp only [List.mem_cons, List.not_mem_nil, or_false] at hp
  rcases hp with rfl | rfl
  · simp [hA.2.2, hB.2.2]
  · exact hW.2)
 have en := ends_val aA aB (by omega) hA.1 hB.1 ha hb
 have nu := numV aW (by omega)
 rw [hw, if_pos rfl] at nu
 have sp := span2_eq a.1 b.1 a.2 b.2
 rw [ho, if_neg (by simp)] at sp
 have z : ((A ++ 44 :: B) ++ 61 :: W).length + 2 <= 16777216 := by simp; omega
 have z' : (txS ((A ++ 44 :: B) ++ 61 :: W)).length + 2 <= sizeLine := by rw [jG, szl]; exact z
 clear z
 refine jL ?_
 unfold GP.item_rows.g
 have ar : args 7 [.str (txS ((A ++ 44 :: B) ++ 61 :: W))] = [.v (.str (txS ((A ++ 44 :: B) ++ 61 :: W))), .no, .no, .no, .no, .no, .no] := by simp [args]
 rw [ar, t_blank, t_eq]
 generalize txS ((A ++ 44 :: B) ++ 61 :: W) = XC at *
 generalize txS (A ++ 44 :: B) = XE at *
 generalize txS W = XW at *
 have fr : flat (rvD ((lowT a.1 a.2, behT b.1 b.2), some (valT W))) = true := by simp [rvD, spD]
 have er : D.tup [spD (lowT a.1 a.2, behT b.1 b.2), .int (valT W)] = rvD ((lowT a.1 a.2, behT b.1 b.2), some (valT W)) := rfl
 generalize spD (lowT a.1 a.2, behT b.1 b.2) = SD at *
 generalize endT a.1 a.2 = EA at *
 generalize endT b.1 b.2 = EB at *
 generalize rvD ((lowT a.1 a.2, behT b.1 b.2), some (valT W)) = RD at *
 generalize valT W = vw at *
 rw [qK (ds' := [.v (.str XC), .v (.lst [.str XC]), .no, .no, .no, .no, .no]) (by
  simp only [yZ, xU, splA, wD, xG, List.getElem?_cons_zero, Option.bind_some, s32]
  rw [if_pos ⟨rfl, z'⟩]
  rfl)]
 rw [qK (ds' := [.v (.str XC), .v (.lst [.str XC]), .v (.lst [.str XE, .str XW]), .no, .no, .no, .no]) (by
  simp only [yZ, xU, splA, bin2_eq, wD, xG, List.getElem?_cons_zero, List.getElem?_cons_succ, Option.bind_some, ixL0, s61]
  rw [if_pos ⟨rfl, z'⟩]
  rfl)]
 rw [qK (ds' := [.v (.str XC), .v (.lst [.str XC]), .v (.lst [.str XE, .str XW]), .no, .no, .no, .no]) (by simp)]
 rw [qK (ds' := [.v (.str XC), .v (.lst [.str XC]), .v (.lst [.str XE, .str XW]), .v (.tup [EA, EB]), .no, .no, .no]) (by simp [en])]
 rw [qK (ds' := [.v (.str XC), .v (.lst [.str XC]), .v (.lst [.str XE, .str XW]), .v (.tup [EA, EB]), .v (.int vw), .no, .no]) (by simp [nu])]
 have pk : wC [D.str XC] (some 2) none 2 = [] := rfl
 have cp : compG (viaA (mkL (stpA (zL 1) (soP (zC (.int 2))) noP 2)) asLT) [none] (zT 0) (fun _ => some true) (qO 1 GP.read_number.f (zG (zL 0) qC)) [.v (.str XC), .v (.lst [.str XC]), .v (.lst [.str XE, .str XW]), .v (.tup [EA, EB]), .v (.int vw), .no, .no] = some [] := by
  refine yO (items := []) ?_ (by simp) rfl
  simp [stpA, pk]
 rw [qK (ds' := [.v (.str XC), .v (.lst [.str XC]), .v (.lst [.str XE, .str XW]), .v (.tup [EA, EB]), .v (.int vw), .v (.lst []), .no]) (by
  simp only [yZ, xU, cp, Option.map_some]
  rfl)]
 rw [qK (ds' := [.v (.str XC), .v (.lst [.str XC]), .v (.lst [.str XE, .str XW]), .v (.tup [EA, EB]), .v (.int vw), .v (.lst []), .v SD]) (by simp [sp])]
 refine vD ?_
 simp [er, fr]
def eachL : List Nat := [101, 97, 99, 104]
def timesL : List Nat := [116, 105, 109, 101, 115]
theorem t_each : Str.ofString "each" = txS eachL := by decide
theorem t_times : Str.ofString "times" = txS timesL := by decide
theorem comes_eq (x y z : D) : GP.comes_each.f [.lst [x, .str (txS eachL), y, .str (txS timesL), z]] = some (.val (.bl true)) := by
 have e1 := eq_tx (a := eachL) (b := eachL) (yA rfl) (yA rfl)
 have e2 := eq_tx (a := timesL) (b := timesL) (yA rfl) (yA rfl)
 rw [decide_eq_true rfl] at e1 e2
 refine jL ?_
 unfold GP.comes_each.g
 rw [t_each, t_times]
 generalize txS eachL = XE at *
 generalize txS timesL = XT at *
 simp [args, e1, e2]
theorem item5 {A B W S N : List Nat} {a b : Nat × Int} {lo bh : Int} (aA : Asc A) (aB : Asc B) (aW : Asc W) (aS : Asc S) (aN : Asc N) (hl : A.length + B.length + W.length + S.length + N.length <= 10000) (hA : 44 ∉ A /\ 32 ∉ A /\ 61 ∉ A) (hB : 44 ∉ B /\ 32 ∉ B /\ 61 ∉ B) (hW : 32 ∉ W /\ 61 ∉ W) (hS : 32 ∉ S) (hN : 32 ∉ N) (ha : lowP A = some a) (hb : highP B = some b) (hw : numL W = true) (hs : numL S = true) (hn : numL N = true)
  (hlo : lowT a.1 a.2 = some lo) (hbh : behT b.1 b.2 = some bh) (ok : okL (lo, bh, valT S, valT N, valT W) = true) :
  GP.item_rows.f [.str (txS (joinL 32 [(A ++ 44 :: B) ++ 61 :: W, eachL, S, timesL, N]))] = some (.fresh ((rowsR (lo, bh, valT S, valT N, valT W)).map rvD)) := by
 have s32 : Txt.split (txS (joinL 32 [(A ++ 44 :: B) ++ 61 :: W, eachL, S, timesL, N])) (txS [32]) = [txS ((A ++ 44 :: B) ++ 61 :: W), txS eachL, txS S, txS timesL, txS N] := yS (c := 32) (by decide) (by simp) (fun p hp => by
  simp only [List.mem_cons, List.not_mem_nil, or_false] at hp
  rcases hp with rfl | rfl | rfl | rfl | rfl
  · simp [hA.2.1, hB.2.1, hW.1]
  · decide
  · exact hS
  · decide
  · exact hN)
 have s61 : Txt.split (txS ((A ++ 44 :: B) ++ 61 :: W)) (txS [61]) = [txS (A ++ 44 :: B), txS W] := yS (c := 61) (ps := [A ++ 44 :: B, W]) (by decide) (by simp) (fun p hp => by
  simp only [List.mem_cons, List.not_mem_nil, or_false] at hp
  rcases hp with rfl | rfl
  · simp [hA.2.2, hB.2.2]
  · exact hW.2)
 have en := ends_val aA aB (by omega) hA.1 hB.1 ha hb
 have nu := numV aW (by omega)
 rw [hw, if_pos rfl] at nu
 have nS := numV aS (by omega)
 rw [hs, if_pos rfl] at nS
 have nN := numV aN (by omega)
 rw [hn, if_pos rfl] at nN
 have olt := (xR ok).2.2.1
 simp only at olt
 have sp := span2_eq a.1 b.1 a.2 b.2
 rw [hlo, hbh, if_neg (by simp [aheadE]; omega)] at sp
 have le := length_eq (some lo, some bh)
 have rr := rule_rows_eq ok
 have fl := flats_rv (rowsR (lo, bh, valT S, valT N, valT W))
 have z' : (txS (joinL 32 [(A ++ 44 :: B) ++ 61 :: W, eachL, S, timesL, N])).length + 2 <= sizeLine := by rw [jG, szl]; simp [joinL, eachL, timesL]; omega
 have z2 : (txS ((A ++ 44 :: B) ++ 61 :: W)).length + 2 <= sizeLine := by rw [jG, szl]; simp; omega
 refine jL ?_
 unfold GP.item_rows.g
 have ar : args 7 [.str (txS (joinL 32 [(A ++ 44 :: B) ++ 61 :: W, eachL, S, timesL, N]))] = [.v (.str (txS (joinL 32 [(A ++ 44 :: B) ++ 61 :: W, eachL, S, timesL, N]))), .no, .no, .no, .no, .no, .no] := by simp [args]
 rw [ar, t_blank, t_eq]
 have ce := comes_eq (.str (txS ((A ++ 44 :: B) ++ 61 :: W))) (.str (txS S)) (.str (txS N))
 have rd : rlD (lo, bh, valT S, valT N, valT W) = .tup [.int lo, .int bh, .int (valT S), .int (valT N), .int (valT W)] := rfl
 rw [rd] at rr
 generalize txS (joinL 32 [(A ++ 44 :: B) ++ 61 :: W, eachL, S, timesL, N]) = XC at *
 generalize txS ((A ++ 44 :: B) ++ 61 :: W) = X0 at *
 generalize txS (A ++ 44 :: B) = XE at *
 generalize txS W = XW at *
 generalize txS S = XS at *
 generalize txS N = XN at *
 generalize txS eachL = Xe at *
 generalize txS timesL = Xt at *
 generalize endT a.1 a.2 = EA at *
 generalize endT b.1 b.2 = EB at *
 generalize (rowsR (lo, bh, valT S, valT N, valT W)).map rvD = RW at *
 generalize valT W = vw at *
 generalize valT S = vs at *
 generalize valT N = vn at *
 rw [qK (ds' := [.v (.str XC), .v (.lst [.str X0, .str Xe, .str XS, .str Xt, .str XN]), .no, .no, .no, .no, .no]) (by
  simp only [yZ, xU, splA, wD, xG, List.getElem?_cons_zero, Option.bind_some, s32]
  rw [if_pos ⟨rfl, z'⟩]
  rfl)]
 rw [qK (ds' := [.v (.str XC), .v (.lst [.str X0, .str Xe, .str XS, .str Xt, .str XN]), .v (.lst [.str XE, .str XW]), .no, .no, .no, .no]) (by
  simp only [yZ, xU, splA, bin2_eq, wD, xG, List.getElem?_cons_zero, List.getElem?_cons_succ, Option.bind_some, ixL0, s61]
  rw [if_pos ⟨rfl, z2⟩]
  rfl)]
 rw [qK (ds' := [.v (.str XC), .v (.lst [.str X0, .str Xe, .str XS, .str Xt, .str XN]), .v (.lst [.str XE, .str XW]), .no, .no, .no, .no]) (by simp [ce])]
 rw [qK (ds' := [.v (.str XC), .v (.lst [.str X0, .str Xe, .str XS, .str Xt, .str XN]), .v (.lst [.str XE, .str XW]), .v (.tup [EA, EB]), .no, .no, .no]) (by simp [en])]
 rw [qK (ds' := [.v (.str XC), .v (.lst [.str X0, .str Xe, .str XS, .str Xt, .str XN]), .v (.lst [.str XE, .str XW]), .v (.tup [EA, EB]), .v (.int vw), .no, .no]) (by simp [nu])]
 have pk : wC [D.str X0, .str Xe, .str XS, .str Xt, .str XN] (some 2) none 2 = [.str XS, .str XN] := by
  have hr : sliceRange (sliceBounds (some 2) none (some 2) 5).1 (sliceBounds (some 2) none (some 2) 5).2.1 (sliceBounds (some 2) none (some 2) 5).2.2 = [2, 4] := by decide
  show (sliceRange (sliceBounds (some 2) none (some 2) 5).1 (sliceBounds (some 2) none (some 2) 5).2.1 (sliceBounds (some 2) none (some 2) 5).2.2).filterMap _ = _
  rw [hr]
  rfl
 have cp : compG (viaA (mkL (stpA (zL 1) (soP (zC (.int 2))) noP 2)) asLT) [none] (zT 0) (fun _ => some true) (qO 1 GP.read_number.f (zG (zL 0) qC)) [.v (.str XC), .v (.lst [.str X0, .str Xe, .str XS, .str Xt, .str XN]), .v (.lst [.str XE, .str XW]), .v (.tup [EA, EB]), .v (.int vw), .no, .no] = some [.int vs, .int vn] := by
  refine yO (items := [.str XS, .str XN]) ?_ (by simp) ?_
  · simp [stpA, pk]
  · simp [compL, jK, nS, nN]
 rw [qK (ds' := [.v (.str XC), .v (.lst [.str X0, .str Xe, .str XS, .str Xt, .str XN]), .v (.lst [.str XE, .str XW]), .v (.tup [EA, EB]), .v (.int vw), .v (.lst [.int vs, .int vn]), .no]) (by
  simp only [yZ, xU, cp, Option.map_some]
  rfl)]
 rw [qK (ds' := [.v (.str XC), .v (.lst [.str X0, .str Xe, .str XS, .str Xt, .str XN]), .v (.lst [.str XE, .str XW]), .v (.tup [EA, EB]), .v (.int vw), .v (.lst [.int vs, .int vn]), .v (spD (some lo, some bh))]) (by simp [sp])]
 rw [qK (ds' := [.v (.str XC), .v (.lst [.str X0, .str Xe, .str XS, .str Xt, .str XN]), .v (.lst [.str XE, .str XW]), .v (.tup [EA, EB]), .v (.int vw), .v (.lst [.int vs, .int vn]), .v (spD (some lo, some bh))]) (by simp)]
 rw [qK (ds' := [.v (.str XC), .v (.lst [.str X0, .str Xe, .str XS, .str Xt, .str XN]), .v (.lst [.str XE, .str XW]), .v (.tup [EA, EB]), .v (.int vw), .v (.lst [.int vs, .int vn]), .v (spD (some lo, some bh))]) (by simp [le])]
 have j0 : ixD (spD (some lo, some bh)) (.int 0) = some (.int lo) := by simp [spD]
 have j1 : ixD (spD (some lo, some bh)) (.int 1) = some (.int bh) := by simp [spD]
 simp [j0, j1, rr, fl]
end FL
namespace FL
open PySem PyProof.Rows L2 NumText
def Bd (B : Int) (x : Int) : Prop := -B < x /\ x < B
def EB (B : Int) (r : Rw) : Prop := (∀ x, r.1 = some x -> Bd B x) /\ (∀ x, r.2.1 = some x -> Bd B x) /\ (∀ x, r.2.2 = some x -> Bd B x)
theorem part_eb {B : Int} {s : Spn} {r r' : Rw} (h : EB B r) (h1 : ∀ x, s.1 = some x -> Bd B x) (h2 : ∀ x, s.2 = some x -> Bd B x) (e : part1 s r = some r') : EB B r' := by
 unfold part1 at e
 cases hm : meetS (r.1, r.2.1) s with
 | none => rw [hm] at e; cases e
 | some u =>
   rw [hm] at e
   simp only [Option.map_some, Option.some.injEq] at e
   subst e
   obtain ⟨m1, m2⟩ := meetS_mem hm
   refine ⟨fun x hx => ?_, fun x hx => ?_, h.2.2⟩
   · rcases m1 with m | m
     · exact h.1 x (m.symm.trans hx)
     · exact h1 x (m.symm.trans hx)
   · rcases m2 with m | m
     · exact h.2.1 x (m.symm.trans hx)
     · exact h2 x (m.symm.trans hx)
theorem knit1_eb {B : Int} {acc : List Rw} {r : Rw} (ha : ∀ q ∈ acc, EB B q) (hr : EB B r) : ∀ q ∈ knit1 acc r, EB B q := by
 unfold knit1
 cases hv : r.2.2 with
 | none => exact ha
 | some v =>
   cases acc with
   | nil => intro q hq; rw [List.mem_singleton.mp hq]; exact hr
   | cons p t =>
     simp only
     by_cases c : p.2.1 = r.1 /\ p.2.2 = some v
     · rw [if_pos c]
       intro q hq
       rcases List.mem_cons.mp hq with rfl | hq
       · exact ⟨(ha p (.head _)).1, hr.2.1, fun x hx => hr.2.2 x (hv.trans hx)⟩
       · exact ha q (.tail _ hq)
     · rw [if_neg c]
       intro q hq
       rcases List.mem_cons.mp hq with rfl | hq
       · exact hr
       · exact ha q hq
theorem knit_eb {B : Int} : ∀ (rows acc : List Rw), (∀ q ∈ acc, EB B q) -> (∀ q ∈ rows, EB B q) -> ∀ q ∈ rows.foldl knit1 acc, EB B q
 | [], acc, h, _ => h
 | r :: rows, acc, h, h2 => knit_eb rows (knit1 acc r) (knit1_eb h (h2 r (.head _))) (fun q hq => h2 q (.tail _ hq))
theorem knitF_eb {B : Int} {rows : List Rw} (h : ∀ q ∈ rows, EB B q) : ∀ q ∈ knitF rows, EB B q := fun q hq => knit_eb rows [] (fun _ h => nomatch h) h q (List.mem_reverse.mp hq)
theorem over_eb {B : Int} {ps : List Rw} (h : ∀ q ∈ ps, EB B q) {s : Spn} {v : Option Int} (hs : EB B (s.1, s.2, v)) : ∀ q ∈ overF ps s v, EB B q := by
 intro q hq
 unfold overF at hq
 rcases List.mem_append.mp hq with hq | hq
 · cases e : s.1 with
   | none => rw [e] at hq; exact nomatch hq
   | some a =>
     rw [e] at hq
     obtain ⟨r, hr, e2⟩ := mem_parts.mp hq
     exact part_eb (h r hr) (fun x hx => by cases hx) (fun x hx => hs.1 x (e.trans hx)) e2
 · rcases List.mem_cons.mp hq with rfl | hq
   · exact hs
   · cases e : s.2 with
     | none => rw [e] at hq; exact nomatch hq
     | some a =>
       rw [e] at hq
       obtain ⟨r, hr, e2⟩ := mem_parts.mp hq
       exact part_eb (h r hr) (fun x hx => hs.2.1 x (e.trans hx)) (fun x hx => by cases hx) e2
theorem fold_eb {B : Int} : ∀ (rows : List Rv) (ps : List Rw), (∀ q ∈ ps, EB B q) -> (∀ r ∈ rows, EB B (r.1.1, r.1.2, r.2)) -> ∀ q ∈ rows.foldl put1 ps, EB B q
 | [], ps, h, _ => h
 | r :: rows, ps, h, h2 => fold_eb rows (put1 ps r) (knitF_eb (over_eb h (h2 r (.head _)))) (fun q hq => h2 q (.tail _ hq))
theorem formed_eb {B : Int} {rows : List Rv} (h : ∀ r ∈ rows, EB B (r.1.1, r.1.2, r.2)) : ∀ q ∈ formedF rows, EB B q := fold_eb rows [] (fun _ h => nomatch h) h
structure Wd (n : Int) (w : List Nat) : Prop where
 st : strD [.int n] = some (.str (txS w))
 asc : Asc w
 len : w.length <= 62
 num : numL w = true
 val : valT w = n
 sg : ∀ c ∈ w, c = 45 \/ (48 <= c /\ c <= 57)
theorem num_sgn {w : List Nat} (h : numL w = true) : ∀ c ∈ w, c = 45 \/ (48 <= c /\ c <= 57) := by
 unfold numL at h
 simp only [Bool.and_eq_true] at h
 have ha := h.2.2.1
 intro c hc
 have dg : ∀ c ∈ figs w, 48 <= c /\ c <= 57 := fun c hc => by simpa [dig] using List.all_eq_true.mp ha c hc
 cases w with
 | nil => exact nomatch hc
 | cons a r =>
   by_cases e : a = 45
   · have ef : figs (a :: r) = r := if_pos e
     rw [ef] at dg
     rcases List.mem_cons.mp hc with z | z
     · exact .inl (z.trans e)
     · exact .inr (dg c z)
   · have ef : figs (a :: r) = a :: r := if_neg e
     rw [ef] at dg
     exact .inr (dg c hc)
theorem wL {n : Int} (h : Bd (10 ^ 60) n) : ∃ w, Wd n w := by
 have h' : n.natAbs < 10 ^ 60 := by have := h.1; have := h.2; omega
 obtain ⟨w, h1, h2, h3, h4, h5, h6⟩ := str_spec n (Nat.lt_trans h' (by decide))
 exact ⟨w, h1, h2, h4, h5 h', h6, num_sgn (h5 h')⟩
theorem Wd.no {n : Int} {w : List Nat} (h : Wd n w) {c : Nat} (h1 : c ≠ 45) (h2 : ¬ (48 <= c /\ c <= 57)) : c ∉ w := fun z => (h.sg c z).elim h1 h2
def LowC (lo : Option Int) (o : Bool) (A : List Nat) : Prop := match lo with
 | none => A = [40, 46, 46]
 | some a => if o = true then ∃ w, Wd (a - 1) w /\ A = 40 :: w else ∃ w, Wd a w /\ A = 91 :: w
def HighC (bh : Option Int) (o : Bool) (B : List Nat) : Prop := match bh with
 | none => B = [46, 46, 41]
 | some b => if o = true then ∃ w, Wd (b - 1) w /\ B = w ++ [93] else ∃ w, Wd b w /\ B = w ++ [41]
structure Sg (A : List Nat) : Prop where
 asc : Asc A
 len : A.length <= 63
 c44 : 44 ∉ A
 c32 : 32 ∉ A
 c61 : 61 ∉ A
 c59 : 59 ∉ A
theorem vY {n : Int} {w : List Nat} (h : Wd n w) {c : Nat} (hc : c < 1000) (h1 : c ≠ 44 /\ c ≠ 32 /\ c ≠ 61 /\ c ≠ 59) : Sg (c :: w) := by
 refine ⟨fun x hx => ?_, by have := h.len; simp; omega, ?_, ?_, ?_, ?_⟩
 · rcases List.mem_cons.mp hx with z | z
   · rw [z]; exact hc
   · exact h.asc x z
 all_goals
  intro z
  rcases List.mem_cons.mp z with z | z
 · exact h1.1 z.symm
 · exact h.no (by decide) (by decide) z
 · exact h1.2.1 z.symm
 · exact h.no (by decide) (by decide) z
 · exact h1.2.2.1 z.symm
 · exact h.no (by decide) (by decide) z
 · exact h1.2.2.2 z.symm
 · exact h.no (by decide) (by decide) z
theorem Sg.app {w : List Nat} {c : Nat} (h : Sg (c :: w)) : Sg (w ++ [c]) := by
 have m : ∀ x, x ∈ w ++ [c] -> x ∈ c :: w := fun x hx => by
  rcases List.mem_append.mp hx with z | z
  · exact .tail _ z
  · rw [List.mem_singleton.mp z]; exact .head _
 exact ⟨fun x hx => h.asc x (m x hx), by have := h.len; simpa using this, fun z => h.c44 (m _ z), fun z => h.c32 (m _ z), fun z => h.c61 (m _ z), fun z => h.c59 (m _ z)⟩
theorem LowC.sg {lo : Option Int} {o : Bool} {A : List Nat} (h : LowC lo o A) : Sg A /\ ∃ a, lowP A = some a /\ lowT a.1 a.2 = lo := by
 cases lo with
 | none =>
   have h : A = [40, 46, 46] := h
   subst h
   exact ⟨⟨yA rfl, by decide, by decide, by decide, by decide, by decide⟩, (2, 0), rfl, rfl⟩
 | some a =>
   cases o with
   | true =>
     obtain ⟨w, hw, rfl⟩ : ∃ w, Wd (a - 1) w /\ A = 40 :: w := h
     refine ⟨vY hw (by decide) (by decide), (1, a - 1), ?_, ?_⟩
     · unfold lowP
       rw [if_neg (fun z => hw.no (c := 46) (by decide) (by decide) (by rw [List.cons.inj z |>.2]; decide))]
       simp [hw.num, hw.val]
     · simp [lowT]
   | false =>
     obtain ⟨w, hw, rfl⟩ : ∃ w, Wd a w /\ A = 91 :: w := h
     refine ⟨vY hw (by decide) (by decide), (0, a), ?_, ?_⟩
     · unfold lowP
       rw [if_neg (fun z => by simp at z)]
       simp [hw.num, hw.val]
     · simp [lowT]
theorem HighC.sg {bh : Option Int} {o : Bool} {A : List Nat} (h : HighC bh o A) : Sg A /\ ∃ a, highP A = some a /\ behT a.1 a.2 = bh := by
 cases bh with
 | none =>
   have h : A = [46, 46, 41] := h
   subst h
   exact ⟨⟨yA rfl, by decide, by decide, by decide, by decide, by decide⟩, (2, 0), rfl, rfl⟩
 | some a =>
   cases o with
   | true =>
     obtain ⟨w, hw, rfl⟩ : ∃ w, Wd (a - 1) w /\ A = w ++ [93] := h
     refine ⟨(vY hw (by decide) (by decide)).app, (0, a - 1), ?_, ?_⟩
     · unfold highP
       rw [if_neg (fun z => by have := congrArg List.getLast? z; simp at this)]
       simp [hw.num, hw.val]
     · simp [behT]
   | false =>
     obtain ⟨w, hw, rfl⟩ : ∃ w, Wd a w /\ A = w ++ [41] := h
     refine ⟨(vY hw (by decide) (by decide)).app, (1, a), ?_, ?_⟩
     · unfold highP
       rw [if_neg (fun z => hw.no (c := 46) (by decide) (by decide) (by
        have e : w = [46, 46] := List.append_inj_left' (t₁ := [41]) (s₂ := [46, 46]) (t₂ := [41]) z rfl
        rw [e]; decide))]
       simp [hw.num, hw.val]
     · simp [behT]
theorem lowC_ex {lo : Option Int} (o : Bool) (h : ∀ x, lo = some x -> Bd (10 ^ 60) x /\ Bd (10 ^ 60) (x - 1)) : ∃ A, LowC lo o A := by
 cases lo with
 | none => exact ⟨_, rfl⟩
 | some a =>
   cases o with
   | true => obtain ⟨w, hw⟩ := wL (h a rfl).2; exact ⟨_, w, hw, rfl⟩
   | false => obtain ⟨w, hw⟩ := wL (h a rfl).1; exact ⟨_, w, hw, rfl⟩
theorem highC_ex {lo : Option Int} (o : Bool) (h : ∀ x, lo = some x -> Bd (10 ^ 60) x /\ Bd (10 ^ 60) (x - 1)) : ∃ A, HighC lo o A := by
 cases lo with
 | none => exact ⟨_, rfl⟩
 | some a =>
   cases o with
   | true => obtain ⟨w, hw⟩ := wL (h a rfl).2; exact ⟨_, w, hw, rfl⟩
   | false => obtain ⟨w, hw⟩ := wL (h a rfl).1; exact ⟨_, w, hw, rfl⟩
def ItemOk (w : List Nat) (rows : List Rv) : Prop := Asc w /\ 59 ∉ w /\ w ≠ [] /\ w.length <= 1000 /\ GP.item_rows.f [.str (txS w)] = some (.fresh (rows.map rvD)) /\ (∀ r ∈ rows, okS r.1) /\ rows.length <= 100
theorem wd_sg {n : Int} {w : List Nat} (h : Wd n w) : 32 ∉ w /\ 61 ∉ w /\ 59 ∉ w := ⟨h.no (by decide) (by decide), h.no (by decide) (by decide), h.no (by decide) (by decide)⟩
theorem ahead_ok {lo bh : Option Int} (h : okS (lo, bh)) : aheadE bh lo = false := by
 cases lo with
 | none => cases bh <;> rfl
 | some a =>
   cases bh with
   | none => rfl
   | some b => have := h a b rfl rfl; simp [aheadE]; omega
theorem yV {A B : List Nat} {c : Nat} (h1 : Asc A) (h2 : Asc B) (hc : c < 1000) : Asc (A ++ c :: B) := fun x hx => by
 rcases List.mem_append.mp hx with z | z
 · exact h1 x z
 · rcases List.mem_cons.mp z with z | z
   · rw [z]; exact hc
   · exact h2 x z
theorem wG {A B : List Nat} {c d : Nat} (h1 : d ∉ A) (h2 : d ∉ B) (hc : d ≠ c) : d ∉ A ++ c :: B := fun z => by
 rcases List.mem_append.mp z with z | z
 · exact h1 z
 · rcases List.mem_cons.mp z with z | z
   · exact hc z
   · exact h2 z
theorem item_one {lo bh : Option Int} {o p : Bool} {v : Int} {A B W : List Nat} (hA : LowC lo o A) (hB : HighC bh p B) (hW : Wd v W) (ok : okS (lo, bh)) : ItemOk ((A ++ 44 :: B) ++ 61 :: W) [((lo, bh), some v)] := by
 obtain ⟨sA, a, a1, a2⟩ := hA.sg
 obtain ⟨sB, b, b1, b2⟩ := hB.sg
 have w := wd_sg hW
 have lA := sA.len
 have lB := sB.len
 have lW := hW.len
 have it := item1 sA.asc sB.asc hW.asc (by omega) ⟨sA.c44, sA.c32, sA.c61⟩ ⟨sB.c44, sB.c32, sB.c61⟩ ⟨w.1, w.2.1⟩ a1 b1 hW.num (by rw [a2, b2]; exact ahead_ok ok)
 rw [a2, b2, hW.val] at it
 refine ⟨yV (yV sA.asc sB.asc (by decide)) hW.asc (by decide), wG (wG sA.c59 sB.c59 (by decide)) w.2.2 (by decide), by simp, by simp; omega, it, fun r hr => ?_, by simp⟩
 rw [List.mem_singleton.mp hr]
 exact ok
theorem item_five {lo bh v s n : Int} {o p : Bool} {A B W S N : List Nat} (hA : LowC (some lo) o A) (hB : HighC (some bh) p B) (hW : Wd v W) (hS : Wd s S) (hN : Wd n N) (ok : okL (lo, bh, s, n, v) = true) : ItemOk (joinL 32 [(A ++ 44 :: B) ++ 61 :: W, eachL, S, timesL, N]) (rowsR (lo, bh, s, n, v)) := by
 obtain ⟨sA, a, a1, a2⟩ := hA.sg
 obtain ⟨sB, b, b1, b2⟩ := hB.sg
 have w := wd_sg hW
 have wS := wd_sg hS
 have wN := wd_sg hN
 have lA := sA.len
 have lB := sB.len
 have lW := hW.len
 have lS := hS.len
 have lN := hN.len
 have it := item5 sA.asc sB.asc hW.asc hS.asc hN.asc (by omega) ⟨sA.c44, sA.c32, sA.c61⟩ ⟨sB.c44, sB.c32, sB.c61⟩ ⟨w.1, w.2.1⟩ wS.1 wN.1 a1 b1 hW.num hS.num hN.num a2 b2 (by rw [hS.val, hN.val, hW.val]; exact ok)
 rw [hS.val, hN.val, hW.val] at it
 have aE : Asc eachL := yA rfl
 have aT : Asc timesL := yA rfl
 refine ⟨?_, ?_, by simp [joinL], by simp [joinL, eachL, timesL]; omega, it, rowsR_ok ok, (vF ok).1⟩
 · exact yV (yV (yV sA.asc sB.asc (by decide)) hW.asc (by decide)) (yV aE (yV hS.asc (yV aT hN.asc (by decide)) (by decide)) (by decide)) (by decide)
 · exact wG (wG (wG sA.c59 sB.c59 (by decide)) w.2.2 (by decide)) (wG (by decide) (wG wS.2.2 (wG (by decide) wN.2.2 (by decide)) (by decide)) (by decide)) (by decide)
theorem join_two : ∀ ps : List (List Nat), Str.join (txS [59, 32]) (ps.map txS) = txS (join2 ps)
 | [] => rfl
 | [p] => rfl
 | p :: q :: r => by
   have ih := join_two (q :: r)
   show txS p ++ txS [59, 32] ++ Str.join (txS [59, 32]) ((q :: r).map txS) = _
   rw [ih, xZ, xZ]
   simp [join2]
theorem t_semi : Str.ofString "; " = txS [59, 32] := by decide
theorem strs_tx : ∀ ws : List (List Nat), strsD (ws.map fun w => .str (txS w)) = some (ws.map txS)
 | [] => rfl
 | w :: r => by simp [strsD, strs_tx r]
theorem sum_len : ∀ {ws : List (List Nat)} {m : Nat}, (∀ w ∈ ws, w.length <= m) -> ((ws.map txS).map (·.length)).sum <= m * ws.length
 | [], m, _ => by simp
 | w :: r, m, h => by
   have ih := sum_len (ws := r) (m := m) fun x hx => h x (.tail _ hx)
   have h1 := h w (.head _)
   simp only [List.map_cons, List.sum_cons, List.length_cons, jG, Nat.mul_add, Nat.mul_one]
   omega
theorem join2_len : ∀ {ws : List (List Nat)} {m : Nat}, (∀ w ∈ ws, w.length <= m) -> (join2 ws).length <= (m + 2) * ws.length
 | [], m, _ => by simp [join2]
 | [w], m, h => by have := h w (.head _); simp [join2]; omega
 | w :: q :: r, m, h => by
   have ih := join2_len (ws := q :: r) (m := m) fun x hx => h x (.tail _ hx)
   have h1 := h w (.head _)
   simp only [join2, List.length_append, List.length_cons, Nat.mul_add, Nat.mul_one] at ih ⊢
   omega
theorem vH : ∀ {ws : List (List Nat)}, (∀ w ∈ ws, Asc w) -> Asc (join2 ws)
 | [], _ => (fun _ h => nomatch h)
 | [w], h => h w (.head _)
 | w :: q :: r, h => yV (h w (.head _)) (fun x hx => by
    rcases List.mem_cons.mp hx with z | z
    · rw [z]; decide
    · exact vH (ws := q :: r) (fun x hx => h x (.tail _ hx)) x z) (by decide)
theorem wZ {ws : List (List Nat)} (h : ∀ w ∈ ws, w.length <= 1000) (hl : ws.length <= 1000) : joinD (.str (Str.ofString "; ")) (.lst (ws.map fun w => .str (txS w))) = some (.str (txS (join2 ws))) := by
 have z := sum_len h
 rw [t_semi]
 unfold joinD
 simp only [strs_tx, Option.bind_some]
 rw [if_pos ⟨by decide, by simp only [List.length_map]; omega⟩]
 have : Txt.join (txS [59, 32]) (ws.map txS) = Str.join (txS [59, 32]) (ws.map txS) := by
  show Builtin.Str.glued _ _ = _
  rw [StrLaws.glued_eq_join]
 rw [this, join_two]
theorem read_turn (X : Sl) (acc : List Rv) {w : List Nat} {rows : List Rv} (h : ItemOk w rows) (hz : acc.length + 100 < 16777216) : GP.read_map.b1 [X, .own (acc.map rvD), .v (.str (txS w))] = some (.nx [X, .own ((acc ++ rows).map rvD), .v (.str (txS w))]) := by
 have e := h.2.2.2.2.1
 have l1 : (acc.map rvD).length + (rows.map rvD).length <= 16777216 := by have := h.2.2.2.2.2.2; simp; omega
 unfold GP.read_map.b1
 rw [List.map_append]
 generalize txS w = XW at *
 generalize acc.map rvD = P at *
 generalize rows.map rvD = Q at *
 simp [e, l1]
theorem read_loop (X : Sl) : ∀ (its : List (List Nat × List Rv)) (acc : List Rv) (x : Sl), (∀ i ∈ its, ItemOk i.1 i.2) -> acc.length + 100 * its.length < 16777216 -> ∃ x', jD (zT 2) GP.read_map.b1 (its.map fun i => .str (txS i.1)) [X, .own (acc.map rvD), x] = some (.nx [X, .own ((acc ++ its.flatMap (·.2)).map rvD), x'])
 | [], acc, x, _, _ => ⟨x, by simp [jD]⟩
 | i :: its, acc, x, h, hz => by
   simp only [List.length_cons] at hz
   have t1 := read_turn X acc (h i (.head _)) (by omega)
   have hl := (h i (.head _)).2.2.2.2.2.2
   obtain ⟨x', ih⟩ := read_loop X its (acc ++ i.2) (.v (.str (txS i.1))) (fun q hq => h q (.tail _ hq)) (by simp only [List.length_append]; omega)
   refine ⟨x', ?_⟩
   simp only [List.map_cons, jD, zT, Option.bind_some, List.set_cons_succ, List.set_cons_zero, t1, List.flatMap_cons]
   rw [ih, List.append_assoc]
theorem join2_nil {ws : List (List Nat)} (h : ∀ w ∈ ws, w ≠ []) : join2 ws = [] ↔ ws = [] := by
 match ws with
 | [] => simp [join2]
 | [w] => have := h w (.head _); simp [join2, this]
 | w :: q :: r => simp [join2]
theorem read_map_eq {its : List (List Nat × List Rv)} (h : ∀ i ∈ its, ItemOk i.1 i.2) (hn : its.length <= 300) (hl : (its.flatMap (·.2)).length <= 300) : GP.read_map.f [.str (txS (join2 (its.map (·.1))))] = some (.fresh ((formedF (its.flatMap (·.2))).map rwD)) := by
 have hw : ∀ w ∈ its.map (·.1), ∃ rows, ItemOk w rows := fun w hw => by
  obtain ⟨i, hi, rfl⟩ := List.mem_map.mp hw
  exact ⟨i.2, h i hi⟩
 have asc : Asc (join2 (its.map (·.1))) := vH fun w hx => (hw w hx).elim fun _ z => z.1
 have jl : (join2 (its.map (·.1))).length <= (1000 + 2) * (its.map (·.1)).length := join2_len fun w hx => (hw w hx).elim fun _ z => z.2.2.2.1
 rw [List.length_map] at jl
 have jn := join2_nil (ws := its.map (·.1)) fun w hx => (hw w hx).elim fun _ z => z.2.2.1
 have eq0 := eq_tx asc (b := []) (fun _ h => nomatch h)
 have k := kitS.1
 refine jL ?_
 unfold GP.read_map.g
 have ar : args 3 [.str (txS (join2 (its.map (·.1))))] = [.v (.str (txS (join2 (its.map (·.1))))), .no, .no] := by simp [args]
 rw [ar, t_empty]
 by_cases he : its = []
 · subst he
   simp only [List.map_nil, join2] at eq0 ⊢
   generalize txS [] = X0 at *
   simp [k, eq0, formedF]
 · have hne : its.map (·.1) ≠ [] := fun z => he (List.map_eq_nil_iff.mp z)
   have sp := split2 hne fun w hx => (hw w hx).elim fun _ z => z.2.1
   rw [decide_eq_false (fun z => hne (jn.mp z))] at eq0
   obtain ⟨x', lp⟩ := read_loop (.v (.str (txS (join2 (its.map (·.1)))))) its [] .no h (by simp; omega)
   have lr := laid_rows_eq (rows := its.flatMap (·.2)) (fun r hr => by
    obtain ⟨i, hi, hr⟩ := List.mem_flatMap.mp hr
    exact (h i hi).2.2.2.2.2.1 r hr) hl
   have z' : (txS (join2 (its.map (·.1)))).length + 2 <= sizeLine := by rw [jG, szl]; omega
   have fl := yW (formedF (its.flatMap (·.2)))
   have m1 : (its.map (·.1)).map txS = its.map fun i => txS i.1 := by rw [List.map_map]; rfl
   rw [m1] at sp
   have m2 : (its.map fun i => txS i.1).map D.str = its.map fun i => .str (txS i.1) := by rw [List.map_map]; rfl
   simp only [List.map_nil, List.nil_append] at lp
   generalize txS (join2 (its.map (·.1))) = X at *
   generalize (its.flatMap (·.2)).map rvD = RW at *
   generalize (formedF (its.flatMap (·.2))).map rwD = FW at *
   rw [qK (ds' := [.v (.str X), .no, .no]) (by simp [k])]
   rw [qK (ds' := [.v (.str X), .no, .no]) (by generalize txS [] = X0 at *; simp [eq0])]
   rw [qK (ds' := [.v (.str X), .own [], .no]) (by simp)]
   rw [qK (ds' := [.v (.str X), .own RW, x']) (by
    rw [xW]
    have e1 : viaA (mkL (splA (zL 0) (zC (.str (Str.ofString "; "))))) asLT [.v (.str X), .own [], .no] = some (its.map fun i => .str (txS i.1)) := by
     rw [t_semi]
     simp only [viaA, xU, splA, wD, xG, List.getElem?_cons_zero, Option.bind_some]
     rw [if_pos ⟨rfl, z'⟩, sp, <- m2]
     rfl
    rw [e1]
    exact lp)]
   simp [lr, fl]
theorem show_piece_eq {lo bh : Option Int} {v : Int} {A B W : List Nat} (hA : LowC lo false A) (hB : HighC bh false B) (hW : Wd v W) : GP.show_piece.f [oi lo, oi bh, .int v] = some (.val (.str (txS ((A ++ 44 :: B) ++ 61 :: W)))) := by
 have lA := hA.sg.1.len
 have lB := hB.sg.1.len
 have lW := hW.len
 have a1 := jP A [44] (by simp; omega)
 have a2 := jP (A ++ [44]) B (by simp; omega)
 have a3 := jP (A ++ [44] ++ B) [61] (by simp; omega)
 have a4 := jP (A ++ [44] ++ B ++ [61]) W (by simp; omega)
 have sp : GP.show_span.f [.tup [oi lo, oi bh]] = some (.val (.str (txS (A ++ [44] ++ B)))) := by
  refine jL ?_
  unfold GP.show_span.g
  rw [t_lend, t_lsh, t_hend, t_hop, t_comma]
  have ar : args 3 [.tup [oi lo, oi bh]] = [.v (.tup [oi lo, oi bh]), .no, .no] := by simp [args]
  rw [ar]
  have e1 : ifV (zW (zK isD (zK ixD (zL 0) (zC (.int 0))) (zC .non))) (zC (.str (txS [40, 46, 46]))) (zK jT (zC (.str (txS [91]))) (callB strD (zG (zK ixD (zL 0) (zC (.int 0))) qC))) [.v (.tup [oi lo, oi bh]), .no, .no] = some (.str (txS A)) := by
   cases lo with
   | none =>
     have hA : A = [40, 46, 46] := hA
     rw [hA]
     generalize txS [40, 46, 46] = X1
     generalize txS [91] = X2
     simp
   | some a =>
     obtain ⟨w, hw, rfl⟩ : ∃ w, Wd a w /\ A = 91 :: w := hA
     have q := jP [91] w (by have := hw.len; simp; omega)
     have q2 := hw.st
     rw [List.singleton_append] at q
     generalize txS [40, 46, 46] = X1 at *
     generalize txS (91 :: w) = X3 at *
     generalize txS [91] = X2 at *
     generalize txS w = X4 at *
     simp [q, q2]
  have e2 : ifV (zW (zK isD (zK ixD (zL 0) (zC (.int 1))) (zC .non))) (zC (.str (txS [46, 46, 41]))) (zK jT (callB strD (zG (zK ixD (zL 0) (zC (.int 1))) qC)) (zC (.str (txS [41])))) [.v (.tup [oi lo, oi bh]), .v (.str (txS A)), .no] = some (.str (txS B)) := by
   cases bh with
   | none =>
     have hB : B = [46, 46, 41] := hB
     rw [hB]
     generalize txS [46, 46, 41] = X1
     generalize txS [41] = X2
     simp
   | some a =>
     obtain ⟨w, hw, rfl⟩ : ∃ w, Wd a w /\ B = w ++ [41] := hB
     have q := jP w [41] (by have := hw.len; simp; omega)
     have q2 := hw.st
     generalize txS [46, 46, 41] = X1 at *
     generalize txS (w ++ [41]) = X3 at *
     generalize txS [41] = X2 at *
     generalize txS w = X4 at *
     simp [q, q2]
  rw [qK (ds' := [.v (.tup [oi lo, oi bh]), .v (.str (txS A)), .no]) (by rw [yZ, e1]; rfl)]
  rw [qK (ds' := [.v (.tup [oi lo, oi bh]), .v (.str (txS A)), .v (.str (txS B))]) (by rw [yZ, e2]; rfl)]
  generalize txS (A ++ [44] ++ B) = X3 at *
  generalize txS (A ++ [44]) = X2 at *
  generalize txS A = X1 at *
  generalize txS [44] = X4 at *
  generalize txS B = X5 at *
  simp [a1, a2]
 have et : A ++ [44] ++ B ++ [61] ++ W = (A ++ 44 :: B) ++ 61 :: W := by simp
 rw [et] at a4
 have q := hW.st
 refine jL ?_
 unfold GP.show_piece.g
 rw [t_eq]
 have ar : args 3 [oi lo, oi bh, .int v] = [.v (oi lo), .v (oi bh), .v (.int v)] := by simp [args]
 rw [ar]
 generalize txS ((A ++ 44 :: B) ++ 61 :: W) = X6 at *
 generalize txS (A ++ [44] ++ B ++ [61]) = X3 at *
 generalize txS (A ++ [44] ++ B) = X2 at *
 generalize txS [61] = X4 at *
 generalize txS W = X5 at *
 simp [sp, a3, a4, q]
def PieceT (r : Rw) (w : List Nat) : Prop := ∃ v A B W, r.2.2 = some v /\ LowC r.1 false A /\ HighC r.2.1 false B /\ Wd v W /\ w = (A ++ 44 :: B) ++ 61 :: W
theorem piece_t {r : Rw} (hv : r.2.2 ≠ none) (h : EB (10 ^ 60 - 1) r) : ∃ w, PieceT r w := by
 have up : ∀ x : Int, Bd (10 ^ 60 - 1) x -> Bd (10 ^ 60) x /\ Bd (10 ^ 60) (x - 1) := fun x hx => ⟨⟨by have := hx.1; omega, by have := hx.2; omega⟩, ⟨by have := hx.1; omega, by have := hx.2; omega⟩⟩
 cases hr : r.2.2 with
 | none => exact (hv hr).elim
 | some v =>
   obtain ⟨A, hA⟩ := lowC_ex (lo := r.1) false fun x hx => up x (h.1 x hx)
   obtain ⟨B, hB⟩ := highC_ex (lo := r.2.1) false fun x hx => up x (h.2.1 x hx)
   obtain ⟨W, hW⟩ := wL (up v (h.2.2 v hr)).1
   exact ⟨_, v, A, B, W, hr, hA, hB, hW, rfl⟩
def rvOf (r : Rw) : Rv := ((r.1, r.2.1), r.2.2)
theorem piece_item {r : Rw} {w : List Nat} (ok : ok3 r) (h : PieceT r w) : ItemOk w [rvOf r] := by
 obtain ⟨v, A, B, W, hv, hA, hB, hW, rfl⟩ := h
 have := item_one hA hB hW ok
 unfold rvOf
 rw [hv]
 exact this
theorem pieces_t : ∀ {ps : List Rw}, (∀ r ∈ ps, r.2.2 ≠ none) -> (∀ r ∈ ps, EB (10 ^ 60 - 1) r) -> ∃ its : List (Rw × List Nat), its.map (·.1) = ps /\ ∀ i ∈ its, PieceT i.1 i.2
 | [], _, _ => ⟨[], rfl, (fun _ h => nomatch h)⟩
 | r :: ps, h1, h2 => by
   obtain ⟨its, e, h⟩ := pieces_t (ps := ps) (fun q hq => h1 q (.tail _ hq)) (fun q hq => h2 q (.tail _ hq))
   obtain ⟨w, hw⟩ := piece_t (h1 r (.head _)) (h2 r (.head _))
   refine ⟨(r, w) :: its, by simp [e], fun i hi => ?_⟩
   rcases List.mem_cons.mp hi with rfl | hi
   · exact hw
   · exact h i hi
theorem PieceT.len {r : Rw} {w : List Nat} (h : PieceT r w) : w.length <= 1000 := by
 obtain ⟨v, A, B, W, hv, hA, hB, hW, rfl⟩ := h
 have lA := hA.sg.1.len
 have lB := hB.sg.1.len
 have lW := hW.len
 simp
 omega
theorem show_map_eq {its : List (Rw × List Nat)} (h : ∀ i ∈ its, PieceT i.1 i.2) (hl : its.length <= 1000) : GP.show_map.f [.lst ((its.map (·.1)).map rwD)] = some (.val (.str (txS (join2 (its.map (·.2)))))) := by
 have js := wZ (ws := its.map (·.2)) (fun w hw => by obtain ⟨i, hi, rfl⟩ := List.mem_map.mp hw; exact (h i hi).len) (by simpa using hl)
 rw [List.map_map] at js
 refine jL ?_
 unfold GP.show_map.g
 have ar : args 1 [.lst ((its.map (·.1)).map rwD)] = [.v (.lst ((its.map (·.1)).map rwD))] := by simp [args]
 rw [ar]
 have cp : compG (viaA (qZ 0) asLT) [none, none, none] (tupG 3 (zP (zT 0) (zP (zT 1) (zP (zT 2) tgNil)))) (fun _ => some true) (qO 3 GP.show_piece.f (zG (zL 0) (zG (zL 1) (zG (zL 2) qC)))) [.v (.lst ((its.map (·.1)).map rwD))] = some (its.map fun i => .str (txS i.2)) := by
  rw [List.map_map]
  refine yO (items := its.map (rwD ∘ (·.1))) (by simp) (by simp; omega) ?_
  refine yJ (rwD ∘ fun (i : Rw × List Nat) => i.1) (fun i => .str (txS i.2)) its fun i hi => ?_
  obtain ⟨v, A, B, W, hv, hA, hB, hW, e⟩ := h i hi
  have sp := show_piece_eq hA hB hW
  rw [<- e] at sp
  obtain ⟨⟨lo, bh, w⟩, t⟩ := i
  simp only at hv hA hB sp e ⊢
  subst hv
  refine ⟨[.v (oi lo), .v (oi bh), .v (.int v)], by simp [jK, rwD], ?_⟩
  generalize txS t = X at *
  simp [sp]
 generalize (its.map (·.1)).map rwD = P at *
 have js' : joinD (.str (Str.ofString "; ")) (.lst (its.map fun i => .str (txS i.2))) = some (.str (txS (join2 (its.map (·.2))))) := js
 generalize (its.map fun (i : Rw × List Nat) => D.str (txS i.2)) = Q at *
 generalize txS (join2 (its.map (·.2))) = X at *
 simp [cp, js']
theorem form_of {ps : List Rw} (m : MapF ps) : formedF (ps.map rvOf) = ps := by
 have ok : ∀ r ∈ ps.map rvOf, okS r.1 := fun r hr => by obtain ⟨q, hq, rfl⟩ := List.mem_map.mp hr; exact m.ord.ok q hq
 have mp : MapF (formedF (ps.map rvOf)) := by
  have : ∀ (rows : List Rv) (qs : List Rw), MapF qs -> (∀ r ∈ rows, okS r.1) -> MapF (rows.foldl put1 qs) := by
   intro rows
   induction rows with
   | nil => exact fun qs h _ => h
   | cons r rows ih => exact fun qs h h2 => ih _ (kF h (h2 r (.head _))) fun q hq => h2 q (.tail _ hq)
  exact this _ _ MapF.nil ok
 refine map_one mp m fun p v => ?_
 rw [formed_tel _ ok]
 constructor
 · intro hd
   unfold dueF at hd
   split at hd
   · rename_i r hr
     have hm := List.mem_reverse.mp (List.mem_of_find?_eq_some hr)
     obtain ⟨q, hq, rfl⟩ := List.mem_map.mp hm
     exact ⟨q, hq, List.find?_some (p := fun r : Rv => hasS r.1 p) hr, hd⟩
   · cases hd
 · rintro ⟨r, hr, h3, hv⟩
   unfold dueF
   split
   · rename_i q hq
     have hm := List.mem_reverse.mp (List.mem_of_find?_eq_some hq)
     obtain ⟨s, hs, rfl⟩ := List.mem_map.mp hm
     have h4 : has3 s p = true := List.find?_some (p := fun r : Rv => hasS r.1 p) hq
     have v1 := (yU m.ord p v).mpr ⟨r, hr, h3, hv⟩
     cases e : s.2.2 with
     | none => exact (m.val s hs e).elim
     | some u =>
       have v2 := (yU m.ord p u).mpr ⟨s, hs, h4, e⟩
       rw [v1] at v2
       show s.2.2 = some v
       rw [e, v2]
   · rename_i hn
     have := List.find?_eq_none.mp hn (rvOf r) (List.mem_reverse.mpr (List.mem_map.mpr ⟨r, hr, rfl⟩))
     exact (this h3).elim
theorem kC {α β γ : Type} (f : α -> β) (g : α -> γ) : ∀ l : List α, (l.map fun i => (f i, [g i])).flatMap (·.2) = l.map g
 | [] => rfl
 | a :: l => by simp [kC f g l]
theorem read_shown {its : List (Rw × List Nat)} (h : ∀ i ∈ its, PieceT i.1 i.2) (m : MapF (its.map (·.1))) (hl : its.length <= 300) : GP.read_map.f [.str (txS (join2 (its.map (·.2))))] = some (.fresh ((its.map (·.1)).map rwD)) := by
 have r := read_map_eq (its := its.map fun i => (i.2, [rvOf i.1])) (fun i hi => by
  obtain ⟨q, hq, rfl⟩ := List.mem_map.mp hi
  exact piece_item (m.ord.ok _ (List.mem_map.mpr ⟨q, hq, rfl⟩)) (h q hq)) (by simpa using hl) (by rw [kC]; simpa using hl)
 rw [kC (fun (i : Rw × List Nat) => i.2) (fun i => rvOf i.1)] at r
 have e1 : (its.map fun i => (i.2, [rvOf i.1])).map (·.1) = its.map (·.2) := by rw [List.map_map]; rfl
 have e2 : (its.map fun i => rvOf i.1) = (its.map (·.1)).map rvOf := by rw [List.map_map]; rfl
 rw [e1, e2, form_of m] at r
 exact r
end FL
section
open PySem PyProof.Rows L2 FL
noncomputable def K92.L_item.g : FS := (qJ (asgG (lstG 4 (zP (zT 2) (zP (zT 3) (zP (zT 4) (zP (zT 5) tgNil))))) (qZ 1))
 (qJ (yI 6 (zK subD (zK jT (zL 0) (zK wW (zL 2) (zC (.int 41)))) (zC (.int 20))))
 (qJ (yI 7 (zK jT (zC (.int 1)) (zK wW (zK yT (zL 2) (zC (.int 41))) (zC (.int 9)))))
 (qJ (yI 8 (zK ixD (mkL (qU (zG (zC (.int 0)) (zG (un1 negD (zC (.int 3))) (zG (zK subD (zK wW (zK xX (zK yT (zL 4) (zC (.int 3))) (zK jT (zK powD (zC (.int 10)) (zC (.int 43))) (zC (.int 7)))) (zK jT (zK xX (zC (.int 2)) (zK powD (zC (.int 10)) (zC (.int 59)))) (zC (.int 1)))) (zK powD (zC (.int 10)) (zC (.int 59)))) qC))))) (zK wW (zL 4) (zC (.int 3)))))
 (qJ (ifG (zW (zK eqD (zK wW (zL 3) (zC (.int 2))) (zC (.int 1)))) (qJ (yI 9 (zK jT (zK jT (zL 7) (zC (.int 1))) (zK wW (zK yT (zL 3) (zC (.int 2))) (zC (.int 9)))))
 (qJ (ifG (zW (zK eqD (zK wW (zK yT (zL 3) (zC (.int 18))) (zC (.int 5))) (zC (.int 2)))) (yI 9 (zK jT (zK jT (zL 7) (zC (.int 1))) (zK wW (zK xX (zK yT (zL 3) (zC (.int 18))) (zK jT (zK powD (zC (.int 10)) (zC (.int 37))) (zC (.int 3)))) (zK powD (zC (.int 10)) (zC (.int 50)))))) qF)
 (retG (mkT (qU (zG (qZ 6) (zG (zK jT (zL 6) (zL 7)) (zG (qZ 9) (zG (zK jT (zC (.int 2)) (zK wW (zL 5) (zC (.int 4)))) (zG (qZ 8) qC)))))))))) qF)
 (qJ (yI 10 (zK jT (zL 6) (zL 7)))
 (qJ (ifG (zW (zK eqD (zK wW (zK yT (zL 3) (zC (.int 2))) (zC (.int 6))) (zC (.int 1)))) (yI 10 (zK jT (zK jT (zL 6) (zC (.int 1))) (zK wW (zK xX (zK yT (zL 3) (zC (.int 12))) (zK jT (zK powD (zC (.int 10)) (zC (.int 37))) (zC (.int 3)))) (zK powD (zC (.int 10)) (zC (.int 59)))))) qF)
 (qJ (ifG (zW (chain leD leD (zC (.int 5)) (zK wW (zL 5) (zC (.int 12))) (zC (.int 6)))) (yI 6 (zC .non)) qF)
 (qJ (ifG (zW (chain leD leD (zC (.int 6)) (zK wW (zL 5) (zC (.int 12))) (zC (.int 7)))) (yI 10 (zC .non)) qF)
 (retG (mkT (qU (zG (qZ 6) (zG (qZ 10) (zG (zC (.int 0)) (zG (zC (.int 1)) (zG (qZ 8) qC)))))))))))))))))
noncomputable def K92.L_item.f : List D -> Option Ret := runG K92.L_item.g 11
noncomputable def K92.L_text.g : FS := (qJ (asgG (tupG 5 (zP (zT 2) (zP (zT 3) (zP (zT 4) (zP (zT 5) (zP (zT 6) tgNil)))))) (qZ 0))
 (qJ (yI 7 (zC (.str "(..")))
 (qJ (ifG (zW (zK notD (zL 2) (zC .non))) (yI 7 (zK ixD (mkL (qU (zG (zK jT (zC (.str "[")) (callB strD (zG (zL 2) qC))) (zG (zK jT (zC (.str "(")) (callB strD (zG (zK subD (zL 2) (zC (.int 1))) qC))) qC)))) (zK wW (zL 1) (zC (.int 2))))) qF)
 (qJ (yI 8 (zC (.str "..)")))
 (qJ (ifG (zW (zK notD (zL 3) (zC .non))) (yI 8 (zK ixD (mkL (qU (zG (zK jT (callB strD (zG (zL 3) qC)) (zC (.str ")"))) (zG (zK jT (callB strD (zG (zK subD (zL 3) (zC (.int 1))) qC)) (zC (.str "]"))) qC)))) (zK wW (zK yT (zL 1) (zC (.int 2))) (zC (.int 2))))) qF)
 (qJ (yI 9 (zK jT (zK jT (zK jT (zK jT (zL 7) (zC (.str ","))) (zL 8)) (zC (.str "="))) (callB strD (zG (zL 6) qC))))
 (qJ (ifG (zW (zK gtD (zL 5) (zC (.int 1)))) (yI 9 (zK jT (zK jT (zK jT (zK jT (zL 9) (zC (.str " each "))) (callB strD (zG (zL 4) qC))) (zC (.str " times "))) (callB strD (zG (zL 5) qC)))) qF)
 (retG (zL 9)))))))))
noncomputable def K92.L_text.f : List D -> Option Ret := runG K92.L_text.g 10
noncomputable def K92.L_has.g : FS := (qJ (asgG (tupG 5 (zP (zT 2) (zP (zT 3) (zP (zT 4) (zP (zT 5) (zP (zT 6) tgNil)))))) (qZ 0))
 (qJ (ifG (andT (zW (zK gtD (zL 5) (zC (.int 1)))) (zW (zK geD (zL 1) (zL 2)))) (qJ (yI 7 (callB mnD (zG (zK yT (zK subD (zL 1) (zL 2)) (zL 4)) (zG (zK subD (zL 5) (zC (.int 1))) qC))))
 (retG (zK ltD (zK subD (zL 1) (zK xX (zL 7) (zL 4))) (zL 3)))) qF)
 (qJ (ifG (andT (zW (zK notD (zL 2) (zC .non))) (zW (zK ltD (zL 1) (zL 2)))) (retG (zC (.bl false))) qF)
 (retG (orV (zK isD (zL 3) (zC .non)) (zK ltD (zL 1) (zL 3)))))))
noncomputable def K92.L_has.f : List D -> Option Ret := runG K92.L_has.g 8
noncomputable def K92.L_due.b1 : FS := (ifG (testT (qO 2 K92.L_has.f (zG (zL 2) (zG (zL 1) qC)))) (retG (zK ixD (zL 2) (zC (.int 4)))) qF)
noncomputable def K92.L_due.g : FS := (qJ (forG (revA (qZ 0)) (zT 2) K92.L_due.b1)
 (retG (zC .non)))
noncomputable def K92.L_due.f : List D -> Option Ret := runG K92.L_due.g 3
noncomputable def K92.L_value.b1 : FS := (ifG (testT (qO 2 K92.L_has.f (zG (mkT (qU (zG (qZ 2) (zG (qZ 3) (zG (zC (.int 0)) (zG (zC (.int 1)) (zG (qZ 4) qC))))))) (zG (zL 1) qC)))) (retG (zL 4)) qF)
noncomputable def K92.L_value.g : FS := (qJ (forG (viaA (qZ 0) asLT) (tupG 3 (zP (zT 2) (zP (zT 3) (zP (zT 4) tgNil)))) K92.L_value.b1)
 (retG (zC .non)))
noncomputable def K92.L_value.f : List D -> Option Ret := runG K92.L_value.g 5
noncomputable def K92.L_places.b1 : FS := (setOG 2 (catA (zL 2) (mkL (qU (zG (zK subD (zK jT (zL 8) (zK xX (zL 9) (zL 5))) (zC (.int 1))) (zG (zK jT (zL 8) (zK xX (zL 9) (zL 5))) qC))))))
noncomputable def K92.L_places.b2 : FS := (ifG (zW (zK notD (zL 8) (zC .non))) (forG (rng1 (qZ 6)) (zT 9) K92.L_places.b1) qF)
noncomputable def K92.L_places.b3 : FS := (forG (viaA (mkL (qU (zG (qZ 3) (zG (qZ 4) qC)))) asLT) (zT 8) K92.L_places.b2)
noncomputable def K92.L_places.g : FS := (qJ (setOG 2 (qU (zG (un1 negD (zK powD (zC (.int 10)) (zC (.int 63)))) (zG (zK powD (zC (.int 10)) (zC (.int 63))) qC))))
 (qJ (forG (viaA (mkL (catA (zL 0) (mkL (compG (viaA (qZ 1) asLT) [none, none, none] (tupG 3 (zP (zT 0) (zP (zT 1) (zP (zT 2) tgNil)))) (fun _ => some true) (mkT (qU (zG (qZ 0) (zG (qZ 1) (zG (zC (.int 0)) (zG (zC (.int 1)) (zG (qZ 2) qC))))))))))) asLT) (tupG 5 (zP (zT 3) (zP (zT 4) (zP (zT 5) (zP (zT 6) (zP (zT 7) tgNil)))))) K92.L_places.b3)
 (retXG 2)))
noncomputable def K92.L_places.f : List D -> Option Ret := runG K92.L_places.g 10
noncomputable def K92.law.b1 : FS := (qJ (appG 2 (qO 2 K92.L_item.f (zG (zL 1) (zG (mkL (sliA (zL 0) (soP (zL 4)) (soP (zK jT (zL 4) (zC (.int 4)))))) qC))))
 (appG 3 (qO 2 K92.L_text.f (zG (zK ixD (zL 2) (un1 negD (zC (.int 1)))) (zG (zK yT (qO 2 GL.cell_at.f (zG (zL 0) (zG (zC (.int 1)) qC))) (zK jT (zL 4) (zC (.int 1)))) qC)))))
noncomputable def K92.law.b2 : FS := (ifG (zW (zK neD (qO 2 K92.L_value.f (zG (zL 5) (zG (zL 6) qC))) (qO 2 K92.L_due.f (zG (zL 2) (zG (zL 6) qC))))) (retG (zC (.bl false))) qF)
noncomputable def K92.law.g : FS := (qJ (yI 1 (qO 1 GL.number.f (zG (qO 2 GL.cell_at.f (zG (zL 0) (zG (zC (.int 0)) qC))) qC)))
 (qJ (setOG 2 (qU qC))
 (qJ (setOG 3 (qU qC))
 (qJ (forG (rng3 (zC (.int 2)) (callB mnD (zG (zK subD (callB lenD (zG (zL 0) qC)) (zC (.int 3))) (zG (zC (.int 34)) qC))) (zC (.int 4))) (zT 4) K92.law.b1)
 (qJ (setOG 5 (wO 1 GP.read_map.f (zG (zK joinD (zC (.str "; ")) (zL 3)) qC)))
 (qJ (ifG (notT (testT (qO 1 GL.is_map4.f (zG (zL 5) qC)))) (retG (zC (.bl false))) qF)
 (qJ (forG (viaA (qO 2 K92.L_places.f (zG (zL 2) (zG (zL 5) qC))) asLT) (zT 6) K92.law.b2)
 (qJ (yI 7 (qO 1 GP.show_map.f (zG (zL 5) qC)))
 (qJ (yI 8 (relV 5 (zK joinD (zC (.str "; ")) (mkL (compG (viaA (qZ 5) asLT) [none, none, none] (tupG 3 (zP (zT 0) (zP (zT 1) (zP (zT 2) tgNil)))) (fun _ => some true) (qO 2 K92.L_text.f (zG (mkT (qU (zG (qZ 0) (zG (qZ 1) (zG (zC (.int 0)) (zG (zC (.int 1)) (zG (qZ 2) qC))))))) (zG (zC (.int 0)) qC))))))))
 (qJ (ifG (orT (notT (testT (isiG "str" (zL 7)))) (orT (zW (zK neD (zL 7) (zL 8))) (zW (zK neD (qO 1 GP.read_map.f (zG (zL 7) qC)) (zL 5))))) (retG (zC (.bl false))) qF)
 (qJ (yI 9 (mkL (lisA (zL 5))))
 (qJ (clrG 5)
 (retG (andV (zK eqD (qO 1 GP.read_map.f (zG (zK joinD (zC (.str "; ")) (zL 3)) qC)) (zL 9)) (zK eqD (qO 1 GP.read_map.f (zG (zL 7) qC)) (zL 9))))))))))))))))
noncomputable def K92.law.f : List D -> Option Ret := runG K92.law.g 10
end
namespace K92
open PySem PyProof.Rows L2 FL
def top (i : Nat) : Stmt := PySem.Challenge.pw_spanmap_k92_maps_read_and_shown.main.body.getD i (.Pass ⟨0, 0, 0, 0⟩)
structure Glb (K : Frag) (mg : Str -> Option Value) : Prop where
 b_all : mg "all" = none
 b_bool : mg "bool" = none
 b_int : mg "int" = none
 b_isinstance : mg "isinstance" = none
 b_len : mg "len" = none
 b_list : mg "list" = none
 b_max : mg "max" = none
 b_min : mg "min" = none
 b_range : mg "range" = none
 b_reversed : mg "reversed" = none
 b_str : mg "str" = none
 b_tuple : mg "tuple" = none
 c_FIGURES : ∃ t, mg "FIGURES" = some (.str "0123456789" t)
 c_MOST_FIGURES : ∃ t, mg "MOST_FIGURES" = some (.int 60 t)
 c_MOST_TIMES : ∃ t, mg "MOST_TIMES" = some (.int 100 t)
 c_MOST_TOGETHER : ∃ t, mg "MOST_TOGETHER" = some (.int 300 t)
 fl_place : FldOk K "place" [(7, 0), (8, 0)]
section
variable {P : Program} {w : World} {K : Frag} {mg : Str -> Option Value} {base : Heap}
theorem sc_End_low : FnScope ["self"] ["self"] (zA (inClass (top 1) 0)) := ⟨rfl, rfl, rfl, by decide +kernel, rfl, by decide +kernel, by decide +kernel⟩
theorem body_End_low {f : Addr} (T : Glb K mg)  (cdv : Value) (A : Around) (outer : List Env) (s : Shared) (H : Hp) (E : XK) (hr : Room 0 (A.deeper (envOfC "End.low" (zA (inClass (top 1) 0)) s.heap.objs.size f cdv))) :
  PSsv (cxOf CX0 P w K mg base ["self"] "End.low" (zA (inClass (top 1) 0)) f cdv A outer s H E).nox (zH (inClass (top 1) 0)) GP.Endless_low.g := by
 have nd : (["self"] : List Str).Nodup := sc_End_low.nd
 exact (zE (zQ (PV.w qP)))
theorem fok_End_low {f : Addr} {fd : FuncData} (Fn : Fun K "low" "End.low" (inClass (top 1) 0) f fd) (T : Glb K mg)  : FnOk P w K mg base CX0 1 f fd ["self"] (spF K 1 GP.Endless_low.f) :=
 qH (k := 0) (F := GP.Endless_low.f) (g := GP.Endless_low.g) Fn sc_End_low (fun cdv A outer s H E hr => body_End_low T  cdv A outer s H E hr) (fun ds r hl e => zR e)
theorem sc_End_behind : FnScope ["self"] ["self"] (zA (inClass (top 1) 1)) := ⟨rfl, rfl, rfl, by decide +kernel, rfl, by decide +kernel, by decide +kernel⟩
theorem body_End_behind {f : Addr} (T : Glb K mg)  (cdv : Value) (A : Around) (outer : List Env) (s : Shared) (H : Hp) (E : XK) (hr : Room 0 (A.deeper (envOfC "End.behind" (zA (inClass (top 1) 1)) s.heap.objs.size f cdv))) :
  PSsv (cxOf CX0 P w K mg base ["self"] "End.behind" (zA (inClass (top 1) 1)) f cdv A outer s H E).nox (zH (inClass (top 1) 1)) GP.Endless_behind.g := by
 have nd : (["self"] : List Str).Nodup := sc_End_behind.nd
 exact (zE (zQ (PV.w qP)))
theorem fok_End_behind {f : Addr} {fd : FuncData} (Fn : Fun K "behind" "End.behind" (inClass (top 1) 1) f fd) (T : Glb K mg)  : FnOk P w K mg base CX0 1 f fd ["self"] (spF K 1 GP.Endless_behind.f) :=
 qH (k := 0) (F := GP.Endless_behind.f) (g := GP.Endless_behind.g) Fn sc_End_behind (fun cdv A outer s H E hr => body_End_behind T  cdv A outer s H E hr) (fun ds r hl e => zR e)
theorem sc_Shut___init__ : FnScope ["self", "place"] ["self", "place"] (zA (inClass (top 2) 0)) := ⟨rfl, rfl, rfl, by decide +kernel, rfl, by decide +kernel, by decide +kernel⟩
theorem body_Shut___init__ {f : Addr} (T : Glb K mg)  (cdv : Value) (A : Around) (outer : List Env) (s : Shared) (H : Hp) (E : XK) (hr : Room 0 (A.deeper (envOfC "Shut.__init__" (zA (inClass (top 2) 0)) s.heap.objs.size f cdv))) :
  PIs (cxOf CX0 P w K mg base ["self", "place"] "Shut.__init__" (zA (inClass (top 2) 0)) f cdv A outer s H E).nox (zH (inClass (top 2) 0)) ["place"] GP.Shut___init__.i := by
 have nd : (["self", "place"] : List Str).Nodup := sc_Shut___init__.nd
 exact (pis_one (pi_fld (zZ 1)))
theorem fok_Shut___init__ {f : Addr} {fd : FuncData} (Fn : Fun K "__init__" "Shut.__init__" (inClass (top 2) 0) f fd) (T : Glb K mg)  : FnOk P w K mg base CX0 1 f fd ["self", "place"] (spN K 1 ["place"] GP.Shut___init__.f) :=
 init_ok (k := 0) (n := 1) (m := 2) (g := GP.Shut___init__.i) Fn sc_Shut___init__ (fun cdv A outer s H E hr => body_Shut___init__ T  cdv A outer s H E hr) rfl (by decide) rfl
theorem sc_Shut_low : FnScope ["self"] ["self"] (zA (inClass (top 2) 1)) := ⟨rfl, rfl, rfl, by decide +kernel, rfl, by decide +kernel, by decide +kernel⟩
theorem body_Shut_low {f : Addr} (T : Glb K mg)  (cdv : Value) (A : Around) (outer : List Env) (s : Shared) (H : Hp) (E : XK) (hr : Room 0 (A.deeper (envOfC "Shut.low" (zA (inClass (top 2) 1)) s.heap.objs.size f cdv))) :
  PSsv (cxOf CX0 P w K mg base ["self"] "Shut.low" (zA (inClass (top 2) 1)) f cdv A outer s H E).nox (zH (inClass (top 2) 1)) GP.Shut_low.g := by
 have nd : (["self"] : List Str).Nodup := sc_Shut_low.nd
 exact (zE (zQ (PV.w (pv_fld T.fl_place (zZ 0)))))
theorem fok_Shut_low {f : Addr} {fd : FuncData} (Fn : Fun K "low" "Shut.low" (inClass (top 2) 1) f fd) (T : Glb K mg)  : FnOk P w K mg base CX0 1 f fd ["self"] (spF K 1 GP.Shut_low.f) :=
 qH (k := 0) (F := GP.Shut_low.f) (g := GP.Shut_low.g) Fn sc_Shut_low (fun cdv A outer s H E hr => body_Shut_low T  cdv A outer s H E hr) (fun ds r hl e => zR e)
theorem sc_Shut_behind : FnScope ["self"] ["self"] (zA (inClass (top 2) 2)) := ⟨rfl, rfl, rfl, by decide +kernel, rfl, by decide +kernel, by decide +kernel⟩
theorem body_Shut_behind {f : Addr} (T : Glb K mg)  (cdv : Value) (A : Around) (outer : List Env) (s : Shared) (H : Hp) (E : XK) (hr : Room 0 (A.deeper (envOfC "Shut.behind" (zA (inClass (top 2) 2)) s.heap.objs.size f cdv))) :
  PSsv (cxOf CX0 P w K mg base ["self"] "Shut.behind" (zA (inClass (top 2) 2)) f cdv A outer s H E).nox (zH (inClass (top 2) 2)) GP.Shut_behind.g := by
 have nd : (["self"] : List Str).Nodup := sc_Shut_behind.nd
 exact (zE (zQ (PV.w (qA (PV.w (pv_fld T.fl_place (zZ 0))) (PV.w zF)))))
theorem fok_Shut_behind {f : Addr} {fd : FuncData} (Fn : Fun K "behind" "Shut.behind" (inClass (top 2) 2) f fd) (T : Glb K mg)  : FnOk P w K mg base CX0 1 f fd ["self"] (spF K 1 GP.Shut_behind.f) :=
 qH (k := 0) (F := GP.Shut_behind.f) (g := GP.Shut_behind.g) Fn sc_Shut_behind (fun cdv A outer s H E hr => body_Shut_behind T  cdv A outer s H E hr) (fun ds r hl e => zR e)
theorem sc_Open___init__ : FnScope ["self", "place"] ["self", "place"] (zA (inClass (top 3) 0)) := ⟨rfl, rfl, rfl, by decide +kernel, rfl, by decide +kernel, by decide +kernel⟩
theorem body_Open___init__ {f : Addr} (T : Glb K mg)  (cdv : Value) (A : Around) (outer : List Env) (s : Shared) (H : Hp) (E : XK) (hr : Room 0 (A.deeper (envOfC "Open.__init__" (zA (inClass (top 3) 0)) s.heap.objs.size f cdv))) :
  PIs (cxOf CX0 P w K mg base ["self", "place"] "Open.__init__" (zA (inClass (top 3) 0)) f cdv A outer s H E).nox (zH (inClass (top 3) 0)) ["place"] GP.Shut___init__.i := by
 have nd : (["self", "place"] : List Str).Nodup := sc_Open___init__.nd
 exact (pis_one (pi_fld (zZ 1)))
theorem fok_Open___init__ {f : Addr} {fd : FuncData} (Fn : Fun K "__init__" "Open.__init__" (inClass (top 3) 0) f fd) (T : Glb K mg)  : FnOk P w K mg base CX0 1 f fd ["self", "place"] (spN K 1 ["place"] GP.Shut___init__.f) :=
 init_ok (k := 0) (n := 1) (m := 2) (g := GP.Shut___init__.i) Fn sc_Open___init__ (fun cdv A outer s H E hr => body_Open___init__ T  cdv A outer s H E hr) rfl (by decide) rfl
theorem sc_Open_low : FnScope ["self"] ["self"] (zA (inClass (top 3) 1)) := ⟨rfl, rfl, rfl, by decide +kernel, rfl, by decide +kernel, by decide +kernel⟩
theorem body_Open_low {f : Addr} (T : Glb K mg)  (cdv : Value) (A : Around) (outer : List Env) (s : Shared) (H : Hp) (E : XK) (hr : Room 0 (A.deeper (envOfC "Open.low" (zA (inClass (top 3) 1)) s.heap.objs.size f cdv))) :
  PSsv (cxOf CX0 P w K mg base ["self"] "Open.low" (zA (inClass (top 3) 1)) f cdv A outer s H E).nox (zH (inClass (top 3) 1)) GP.Open_low.g := by
 have nd : (["self"] : List Str).Nodup := sc_Open_low.nd
 exact (zE (zQ (PV.w (qA (PV.w (pv_fld T.fl_place (zZ 0))) (PV.w zF)))))
theorem fok_Open_low {f : Addr} {fd : FuncData} (Fn : Fun K "low" "Open.low" (inClass (top 3) 1) f fd) (T : Glb K mg)  : FnOk P w K mg base CX0 1 f fd ["self"] (spF K 1 GP.Open_low.f) :=
 qH (k := 0) (F := GP.Open_low.f) (g := GP.Open_low.g) Fn sc_Open_low (fun cdv A outer s H E hr => body_Open_low T  cdv A outer s H E hr) (fun ds r hl e => zR e)
theorem sc_Open_behind : FnScope ["self"] ["self"] (zA (inClass (top 3) 2)) := ⟨rfl, rfl, rfl, by decide +kernel, rfl, by decide +kernel, by decide +kernel⟩
theorem body_Open_behind {f : Addr} (T : Glb K mg)  (cdv : Value) (A : Around) (outer : List Env) (s : Shared) (H : Hp) (E : XK) (hr : Room 0 (A.deeper (envOfC "Open.behind" (zA (inClass (top 3) 2)) s.heap.objs.size f cdv))) :
  PSsv (cxOf CX0 P w K mg base ["self"] "Open.behind" (zA (inClass (top 3) 2)) f cdv A outer s H E).nox (zH (inClass (top 3) 2)) GP.Open_behind.g := by
 have nd : (["self"] : List Str).Nodup := sc_Open_behind.nd
 exact (zE (zQ (PV.w (pv_fld T.fl_place (zZ 0)))))
theorem fok_Open_behind {f : Addr} {fd : FuncData} (Fn : Fun K "behind" "Open.behind" (inClass (top 3) 2) f fd) (T : Glb K mg)  : FnOk P w K mg base CX0 1 f fd ["self"] (spF K 1 GP.Open_behind.f) :=
 qH (k := 0) (F := GP.Open_behind.f) (g := GP.Open_behind.g) Fn sc_Open_behind (fun cdv A outer s H E hr => body_Open_behind T  cdv A outer s H E hr) (fun ds r hl e => zR e)
theorem sc_Endless_low : FnScope ["self"] ["self"] (zA (inClass (top 4) 0)) := ⟨rfl, rfl, rfl, by decide +kernel, rfl, by decide +kernel, by decide +kernel⟩
theorem body_Endless_low {f : Addr} (T : Glb K mg)  (cdv : Value) (A : Around) (outer : List Env) (s : Shared) (H : Hp) (E : XK) (hr : Room 0 (A.deeper (envOfC "Endless.low" (zA (inClass (top 4) 0)) s.heap.objs.size f cdv))) :
  PSsv (cxOf CX0 P w K mg base ["self"] "Endless.low" (zA (inClass (top 4) 0)) f cdv A outer s H E).nox (zH (inClass (top 4) 0)) GP.Endless_low.g := by
 have nd : (["self"] : List Str).Nodup := sc_Endless_low.nd
 exact (zE (zQ (PV.w qP)))
theorem fok_Endless_low {f : Addr} {fd : FuncData} (Fn : Fun K "low" "Endless.low" (inClass (top 4) 0) f fd) (T : Glb K mg)  : FnOk P w K mg base CX0 1 f fd ["self"] (spF K 1 GP.Endless_low.f) :=
 qH (k := 0) (F := GP.Endless_low.f) (g := GP.Endless_low.g) Fn sc_Endless_low (fun cdv A outer s H E hr => body_Endless_low T  cdv A outer s H E hr) (fun ds r hl e => zR e)
theorem sc_Endless_behind : FnScope ["self"] ["self"] (zA (inClass (top 4) 1)) := ⟨rfl, rfl, rfl, by decide +kernel, rfl, by decide +kernel, by decide +kernel⟩
theorem body_Endless_behind {f : Addr} (T : Glb K mg)  (cdv : Value) (A : Around) (outer : List Env) (s : Shared) (H : Hp) (E : XK) (hr : Room 0 (A.deeper (envOfC "Endless.behind" (zA (inClass (top 4) 1)) s.heap.objs.size f cdv))) :
  PSsv (cxOf CX0 P w K mg base ["self"] "Endless.behind" (zA (inClass (top 4) 1)) f cdv A outer s H E).nox (zH (inClass (top 4) 1)) GP.Endless_behind.g := by
 have nd : (["self"] : List Str).Nodup := sc_Endless_behind.nd
 exact (zE (zQ (PV.w qP)))
theorem fok_Endless_behind {f : Addr} {fd : FuncData} (Fn : Fun K "behind" "Endless.behind" (inClass (top 4) 1) f fd) (T : Glb K mg)  : FnOk P w K mg base CX0 1 f fd ["self"] (spF K 1 GP.Endless_behind.f) :=
 qH (k := 0) (F := GP.Endless_behind.f) (g := GP.Endless_behind.g) Fn sc_Endless_behind (fun cdv A outer s H E hr => body_Endless_behind T  cdv A outer s H E hr) (fun ds r hl e => zR e)
theorem sc_ends_ahead : FnScope ["behind", "low"] ["behind", "low"] (zA (top 15)) := ⟨rfl, rfl, rfl, by decide +kernel, rfl, by decide +kernel, by decide +kernel⟩
theorem body_ends_ahead {f : Addr} (T : Glb K mg)  (cdv : Value) (A : Around) (outer : List Env) (s : Shared) (H : Hp) (E : XK) (hr : Room 0 (A.deeper (envOfC "ends_ahead" (zA (top 15)) s.heap.objs.size f cdv))) :
  PSsv (cxOf CX0 P w K mg base ["behind", "low"] "ends_ahead" (zA (top 15)) f cdv A outer s H E).nox (zH (top 15)) GP.ends_ahead.g := by
 have nd : (["behind", "low"] : List Str).Nodup := sc_ends_ahead.nd
 exact (zE (zQ (PV.w (vT (pv_isnot (PVw.n (zB 0)) (PV.n qP)) (vT (pv_isnot (PVw.n (zB 1)) (PV.n qP)) (vU (pv_le (zB 0) (zB 1))))))))
theorem fok_ends_ahead {f : Addr} {fd : FuncData} (Fn : Fun K "ends_ahead" "ends_ahead" (top 15) f fd) (T : Glb K mg)  : FnOk P w K mg base CX0 1 f fd ["behind", "low"] (spF K 2 GP.ends_ahead.f) :=
 qH (k := 0) (F := GP.ends_ahead.f) (g := GP.ends_ahead.g) Fn sc_ends_ahead (fun cdv A outer s H E hr => body_ends_ahead T  cdv A outer s H E hr) (fun ds r hl e => zR e)
theorem sc_span : FnScope ["low_end", "high_end", "low", "behind"] ["low_end", "high_end"] (zA (top 12)) := ⟨rfl, rfl, rfl, by decide +kernel, rfl, by decide +kernel, by decide +kernel⟩
theorem body_span {f : Addr} (T : Glb K mg) (C_ends_ahead : Cal P w K mg base "ends_ahead" 1 2 GP.ends_ahead.f) (M_low : MCal P w K mg base "low" 1 0 [7, 8, 9, 10] GP.M_low_88ddca) (M_behind : MCal P w K mg base "behind" 1 0 [7, 8, 9, 10] GP.M_behind_f72aa6) (cdv : Value) (A : Around) (outer : List Env) (s : Shared) (H : Hp) (E : XK) (hr : Room 1 (A.deeper (envOfC "span" (zA (top 12)) s.heap.objs.size f cdv))) :
  PSsv (cxOf CX0 P w K mg base ["low_end", "high_end", "low", "behind"] "span" (zA (top 12)) f cdv A outer s H E).nox (zH (top 12)) GP.span2.g := by
 have nd : (["low_end", "high_end", "low", "behind"] : List Str).Nodup := sc_span.nd
 exact (zD (qB (i := 2) nd (pv_meth0 M_low hr (zZ 0) ))
  (zD (qB (i := 3) nd (pv_meth0 M_behind hr (zZ 1) ))
  (zD (zY (PVn.t (PV.n (zV C_ends_ahead hr (zI (PVw.n (zB 3)) (zI (PVw.n (zB 2)) zS))))) (zE jC) zM)
  (zE (zQ (PV.w (jM (zJ (zZ 2) (zJ (zZ 3) qE)))))))))
theorem fok_span {f : Addr} {fd : FuncData} (Fn : Fun K "span" "span" (top 12) f fd) (T : Glb K mg) (C_ends_ahead : Cal P w K mg base "ends_ahead" 1 2 GP.ends_ahead.f) (M_low : MCal P w K mg base "low" 1 0 [7, 8, 9, 10] GP.M_low_88ddca) (M_behind : MCal P w K mg base "behind" 1 0 [7, 8, 9, 10] GP.M_behind_f72aa6) : FnOk P w K mg base CX0 2 f fd ["low_end", "high_end"] (spF K 2 GP.span2.f) :=
 qH (k := 1) (F := GP.span2.f) (g := GP.span2.g) Fn sc_span (fun cdv A outer s H E hr => body_span T C_ends_ahead M_low M_behind cdv A outer s H E hr) (fun ds r hl e => zR e)
theorem sc_later_low : FnScope ["one", "other"] ["one", "other"] (zA (top 16)) := ⟨rfl, rfl, rfl, by decide +kernel, rfl, by decide +kernel, by decide +kernel⟩
theorem body_later_low {f : Addr} (T : Glb K mg)  (cdv : Value) (A : Around) (outer : List Env) (s : Shared) (H : Hp) (E : XK) (hr : Room 0 (A.deeper (envOfC "later_low" (zA (top 16)) s.heap.objs.size f cdv))) :
  PSsv (cxOf CX0 P w K mg base ["one", "other"] "later_low" (zA (top 16)) f cdv A outer s H E).nox (zH (top 16)) GP.later_low.g := by
 have nd : (["one", "other"] : List Str).Nodup := sc_later_low.nd
 exact (zD (zY (wM (PVw.n (zB 0)) (PV.n qP)) (zE (zQ (zB 1))) zM)
  (zD (zY (wM (PVw.n (zB 1)) (PV.n qP)) (zE (zQ (zB 0))) zM)
  (zE (zQ (PV.w (pv_max2 rfl T.b_max (zX (zB 0) (zX (zB 1) qM))))))))
theorem fok_later_low {f : Addr} {fd : FuncData} (Fn : Fun K "later_low" "later_low" (top 16) f fd) (T : Glb K mg)  : FnOk P w K mg base CX0 1 f fd ["one", "other"] (spF K 2 GP.later_low.f) :=
 qH (k := 0) (F := GP.later_low.f) (g := GP.later_low.g) Fn sc_later_low (fun cdv A outer s H E hr => body_later_low T  cdv A outer s H E hr) (fun ds r hl e => zR e)
theorem sc_earlier_behind : FnScope ["one", "other"] ["one", "other"] (zA (top 17)) := ⟨rfl, rfl, rfl, by decide +kernel, rfl, by decide +kernel, by decide +kernel⟩
theorem body_earlier_behind {f : Addr} (T : Glb K mg)  (cdv : Value) (A : Around) (outer : List Env) (s : Shared) (H : Hp) (E : XK) (hr : Room 0 (A.deeper (envOfC "earlier_behind" (zA (top 17)) s.heap.objs.size f cdv))) :
  PSsv (cxOf CX0 P w K mg base ["one", "other"] "earlier_behind" (zA (top 17)) f cdv A outer s H E).nox (zH (top 17)) GP.earlier_behind.g := by
 have nd : (["one", "other"] : List Str).Nodup := sc_earlier_behind.nd
 exact (zD (zY (wM (PVw.n (zB 0)) (PV.n qP)) (zE (zQ (zB 1))) zM)
  (zD (zY (wM (PVw.n (zB 1)) (PV.n qP)) (zE (zQ (zB 0))) zM)
  (zE (zQ (PV.w (pv_min2 rfl T.b_min (zX (zB 0) (zX (zB 1) qM))))))))
theorem fok_earlier_behind {f : Addr} {fd : FuncData} (Fn : Fun K "earlier_behind" "earlier_behind" (top 17) f fd) (T : Glb K mg)  : FnOk P w K mg base CX0 1 f fd ["one", "other"] (spF K 2 GP.earlier_behind.f) :=
 qH (k := 0) (F := GP.earlier_behind.f) (g := GP.earlier_behind.g) Fn sc_earlier_behind (fun cdv A outer s H E hr => body_earlier_behind T  cdv A outer s H E hr) (fun ds r hl e => zR e)
theorem sc_meet : FnScope ["one", "other", "low", "behind"] ["one", "other"] (zA (top 13)) := ⟨rfl, rfl, rfl, by decide +kernel, rfl, by decide +kernel, by decide +kernel⟩
theorem body_meet {f : Addr} (T : Glb K mg) (C_later_low : Cal P w K mg base "later_low" 1 2 GP.later_low.f) (C_earlier_behind : Cal P w K mg base "earlier_behind" 1 2 GP.earlier_behind.f) (C_ends_ahead : Cal P w K mg base "ends_ahead" 1 2 GP.ends_ahead.f) (cdv : Value) (A : Around) (outer : List Env) (s : Shared) (H : Hp) (E : XK) (hr : Room 1 (A.deeper (envOfC "meet" (zA (top 13)) s.heap.objs.size f cdv))) :
  PSsv (cxOf CX0 P w K mg base ["one", "other", "low", "behind"] "meet" (zA (top 13)) f cdv A outer s H E).nox (zH (top 13)) GP.meet.g := by
 have nd : (["one", "other", "low", "behind"] : List Str).Nodup := sc_meet.nd
 exact (zD (qB (i := 2) nd (zV C_later_low hr (zI (PV.n (qL (zB 0) (PV.w zF))) (zI (PV.n (qL (zB 1) (PV.w zF))) zS))))
  (zD (qB (i := 3) nd (zV C_earlier_behind hr (zI (PV.n (qL (zB 0) (PV.w zF))) (zI (PV.n (qL (zB 1) (PV.w zF))) zS))))
  (zD (zY (PVn.t (PV.n (zV C_ends_ahead hr (zI (PVw.n (zB 3)) (zI (PVw.n (zB 2)) zS))))) (zE (zQ (PV.w qP))) zM)
  (zE (zQ (PV.w (jM (zJ (zZ 2) (zJ (zZ 3) qE)))))))))
theorem fok_meet {f : Addr} {fd : FuncData} (Fn : Fun K "meet" "meet" (top 13) f fd) (T : Glb K mg) (C_later_low : Cal P w K mg base "later_low" 1 2 GP.later_low.f) (C_earlier_behind : Cal P w K mg base "earlier_behind" 1 2 GP.earlier_behind.f) (C_ends_ahead : Cal P w K mg base "ends_ahead" 1 2 GP.ends_ahead.f) : FnOk P w K mg base CX0 2 f fd ["one", "other"] (spF K 2 GP.meet.f) :=
 qH (k := 1) (F := GP.meet.f) (g := GP.meet.g) Fn sc_meet (fun cdv A outer s H E hr => body_meet T C_later_low C_earlier_behind C_ends_ahead cdv A outer s H E hr) (fun ds r hl e => zR e)
theorem sc_length : FnScope ["one"] ["one"] (zA (top 14)) := ⟨rfl, rfl, rfl, by decide +kernel, rfl, by decide +kernel, by decide +kernel⟩
theorem body_length {f : Addr} (T : Glb K mg)  (cdv : Value) (A : Around) (outer : List Env) (s : Shared) (H : Hp) (E : XK) (hr : Room 0 (A.deeper (envOfC "length" (zA (top 14)) s.heap.objs.size f cdv))) :
  PSsv (cxOf CX0 P w K mg base ["one"] "length" (zA (top 14)) f cdv A outer s H E).nox (zH (top 14)) GP.length.g := by
 have nd : (["one"] : List Str).Nodup := sc_length.nd
 exact (zD (zY (PWv.t (xE (wM (PV.n (qL (zB 0) (PV.w zF))) (PV.n qP)) (xA (wM (PV.n (qL (zB 0) (PV.w zF))) (PV.n qP))))) (zE (zQ (PV.w qP))) zM)
  (zE (zQ (PV.w (jJ (PV.w (qL (zB 0) (PV.w zF))) (PV.w (qL (zB 0) (PV.w zF))))))))
theorem fok_length {f : Addr} {fd : FuncData} (Fn : Fun K "length" "length" (top 14) f fd) (T : Glb K mg)  : FnOk P w K mg base CX0 1 f fd ["one"] (spF K 1 GP.length.f) :=
 qH (k := 0) (F := GP.length.f) (g := GP.length.g) Fn sc_length (fun cdv A outer s H E hr => body_length T  cdv A outer s H E hr) (fun ds r hl e => zR e)
theorem sc_knit : FnScope ["rows", "pieces", "low", "behind", "value"] ["rows"] (zA (top 19)) := ⟨rfl, rfl, rfl, by decide +kernel, rfl, by decide +kernel, by decide +kernel⟩
theorem body_knit {f : Addr} (T : Glb K mg)  (cdv : Value) (A : Around) (outer : List Env) (s : Shared) (H : Hp) (E : XK) (hr : Room 0 (A.deeper (envOfC "knit" (zA (top 19)) s.heap.objs.size f cdv))) :
  PSsv (cxOf CX0 P w K mg base ["rows", "pieces", "low", "behind", "value"] "knit" (zA (top 19)) f cdv A outer s H E).nox (zH (top 19)) GP.knit.g := by
 have nd : (["rows", "pieces", "low", "behind", "value"] : List Str).Nodup := sc_knit.nd
 exact (zD (jN (i := 1) nd (jI qE))
  (zD (jZ PassesOwn.never rfl (jQ (zZ 0)) (yM (n := 3) rfl (zO (zN (i := 2) nd) (zO (zN (i := 3) nd) (zO (zN (i := 4) nd) jF)))) (zD (zY (wM (PVw.n (zB 4)) (PV.n qP)) (zE psv_continue) zM)
  (zE (zY (PWv.t (yK (PVn.t (PVw.n (zB 1))) (yK (xY hr (PV.n (qL (PV.w (qL (zB 1) (PV.w (xV zF)))) (PV.w zF))) (PVw.n (zB 2))) (yG (xY hr (PV.n (qL (PV.w (qL (zB 1) (PV.w (xV zF)))) (PV.w zF))) (PVw.n (zB 4))))))) (zE (psv_put (i := 1) (jM (zJ (qL (PV.w (qL (zB 1) (PV.w (xV zF)))) (PV.w zF)) (zJ (zZ 3) (zJ (zZ 4) qE)))) (xV zF))) (zE (vB (i := 1) (jM (zJ (zZ 2) (zJ (zZ 3) (zJ (zZ 4) qE))))))))))
  (zE (xS 1))))
theorem fok_knit {f : Addr} {fd : FuncData} (Fn : Fun K "knit" "knit" (top 19) f fd) (T : Glb K mg)  : FnOk P w K mg base CX0 1 f fd ["rows"] (spF K 1 GP.knit.f) :=
 qH (k := 0) (F := GP.knit.f) (g := GP.knit.g) Fn sc_knit (fun cdv A outer s H E hr => body_knit T  cdv A outer s H E hr) (fun ds r hl e => zR e)
theorem sc_parts_in : FnScope ["pieces", "within", "parts", "low", "behind", "value", "common"] ["pieces", "within"] (zA (top 21)) := ⟨rfl, rfl, rfl, by decide +kernel, rfl, by decide +kernel, by decide +kernel⟩
theorem body_parts_in {f : Addr} (T : Glb K mg) (C_meet : Cal P w K mg base "meet" 2 2 GP.meet.f) (cdv : Value) (A : Around) (outer : List Env) (s : Shared) (H : Hp) (E : XK) (hr : Room 2 (A.deeper (envOfC "parts_in" (zA (top 21)) s.heap.objs.size f cdv))) :
  PSsv (cxOf CX0 P w K mg base ["pieces", "within", "parts", "low", "behind", "value", "common"] "parts_in" (zA (top 21)) f cdv A outer s H E).nox (zH (top 21)) GP.parts_in.g := by
 have nd : (["pieces", "within", "parts", "low", "behind", "value", "common"] : List Str).Nodup := sc_parts_in.nd
 exact (zD (jN (i := 2) nd (jI qE))
  (zD (jZ PassesOwn.never rfl (jQ (zZ 0)) (yM (n := 3) rfl (zO (zN (i := 3) nd) (zO (zN (i := 4) nd) (zO (zN (i := 5) nd) jF)))) (zD (qB (i := 6) nd (zV C_meet hr (zI (PV.n (jM (zJ (zZ 3) (zJ (zZ 4) qE)))) (zI (PVw.n (zB 1)) zS))))
  (zE (zY (jO (PVw.n (zB 6)) (PV.n qP)) (zE (vB (i := 2) (jM (zJ (qL (zB 6) (PV.w zF)) (zJ (qL (zB 6) (PV.w zF)) (zJ (zZ 5) qE)))))) zM))))
  (zE (xS 2))))
theorem fok_parts_in {f : Addr} {fd : FuncData} (Fn : Fun K "parts_in" "parts_in" (top 21) f fd) (T : Glb K mg) (C_meet : Cal P w K mg base "meet" 2 2 GP.meet.f) : FnOk P w K mg base CX0 3 f fd ["pieces", "within"] (spF K 2 GP.parts_in.f) :=
 qH (k := 2) (F := GP.parts_in.f) (g := GP.parts_in.g) Fn sc_parts_in (fun cdv A outer s H E hr => body_parts_in T C_meet cdv A outer s H E hr) (fun ds r hl e => zR e)
theorem sc_rows_over : FnScope ["pieces", "over", "value", "rows"] ["pieces", "over", "value"] (zA (top 22)) := ⟨rfl, rfl, rfl, by decide +kernel, rfl, by decide +kernel, by decide +kernel⟩
theorem body_rows_over {f : Addr} (T : Glb K mg) (C_parts_in : Cal P w K mg base "parts_in" 3 2 GP.parts_in.f) (cdv : Value) (A : Around) (outer : List Env) (s : Shared) (H : Hp) (E : XK) (hr : Room 3 (A.deeper (envOfC "rows_over" (zA (top 22)) s.heap.objs.size f cdv))) :
  PSsv (cxOf CX0 P w K mg base ["pieces", "over", "value", "rows"] "rows_over" (zA (top 22)) f cdv A outer s H E).nox (zH (top 22)) GP.rows_over.g := by
 have nd : (["pieces", "over", "value", "rows"] : List Str).Nodup := sc_rows_over.nd
 exact (zD (jN (i := 3) nd (jI qE))
  (zD (zY (jO (PV.n (qL (zB 1) (PV.w zF))) (PV.n qP)) (zE (psv_ext (i := 3) (jW C_parts_in hr (zI (PVw.n (zB 0)) (zI (PV.n (jM (zJ qP (zJ (qL (zB 1) (PV.w zF)) qE)))) zS))))) zM)
  (zD (vB (i := 3) (jM (zJ (qL (zB 1) (PV.w zF)) (zJ (qL (zB 1) (PV.w zF)) (zJ (zZ 2) qE)))))
  (zD (zY (jO (PV.n (qL (zB 1) (PV.w zF))) (PV.n qP)) (zE (psv_ext (i := 3) (jW C_parts_in hr (zI (PVw.n (zB 0)) (zI (PV.n (jM (zJ (qL (zB 1) (PV.w zF)) (zJ qP qE)))) zS))))) zM)
  (zE (xS 3))))))
theorem fok_rows_over {f : Addr} {fd : FuncData} (Fn : Fun K "rows_over" "rows_over" (top 22) f fd) (T : Glb K mg) (C_parts_in : Cal P w K mg base "parts_in" 3 2 GP.parts_in.f) : FnOk P w K mg base CX0 4 f fd ["pieces", "over", "value"] (spF K 3 GP.rows_over.f) :=
 qH (k := 3) (F := GP.rows_over.f) (g := GP.rows_over.g) Fn sc_rows_over (fun cdv A outer s H E hr => body_rows_over T C_parts_in cdv A outer s H E hr) (fun ds r hl e => zR e)
theorem sc_formed : FnScope ["rows", "pieces", "over", "value"] ["rows"] (zA (top 20)) := ⟨rfl, rfl, rfl, by decide +kernel, rfl, by decide +kernel, by decide +kernel⟩
theorem body_formed {f : Addr} (T : Glb K mg) (C_knit : Cal P w K mg base "knit" 1 1 GP.knit.f) (C_rows_over : Cal P w K mg base "rows_over" 4 3 GP.rows_over.f) (cdv : Value) (A : Around) (outer : List Env) (s : Shared) (H : Hp) (E : XK) (hr : Room 4 (A.deeper (envOfC "formed" (zA (top 20)) s.heap.objs.size f cdv))) :
  PSsv (cxOf CX0 P w K mg base ["rows", "pieces", "over", "value"] "formed" (zA (top 20)) f cdv A outer s H E).nox (zH (top 20)) GP.formed.g := by
 have nd : (["rows", "pieces", "over", "value"] : List Str).Nodup := sc_formed.nd
 exact (zD (jN (i := 1) nd (jI qE))
  (zD (jZ PassesOwn.never rfl (jQ (zZ 0)) (yM (n := 2) rfl (zO (zN (i := 2) nd) (zO (zN (i := 3) nd) jF))) (zE (jN (i := 1) nd (jW C_knit hr (zI (PV.n (zV C_rows_over hr (zI (PVw.n (zB 1)) (zI (PVw.n (zB 2)) (zI (PVw.n (zB 3)) zS))))) zS)))))
  (zE (xS 1))))
theorem fok_formed {f : Addr} {fd : FuncData} (Fn : Fun K "formed" "formed" (top 20) f fd) (T : Glb K mg) (C_knit : Cal P w K mg base "knit" 1 1 GP.knit.f) (C_rows_over : Cal P w K mg base "rows_over" 4 3 GP.rows_over.f) : FnOk P w K mg base CX0 5 f fd ["rows"] (spF K 1 GP.formed.f) :=
 qH (k := 4) (F := GP.formed.f) (g := GP.formed.g) Fn sc_formed (fun cdv A outer s H E hr => body_formed T C_knit C_rows_over cdv A outer s H E hr) (fun ds r hl e => zR e)
theorem sc_is_rule : FnScope ["rule", "wide", "step", "times"] ["rule"] (zA (top 29)) := ⟨rfl, rfl, rfl, by decide +kernel, rfl, by decide +kernel, by decide +kernel⟩
theorem body_is_rule {f : Addr} (T : Glb K mg)  (cdv : Value) (A : Around) (outer : List Env) (s : Shared) (H : Hp) (E : XK) (hr : Room 0 (A.deeper (envOfC "is_rule" (zA (top 29)) s.heap.objs.size f cdv))) :
  PSsv (cxOf CX0 P w K mg base ["rule", "wide", "step", "times"] "is_rule" (zA (top 29)) f cdv A outer s H E).nox (zH (top 29)) GP.is_rule.g := by
 have nd : (["rule", "wide", "step", "times"] : List Str).Nodup := sc_is_rule.nd
 exact (zD (qB (i := 1) nd (jJ (PV.w (qL (zB 0) (PV.w zF))) (PV.w (qL (zB 0) (PV.w zF)))))
  (zD (qB (i := 2) nd (qL (zB 0) (PV.w zF)))
  (zD (qB (i := 3) nd (qL (zB 0) (PV.w zF)))
  (zD (zY (PWv.t (xE (pt_lt (zB 1) (PV.w zF)) (xE (pt_lt (zB 3) (PV.w zF)) (xA (kM (zB 3) (PV.w (vX T.c_MOST_TIMES))))))) (zE (zQ (PV.w xD))) zM)
  (zE (zQ (PV.w (pv_if (xY hr (PVw.n (zB 3)) (PV.n zF)) (pv_eq hr (PVw.n (zB 2)) (PV.n zF)) (pv_gt (zB 2) (zB 1))))))))))
theorem fok_is_rule {f : Addr} {fd : FuncData} (Fn : Fun K "is_rule" "is_rule" (top 29) f fd) (T : Glb K mg)  : FnOk P w K mg base CX0 1 f fd ["rule"] (spF K 1 GP.is_rule.f) :=
 qH (k := 0) (F := GP.is_rule.f) (g := GP.is_rule.g) Fn sc_is_rule (fun cdv A outer s H E hr => body_is_rule T  cdv A outer s H E hr) (fun ds r hl e => zR e)
theorem sc_stretches : FnScope ["rule", "step"] ["rule"] (zA (top 26)) := ⟨rfl, rfl, rfl, by decide +kernel, rfl, by decide +kernel, by decide +kernel⟩
theorem body_stretches {f : Addr} (T : Glb K mg) (C_is_rule : Cal P w K mg base "is_rule" 1 1 GP.is_rule.f) (cdv : Value) (A : Around) (outer : List Env) (s : Shared) (H : Hp) (E : XK) (hr : Room 1 (A.deeper (envOfC "stretches" (zA (top 26)) s.heap.objs.size f cdv))) :
  PSsv (cxOf CX0 P w K mg base ["rule", "step"] "stretches" (zA (top 26)) f cdv A outer s H E).nox (zH (top 26)) GP.stretches.g := by
 have nd : (["rule", "step"] : List Str).Nodup := sc_stretches.nd
 have nI0 : (["number", "rule", "step"] : List Str).Nodup := by decide +kernel
 exact (zD (zY (jH (PVn.t (PV.n (zV C_is_rule hr (zI (PVw.n (zB 0)) zS))))) (zE jC) zM)
  (zD (qB (i := 1) nd (qL (zB 0) (PV.w zF)))
  (zE (yY (xI (NY := ["number", "rule", "step"]) (mp := [none, some 0, some 1]) (jR (by kernel_rfl)) rfl (wE T.b_range (qL (zB 0) (PV.w zF))) (fun c => (zN (i := 0) nI0)) (fun c => xL) (fun c => (jM (zJ (qA (PV.w (qL (zB 1) (PV.w zF))) (PV.w (yN (zB 0) (zB 2)))) (zJ (qA (PV.w (qL (zB 1) (PV.w zF))) (PV.w (yN (zB 0) (zB 2)))) qE)))))))))
theorem fok_stretches {f : Addr} {fd : FuncData} (Fn : Fun K "stretches" "stretches" (top 26) f fd) (T : Glb K mg) (C_is_rule : Cal P w K mg base "is_rule" 1 1 GP.is_rule.f) : FnOk P w K mg base CX0 2 f fd ["rule"] (spF K 1 GP.stretches.f) :=
 qH (k := 1) (F := GP.stretches.f) (g := GP.stretches.g) Fn sc_stretches (fun cdv A outer s H E hr => body_stretches T C_is_rule cdv A outer s H E hr) (fun ds r hl e => zR e)
theorem sc_rule_rows : FnScope ["rule"] ["rule"] (zA (top 27)) := ⟨rfl, rfl, rfl, by decide +kernel, rfl, by decide +kernel, by decide +kernel⟩
theorem body_rule_rows {f : Addr} (T : Glb K mg) (C_stretches : Cal P w K mg base "stretches" 2 1 GP.stretches.f) (cdv : Value) (A : Around) (outer : List Env) (s : Shared) (H : Hp) (E : XK) (hr : Room 2 (A.deeper (envOfC "rule_rows" (zA (top 27)) s.heap.objs.size f cdv))) :
  PSsv (cxOf CX0 P w K mg base ["rule"] "rule_rows" (zA (top 27)) f cdv A outer s H E).nox (zH (top 27)) GP.rule_rows.g := by
 have nd : (["rule"] : List Str).Nodup := sc_rule_rows.nd
 have nI0 : (["stretch", "rule"] : List Str).Nodup := by decide +kernel
 exact (zE (yY (xI (NY := ["stretch", "rule"]) (mp := [none, some 0]) (jR (by kernel_rfl)) rfl (jQ (zV C_stretches hr (zI (PVw.n (zB 0)) zS))) (fun c => (zN (i := 0) nI0)) (fun c => xL) (fun c => (jM (zJ (zZ 0) (zJ (qL (zB 1) (PV.w zF)) qE)))))))
theorem fok_rule_rows {f : Addr} {fd : FuncData} (Fn : Fun K "rule_rows" "rule_rows" (top 27) f fd) (T : Glb K mg) (C_stretches : Cal P w K mg base "stretches" 2 1 GP.stretches.f) : FnOk P w K mg base CX0 3 f fd ["rule"] (spF K 1 GP.rule_rows.f) :=
 qH (k := 2) (F := GP.rule_rows.f) (g := GP.rule_rows.g) Fn sc_rule_rows (fun cdv A outer s H E hr => body_rule_rows T C_stretches cdv A outer s H E hr) (fun ds r hl e => zR e)
theorem sc_laid_rows : FnScope ["rows"] ["rows"] (zA (top 28)) := ⟨rfl, rfl, rfl, by decide +kernel, rfl, by decide +kernel, by decide +kernel⟩
theorem body_laid_rows {f : Addr} (T : Glb K mg) (C_formed : Cal P w K mg base "formed" 5 1 GP.formed.f) (cdv : Value) (A : Around) (outer : List Env) (s : Shared) (H : Hp) (E : XK) (hr : Room 5 (A.deeper (envOfC "laid_rows" (zA (top 28)) s.heap.objs.size f cdv))) :
  PSsv (cxOf CX0 P w K mg base ["rows"] "laid_rows" (zA (top 28)) f cdv A outer s H E).nox (zH (top 28)) GP.laid_rows.g := by
 have nd : (["rows"] : List Str).Nodup := sc_laid_rows.nd
 exact (zD (zY (kM (PV.w (xB T.b_len (zX (zB 0) qM))) (PV.w (vX T.c_MOST_TOGETHER))) (zE jC) zM)
  (zE (yY (jW C_formed hr (zI (PVw.n (zB 0)) zS)))))
theorem fok_laid_rows {f : Addr} {fd : FuncData} (Fn : Fun K "laid_rows" "laid_rows" (top 28) f fd) (T : Glb K mg) (C_formed : Cal P w K mg base "formed" 5 1 GP.formed.f) : FnOk P w K mg base CX0 6 f fd ["rows"] (spF K 1 GP.laid_rows.f) :=
 qH (k := 5) (F := GP.laid_rows.f) (g := GP.laid_rows.g) Fn sc_laid_rows (fun cdv A outer s H E hr => body_laid_rows T C_formed cdv A outer s H E hr) (fun ds r hl e => zR e)
theorem sc_is_number : FnScope ["text", "figures"] ["text"] (zA (top 37)) := ⟨rfl, rfl, rfl, by decide +kernel, rfl, by decide +kernel, by decide +kernel⟩
theorem body_is_number {f : Addr} (T : Glb K mg)  (cdv : Value) (A : Around) (outer : List Env) (s : Shared) (H : Hp) (E : XK) (hr : Room 0 (A.deeper (envOfC "is_number" (zA (top 37)) s.heap.objs.size f cdv))) :
  PSsv (cxOf CX0 P w K mg base ["text", "figures"] "is_number" (zA (top 37)) f cdv A outer s H E).nox (zH (top 37)) GP.is_number.g := by
 have nd : (["text", "figures"] : List Str).Nodup := sc_is_number.nd
 have nI0 : (["sign"] : List Str).Nodup := by decide +kernel
 exact (zD (zY (jH (PVn.t (PV.n (wH T.b_isinstance T.b_str (by decide +kernel) (zB 0))))) (zE (zQ (PV.w xD))) zM)
  (zD (qB (i := 1) nd (pv_if (PVn.t (PV.n (pv_stw (zB 0) (PV.w qR)))) (pv_sls (zB 0) (wJ (PV.w zF)) vP) (zZ 0)))
  (zD (zY (PWv.t (xE (pt_lt (PV.w (xB T.b_len (zX (zB 1) qM))) (PV.w zF)) (xA (kM (PV.w (xB T.b_len (zX (zB 1) qM))) (PV.w (vX T.c_MOST_FIGURES)))))) (zE (zQ (PV.w xD))) zM)
  (zD (zY (jH (PVn.t (PV.n (pv_all rfl T.b_all (zX (PV.w (PVf.s (xI (NY := ["sign"]) (mp := [none]) (jR (by kernel_rfl)) rfl (piv_str (zZ 1)) (fun c => (zN (i := 0) nI0)) (fun c => xL) (fun c => (pv_cmp op_in_str os_inS (zB 0) (PV.w (pv_globS T.c_FIGURES)) rfl))))) qM))))) (zE (zQ (PV.w xD))) zM)
  (zE (zQ (PV.w (pv_or (pv_ne hr (PV.n (qL (zB 1) (PV.w zF))) (PV.n qR)) (vU (pv_eq hr (PVw.n (zB 0)) (PV.n qR)))))))))))
theorem fok_is_number {f : Addr} {fd : FuncData} (Fn : Fun K "is_number" "is_number" (top 37) f fd) (T : Glb K mg)  : FnOk P w K mg base CX0 1 f fd ["text"] (spF K 1 GP.is_number.f) :=
 qH (k := 0) (F := GP.is_number.f) (g := GP.is_number.g) Fn sc_is_number (fun cdv A outer s H E hr => body_is_number T  cdv A outer s H E hr) (fun ds r hl e => zR e)
theorem sc_read_number : FnScope ["text"] ["text"] (zA (top 33)) := ⟨rfl, rfl, rfl, by decide +kernel, rfl, by decide +kernel, by decide +kernel⟩
theorem body_read_number {f : Addr} (T : Glb K mg) (C_is_number : Cal P w K mg base "is_number" 1 1 GP.is_number.f) (cdv : Value) (A : Around) (outer : List Env) (s : Shared) (H : Hp) (E : XK) (hr : Room 1 (A.deeper (envOfC "read_number" (zA (top 33)) s.heap.objs.size f cdv))) :
  PSsv (cxOf CX0 P w K mg base ["text"] "read_number" (zA (top 33)) f cdv A outer s H E).nox (zH (top 33)) GP.read_number.g := by
 have nd : (["text"] : List Str).Nodup := sc_read_number.nd
 exact (zD (zY (jH (PVn.t (PV.n (zV C_is_number hr (zI (PVw.n (zB 0)) zS))))) (zE jC) zM)
  (zE (zQ (PV.w (pv_intT T.b_int (zX (zB 0) qM))))))
theorem fok_read_number {f : Addr} {fd : FuncData} (Fn : Fun K "read_number" "read_number" (top 33) f fd) (T : Glb K mg) (C_is_number : Cal P w K mg base "is_number" 1 1 GP.is_number.f) : FnOk P w K mg base CX0 2 f fd ["text"] (spF K 1 GP.read_number.f) :=
 qH (k := 1) (F := GP.read_number.f) (g := GP.read_number.g) Fn sc_read_number (fun cdv A outer s H E hr => body_read_number T C_is_number cdv A outer s H E hr) (fun ds r hl e => zR e)
theorem sc_read_low_end : FnScope ["text"] ["text"] (zA (top 39)) := ⟨rfl, rfl, rfl, by decide +kernel, rfl, by decide +kernel, by decide +kernel⟩
theorem body_read_low_end {f : Addr} (T : Glb K mg) (C_read_number : Cal P w K mg base "read_number" 2 1 GP.read_number.f) (Mk_Endless : MkP K mg 9) (Mk_Shut : MkC P w K mg base 7 1 1 GP.Shut___init__.f) (Mk_Open : MkC P w K mg base 8 1 1 GP.Shut___init__.f) (cdv : Value) (A : Around) (outer : List Env) (s : Shared) (H : Hp) (E : XK) (hr : Room 2 (A.deeper (envOfC "read_low_end" (zA (top 39)) s.heap.objs.size f cdv))) :
  PSsv (cxOf CX0 P w K mg base ["text"] "read_low_end" (zA (top 39)) f cdv A outer s H E).nox (zH (top 39)) GP.read_low_end.g := by
 have nd : (["text"] : List Str).Nodup := sc_read_low_end.nd
 exact (zD (zY (xY hr (PVw.n (zB 0)) (PV.n qR)) (zE (xJ (pvd_makeP Mk_Endless))) zM)
  (zD (zY (PVn.t (PV.n (pv_stw (zB 0) (PV.w qR)))) (zE (xJ (wR Mk_Shut hr (zI (PV.n (zV C_read_number hr (zI (PV.n (pv_sls (zB 0) (wJ (PV.w zF)) vP)) zS))) zS)))) zM)
  (zD (zY (PVn.t (PV.n (pv_stw (zB 0) (PV.w qR)))) (zE (xJ (wR Mk_Open hr (zI (PV.n (zV C_read_number hr (zI (PV.n (pv_sls (zB 0) (wJ (PV.w zF)) vP)) zS))) zS)))) zM)
  (zE jC))))
theorem fok_read_low_end {f : Addr} {fd : FuncData} (Fn : Fun K "read_low_end" "read_low_end" (top 39) f fd) (T : Glb K mg) (C_read_number : Cal P w K mg base "read_number" 2 1 GP.read_number.f) (Mk_Endless : MkP K mg 9) (Mk_Shut : MkC P w K mg base 7 1 1 GP.Shut___init__.f) (Mk_Open : MkC P w K mg base 8 1 1 GP.Shut___init__.f) : FnOk P w K mg base CX0 3 f fd ["text"] (spF K 1 GP.read_low_end.f) :=
 qH (k := 2) (F := GP.read_low_end.f) (g := GP.read_low_end.g) Fn sc_read_low_end (fun cdv A outer s H E hr => body_read_low_end T C_read_number Mk_Endless Mk_Shut Mk_Open cdv A outer s H E hr) (fun ds r hl e => zR e)
theorem sc_read_high_end : FnScope ["text"] ["text"] (zA (top 40)) := ⟨rfl, rfl, rfl, by decide +kernel, rfl, by decide +kernel, by decide +kernel⟩
theorem body_read_high_end {f : Addr} (T : Glb K mg) (C_read_number : Cal P w K mg base "read_number" 2 1 GP.read_number.f) (Mk_Endless : MkP K mg 9) (Mk_Shut : MkC P w K mg base 7 1 1 GP.Shut___init__.f) (Mk_Open : MkC P w K mg base 8 1 1 GP.Shut___init__.f) (cdv : Value) (A : Around) (outer : List Env) (s : Shared) (H : Hp) (E : XK) (hr : Room 2 (A.deeper (envOfC "read_high_end" (zA (top 40)) s.heap.objs.size f cdv))) :
  PSsv (cxOf CX0 P w K mg base ["text"] "read_high_end" (zA (top 40)) f cdv A outer s H E).nox (zH (top 40)) GP.read_high_end.g := by
 have nd : (["text"] : List Str).Nodup := sc_read_high_end.nd
 exact (zD (zY (xY hr (PVw.n (zB 0)) (PV.n qR)) (zE (xJ (pvd_makeP Mk_Endless))) zM)
  (zD (zY (PVn.t (PV.n (pv_enw (zB 0) (PV.w qR)))) (zE (xJ (wR Mk_Shut hr (zI (PV.n (zV C_read_number hr (zI (PV.n (pv_sls (zB 0) vP (wJ (PV.w (xV zF))))) zS))) zS)))) zM)
  (zD (zY (PVn.t (PV.n (pv_enw (zB 0) (PV.w qR)))) (zE (xJ (wR Mk_Open hr (zI (PV.n (zV C_read_number hr (zI (PV.n (pv_sls (zB 0) vP (wJ (PV.w (xV zF))))) zS))) zS)))) zM)
  (zE jC))))
theorem fok_read_high_end {f : Addr} {fd : FuncData} (Fn : Fun K "read_high_end" "read_high_end" (top 40) f fd) (T : Glb K mg) (C_read_number : Cal P w K mg base "read_number" 2 1 GP.read_number.f) (Mk_Endless : MkP K mg 9) (Mk_Shut : MkC P w K mg base 7 1 1 GP.Shut___init__.f) (Mk_Open : MkC P w K mg base 8 1 1 GP.Shut___init__.f) : FnOk P w K mg base CX0 3 f fd ["text"] (spF K 1 GP.read_high_end.f) :=
 qH (k := 2) (F := GP.read_high_end.f) (g := GP.read_high_end.g) Fn sc_read_high_end (fun cdv A outer s H E hr => body_read_high_end T C_read_number Mk_Endless Mk_Shut Mk_Open cdv A outer s H E hr) (fun ds r hl e => zR e)
theorem sc_read_ends : FnScope ["text", "sides"] ["text"] (zA (top 38)) := ⟨rfl, rfl, rfl, by decide +kernel, rfl, by decide +kernel, by decide +kernel⟩
theorem body_read_ends {f : Addr} (T : Glb K mg) (C_read_low_end : Cal P w K mg base "read_low_end" 3 1 GP.read_low_end.f) (C_read_high_end : Cal P w K mg base "read_high_end" 3 1 GP.read_high_end.f) (cdv : Value) (A : Around) (outer : List Env) (s : Shared) (H : Hp) (E : XK) (hr : Room 3 (A.deeper (envOfC "read_ends" (zA (top 38)) s.heap.objs.size f cdv))) :
  PSsv (cxOf CX0 P w K mg base ["text", "sides"] "read_ends" (zA (top 38)) f cdv A outer s H E).nox (zH (top 38)) GP.read_ends.g := by
 have nd : (["text", "sides"] : List Str).Nodup := sc_read_ends.nd
 exact (zD (zY (jH (PVn.t (PV.n (wH T.b_isinstance T.b_str (by decide +kernel) (zB 0))))) (zE jC) zM)
  (zD (qB (i := 1) nd (PVf.s (xQ (zB 0) (PV.w qR))))
  (zD (zY (pt_ne hr (PV.n (xB T.b_len (zX (zB 1) qM))) (PV.n zF)) (zE jC) zM)
  (zE (psv_retE (pve_tup (pae_cons (PVd.e (pvd_callC C_read_low_end hr (zI (PV.n (qL (zB 1) (PV.w zF))) zS))) (pae_cons (PVd.e (pvd_callC C_read_high_end hr (zI (PV.n (qL (zB 1) (PV.w zF))) zS))) pae_nil))))))))
theorem fok_read_ends {f : Addr} {fd : FuncData} (Fn : Fun K "read_ends" "read_ends" (top 38) f fd) (T : Glb K mg) (C_read_low_end : Cal P w K mg base "read_low_end" 3 1 GP.read_low_end.f) (C_read_high_end : Cal P w K mg base "read_high_end" 3 1 GP.read_high_end.f) : FnOk P w K mg base CX0 4 f fd ["text"] (spF K 1 GP.read_ends.f) :=
 qH (k := 3) (F := GP.read_ends.f) (g := GP.read_ends.g) Fn sc_read_ends (fun cdv A outer s H E hr => body_read_ends T C_read_low_end C_read_high_end cdv A outer s H E hr) (fun ds r hl e => zR e)
theorem sc_comes_each : FnScope ["words"] ["words"] (zA (top 42)) := ⟨rfl, rfl, rfl, by decide +kernel, rfl, by decide +kernel, by decide +kernel⟩
theorem body_comes_each {f : Addr} (T : Glb K mg)  (cdv : Value) (A : Around) (outer : List Env) (s : Shared) (H : Hp) (E : XK) (hr : Room 0 (A.deeper (envOfC "comes_each" (zA (top 42)) s.heap.objs.size f cdv))) :
  PSsv (cxOf CX0 P w K mg base ["words"] "comes_each" (zA (top 42)) f cdv A outer s H E).nox (zH (top 42)) GP.comes_each.g := by
 have nd : (["words"] : List Str).Nodup := sc_comes_each.nd
 exact (zE (zQ (PV.w (vT (pv_eq hr (PV.n (xB T.b_len (zX (zB 0) qM))) (PV.n zF)) (vT (pv_eq hr (PV.n (qL (zB 0) (PV.w zF))) (PV.n qR)) (vU (pv_eq hr (PV.n (qL (zB 0) (PV.w zF))) (PV.n qR))))))))
theorem fok_comes_each {f : Addr} {fd : FuncData} (Fn : Fun K "comes_each" "comes_each" (top 42) f fd) (T : Glb K mg)  : FnOk P w K mg base CX0 1 f fd ["words"] (spF K 1 GP.comes_each.f) :=
 qH (k := 0) (F := GP.comes_each.f) (g := GP.comes_each.g) Fn sc_comes_each (fun cdv A outer s H E hr => body_comes_each T  cdv A outer s H E hr) (fun ds r hl e => zR e)
theorem sc_item_rows : FnScope ["item", "words", "sides", "ends", "value", "numbers", "stretch"] ["item"] (zA (top 41)) := ⟨rfl, rfl, rfl, by decide +kernel, rfl, by decide +kernel, by decide +kernel⟩
theorem body_item_rows {f : Addr} (T : Glb K mg) (C_read_ends : Cal P w K mg base "read_ends" 4 1 GP.read_ends.f) (C_read_number : Cal P w K mg base "read_number" 2 1 GP.read_number.f) (C_span : Cal P w K mg base "span" 2 2 GP.span2.f) (C_rule_rows : Cal P w K mg base "rule_rows" 3 1 GP.rule_rows.f) (C_length : Cal P w K mg base "length" 1 1 GP.length.f) (C_comes_each : Cal P w K mg base "comes_each" 1 1 GP.comes_each.f) (cdv : Value) (A : Around) (outer : List Env) (s : Shared) (H : Hp) (E : XK) (hr : Room 4 (A.deeper (envOfC "item_rows" (zA (top 41)) s.heap.objs.size f cdv))) :
  PSsv (cxOf CX0 P w K mg base ["item", "words", "sides", "ends", "value", "numbers", "stretch"] "item_rows" (zA (top 41)) f cdv A outer s H E).nox (zH (top 41)) GP.item_rows.g := by
 have nd : (["item", "words", "sides", "ends", "value", "numbers", "stretch"] : List Str).Nodup := sc_item_rows.nd
 have nI0 : (["word"] : List Str).Nodup := by decide +kernel
 exact (zD (qB (i := 1) nd (PVf.s (xQ (zB 0) (PV.w qR))))
  (zD (qB (i := 2) nd (PVf.s (xQ (PV.w (qL (zB 1) (PV.w zF))) (PV.w qR))))
  (zD (zY (PWv.t (xE (pt_ne hr (PV.n (xB T.b_len (zX (zB 2) qM))) (PV.n zF)) (xA (jH (PWv.t (xE (xY hr (PV.n (xB T.b_len (zX (zB 1) qM))) (PV.n zF)) (xA (PVn.t (PV.n (zV C_comes_each hr (zI (PVw.n (zB 1)) zS))))))))))) (zE jC) zM)
  (zD (qB (i := 3) nd (zV C_read_ends hr (zI (PV.n (qL (zB 2) (PV.w zF))) zS)))
  (zD (qB (i := 4) nd (zV C_read_number hr (zI (PV.n (qL (zB 2) (PV.w zF))) zS)))
  (zD (psv_compV (i := 5) nd (NY := ["word"]) (mp := [none]) (jR (by kernel_rfl)) rfl (jQ (PVf.s (pvf_step (zB 1) (wJ (PV.w zF)) vP))) (fun c => (zN (i := 0) nI0)) (fun c => xL) (fun c => (zV C_read_number hr (zI (PVw.n (zB 0)) zS))))
  (zD (qB (i := 6) nd (zV C_span hr (zI (PV.n (qL (zB 3) (PV.w zF))) (zI (PV.n (qL (zB 3) (PV.w zF))) zS))))
  (zD (zY (jH (PVn.t (PVw.n (zB 5)))) (zE (yY (jI (zJ (jM (zJ (zZ 6) (zJ (zZ 4) qE))) qE)))) zM)
  (zD (zY (wM (PV.n (zV C_length hr (zI (PVw.n (zB 6)) zS))) (PV.n qP)) (zE jC) zM)
  (zE (yY (jW C_rule_rows hr (zI (PV.n (jM (zJ (qL (zB 6) (PV.w zF)) (zJ (qL (zB 6) (PV.w zF)) (zJ (qL (zB 5) (PV.w zF)) (zJ (qL (zB 5) (PV.w zF)) (zJ (zZ 4) qE))))))) zS)))))))))))))
theorem fok_item_rows {f : Addr} {fd : FuncData} (Fn : Fun K "item_rows" "item_rows" (top 41) f fd) (T : Glb K mg) (C_read_ends : Cal P w K mg base "read_ends" 4 1 GP.read_ends.f) (C_read_number : Cal P w K mg base "read_number" 2 1 GP.read_number.f) (C_span : Cal P w K mg base "span" 2 2 GP.span2.f) (C_rule_rows : Cal P w K mg base "rule_rows" 3 1 GP.rule_rows.f) (C_length : Cal P w K mg base "length" 1 1 GP.length.f) (C_comes_each : Cal P w K mg base "comes_each" 1 1 GP.comes_each.f) : FnOk P w K mg base CX0 5 f fd ["item"] (spF K 1 GP.item_rows.f) :=
 qH (k := 4) (F := GP.item_rows.f) (g := GP.item_rows.g) Fn sc_item_rows (fun cdv A outer s H E hr => body_item_rows T C_read_ends C_read_number C_span C_rule_rows C_length C_comes_each cdv A outer s H E hr) (fun ds r hl e => zR e)
theorem sc_read_map : FnScope ["text", "rows", "item"] ["text"] (zA (top 34)) := ⟨rfl, rfl, rfl, by decide +kernel, rfl, by decide +kernel, by decide +kernel⟩
theorem body_read_map {f : Addr} (T : Glb K mg) (C_laid_rows : Cal P w K mg base "laid_rows" 6 1 GP.laid_rows.f) (C_item_rows : Cal P w K mg base "item_rows" 5 1 GP.item_rows.f) (cdv : Value) (A : Around) (outer : List Env) (s : Shared) (H : Hp) (E : XK) (hr : Room 6 (A.deeper (envOfC "read_map" (zA (top 34)) s.heap.objs.size f cdv))) :
  PSsv (cxOf CX0 P w K mg base ["text", "rows", "item"] "read_map" (zA (top 34)) f cdv A outer s H E).nox (zH (top 34)) GP.read_map.g := by
 have nd : (["text", "rows", "item"] : List Str).Nodup := sc_read_map.nd
 exact (zD (zY (jH (PVn.t (PV.n (wH T.b_isinstance T.b_str (by decide +kernel) (zB 0))))) (zE jC) zM)
  (zD (zY (xY hr (PVw.n (zB 0)) (PV.n qR)) (zE (yY (jI qE))) zM)
  (zD (jN (i := 1) nd (jI qE))
  (zD (jZ PassesOwn.never rfl (jQ (PVf.s (xQ (zB 0) (PV.w qR)))) (zN (i := 2) nd) (zE (psv_ext (i := 1) (jW C_item_rows hr (zI (PVw.n (zB 2)) zS)))))
  (zE (yY (jW C_laid_rows hr (zI (PVw.n (zB 1)) zS))))))))
theorem fok_read_map {f : Addr} {fd : FuncData} (Fn : Fun K "read_map" "read_map" (top 34) f fd) (T : Glb K mg) (C_laid_rows : Cal P w K mg base "laid_rows" 6 1 GP.laid_rows.f) (C_item_rows : Cal P w K mg base "item_rows" 5 1 GP.item_rows.f) : FnOk P w K mg base CX0 7 f fd ["text"] (spF K 1 GP.read_map.f) :=
 qH (k := 6) (F := GP.read_map.f) (g := GP.read_map.g) Fn sc_read_map (fun cdv A outer s H E hr => body_read_map T C_laid_rows C_item_rows cdv A outer s H E hr) (fun ds r hl e => zR e)
theorem sc_show_span : FnScope ["one", "low", "behind"] ["one"] (zA (top 35)) := ⟨rfl, rfl, rfl, by decide +kernel, rfl, by decide +kernel, by decide +kernel⟩
theorem body_show_span {f : Addr} (T : Glb K mg)  (cdv : Value) (A : Around) (outer : List Env) (s : Shared) (H : Hp) (E : XK) (hr : Room 0 (A.deeper (envOfC "show_span" (zA (top 35)) s.heap.objs.size f cdv))) :
  PSsv (cxOf CX0 P w K mg base ["one", "low", "behind"] "show_span" (zA (top 35)) f cdv A outer s H E).nox (zH (top 35)) GP.show_span.g := by
 have nd : (["one", "low", "behind"] : List Str).Nodup := sc_show_span.nd
 exact (zD (qB (i := 1) nd (pv_if (wM (PV.n (qL (zB 0) (PV.w zF))) (PV.n qP)) qR (qA (PV.w qR) (PV.w (yR T.b_str (zX (PV.w (qL (zB 0) (PV.w zF))) qM))))))
  (zD (qB (i := 2) nd (pv_if (wM (PV.n (qL (zB 0) (PV.w zF))) (PV.n qP)) qR (qA (PV.w (yR T.b_str (zX (PV.w (qL (zB 0) (PV.w zF))) qM))) (PV.w qR))))
  (zE (zQ (PV.w (qA (PV.w (qA (zB 1) (PV.w qR))) (zB 2)))))))
theorem fok_show_span {f : Addr} {fd : FuncData} (Fn : Fun K "show_span" "show_span" (top 35) f fd) (T : Glb K mg)  : FnOk P w K mg base CX0 1 f fd ["one"] (spF K 1 GP.show_span.f) :=
 qH (k := 0) (F := GP.show_span.f) (g := GP.show_span.g) Fn sc_show_span (fun cdv A outer s H E hr => body_show_span T  cdv A outer s H E hr) (fun ds r hl e => zR e)
theorem sc_show_piece : FnScope ["low", "behind", "value"] ["low", "behind", "value"] (zA (top 43)) := ⟨rfl, rfl, rfl, by decide +kernel, rfl, by decide +kernel, by decide +kernel⟩
theorem body_show_piece {f : Addr} (T : Glb K mg) (C_show_span : Cal P w K mg base "show_span" 1 1 GP.show_span.f) (cdv : Value) (A : Around) (outer : List Env) (s : Shared) (H : Hp) (E : XK) (hr : Room 1 (A.deeper (envOfC "show_piece" (zA (top 43)) s.heap.objs.size f cdv))) :
  PSsv (cxOf CX0 P w K mg base ["low", "behind", "value"] "show_piece" (zA (top 43)) f cdv A outer s H E).nox (zH (top 43)) GP.show_piece.g := by
 have nd : (["low", "behind", "value"] : List Str).Nodup := sc_show_piece.nd
 exact (zE (zQ (PV.w (qA (PV.w (qA (PV.w (zV C_show_span hr (zI (PV.n (jM (zJ (zZ 0) (zJ (zZ 1) qE)))) zS))) (PV.w qR))) (PV.w (yR T.b_str (zX (zB 2) qM)))))))
theorem fok_show_piece {f : Addr} {fd : FuncData} (Fn : Fun K "show_piece" "show_piece" (top 43) f fd) (T : Glb K mg) (C_show_span : Cal P w K mg base "show_span" 1 1 GP.show_span.f) : FnOk P w K mg base CX0 2 f fd ["low", "behind", "value"] (spF K 3 GP.show_piece.f) :=
 qH (k := 1) (F := GP.show_piece.f) (g := GP.show_piece.g) Fn sc_show_piece (fun cdv A outer s H E hr => body_show_piece T C_show_span cdv A outer s H E hr) (fun ds r hl e => zR e)
theorem sc_show_map : FnScope ["pieces"] ["pieces"] (zA (top 36)) := ⟨rfl, rfl, rfl, by decide +kernel, rfl, by decide +kernel, by decide +kernel⟩
theorem body_show_map {f : Addr} (T : Glb K mg) (C_show_piece : Cal P w K mg base "show_piece" 2 3 GP.show_piece.f) (cdv : Value) (A : Around) (outer : List Env) (s : Shared) (H : Hp) (E : XK) (hr : Room 2 (A.deeper (envOfC "show_map" (zA (top 36)) s.heap.objs.size f cdv))) :
  PSsv (cxOf CX0 P w K mg base ["pieces"] "show_map" (zA (top 36)) f cdv A outer s H E).nox (zH (top 36)) GP.show_map.g := by
 have nd : (["pieces"] : List Str).Nodup := sc_show_map.nd
 have nI0 : (["low", "behind", "value"] : List Str).Nodup := by decide +kernel
 exact (zE (zQ (PV.w (kI (PV.w qR) (PV.w (PVf.s (xI (NY := ["low", "behind", "value"]) (mp := [none, none, none]) (jR (by kernel_rfl)) rfl (jQ (zZ 0)) (fun c => (yM (n := 3) rfl (zO (zN (i := 0) nI0) (zO (zN (i := 1) nI0) (zO (zN (i := 2) nI0) jF))))) (fun c => xL) (fun c => (zV C_show_piece hr (zI (PVw.n (zB 0)) (zI (PVw.n (zB 1)) (zI (PVw.n (zB 2)) zS))))))))))))
theorem fok_show_map {f : Addr} {fd : FuncData} (Fn : Fun K "show_map" "show_map" (top 36) f fd) (T : Glb K mg) (C_show_piece : Cal P w K mg base "show_piece" 2 3 GP.show_piece.f) : FnOk P w K mg base CX0 3 f fd ["pieces"] (spF K 1 GP.show_map.f) :=
 qH (k := 2) (F := GP.show_map.f) (g := GP.show_map.g) Fn sc_show_map (fun cdv A outer s H E hr => body_show_map T C_show_piece cdv A outer s H E hr) (fun ds r hl e => zR e)
theorem sc__law_cell_at : FnScope ["_law_script", "_law_k"] ["_law_script", "_law_k"] (zA (top 45)) := ⟨rfl, rfl, rfl, by decide +kernel, rfl, by decide +kernel, by decide +kernel⟩
theorem body__law_cell_at {f : Addr} (T : Glb K mg)  (cdv : Value) (A : Around) (outer : List Env) (s : Shared) (H : Hp) (E : XK) (hr : Room 0 (A.deeper (envOfC "_law_cell_at" (zA (top 45)) s.heap.objs.size f cdv))) :
  PSsv (cxOf CX0 P w K mg base ["_law_script", "_law_k"] "_law_cell_at" (zA (top 45)) f cdv A outer s H E).nox (zH (top 45)) GL.cell_at.g := by
 have nd : (["_law_script", "_law_k"] : List Str).Nodup := sc__law_cell_at.nd
 exact (zD (zY (pt_lt (zB 1) (PV.w (xB T.b_len (zX (zB 0) qM)))) (zE (zQ (PV.w (qL (zB 0) (zB 1))))) zM)
  (zE (zQ (PV.w zF))))
theorem fok__law_cell_at {f : Addr} {fd : FuncData} (Fn : Fun K "_law_cell_at" "_law_cell_at" (top 45) f fd) (T : Glb K mg)  : FnOk P w K mg base CX0 1 f fd ["_law_script", "_law_k"] (spF K 2 GL.cell_at.f) :=
 qH (k := 0) (F := GL.cell_at.f) (g := GL.cell_at.g) Fn sc__law_cell_at (fun cdv A outer s H E hr => body__law_cell_at T  cdv A outer s H E hr) (fun ds r hl e => zR e)
theorem sc__law_number : FnScope ["_law_cell"] ["_law_cell"] (zA (top 46)) := ⟨rfl, rfl, rfl, by decide +kernel, rfl, by decide +kernel, by decide +kernel⟩
theorem body__law_number {f : Addr} (T : Glb K mg)  (cdv : Value) (A : Around) (outer : List Env) (s : Shared) (H : Hp) (E : XK) (hr : Room 0 (A.deeper (envOfC "_law_number" (zA (top 46)) s.heap.objs.size f cdv))) :
  PSsv (cxOf CX0 P w K mg base ["_law_cell"] "_law_number" (zA (top 46)) f cdv A outer s H E).nox (zH (top 46)) GL.number.g := by
 have nd : (["_law_cell"] : List Str).Nodup := sc__law_number.nd
 exact (zD (zY (xY hr (PV.n (jA (zB 0) (PV.w zF))) (PV.n zF)) (zE (zQ (PV.w (jJ (PV.w (jA (PV.w (yN (PV.w (yB (zB 0) (PV.w zF))) (PV.w (qA (PV.w (yC (PV.w zF) (PV.w zF))) (PV.w zF))))) (PV.w (qA (PV.w (yN (PV.w zF) (PV.w (yC (PV.w zF) (PV.w zF))))) (PV.w zF))))) (PV.w (yC (PV.w zF) (PV.w zF))))))) zM)
  (zE (zQ (PV.w (jJ (PV.w (jA (PV.w (yB (zB 0) (PV.w zF))) (PV.w zF))) (PV.w zF))))))
theorem fok__law_number {f : Addr} {fd : FuncData} (Fn : Fun K "_law_number" "_law_number" (top 46) f fd) (T : Glb K mg)  : FnOk P w K mg base CX0 1 f fd ["_law_cell"] (spF K 1 GL.number.f) :=
 qH (k := 0) (F := GL.number.f) (g := GL.number.g) Fn sc__law_number (fun cdv A outer s H E hr => body__law_number T  cdv A outer s H E hr) (fun ds r hl e => zR e)
theorem sc__law_item : FnScope ["_law_base", "_law_cells", "_law_one", "_law_two", "_law_three", "_law_four", "_law_low", "_law_size", "_law_value_here", "_law_step", "_law_behind"] ["_law_base", "_law_cells"] (zA (top 47)) := ⟨rfl, rfl, rfl, by decide +kernel, rfl, by decide +kernel, by decide +kernel⟩
theorem body__law_item {f : Addr} (T : Glb K mg)  (cdv : Value) (A : Around) (outer : List Env) (s : Shared) (H : Hp) (E : XK) (hr : Room 0 (A.deeper (envOfC "_law_item" (zA (top 47)) s.heap.objs.size f cdv))) :
  PSsv (cxOf CX0 P w K mg base ["_law_base", "_law_cells", "_law_one", "_law_two", "_law_three", "_law_four", "_law_low", "_law_size", "_law_value_here", "_law_step", "_law_behind"] "_law_item" (zA (top 47)) f cdv A outer s H E).nox (zH (top 47)) K92.L_item.g := by
 have nd : (["_law_base", "_law_cells", "_law_one", "_law_two", "_law_three", "_law_four", "_law_low", "_law_size", "_law_value_here", "_law_step", "_law_behind"] : List Str).Nodup := sc__law_item.nd
 exact (zD (vZ (zZ 1) (pgv_lst (n := 4) rfl (zO (zN (i := 2) nd) (zO (zN (i := 3) nd) (zO (zN (i := 4) nd) (zO (zN (i := 5) nd) jF))))))
  (zD (qB (i := 6) nd (jJ (PV.w (qA (zB 0) (PV.w (jA (zB 2) (PV.w zF))))) (PV.w zF)))
  (zD (qB (i := 7) nd (qA (PV.w zF) (PV.w (jA (PV.w (yB (zB 2) (PV.w zF))) (PV.w zF)))))
  (zD (qB (i := 8) nd (qL (PV.w (PVf.s (jI (zJ zF (zJ (xV zF) (zJ (jJ (PV.w (jA (PV.w (yN (PV.w (yB (zB 4) (PV.w zF))) (PV.w (qA (PV.w (yC (PV.w zF) (PV.w zF))) (PV.w zF))))) (PV.w (qA (PV.w (yN (PV.w zF) (PV.w (yC (PV.w zF) (PV.w zF))))) (PV.w zF))))) (PV.w (yC (PV.w zF) (PV.w zF)))) qE)))))) (PV.w (jA (zB 4) (PV.w zF)))))
  (zD (zY (xY hr (PV.n (jA (zB 3) (PV.w zF))) (PV.n zF)) (zD (qB (i := 9) nd (qA (PV.w (qA (zB 7) (PV.w zF))) (PV.w (jA (PV.w (yB (zB 3) (PV.w zF))) (PV.w zF)))))
  (zD (zY (xY hr (PV.n (jA (PV.w (yB (zB 3) (PV.w zF))) (PV.w zF))) (PV.n zF)) (zE (qB (i := 9) nd (qA (PV.w (qA (zB 7) (PV.w zF))) (PV.w (jA (PV.w (yN (PV.w (yB (zB 3) (PV.w zF))) (PV.w (qA (PV.w (yC (PV.w zF) (PV.w zF))) (PV.w zF))))) (PV.w (yC (PV.w zF) (PV.w zF)))))))) zM)
  (zE (zQ (PV.w (jM (zJ (zZ 6) (zJ (qA (zB 6) (zB 7)) (zJ (zZ 9) (zJ (qA (PV.w zF) (PV.w (jA (zB 5) (PV.w zF)))) (zJ (zZ 8) qE))))))))))) zM)
  (zD (qB (i := 10) nd (qA (zB 6) (zB 7)))
  (zD (zY (xY hr (PV.n (jA (PV.w (yB (zB 3) (PV.w zF))) (PV.w zF))) (PV.n zF)) (zE (qB (i := 10) nd (qA (PV.w (qA (zB 6) (PV.w zF))) (PV.w (jA (PV.w (yN (PV.w (yB (zB 3) (PV.w zF))) (PV.w (qA (PV.w (yC (PV.w zF) (PV.w zF))) (PV.w zF))))) (PV.w (yC (PV.w zF) (PV.w zF)))))))) zM)
  (zD (zY (ptv_chain op_le yQ op_le yQ (PV.w zF) (PV.w (jA (zB 5) (PV.w zF))) (PV.w zF)) (zE (qB (i := 6) nd qP)) zM)
  (zD (zY (ptv_chain op_le yQ op_le yQ (PV.w zF) (PV.w (jA (zB 5) (PV.w zF))) (PV.w zF)) (zE (qB (i := 10) nd qP)) zM)
  (zE (zQ (PV.w (jM (zJ (zZ 6) (zJ (zZ 10) (zJ zF (zJ zF (zJ (zZ 8) qE))))))))))))))))))
theorem fok__law_item {f : Addr} {fd : FuncData} (Fn : Fun K "_law_item" "_law_item" (top 47) f fd) (T : Glb K mg)  : FnOk P w K mg base CX0 1 f fd ["_law_base", "_law_cells"] (spF K 2 K92.L_item.f) :=
 qH (k := 0) (F := K92.L_item.f) (g := K92.L_item.g) Fn sc__law_item (fun cdv A outer s H E hr => body__law_item T  cdv A outer s H E hr) (fun ds r hl e => zR e)
theorem sc__law_text : FnScope ["_law_item_here", "_law_cell", "_law_low", "_law_behind", "_law_step", "_law_times", "_law_value_here", "_law_left", "_law_right", "_law_text_here"] ["_law_item_here", "_law_cell"] (zA (top 48)) := ⟨rfl, rfl, rfl, by decide +kernel, rfl, by decide +kernel, by decide +kernel⟩
theorem body__law_text {f : Addr} (T : Glb K mg)  (cdv : Value) (A : Around) (outer : List Env) (s : Shared) (H : Hp) (E : XK) (hr : Room 0 (A.deeper (envOfC "_law_text" (zA (top 48)) s.heap.objs.size f cdv))) :
  PSsv (cxOf CX0 P w K mg base ["_law_item_here", "_law_cell", "_law_low", "_law_behind", "_law_step", "_law_times", "_law_value_here", "_law_left", "_law_right", "_law_text_here"] "_law_text" (zA (top 48)) f cdv A outer s H E).nox (zH (top 48)) K92.L_text.g := by
 have nd : (["_law_item_here", "_law_cell", "_law_low", "_law_behind", "_law_step", "_law_times", "_law_value_here", "_law_left", "_law_right", "_law_text_here"] : List Str).Nodup := sc__law_text.nd
 exact (zD (vZ (zZ 0) (yM (n := 5) rfl (zO (zN (i := 2) nd) (zO (zN (i := 3) nd) (zO (zN (i := 4) nd) (zO (zN (i := 5) nd) (zO (zN (i := 6) nd) jF)))))))
  (zD (qB (i := 7) nd qR)
  (zD (zY (jO (PVw.n (zB 2)) (PV.n qP)) (zE (qB (i := 7) nd (qL (PV.w (PVf.s (jI (zJ (qA (PV.w qR) (PV.w (yR T.b_str (zX (zB 2) qM)))) (zJ (qA (PV.w qR) (PV.w (yR T.b_str (zX (PV.w (jJ (zB 2) (PV.w zF))) qM)))) qE))))) (PV.w (jA (zB 1) (PV.w zF)))))) zM)
  (zD (qB (i := 8) nd qR)
  (zD (zY (jO (PVw.n (zB 3)) (PV.n qP)) (zE (qB (i := 8) nd (qL (PV.w (PVf.s (jI (zJ (qA (PV.w (yR T.b_str (zX (zB 3) qM))) (PV.w qR)) (zJ (qA (PV.w (yR T.b_str (zX (PV.w (jJ (zB 3) (PV.w zF))) qM))) (PV.w qR)) qE))))) (PV.w (jA (PV.w (yB (zB 1) (PV.w zF))) (PV.w zF)))))) zM)
  (zD (qB (i := 9) nd (qA (PV.w (qA (PV.w (qA (PV.w (qA (zB 7) (PV.w qR))) (zB 8))) (PV.w qR))) (PV.w (yR T.b_str (zX (zB 6) qM)))))
  (zD (zY (kM (zB 5) (PV.w zF)) (zE (qB (i := 9) nd (qA (PV.w (qA (PV.w (qA (PV.w (qA (zB 9) (PV.w qR))) (PV.w (yR T.b_str (zX (zB 4) qM))))) (PV.w qR))) (PV.w (yR T.b_str (zX (zB 5) qM)))))) zM)
  (zE (zQ (zB 9))))))))))
theorem fok__law_text {f : Addr} {fd : FuncData} (Fn : Fun K "_law_text" "_law_text" (top 48) f fd) (T : Glb K mg)  : FnOk P w K mg base CX0 1 f fd ["_law_item_here", "_law_cell"] (spF K 2 K92.L_text.f) :=
 qH (k := 0) (F := K92.L_text.f) (g := K92.L_text.g) Fn sc__law_text (fun cdv A outer s H E hr => body__law_text T  cdv A outer s H E hr) (fun ds r hl e => zR e)
theorem sc__law_has : FnScope ["_law_item_here", "_law_place", "_law_low", "_law_behind", "_law_step", "_law_times", "_law_value_here", "_law_turn"] ["_law_item_here", "_law_place"] (zA (top 49)) := ⟨rfl, rfl, rfl, by decide +kernel, rfl, by decide +kernel, by decide +kernel⟩
theorem body__law_has {f : Addr} (T : Glb K mg)  (cdv : Value) (A : Around) (outer : List Env) (s : Shared) (H : Hp) (E : XK) (hr : Room 0 (A.deeper (envOfC "_law_has" (zA (top 49)) s.heap.objs.size f cdv))) :
  PSsv (cxOf CX0 P w K mg base ["_law_item_here", "_law_place", "_law_low", "_law_behind", "_law_step", "_law_times", "_law_value_here", "_law_turn"] "_law_has" (zA (top 49)) f cdv A outer s H E).nox (zH (top 49)) K92.L_has.g := by
 have nd : (["_law_item_here", "_law_place", "_law_low", "_law_behind", "_law_step", "_law_times", "_law_value_here", "_law_turn"] : List Str).Nodup := sc__law_has.nd
 exact (zD (vZ (zZ 0) (yM (n := 5) rfl (zO (zN (i := 2) nd) (zO (zN (i := 3) nd) (zO (zN (i := 4) nd) (zO (zN (i := 5) nd) (zO (zN (i := 6) nd) jF)))))))
  (zD (zY (PWv.t (yK (kM (zB 5) (PV.w zF)) (yG (pt_ge (zB 1) (zB 2))))) (zD (qB (i := 7) nd (pv_min2 rfl T.b_min (zX (PV.w (yB (PV.w (jJ (zB 1) (zB 2))) (zB 4))) (zX (PV.w (jJ (zB 5) (PV.w zF))) qM))))
  (zE (zQ (PV.w (pv_lt (PV.w (jJ (zB 1) (PV.w (yN (zB 7) (zB 4))))) (zB 3)))))) zM)
  (zD (zY (PWv.t (yK (jO (PVw.n (zB 2)) (PV.n qP)) (yG (pt_lt (zB 1) (zB 2))))) (zE (zQ (PV.w xD))) zM)
  (zE (zQ (PV.w (pv_or (pv_is (PVw.n (zB 3)) (PV.n qP)) (vU (pv_lt (zB 1) (zB 3))))))))))
theorem fok__law_has {f : Addr} {fd : FuncData} (Fn : Fun K "_law_has" "_law_has" (top 49) f fd) (T : Glb K mg)  : FnOk P w K mg base CX0 1 f fd ["_law_item_here", "_law_place"] (spF K 2 K92.L_has.f) :=
 qH (k := 0) (F := K92.L_has.f) (g := K92.L_has.g) Fn sc__law_has (fun cdv A outer s H E hr => body__law_has T  cdv A outer s H E hr) (fun ds r hl e => zR e)
theorem sc__law_due : FnScope ["_law_items", "_law_place", "_law_item_here"] ["_law_items", "_law_place"] (zA (top 50)) := ⟨rfl, rfl, rfl, by decide +kernel, rfl, by decide +kernel, by decide +kernel⟩
theorem body__law_due {f : Addr} (T : Glb K mg) (C__law_has : Cal P w K mg base "_law_has" 1 2 K92.L_has.f) (cdv : Value) (A : Around) (outer : List Env) (s : Shared) (H : Hp) (E : XK) (hr : Room 1 (A.deeper (envOfC "_law_due" (zA (top 50)) s.heap.objs.size f cdv))) :
  PSsv (cxOf CX0 P w K mg base ["_law_items", "_law_place", "_law_item_here"] "_law_due" (zA (top 50)) f cdv A outer s H E).nox (zH (top 50)) K92.L_due.g := by
 have nd : (["_law_items", "_law_place", "_law_item_here"] : List Str).Nodup := sc__law_due.nd
 exact (zD (jZ PassesOwn.never rfl (piv_rev trivial T.b_reversed (zZ 0)) (zN (i := 2) nd) (zE (zY (PVn.t (PV.n (zV C__law_has hr (zI (PVw.n (zB 2)) (zI (PVw.n (zB 1)) zS))))) (zE (zQ (PV.w (qL (zB 2) (PV.w zF))))) zM)))
  (zE (zQ (PV.w qP))))
theorem fok__law_due {f : Addr} {fd : FuncData} (Fn : Fun K "_law_due" "_law_due" (top 50) f fd) (T : Glb K mg) (C__law_has : Cal P w K mg base "_law_has" 1 2 K92.L_has.f) : FnOk P w K mg base CX0 2 f fd ["_law_items", "_law_place"] (spF K 2 K92.L_due.f) :=
 qH (k := 1) (F := K92.L_due.f) (g := K92.L_due.g) Fn sc__law_due (fun cdv A outer s H E hr => body__law_due T C__law_has cdv A outer s H E hr) (fun ds r hl e => zR e)
theorem sc__law_whole : FnScope ["_law_found"] ["_law_found"] (zA (top 51)) := ⟨rfl, rfl, rfl, by decide +kernel, rfl, by decide +kernel, by decide +kernel⟩
theorem body__law_whole {f : Addr} (T : Glb K mg)  (cdv : Value) (A : Around) (outer : List Env) (s : Shared) (H : Hp) (E : XK) (hr : Room 0 (A.deeper (envOfC "_law_whole" (zA (top 51)) s.heap.objs.size f cdv))) :
  PSsv (cxOf CX0 P w K mg base ["_law_found"] "_law_whole" (zA (top 51)) f cdv A outer s H E).nox (zH (top 51)) GL.whole.g := by
 have nd : (["_law_found"] : List Str).Nodup := sc__law_whole.nd
 exact (zE (zQ (PV.w (vT (wH T.b_isinstance T.b_int (by decide +kernel) (zB 0)) (vU (pv_not (wH T.b_isinstance T.b_bool (by decide +kernel) (zB 0))))))))
theorem fok__law_whole {f : Addr} {fd : FuncData} (Fn : Fun K "_law_whole" "_law_whole" (top 51) f fd) (T : Glb K mg)  : FnOk P w K mg base CX0 1 f fd ["_law_found"] (spF K 1 GL.whole.f) :=
 qH (k := 0) (F := GL.whole.f) (g := GL.whole.g) Fn sc__law_whole (fun cdv A outer s H E hr => body__law_whole T  cdv A outer s H E hr) (fun ds r hl e => zR e)
theorem sc__law_is_map : FnScope ["_law_found", "_law_k", "_law_low", "_law_behind", "_law_value_here", "_law_ahead"] ["_law_found"] (zA (top 52)) := ⟨rfl, rfl, rfl, by decide +kernel, rfl, by decide +kernel, by decide +kernel⟩
theorem body__law_is_map {f : Addr} (T : Glb K mg) (C__law_whole : Cal P w K mg base "_law_whole" 1 1 GL.whole.f) (cdv : Value) (A : Around) (outer : List Env) (s : Shared) (H : Hp) (E : XK) (hr : Room 1 (A.deeper (envOfC "_law_is_map" (zA (top 52)) s.heap.objs.size f cdv))) :
  PSsv (cxOf CX0 P w K mg base ["_law_found", "_law_k", "_law_low", "_law_behind", "_law_value_here", "_law_ahead"] "_law_is_map" (zA (top 52)) f cdv A outer s H E).nox (zH (top 52)) GL.is_map4.g := by
 have nd : (["_law_found", "_law_k", "_law_low", "_law_behind", "_law_value_here", "_law_ahead"] : List Str).Nodup := sc__law_is_map.nd
 exact (zD (zY (jH (PVn.t (PV.n (wH T.b_isinstance T.b_list (by decide +kernel) (zB 0))))) (zE (zQ (PV.w xD))) zM)
  (zD (jZ PassesOwn.never rfl (wE T.b_range (xB T.b_len (zX (zB 0) qM))) (zN (i := 1) nd) (zD (zY (PWv.t (xE (jH (PVn.t (PV.n (wH T.b_isinstance T.b_tuple (by decide +kernel) (PV.w (qL (zB 0) (zB 1))))))) (xA (pt_ne hr (PV.n (xB T.b_len (zX (PV.w (qL (zB 0) (zB 1))) qM))) (PV.n zF))))) (zE (zQ (PV.w xD))) zM)
  (zD (vZ (qL (zB 0) (zB 1)) (yM (n := 3) rfl (zO (zN (i := 2) nd) (zO (zN (i := 3) nd) (zO (zN (i := 4) nd) jF)))))
  (zD (zY (PWv.t (xE (jH (PVn.t (PV.n (zV C__law_whole hr (zI (PVw.n (zB 4)) zS))))) (xA (PWv.t (yK (wM (PVw.n (zB 2)) (PV.n qP)) (yG (kM (zB 1) (PV.w zF)))))))) (zE (zQ (PV.w xD))) zM)
  (zD (zY (PWv.t (yK (wM (PVw.n (zB 3)) (PV.n qP)) (yG (pt_lt (zB 1) (PV.w (jJ (PV.w (xB T.b_len (zX (zB 0) qM))) (PV.w zF))))))) (zE (zQ (PV.w xD))) zM)
  (zD (zY (PWv.t (yK (jO (PVw.n (zB 2)) (PV.n qP)) (yG (jH (PVn.t (PV.n (zV C__law_whole hr (zI (PVw.n (zB 2)) zS)))))))) (zE (zQ (PV.w xD))) zM)
  (zD (zY (PWv.t (yK (jO (PVw.n (zB 3)) (PV.n qP)) (yG (jH (PVn.t (PV.n (zV C__law_whole hr (zI (PVw.n (zB 3)) zS)))))))) (zE (zQ (PV.w xD))) zM)
  (zD (zY (PWv.t (yK (jO (PVw.n (zB 2)) (PV.n qP)) (yK (jO (PVw.n (zB 3)) (PV.n qP)) (yG (pt_ge (zB 2) (zB 3)))))) (zE (zQ (PV.w xD))) zM)
  (zE (zY (kM (zB 1) (PV.w zF)) (zD (qB (i := 5) nd (qL (zB 0) (PV.w (jJ (zB 1) (PV.w zF)))))
  (zE (zY (PWv.t (xE (kM (PV.w (qL (zB 5) (PV.w zF))) (zB 2)) (xA (PWv.t (yK (xY hr (PV.n (qL (zB 5) (PV.w zF))) (PVw.n (zB 2))) (yG (xY hr (PV.n (qL (zB 5) (PV.w zF))) (PVw.n (zB 4))))))))) (zE (zQ (PV.w xD))) zM))) zM))))))))))
  (zE (zQ (PV.w xD)))))
theorem fok__law_is_map {f : Addr} {fd : FuncData} (Fn : Fun K "_law_is_map" "_law_is_map" (top 52) f fd) (T : Glb K mg) (C__law_whole : Cal P w K mg base "_law_whole" 1 1 GL.whole.f) : FnOk P w K mg base CX0 2 f fd ["_law_found"] (spF K 1 GL.is_map4.f) :=
 qH (k := 1) (F := GL.is_map4.f) (g := GL.is_map4.g) Fn sc__law_is_map (fun cdv A outer s H E hr => body__law_is_map T C__law_whole cdv A outer s H E hr) (fun ds r hl e => zR e)
theorem sc__law_value : FnScope ["_law_pieces", "_law_place", "_law_low", "_law_behind", "_law_value_here"] ["_law_pieces", "_law_place"] (zA (top 53)) := ⟨rfl, rfl, rfl, by decide +kernel, rfl, by decide +kernel, by decide +kernel⟩
theorem body__law_value {f : Addr} (T : Glb K mg) (C__law_has : Cal P w K mg base "_law_has" 1 2 K92.L_has.f) (cdv : Value) (A : Around) (outer : List Env) (s : Shared) (H : Hp) (E : XK) (hr : Room 1 (A.deeper (envOfC "_law_value" (zA (top 53)) s.heap.objs.size f cdv))) :
  PSsv (cxOf CX0 P w K mg base ["_law_pieces", "_law_place", "_law_low", "_law_behind", "_law_value_here"] "_law_value" (zA (top 53)) f cdv A outer s H E).nox (zH (top 53)) K92.L_value.g := by
 have nd : (["_law_pieces", "_law_place", "_law_low", "_law_behind", "_law_value_here"] : List Str).Nodup := sc__law_value.nd
 exact (zD (jZ PassesOwn.never rfl (jQ (zZ 0)) (yM (n := 3) rfl (zO (zN (i := 2) nd) (zO (zN (i := 3) nd) (zO (zN (i := 4) nd) jF)))) (zE (zY (PVn.t (PV.n (zV C__law_has hr (zI (PV.n (jM (zJ (zZ 2) (zJ (zZ 3) (zJ zF (zJ zF (zJ (zZ 4) qE))))))) (zI (PVw.n (zB 1)) zS))))) (zE (zQ (zB 4))) zM)))
  (zE (zQ (PV.w qP))))
theorem fok__law_value {f : Addr} {fd : FuncData} (Fn : Fun K "_law_value" "_law_value" (top 53) f fd) (T : Glb K mg) (C__law_has : Cal P w K mg base "_law_has" 1 2 K92.L_has.f) : FnOk P w K mg base CX0 2 f fd ["_law_pieces", "_law_place"] (spF K 2 K92.L_value.f) :=
 qH (k := 1) (F := K92.L_value.f) (g := K92.L_value.g) Fn sc__law_value (fun cdv A outer s H E hr => body__law_value T C__law_has cdv A outer s H E hr) (fun ds r hl e => zR e)
theorem sc__law_places : FnScope ["_law_items", "_law_pieces", "_law_found", "_law_low", "_law_behind", "_law_step", "_law_times", "_law_value_here", "_law_end", "_law_k"] ["_law_items", "_law_pieces"] (zA (top 54)) := ⟨rfl, rfl, rfl, by decide +kernel, rfl, by decide +kernel, by decide +kernel⟩
theorem body__law_places {f : Addr} (T : Glb K mg)  (cdv : Value) (A : Around) (outer : List Env) (s : Shared) (H : Hp) (E : XK) (hr : Room 0 (A.deeper (envOfC "_law_places" (zA (top 54)) s.heap.objs.size f cdv))) :
  PSsv (cxOf CX0 P w K mg base ["_law_items", "_law_pieces", "_law_found", "_law_low", "_law_behind", "_law_step", "_law_times", "_law_value_here", "_law_end", "_law_k"] "_law_places" (zA (top 54)) f cdv A outer s H E).nox (zH (top 54)) K92.L_places.g := by
 have nd : (["_law_items", "_law_pieces", "_law_found", "_law_low", "_law_behind", "_law_step", "_law_times", "_law_value_here", "_law_end", "_law_k"] : List Str).Nodup := sc__law_places.nd
 have nI0 : (["_law_low", "_law_behind", "_law_value_here"] : List Str).Nodup := by decide +kernel
 exact (zD (jN (i := 2) nd (jI (zJ (xV (yC (PV.w zF) (PV.w zF))) (zJ (yC (PV.w zF) (PV.w zF)) qE))))
  (zD (jZ PassesOwn.never rfl (jQ (PVf.s (pvf_cat (zB 0) (PV.w (PVf.s (xI (NY := ["_law_low", "_law_behind", "_law_value_here"]) (mp := [none, none, none]) (jR (by kernel_rfl)) rfl (jQ (zZ 1)) (fun c => (yM (n := 3) rfl (zO (zN (i := 0) nI0) (zO (zN (i := 1) nI0) (zO (zN (i := 2) nI0) jF))))) (fun c => xL) (fun c => (jM (zJ (zZ 0) (zJ (zZ 1) (zJ zF (zJ zF (zJ (zZ 2) qE))))))))))))) (yM (n := 5) rfl (zO (zN (i := 3) nd) (zO (zN (i := 4) nd) (zO (zN (i := 5) nd) (zO (zN (i := 6) nd) (zO (zN (i := 7) nd) jF)))))) (zE (jZ PassesOwn.never rfl (jQ (PVf.s (jI (zJ (zZ 3) (zJ (zZ 4) qE))))) (zN (i := 8) nd) (zE (zY (jO (PVw.n (zB 8)) (PV.n qP)) (zE (jZ PassesOwn.never rfl (wE T.b_range (zZ 6)) (zN (i := 9) nd) (zE (jN (i := 2) nd (pvf_cat (zB 2) (PV.w (PVf.s (jI (zJ (jJ (PV.w (qA (zB 8) (PV.w (yN (zB 9) (zB 5))))) (PV.w zF)) (zJ (qA (zB 8) (PV.w (yN (zB 9) (zB 5)))) qE)))))))))) zM)))))
  (zE (xS 2))))
theorem fok__law_places {f : Addr} {fd : FuncData} (Fn : Fun K "_law_places" "_law_places" (top 54) f fd) (T : Glb K mg)  : FnOk P w K mg base CX0 1 f fd ["_law_items", "_law_pieces"] (spF K 2 K92.L_places.f) :=
 qH (k := 0) (F := K92.L_places.f) (g := K92.L_places.g) Fn sc__law_places (fun cdv A outer s H E hr => body__law_places T  cdv A outer s H E hr) (fun ds r hl e => zR e)
theorem sc_law : FnScope ["_law_script", "_law_base", "_law_items", "_law_texts", "_law_k", "_law_found", "_law_place", "_law_again", "_law_due_here", "_law_kept"] ["_law_script"] (zA (top 55)) := ⟨rfl, rfl, rfl, by decide +kernel, rfl, by decide +kernel, by decide +kernel⟩
theorem body_law {f : Addr} (T : Glb K mg) (C__law_number : Cal P w K mg base "_law_number" 1 1 GL.number.f) (C_read_map : Cal P w K mg base "read_map" 7 1 GP.read_map.f) (C__law_places : Cal P w K mg base "_law_places" 1 2 K92.L_places.f) (C_show_map : Cal P w K mg base "show_map" 3 1 GP.show_map.f) (C__law_cell_at : Cal P w K mg base "_law_cell_at" 1 2 GL.cell_at.f) (C__law_is_map : Cal P w K mg base "_law_is_map" 2 1 GL.is_map4.f) (C__law_item : Cal P w K mg base "_law_item" 1 2 K92.L_item.f) (C__law_text : Cal P w K mg base "_law_text" 1 2 K92.L_text.f) (C__law_value : Cal P w K mg base "_law_value" 2 2 K92.L_value.f) (C__law_due : Cal P w K mg base "_law_due" 2 2 K92.L_due.f) (cdv : Value) (A : Around) (outer : List Env) (s : Shared) (H : Hp) (E : XK) (hr : Room 7 (A.deeper (envOfC "law" (zA (top 55)) s.heap.objs.size f cdv))) :
  PSsv (cxOf CX0 P w K mg base ["_law_script", "_law_base", "_law_items", "_law_texts", "_law_k", "_law_found", "_law_place", "_law_again", "_law_due_here", "_law_kept"] "law" (zA (top 55)) f cdv A outer s H E).nox (zH (top 55)) K92.law.g := by
 have nd : (["_law_script", "_law_base", "_law_items", "_law_texts", "_law_k", "_law_found", "_law_place", "_law_again", "_law_due_here", "_law_kept"] : List Str).Nodup := sc_law.nd
 have nI0 : (["_law_low", "_law_behind", "_law_value_here"] : List Str).Nodup := by decide +kernel
 exact (zD (qB (i := 1) nd (zV C__law_number hr (zI (PV.n (zV C__law_cell_at hr (zI (PVw.n (zB 0)) (zI (PV.n zF) zS)))) zS)))
  (zD (jN (i := 2) nd (jI qE))
  (zD (jN (i := 3) nd (jI qE))
  (zD (jZ PassesOwn.never rfl (piv_range3 T.b_range (PV.w zF) (PV.w (pv_min2 rfl T.b_min (zX (PV.w (jJ (PV.w (xB T.b_len (zX (zB 0) qM))) (PV.w zF))) (zX (PV.w zF) qM)))) (PV.w zF)) (zN (i := 4) nd) (zD (vB (i := 2) (zV C__law_item hr (zI (PVw.n (zB 1)) (zI (PV.n (PVf.s (pvf_slice (zB 0) (wJ (zB 4)) (wJ (PV.w (qA (zB 4) (PV.w zF))))))) zS))))
  (zE (vB (i := 3) (zV C__law_text hr (zI (PV.n (qL (zB 2) (PV.w (xV zF)))) (zI (PV.n (yB (PV.w (zV C__law_cell_at hr (zI (PVw.n (zB 0)) (zI (PV.n zF) zS)))) (PV.w (qA (zB 4) (PV.w zF))))) zS)))))))
  (zD (jN (i := 5) nd (jW C_read_map hr (zI (PV.n (kI (PV.w qR) (zB 3))) zS)))
  (zD (zY (jH (PVn.t (PV.n (zV C__law_is_map hr (zI (PVw.n (zB 5)) zS))))) (zE (zQ (PV.w xD))) zM)
  (zD (jZ PassesOwn.never rfl (jQ (zV C__law_places hr (zI (PVw.n (zB 2)) (zI (PVw.n (zB 5)) zS)))) (zN (i := 6) nd) (zE (zY (pt_ne hr (PV.n (zV C__law_value hr (zI (PVw.n (zB 5)) (zI (PVw.n (zB 6)) zS)))) (PV.n (zV C__law_due hr (zI (PVw.n (zB 2)) (zI (PVw.n (zB 6)) zS))))) (zE (zQ (PV.w xD))) zM)))
  (zD (qB (i := 7) nd (zV C_show_map hr (zI (PVw.n (zB 5)) zS)))
  (zD (qB (i := 8) nd (pv_rel 5 (kI (PV.w qR) (PV.w (PVf.s (xI (NY := ["_law_low", "_law_behind", "_law_value_here"]) (mp := [none, none, none]) (jR (by kernel_rfl)) rfl (jQ (zZ 5)) (fun c => (yM (n := 3) rfl (zO (zN (i := 0) nI0) (zO (zN (i := 1) nI0) (zO (zN (i := 2) nI0) jF))))) (fun c => xL) (fun c => (zV C__law_text hr (zI (PV.n (jM (zJ (zZ 0) (zJ (zZ 1) (zJ zF (zJ zF (zJ (zZ 2) qE))))))) (zI (PV.n zF) zS))))))))))
  (zD (zY (PWv.t (xE (jH (PVn.t (PV.n (wH T.b_isinstance T.b_str (by decide +kernel) (zB 7))))) (xE (pt_ne hr (PVw.n (zB 7)) (PVw.n (zB 8))) (xA (pt_ne hr (PV.n (zV C_read_map hr (zI (PVw.n (zB 7)) zS))) (PVw.n (zB 5))))))) (zE (zQ (PV.w xD))) zM)
  (zD (qB (i := 9) nd (PVf.s (pvf_list T.b_list (zB 5))))
  (zD (psv_clr (i := 5))
  (zE (zQ (PV.w (vT (pv_eq hr (PV.n (zV C_read_map hr (zI (PV.n (kI (PV.w qR) (zB 3))) zS))) (PVw.n (zB 9))) (vU (pv_eq hr (PV.n (zV C_read_map hr (zI (PVw.n (zB 7)) zS))) (PVw.n (zB 9))))))))))))))))))))
theorem fok_law {f : Addr} {fd : FuncData} (Fn : Fun K "law" "law" (top 55) f fd) (T : Glb K mg) (C__law_number : Cal P w K mg base "_law_number" 1 1 GL.number.f) (C_read_map : Cal P w K mg base "read_map" 7 1 GP.read_map.f) (C__law_places : Cal P w K mg base "_law_places" 1 2 K92.L_places.f) (C_show_map : Cal P w K mg base "show_map" 3 1 GP.show_map.f) (C__law_cell_at : Cal P w K mg base "_law_cell_at" 1 2 GL.cell_at.f) (C__law_is_map : Cal P w K mg base "_law_is_map" 2 1 GL.is_map4.f) (C__law_item : Cal P w K mg base "_law_item" 1 2 K92.L_item.f) (C__law_text : Cal P w K mg base "_law_text" 1 2 K92.L_text.f) (C__law_value : Cal P w K mg base "_law_value" 2 2 K92.L_value.f) (C__law_due : Cal P w K mg base "_law_due" 2 2 K92.L_due.f) : FnOk P w K mg base CX0 8 f fd ["_law_script"] (spF K 1 K92.law.f) :=
 qH (k := 7) (F := K92.law.f) (g := K92.law.g) Fn sc_law (fun cdv A outer s H E hr => body_law T C__law_number C_read_map C__law_places C_show_map C__law_cell_at C__law_is_map C__law_item C__law_text C__law_value C__law_due cdv A outer s H E hr) (fun ds r hl e => zR e)
end
end K92
namespace K92
open PySem PyProof.Rows L2 FL NumText
open Builtin.Int (intBits)
def Good (g : FS) (ds : List Sl) (P : Ret -> Prop) : Prop := ∃ r, g ds = some (.rt r) /\ P r
theorem wA {f g : FS} {ds : List Sl} {P : Ret -> Prop} (Q : List Sl -> Prop) (h1 : ∃ ds', f ds = some (.nx ds') /\ Q ds') (h2 : ∀ ds', Q ds' -> Good g ds' P) : Good (qJ f g) ds P := by
 obtain ⟨ds', e, q⟩ := h1
 obtain ⟨r, e2, p⟩ := h2 ds' q
 exact ⟨r, by rw [qK e, e2], p⟩
theorem jB {f g : FS} {ds ds' : List Sl} {P : Ret -> Prop} (h1 : f ds = some (.nx ds')) (h2 : Good g ds' P) : Good (qJ f g) ds P := wA (· = ds') ⟨_, h1, rfl⟩ fun _ e => by rw [e]; exact h2
theorem good_rt {f g : FS} {ds : List Sl} {P : Ret -> Prop} (h : Good f ds P) : Good (qJ f g) ds P := by
 obtain ⟨r, e, p⟩ := h
 exact ⟨r, vD e, p⟩
theorem pick2 (x y : D) {i : Int} (h : i = 0 \/ i = 1) : ixD (.lst [x, y]) (.int i) = some (if i = 1 then y else x) := by
 rcases h with rfl | rfl
 · simp
 · simp
theorem pick3 (x y z : D) {i : Int} (h : i = 0 \/ i = 1 \/ i = 2) : ∃ d, (d = x \/ d = y \/ d = z) /\ ixD (.lst [x, y, z]) (.int i) = some d := by
 rcases h with rfl | rfl | rfl
 · exact ⟨x, .inl rfl, by simp⟩
 · exact ⟨y, .inr (.inl rfl), by simp⟩
 · exact ⟨z, .inr (.inr rfl), by simp⟩
abbrev It := Option Int × Option Int × Int × Int × Int
def itD (i : It) : D := .tup [oi i.1, oi i.2.1, .int i.2.2.1, .int i.2.2.2.1, .int i.2.2.2.2]
structure ItOk (i : It) : Prop where
 lo : ∀ x, i.1 = some x -> Bd (2 * 10 ^ 59) x
 bh : ∀ x, i.2.1 = some x -> Bd (2 * 10 ^ 59) x
 vl : Bd (2 * 10 ^ 59) i.2.2.2.2
 ok : okS (i.1, i.2.1)
 cs : (i.2.2.2.1 = 1 /\ i.2.2.1 = 0) \/ (∃ a b, i.1 = some a /\ i.2.1 = some b /\ 2 <= i.2.2.2.1 /\ i.2.2.2.1 <= 5 /\ b - a < i.2.2.1 /\ i.2.2.1 < 10 ^ 51)
def ruleI (i : It) : Rl := (i.1.getD 0, i.2.1.getD 0, i.2.2.1, i.2.2.2.1, i.2.2.2.2)
def rowsI (i : It) : List Rv := if i.2.2.2.1 = 1 then [((i.1, i.2.1), some i.2.2.2.2)] else rowsR (ruleI i)
def hasI (i : It) (p : Int) : Bool := if i.2.2.2.1 = 1 then hasS (i.1, i.2.1) p else hasR (ruleI i) p
theorem ItOk.rule {i : It} (h : ItOk i) (ht : i.2.2.2.1 ≠ 1) : ∃ a b, i.1 = some a /\ i.2.1 = some b /\ a < b /\ 2 <= i.2.2.2.1 /\ i.2.2.2.1 <= 5 /\ b - a < i.2.2.1 /\ i.2.2.1 < 10 ^ 51 /\ ruleI i = (a, b, i.2.2.1, i.2.2.2.1, i.2.2.2.2) /\ okL (a, b, i.2.2.1, i.2.2.2.1, i.2.2.2.2) = true := by
 rcases h.cs with ⟨h1, _⟩ | ⟨a, b, ha, hb, h2, h3, h4, h5⟩
 · exact (ht h1).elim
 · have hab := h.ok a b ha hb
   refine ⟨a, b, ha, hb, hab, h2, h3, h4, h5, by unfold ruleI; rw [ha, hb]; rfl, ?_⟩
   simp [okL, isR, ht]
   omega
theorem rowsI_len {i : It} (h : ItOk i) : (rowsI i).length <= 5 := by
 unfold rowsI
 by_cases ht : i.2.2.2.1 = 1
 · rw [if_pos ht]; simp
 · rw [if_neg ht]
   obtain ⟨a, b, _, _, _, _, h5, _, _, e, ok⟩ := h.rule ht
   rw [e]
   have := (vF ok).2
   simp only at this
   omega
theorem rowsI_ok {i : It} (h : ItOk i) : ∀ r ∈ rowsI i, okS r.1 := by
 unfold rowsI
 by_cases ht : i.2.2.2.1 = 1
 · rw [if_pos ht]
   intro r hr
   rw [List.mem_singleton.mp hr]
   exact h.ok
 · rw [if_neg ht]
   obtain ⟨a, b, _, _, _, _, h5, _, _, e, ok⟩ := h.rule ht
   rw [e]
   exact rowsR_ok ok
theorem rowsI_eb {i : It} (h : ItOk i) : ∀ r ∈ rowsI i, EB (10 ^ 60 - 1) (r.1.1, r.1.2, r.2) := by
 have up : ∀ x : Int, Bd (2 * 10 ^ 59) x -> Bd (10 ^ 60 - 1) x := fun x hx => ⟨by have := hx.1; omega, by have := hx.2; omega⟩
 unfold rowsI
 by_cases ht : i.2.2.2.1 = 1
 · rw [if_pos ht]
   intro r hr
   rw [List.mem_singleton.mp hr]
   exact ⟨fun x hx => up x (h.lo x hx), fun x hx => up x (h.bh x hx), fun x hx => by have := Option.some.inj hx; rw [<- this]; exact up _ h.vl⟩
 · rw [if_neg ht]
   obtain ⟨a, b, ha, hb, hab, h2, h5, hs, hs2, e, ok⟩ := h.rule ht
   rw [e]
   have la := h.lo a ha
   have lb := h.bh b hb
   intro r hr
   unfold rowsR strQ strP at hr
   simp only at hr
   obtain ⟨sp, hsp, rfl⟩ := List.mem_map.mp hr
   obtain ⟨k, hk, rfl⟩ := List.mem_map.mp hsp
   have hk5 : (k : Int) <= 4 := by have := List.mem_range.mp hk; omega
   have hks : 0 <= (k : Int) * i.2.2.1 := Int.mul_nonneg (by omega) (by omega)
   have hks2 : (k : Int) * i.2.2.1 <= 4 * i.2.2.1 := Int.mul_le_mul_of_nonneg_right hk5 (by omega)
   refine ⟨fun x hx => ?_, fun x hx => ?_, fun x hx => by have := Option.some.inj hx; rw [<- this]; exact up _ h.vl⟩
   · have hx := Option.some.inj hx
     generalize (k : Int) * i.2.2.1 = z at *
     exact ⟨by have := la.1; omega, by have := la.2; omega⟩
   · have hx := Option.some.inj hx
     generalize (k : Int) * i.2.2.1 = z at *
     exact ⟨by have := lb.1; omega, by have := lb.2; omega⟩
theorem rowsI_any {i : It} (h : ItOk i) (p : Int) : (rowsI i).any (fun q => hasS q.1 p) = hasI i p := by
 unfold rowsI hasI
 by_cases ht : i.2.2.2.1 = 1
 · rw [if_pos ht, if_pos ht]; simp
 · rw [if_neg ht, if_neg ht]
   obtain ⟨a, b, _, _, _, _, _, _, _, e, ok⟩ := h.rule ht
   rw [e]
   exact hasR_iff ok p
theorem rowsI_val (i : It) : ∀ q ∈ rowsI i, q.2 = some i.2.2.2.2 := by
 unfold rowsI
 by_cases ht : i.2.2.2.1 = 1
 · rw [if_pos ht]
   intro q hq
   rw [List.mem_singleton.mp hq]
 · rw [if_neg ht]
   intro q hq
   obtain ⟨s, _, rfl⟩ := List.mem_map.mp hq
   rfl
theorem due_items (p : Int) : ∀ is : List It, (∀ i ∈ is, ItOk i) -> dueF (is.reverse.flatMap rowsI) p = (is.find? (fun i => hasI i p)).map (·.2.2.2.2)
 | [], _ => by simp [dueF]
 | r :: rs, h => by
   have ih := due_items p rs fun q hq => h q (.tail _ hq)
   have hr := rowsI_any (h r (.head _)) p
   have e : (r :: rs).reverse.flatMap rowsI = rs.reverse.flatMap rowsI ++ rowsI r := by simp
   have fs := find_same (some r.2.2.2.2) p (rowsI r).reverse (by
    intro q hq
    exact rowsI_val r q (List.mem_reverse.mp hq))
   rw [List.any_reverse, hr] at fs
   unfold dueF at ih ⊢
   rw [e, List.reverse_append, List.find?_append]
   cases hh : hasI r p with
   | true =>
     rw [hh] at fs
     cases hf : (rowsI r).reverse.find? (fun r => hasS r.1 p) with
     | none => rw [hf] at fs; simp at fs
     | some q =>
       rw [hf] at fs
       simp only [if_true] at fs
       have fs := Option.some.inj fs
       simp [hh, fs]
   | false =>
     rw [hh] at fs
     cases hf : (rowsI r).reverse.find? (fun r => hasS r.1 p) with
     | some q => rw [hf] at fs; simp at fs
     | none =>
       simp only [Option.none_or, List.find?_cons, hh]
       exact ih
theorem divOk_bitsK {j : Int} (h : 0 < j) (h2 : j < 10 ^ 200) : divOk j := by
 refine ⟨h, ?_⟩
 have e : j.natAbs < 10 ^ 200 := by
  have h3 : ((10 ^ 200 : Nat) : Int) = (10 : Int) ^ 200 := by norm_cast
  omega
 have : j.natAbs.log2 < 8000 := (Nat.log2_lt (by omega)).mpr (Nat.lt_trans e (by decide +kernel))
 omega
theorem fdiv_bitsK {i j : Int} (h : 0 < j) (h2 : j < 10 ^ 200) : yT (.int i) (.int j) = some (.int (i / j)) := if_pos (divOk_bitsK h h2)
theorem has_one (lo bh : Option Int) (s v p : Int) : K92.L_has.f [.tup [oi lo, oi bh, .int s, .int 1, .int v], .int p] = some (.val (.bl (hasS (lo, bh) p))) := by
 refine jL ?_
 unfold K92.L_has.g hasS
 cases lo with
 | none => cases bh <;> simp [args]
 | some a =>
   by_cases h : p < a
   · have h2 : ¬ a <= p := by omega
     cases bh <;> simp [args, h, h2]
   · have h2 : a <= p := by omega
     cases bh <;> simp [args, h, h2]
theorem has_eq5 {a b s t : Int} (v p : Int) (hab : a < b) (h2 : 2 <= t) (h5 : t <= 5) (hs : b - a < s) (hsB : s < 10 ^ 200) : K92.L_has.f [.tup [.int a, .int b, .int s, .int t, .int v], .int p] = some (.val (.bl (hasR (a, b, s, t, v) p))) := by
 have hs0 : 0 < s := by omega
 have fd : yT (.int (p - a)) (.int s) = some (.int ((p - a) / s)) := fdiv_bitsK hs0 hsB
 have ht : (1 : Int) < t := by omega
 refine jL ?_
 unfold K92.L_has.g hasR
 simp only [ht, if_true]
 have ar : args 8 [.tup [.int a, .int b, .int s, .int t, .int v], .int p] = [.v (.tup [.int a, .int b, .int s, .int t, .int v]), .v (.int p), .no, .no, .no, .no, .no, .no] := by simp [args]
 rw [ar, qK (ds' := [.v (.tup [.int a, .int b, .int s, .int t, .int v]), .v (.int p), .v (.int a), .v (.int b), .v (.int s), .v (.int t), .v (.int v), .no]) (by simp)]
 have dm := Int.mul_ediv_add_emod (p - a) s
 have m0 := Int.emod_nonneg (p - a) (show s ≠ 0 by omega)
 have m1 := Int.emod_lt_of_pos (p - a) hs0
 generalize hq : (p - a) / s = q at *
 generalize hr : (p - a) % s = r at *
 by_cases h : a <= p
 · have q0 : 0 <= q := by rw [<- hq]; exact Int.ediv_nonneg (by omega) (by omega)
   have mul : xX (.int (min q (t - 1))) (.int s) = some (.int (min q (t - 1) * s)) := yX (.of_left (yH (Nat.lt_of_le_of_lt (show (min q (t - 1)).natAbs <= 5 by omega) (by decide))))
   have res : decide (p - min q (t - 1) * s < b) = (decide (0 <= q) && decide (q < t) && decide (r < b - a)) := by
    by_cases hqt : q < t
    · have e : min q (t - 1) = q := by omega
      rw [e]
      have : q * s = s * q := Int.mul_comm _ _
      simp only [q0, hqt, decide_true, Bool.true_and]
      congr 1
      apply propext
      constructor <;> intro hh <;> omega
    · have e : min q (t - 1) = t - 1 := by omega
      rw [e]
      have k1 : s * t <= s * q := Int.mul_le_mul_of_nonneg_left (by omega) (by omega)
      have k2 : (t - 1) * s = s * t - s := by rw [Int.mul_comm, Int.mul_sub, Int.mul_one]
      simp only [hqt, decide_false, Bool.and_false, Bool.false_and]
      rw [decide_eq_false]
      omega
   refine vD ?_
   rw [vS (by simp [ht, h])]
   rw [qK (ds' := [.v (.tup [.int a, .int b, .int s, .int t, .int v]), .v (.int p), .v (.int a), .v (.int b), .v (.int s), .v (.int t), .v (.int v), .v (.int (min q (t - 1)))]) (by simp [fd])]
   rw [<- res]
   generalize min q (t - 1) = mn at *
   simp [mul]
 · have q0 : ¬ 0 <= q := by
    rw [<- hq]
    have : (p - a) / s < 0 := Int.ediv_neg_of_neg_of_pos (by omega) hs0
    omega
   have h' : p < a := by omega
   simp [ht, h, h', q0]
theorem hasI_eq {i : It} (h : ItOk i) (p : Int) : K92.L_has.f [itD i, .int p] = some (.val (.bl (hasI i p))) := by
 unfold hasI
 by_cases ht : i.2.2.2.1 = 1
 · rw [if_pos ht]
   have := has_one i.1 i.2.1 i.2.2.1 i.2.2.2.2 p
   unfold itD
   rw [ht]
   exact this
 · rw [if_neg ht]
   obtain ⟨a, b, ha, hb, hab, h2, h5, hs, hs2, e, ok⟩ := h.rule ht
   rw [e]
   have := has_eq5 i.2.2.2.2 p hab h2 h5 hs (Int.lt_trans hs2 (by decide))
   unfold itD
   rw [ha, hb]
   exact this
def dueI (is : List It) (p : Int) : Option Int := (is.reverse.find? (fun i => hasI i p)).map (·.2.2.2.2)
theorem ixI4 (i : It) : ixD (itD i) (.int 4) = some (.int i.2.2.2.2) := ix5_4 _ _ _ _ _
theorem due_eqI {is : List It} (h : ∀ i ∈ is, ItOk i) (p : Int) : K92.L_due.f [.lst (is.map itD), .int p] = some (.val (oi (dueI is p))) := by
 have lp : ∀ (R : Sl) (ps : List It), (∀ i ∈ ps, ItOk i) -> ∀ (a : Sl), ∃ a', jD (zT 2) K92.L_due.b1 (ps.map itD) [R, .v (.int p), a] =
   (match ps.find? (fun r => hasI r p) with | some r => some (.rt (.val (.int r.2.2.2.2))) | none => some (.nx [R, .v (.int p), a'])) := by
  intro R ps
  induction ps with
  | nil => exact fun _ a => ⟨a, rfl⟩
  | cons r ps ih =>
    intro ho a
    obtain ⟨a', e⟩ := ih (fun q hq => ho q (.tail _ hq)) (.v (itD r))
    refine ⟨a', ?_⟩
    have hh := hasI_eq (ho r (.head _)) p
    have i4 := ixI4 r
    generalize hD : itD r = RD at *
    cases h : hasI r p with
    | true =>
      rw [h] at hh
      have turn : K92.L_due.b1 [R, .v (.int p), .v RD] = some (.rt (.val (.int r.2.2.2.2))) := by simp [K92.L_due.b1, hh, i4]
      simp [jD, turn, h, hD]
    | false =>
      rw [h] at hh
      have turn : K92.L_due.b1 [R, .v (.int p), .v RD] = some (.nx [R, .v (.int p), .v RD]) := by simp [K92.L_due.b1, hh]
      simp [jD, turn, h, e, hD]
 obtain ⟨a, e⟩ := lp (.v (.lst (is.map itD))) is.reverse (fun i hi => h i (List.mem_reverse.mp hi)) .no
 rw [List.map_reverse] at e
 unfold dueI K92.L_due.f runG K92.L_due.g
 generalize is.map itD = P at *
 cases hf : is.reverse.find? (fun r => hasI r p) with
 | none => rw [hf] at e; simp [args, e]
 | some r => rw [hf] at e; simp [args, e]
theorem value_eqI {ps : List Rw} (o : Ord ps) (p : Int) (hv : ∀ r ∈ ps, r.2.2 ≠ none) : K92.L_value.f [.lst (ps.map rwD), .int p] = some (.val (oi (valL ps p))) := by
 have lp : ∀ (R : Sl) (ps : List Rw), (∀ r ∈ ps, r.2.2 ≠ none) -> ∀ (a b c : Sl), ∃ a' b' c', jD (tupG 3 (zP (zT 2) (zP (zT 3) (zP (zT 4) tgNil)))) K92.L_value.b1 (ps.map rwD) [R, .v (.int p), a, b, c] =
   (match ps.find? (fun r => has3 r p) with | some r => some (.rt (.val (oi r.2.2))) | none => some (.nx [R, .v (.int p), a', b', c'])) := by
  intro R ps
  induction ps with
  | nil => exact fun _ a b c => ⟨a, b, c, rfl⟩
  | cons r ps ih =>
    intro ho a b c
    obtain ⟨lo, bh, w⟩ := r
    obtain ⟨a', b', c', e⟩ := ih (fun q hq => ho q (.tail _ hq)) (.v (oi lo)) (.v (oi bh)) (.v (oi w))
    refine ⟨a', b', c', ?_⟩
    cases w with
    | none => exact (ho _ (.head _) rfl).elim
    | some v =>
      have hh := has_one lo bh 0 v p
      have h3 : has3 (lo, bh, some v) p = hasS (lo, bh) p := rfl
      cases h : hasS (lo, bh) p with
      | true =>
        rw [h] at hh h3
        have turn : K92.L_value.b1 [R, .v (.int p), .v (oi lo), .v (oi bh), .v (.int v)] = some (.rt (.val (.int v))) := by simp [K92.L_value.b1, hh]
        simp [jD, turn, h3]
      | false =>
        rw [h] at hh h3
        have turn : K92.L_value.b1 [R, .v (.int p), .v (oi lo), .v (oi bh), .v (.int v)] = some (.nx [R, .v (.int p), .v (oi lo), .v (oi bh), .v (.int v)]) := by simp [K92.L_value.b1, hh]
        rw [show oi (some v) = D.int v from rfl] at e
        simp [jD, turn, h3, e]
 obtain ⟨a, b, c, e⟩ := lp (.v (.lst (ps.map rwD))) ps hv .no .no .no
 rw [valL_find o]
 unfold K92.L_value.f runG K92.L_value.g
 generalize ps.map rwD = P at *
 cases hf : ps.find? (fun r => has3 r p) with
 | none => rw [hf] at e; simp [args, e]
 | some r => rw [hf] at e; simp [args, e]
theorem t_eachb : Str.ofString " each " = txS (32 :: eachL ++ [32]) := by decide
theorem t_timesb : Str.ofString " times " = txS (32 :: timesL ++ [32]) := by decide
theorem kG {lo bh : Option Int} {s t v c : Int} {A B W S N : List Nat} (hlo : ∀ x, lo = some x -> Bd (10 ^ 60) x /\ Bd (10 ^ 60) (x - 1)) (hbh : ∀ x, bh = some x -> Bd (10 ^ 60) x /\ Bd (10 ^ 60) (x - 1))
  (hA : LowC lo (decide (c % 2 = 1)) A) (hB : HighC bh (decide (c / 2 % 2 = 1)) B) (hW : Wd v W) (hS : 1 < t -> Wd s S) (hN : 1 < t -> Wd t N) :
  K92.L_text.f [.tup [oi lo, oi bh, .int s, .int t, .int v], .int c] = some (.val (.str (txS (if 1 < t then joinL 32 [(A ++ 44 :: B) ++ 61 :: W, eachL, S, timesL, N] else (A ++ 44 :: B) ++ 61 :: W)))) := by
 have lA := hA.sg.1.len
 have lB := hB.sg.1.len
 have lW := hW.len
 have a1 := jP A [44] (by simp; omega)
 have a2 := jP (A ++ [44]) B (by simp; omega)
 have a3 := jP (A ++ [44] ++ B) [61] (by simp; omega)
 have a4 := jP (A ++ [44] ++ B ++ [61]) W (by simp; omega)
 have et : A ++ [44] ++ B ++ [61] ++ W = (A ++ 44 :: B) ++ 61 :: W := by simp
 rw [et] at a4
 have qW := hW.st
 have c2 : c % 2 = 0 \/ c % 2 = 1 := by omega
 have c4 : c / 2 % 2 = 0 \/ c / 2 % 2 = 1 := by omega
 refine jL ?_
 unfold K92.L_text.g
 rw [t_lend, t_lsh, t_lop, t_hend, t_hop, t_hsh, t_comma, t_eq, t_eachb, t_timesb]
 have ar : args 10 [.tup [oi lo, oi bh, .int s, .int t, .int v], .int c] = [.v (.tup [oi lo, oi bh, .int s, .int t, .int v]), .v (.int c), .no, .no, .no, .no, .no, .no, .no, .no] := by simp [args]
 rw [ar, qK (ds' := [.v (.tup [oi lo, oi bh, .int s, .int t, .int v]), .v (.int c), .v (oi lo), .v (oi bh), .v (.int s), .v (.int t), .v (.int v), .no, .no, .no]) (by simp)]
 generalize D.tup [oi lo, oi bh, .int s, .int t, .int v] = TD
 rw [qK (ds' := [.v TD, .v (.int c), .v (oi lo), .v (oi bh), .v (.int s), .v (.int t), .v (.int v), .v (.str (txS [40, 46, 46])), .no, .no]) (by generalize txS [40, 46, 46] = X; simp)]
 rw [qK (ds' := [.v TD, .v (.int c), .v (oi lo), .v (oi bh), .v (.int s), .v (.int t), .v (.int v), .v (.str (txS A)), .no, .no]) (by
  cases lo with
  | none =>
    have hA : A = [40, 46, 46] := hA
    rw [hA]
    generalize txS [40, 46, 46] = X
    generalize txS [91] = X1
    generalize txS [40] = X2
    simp
  | some a =>
    obtain ⟨w1, hw1⟩ := wL (hlo a rfl).1
    obtain ⟨w2, hw2⟩ := wL (hlo a rfl).2
    have p1 := jP [91] w1 (by have := hw1.len; simp; omega)
    have p2 := jP [40] w2 (by have := hw2.len; simp; omega)
    rw [List.singleton_append] at p1 p2
    have s1 := hw1.st
    have s2 := hw2.st
    have pk := pick2 (.str (txS (91 :: w1))) (.str (txS (40 :: w2))) c2
    have eA : (if c % 2 = 1 then D.str (txS (40 :: w2)) else .str (txS (91 :: w1))) = .str (txS A) := by
     rcases c2 with z | z
     · rw [decide_eq_false (by omega)] at hA
       obtain ⟨w, hw, rfl⟩ : ∃ w, Wd a w /\ A = 91 :: w := hA
       rw [if_neg (by omega)]
       have := hw.st
       rw [s1] at this
       have := Option.some.inj this
       injection this with this
       rw [txS_inj.mp this]
     · rw [decide_eq_true z] at hA
       obtain ⟨w, hw, rfl⟩ : ∃ w, Wd (a - 1) w /\ A = 40 :: w := hA
       rw [if_pos z]
       have := hw.st
       rw [s2] at this
       have := Option.some.inj this
       injection this with this
       rw [txS_inj.mp this]
    rw [eA] at pk
    generalize txS (91 :: w1) = Y1 at *
    generalize txS (40 :: w2) = Y2 at *
    generalize txS [40, 46, 46] = X
    generalize txS [91] = X1 at *
    generalize txS [40] = X2 at *
    generalize txS w1 = Y3 at *
    generalize txS w2 = Y4 at *
    generalize txS A = XA at *
    simp [p1, p2, s1, s2, pk])]
 rw [qK (ds' := [.v TD, .v (.int c), .v (oi lo), .v (oi bh), .v (.int s), .v (.int t), .v (.int v), .v (.str (txS A)), .v (.str (txS [46, 46, 41])), .no]) (by generalize txS [46, 46, 41] = X; generalize txS A = XA; simp)]
 rw [qK (ds' := [.v TD, .v (.int c), .v (oi lo), .v (oi bh), .v (.int s), .v (.int t), .v (.int v), .v (.str (txS A)), .v (.str (txS B)), .no]) (by
  cases bh with
  | none =>
    have hB : B = [46, 46, 41] := hB
    rw [hB]
    generalize txS [46, 46, 41] = X
    generalize txS [41] = X1
    generalize txS [93] = X2
    generalize txS A = XA
    simp
  | some a =>
    obtain ⟨w1, hw1⟩ := wL (hbh a rfl).1
    obtain ⟨w2, hw2⟩ := wL (hbh a rfl).2
    have p1 := jP w1 [41] (by have := hw1.len; simp; omega)
    have p2 := jP w2 [93] (by have := hw2.len; simp; omega)
    have s1 := hw1.st
    have s2 := hw2.st
    have pk := pick2 (.str (txS (w1 ++ [41]))) (.str (txS (w2 ++ [93]))) c4
    have eB : (if c / 2 % 2 = 1 then D.str (txS (w2 ++ [93])) else .str (txS (w1 ++ [41]))) = .str (txS B) := by
     rcases c4 with z | z
     · rw [decide_eq_false (by omega)] at hB
       obtain ⟨w, hw, rfl⟩ : ∃ w, Wd a w /\ B = w ++ [41] := hB
       rw [if_neg (by omega)]
       have := hw.st
       rw [s1] at this
       have := Option.some.inj this
       injection this with this
       rw [txS_inj.mp this]
     · rw [decide_eq_true z] at hB
       obtain ⟨w, hw, rfl⟩ : ∃ w, Wd (a - 1) w /\ B = w ++ [93] := hB
       rw [if_pos z]
       have := hw.st
       rw [s2] at this
       have := Option.some.inj this
       injection this with this
       rw [txS_inj.mp this]
    rw [eB] at pk
    generalize txS (w1 ++ [41]) = Y1 at *
    generalize txS (w2 ++ [93]) = Y2 at *
    generalize txS [46, 46, 41] = X
    generalize txS [41] = X1 at *
    generalize txS [93] = X2 at *
    generalize txS w1 = Y3 at *
    generalize txS w2 = Y4 at *
    generalize txS A = XA at *
    generalize txS B = XB at *
    simp [p1, p2, s1, s2, pk])]
 rw [qK (ds' := [.v TD, .v (.int c), .v (oi lo), .v (oi bh), .v (.int s), .v (.int t), .v (.int v), .v (.str (txS A)), .v (.str (txS B)), .v (.str (txS ((A ++ 44 :: B) ++ 61 :: W)))]) (by
  generalize txS ((A ++ 44 :: B) ++ 61 :: W) = Y0 at *
  generalize txS (A ++ [44] ++ B ++ [61]) = Y1 at *
  generalize txS (A ++ [44] ++ B) = Y2 at *
  generalize txS (A ++ [44]) = Y3 at *
  generalize txS [44] = Y4 at *
  generalize txS [61] = Y5 at *
  generalize txS A = XA at *
  generalize txS B = XB at *
  generalize txS W = XW at *
  simp [a1, a2, a3, a4, qW])]
 by_cases ht : 1 < t
 · have wS := hS ht
   have wN := hN ht
   have lS := wS.len
   have lN := wN.len
   have qS := wS.st
   have qN := wN.st
   rw [if_pos ht]
   have f1 := jP ((A ++ 44 :: B) ++ 61 :: W) (32 :: eachL ++ [32]) (by simp [eachL]; omega)
   have f2 := jP (((A ++ 44 :: B) ++ 61 :: W) ++ (32 :: eachL ++ [32])) S (by simp [eachL]; omega)
   have f3 := jP ((((A ++ 44 :: B) ++ 61 :: W) ++ (32 :: eachL ++ [32])) ++ S) (32 :: timesL ++ [32]) (by simp [eachL, timesL]; omega)
   have f4 := jP (((((A ++ 44 :: B) ++ 61 :: W) ++ (32 :: eachL ++ [32])) ++ S) ++ (32 :: timesL ++ [32])) N (by simp [eachL, timesL]; omega)
   have e : ((((A ++ 44 :: B) ++ 61 :: W) ++ (32 :: eachL ++ [32])) ++ S) ++ (32 :: timesL ++ [32]) ++ N = joinL 32 [(A ++ 44 :: B) ++ 61 :: W, eachL, S, timesL, N] := by simp [joinL]
   rw [e] at f4
   generalize txS (joinL 32 [(A ++ 44 :: B) ++ 61 :: W, eachL, S, timesL, N]) = Y9 at *
   generalize txS (((((A ++ 44 :: B) ++ 61 :: W) ++ (32 :: eachL ++ [32])) ++ S) ++ (32 :: timesL ++ [32])) = Y1 at *
   generalize txS ((((A ++ 44 :: B) ++ 61 :: W) ++ (32 :: eachL ++ [32])) ++ S) = Y2 at *
   generalize txS (((A ++ 44 :: B) ++ 61 :: W) ++ (32 :: eachL ++ [32])) = Y3 at *
   generalize txS ((A ++ 44 :: B) ++ 61 :: W) = Y4 at *
   generalize txS (32 :: eachL ++ [32]) = Y5 at *
   generalize txS (32 :: timesL ++ [32]) = Y6 at *
   generalize txS S = XS at *
   generalize txS N = XN at *
   generalize txS A = XA at *
   generalize txS B = XB at *
   simp [ht, f1, f2, f3, f4, qS, qN]
 · rw [if_neg ht]
   generalize txS ((A ++ 44 :: B) ++ 61 :: W) = Y4 at *
   generalize txS (32 :: eachL ++ [32]) = Y5 at *
   generalize txS (32 :: timesL ++ [32]) = Y6 at *
   generalize txS A = XA at *
   generalize txS B = XB at *
   simp [ht]
theorem text_ex {i : It} (h : ItOk i) (c : Int) : ∃ w, K92.L_text.f [itD i, .int c] = some (.val (.str (txS w))) /\ ItemOk w (rowsI i) := by
 have up : ∀ x : Int, Bd (2 * 10 ^ 59) x -> Bd (10 ^ 60) x /\ Bd (10 ^ 60) (x - 1) := fun x hx => ⟨⟨by have := hx.1; omega, by have := hx.2; omega⟩, ⟨by have := hx.1; omega, by have := hx.2; omega⟩⟩
 have hlo : ∀ x, i.1 = some x -> Bd (10 ^ 60) x /\ Bd (10 ^ 60) (x - 1) := fun x hx => up x (h.lo x hx)
 have hbh : ∀ x, i.2.1 = some x -> Bd (10 ^ 60) x /\ Bd (10 ^ 60) (x - 1) := fun x hx => up x (h.bh x hx)
 obtain ⟨A, hA⟩ := lowC_ex (decide (c % 2 = 1)) hlo
 obtain ⟨B, hB⟩ := highC_ex (decide (c / 2 % 2 = 1)) hbh
 obtain ⟨W, hW⟩ := wL (up _ h.vl).1
 unfold rowsI
 by_cases ht : i.2.2.2.1 = 1
 · have := kG (s := i.2.2.1) (t := i.2.2.2.1) (S := []) (N := []) hlo hbh hA hB hW (fun z => by omega) (fun z => by omega)
   rw [if_neg (by omega)] at this
   rw [if_pos ht]
   exact ⟨_, this, item_one hA hB hW h.ok⟩
 · obtain ⟨a, b, ha, hb, hab, h2, h5, hs, hs2, e, ok⟩ := h.rule ht
   obtain ⟨S, hS⟩ := wL (n := i.2.2.1) ⟨by omega, by omega⟩
   obtain ⟨N, hN⟩ := wL (n := i.2.2.2.1) ⟨by omega, by omega⟩
   have := kG (s := i.2.2.1) (t := i.2.2.2.1) hlo hbh hA hB hW (fun _ => hS) (fun _ => hN)
   rw [if_pos (by omega)] at this
   rw [if_neg ht, e]
   rw [ha] at hA
   rw [hb] at hB
   exact ⟨_, this, item_five hA hB hW hS hN ok⟩
theorem text_piece {r : Rw} {w : List Nat} (h : PieceT r w) (hb : EB (10 ^ 60 - 1) r) : K92.L_text.f [.tup [oi r.1, oi r.2.1, .int 0, .int 1, oi r.2.2], .int 0] = some (.val (.str (txS w))) := by
 have up : ∀ x : Int, Bd (10 ^ 60 - 1) x -> Bd (10 ^ 60) x /\ Bd (10 ^ 60) (x - 1) := fun x hx => ⟨⟨by have := hx.1; omega, by have := hx.2; omega⟩, ⟨by have := hx.1; omega, by have := hx.2; omega⟩⟩
 obtain ⟨v, A, B, W, hv, hA, hB, hW, rfl⟩ := h
 have := kG (s := 0) (t := 1) (c := 0) (S := []) (N := []) (fun x hx => up x (hb.1 x hx)) (fun x hx => up x (hb.2.1 x hx)) hA hB hW (fun z => by omega) (fun z => by omega)
 rw [if_neg (by omega)] at this
 rw [hv]
 exact this
theorem number_ex (c : Int) (hc : intBits c <= 1048576) : ∃ b : Int, -(10 ^ 58) <= b /\ b <= 10 ^ 58 /\ GL.number.f [.int c] = some (.val (.int b)) := by
 have p41 : powD (.int 10) (.int 41) = some (.int (10 ^ 41)) := pow10 (by decide) (by decide)
 have p58 : powD (.int 10) (.int 58) = some (.int (10 ^ 58)) := pow10 (by decide) (by decide)
 have m1 : xX (.int (c / 3)) (.int (10 ^ 41 + 9)) = some (.int (c / 3 * (10 ^ 41 + 9))) := yX (mulOk_of_bits (xO (by decide) hc) (yH (m := 200) (by decide)) (by decide))
 have m2 : xX (.int 2) (.int (10 ^ 58)) = some (.int (2 * 10 ^ 58)) := yX (.of_left (yH (by decide)))
 have q : (0 : Int) < 2 * 10 ^ 58 + 1 := by decide
 have h1 := Int.emod_nonneg (c / 3 * (10 ^ 41 + 9)) (show (2 * 10 ^ 58 + 1 : Int) ≠ 0 by decide)
 have h2 := Int.emod_lt_of_pos (c / 3 * (10 ^ 41 + 9)) q
 by_cases h : c % 3 = 0
 · refine ⟨_, ?_, ?_, jL (vD (by rw [vS (by simp [args, h])]; simp [-Int.reducePow, -Nat.reducePow, args, p41, p58, m1, m2, q]; rfl))⟩
   · omega
   · omega
 · refine ⟨c / 3 % 41 - 20, by omega, by omega, jL ?_⟩
   unfold GL.number.g
   simp [-Int.reducePow, -Nat.reducePow, args, h]
theorem item_ex {b c0 c1 c2 c3 : Int} (hb : -(10 ^ 58) <= b /\ b <= 10 ^ 58) (h1 : intBits c1 <= 1048576) (h2 : intBits c2 <= 1048576) : ∃ i : It, ItOk i /\ K92.L_item.f [.int b, .lst [.int c0, .int c1, .int c2, .int c3]] = some (.val (itD i)) := by
 have p43 : powD (.int 10) (.int 43) = some (.int (10 ^ 43)) := pow10 (by decide) (by decide)
 have p59 : powD (.int 10) (.int 59) = some (.int (10 ^ 59)) := pow10 (by decide) (by decide)
 have p37 : powD (.int 10) (.int 37) = some (.int (10 ^ 37)) := pow10 (by decide) (by decide)
 have p50 : powD (.int 10) (.int 50) = some (.int (10 ^ 50)) := pow10 (by decide) (by decide)
 have m1 : xX (.int (c2 / 3)) (.int (10 ^ 43 + 7)) = some (.int (c2 / 3 * (10 ^ 43 + 7))) := yX (mulOk_of_bits (xO (by decide) h2) (yH (m := 200) (by decide)) (by decide))
 have m2 : xX (.int 2) (.int (10 ^ 59)) = some (.int (2 * 10 ^ 59)) := yX (.of_left (yH (by decide)))
 have m3 : xX (.int (c1 / 18)) (.int (10 ^ 37 + 3)) = some (.int (c1 / 18 * (10 ^ 37 + 3))) := yX (mulOk_of_bits (xO (by decide) h1) (yH (m := 200) (by decide)) (by decide))
 have m4 : xX (.int (c1 / 12)) (.int (10 ^ 37 + 3)) = some (.int (c1 / 12 * (10 ^ 37 + 3))) := yX (mulOk_of_bits (xO (by decide) h1) (yH (m := 200) (by decide)) (by decide))
 have q59 : (0 : Int) < 2 * 10 ^ 59 + 1 := by decide
 have r59 : (0 : Int) < 10 ^ 59 := by decide
 have r50 : (0 : Int) < 10 ^ 50 := by decide
 suffices G : Good K92.L_item.g (args 11 [.int b, .lst [.int c0, .int c1, .int c2, .int c3]]) (fun r => ∃ i, ItOk i /\ r = .val (itD i)) by
  obtain ⟨r, e, i, hi, rfl⟩ := G
  exact ⟨i, hi, jL e⟩
 have ar : args 11 [.int b, .lst [.int c0, .int c1, .int c2, .int c3]] = [.v (.int b), .v (.lst [.int c0, .int c1, .int c2, .int c3]), .no, .no, .no, .no, .no, .no, .no, .no, .no] := by simp [args]
 rw [ar]
 unfold K92.L_item.g
 refine jB (ds' := [.v (.int b), .v (.lst [.int c0, .int c1, .int c2, .int c3]), .v (.int c0), .v (.int c1), .v (.int c2), .v (.int c3), .no, .no, .no, .no, .no]) (by simp [lstG]) ?_
 generalize D.lst [.int c0, .int c1, .int c2, .int c3] = LD
 refine jB (ds' := [.v (.int b), .v LD, .v (.int c0), .v (.int c1), .v (.int c2), .v (.int c3), .v (.int (b + c0 % 41 - 20)), .no, .no, .no, .no]) (by simp) ?_
 refine jB (ds' := [.v (.int b), .v LD, .v (.int c0), .v (.int c1), .v (.int c2), .v (.int c3), .v (.int (b + c0 % 41 - 20)), .v (.int (1 + c0 / 41 % 9)), .no, .no, .no]) (by simp) ?_
 generalize hlo : b + c0 % 41 - 20 = lo
 generalize hsz : 1 + c0 / 41 % 9 = sz
 have lb : -(10 ^ 58) - 20 <= lo /\ lo <= 10 ^ 58 + 20 := by omega
 have szb : 1 <= sz /\ sz <= 9 := by omega
 refine wA (fun ds => ∃ v : Int, Bd (2 * 10 ^ 59) v /\ ds = [.v (.int b), .v LD, .v (.int c0), .v (.int c1), .v (.int c2), .v (.int c3), .v (.int lo), .v (.int sz), .v (.int v), .no, .no]) ?_ ?_
 · have e1 := Int.emod_nonneg (c2 / 3 * (10 ^ 43 + 7)) (show (2 * 10 ^ 59 + 1 : Int) ≠ 0 by decide)
   have e2 := Int.emod_lt_of_pos (c2 / 3 * (10 ^ 43 + 7)) q59
   obtain ⟨d, hd, pk⟩ := pick3 (.int 0) (.int (-3)) (.int (c2 / 3 * (10 ^ 43 + 7) % (2 * 10 ^ 59 + 1) - 10 ^ 59)) (i := c2 % 3) (by omega)
   obtain ⟨v, hv, rfl⟩ : ∃ v : Int, Bd (2 * 10 ^ 59) v /\ d = .int v := by
    rcases hd with rfl | rfl | rfl
    · exact ⟨0, ⟨by decide, by decide⟩, rfl⟩
    · exact ⟨-3, ⟨by decide, by decide⟩, rfl⟩
    · exact ⟨_, ⟨by omega, by omega⟩, rfl⟩
   exact ⟨_, by simp [-Int.reducePow, -Nat.reducePow, p43, p59, m1, m2, q59, pk], v, hv, rfl⟩
 rintro _ ⟨v, hv, rfl⟩
 by_cases hw : c1 % 2 = 1
 · refine good_rt ?_
   show Good (ifG _ _ _) _ _
   have key : ∀ g1 g2 : FS, Good g1 [.v (.int b), .v LD, .v (.int c0), .v (.int c1), .v (.int c2), .v (.int c3), .v (.int lo), .v (.int sz), .v (.int v), .no, .no] (fun r => ∃ i, ItOk i /\ r = .val (itD i)) -> Good (ifG (zW (zK eqD (zK wW (zL 3) (zC (.int 2))) (zC (.int 1)))) g1 g2) [.v (.int b), .v LD, .v (.int c0), .v (.int c1), .v (.int c2), .v (.int c3), .v (.int lo), .v (.int sz), .v (.int v), .no, .no] (fun r => ∃ i, ItOk i /\ r = .val (itD i)) := by
    rintro g1 g2 ⟨r, e, p⟩
    exact ⟨r, by rw [vS (by simp [hw])]; exact e, p⟩
   refine key _ _ ?_
   refine jB (ds' := [.v (.int b), .v LD, .v (.int c0), .v (.int c1), .v (.int c2), .v (.int c3), .v (.int lo), .v (.int sz), .v (.int v), .v (.int (sz + 1 + c1 / 2 % 9)), .no]) (by simp) ?_
   refine wA (fun ds => ∃ s : Int, sz < s /\ s < 10 ^ 51 /\ ds = [.v (.int b), .v LD, .v (.int c0), .v (.int c1), .v (.int c2), .v (.int c3), .v (.int lo), .v (.int sz), .v (.int v), .v (.int s), .no]) ?_ ?_
   · by_cases h5 : c1 / 18 % 5 = 2
     · have e1 := Int.emod_nonneg (c1 / 18 * (10 ^ 37 + 3)) (show (10 ^ 50 : Int) ≠ 0 by decide)
       have e2 := Int.emod_lt_of_pos (c1 / 18 * (10 ^ 37 + 3)) r50
       refine ⟨_, by simp [-Int.reducePow, -Nat.reducePow, h5, p37, p50, m3, r50]; rfl, _, ?_, ?_, rfl⟩
       · omega
       · omega
     · refine ⟨_, by simp [-Int.reducePow, -Nat.reducePow, h5]; rfl, _, ?_, ?_, rfl⟩
       · omega
       · omega
   rintro _ ⟨s, s0, s1, rfl⟩
   refine ⟨_, by simp; rfl, (some lo, some (lo + sz), s, 2 + c3 % 4, v), ⟨?_, ?_, hv, ?_, .inr ⟨lo, lo + sz, rfl, rfl, by simp only; omega, by simp only; omega, by simp only; omega, s1⟩⟩, rfl⟩
   · intro x hx
     have := Option.some.inj hx
     exact ⟨by omega, by omega⟩
   · intro x hx
     have := Option.some.inj hx
     exact ⟨by omega, by omega⟩
   · intro x y hx hy
     have := Option.some.inj hx
     have := Option.some.inj hy
     omega
 · refine jB (ds' := [.v (.int b), .v LD, .v (.int c0), .v (.int c1), .v (.int c2), .v (.int c3), .v (.int lo), .v (.int sz), .v (.int v), .no, .no]) (by rw [vQ (by simp [hw])]; try rfl) ?_
   refine jB (ds' := [.v (.int b), .v LD, .v (.int c0), .v (.int c1), .v (.int c2), .v (.int c3), .v (.int lo), .v (.int sz), .v (.int v), .no, .v (.int (lo + sz))]) (by simp) ?_
   refine wA (fun ds => ∃ bh : Int, lo < bh /\ bh < 2 * 10 ^ 59 /\ ds = [.v (.int b), .v LD, .v (.int c0), .v (.int c1), .v (.int c2), .v (.int c3), .v (.int lo), .v (.int sz), .v (.int v), .no, .v (.int bh)]) ?_ ?_
   · by_cases h5 : c1 / 2 % 6 = 1
     · have e1 := Int.emod_nonneg (c1 / 12 * (10 ^ 37 + 3)) (show (10 ^ 59 : Int) ≠ 0 by decide)
       have e2 := Int.emod_lt_of_pos (c1 / 12 * (10 ^ 37 + 3)) r59
       refine ⟨_, by simp [-Int.reducePow, -Nat.reducePow, h5, p37, p59, m4, r59]; rfl, _, ?_, ?_, rfl⟩
       · omega
       · omega
     · refine ⟨_, by simp [-Int.reducePow, -Nat.reducePow, h5]; rfl, _, ?_, ?_, rfl⟩
       · omega
       · omega
   rintro _ ⟨bh, bh0, bh1, rfl⟩
   refine wA (fun ds => ∃ lo' : Option Int, (lo' = none \/ lo' = some lo) /\ ds = [.v (.int b), .v LD, .v (.int c0), .v (.int c1), .v (.int c2), .v (.int c3), .v (oi lo'), .v (.int sz), .v (.int v), .no, .v (.int bh)]) ?_ ?_
   · by_cases h5 : (5 <= c3 % 12 /\ c3 % 12 <= 6)
     · refine ⟨_, ?_, none, .inl rfl, rfl⟩
       rw [vS (by simp [h5.1, h5.2])]
       simp
     · refine ⟨_, ?_, some lo, .inr rfl, rfl⟩
       by_cases h6 : 5 <= c3 % 12
       · rw [vQ (by have : ¬ c3 % 12 <= 6 := (fun z => h5 ⟨h6, z⟩); simp [h6, this])]
         simp
       · rw [vQ (by simp [h6])]
         simp
   rintro _ ⟨lo', hlo', rfl⟩
   refine wA (fun ds => ∃ bh' : Option Int, (bh' = none \/ bh' = some bh) /\ ds = [.v (.int b), .v LD, .v (.int c0), .v (.int c1), .v (.int c2), .v (.int c3), .v (oi lo'), .v (.int sz), .v (.int v), .no, .v (oi bh')]) ?_ ?_
   · by_cases h5 : (6 <= c3 % 12 /\ c3 % 12 <= 7)
     · refine ⟨_, ?_, none, .inl rfl, rfl⟩
       rw [vS (by simp [h5.1, h5.2])]
       simp
     · refine ⟨_, ?_, some bh, .inr rfl, rfl⟩
       by_cases h6 : 6 <= c3 % 12
       · rw [vQ (by have : ¬ c3 % 12 <= 7 := (fun z => h5 ⟨h6, z⟩); simp [h6, this])]
         simp
       · rw [vQ (by simp [h6])]
         simp
   rintro _ ⟨bh', hbh', rfl⟩
   refine ⟨_, by simp; rfl, (lo', bh', 0, 1, v), ⟨?_, ?_, hv, ?_, .inl ⟨rfl, rfl⟩⟩, rfl⟩
   · intro x hx
     simp only at hx
     rcases hlo' with z | z
     · rw [z] at hx; cases hx
     · rw [z] at hx
       have := Option.some.inj hx
       exact ⟨by omega, by omega⟩
   · intro x hx
     simp only at hx
     rcases hbh' with z | z
     · rw [z] at hx; cases hx
     · rw [z] at hx
       have := Option.some.inj hx
       exact ⟨by omega, by omega⟩
   · intro x y hx hy
     simp only at hx hy
     rcases hlo' with z | z
     · rw [z] at hx; cases hx
     · rcases hbh' with z2 | z2
       · rw [z2] at hy; cases hy
       · rw [z] at hx
         rw [z2] at hy
         have := Option.some.inj hx
         have := Option.some.inj hy
         omega
theorem plc_turn (R0 R1 x3 x4 x6 x7 x9 : Sl) (acc : List Int) (s e k : Int) (hk : 0 <= k /\ k <= 5) (hz : acc.length + 2 <= 16777216) : K92.L_places.b1 [R0, R1, .own (acc.map D.int), x3, x4, .v (.int s), x6, x7, .v (.int e), .v (.int k)] = some (.nx [R0, R1, .own ((acc ++ [e + k * s - 1, e + k * s]).map D.int), x3, x4, .v (.int s), x6, x7, .v (.int e), .v (.int k)]) := by
 have mul : xX (.int k) (.int s) = some (.int (k * s)) := yX (.of_left (yH (Nat.lt_of_le_of_lt (show k.natAbs <= 5 by omega) (by decide))))
 have hl : (acc.map D.int).length + 2 <= 16777216 := by simpa using hz
 rw [List.map_append]
 unfold K92.L_places.b1
 generalize acc.map D.int = P at *
 simp [mul, hl]
theorem plc_end (R0 R1 x3 x4 x7 : Sl) (s t : Int) (ht : 1 <= t /\ t <= 5) (e : Int) (acc : List Int) (x9 : Sl) (hz : acc.length + 10 <= 16777216) : ∃ (acc' : List Int) (y9 : Sl), acc'.length <= acc.length + 10 /\ K92.L_places.b2 [R0, R1, .own (acc.map D.int), x3, x4, .v (.int s), .v (.int t), x7, .v (.int e), x9] = some (.nx [R0, R1, .own (acc'.map D.int), x3, x4, .v (.int s), .v (.int t), x7, .v (.int e), y9]) := by
 obtain ⟨ds', e1, acc', y9, hl, rfl⟩ := vI (ga := zT 9) (body := K92.L_places.b1) (fun n ds => ∃ (acc' : List Int) (y9 : Sl), acc'.length <= acc.length + 2 * n /\ ds = [R0, R1, .own (acc'.map D.int), x3, x4, .v (.int s), .v (.int t), x7, .v (.int e), y9]) (rangeD 0 t.toNat) 0 _ ⟨acc, x9, by omega, rfl⟩ (by
  rintro d hd m _ hm ⟨acc', y9, hl, rfl⟩
  obtain ⟨k, hk, rfl⟩ := mem_rangeD hd
  have hkt : k < t.toNat := hk
  have hlen : (rangeD 0 t.toNat).length = t.toNat := by simp [rangeD]
  have tt := plc_turn R0 R1 x3 x4 (.v (.int t)) x7 y9 acc' s e (0 + (k : Int)) ⟨by omega, by omega⟩ (by omega)
  exact ⟨_, _, rfl, .inl tt, _, _, by simp; omega, rfl⟩)
 have hlen : (rangeD 0 t.toNat).length = t.toNat := by simp [rangeD]
 refine ⟨acc', y9, by omega, ?_⟩
 have okr : okR t := vE (by omega) (by omega)
 unfold K92.L_places.b2
 rw [vS (by simp), xW]
 generalize acc.map D.int = P at *
 simpa [okr] using e1
theorem plc_item (R0 R1 : Sl) {i : It} (ht : 1 <= i.2.2.2.1 /\ i.2.2.2.1 <= 5) (acc : List Int) (x8 x9 : Sl) (hz : acc.length + 20 <= 16777216) : ∃ (acc' : List Int) (y8 y9 : Sl), acc'.length <= acc.length + 20 /\ K92.L_places.b3 [R0, R1, .own (acc.map D.int), .v (oi i.1), .v (oi i.2.1), .v (.int i.2.2.1), .v (.int i.2.2.2.1), .v (.int i.2.2.2.2), x8, x9] = some (.nx [R0, R1, .own (acc'.map D.int), .v (oi i.1), .v (oi i.2.1), .v (.int i.2.2.1), .v (.int i.2.2.2.1), .v (.int i.2.2.2.2), y8, y9]) := by
 have one : ∀ (o : Option Int) (acc : List Int) (x9 : Sl), acc.length + 10 <= 16777216 -> ∃ (acc' : List Int) (y9 : Sl), acc'.length <= acc.length + 10 /\ K92.L_places.b2 [R0, R1, .own (acc.map D.int), .v (oi i.1), .v (oi i.2.1), .v (.int i.2.2.1), .v (.int i.2.2.2.1), .v (.int i.2.2.2.2), .v (oi o), x9] = some (.nx [R0, R1, .own (acc'.map D.int), .v (oi i.1), .v (oi i.2.1), .v (.int i.2.2.1), .v (.int i.2.2.2.1), .v (.int i.2.2.2.2), .v (oi o), y9]) := by
  intro o acc x9 hz
  cases o with
  | none =>
    refine ⟨acc, x9, by omega, ?_⟩
    unfold K92.L_places.b2
    generalize acc.map D.int = P at *
    rw [vQ (by simp)]
    rfl
  | some e => exact plc_end R0 R1 (.v (oi i.1)) (.v (oi i.2.1)) (.v (.int i.2.2.2.2)) _ _ ht e acc x9 hz
 obtain ⟨a1, y1, l1, e1⟩ := one i.1 acc x9 (by omega)
 obtain ⟨a2, y2, l2, e2⟩ := one i.2.1 a1 y1 (by omega)
 refine ⟨a2, .v (oi i.2.1), y2, by omega, ?_⟩
 unfold K92.L_places.b3
 generalize acc.map D.int = P at *
 generalize a1.map D.int = P1 at *
 generalize a2.map D.int = P2 at *
 rw [xW]
 simp [jD, e1, e2]
theorem plc_loop (R0 R1 : Sl) : ∀ (is : List It) (acc : List Int) (x3 x4 x5 x6 x7 x8 x9 : Sl), (∀ i ∈ is, 1 <= i.2.2.2.1 /\ i.2.2.2.1 <= 5) -> acc.length + 20 * is.length <= 16777216 -> ∃ (acc' : List Int) (y3 y4 y5 y6 y7 y8 y9 : Sl), acc'.length <= acc.length + 20 * is.length /\ jD (tupG 5 (zP (zT 3) (zP (zT 4) (zP (zT 5) (zP (zT 6) (zP (zT 7) tgNil)))))) K92.L_places.b3 (is.map itD) [R0, R1, .own (acc.map D.int), x3, x4, x5, x6, x7, x8, x9] = some (.nx [R0, R1, .own (acc'.map D.int), y3, y4, y5, y6, y7, y8, y9])
 | [], acc, x3, x4, x5, x6, x7, x8, x9, _, _ => ⟨acc, x3, x4, x5, x6, x7, x8, x9, by simp, by simp [jD]⟩
 | i :: is, acc, x3, x4, x5, x6, x7, x8, x9, h, hz => by
   simp only [List.length_cons] at hz
   obtain ⟨a1, y8, y9, l1, e1⟩ := plc_item R0 R1 (h i (.head _)) acc x8 x9 (by omega)
   obtain ⟨a2, z3, z4, z5, z6, z7, z8, z9, l2, e2⟩ := plc_loop R0 R1 is a1 (.v (oi i.1)) (.v (oi i.2.1)) (.v (.int i.2.2.1)) (.v (.int i.2.2.2.1)) (.v (.int i.2.2.2.2)) y8 y9 (fun q hq => h q (.tail _ hq)) (by omega)
   refine ⟨a2, z3, z4, z5, z6, z7, z8, z9, by simp only [List.length_cons]; omega, ?_⟩
   generalize acc.map D.int = P at *
   generalize a1.map D.int = P1 at *
   have g : tupG 5 (zP (zT 3) (zP (zT 4) (zP (zT 5) (zP (zT 6) (zP (zT 7) tgNil))))) (itD i) [R0, R1, .own P, x3, x4, x5, x6, x7, x8, x9] = some [R0, R1, .own P, .v (oi i.1), .v (oi i.2.1), .v (.int i.2.2.1), .v (.int i.2.2.2.1), .v (.int i.2.2.2.2), x8, x9] := by simp [itD]
   simp only [List.map_cons, jD, g, Option.bind_some, e1]
   exact e2
def pieceI (r : Rw) : It := (r.1, r.2.1, 0, 1, r.2.2.getD 0)
theorem places_ex {is : List It} {ps : List Rw} (h : ∀ i ∈ is, ItOk i) (hv : ∀ r ∈ ps, r.2.2 ≠ none) (h1 : is.length <= 1000) (h2 : ps.length <= 1000) : ∃ qs : List Int, K92.L_places.f [.lst (is.map itD), .lst (ps.map rwD)] = some (.fresh (qs.map D.int)) := by
 have cp : ∀ T : Sl, compG (viaA (qZ 1) asLT) [none, none, none] (tupG 3 (zP (zT 0) (zP (zT 1) (zP (zT 2) tgNil)))) (fun _ => some true) (mkT (qU (zG (qZ 0) (zG (qZ 1) (zG (zC (.int 0)) (zG (zC (.int 1)) (zG (qZ 2) qC))))))) [.v (.lst (is.map itD)), .v (.lst (ps.map rwD)), T, .no, .no, .no, .no, .no, .no, .no] = some ((ps.map pieceI).map itD) := by
  intro T
  rw [List.map_map]
  refine yO (items := ps.map rwD) (by simp) (by simp; omega) ?_
  refine yJ rwD (itD ∘ pieceI) ps fun r hr => ?_
  cases hw : r.2.2 with
  | none => exact (hv r hr hw).elim
  | some v =>
    refine ⟨[.v (oi r.1), .v (oi r.2.1), .v (.int v)], by simp [jK, rwD, hw], ?_⟩
    simp [itD, pieceI, hw]
 obtain ⟨acc', y3, y4, y5, y6, y7, y8, y9, _, e⟩ := plc_loop (.v (.lst (is.map itD))) (.v (.lst (ps.map rwD))) (is ++ ps.map pieceI) [-(10 ^ 63), 10 ^ 63] .no .no .no .no .no .no .no (by
  intro i hi
  rcases List.mem_append.mp hi with hi | hi
  · rcases (h i hi).cs with ⟨z, _⟩ | ⟨_, _, _, _, z1, z2, _⟩
    · omega
    · omega
  · obtain ⟨r, _, rfl⟩ := List.mem_map.mp hi
    simp [pieceI]) (by simp; omega)
 refine ⟨acc', jL ?_⟩
 have p63 : powD (.int 10) (.int 63) = some (.int (10 ^ 63)) := pow10 (by decide) (by decide)
 have ar : args 10 [.lst (is.map itD), .lst (ps.map rwD)] = [.v (.lst (is.map itD)), .v (.lst (ps.map rwD)), .no, .no, .no, .no, .no, .no, .no, .no] := by simp [args]
 rw [ar]
 unfold K92.L_places.g
 rw [qK (ds' := [.v (.lst (is.map itD)), .v (.lst (ps.map rwD)), .own ([-(10 ^ 63), 10 ^ 63].map D.int), .no, .no, .no, .no, .no, .no, .no]) (by
  generalize is.map itD = I at *
  generalize ps.map rwD = P at *
  simp [-Int.reducePow, -Nat.reducePow, p63])]
 have cp := cp (.own ([-(10 ^ 63), 10 ^ 63].map D.int))
 rw [List.map_append] at e
 have hz : (is.map itD).length + ((ps.map pieceI).map itD).length <= 16777216 := by simp; omega
 generalize [-(10 ^ 63 : Int), 10 ^ 63].map D.int = A0 at *
 generalize (ps.map pieceI).map itD = Q at *
 generalize is.map itD = I at *
 generalize ps.map rwD = P at *
 rw [qK (ds' := [.v (.lst I), .v (.lst P), .own (acc'.map D.int), y3, y4, y5, y6, y7, y8, y9]) (by
  rw [xW]
  simpa [cp, hz] using e)]
 have fl := flats_ints acc'
 generalize acc'.map D.int = A1 at *
 simp [fl]
theorem cut4 (ns : List Int) (hb : ∀ c ∈ ns, intBits c <= 1048576) (a : Nat) (h : a + 4 <= ns.length) : ∃ c0 c1 c2 c3 : Int, intBits c1 <= 1048576 /\ intBits c2 <= 1048576 /\ cutD (ns.map D.int) (some (a : Int)) (some ((a : Int) + 4)) = [.int c0, .int c1, .int c2, .int c3] := by
 have e : cutD (ns.map D.int) (some (a : Int)) (some ((a : Int) + 4)) = ((ns.drop a).take 4).map D.int := by
  have e1 : HT.sIx (ns.map D.int).length 0 (some (a : Int)) = a := by
   unfold HT.sIx
   simp only [List.length_map]
   rw [if_neg (by omega)]
   omega
  have e2 : HT.sIx (ns.map D.int).length (ns.map D.int).length (some ((a : Int) + 4)) = a + 4 := by
   unfold HT.sIx
   simp only [List.length_map]
   rw [if_neg (by omega)]
   omega
  unfold FL.cutD
  rw [e1, e2, List.map_take, List.map_drop]
  congr 1
  omega
 have hl : ((ns.drop a).take 4).length = 4 := by simp; omega
 have hm : ∀ c ∈ (ns.drop a).take 4, intBits c <= 1048576 := fun c hc => hb c (List.mem_of_mem_drop (List.mem_of_mem_take hc))
 rw [e]
 generalize (ns.drop a).take 4 = l at *
 match l, hl, hm with
 | [c0, c1, c2, c3], _, hm => exact ⟨c0, c1, c2, c3, hm c1 (by simp), hm c2 (by simp), rfl⟩
abbrev Pr := It × List Nat
def prI (q : Pr) : D := itD q.1
def prT (q : Pr) : D := .str (txS q.2)
def PrOk (q : Pr) : Prop := ItOk q.1 /\ ItemOk q.2 (rowsI q.1)
theorem law_turn (ns : List Int) (hb : ∀ c ∈ ns, intBits c <= 1048576) {b : Int} (hB : -(10 ^ 58) <= b /\ b <= 10 ^ 58) (P : List Pr) (k : Nat) (hk : 2 + k * 4 + 4 <= ns.length) (hk2 : k <= 100) (hz : P.length < 10000) : ∃ q : Pr, PrOk q ∧
  K92.law.b1 [.v (.lst (ns.map D.int)), .v (.int b), .own (P.map prI), .own (P.map prT), .v (.int (2 + (k : Int) * 4)), .no, .no, .no, .no, .no] = some (.nx [.v (.lst (ns.map D.int)), .v (.int b), .own ((P ++ [q]).map prI), .own ((P ++ [q]).map prT), .v (.int (2 + (k : Int) * 4)), .no, .no, .no, .no, .no]) := by
 obtain ⟨c0, c1, c2, c3, b1, b2, sl⟩ := cut4 ns hb (2 + k * 4) hk
 have ek : (((2 + k * 4 : Nat)) : Int) = 2 + (k : Int) * 4 := by omega
 rw [ek] at sl
 obtain ⟨i, hi, ei⟩ := item_ex (c0 := c0) (c3 := c3) hB b1 b2
 have cc : GL.cell_at.f [.lst (ns.map D.int), .int 1] = some (.val (.int (cel ns 1))) := cell_eq ns 1
 have kz : (0 : Int) < 2 + (k : Int) * 4 + 1 := by omega
 have ky : 2 + (k : Int) * 4 + 1 < 1000000000 := by omega
 have fd := fdivD_small (cel ns 1) kz ky
 generalize 2 + (k : Int) * 4 = kk at *
 obtain ⟨w, ew, hw⟩ := text_ex hi (cel ns 1 / (kk + 1))
 refine ⟨(i, w), ⟨hi, hw⟩, ?_⟩
 have z1 : (P.map prI).length < 16777216 := by simp; omega
 have z2 : (P.map prT).length < 16777216 := by simp; omega
 have la : ixD (.lst (P.map prI ++ [itD i])) (.int (-1)) = some (itD i) := ixL_last _ _
 have p1 : (P ++ [(i, w)]).map prI = P.map prI ++ [itD i] := by simp [prI]
 have p2 : (P ++ [(i, w)]).map prT = P.map prT ++ [.str (txS w)] := by simp [prT]
 rw [p1, p2]
 generalize P.map prI = A at *
 generalize P.map prT = T at *
 generalize ns.map D.int = NS at *
 generalize txS w = X at *
 generalize itD i = ID at *
 generalize cel ns 1 = c1' at *
 unfold K92.law.b1
 rw [qK (ds' := [.v (.lst NS), .v (.int b), .own (A ++ [ID]), .own T, .v (.int kk), .no, .no, .no, .no, .no]) (by simp [sl, ei, z1])]
 simp [la, cc, fd, ew, z2]
theorem due_val {is : List It} (h : ∀ i ∈ is, ItOk i) (hl : (is.flatMap rowsI).length <= 1000) (p : Int) : valL (formedF (is.flatMap rowsI)) p = dueI is p := by
 have d := due_items p is.reverse fun i hi => h i (List.mem_reverse.mp hi)
 rw [List.reverse_reverse] at d
 rw [val_due (fun r hr => by
  obtain ⟨i, hi, hr⟩ := List.mem_flatMap.mp hr
  exact rowsI_ok (h i hi) r hr) hl, d]
 rfl
theorem rows_len : ∀ {is : List It}, (∀ i ∈ is, ItOk i) -> (is.flatMap rowsI).length <= 5 * is.length
 | [], _ => by simp
 | i :: is, h => by
   have := rowsI_len (h i (.head _))
   have ih := rows_len (is := is) fun q hq => h q (.tail _ hq)
   simp only [List.flatMap_cons, List.length_append, List.length_cons]
   omega
theorem is_map4_eq (ps : List Rw) (h : MapF ps) (hl : ps.length <= 1000) : GL.is_map4.f [.lst (ps.map rwD)] = some (.val (.bl true)) := is_map3_eq ps h hl
theorem neD_oi (o : Option Int) : neD (oi o) (oi o) = some (.bl false) := by
 rw [vV (by cases o <;> simp) (by cases o <;> simp)]
 cases o <;> simp
theorem run_law (ns : List Int) (hl : ns.length <= 63) (hb : ∀ c ∈ ns, intBits c <= 1048576) : K92.law.f [.lst (ns.map D.int)] = some (.val (.bl true)) := by
 have c0 : GL.cell_at.f [.lst (ns.map D.int), .int 0] = some (.val (.int (cel ns 0))) := cell_eq ns 0
 obtain ⟨b, hB1, hB2, eb⟩ := number_ex (cel ns 0) (bits_cell hb 0)
 obtain ⟨N, hN⟩ : ∃ N, steps3 2 (min ((ns.length : Int) - 3) 34) 4 = N := ⟨_, rfl⟩
 have hNb : ∀ k, k < N -> 2 + k * 4 + 4 <= ns.length := fun k hk => by
  rw [<- hN] at hk
  unfold steps3 at hk
  split at hk
  · omega
  · omega
 have hN2 : N <= 8 := by
  rw [<- hN]
  unfold steps3
  split
  · omega
  · omega
 have rl : (range3D 2 4 N).length = N := by simp [range3D]
 obtain ⟨ds', elp, P, y4, hPl, hP, rfl⟩ := vI (ga := zT 4) (body := K92.law.b1) (fun n ds => ∃ (P : List Pr) (y4 : Sl), P.length = n /\ (∀ q ∈ P, PrOk q) /\ ds = [.v (.lst (ns.map D.int)), .v (.int b), .own (P.map prI), .own (P.map prT), y4, .no, .no, .no, .no, .no]) (range3D 2 4 N) 0 [.v (.lst (ns.map D.int)), .v (.int b), .own [], .own [], .no, .no, .no, .no, .no, .no] ⟨[], .no, rfl, (fun _ h => nomatch h), rfl⟩ (by
  rintro d hd m _ hm ⟨P, y4, hPl, hP, rfl⟩
  obtain ⟨k, hk, rfl⟩ := mem_range3 hd
  obtain ⟨q, hq, e⟩ := law_turn ns hb ⟨hB1, hB2⟩ P k (hNb k hk) (by omega) (by omega)
  exact ⟨_, _, rfl, .inl e, P ++ [q], _, by simp [hPl], (fun x hx => by
   rcases List.mem_append.mp hx with hx | hx
   · exact hP x hx
   · rw [List.mem_singleton.mp hx]; exact hq), rfl⟩)
 rw [rl] at hPl
 have okr : okR3 2 (min ((ns.length : Int) - 3) 34) 4 := okR3_small (by omega) (by omega) (by omega) (by omega) (by omega) (by omega)
 have iok : ∀ i ∈ P.map (·.1), ItOk i := fun i hi => by obtain ⟨q, hq, rfl⟩ := List.mem_map.mp hi; exact (hP q hq).1
 have fm : (P.map fun q => (q.2, rowsI q.1)).flatMap (·.2) = (P.map (·.1)).flatMap rowsI := by rw [List.flatMap_map, List.flatMap_map]
 have fm1 : (P.map fun q => (q.2, rowsI q.1)).map (·.1) = P.map (·.2) := by rw [List.map_map]; rfl
 have rlen := rows_len iok
 rw [List.length_map] at rlen
 have rd := read_map_eq (its := P.map fun q => (q.2, rowsI q.1)) (fun i hi => by obtain ⟨q, hq, rfl⟩ := List.mem_map.mp hi; exact (hP q hq).2) (by simp; omega) (by rw [fm]; omega)
 rw [fm, fm1] at rd
 have rok : ∀ r ∈ (P.map (·.1)).flatMap rowsI, okS r.1 := fun r hr => by
  obtain ⟨i, hi, hr⟩ := List.mem_flatMap.mp hr
  exact rowsI_ok (iok i hi) r hr
 obtain ⟨_, mp, ml⟩ := vK ((P.map (·.1)).flatMap rowsI) rok (by omega)
 have eb2 : ∀ r ∈ formedF ((P.map (·.1)).flatMap rowsI), EB (10 ^ 60 - 1) r := formed_eb fun r hr => by
  obtain ⟨i, hi, hr⟩ := List.mem_flatMap.mp hr
  exact rowsI_eb (iok i hi) r hr
 have dv := due_val iok (by omega)
 have js := wZ (ws := P.map (·.2)) (fun w hw => by obtain ⟨q, hq, rfl⟩ := List.mem_map.mp hw; exact (hP q hq).2.2.2.2.1) (by simp; omega)
 have jm : (P.map (·.2)).map (fun w => D.str (txS w)) = P.map prT := by rw [List.map_map]; rfl
 have im : (P.map (·.1)).map itD = P.map prI := by rw [List.map_map]; rfl
 rw [jm] at js
 have du := fun p => due_eqI iok p
 have vq := fun p => value_eqI mp.ord p mp.val
 obtain ⟨qs, pq⟩ := places_ex iok mp.val (by simp; omega) (show (formedF ((P.map (·.1)).flatMap rowsI)).length <= 1000 by omega)
 rw [im] at pq
 obtain ⟨its, eits, hits⟩ := pieces_t mp.val eb2
 generalize formedF ((P.map (·.1)).flatMap rowsI) = M at *
 have il : its.length <= 80 := by have := congrArg List.length eits; rw [List.length_map] at this; omega
 have sh := show_map_eq hits (by omega)
 have rs := read_shown hits (by rw [eits]; exact mp) (by omega)
 rw [eits] at sh rs
 have asc : Asc (join2 (its.map (·.2))) := vH fun w hw => by
  obtain ⟨i, hi, rfl⟩ := List.mem_map.mp hw
  have hm : i.1 ∈ M := by rw [<- eits]; exact List.mem_map.mpr ⟨i, hi, rfl⟩
  exact (piece_item (mp.ord.ok _ hm) (hits i hi)).1
 have neX : neD (.str (txS (join2 (its.map (·.2))))) (.str (txS (join2 (its.map (·.2))))) = some (.bl false) := by
  rw [ne_tx asc asc]; simp
 have js2 := wZ (ws := its.map (·.2)) (fun w hw => by obtain ⟨i, hi, rfl⟩ := List.mem_map.mp hw; exact (hits i hi).len) (by simp; omega)
 have cp : ∀ (a0 a1 a2 a3 a4 a6 a7 a8 a9 : Sl), compG (viaA (qZ 5) asLT) [none, none, none] (tupG 3 (zP (zT 0) (zP (zT 1) (zP (zT 2) tgNil)))) (fun _ => some true) (qO 2 K92.L_text.f (zG (mkT (qU (zG (qZ 0) (zG (qZ 1) (zG (zC (.int 0)) (zG (zC (.int 1)) (zG (qZ 2) qC))))))) (zG (zC (.int 0)) qC))) [a0, a1, a2, a3, a4, .v (.lst (M.map rwD)), a6, a7, a8, a9] = some ((its.map (·.2)).map fun w => .str (txS w)) := by
  intro a0 a1 a2 a3 a4 a6 a7 a8 a9
  rw [List.map_map, <- eits, List.map_map]
  refine yO (items := its.map (rwD ∘ (·.1))) (by simp) (by simp; omega) ?_
  refine yJ (rwD ∘ fun (i : Rw × List Nat) => i.1) _ its fun i hi => ?_
  have tp := text_piece (hits i hi) (eb2 i.1 (by rw [<- eits]; exact List.mem_map.mpr ⟨i, hi, rfl⟩))
  obtain ⟨⟨lo, bh, w⟩, t⟩ := i
  simp only at tp
  refine ⟨[.v (oi lo), .v (oi bh), .v (oi w)], by simp [jK, rwD], ?_⟩
  show qO 2 K92.L_text.f _ _ = some (.str (txS t))
  generalize txS t = X at *
  simp [tp]
 have mq := is_map4_eq M mp (by omega)
 have eqM := eqD_rw M M
 have neM := neD_rw M M
 rw [decide_eq_true rfl] at eqM neM
 have kit := kitS.1
 have flM := yW M
 have lp : ∀ (x : Sl), ∃ y, jD (zT 6) K92.law.b2 (qs.map D.int) [.v (.lst (ns.map D.int)), .v (.int b), .own (P.map prI), .own (P.map prT), y4, .own (M.map rwD), x, .no, .no, .no] = some (.nx [.v (.lst (ns.map D.int)), .v (.int b), .own (P.map prI), .own (P.map prT), y4, .own (M.map rwD), y, .no, .no, .no]) := by
  intro x
  obtain ⟨ds', e, y, rfl⟩ := kE (ga := zT 6) (body := K92.law.b2) (fun ds => ∃ y, ds = [.v (.lst (ns.map D.int)), .v (.int b), .own (P.map prI), .own (P.map prT), y4, .own (M.map rwD), y, .no, .no, .no]) (qs.map D.int) [.v (.lst (ns.map D.int)), .v (.int b), .own (P.map prI), .own (P.map prT), y4, .own (M.map rwD), x, .no, .no, .no] ⟨x, rfl⟩ (by
   rintro d hd _ ⟨y, rfl⟩
   obtain ⟨p, _, rfl⟩ := List.mem_map.mp hd
   refine ⟨_, [.v (.lst (ns.map D.int)), .v (.int b), .own (P.map prI), .own (P.map prT), y4, .own (M.map rwD), .v (.int p), .no, .no, .no], rfl, .inl ?_, _, rfl⟩
   have d1 := du p
   rw [im] at d1
   have v1 := vq p
   rw [dv p] at v1
   have ne := neD_oi (dueI (P.map (·.1)) p)
   unfold K92.law.b2
   generalize P.map prI = A at *
   generalize P.map prT = T at *
   generalize ns.map D.int = NS at *
   generalize M.map rwD = MD at *
   generalize oi (dueI (P.map (·.1)) p) = O at *
   simp [v1, d1, ne])
  exact ⟨y, e⟩
 obtain ⟨y6, lp⟩ := lp .no
 suffices G : Good K92.law.g (args 10 [.lst (ns.map D.int)]) (fun r => r = .val (.bl true)) by
  obtain ⟨r, e, rfl⟩ := G
  exact jL e
 have ar : args 10 [.lst (ns.map D.int)] = [.v (.lst (ns.map D.int)), .no, .no, .no, .no, .no, .no, .no, .no, .no] := by simp [args]
 have nl : (ns.map D.int).length = ns.length := List.length_map _
 rw [ar]
 unfold K92.law.g
 clear du vq dv eits hits asc mp ml eb2 rok iok
 generalize cel ns 0 = cc at *
 generalize ns.map D.int = NS at *
 generalize P.map prI = A at *
 generalize P.map prT = T at *
 generalize M.map rwD = MD at *
 generalize txS (join2 (P.map (·.2))) = XT at *
 generalize txS (join2 (its.map (·.2))) = XS at *
 generalize ((its.map (·.2)).map fun w => D.str (txS w)) = SL at *
 generalize qs.map D.int = QD at *
 refine jB (ds' := [.v (.lst NS), .v (.int b), .no, .no, .no, .no, .no, .no, .no, .no]) (by simp [c0, eb]) ?_
 refine jB (ds' := [.v (.lst NS), .v (.int b), .own [], .no, .no, .no, .no, .no, .no, .no]) (by simp) ?_
 refine jB (ds' := [.v (.lst NS), .v (.int b), .own [], .own [], .no, .no, .no, .no, .no, .no]) (by simp) ?_
 refine jB (ds' := [.v (.lst NS), .v (.int b), .own A, .own T, y4, .no, .no, .no, .no, .no]) (by
  rw [xW]
  have e1 : rng3 (zC (.int 2)) (callB mnD (zG (zK subD (callB lenD (zG (zL 0) qC)) (zC (.int 3))) (zG (zC (.int 34)) qC))) (zC (.int 4)) [.v (.lst NS), .v (.int b), .own [], .own [], .no, .no, .no, .no, .no, .no] = some (range3D 2 4 N) := by
   simp [rng3, nl, okr, hN]
  rw [e1]
  exact elp) ?_
 refine jB (ds' := [.v (.lst NS), .v (.int b), .own A, .own T, y4, .own MD, .no, .no, .no, .no]) (by simp [js, rd]) ?_
 refine jB (ds' := [.v (.lst NS), .v (.int b), .own A, .own T, y4, .own MD, .no, .no, .no, .no]) (by simp [mq]) ?_
 refine jB (ds' := [.v (.lst NS), .v (.int b), .own A, .own T, y4, .own MD, y6, .no, .no, .no]) (by
  rw [xW]
  have e1 : viaA (qO 2 K92.L_places.f (zG (zL 2) (zG (zL 5) qC))) asLT [.v (.lst NS), .v (.int b), .own A, .own T, y4, .own MD, .no, .no, .no, .no] = some QD := by simp [pq]
  rw [e1]
  exact lp) ?_
 refine jB (ds' := [.v (.lst NS), .v (.int b), .own A, .own T, y4, .own MD, y6, .v (.str XS), .no, .no]) (by simp [sh]) ?_
 refine jB (ds' := [.v (.lst NS), .v (.int b), .own A, .own T, y4, .own MD, y6, .v (.str XS), .v (.str XS), .no]) (by simp [relV, relS, cp, js2]) ?_
 refine jB (ds' := [.v (.lst NS), .v (.int b), .own A, .own T, y4, .own MD, y6, .v (.str XS), .v (.str XS), .no]) (by simp [kit, neX, rs, neM]) ?_
 refine jB (ds' := [.v (.lst NS), .v (.int b), .own A, .own T, y4, .own MD, y6, .v (.str XS), .v (.str XS), .v (.lst MD)]) (by simp) ?_
 refine jB (ds' := [.v (.lst NS), .v (.int b), .own A, .own T, y4, .own [], y6, .v (.str XS), .v (.str XS), .v (.lst MD)]) (by simp) ?_
 exact ⟨_, by simp [js, rd, rs, eqM], rfl⟩
end K92
namespace K92
open PySem PyProof.Rows L2 FL
set_option maxHeartbeats 0 in
theorem all_mk {l : PySem.W.OpenLaw} {w : World} {K : PySem.W.Frag} {h : Heap} {mg : Str -> Option Value} {fa : Addr} (X : K.In h) (G : h.Ns mainGlobals mg) (hfa : mg "law" = some (.ref fa))
  {K7 : Addr}
  {K8 : Addr}
  {K9 : Addr}
  {K10 : Addr}
  {f0 : Addr} {od0 an0 : Option Addr} {sl0 : Array (Option Value)} {oc0 kV0 dc0 pm0 cd0 ct0 : Value}
  {f1 : Addr} {od1 an1 : Option Addr} {sl1 : Array (Option Value)} {oc1 kV1 dc1 pm1 cd1 ct1 : Value}
  {f2 : Addr} {od2 an2 : Option Addr} {sl2 : Array (Option Value)} {oc2 kV2 dc2 pm2 cd2 ct2 : Value}
  {f3 : Addr} {od3 an3 : Option Addr} {sl3 : Array (Option Value)} {oc3 kV3 dc3 pm3 cd3 ct3 : Value}
  {f4 : Addr} {od4 an4 : Option Addr} {sl4 : Array (Option Value)} {oc4 kV4 dc4 pm4 cd4 ct4 : Value}
  {f5 : Addr} {od5 an5 : Option Addr} {sl5 : Array (Option Value)} {oc5 kV5 dc5 pm5 cd5 ct5 : Value}
  {f6 : Addr} {od6 an6 : Option Addr} {sl6 : Array (Option Value)} {oc6 kV6 dc6 pm6 cd6 ct6 : Value}
  {f7 : Addr} {od7 an7 : Option Addr} {sl7 : Array (Option Value)} {oc7 kV7 dc7 pm7 cd7 ct7 : Value}
  {f8 : Addr} {od8 an8 : Option Addr} {sl8 : Array (Option Value)} {oc8 kV8 dc8 pm8 cd8 ct8 : Value}
  {f9 : Addr} {od9 an9 : Option Addr} {sl9 : Array (Option Value)} {oc9 kV9 dc9 pm9 cd9 ct9 : Value}
  {f10 : Addr} {od10 an10 : Option Addr} {sl10 : Array (Option Value)} {oc10 kV10 dc10 pm10 cd10 ct10 : Value}
  {f11 : Addr} {od11 an11 : Option Addr} {sl11 : Array (Option Value)} {oc11 kV11 dc11 pm11 cd11 ct11 : Value}
  {f12 : Addr} {od12 an12 : Option Addr} {sl12 : Array (Option Value)} {oc12 kV12 dc12 pm12 cd12 ct12 : Value}
  {f13 : Addr} {od13 an13 : Option Addr} {sl13 : Array (Option Value)} {oc13 kV13 dc13 pm13 cd13 ct13 : Value}
  {f14 : Addr} {od14 an14 : Option Addr} {sl14 : Array (Option Value)} {oc14 kV14 dc14 pm14 cd14 ct14 : Value}
  {f15 : Addr} {od15 an15 : Option Addr} {sl15 : Array (Option Value)} {oc15 kV15 dc15 pm15 cd15 ct15 : Value}
  {f16 : Addr} {od16 an16 : Option Addr} {sl16 : Array (Option Value)} {oc16 kV16 dc16 pm16 cd16 ct16 : Value}
  {f17 : Addr} {od17 an17 : Option Addr} {sl17 : Array (Option Value)} {oc17 kV17 dc17 pm17 cd17 ct17 : Value}
  {f18 : Addr} {od18 an18 : Option Addr} {sl18 : Array (Option Value)} {oc18 kV18 dc18 pm18 cd18 ct18 : Value}
  {f19 : Addr} {od19 an19 : Option Addr} {sl19 : Array (Option Value)} {oc19 kV19 dc19 pm19 cd19 ct19 : Value}
  {f20 : Addr} {od20 an20 : Option Addr} {sl20 : Array (Option Value)} {oc20 kV20 dc20 pm20 cd20 ct20 : Value}
  {f21 : Addr} {od21 an21 : Option Addr} {sl21 : Array (Option Value)} {oc21 kV21 dc21 pm21 cd21 ct21 : Value}
  {f22 : Addr} {od22 an22 : Option Addr} {sl22 : Array (Option Value)} {oc22 kV22 dc22 pm22 cd22 ct22 : Value}
  {f23 : Addr} {od23 an23 : Option Addr} {sl23 : Array (Option Value)} {oc23 kV23 dc23 pm23 cd23 ct23 : Value}
  {f24 : Addr} {od24 an24 : Option Addr} {sl24 : Array (Option Value)} {oc24 kV24 dc24 pm24 cd24 ct24 : Value}
  {f25 : Addr} {od25 an25 : Option Addr} {sl25 : Array (Option Value)} {oc25 kV25 dc25 pm25 cd25 ct25 : Value}
  {f26 : Addr} {od26 an26 : Option Addr} {sl26 : Array (Option Value)} {oc26 kV26 dc26 pm26 cd26 ct26 : Value}
  {f27 : Addr} {od27 an27 : Option Addr} {sl27 : Array (Option Value)} {oc27 kV27 dc27 pm27 cd27 ct27 : Value}
  {f28 : Addr} {od28 an28 : Option Addr} {sl28 : Array (Option Value)} {oc28 kV28 dc28 pm28 cd28 ct28 : Value}
  {f29 : Addr} {od29 an29 : Option Addr} {sl29 : Array (Option Value)} {oc29 kV29 dc29 pm29 cd29 ct29 : Value}
  {f30 : Addr} {od30 an30 : Option Addr} {sl30 : Array (Option Value)} {oc30 kV30 dc30 pm30 cd30 ct30 : Value}
  {f31 : Addr} {od31 an31 : Option Addr} {sl31 : Array (Option Value)} {oc31 kV31 dc31 pm31 cd31 ct31 : Value}
  {f32 : Addr} {od32 an32 : Option Addr} {sl32 : Array (Option Value)} {oc32 kV32 dc32 pm32 cd32 ct32 : Value}
  {f33 : Addr} {od33 an33 : Option Addr} {sl33 : Array (Option Value)} {oc33 kV33 dc33 pm33 cd33 ct33 : Value}
  {f34 : Addr} {od34 an34 : Option Addr} {sl34 : Array (Option Value)} {oc34 kV34 dc34 pm34 cd34 ct34 : Value}
  {f35 : Addr} {od35 an35 : Option Addr} {sl35 : Array (Option Value)} {oc35 kV35 dc35 pm35 cd35 ct35 : Value}
  {f36 : Addr} {od36 an36 : Option Addr} {sl36 : Array (Option Value)} {oc36 kV36 dc36 pm36 cd36 ct36 : Value}
  {f37 : Addr} {od37 an37 : Option Addr} {sl37 : Array (Option Value)} {oc37 kV37 dc37 pm37 cd37 ct37 : Value}
  {f38 : Addr} {od38 an38 : Option Addr} {sl38 : Array (Option Value)} {oc38 kV38 dc38 pm38 cd38 ct38 : Value}
  {f39 : Addr} {od39 an39 : Option Addr} {sl39 : Array (Option Value)} {oc39 kV39 dc39 pm39 cd39 ct39 : Value}
  {f40 : Addr} {od40 an40 : Option Addr} {sl40 : Array (Option Value)} {oc40 kV40 dc40 pm40 cd40 ct40 : Value}
  {f41 : Addr} {od41 an41 : Option Addr} {sl41 : Array (Option Value)} {oc41 kV41 dc41 pm41 cd41 ct41 : Value}
  {f42 : Addr} {od42 an42 : Option Addr} {sl42 : Array (Option Value)} {oc42 kV42 dc42 pm42 cd42 ct42 : Value}
  {f43 : Addr} {od43 an43 : Option Addr} {sl43 : Array (Option Value)} {oc43 kV43 dc43 pm43 cd43 ct43 : Value}
  {f44 : Addr} {od44 an44 : Option Addr} {sl44 : Array (Option Value)} {oc44 kV44 dc44 pm44 cd44 ct44 : Value}
  {f45 : Addr} {od45 an45 : Option Addr} {sl45 : Array (Option Value)} {oc45 kV45 dc45 pm45 cd45 ct45 : Value}
  {t0 : Tok}
  {t1 : Tok}
  {t2 : Tok}
  {t3 : Tok}
  (n7 : PySem.W.nsIn K mainGlobals "Shut" = some (some (.ref K7))) (pg7 : PySem.W.plainGet K K7 Str.empty = true) (hd7 : PySem.W.hasDictIn K K7 = true) (po7 : PySem.W.plainOver K K7 = true) (sa7 : PySem.W.findIn K (.ref K7) "__setattr__" = some (some (.builtin "object.__setattr__")))
  (na7_place : PySem.W.findIn K (.ref K7) "place" = some none)
  (n8 : PySem.W.nsIn K mainGlobals "Open" = some (some (.ref K8))) (pg8 : PySem.W.plainGet K K8 Str.empty = true) (hd8 : PySem.W.hasDictIn K K8 = true) (po8 : PySem.W.plainOver K K8 = true) (sa8 : PySem.W.findIn K (.ref K8) "__setattr__" = some (some (.builtin "object.__setattr__")))
  (na8_place : PySem.W.findIn K (.ref K8) "place" = some none)
  (n9 : PySem.W.nsIn K mainGlobals "Endless" = some (some (.ref K9))) (pg9 : PySem.W.plainGet K K9 Str.empty = true) (hd9 : PySem.W.hasDictIn K K9 = true) (po9 : PySem.W.plainOver K K9 = true) (sa9 : PySem.W.findIn K (.ref K9) "__setattr__" = some (some (.builtin "object.__setattr__")))
  (n10 : PySem.W.nsIn K mainGlobals "End" = some (some (.ref K10))) (pg10 : PySem.W.plainGet K K10 Str.empty = true) (hd10 : PySem.W.hasDictIn K K10 = true) (po10 : PySem.W.plainOver K K10 = true) (sa10 : PySem.W.findIn K (.ref K10) "__setattr__" = some (some (.builtin "object.__setattr__")))
  (a0 : PySem.W.findIn K (.ref K10) "low" = some (some (.ref f0))) (l0 : K.lookup f0 = some ⟨oc0, od0, .func (PySem.W.fnOf "low" "End.low" (zU (inClass (top 1) 0)) (zH (inClass (top 1) 0)) (zA (inClass (top 1) 0)) .none kV0 dc0 pm0 an0 cd0 ct0), sl0⟩) (c0 : PySem.W.codeIn K cd0 "End.low" = true) (k0 : PySem.W.keepIn K (.ref f0) = true)
  (i0 : PySem.W.isFn K (.ref f0) = true)
  (a1 : PySem.W.findIn K (.ref K10) "behind" = some (some (.ref f1))) (l1 : K.lookup f1 = some ⟨oc1, od1, .func (PySem.W.fnOf "behind" "End.behind" (zU (inClass (top 1) 1)) (zH (inClass (top 1) 1)) (zA (inClass (top 1) 1)) .none kV1 dc1 pm1 an1 cd1 ct1), sl1⟩) (c1 : PySem.W.codeIn K cd1 "End.behind" = true) (k1 : PySem.W.keepIn K (.ref f1) = true)
  (i1 : PySem.W.isFn K (.ref f1) = true)
  (a2 : PySem.W.findIn K (.ref K7) "__init__" = some (some (.ref f2))) (l2 : K.lookup f2 = some ⟨oc2, od2, .func (PySem.W.fnOf "__init__" "Shut.__init__" (zU (inClass (top 2) 0)) (zH (inClass (top 2) 0)) (zA (inClass (top 2) 0)) .none kV2 dc2 pm2 an2 cd2 ct2), sl2⟩) (c2 : PySem.W.codeIn K cd2 "Shut.__init__" = true) (k2 : PySem.W.keepIn K (.ref f2) = true)
  (i2 : PySem.W.isFn K (.ref f2) = true)
  (a3 : PySem.W.findIn K (.ref K7) "low" = some (some (.ref f3))) (l3 : K.lookup f3 = some ⟨oc3, od3, .func (PySem.W.fnOf "low" "Shut.low" (zU (inClass (top 2) 1)) (zH (inClass (top 2) 1)) (zA (inClass (top 2) 1)) .none kV3 dc3 pm3 an3 cd3 ct3), sl3⟩) (c3 : PySem.W.codeIn K cd3 "Shut.low" = true) (k3 : PySem.W.keepIn K (.ref f3) = true)
  (i3 : PySem.W.isFn K (.ref f3) = true)
  (a4 : PySem.W.findIn K (.ref K7) "behind" = some (some (.ref f4))) (l4 : K.lookup f4 = some ⟨oc4, od4, .func (PySem.W.fnOf "behind" "Shut.behind" (zU (inClass (top 2) 2)) (zH (inClass (top 2) 2)) (zA (inClass (top 2) 2)) .none kV4 dc4 pm4 an4 cd4 ct4), sl4⟩) (c4 : PySem.W.codeIn K cd4 "Shut.behind" = true) (k4 : PySem.W.keepIn K (.ref f4) = true)
  (i4 : PySem.W.isFn K (.ref f4) = true)
  (a5 : PySem.W.findIn K (.ref K8) "__init__" = some (some (.ref f5))) (l5 : K.lookup f5 = some ⟨oc5, od5, .func (PySem.W.fnOf "__init__" "Open.__init__" (zU (inClass (top 3) 0)) (zH (inClass (top 3) 0)) (zA (inClass (top 3) 0)) .none kV5 dc5 pm5 an5 cd5 ct5), sl5⟩) (c5 : PySem.W.codeIn K cd5 "Open.__init__" = true) (k5 : PySem.W.keepIn K (.ref f5) = true)
  (i5 : PySem.W.isFn K (.ref f5) = true)
  (a6 : PySem.W.findIn K (.ref K8) "low" = some (some (.ref f6))) (l6 : K.lookup f6 = some ⟨oc6, od6, .func (PySem.W.fnOf "low" "Open.low" (zU (inClass (top 3) 1)) (zH (inClass (top 3) 1)) (zA (inClass (top 3) 1)) .none kV6 dc6 pm6 an6 cd6 ct6), sl6⟩) (c6 : PySem.W.codeIn K cd6 "Open.low" = true) (k6 : PySem.W.keepIn K (.ref f6) = true)
  (i6 : PySem.W.isFn K (.ref f6) = true)
  (a7 : PySem.W.findIn K (.ref K8) "behind" = some (some (.ref f7))) (l7 : K.lookup f7 = some ⟨oc7, od7, .func (PySem.W.fnOf "behind" "Open.behind" (zU (inClass (top 3) 2)) (zH (inClass (top 3) 2)) (zA (inClass (top 3) 2)) .none kV7 dc7 pm7 an7 cd7 ct7), sl7⟩) (c7 : PySem.W.codeIn K cd7 "Open.behind" = true) (k7 : PySem.W.keepIn K (.ref f7) = true)
  (i7 : PySem.W.isFn K (.ref f7) = true)
  (a8 : PySem.W.findIn K (.ref K9) "low" = some (some (.ref f8))) (l8 : K.lookup f8 = some ⟨oc8, od8, .func (PySem.W.fnOf "low" "Endless.low" (zU (inClass (top 4) 0)) (zH (inClass (top 4) 0)) (zA (inClass (top 4) 0)) .none kV8 dc8 pm8 an8 cd8 ct8), sl8⟩) (c8 : PySem.W.codeIn K cd8 "Endless.low" = true) (k8 : PySem.W.keepIn K (.ref f8) = true)
  (i8 : PySem.W.isFn K (.ref f8) = true)
  (a9 : PySem.W.findIn K (.ref K9) "behind" = some (some (.ref f9))) (l9 : K.lookup f9 = some ⟨oc9, od9, .func (PySem.W.fnOf "behind" "Endless.behind" (zU (inClass (top 4) 1)) (zH (inClass (top 4) 1)) (zA (inClass (top 4) 1)) .none kV9 dc9 pm9 an9 cd9 ct9), sl9⟩) (c9 : PySem.W.codeIn K cd9 "Endless.behind" = true) (k9 : PySem.W.keepIn K (.ref f9) = true)
  (i9 : PySem.W.isFn K (.ref f9) = true)
  (a10 : PySem.W.nsIn K mainGlobals "ends_ahead" = some (some (.ref f10))) (l10 : K.lookup f10 = some ⟨oc10, od10, .func (PySem.W.fnOf "ends_ahead" "ends_ahead" (zU (top 15)) (zH (top 15)) (zA (top 15)) .none kV10 dc10 pm10 an10 cd10 ct10), sl10⟩) (c10 : PySem.W.codeIn K cd10 "ends_ahead" = true) (k10 : PySem.W.keepIn K (.ref f10) = true)
  (a11 : PySem.W.nsIn K mainGlobals "span" = some (some (.ref f11))) (l11 : K.lookup f11 = some ⟨oc11, od11, .func (PySem.W.fnOf "span" "span" (zU (top 12)) (zH (top 12)) (zA (top 12)) .none kV11 dc11 pm11 an11 cd11 ct11), sl11⟩) (c11 : PySem.W.codeIn K cd11 "span" = true) (k11 : PySem.W.keepIn K (.ref f11) = true)
  (a12 : PySem.W.nsIn K mainGlobals "later_low" = some (some (.ref f12))) (l12 : K.lookup f12 = some ⟨oc12, od12, .func (PySem.W.fnOf "later_low" "later_low" (zU (top 16)) (zH (top 16)) (zA (top 16)) .none kV12 dc12 pm12 an12 cd12 ct12), sl12⟩) (c12 : PySem.W.codeIn K cd12 "later_low" = true) (k12 : PySem.W.keepIn K (.ref f12) = true)
  (a13 : PySem.W.nsIn K mainGlobals "earlier_behind" = some (some (.ref f13))) (l13 : K.lookup f13 = some ⟨oc13, od13, .func (PySem.W.fnOf "earlier_behind" "earlier_behind" (zU (top 17)) (zH (top 17)) (zA (top 17)) .none kV13 dc13 pm13 an13 cd13 ct13), sl13⟩) (c13 : PySem.W.codeIn K cd13 "earlier_behind" = true) (k13 : PySem.W.keepIn K (.ref f13) = true)
  (a14 : PySem.W.nsIn K mainGlobals "meet" = some (some (.ref f14))) (l14 : K.lookup f14 = some ⟨oc14, od14, .func (PySem.W.fnOf "meet" "meet" (zU (top 13)) (zH (top 13)) (zA (top 13)) .none kV14 dc14 pm14 an14 cd14 ct14), sl14⟩) (c14 : PySem.W.codeIn K cd14 "meet" = true) (k14 : PySem.W.keepIn K (.ref f14) = true)
  (a15 : PySem.W.nsIn K mainGlobals "length" = some (some (.ref f15))) (l15 : K.lookup f15 = some ⟨oc15, od15, .func (PySem.W.fnOf "length" "length" (zU (top 14)) (zH (top 14)) (zA (top 14)) .none kV15 dc15 pm15 an15 cd15 ct15), sl15⟩) (c15 : PySem.W.codeIn K cd15 "length" = true) (k15 : PySem.W.keepIn K (.ref f15) = true)
  (a16 : PySem.W.nsIn K mainGlobals "knit" = some (some (.ref f16))) (l16 : K.lookup f16 = some ⟨oc16, od16, .func (PySem.W.fnOf "knit" "knit" (zU (top 19)) (zH (top 19)) (zA (top 19)) .none kV16 dc16 pm16 an16 cd16 ct16), sl16⟩) (c16 : PySem.W.codeIn K cd16 "knit" = true) (k16 : PySem.W.keepIn K (.ref f16) = true)
  (a17 : PySem.W.nsIn K mainGlobals "parts_in" = some (some (.ref f17))) (l17 : K.lookup f17 = some ⟨oc17, od17, .func (PySem.W.fnOf "parts_in" "parts_in" (zU (top 21)) (zH (top 21)) (zA (top 21)) .none kV17 dc17 pm17 an17 cd17 ct17), sl17⟩) (c17 : PySem.W.codeIn K cd17 "parts_in" = true) (k17 : PySem.W.keepIn K (.ref f17) = true)
  (a18 : PySem.W.nsIn K mainGlobals "rows_over" = some (some (.ref f18))) (l18 : K.lookup f18 = some ⟨oc18, od18, .func (PySem.W.fnOf "rows_over" "rows_over" (zU (top 22)) (zH (top 22)) (zA (top 22)) .none kV18 dc18 pm18 an18 cd18 ct18), sl18⟩) (c18 : PySem.W.codeIn K cd18 "rows_over" = true) (k18 : PySem.W.keepIn K (.ref f18) = true)
  (a19 : PySem.W.nsIn K mainGlobals "formed" = some (some (.ref f19))) (l19 : K.lookup f19 = some ⟨oc19, od19, .func (PySem.W.fnOf "formed" "formed" (zU (top 20)) (zH (top 20)) (zA (top 20)) .none kV19 dc19 pm19 an19 cd19 ct19), sl19⟩) (c19 : PySem.W.codeIn K cd19 "formed" = true) (k19 : PySem.W.keepIn K (.ref f19) = true)
  (a20 : PySem.W.nsIn K mainGlobals "is_rule" = some (some (.ref f20))) (l20 : K.lookup f20 = some ⟨oc20, od20, .func (PySem.W.fnOf "is_rule" "is_rule" (zU (top 29)) (zH (top 29)) (zA (top 29)) .none kV20 dc20 pm20 an20 cd20 ct20), sl20⟩) (c20 : PySem.W.codeIn K cd20 "is_rule" = true) (k20 : PySem.W.keepIn K (.ref f20) = true)
  (a21 : PySem.W.nsIn K mainGlobals "stretches" = some (some (.ref f21))) (l21 : K.lookup f21 = some ⟨oc21, od21, .func (PySem.W.fnOf "stretches" "stretches" (zU (top 26)) (zH (top 26)) (zA (top 26)) .none kV21 dc21 pm21 an21 cd21 ct21), sl21⟩) (c21 : PySem.W.codeIn K cd21 "stretches" = true) (k21 : PySem.W.keepIn K (.ref f21) = true)
  (a22 : PySem.W.nsIn K mainGlobals "rule_rows" = some (some (.ref f22))) (l22 : K.lookup f22 = some ⟨oc22, od22, .func (PySem.W.fnOf "rule_rows" "rule_rows" (zU (top 27)) (zH (top 27)) (zA (top 27)) .none kV22 dc22 pm22 an22 cd22 ct22), sl22⟩) (c22 : PySem.W.codeIn K cd22 "rule_rows" = true) (k22 : PySem.W.keepIn K (.ref f22) = true)
  (a23 : PySem.W.nsIn K mainGlobals "laid_rows" = some (some (.ref f23))) (l23 : K.lookup f23 = some ⟨oc23, od23, .func (PySem.W.fnOf "laid_rows" "laid_rows" (zU (top 28)) (zH (top 28)) (zA (top 28)) .none kV23 dc23 pm23 an23 cd23 ct23), sl23⟩) (c23 : PySem.W.codeIn K cd23 "laid_rows" = true) (k23 : PySem.W.keepIn K (.ref f23) = true)
  (a24 : PySem.W.nsIn K mainGlobals "is_number" = some (some (.ref f24))) (l24 : K.lookup f24 = some ⟨oc24, od24, .func (PySem.W.fnOf "is_number" "is_number" (zU (top 37)) (zH (top 37)) (zA (top 37)) .none kV24 dc24 pm24 an24 cd24 ct24), sl24⟩) (c24 : PySem.W.codeIn K cd24 "is_number" = true) (k24 : PySem.W.keepIn K (.ref f24) = true)
  (a25 : PySem.W.nsIn K mainGlobals "read_number" = some (some (.ref f25))) (l25 : K.lookup f25 = some ⟨oc25, od25, .func (PySem.W.fnOf "read_number" "read_number" (zU (top 33)) (zH (top 33)) (zA (top 33)) .none kV25 dc25 pm25 an25 cd25 ct25), sl25⟩) (c25 : PySem.W.codeIn K cd25 "read_number" = true) (k25 : PySem.W.keepIn K (.ref f25) = true)
  (a26 : PySem.W.nsIn K mainGlobals "read_low_end" = some (some (.ref f26))) (l26 : K.lookup f26 = some ⟨oc26, od26, .func (PySem.W.fnOf "read_low_end" "read_low_end" (zU (top 39)) (zH (top 39)) (zA (top 39)) .none kV26 dc26 pm26 an26 cd26 ct26), sl26⟩) (c26 : PySem.W.codeIn K cd26 "read_low_end" = true) (k26 : PySem.W.keepIn K (.ref f26) = true)
  (a27 : PySem.W.nsIn K mainGlobals "read_high_end" = some (some (.ref f27))) (l27 : K.lookup f27 = some ⟨oc27, od27, .func (PySem.W.fnOf "read_high_end" "read_high_end" (zU (top 40)) (zH (top 40)) (zA (top 40)) .none kV27 dc27 pm27 an27 cd27 ct27), sl27⟩) (c27 : PySem.W.codeIn K cd27 "read_high_end" = true) (k27 : PySem.W.keepIn K (.ref f27) = true)
  (a28 : PySem.W.nsIn K mainGlobals "read_ends" = some (some (.ref f28))) (l28 : K.lookup f28 = some ⟨oc28, od28, .func (PySem.W.fnOf "read_ends" "read_ends" (zU (top 38)) (zH (top 38)) (zA (top 38)) .none kV28 dc28 pm28 an28 cd28 ct28), sl28⟩) (c28 : PySem.W.codeIn K cd28 "read_ends" = true) (k28 : PySem.W.keepIn K (.ref f28) = true)
  (a29 : PySem.W.nsIn K mainGlobals "comes_each" = some (some (.ref f29))) (l29 : K.lookup f29 = some ⟨oc29, od29, .func (PySem.W.fnOf "comes_each" "comes_each" (zU (top 42)) (zH (top 42)) (zA (top 42)) .none kV29 dc29 pm29 an29 cd29 ct29), sl29⟩) (c29 : PySem.W.codeIn K cd29 "comes_each" = true) (k29 : PySem.W.keepIn K (.ref f29) = true)
  (a30 : PySem.W.nsIn K mainGlobals "item_rows" = some (some (.ref f30))) (l30 : K.lookup f30 = some ⟨oc30, od30, .func (PySem.W.fnOf "item_rows" "item_rows" (zU (top 41)) (zH (top 41)) (zA (top 41)) .none kV30 dc30 pm30 an30 cd30 ct30), sl30⟩) (c30 : PySem.W.codeIn K cd30 "item_rows" = true) (k30 : PySem.W.keepIn K (.ref f30) = true)
  (a31 : PySem.W.nsIn K mainGlobals "read_map" = some (some (.ref f31))) (l31 : K.lookup f31 = some ⟨oc31, od31, .func (PySem.W.fnOf "read_map" "read_map" (zU (top 34)) (zH (top 34)) (zA (top 34)) .none kV31 dc31 pm31 an31 cd31 ct31), sl31⟩) (c31 : PySem.W.codeIn K cd31 "read_map" = true) (k31 : PySem.W.keepIn K (.ref f31) = true)
  (a32 : PySem.W.nsIn K mainGlobals "show_span" = some (some (.ref f32))) (l32 : K.lookup f32 = some ⟨oc32, od32, .func (PySem.W.fnOf "show_span" "show_span" (zU (top 35)) (zH (top 35)) (zA (top 35)) .none kV32 dc32 pm32 an32 cd32 ct32), sl32⟩) (c32 : PySem.W.codeIn K cd32 "show_span" = true) (k32 : PySem.W.keepIn K (.ref f32) = true)
  (a33 : PySem.W.nsIn K mainGlobals "show_piece" = some (some (.ref f33))) (l33 : K.lookup f33 = some ⟨oc33, od33, .func (PySem.W.fnOf "show_piece" "show_piece" (zU (top 43)) (zH (top 43)) (zA (top 43)) .none kV33 dc33 pm33 an33 cd33 ct33), sl33⟩) (c33 : PySem.W.codeIn K cd33 "show_piece" = true) (k33 : PySem.W.keepIn K (.ref f33) = true)
  (a34 : PySem.W.nsIn K mainGlobals "show_map" = some (some (.ref f34))) (l34 : K.lookup f34 = some ⟨oc34, od34, .func (PySem.W.fnOf "show_map" "show_map" (zU (top 36)) (zH (top 36)) (zA (top 36)) .none kV34 dc34 pm34 an34 cd34 ct34), sl34⟩) (c34 : PySem.W.codeIn K cd34 "show_map" = true) (k34 : PySem.W.keepIn K (.ref f34) = true)
  (a35 : PySem.W.nsIn K mainGlobals "_law_cell_at" = some (some (.ref f35))) (l35 : K.lookup f35 = some ⟨oc35, od35, .func (PySem.W.fnOf "_law_cell_at" "_law_cell_at" (zU (top 45)) (zH (top 45)) (zA (top 45)) .none kV35 dc35 pm35 an35 cd35 ct35), sl35⟩) (c35 : PySem.W.codeIn K cd35 "_law_cell_at" = true) (k35 : PySem.W.keepIn K (.ref f35) = true)
  (a36 : PySem.W.nsIn K mainGlobals "_law_number" = some (some (.ref f36))) (l36 : K.lookup f36 = some ⟨oc36, od36, .func (PySem.W.fnOf "_law_number" "_law_number" (zU (top 46)) (zH (top 46)) (zA (top 46)) .none kV36 dc36 pm36 an36 cd36 ct36), sl36⟩) (c36 : PySem.W.codeIn K cd36 "_law_number" = true) (k36 : PySem.W.keepIn K (.ref f36) = true)
  (a37 : PySem.W.nsIn K mainGlobals "_law_item" = some (some (.ref f37))) (l37 : K.lookup f37 = some ⟨oc37, od37, .func (PySem.W.fnOf "_law_item" "_law_item" (zU (top 47)) (zH (top 47)) (zA (top 47)) .none kV37 dc37 pm37 an37 cd37 ct37), sl37⟩) (c37 : PySem.W.codeIn K cd37 "_law_item" = true) (k37 : PySem.W.keepIn K (.ref f37) = true)
  (a38 : PySem.W.nsIn K mainGlobals "_law_text" = some (some (.ref f38))) (l38 : K.lookup f38 = some ⟨oc38, od38, .func (PySem.W.fnOf "_law_text" "_law_text" (zU (top 48)) (zH (top 48)) (zA (top 48)) .none kV38 dc38 pm38 an38 cd38 ct38), sl38⟩) (c38 : PySem.W.codeIn K cd38 "_law_text" = true) (k38 : PySem.W.keepIn K (.ref f38) = true)
  (a39 : PySem.W.nsIn K mainGlobals "_law_has" = some (some (.ref f39))) (l39 : K.lookup f39 = some ⟨oc39, od39, .func (PySem.W.fnOf "_law_has" "_law_has" (zU (top 49)) (zH (top 49)) (zA (top 49)) .none kV39 dc39 pm39 an39 cd39 ct39), sl39⟩) (c39 : PySem.W.codeIn K cd39 "_law_has" = true) (k39 : PySem.W.keepIn K (.ref f39) = true)
  (a40 : PySem.W.nsIn K mainGlobals "_law_due" = some (some (.ref f40))) (l40 : K.lookup f40 = some ⟨oc40, od40, .func (PySem.W.fnOf "_law_due" "_law_due" (zU (top 50)) (zH (top 50)) (zA (top 50)) .none kV40 dc40 pm40 an40 cd40 ct40), sl40⟩) (c40 : PySem.W.codeIn K cd40 "_law_due" = true) (k40 : PySem.W.keepIn K (.ref f40) = true)
  (a41 : PySem.W.nsIn K mainGlobals "_law_whole" = some (some (.ref f41))) (l41 : K.lookup f41 = some ⟨oc41, od41, .func (PySem.W.fnOf "_law_whole" "_law_whole" (zU (top 51)) (zH (top 51)) (zA (top 51)) .none kV41 dc41 pm41 an41 cd41 ct41), sl41⟩) (c41 : PySem.W.codeIn K cd41 "_law_whole" = true) (k41 : PySem.W.keepIn K (.ref f41) = true)
  (a42 : PySem.W.nsIn K mainGlobals "_law_is_map" = some (some (.ref f42))) (l42 : K.lookup f42 = some ⟨oc42, od42, .func (PySem.W.fnOf "_law_is_map" "_law_is_map" (zU (top 52)) (zH (top 52)) (zA (top 52)) .none kV42 dc42 pm42 an42 cd42 ct42), sl42⟩) (c42 : PySem.W.codeIn K cd42 "_law_is_map" = true) (k42 : PySem.W.keepIn K (.ref f42) = true)
  (a43 : PySem.W.nsIn K mainGlobals "_law_value" = some (some (.ref f43))) (l43 : K.lookup f43 = some ⟨oc43, od43, .func (PySem.W.fnOf "_law_value" "_law_value" (zU (top 53)) (zH (top 53)) (zA (top 53)) .none kV43 dc43 pm43 an43 cd43 ct43), sl43⟩) (c43 : PySem.W.codeIn K cd43 "_law_value" = true) (k43 : PySem.W.keepIn K (.ref f43) = true)
  (a44 : PySem.W.nsIn K mainGlobals "_law_places" = some (some (.ref f44))) (l44 : K.lookup f44 = some ⟨oc44, od44, .func (PySem.W.fnOf "_law_places" "_law_places" (zU (top 54)) (zH (top 54)) (zA (top 54)) .none kV44 dc44 pm44 an44 cd44 ct44), sl44⟩) (c44 : PySem.W.codeIn K cd44 "_law_places" = true) (k44 : PySem.W.keepIn K (.ref f44) = true)
  (a45 : PySem.W.nsIn K mainGlobals "law" = some (some (.ref f45))) (l45 : K.lookup f45 = some ⟨oc45, od45, .func (PySem.W.fnOf "law" "law" (zU (top 55)) (zH (top 55)) (zA (top 55)) .none kV45 dc45 pm45 an45 cd45 ct45), sl45⟩) (c45 : PySem.W.codeIn K cd45 "law" = true) (k45 : PySem.W.keepIn K (.ref f45) = true)
  (mk7 : PySem.W.makesIn K K7 = true) (kc7 : PySem.W.keepIn K (.ref K7) = true)
  (mk8 : PySem.W.makesIn K K8 = true) (kc8 : PySem.W.keepIn K (.ref K8) = true)
  (mk9 : PySem.W.makesIn K K9 = true) (kc9 : PySem.W.keepIn K (.ref K9) = true) (ai9 : PySem.W.findIn K (.ref K9) "__init__" = some (some (.builtin "object.__init__")))
  (z0 : PySem.W.nsIn K mainGlobals "all" = some none)
  (z1 : PySem.W.nsIn K mainGlobals "bool" = some none)
  (z2 : PySem.W.nsIn K mainGlobals "int" = some none)
  (z3 : PySem.W.nsIn K mainGlobals "isinstance" = some none)
  (z4 : PySem.W.nsIn K mainGlobals "len" = some none)
  (z5 : PySem.W.nsIn K mainGlobals "list" = some none)
  (z6 : PySem.W.nsIn K mainGlobals "max" = some none)
  (z7 : PySem.W.nsIn K mainGlobals "min" = some none)
  (z8 : PySem.W.nsIn K mainGlobals "range" = some none)
  (z9 : PySem.W.nsIn K mainGlobals "reversed" = some none)
  (z10 : PySem.W.nsIn K mainGlobals "str" = some none)
  (z11 : PySem.W.nsIn K mainGlobals "tuple" = some none)
  (v0 : PySem.W.nsIn K mainGlobals "FIGURES" = some (some (.str "0123456789" t0)))
  (v1 : PySem.W.nsIn K mainGlobals "MOST_FIGURES" = some (some (.int 60 t1)))
  (v2 : PySem.W.nsIn K mainGlobals "MOST_TIMES" = some (some (.int 100 t2)))
  (v3 : PySem.W.nsIn K mainGlobals "MOST_TOGETHER" = some (some (.int 300 t3))) :
  ∃ fd : FuncData, (∀ (s : Shared) (v : Value), BindsTo s fd ⟨[v], []⟩ [("_law_script", v)]) /\ ∀ base : Heap, K.In base -> base.Ns mainGlobals mg -> FnOk l.prog w K mg base CX0 8 fa fd ["_law_script"] (spLawB K 63) := by
 have e := hfa.symm.trans (PySem.W.mg_of X G a45)
 cases e
 have cl7 : Cls K K7 := ⟨pg7, hd7, po7, sa7⟩
 have cl8 : Cls K K8 := ⟨pg8, hd8, po8, sa8⟩
 have cl9 : Cls K K9 := ⟨pg9, hd9, po9, sa9⟩
 have cl10 : Cls K K10 := ⟨pg10, hd10, po10, sa10⟩
 have T : Glb K mg := ⟨PySem.W.mg_none_of X G z0, PySem.W.mg_none_of X G z1, PySem.W.mg_none_of X G z2, PySem.W.mg_none_of X G z3, PySem.W.mg_none_of X G z4, PySem.W.mg_none_of X G z5, PySem.W.mg_none_of X G z6, PySem.W.mg_none_of X G z7, PySem.W.mg_none_of X G z8, PySem.W.mg_none_of X G z9, PySem.W.mg_none_of X G z10, PySem.W.mg_none_of X G z11, ⟨_, PySem.W.mg_of X G v0⟩, ⟨_, PySem.W.mg_of X G v1⟩, ⟨_, PySem.W.mg_of X G v2⟩, ⟨_, PySem.W.mg_of X G v3⟩, (fldOk_cons n7 cl7 na7_place rfl (by decide +kernel) (fldOk_cons n8 cl8 na8_place rfl (by decide +kernel) fldOk_nil))⟩
 have F0 := qG (st := (inClass (top 1) 0)) l0 c0 k0
 have b0 := F0.binds (ps := ["self"]) fun _ _ _ _ _ _ us hl => match us, hl with | [_], _ => rfl
 have F1 := qG (st := (inClass (top 1) 1)) l1 c1 k1
 have b1 := F1.binds (ps := ["self"]) fun _ _ _ _ _ _ us hl => match us, hl with | [_], _ => rfl
 have F2 := qG (st := (inClass (top 2) 0)) l2 c2 k2
 have b2 := F2.binds (ps := ["self", "place"]) fun _ _ _ _ _ _ us hl => match us, hl with | [_, _], _ => rfl
 have F3 := qG (st := (inClass (top 2) 1)) l3 c3 k3
 have b3 := F3.binds (ps := ["self"]) fun _ _ _ _ _ _ us hl => match us, hl with | [_], _ => rfl
 have F4 := qG (st := (inClass (top 2) 2)) l4 c4 k4
 have b4 := F4.binds (ps := ["self"]) fun _ _ _ _ _ _ us hl => match us, hl with | [_], _ => rfl
 have F5 := qG (st := (inClass (top 3) 0)) l5 c5 k5
 have b5 := F5.binds (ps := ["self", "place"]) fun _ _ _ _ _ _ us hl => match us, hl with | [_, _], _ => rfl
 have F6 := qG (st := (inClass (top 3) 1)) l6 c6 k6
 have b6 := F6.binds (ps := ["self"]) fun _ _ _ _ _ _ us hl => match us, hl with | [_], _ => rfl
 have F7 := qG (st := (inClass (top 3) 2)) l7 c7 k7
 have b7 := F7.binds (ps := ["self"]) fun _ _ _ _ _ _ us hl => match us, hl with | [_], _ => rfl
 have F8 := qG (st := (inClass (top 4) 0)) l8 c8 k8
 have b8 := F8.binds (ps := ["self"]) fun _ _ _ _ _ _ us hl => match us, hl with | [_], _ => rfl
 have F9 := qG (st := (inClass (top 4) 1)) l9 c9 k9
 have b9 := F9.binds (ps := ["self"]) fun _ _ _ _ _ _ us hl => match us, hl with | [_], _ => rfl
 have F10 := qG (st := (top 15)) l10 c10 k10
 have b10 := F10.binds (ps := ["behind", "low"]) fun _ _ _ _ _ _ us hl => match us, hl with | [_, _], _ => rfl
 have F11 := qG (st := (top 12)) l11 c11 k11
 have b11 := F11.binds (ps := ["low_end", "high_end"]) fun _ _ _ _ _ _ us hl => match us, hl with | [_, _], _ => rfl
 have F12 := qG (st := (top 16)) l12 c12 k12
 have b12 := F12.binds (ps := ["one", "other"]) fun _ _ _ _ _ _ us hl => match us, hl with | [_, _], _ => rfl
 have F13 := qG (st := (top 17)) l13 c13 k13
 have b13 := F13.binds (ps := ["one", "other"]) fun _ _ _ _ _ _ us hl => match us, hl with | [_, _], _ => rfl
 have F14 := qG (st := (top 13)) l14 c14 k14
 have b14 := F14.binds (ps := ["one", "other"]) fun _ _ _ _ _ _ us hl => match us, hl with | [_, _], _ => rfl
 have F15 := qG (st := (top 14)) l15 c15 k15
 have b15 := F15.binds (ps := ["one"]) fun _ _ _ _ _ _ us hl => match us, hl with | [_], _ => rfl
 have F16 := qG (st := (top 19)) l16 c16 k16
 have b16 := F16.binds (ps := ["rows"]) fun _ _ _ _ _ _ us hl => match us, hl with | [_], _ => rfl
 have F17 := qG (st := (top 21)) l17 c17 k17
 have b17 := F17.binds (ps := ["pieces", "within"]) fun _ _ _ _ _ _ us hl => match us, hl with | [_, _], _ => rfl
 have F18 := qG (st := (top 22)) l18 c18 k18
 have b18 := F18.binds (ps := ["pieces", "over", "value"]) fun _ _ _ _ _ _ us hl => match us, hl with | [_, _, _], _ => rfl
 have F19 := qG (st := (top 20)) l19 c19 k19
 have b19 := F19.binds (ps := ["rows"]) fun _ _ _ _ _ _ us hl => match us, hl with | [_], _ => rfl
 have F20 := qG (st := (top 29)) l20 c20 k20
 have b20 := F20.binds (ps := ["rule"]) fun _ _ _ _ _ _ us hl => match us, hl with | [_], _ => rfl
 have F21 := qG (st := (top 26)) l21 c21 k21
 have b21 := F21.binds (ps := ["rule"]) fun _ _ _ _ _ _ us hl => match us, hl with | [_], _ => rfl
 have F22 := qG (st := (top 27)) l22 c22 k22
 have b22 := F22.binds (ps := ["rule"]) fun _ _ _ _ _ _ us hl => match us, hl with | [_], _ => rfl
 have F23 := qG (st := (top 28)) l23 c23 k23
 have b23 := F23.binds (ps := ["rows"]) fun _ _ _ _ _ _ us hl => match us, hl with | [_], _ => rfl
 have F24 := qG (st := (top 37)) l24 c24 k24
 have b24 := F24.binds (ps := ["text"]) fun _ _ _ _ _ _ us hl => match us, hl with | [_], _ => rfl
 have F25 := qG (st := (top 33)) l25 c25 k25
 have b25 := F25.binds (ps := ["text"]) fun _ _ _ _ _ _ us hl => match us, hl with | [_], _ => rfl
 have F26 := qG (st := (top 39)) l26 c26 k26
 have b26 := F26.binds (ps := ["text"]) fun _ _ _ _ _ _ us hl => match us, hl with | [_], _ => rfl
 have F27 := qG (st := (top 40)) l27 c27 k27
 have b27 := F27.binds (ps := ["text"]) fun _ _ _ _ _ _ us hl => match us, hl with | [_], _ => rfl
 have F28 := qG (st := (top 38)) l28 c28 k28
 have b28 := F28.binds (ps := ["text"]) fun _ _ _ _ _ _ us hl => match us, hl with | [_], _ => rfl
 have F29 := qG (st := (top 42)) l29 c29 k29
 have b29 := F29.binds (ps := ["words"]) fun _ _ _ _ _ _ us hl => match us, hl with | [_], _ => rfl
 have F30 := qG (st := (top 41)) l30 c30 k30
 have b30 := F30.binds (ps := ["item"]) fun _ _ _ _ _ _ us hl => match us, hl with | [_], _ => rfl
 have F31 := qG (st := (top 34)) l31 c31 k31
 have b31 := F31.binds (ps := ["text"]) fun _ _ _ _ _ _ us hl => match us, hl with | [_], _ => rfl
 have F32 := qG (st := (top 35)) l32 c32 k32
 have b32 := F32.binds (ps := ["one"]) fun _ _ _ _ _ _ us hl => match us, hl with | [_], _ => rfl
 have F33 := qG (st := (top 43)) l33 c33 k33
 have b33 := F33.binds (ps := ["low", "behind", "value"]) fun _ _ _ _ _ _ us hl => match us, hl with | [_, _, _], _ => rfl
 have F34 := qG (st := (top 36)) l34 c34 k34
 have b34 := F34.binds (ps := ["pieces"]) fun _ _ _ _ _ _ us hl => match us, hl with | [_], _ => rfl
 have F35 := qG (st := (top 45)) l35 c35 k35
 have b35 := F35.binds (ps := ["_law_script", "_law_k"]) fun _ _ _ _ _ _ us hl => match us, hl with | [_, _], _ => rfl
 have F36 := qG (st := (top 46)) l36 c36 k36
 have b36 := F36.binds (ps := ["_law_cell"]) fun _ _ _ _ _ _ us hl => match us, hl with | [_], _ => rfl
 have F37 := qG (st := (top 47)) l37 c37 k37
 have b37 := F37.binds (ps := ["_law_base", "_law_cells"]) fun _ _ _ _ _ _ us hl => match us, hl with | [_, _], _ => rfl
 have F38 := qG (st := (top 48)) l38 c38 k38
 have b38 := F38.binds (ps := ["_law_item_here", "_law_cell"]) fun _ _ _ _ _ _ us hl => match us, hl with | [_, _], _ => rfl
 have F39 := qG (st := (top 49)) l39 c39 k39
 have b39 := F39.binds (ps := ["_law_item_here", "_law_place"]) fun _ _ _ _ _ _ us hl => match us, hl with | [_, _], _ => rfl
 have F40 := qG (st := (top 50)) l40 c40 k40
 have b40 := F40.binds (ps := ["_law_items", "_law_place"]) fun _ _ _ _ _ _ us hl => match us, hl with | [_, _], _ => rfl
 have F41 := qG (st := (top 51)) l41 c41 k41
 have b41 := F41.binds (ps := ["_law_found"]) fun _ _ _ _ _ _ us hl => match us, hl with | [_], _ => rfl
 have F42 := qG (st := (top 52)) l42 c42 k42
 have b42 := F42.binds (ps := ["_law_found"]) fun _ _ _ _ _ _ us hl => match us, hl with | [_], _ => rfl
 have F43 := qG (st := (top 53)) l43 c43 k43
 have b43 := F43.binds (ps := ["_law_pieces", "_law_place"]) fun _ _ _ _ _ _ us hl => match us, hl with | [_, _], _ => rfl
 have F44 := qG (st := (top 54)) l44 c44 k44
 have b44 := F44.binds (ps := ["_law_items", "_law_pieces"]) fun _ _ _ _ _ _ us hl => match us, hl with | [_, _], _ => rfl
 have F45 := qG (st := (top 55)) l45 c45 k45
 refine ⟨PySem.W.fnOf "law" "law" (zU (top 55)) (zH (top 55)) (zA (top 55)) .none kV45 dc45 pm45 an45 cd45 ct45, fun s v => .of_eq rfl, fun base _ _ => ?_⟩
 have G0 := fok_End_low (P := l.prog) (w := w) (base := base) F0 T
 have G1 := fok_End_behind (P := l.prog) (w := w) (base := base) F1 T
 have G2 := fok_Shut___init__ (P := l.prog) (w := w) (base := base) F2 T
 have G3 := fok_Shut_low (P := l.prog) (w := w) (base := base) F3 T
 have G4 := fok_Shut_behind (P := l.prog) (w := w) (base := base) F4 T
 have G5 := fok_Open___init__ (P := l.prog) (w := w) (base := base) F5 T
 have G6 := fok_Open_low (P := l.prog) (w := w) (base := base) F6 T
 have G7 := fok_Open_behind (P := l.prog) (w := w) (base := base) F7 T
 have G8 := fok_Endless_low (P := l.prog) (w := w) (base := base) F8 T
 have G9 := fok_Endless_behind (P := l.prog) (w := w) (base := base) F9 T
 have G10 := fok_ends_ahead (P := l.prog) (w := w) (base := base) F10 T
 have C_ends_ahead : Cal l.prog w K mg base "ends_ahead" 1 2 GP.ends_ahead.f := ⟨f10, _, _, G10, b10, k10, PySem.W.mg_of X G a10⟩
 have M_low : MCal l.prog w K mg base "low" 1 0 [7, 8, 9, 10] GP.M_low_88ddca := (jV n7 cl7 ⟨a3, i3, k3⟩ G3 (by decide) b3 (by decide +kernel) (jV n8 cl8 ⟨a6, i6, k6⟩ G6 (by decide) b6 (by decide +kernel) (jV n9 cl9 ⟨a8, i8, k8⟩ G8 (by decide) b8 (by decide +kernel) (jV n10 cl10 ⟨a0, i0, k0⟩ G0 (by decide) b0 (by decide +kernel) mcal_nil))))
 have M_behind : MCal l.prog w K mg base "behind" 1 0 [7, 8, 9, 10] GP.M_behind_f72aa6 := (jV n7 cl7 ⟨a4, i4, k4⟩ G4 (by decide) b4 (by decide +kernel) (jV n8 cl8 ⟨a7, i7, k7⟩ G7 (by decide) b7 (by decide +kernel) (jV n9 cl9 ⟨a9, i9, k9⟩ G9 (by decide) b9 (by decide +kernel) (jV n10 cl10 ⟨a1, i1, k1⟩ G1 (by decide) b1 (by decide +kernel) mcal_nil))))
 have G11 := fok_span (P := l.prog) (w := w) (base := base) F11 T C_ends_ahead M_low M_behind
 have C_span : Cal l.prog w K mg base "span" 2 2 GP.span2.f := ⟨f11, _, _, G11, b11, k11, PySem.W.mg_of X G a11⟩
 have G12 := fok_later_low (P := l.prog) (w := w) (base := base) F12 T
 have C_later_low : Cal l.prog w K mg base "later_low" 1 2 GP.later_low.f := ⟨f12, _, _, G12, b12, k12, PySem.W.mg_of X G a12⟩
 have G13 := fok_earlier_behind (P := l.prog) (w := w) (base := base) F13 T
 have C_earlier_behind : Cal l.prog w K mg base "earlier_behind" 1 2 GP.earlier_behind.f := ⟨f13, _, _, G13, b13, k13, PySem.W.mg_of X G a13⟩
 have G14 := fok_meet (P := l.prog) (w := w) (base := base) F14 T C_later_low C_earlier_behind C_ends_ahead
 have C_meet : Cal l.prog w K mg base "meet" 2 2 GP.meet.f := ⟨f14, _, _, G14, b14, k14, PySem.W.mg_of X G a14⟩
 have G15 := fok_length (P := l.prog) (w := w) (base := base) F15 T
 have C_length : Cal l.prog w K mg base "length" 1 1 GP.length.f := ⟨f15, _, _, G15, b15, k15, PySem.W.mg_of X G a15⟩
 have G16 := fok_knit (P := l.prog) (w := w) (base := base) F16 T
 have C_knit : Cal l.prog w K mg base "knit" 1 1 GP.knit.f := ⟨f16, _, _, G16, b16, k16, PySem.W.mg_of X G a16⟩
 have G17 := fok_parts_in (P := l.prog) (w := w) (base := base) F17 T C_meet
 have C_parts_in : Cal l.prog w K mg base "parts_in" 3 2 GP.parts_in.f := ⟨f17, _, _, G17, b17, k17, PySem.W.mg_of X G a17⟩
 have G18 := fok_rows_over (P := l.prog) (w := w) (base := base) F18 T C_parts_in
 have C_rows_over : Cal l.prog w K mg base "rows_over" 4 3 GP.rows_over.f := ⟨f18, _, _, G18, b18, k18, PySem.W.mg_of X G a18⟩
 have G19 := fok_formed (P := l.prog) (w := w) (base := base) F19 T C_knit C_rows_over
 have C_formed : Cal l.prog w K mg base "formed" 5 1 GP.formed.f := ⟨f19, _, _, G19, b19, k19, PySem.W.mg_of X G a19⟩
 have G20 := fok_is_rule (P := l.prog) (w := w) (base := base) F20 T
 have C_is_rule : Cal l.prog w K mg base "is_rule" 1 1 GP.is_rule.f := ⟨f20, _, _, G20, b20, k20, PySem.W.mg_of X G a20⟩
 have G21 := fok_stretches (P := l.prog) (w := w) (base := base) F21 T C_is_rule
 have C_stretches : Cal l.prog w K mg base "stretches" 2 1 GP.stretches.f := ⟨f21, _, _, G21, b21, k21, PySem.W.mg_of X G a21⟩
 have G22 := fok_rule_rows (P := l.prog) (w := w) (base := base) F22 T C_stretches
 have C_rule_rows : Cal l.prog w K mg base "rule_rows" 3 1 GP.rule_rows.f := ⟨f22, _, _, G22, b22, k22, PySem.W.mg_of X G a22⟩
 have G23 := fok_laid_rows (P := l.prog) (w := w) (base := base) F23 T C_formed
 have C_laid_rows : Cal l.prog w K mg base "laid_rows" 6 1 GP.laid_rows.f := ⟨f23, _, _, G23, b23, k23, PySem.W.mg_of X G a23⟩
 have G24 := fok_is_number (P := l.prog) (w := w) (base := base) F24 T
 have C_is_number : Cal l.prog w K mg base "is_number" 1 1 GP.is_number.f := ⟨f24, _, _, G24, b24, k24, PySem.W.mg_of X G a24⟩
 have G25 := fok_read_number (P := l.prog) (w := w) (base := base) F25 T C_is_number
 have C_read_number : Cal l.prog w K mg base "read_number" 2 1 GP.read_number.f := ⟨f25, _, _, G25, b25, k25, PySem.W.mg_of X G a25⟩
 have Mk_Endless : MkP K mg 9 := ⟨K9, n9, PySem.W.mg_of X G n9, mk9, ai9, kc9⟩
 have Mk_Shut : MkC l.prog w K mg base 7 1 1 GP.Shut___init__.f := ⟨K7, f2, _, _, n7, PySem.W.mg_of X G n7, ⟨mk7, a2, i2, kc7⟩, cl7, G2, b2, (vC (l := ["place"]) (noAll_cons na7_place noAll_nil))⟩
 have Mk_Open : MkC l.prog w K mg base 8 1 1 GP.Shut___init__.f := ⟨K8, f5, _, _, n8, PySem.W.mg_of X G n8, ⟨mk8, a5, i5, kc8⟩, cl8, G5, b5, (vC (l := ["place"]) (noAll_cons na8_place noAll_nil))⟩
 have G26 := fok_read_low_end (P := l.prog) (w := w) (base := base) F26 T C_read_number Mk_Endless Mk_Shut Mk_Open
 have C_read_low_end : Cal l.prog w K mg base "read_low_end" 3 1 GP.read_low_end.f := ⟨f26, _, _, G26, b26, k26, PySem.W.mg_of X G a26⟩
 have G27 := fok_read_high_end (P := l.prog) (w := w) (base := base) F27 T C_read_number Mk_Endless Mk_Shut Mk_Open
 have C_read_high_end : Cal l.prog w K mg base "read_high_end" 3 1 GP.read_high_end.f := ⟨f27, _, _, G27, b27, k27, PySem.W.mg_of X G a27⟩
 have G28 := fok_read_ends (P := l.prog) (w := w) (base := base) F28 T C_read_low_end C_read_high_end
 have C_read_ends : Cal l.prog w K mg base "read_ends" 4 1 GP.read_ends.f := ⟨f28, _, _, G28, b28, k28, PySem.W.mg_of X G a28⟩
 have G29 := fok_comes_each (P := l.prog) (w := w) (base := base) F29 T
 have C_comes_each : Cal l.prog w K mg base "comes_each" 1 1 GP.comes_each.f := ⟨f29, _, _, G29, b29, k29, PySem.W.mg_of X G a29⟩
 have G30 := fok_item_rows (P := l.prog) (w := w) (base := base) F30 T C_read_ends C_read_number C_span C_rule_rows C_length C_comes_each
 have C_item_rows : Cal l.prog w K mg base "item_rows" 5 1 GP.item_rows.f := ⟨f30, _, _, G30, b30, k30, PySem.W.mg_of X G a30⟩
 have G31 := fok_read_map (P := l.prog) (w := w) (base := base) F31 T C_laid_rows C_item_rows
 have C_read_map : Cal l.prog w K mg base "read_map" 7 1 GP.read_map.f := ⟨f31, _, _, G31, b31, k31, PySem.W.mg_of X G a31⟩
 have G32 := fok_show_span (P := l.prog) (w := w) (base := base) F32 T
 have C_show_span : Cal l.prog w K mg base "show_span" 1 1 GP.show_span.f := ⟨f32, _, _, G32, b32, k32, PySem.W.mg_of X G a32⟩
 have G33 := fok_show_piece (P := l.prog) (w := w) (base := base) F33 T C_show_span
 have C_show_piece : Cal l.prog w K mg base "show_piece" 2 3 GP.show_piece.f := ⟨f33, _, _, G33, b33, k33, PySem.W.mg_of X G a33⟩
 have G34 := fok_show_map (P := l.prog) (w := w) (base := base) F34 T C_show_piece
 have C_show_map : Cal l.prog w K mg base "show_map" 3 1 GP.show_map.f := ⟨f34, _, _, G34, b34, k34, PySem.W.mg_of X G a34⟩
 have G35 := fok__law_cell_at (P := l.prog) (w := w) (base := base) F35 T
 have C__law_cell_at : Cal l.prog w K mg base "_law_cell_at" 1 2 GL.cell_at.f := ⟨f35, _, _, G35, b35, k35, PySem.W.mg_of X G a35⟩
 have G36 := fok__law_number (P := l.prog) (w := w) (base := base) F36 T
 have C__law_number : Cal l.prog w K mg base "_law_number" 1 1 GL.number.f := ⟨f36, _, _, G36, b36, k36, PySem.W.mg_of X G a36⟩
 have G37 := fok__law_item (P := l.prog) (w := w) (base := base) F37 T
 have C__law_item : Cal l.prog w K mg base "_law_item" 1 2 K92.L_item.f := ⟨f37, _, _, G37, b37, k37, PySem.W.mg_of X G a37⟩
 have G38 := fok__law_text (P := l.prog) (w := w) (base := base) F38 T
 have C__law_text : Cal l.prog w K mg base "_law_text" 1 2 K92.L_text.f := ⟨f38, _, _, G38, b38, k38, PySem.W.mg_of X G a38⟩
 have G39 := fok__law_has (P := l.prog) (w := w) (base := base) F39 T
 have C__law_has : Cal l.prog w K mg base "_law_has" 1 2 K92.L_has.f := ⟨f39, _, _, G39, b39, k39, PySem.W.mg_of X G a39⟩
 have G40 := fok__law_due (P := l.prog) (w := w) (base := base) F40 T C__law_has
 have C__law_due : Cal l.prog w K mg base "_law_due" 2 2 K92.L_due.f := ⟨f40, _, _, G40, b40, k40, PySem.W.mg_of X G a40⟩
 have G41 := fok__law_whole (P := l.prog) (w := w) (base := base) F41 T
 have C__law_whole : Cal l.prog w K mg base "_law_whole" 1 1 GL.whole.f := ⟨f41, _, _, G41, b41, k41, PySem.W.mg_of X G a41⟩
 have G42 := fok__law_is_map (P := l.prog) (w := w) (base := base) F42 T C__law_whole
 have C__law_is_map : Cal l.prog w K mg base "_law_is_map" 2 1 GL.is_map4.f := ⟨f42, _, _, G42, b42, k42, PySem.W.mg_of X G a42⟩
 have G43 := fok__law_value (P := l.prog) (w := w) (base := base) F43 T C__law_has
 have C__law_value : Cal l.prog w K mg base "_law_value" 2 2 K92.L_value.f := ⟨f43, _, _, G43, b43, k43, PySem.W.mg_of X G a43⟩
 have G44 := fok__law_places (P := l.prog) (w := w) (base := base) F44 T
 have C__law_places : Cal l.prog w K mg base "_law_places" 1 2 K92.L_places.f := ⟨f44, _, _, G44, b44, k44, PySem.W.mg_of X G a44⟩
 exact law_ofB (F := K92.law.f) (fok_law F45 T C__law_number C_read_map C__law_places C_show_map C__law_cell_at C__law_is_map C__law_item C__law_text C__law_value C__law_due) run_law
end K92
def PySem.W.Fast.tw15780054248469926756 : Unit := ()
def PySem.W.Fast.tw12686315488440024515 : Unit := ()
def PySem.W.Fast.tw5634122355110173976 : Unit := ()
def PySem.W.Fast.tw3418609268478120898 : Unit := ()
def PySem.W.Fast.tw1783789800527275707 : Unit := ()
def PySem.W.Fast.tw18030556610803028475 : Unit := ()
def PySem.W.Fast.tw2721199237395464107 : Unit := ()
def PySem.W.Fast.tw10841867047979816298 : Unit := ()
def PySem.W.Fast.tw2548383626919362730 : Unit := ()
def PySem.W.Fast.tw14257008485715925861 : Unit := ()
def PySem.W.Fast.tw1720865262280464172 : Unit := ()
def PySem.W.Fast.tw5112001069606432996 : Unit := ()
def PySem.W.Fast.tw18066322067171690326 : Unit := ()
def PySem.W.Fast.tw3517192546257815645 : Unit := ()
def PySem.W.Fast.tw12851834299963448828 : Unit := ()
def PySem.W.Fast.tw10769487212882943845 : Unit := ()
open PySem PySem.W PyProof.Rows
set_option maxRecDepth 100000 in
set_option maxHeartbeats 0 in
theorem PySem.Challenge.cw_spanmap_k92_maps_read_and_shown_holds : PySem.Challenge.rw_spanmap_k92_maps_read_and_shown.Holds := by
 w_on; o_law; k_head; (case hw => w_witness2)
 k_fill
 refine' FL.walkB (l := PySem.Challenge.rw_spanmap_k92_maps_read_and_shown) (k := 8) rfl rfl ⟨rfl, by decide, by decide⟩ (fun w h Y => PySem.W.kIn_of Y) (fun w => by kernel_rfl) ?T ?F
 case T =>
  intro w
  dsimp only [L2.makers]
  repeat (first
   | exact FL.TabL.nil
   | (apply FL.tabL_no; k_is)
   | (apply FL.tabL_yes; k_is; k_is; exact rfl; k_is; exact rfl; kernel_rfl))
  all_goals decide
 case F =>
  intro w mg fa h KX G hmg
  refine' K92.all_mk KX G hmg ?n7 ?pg7 ?hd7 ?po7 ?sa7 ?na7_place ?n8 ?pg8 ?hd8 ?po8 ?sa8 ?na8_place ?n9 ?pg9 ?hd9 ?po9 ?sa9 ?n10 ?pg10 ?hd10 ?po10 ?sa10 ?a0 ?l0 ?c0 ?k0 ?i0 ?a1 ?l1 ?c1 ?k1 ?i1 ?a2 ?l2 ?c2 ?k2 ?i2 ?a3 ?l3 ?c3 ?k3 ?i3 ?a4 ?l4 ?c4 ?k4 ?i4 ?a5 ?l5 ?c5 ?k5 ?i5 ?a6 ?l6 ?c6 ?k6 ?i6 ?a7 ?l7 ?c7 ?k7 ?i7 ?a8 ?l8 ?c8 ?k8 ?i8 ?a9 ?l9 ?c9 ?k9 ?i9 ?a10 ?l10 ?c10 ?k10 ?a11 ?l11 ?c11 ?k11 ?a12 ?l12 ?c12 ?k12 ?a13 ?l13 ?c13 ?k13 ?a14 ?l14 ?c14 ?k14 ?a15 ?l15 ?c15 ?k15 ?a16 ?l16 ?c16 ?k16 ?a17 ?l17 ?c17 ?k17 ?a18 ?l18 ?c18 ?k18 ?a19 ?l19 ?c19 ?k19 ?a20 ?l20 ?c20 ?k20 ?a21 ?l21 ?c21 ?k21 ?a22 ?l22 ?c22 ?k22 ?a23 ?l23 ?c23 ?k23 ?a24 ?l24 ?c24 ?k24 ?a25 ?l25 ?c25 ?k25 ?a26 ?l26 ?c26 ?k26 ?a27 ?l27 ?c27 ?k27 ?a28 ?l28 ?c28 ?k28 ?a29 ?l29 ?c29 ?k29 ?a30 ?l30 ?c30 ?k30 ?a31 ?l31 ?c31 ?k31 ?a32 ?l32 ?c32 ?k32 ?a33 ?l33 ?c33 ?k33 ?a34 ?l34 ?c34 ?k34 ?a35 ?l35 ?c35 ?k35 ?a36 ?l36 ?c36 ?k36 ?a37 ?l37 ?c37 ?k37 ?a38 ?l38 ?c38 ?k38 ?a39 ?l39 ?c39 ?k39 ?a40 ?l40 ?c40 ?k40 ?a41 ?l41 ?c41 ?k41 ?a42 ?l42 ?c42 ?k42 ?a43 ?l43 ?c43 ?k43 ?a44 ?l44 ?c44 ?k44 ?a45 ?l45 ?c45 ?k45 ?mk7 ?kc7 ?mk8 ?kc8 ?mk9 ?kc9 ?ai9 ?z0 ?z1 ?z2 ?z3 ?z4 ?z5 ?z6 ?z7 ?z8 ?z9 ?z10 ?z11 ?v0 ?v1 ?v2 ?v3
  (case n7 => k_is)
  (case pg7 => k_is)
  (case hd7 => k_is)
  (case po7 => k_is)
  (case sa7 => k_is)
  (case na7_place => k_is)
  (case n8 => k_is)
  (case pg8 => k_is)
  (case hd8 => k_is)
  (case po8 => k_is)
  (case sa8 => k_is)
  (case na8_place => k_is)
  (case n9 => k_is)
  (case pg9 => k_is)
  (case hd9 => k_is)
  (case po9 => k_is)
  (case sa9 => k_is)
  (case n10 => k_is)
  (case pg10 => k_is)
  (case hd10 => k_is)
  (case po10 => k_is)
  (case sa10 => k_is)
  (case a0 => k_is)
  (case l0 => k_is)
  (case c0 => k_is)
  (case k0 => k_is)
  (case i0 => k_is)
  (case a1 => k_is)
  (case l1 => k_is)
  (case c1 => k_is)
  (case k1 => k_is)
  (case i1 => k_is)
  (case a2 => k_is)
  (case l2 => k_is)
  (case c2 => k_is)
  (case k2 => k_is)
  (case i2 => k_is)
  (case a3 => k_is)
  (case l3 => k_is)
  (case c3 => k_is)
  (case k3 => k_is)
  (case i3 => k_is)
  (case a4 => k_is)
  (case l4 => k_is)
  (case c4 => k_is)
  (case k4 => k_is)
  (case i4 => k_is)
  (case a5 => k_is)
  (case l5 => k_is)
  (case c5 => k_is)
  (case k5 => k_is)
  (case i5 => k_is)
  (case a6 => k_is)
  (case l6 => k_is)
  (case c6 => k_is)
  (case k6 => k_is)
  (case i6 => k_is)
  (case a7 => k_is)
  (case l7 => k_is)
  (case c7 => k_is)
  (case k7 => k_is)
  (case i7 => k_is)
  (case a8 => k_is)
  (case l8 => k_is)
  (case c8 => k_is)
  (case k8 => k_is)
  (case i8 => k_is)
  (case a9 => k_is)
  (case l9 => k_is)
  (case c9 => k_is)
  (case k9 => k_is)
  (case i9 => k_is)
  (case a10 => k_is)
  (case l10 => k_is)
  (case c10 => k_is)
  (case k10 => k_is)
  (case a11 => k_is)
  (case l11 => k_is)
  (case c11 => k_is)
  (case k11 => k_is)
  (case a12 => k_is)
  (case l12 => k_is)
  (case c12 => k_is)
  (case k12 => k_is)
  (case a13 => k_is)
  (case l13 => k_is)
  (case c13 => k_is)
  (case k13 => k_is)
  (case a14 => k_is)
  (case l14 => k_is)
  (case c14 => k_is)
  (case k14 => k_is)
  (case a15 => k_is)
  (case l15 => k_is)
  (case c15 => k_is)
  (case k15 => k_is)
  (case a16 => k_is)
  (case l16 => k_is)
  (case c16 => k_is)
  (case k16 => k_is)
  (case a17 => k_is)
  (case l17 => k_is)
  (case c17 => k_is)
  (case k17 => k_is)
  (case a18 => k_is)
  (case l18 => k_is)
  (case c18 => k_is)
  (case k18 => k_is)
  (case a19 => k_is)
  (case l19 => k_is)
  (case c19 => k_is)
  (case k19 => k_is)
  (case a20 => k_is)
  (case l20 => k_is)
  (case c20 => k_is)
  (case k20 => k_is)
  (case a21 => k_is)
  (case l21 => k_is)
  (case c21 => k_is)
  (case k21 => k_is)
  (case a22 => k_is)
  (case l22 => k_is)
  (case c22 => k_is)
  (case k22 => k_is)
  (case a23 => k_is)
  (case l23 => k_is)
  (case c23 => k_is)
  (case k23 => k_is)
  (case a24 => k_is)
  (case l24 => k_is)
  (case c24 => k_is)
  (case k24 => k_is)
  (case a25 => k_is)
  (case l25 => k_is)
  (case c25 => k_is)
  (case k25 => k_is)
  (case a26 => k_is)
  (case l26 => k_is)
  (case c26 => k_is)
  (case k26 => k_is)
  (case a27 => k_is)
  (case l27 => k_is)
  (case c27 => k_is)
  (case k27 => k_is)
  (case a28 => k_is)
  (case l28 => k_is)
  (case c28 => k_is)
  (case k28 => k_is)
  (case a29 => k_is)
  (case l29 => k_is)
  (case c29 => k_is)
  (case k29 => k_is)
  (case a30 => k_is)
  (case l30 => k_is)
  (case c30 => k_is)
  (case k30 => k_is)
  (case a31 => k_is)
  (case l31 => k_is)
  (case c31 => k_is)
  (case k31 => k_is)
  (case a32 => k_is)
  (case l32 => k_is)
  (case c32 => k_is)
  (case k32 => k_is)
  (case a33 => k_is)
  (case l33 => k_is)
  (case c33 => k_is)
  (case k33 => k_is)
  (case a34 => k_is)
  (case l34 => k_is)
  (case c34 => k_is)
  (case k34 => k_is)
  (case a35 => k_is)
  (case l35 => k_is)
  (case c35 => k_is)
  (case k35 => k_is)
  (case a36 => k_is)
  (case l36 => k_is)
  (case c36 => k_is)
  (case k36 => k_is)
  (case a37 => k_is)
  (case l37 => k_is)
  (case c37 => k_is)
  (case k37 => k_is)
  (case a38 => k_is)
  (case l38 => k_is)
  (case c38 => k_is)
  (case k38 => k_is)
  (case a39 => k_is)
  (case l39 => k_is)
  (case c39 => k_is)
  (case k39 => k_is)
  (case a40 => k_is)
  (case l40 => k_is)
  (case c40 => k_is)
  (case k40 => k_is)
  (case a41 => k_is)
  (case l41 => k_is)
  (case c41 => k_is)
  (case k41 => k_is)
  (case a42 => k_is)
  (case l42 => k_is)
  (case c42 => k_is)
  (case k42 => k_is)
  (case a43 => k_is)
  (case l43 => k_is)
  (case c43 => k_is)
  (case k43 => k_is)
  (case a44 => k_is)
  (case l44 => k_is)
  (case c44 => k_is)
  (case k44 => k_is)
  (case a45 => k_is)
  (case l45 => k_is)
  (case c45 => k_is)
  (case k45 => k_is)
  (case mk7 => k_is)
  (case kc7 => k_is)
  (case mk8 => k_is)
  (case kc8 => k_is)
  (case mk9 => k_is)
  (case kc9 => k_is)
  (case ai9 => k_is)
  (case z0 => k_is)
  (case z1 => k_is)
  (case z2 => k_is)
  (case z3 => k_is)
  (case z4 => k_is)
  (case z5 => k_is)
  (case z6 => k_is)
  (case z7 => k_is)
  (case z8 => k_is)
  (case z9 => k_is)
  (case z10 => k_is)
  (case z11 => k_is)
  (case v0 => k_is)
  (case v1 => k_is)
  (case v2 => k_is)
  (case v3 => k_is)
#print axioms PySem.Challenge.cw_spanmap_k92_maps_read_and_shown_holds
