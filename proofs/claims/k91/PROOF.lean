import PyProof.Rows.All
import Wide.All
import OpenK.AllK
import Wide.FinOn
import Lean
import PyProof.EqAt
import PyProof.EqKinds
import PyProof.TupleCall
import PyProof.ListRange
import PyProof.P3In
import PyProof.NeData
import PyProof.NsDelKeeps
import PyProof.SliceList
import KE.KLam
import KE.KIntText
import PySem.Challenge.RW_spanmap_k91_numbers_and_spans_read
set_option Elab.async false
set_option linter.all false
set_option maxRecDepth 100000
namespace HT
def sIx (n d : Nat) : Option Int → Nat
  | none => d
  | some v => if v < 0 then (v + (n : Int)).toNat else min v.toNat n
end HT
namespace L2
open PySem
abbrev Key := Sum Int Str
def ixN (n : Nat) (i : Int) : Option Nat := if 0 ≤ i then (if i < n then some i.toNat else none) else if -(n : Int) ≤ i then some (i + n).toNat else none
def atI {α : Type} (xs : List α) (i : Int) : Option α := (ixN xs.length i).bind fun j => xs[j]?
end L2
namespace FL
open PySem PySem.Spec PyProof.Rows L2
def clsName : Nat → Str
  | 0 => "Put" | 1 => "Widen" | 2 => "Narrow" | 3 => "Move" | 4 => "Stretch" | 5 => "Mirror" | 6 => "Deed" | 7 => "Shut" | 8 => "Open" | 9 => "Endless" | 10 => "End" | _ => ""
def clsFlds : Nat → List Str
  | 0 => ["span", "fill"] | 1 => ["fill", "at", "many"] | 2 => ["fill", "at", "many"] | 3 => ["fill", "far"] | 4 => ["fill", "top", "bottom"] | 5 => ["fill"] | 6 => ["fill"] | 7 => ["place"] | 8 => ["place"] | _ => []
def fnName : Nat → Str
  | 0 => "either" | 1 => "if_both" | 2 => "if_alone" | 3 => "summed" | 4 => "_law_first" | 5 => "_law_both" | 6 => "_law_left" | 7 => "_law_sum" | 8 => "_law_none" | _ => ""
inductive D where
  | non | bl (b : Bool) | int (i : Int) | str (x : Str) | tup (ds : List D) | lst (ds : List D)
  | dct (ks : List Key) (ds : List D) | ins (t : Nat) (ds : List D) | clo (m n : Nat) (ds : List D)
mutual
def flat : D → Bool
  | .non | .bl _ | .int _ | .str _ => true
  | .tup ds => flats ds
  | _ => false
def flats : List D → Bool
  | [] => true
  | d :: r => flat d && flats r
end
def xName : Nat → Str
  | 0 => "SpanError" | 1 => "Empty" | 2 => "NoEnd" | 3 => "Clash" | 4 => "NoCount" | 5 => "NoShare" | 6 => "NoName" | 7 => "NoMark" | 8 => "NoDeed" | 9 => "NoRule" | 10 => "TooMuch" | 11 => "NoText" | _ => "NoRow"
inductive Sl where
  | no | v (d : D) | own (l : List D) | exc (t : Nat) | fr (l : List D)
abbrev FE := List Sl → Option D
abbrev FT := List Sl → Option Bool
abbrev FA := List Sl → Option (List D)
def mkL (f : FA) : FE := fun ds => (f ds).map D.lst
def getV (i : Nat) : FE := fun ds => match ds[i]? with | some (.v d) => some d | _ => none
def getW (i : Nat) : FE := fun ds => match ds[i]? with | some (.v d) => some d | some (.own l) => some (.lst l) | _ => none
def konst (d : D) : FE := fun _ => some d
def bin2 (op : D → D → Option D) (fa fb : FE) : FE := fun ds => (fa ds).bind fun x => (fb ds).bind fun y => op x y
def isB : D → Option Bool
  | .bl b => some b
  | _ => none
def testB (f : FE) : FT := fun ds => (f ds).bind isB
def addD : D → D → Option D
  | .int i, .int j => some (.int (i + j))
  | .str x, .str y => if x.length + y.length ≤ sizeLine then some (.str (x ++ y)) else none
  | _, _ => none
def subD : D → D → Option D
  | .int i, .int j => some (.int (i - j))
  | _, _ => none
def divOk (j : Int) : Prop := 0 < j ∧ j.natAbs.log2 < 9000
noncomputable instance divOkD (j : Int) : Decidable (divOk j) := Classical.propDecidable _
noncomputable def fdivD : D → D → Option D
  | .int i, .int j => if divOk j then some (.int (i / j)) else none
  | _, _ => none
def modD : D → D → Option D
  | .int i, .int j => if 0 < j then some (.int (i % j)) else none
  | _, _ => none
def cmpI (p : Int → Int → Bool) : D → D → Option D
  | .int i, .int j => some (.bl (p i j))
  | _, _ => none
def andT (c d : FT) : FT := fun ds => (c ds).bind fun b => if b = true then d ds else some false
def orT (c d : FT) : FT := fun ds => (c ds).bind fun b => if b = true then some true else d ds
def notT (c : FT) : FT := fun ds => (c ds).map not
def andV (f g : FE) : FE := fun ds => (f ds).bind fun d => match d with | .bl true => g ds | .bl false => some (.bl false) | _ => none
def orV (f g : FE) : FE := fun ds => (f ds).bind fun d => match d with | .bl true => some (.bl true) | .bl false => g ds | _ => none
def notV (f : FE) : FE := fun ds => (f ds).bind fun d => match d with | .bl b => some (.bl (!b)) | _ => none
def ifV (c : FT) (f g : FE) : FE := fun ds => (c ds).bind fun b => if b = true then f ds else g ds
def chain (op op' : D → D → Option D) (fa fb fc : FE) : FE := fun ds => (fa ds).bind fun x => (fb ds).bind fun y => (op x y).bind fun z => match z with
  | .bl true => (fc ds).bind fun w => op' y w
  | .bl false => some (.bl false)
  | _ => none
def consA (f : FE) (g : FA) : FA := fun ds => (f ds).bind fun x => (g ds).map fun r => x :: r
def nilA : FA := fun _ => some []
def sized (f : FA) : FA := fun ds => (f ds).bind fun l => if l.length ≤ sizeLine then some l else none
def mkT (f : FA) : FE := fun ds => (f ds).map D.tup
def ixD : D → D → Option D
  | .lst l, .int i => atI l i
  | .tup l, .int i => atI l i
  | .str x, .int i => if x.length ≤ sizeLine then (atI x.cps.toList i).map fun c => .str ⟨#[c]⟩ else none
  | _, _ => none
inductive Ret where
  | val (d : D) | fresh (l : List D) | any (d : D)
def retV : Ret → Option D
  | .val d => some d
  | .fresh l => some (.lst l)
  | .any _ => none
def retF : Ret → Option (List D)
  | .fresh l => some l
  | _ => none
def callV (n : Nat) (F : List D → Option Ret) (g : FA) : FE := fun ds => (g ds).bind fun l => if l.length = n then (F l).bind retV else none
def callF (n : Nat) (F : List D → Option Ret) (g : FA) : FA := fun ds => (g ds).bind fun l => if l.length = n then (F l).bind retF else none
def callB (F : List D → Option D) (g : FA) : FE := fun ds => (g ds).bind F
def lenD : List D → Option D
  | [.lst l] => some (.int l.length)
  | [.tup l] => some (.int l.length)
  | [.str x] => if x.length ≤ sizeLine then some (.int x.length) else none
  | _ => none
inductive Out where
  | nx (ds : List Sl) | rt (r : Ret) | bk (ds : List Sl) | ct (ds : List Sl)
abbrev FS := List Sl → Option Out
def nextG : FS := fun ds => some (.nx ds)
def seqG (f g : FS) : FS := fun ds => (f ds).bind fun o => match o with | .nx ds' => g ds' | o => some o
def ifG (c : FT) (f g : FS) : FS := fun ds => (c ds).bind fun b => if b = true then f ds else g ds
def setG (i : Nat) (f : FE) : FS := fun ds => (f ds).map fun d => .nx (ds.set i (.v d))
def setOG (i : Nat) (f : FA) : FS := fun ds => (f ds).map fun l => .nx (ds.set i (.own l))
def flatR (d : D) : Option Out := if flat d = true then some (.rt (.val d)) else none
def retG (f : FE) : FS := fun ds => (f ds).bind flatR
def flatF (l : List D) : Option Out := if flats l = true then some (.rt (.fresh l)) else none
def retOG (f : FA) : FS := fun ds => (f ds).bind flatF
def retXG (i : Nat) : FS := fun ds => match ds[i]? with | some (.own l) => flatF l | _ => none
def putG (i : Nat) (fk fe : FE) : FS := fun ds => match ds[i]? with
  | some (.own l) => (fe ds).bind fun d => (fk ds).bind fun k => match k with
    | .int n => (ixN l.length n).map fun j => .nx (ds.set i (.own (l.set j d)))
    | _ => none
  | _ => none
def appG (i : Nat) (fe : FE) : FS := fun ds => match ds[i]? with
  | some (.own l) => (fe ds).bind fun d => if l.length < sizeLine then some (.nx (ds.set i (.own (l ++ [d])))) else none
  | _ => none
def args (n : Nat) (ds : List D) : List Sl := ds.map Sl.v ++ List.replicate (n - ds.length) Sl.no
def sgns (x : Str) : List D := x.cps.toList.map fun c => D.str ⟨#[c]⟩
def asS : D → Option (List D)
  | .str x => some (sgns x)
  | _ => none
def viaA (f : FE) (k : D → Option (List D)) : FA := fun ds => (f ds).bind k
def rangeD (lo : Int) (n : Nat) : List D := (List.range n).map fun (k : Nat) => D.int (lo + (k : Int))
def okR (j : Int) : Prop := -(2 ^ 62) ≤ j ∧ j < 2 ^ 62
noncomputable instance okRD (j : Int) : Decidable (okR j) := Classical.propDecidable _
noncomputable def rng1 (f : FE) : FA := fun ds => (f ds).bind fun d => match d with | .int j => if okR j then some (rangeD 0 j.toNat) else none | _ => none
def nameG (i : Nat) : D → List Sl → Option (List Sl) := fun d ds => some (ds.set i (.v d))
def tgNil : List D → List Sl → Option (List Sl)
  | [], ds => some ds
  | _, _ => none
def tgCons (g : D → List Sl → Option (List Sl)) (h : List D → List Sl → Option (List Sl)) : List D → List Sl → Option (List Sl)
  | d :: r, ds => (g d ds).bind fun ds' => h r ds'
  | _, _ => none
def tupG (n : Nat) (h : List D → List Sl → Option (List Sl)) : D → List Sl → Option (List Sl)
  | .tup l, ds => if l.length = n then h l ds else none
  | _, _ => none
def loopG (ga : D → List Sl → Option (List Sl)) (body : FS) : List D → List Sl → Option Out
  | [], ds => some (.nx ds)
  | d :: r, ds => (ga d ds).bind fun ds1 => (body ds1).bind fun o => match o with
    | .nx ds2 => loopG ga body r ds2
    | .ct ds2 => loopG ga body r ds2
    | .bk ds2 => some (.nx ds2)
    | .rt r => some (.rt r)
def forG (fi : FA) (ga : D → List Sl → Option (List Sl)) (body : FS) : FS := fun ds => (fi ds).bind fun items => loopG ga body items ds
def compL (ga : D → List Sl → Option (List Sl)) (tt : FT) (fe : FE) (s0 : List Sl) : List D → Option (List D)
  | [] => some []
  | d :: r => (ga d s0).bind fun ds1 => (tt ds1).bind fun b => if b = true then (fe ds1).bind fun y => (compL ga tt fe s0 r).map fun ys => y :: ys else compL ga tt fe s0 r
def slotsD (mp : List (Option Nat)) (ds : List Sl) : List Sl := mp.map fun o => match o with
  | some j => (match ds[j]? with | some (.v d) => .v d | _ => .no)
  | none => .no
def compG (fi : FA) (mp : List (Option Nat)) (ga : D → List Sl → Option (List Sl)) (tt : FT) (fe : FE) : FA := fun ds => (fi ds).bind fun items => if items.length ≤ sizeLine then compL ga tt fe (slotsD mp ds) items else none
def tyD : D → Option String
  | .non => some "NoneType"
  | .bl _ => some "bool"
  | .int _ => some "int"
  | .str _ => some "str"
  | .tup _ => some "tuple"
  | .lst _ => some "list"
  | .dct _ _ => some "dict"
  | .ins _ _ => none
  | .clo _ _ _ => none
def kitN : List String := ["NoneType", "bool", "int", "str", "tuple", "list", "dict"]
def kitT : List String := ["bool", "int", "str", "tuple", "list", "dict"]
def kitF (t T : String) : Option Bool := if t ∈ kitN ∧ T ∈ kitT then some (t == T || (t == "bool" && T == "int")) else none
def isiD (T : String) (d : D) : Option D := (tyD d).bind fun t => (kitF t T).map D.bl
def isiG (T : String) (f : FE) : FE := fun ds => (f ds).bind (isiD T)
def blsD : List D → Option (List Bool)
  | [] => some []
  | .bl b :: r => (blsD r).map fun bs => b :: bs
  | _ => none
def allD : List D → Option D
  | [.lst l] => (blsD l).map fun bs => .bl (bs.all id)
  | _ => none
def negD : D → Option D
  | .int i => some (.int (-i))
  | _ => none
def un1 (op : D → Option D) (f : FE) : FE := fun ds => (f ds).bind op
def inS : D → D → Option D
  | .str i, .str j => some (.bl (!(Builtin.Str.occurrences j i 0 j.length 1).isEmpty))
  | _, _ => none
def retDG (f : FE) : FS := fun ds => (f ds).map fun d => .rt (.val d)
def runG (g : FS) (n : Nat) : List D → Option Ret := fun ds => match g (args n ds) with
  | some (.rt r) => some r
  | some (.nx _) => some (.val .non)
  | _ => none
def CPowB (i j : Int) : Prop := 0 ≤ j ∧ (Builtin.Int.intBits i : Int) * j ≤ 2 ^ 27
mutual
def toPy : D → PyData
  | .non => .none
  | .bl b => .bool b
  | .int i => .int i
  | .str x => .str x
  | .tup ds => .tuple (toPys ds)
  | .lst ds => .list (toPys ds)
  | .dct _ _ => .none
  | .ins _ _ => .none
  | .clo _ _ _ => .none
def toPys : List D → List PyData
  | [] => []
  | d :: r => toPy d :: toPys r
end
mutual
def shal : Nat → D → Bool
  | _, .non => true
  | _, .bl _ => true
  | _, .int _ => true
  | _, .str x => PyData.strOk x
  | n, .tup ds => shals n ds
  | n, .lst ds => shals n ds
  | _, .dct _ _ => false
  | _, .ins _ _ => false
  | _, .clo _ _ _ => false
def shals : Nat → List D → Bool
  | _, [] => true
  | 0, _ :: _ => false
  | n + 1, d :: r => shal n d && shals (n + 1) r
end
def eqvD (x y : D) : Bool := PyData.eqv (toPy x) (toPy y)
def eqvs (x y : List D) : Bool := PyData.eqvAll (toPys x) (toPys y)
def eqD (x y : D) : Option D := if shal 40 x = true ∧ shal 40 y = true then some (.bl (eqvD x y)) else none
def neD (x y : D) : Option D := if shal 40 x = true ∧ shal 40 y = true then some (.bl (!eqvD x y)) else none
def isD : D → D → Option D
  | .non, .non => some (.bl true)
  | _, .non => some (.bl false)
  | _, _ => none
def notD : D → D → Option D
  | .non, .non => some (.bl false)
  | _, .non => some (.bl true)
  | _, _ => none
def sclD : D → Bool
  | .non | .bl _ | .int _ | .str _ => true
  | _ => false
def asLT : D → Option (List D)
  | .lst l => some l
  | .tup l => some l
  | _ => none
def inD (neg : Bool) (x y : D) : Option D := (asLT y).bind fun l => if sclD x = true ∧ l.all sclD = true then some (.bl (if neg then !l.any (fun z => eqvD z x) else l.any fun z => eqvD z x)) else none
noncomputable instance mulOkD (i j : Int) : Decidable (IntMulOk i j) := Classical.propDecidable _
noncomputable instance powOkD (i j : Int) : Decidable (CPowB i j) := Classical.propDecidable _
noncomputable def mulD : D → D → Option D
  | .int i, .int j => if IntMulOk i j then some (.int (i * j)) else none
  | _, _ => none
noncomputable def powD : D → D → Option D
  | .int i, .int j => if CPowB i j then some (.int (i ^ j.toNat)) else none
  | _, _ => none
def catA (fa fb : FE) : FA := fun ds => (fa ds).bind fun x => (fb ds).bind fun y => match x, y with
  | .lst a, .lst b => if a.length + b.length ≤ sizeLine then some (a ++ b) else none
  | _, _ => none
def noP : List Sl → Option (Option Int) := fun _ => some none
def soP (f : FE) : List Sl → Option (Option Int) := fun ds => (f ds).bind fun d => match d with | .int i => some (some i) | _ => none
def cutD (l : List D) (lo hi : Option Int) : List D := (l.drop (HT.sIx l.length 0 lo)).take (HT.sIx l.length l.length hi - HT.sIx l.length 0 lo)
def sliA (f : FE) (lo hi : List Sl → Option (Option Int)) : FA := fun ds => (f ds).bind fun d => (lo ds).bind fun a => (hi ds).bind fun b => match d with
  | .lst l => some (cutD l a b)
  | _ => none
def lisA (f : FE) : FA := fun ds => (f ds).bind asLT
def mxD : List D → Option D
  | [.int i, .int j] => some (.int (if j > i then j else i))
  | _ => none
def mnD : List D → Option D
  | [.int i, .int j] => some (.int (if j < i then j else i))
  | _ => none
def absD : List D → Option D
  | [.int i] => some (.int (if i < 0 then -i else i))
  | _ => none
def truD : D → Option Bool
  | .non => some false
  | .bl b => some b
  | .int i => some (i != 0)
  | .str x => if x.length ≤ sizeLine then some ((x.length : Int) != 0) else none
  | .tup l => some (!l.isEmpty)
  | .lst l => some (!l.isEmpty)
  | _ => none
def testT (f : FE) : FT := fun ds => (f ds).bind truD
def relS (i : Nat) (ds : List Sl) : List Sl := match ds[i]? with | some (.own l) => ds.set i (.v (.lst l)) | _ => ds
def asgG (ga : D → List Sl → Option (List Sl)) (f : FE) : FS := fun ds => (f ds).bind fun d => (ga d ds).map .nx
def extG (i : Nat) (fe : FA) : FS := fun ds => match ds[i]? with
  | some (.own l) => (fe ds).bind fun d => if l.length + d.length ≤ sizeLine then some (.nx (ds.set i (.own (l ++ d)))) else none
  | _ => none
def clrG (i : Nat) : FS := fun ds => match ds[i]? with
  | some (.own l) => some (.nx (ds.set i (.own [])))
  | _ => none
def anyD : List D → Option D
  | [.lst l] => (blsD l).map fun bs => .bl (bs.any id)
  | _ => none
def ltD : D → D → Option D := cmpI fun i j => decide (i < j)
def leD : D → D → Option D := cmpI fun i j => decide (i ≤ j)
def gtD : D → D → Option D := cmpI fun i j => decide (j < i)
def geD : D → D → Option D := cmpI fun i j => decide (j ≤ i)
noncomputable def rng2 (fa fb : FE) : FA := fun ds => (fa ds).bind fun x => (fb ds).bind fun y => match x, y with
  | .int i, .int j => if okR i ∧ okR j then some (rangeD i (j - i).toNat) else none
  | _, _ => none
def range3D (lo c : Int) (n : Nat) : List D := (List.range n).map fun (k : Nat) => D.int (lo + (k : Int) * c)
def steps3 (i j c : Int) : Nat := if i < j then ((j - i - 1) / c + 1).toNat else 0
def okR3 (i j c : Int) : Prop := -(2 ^ 61) ≤ i ∧ i < 2 ^ 61 ∧ -(2 ^ 61) ≤ j ∧ j < 2 ^ 61 ∧ 0 < c ∧ c < 1000000
noncomputable instance okR3D (i j c : Int) : Decidable (okR3 i j c) := Classical.propDecidable _
noncomputable def rng3 (fa fb fc : FE) : FA := fun ds => (fa ds).bind fun x => (fb ds).bind fun y => (fc ds).bind fun z => match x, y, z with
  | .int i, .int j, .int c => if okR3 i j c then some (range3D i c (steps3 i j c)) else none
  | _, _, _ => none
def revA (f : FE) : FA := fun ds => (f ds).bind fun d => match d with
  | .lst l => some l.reverse
  | _ => none
def augA (i : Nat) (f : FE) : FS := fun ds => (getV i ds).bind fun x => (f ds).bind fun y => match x, y with
  | .int a, .int b => some (.nx (ds.set i (.v (.int (a + b)))))
  | _, _ => none
def parG (i j : Nat) (f : FA) : FS := fun ds => (f ds).bind fun l => match l with
  | [a, b] => some (.nx ((ds.set i (.v a)).set j (.v b)))
  | _ => none
def int1D : List D → Option D
  | [.int i] => some (.int i)
  | [.bl b] => some (.int (if b then 1 else 0))
  | _ => none
def intsD : List D → Option (List Int)
  | [] => some []
  | .int b :: r => (intsD r).map fun bs => b :: bs
  | _ => none
def maxOf : List Int → Int
  | [] => 0
  | [a] => a
  | a :: r => max a (maxOf r)
def mxLD : List D → Option D
  | [.lst l] => (intsD l).bind fun ns => if ns = [] then none else some (.int (maxOf ns))
  | _ => none
abbrev Fun2 := D → List D → Option Ret
end FL
namespace FL
open PySem PyProof.Rows L2
end FL
namespace FL
open PySem PyProof.Rows L2
def fldD (ix : List (Nat × Nat)) : D → Option D
  | .ins t ds => (ix.lookup t).bind fun i => ds[i]?
  | _ => none
def fldG (ix : List (Nat × Nat)) (f : FE) : FE := fun ds => (f ds).bind (fldD ix)
def methR (n : Nat) (cs : List Nat) (F : Nat → List D → Option Ret) (o : D) (l : List D) : Option Ret := match o with
  | .ins t es => if t ∈ cs ∧ l.length = n then F t (.ins t es :: l) else none
  | _ => none
def methV (n : Nat) (cs : List Nat) (F : Nat → List D → Option Ret) (fo : FE) (g : FA) : FE := fun ds => (fo ds).bind fun o => (g ds).bind fun l => (methR n cs F o l).bind retV
def methF (n : Nat) (cs : List Nat) (F : Nat → List D → Option Ret) (fo : FE) (g : FA) : FA := fun ds => (fo ds).bind fun o => (g ds).bind fun l => (methR n cs F o l).bind retF
def makeG (t n : Nat) (G : List D → Option (List D)) (g : FA) : FE := fun ds => (g ds).bind fun l => if l.length = n ∧ flats l = true then (G l).map (D.ins t) else none
abbrev FN := List Sl → Option (List D)
def fldN (f : FE) : FN := fun ds => (f ds).bind fun d => if flat d = true then some [d] else none
def argsN (n : Nat) (ds : List D) : List Sl := Sl.no :: (ds.map Sl.v ++ List.replicate (n - (ds.length + 1)) Sl.no)
def runN (g : FN) (n : Nat) : List D → Option (List D) := fun ds => (g (argsN n ds)).bind fun new => if flats new = true then some new else none
end FL
namespace FL
open PySem PyProof.Rows L2
end FL
namespace FL
open PySem
def ifX (c : FT) (a b : List Sl → Bool) : List Sl → Bool := fun ds => match c ds with
  | some true => a ds
  | some false => b ds
  | none => false
def neverX : List Sl → Bool := fun _ => false
def alwaysX : List Sl → Bool := fun _ => true
def seqX (f : FS) (x : List Sl → Bool) : List Sl → Bool := fun ds => match f ds with
  | some (.nx ds') => x ds'
  | _ => false
def callX (n : Nat) (R : List D → Bool) (g : FA) : List Sl → Bool := fun ds => match g ds with
  | some l => decide (l.length = n) && R l
  | none => false
def runX (x : List Sl → Bool) (n : Nat) : List D → Bool := fun ds => x (args n ds)
def goneO (i : Nat) : Out → Out
  | .nx ds => .nx (ds.set i .no)
  | .bk ds => .bk (ds.set i .no)
  | .ct ds => .ct (ds.set i .no)
  | .rt r => .rt r
def isxG (i : Nat) (tb : List (Nat × Bool)) : FE := fun ds => match ds[i]? with
  | some (.exc t) => (tb.lookup t).map D.bl
  | _ => none
def orX (a b : List Sl → Bool) : List Sl → Bool := fun ds => a ds || b ds
def tryG2 (i t u : Nat) (g : FS) (x y : List Sl → Bool) (h : FS) : FS := fun ds => if x ds = true then (h (ds.set i (.exc t))).map (goneO i) else if y ds = true then (h (ds.set i (.exc u))).map (goneO i) else g ds
def okRB (i j : Int) : Prop := -(2 ^ 61) ≤ i ∧ i < 2 ^ 61 ∧ -(2 ^ 61) ≤ j ∧ j < 2 ^ 61
noncomputable instance okRBD (i j : Int) : Decidable (okRB i j) := Classical.propDecidable _
end FL
namespace FL
end FL
namespace FL
open PySem PyProof.Rows L2
end FL
namespace FL
open PySem PyProof.Rows L2
def rngL (fa fb : FE) : FA := fun ds => (fa ds).bind fun x => (fb ds).bind fun y => match x, y with
  | .int i, .int j => some (rangeD i (j - i).toNat)
  | _, _ => none
@[simp] theorem rngL_eq (fa fb : FE) (ds : List Sl) : rngL fa fb ds = (fa ds).bind fun x => (fb ds).bind fun y => match x, y with
  | .int i, .int j => some (rangeD i (j - i).toNat)
  | _, _ => none := rfl
end FL
namespace FL
open PySem PyProof.Rows L2
end FL
namespace FL
open PySem PyProof.Rows L2
def stwD : D → D → Option D
  | .str x, .str y => some (.bl (Txt.startswith x y))
  | _, _ => none
def enwD : D → D → Option D
  | .str x, .str y => some (.bl (Txt.endswith x y))
  | _, _ => none
def splA (f g : FE) : FA := fun ds => (f ds).bind fun x => (g ds).bind fun y => match x, y with
  | .str x, .str y => if (y.length == 0) = false ∧ x.length + 2 ≤ sizeLine then some ((Txt.split x y).map D.str) else none
  | _, _ => none
def prtD : D → D → Option D
  | .str x, .str y => if (y.length == 0) = false ∧ x.length ≤ sizeLine then some (.tup [.str (Txt.partition x y).1, .str (Txt.partition x y).2.1, .str (Txt.partition x y).2.2]) else none
  | _, _ => none
def strD : List D → Option D
  | [.int i] => if i.natAbs.log2 < 1920 then some (.str (Str.ofString (toString i))) else none
  | _ => none
def intTD : List D → Option D
  | [.str x] => if x.length ≤ 640 then (intText? x).map D.int else none
  | l => int1D l
noncomputable instance mulOkSD (x : Str) (n : Int) : Decidable (MulOk x n) := Classical.propDecidable _
noncomputable def mulSD : D → D → Option D
  | .str x, .int n => if MulOk x n then some (.str (Txt.mul x n)) else none
  | _, _ => none
def slsS (f : FE) (lo hi : List Sl → Option (Option Int)) : FE := fun ds => (f ds).bind fun d => (lo ds).bind fun a => (hi ds).bind fun b => match d with
  | .str x => if x.length ≤ sizeLine then some (.str (Txt.slice x a b)) else none
  | _ => none
def notS : D → D → Option D
  | .str i, .str j => some (.bl (!(!(Builtin.Str.occurrences j i 0 j.length 1).isEmpty)))
  | _, _ => none
def thenX (f : FE) (x : List Sl → Bool) : List Sl → Bool := fun ds => match f ds with
  | some _ => x ds
  | none => false
end FL
namespace FL
open PySem PyProof.Rows L2
end FL
namespace L2
open PySem PySem.Spec PyProof.Rows
def keyIs : Key → Value → Bool
  | .inl k, v => Value.isInt k v
  | .inr x, v => Value.isStrOf x v
def keyH (w : World) : Key → Int
  | .inl k => hashInt k
  | .inr x => hashStr w x
theorem keyIs_shape : ∀ {k : Key} {v : Value}, keyIs k v = true → (∃ i t, k = Sum.inl i ∧ v = Value.int i t) ∨ (∃ x t, k = Sum.inr x ∧ v = Value.str x t)
  | .inl i, v, h => by
    obtain ⟨t, e⟩ := Value.isInt_shape (k := i) (v := v) h
    exact .inl ⟨i, t, rfl, e⟩
  | .inr x, v, h => by
    obtain ⟨t, e⟩ := Value.isStrOf_shape (x := x) (v := v) h
    exact .inr ⟨x, t, rfl, e⟩
theorem key_ll (a b : Int) : decide ((Sum.inl a : Key) = Sum.inl b) = (a == b) := by
  by_cases e : a = b
  · subst e; simp
  · have h : ¬ (Sum.inl a : Key) = Sum.inl b := fun q => e (Sum.inl.inj q)
    rw [decide_eq_false h]
    exact (beq_eq_false_iff_ne.mpr e).symm
theorem key_rr (a b : Str) : decide ((Sum.inr a : Key) = Sum.inr b) = decide (a = b) := by
  by_cases e : a = b
  · subst e; simp
  · have h : ¬ (Sum.inr a : Key) = Sum.inr b := fun q => e (Sum.inr.inj q)
    rw [decide_eq_false h, decide_eq_false e]
theorem key_lr (a : Int) (b : Str) : decide ((Sum.inl a : Key) = Sum.inr b) = false := decide_eq_false (fun q => nomatch q)
theorem key_rl (a : Str) (b : Int) : decide ((Sum.inr a : Key) = Sum.inl b) = false := decide_eq_false (fun q => nomatch q)
def mixKind (prog : Program) (w : World) : PySem.KeyKind prog w Key where
  is := keyIs
  hash := keyH w
  inj := fun v a b ha hb => by
    rcases keyIs_shape ha with ⟨i, t, rfl, rfl⟩ | ⟨x, t, rfl, rfl⟩
    · rcases keyIs_shape hb with ⟨j, u, rfl, e⟩ | ⟨y, u, rfl, e⟩
      · injection e with e1 _; rw [e1]
      · exact nomatch e
    · rcases keyIs_shape hb with ⟨j, u, rfl, e⟩ | ⟨y, u, rfl, e⟩
      · exact nomatch e
      · injection e with e1 _; rw [e1]
  byValue := fun k v h => by
    rcases keyIs_shape h with ⟨i, t, rfl, rfl⟩ | ⟨x, t, rfl, rfl⟩ <;> rfl
  pyHash := fun hv h => by
    rcases keyIs_shape hv with ⟨i, t, rfl, rfl⟩ | ⟨x, t, rfl, rfl⟩
    · exact wpAny_pyHash_int h
    · exact wpAny_pyHash_str h
  eqBool := fun hu hv h => by
    rcases keyIs_shape hu with ⟨i, t, rfl, rfl⟩ | ⟨x, t, rfl, rfl⟩
    · rcases keyIs_shape hv with ⟨j, u, rfl, rfl⟩ | ⟨y, u, rfl, rfl⟩
      · rw [key_ll] at h; exact wpAny_eqBool_int h
      · rw [key_lr] at h; exact SeqAt.EqAt.int_str i t y u _ _ _ _ h
    · rcases keyIs_shape hv with ⟨j, u, rfl, rfl⟩ | ⟨y, u, rfl, rfl⟩
      · rw [key_rl] at h; exact SeqAt.EqAt.str_int x t j u _ _ _ _ h
      · rw [key_rr] at h; exact wpAny_eqBool_str h
  «strs» := fun k x t v h => by
    rcases keyIs_shape h with ⟨i, u, rfl, e⟩ | ⟨y, u, rfl, e⟩
    · exact nomatch e
    · injection e with e1 _
      subst e1
      cases v <;> rfl
end L2
namespace L2
open PySem PySem.Spec PyProof.Rows
inductive V where
  | non | bl (b : Bool) | int (i : Int) | str (x : Str) | byt (b : Array UInt8) | flt (b : UInt64) | ref (a : Addr) | ty (n : String)
  deriving DecidableEq
def RelV : V → Value → Prop
  | .non, u => u = Value.none
  | .bl b, u => u = Value.bool b
  | .int i, u => ∃ t, u = Value.int i t
  | .str x, u => ∃ t, u = Value.str x t
  | .byt b, u => ∃ t, u = Value.bytes b t
  | .flt b, u => ∃ t, u = Value.float b t
  | .ref a, u => u = Value.ref a
  | .ty n, u => u = Value.type n
abbrev Vals : List V → List Value → Prop := Paired RelV
theorem Vals.length {xs : List V} {us : List Value} (r : Vals xs us) : xs.length = us.length := Paired.length r
theorem Vals.get : ∀ {xs : List V} {us : List Value} {i : Nat} {x : V}, Vals xs us → xs[i]? = some x → ∃ u, us[i]? = some u ∧ RelV x u
  | _, _, _, _, .nil, e => by simp at e
  | _, _, 0, _, .cons r _, e => by simp at e; subst e; exact ⟨_, rfl, r⟩
  | _, _, i + 1, x, .cons _ t, e => by
    obtain ⟨u, h1, h2⟩ := Vals.get (i := i) (x := x) t (by simpa using e)
    exact ⟨u, by simpa using h1, h2⟩
theorem Vals.set {x : V} {u : Value} (r : RelV x u) : ∀ {xs : List V} {us : List Value} (i : Nat), Vals xs us → Vals (xs.set i x) (us.set i u)
  | _, _, _, .nil => .nil
  | _, _, 0, .cons _ t => .cons r t
  | _, _, i + 1, .cons q t => .cons q (Vals.set r i t)
theorem Vals.append : ∀ {xs ys : List V} {us ws : List Value}, Vals xs us → Vals ys ws → Vals (xs ++ ys) (us ++ ws)
  | _, _, _, _, .nil, s => s
  | _, _, _, _, .cons r t, s => .cons r (Vals.append t s)
theorem Vals.take : ∀ {xs : List V} {us : List Value} (n : Nat), Vals xs us → Vals (xs.take n) (us.take n)
  | _, _, 0, _ => .nil
  | _, _, _ + 1, .nil => .nil
  | _, _, n + 1, .cons r t => .cons r (Vals.take n t)
theorem Vals.drop : ∀ {xs : List V} {us : List Value} (n : Nat), Vals xs us → Vals (xs.drop n) (us.drop n)
  | _, _, 0, r => r
  | _, _, _ + 1, .nil => .nil
  | _, _, n + 1, .cons _ t => Vals.drop n t
def RelO : Option V → Option Value → Prop
  | some v, some u => RelV v u
  | none, none => True
  | _, _ => False
def KV {κ : Type} : List (κ × V) → List (κ × Value) → Prop := Paired fun (p : κ × V) (q : κ × Value) => p.1 = q.1 ∧ RelV p.2 q.2
def kV : Key → V
  | .inl i => .int i
  | .inr x => .str x
inductive HO where
  /-- a list -/
  | lst (xs : List V)
  /-- a tuple (never changes) -/
  | tup (xs : List V)
  /-- a dict whose keys are ints and texts; one whose keys are tuples of ints and texts (the empty one is both) -/
  | dK (kvs : List (Key × V)) | dT (kvs : List (List Key × V))
  /-- a set of ints: its members, its size -/
  | set (S : Int → Bool) (n : Nat)
  /-- an instance of the class at C, its dict at dx, its attributes -/
  | ins (C dx : Addr) (fs : List (Str × V))
  /-- the dict of the instance at x -/
  | own (x : Addr)
  /-- the dict of an exception -/
  | xd (fs : List (Str × V))
  /-- a bound method, f of x -/
  | met (f x : Addr)
  /-- a range object lo, lo + 1, .. below hi -/
  | rng (lo hi : Int)
  /-- a thing that is known to the object (the script; a dict while a loop walks it): read, never written while it is so -/
  | frz (o : Obj) (u : HO)
  /-- a code object's table -/
  | tbl (q : Nat → Nat → Str)
  /-- any other thing, by what is true of its one object (a def of one's own: SetO a S n := HO.ext fun h => ..) -/
  | ext (φ : Heap → Prop)
abbrev Hp := Addr → Option HO
def upd (H : Hp) (a : Addr) (o : HO) : Hp := fun b => if b = a then some o else H b
theorem upd_same {H : Hp} {a : Addr} {o : HO} : upd H a o a = some o := by unfold upd; rw [if_pos rfl]
theorem upd_ne {H : Hp} {a b : Addr} {o : HO} (h : b ≠ a) : upd H a o b = H b := by unfold upd; rw [if_neg h]
theorem ne_of_none {H : Hp} {a b : Addr} {o : HO} (h : H a = some o) (h' : H b = none) : a ≠ b := by
  intro e; subst e; rw [h] at h'; cases h'
def TblOk (H : Hp) (q : Nat → Nat → Str) (ps : Array Value) : Prop := TriplesOk ps.toList ∧ ∀ pos v, codeAmong pos ps.toList = some v → ∃ c o u vs t, v = .ref c ∧ H c = some (.frz o u) ∧ o.data = .fields vs ∧ vs[1]? = some (.str (q pos.line pos.col) t)
def Fixed : HO → Prop
  | .tup _ => True
  | .frz o _ => ∃ vs, o.data = .fields vs
  | _ => False
def Fx := { u : HO // Fixed u }
section
variable (P : Program) (w : World)
def ObjOk (H : Hp) (h : Heap) (a : Addr) : HO → Prop
  | .lst xs => xs.length ≤ sizeLine ∧ ∃ (its : List Value) (n : Nat), Vals xs its ∧ h.get? a = some { cls := .type "list", data := .seq its.toArray n }
  | .tup xs => xs.length ≤ sizeLine ∧ ∃ its : List Value, Vals xs its ∧ IsTup h a its.toArray
  | .dK kvs => kvs.length ≤ sizeLine ∧ (a == sysModules) = false ∧ ∃ vs, KV kvs vs ∧ h.DictOf (mixKind P w) a vs
  | .dT kvs => kvs.length ≤ sizeLine ∧ (a == sysModules) = false ∧ ∃ xs : List (List Key × Addr × Value),
      Paired (fun (p : List Key × V) (q : List Key × Addr × Value) => p.1 = q.1 ∧ H q.2.1 = some (.tup (p.1.map kV)) ∧ RelV p.2 q.2.2) kvs xs ∧
      ∃ o es ep, h.get? a = some o ∧ o.ExactDict ∧ o.data = .dict es ep ∧ es.toList = xs.map (entryOfKey (tupleKind (mixKind P w))) ∧ (xs.map (·.1)).Nodup
  | .set S n => h.SetOf (intKind P w) a S n
  | .ins C dx fs => H dx = some (.own a) ∧ fs.length ≤ 1000 ∧ dx ≠ a ∧ h.get? a = some (PySem.W.instObj C dx) ∧
      ∃ mA, h.Ns1 dx mA ∧ (∀ f, RelO (fs.lookup f) (mA f)) ∧ PySem.Within mA (fs.map (·.1))
  | .own _ => ∃ o, h.get? a = some o
  | .xd fs => ∃ mA, h.Ns1 a mA ∧ ∀ f, RelO (fs.lookup f) (mA f)
  | .rng lo hi => ∃ t u v, h.get? a = some { cls := .type "range", data := .fields #[.int lo t, .int hi u, .int 1 v] }
  | .frz o u => h.get? a = some o ∧ ObjOk H h a u
  | .tbl q => ∃ ps, h.get? a = some (PySem.W.tabObj ps) ∧ TblOk H q ps
  | .met f x => h.get? a = some (PySem.W.methodObj (.ref f) (.ref x))
  | .ext φ => φ h ∧ (∃ o, h.get? a = some o) ∧ ∀ h1 h2 : Heap, φ h1 → (∀ o, h1.get? a = some o → h2.get? a = some o) → φ h2
def HOk (H : Hp) (h : Heap) : Prop := ∀ a o, H a = some o → ObjOk P w H h a o
end
section
variable {P : Program} {w : World} {H H' : Hp} {h h' : Heap} {a : Addr} {o : HO}
theorem ObjOk.lt (x : ObjOk P w H h a o) : a < h.objs.size := by
  cases o with
  | lst xs => obtain ⟨_, _, _, _, e⟩ := x; exact Heap.lt_size e
  | tup xs => obtain ⟨_, _, _, p⟩ := x; exact p.lt
  | dK kvs => obtain ⟨_, _, _, _, o, _, _, e, _⟩ := x; exact Heap.lt_size e
  | dT kvs => obtain ⟨_, _, _, _, o, _, _, e, _⟩ := x; exact Heap.lt_size e
  | set S n => obtain ⟨o, _, _, _, e, _⟩ := x; exact Heap.lt_size e
  | ins C dx fs => obtain ⟨_, _, _, e, _⟩ := x; exact Heap.lt_size e
  | own y => obtain ⟨_, e⟩ := x; exact Heap.lt_size e
  | xd fs => obtain ⟨_, ⟨_, _, _, e, _⟩, _⟩ := x; exact Heap.lt_size e
  | rng lo hi => obtain ⟨_, _, _, e⟩ := x; exact Heap.lt_size e
  | frz ob u => obtain ⟨e, _⟩ := x; exact Heap.lt_size e
  | tbl q => obtain ⟨_, e, _⟩ := x; exact Heap.lt_size e
  | met f y => exact Heap.lt_size (show h.get? a = some _ from x)
  | ext φ => obtain ⟨_, ⟨_, e⟩, _⟩ := x; exact Heap.lt_size e
theorem Paired.mapP {α β : Type} {F G : α → β → Prop} : ∀ {l₁ : List α} {l₂ : List β}, Paired F l₁ l₂ → (∀ a b, F a b → G a b) → Paired G l₁ l₂
  | _, _, .nil, _ => .nil
  | _, _, .cons r t, f => .cons (f _ _ r) (Paired.mapP t f)
theorem ObjOk.stay (x : ObjOk P w H h a o) (k : ∀ b u, (b = a ∨ H b = some (.own a)) → h.get? b = some u → h'.get? b = some u)
    (ho : ∀ b, H b = some (.own a) → H' b = some (.own a)) (ht : ∀ b (xs : Fx), H b = some xs.1 → H' b = some xs.1) : ObjOk P w H' h' a o := by
  induction o with
  | lst xs => obtain ⟨z, its, n, r, e⟩ := x; exact ⟨z, its, n, r, k _ _ (.inl rfl) e⟩
  | tup xs => obtain ⟨z, its, r, ob, e, c⟩ := x; exact ⟨z, its, r, ob, k _ _ (.inl rfl) e, c⟩
  | dK kvs => obtain ⟨z, y, vs, r, ob, es, ep, e, c⟩ := x; exact ⟨z, y, vs, r, ob, es, ep, k _ _ (.inl rfl) e, c⟩
  | dT kvs =>
    obtain ⟨z, y, xs, r, ob, es, ep, e, c⟩ := x
    exact ⟨z, y, xs, Paired.mapP r fun p q z => ⟨z.1, ht _ ⟨.tup _, trivial⟩ z.2.1, z.2.2⟩, ob, es, ep, k _ _ (.inl rfl) e, c⟩
  | set S n => obtain ⟨ob, es, ep, t, e, c⟩ := x; exact ⟨ob, es, ep, t, k _ _ (.inl rfl) e, c⟩
  | ins C dx fs =>
    obtain ⟨d, z, ne, e, mA, ⟨od, es, ep, e2, c⟩, r⟩ := x
    exact ⟨ho _ d, z, ne, k _ _ (.inl rfl) e, mA, ⟨od, es, ep, k _ _ (.inr d) e2, c⟩, r⟩
  | own y => obtain ⟨ob, e⟩ := x; exact ⟨ob, k _ _ (.inl rfl) e⟩
  | xd fs => obtain ⟨mA, ⟨od, es, ep, e, c⟩, r⟩ := x; exact ⟨mA, ⟨od, es, ep, k _ _ (.inl rfl) e, c⟩, r⟩
  | rng lo hi => obtain ⟨t, u, v, e⟩ := x; exact ⟨t, u, v, k _ _ (.inl rfl) e⟩
  | frz ob u ih => obtain ⟨e, q⟩ := x; exact ⟨k _ _ (.inl rfl) e, ih q⟩
  | tbl q =>
    obtain ⟨ps, e, t1, t2⟩ := x
    refine ⟨ps, k a _ (.inl rfl) e, t1, fun pos v z => ?_⟩
    obtain ⟨c, o, u, vs, t, h1, h2, h3, h4⟩ := t2 pos v z
    exact ⟨c, o, u, vs, t, h1, ht c ⟨.frz o u, vs, h3⟩ h2, h3, h4⟩
  | met f y =>
    have e : h.get? a = some (PySem.W.methodObj (.ref f) (.ref y)) := x
    show h'.get? a = some (PySem.W.methodObj (.ref f) (.ref y))
    exact k a _ (.inl rfl) e
  | ext φ => obtain ⟨p, ⟨o, e⟩, st⟩ := x; exact ⟨st _ _ p fun o q => k _ _ (.inl rfl) q, ⟨o, k _ _ (.inl rfl) e⟩, st⟩
theorem HOk.lt (x : HOk P w H h) (e : H a = some o) : a < h.objs.size := (x a o e).lt
theorem HOk.fresh (x : HOk P w H h) (e : h.objs.size ≤ a) : H a = none := by
  cases q : H a with
  | none => rfl
  | some u => exact absurd (Nat.lt_of_lt_of_le (x.lt q) e) (Nat.lt_irrefl _)
theorem HOk.kept (x : HOk P w H h) (k : ∀ b u, h.get? b = some u → h'.get? b = some u) : HOk P w H h' := fun a o e =>
  (x a o e).stay (fun b u _ q => k b u q) (fun _ q => q) fun _ _ q => q
theorem HOk.laid (x : HOk P w H h) (k : ∀ b u, h.get? b = some u → h'.get? b = some u) (hp : h.objs.size ≤ a) (new : ObjOk P w (upd H a o) h' a o) : HOk P w (upd H a o) h' := fun b u e => by
  have hn := x.fresh hp
  by_cases hb : b = a
  · subst hb; rw [upd_same] at e; cases e; exact new
  · rw [upd_ne hb] at e
    exact (x b u e).stay (fun c v _ q => k c v q) (fun c q => by rw [upd_ne (ne_of_none q hn)]; exact q) fun c xs q => by rw [upd_ne (ne_of_none q hn)]; exact q
end
def Rd (H : Hp) (a : Addr) (u : HO) : Prop := H a = some u ∨ ∃ o, H a = some (.frz o u)
theorem Rd.ok {P : Program} {w : World} {H : Hp} {h : Heap} {a : Addr} {u : HO} (r : Rd H a u) (x : HOk P w H h) : ObjOk P w H h a u := by
  rcases r with r | ⟨o, r⟩
  · exact x a u r
  · obtain ⟨_, q⟩ := x a _ r
    exact q
def Mut : Option HO → Prop
  | some (.lst _) => True
  | some (.dK _) => True
  | some (.dT _) => True
  | some (.set _ _) => True
  | some (.ins _ _ _) => True
  | some (.ext _) => True
  | _ => False
section
variable {P : Program} {w : World} {H : Hp} {h h' : Heap} {x e : Addr} {o' : HO}
theorem HOk.write (ok : HOk P w H h) (mu : Mut (H x)) (he : e = x ∨ H e = some (.own x)) (k : ∀ b u, b ≠ e → h.get? b = some u → h'.get? b = some u) (heo : ∃ u, h'.get? e = some u)
    (new : ObjOk P w (upd H x o') h' x o') : HOk P w (upd H x o') h' := fun b u q => by
  have nown : ∀ c y, H c = some (.own y) → c ≠ x := fun c y r z => by subst z; rw [r] at mu; exact mu
  have ntup : ∀ c (xs : Fx), H c = some xs.1 → c ≠ x := fun c xs r z => by
    subst z; rw [r] at mu; obtain ⟨u, hu⟩ := xs
    cases u <;> first | exact False.elim mu | exact False.elim hu
  by_cases hb : b = x
  · subst hb; rw [upd_same] at q; cases q; exact new
  · rw [upd_ne hb] at q
    by_cases hbe : b = e
    · have q' : H b = some (.own x) := by
        rcases he with z | z
        · exact absurd (hbe.trans z) hb
        · rw [hbe]; exact z
      rw [q] at q'; cases q'
      obtain ⟨v, hv⟩ := heo
      exact ⟨v, by rw [hbe]; exact hv⟩
    · refine (ok b u q).stay (fun c v hc r => k c v ?_ r) (fun c r => by rw [upd_ne (nown c b r)]; exact r) fun c xs r => by rw [upd_ne (ntup c xs r)]; exact r
      rcases hc with rfl | hc
      · exact hbe
      · rintro rfl
        rcases he with z | z
        · exact nown c b hc z
        · rw [hc] at z; cases z; exact hb rfl
end
structure Un (fs ex : List Addr) (H H' : Hp) (h h' : Heap) : Prop where
  keep : ∀ b o, h.get? b = some o → H b = none → b ∉ fs → b ∉ ex → h'.get? b = some o
  slot : ∀ b o, h.get? b = some o → H b = none → b ∈ fs → b ∉ ex → ∃ sl, h'.get? b = some { o with slots := sl }
  free : ∀ b o, h.get? b = some o → H b = none → b ∉ ex → H' b = none
  there : ∀ b o, h.get? b = some o → b ∉ ex → ∃ o', h'.get? b = some o'
  tups : ∀ b xs, H b = some (.tup xs) → H' b = some (.tup xs)
  frzs : ∀ b o u, H b = some (.frz o u) → H' b = some (.frz o u)
  tbls : ∀ b ps, H b = some (.tbl ps) → H' b = some (.tbl ps)
section
variable {fs fs' ex ex' : List Addr} {H H1 H2 : Hp} {h h1 h2 h' : Heap} {a x e : Addr} {o : HO}
theorem Un.any (u : Un fs ex H H1 h h1) {b : Addr} {ob : Obj} (q : h.get? b = some ob) (n : H b = none) (hx : b ∉ ex) : ∃ sl, h1.get? b = some { ob with slots := sl } := by
  by_cases hb : b ∈ fs
  · exact u.slot b ob q n hb hx
  · exact ⟨ob.slots, u.keep b ob q n hb hx⟩
theorem Un.trans (a : Un fs ex H H1 h h1) (b : Un fs ex H1 H2 h1 h2) : Un fs ex H H2 h h2 where
  keep := fun c ob q n hc hx => b.keep c ob (a.keep c ob q n hc hx) (a.free c ob q n hx) hc hx
  slot := fun c ob q n hc hx => by
    obtain ⟨sl, e1⟩ := a.slot c ob q n hc hx
    obtain ⟨sl', e2⟩ := b.slot c _ e1 (a.free c ob q n hx) hc hx
    exact ⟨sl', e2⟩
  free := fun c ob q n hx => by
    obtain ⟨o', e1⟩ := a.there c ob q hx
    exact b.free c o' e1 (a.free c ob q n hx) hx
  there := fun c ob q hx => by
    obtain ⟨o', e1⟩ := a.there c ob q hx
    exact b.there c o' e1 hx
  tups := fun c xs q => b.tups c xs (a.tups c xs q)
  frzs := fun c ob xs q => b.frzs c ob xs (a.frzs c ob xs q)
  tbls := fun c ps q => b.tbls c ps (a.tbls c ps q)
theorem Un.kept (k : ∀ b u, h.get? b = some u → h'.get? b = some u) : Un fs ex H H h h' :=
  ⟨fun b ob q _ _ _ => k b ob q, fun b ob q _ _ _ => ⟨ob.slots, k b ob q⟩, fun _ _ _ n _ => n, fun b ob q _ => ⟨ob, k b ob q⟩, fun _ _ q => q, fun _ _ _ q => q, fun _ _ q => q⟩
theorem Un.refl : Un fs ex H H h h := Un.kept fun _ _ q => q
theorem Un.laid (k : ∀ b u, h.get? b = some u → h'.get? b = some u) (hp : h.objs.size ≤ a) (hn : H a = none) : Un fs ex H (upd H a o) h h' where
  keep := fun b u q _ _ _ => k b u q
  slot := fun b u q _ _ _ => ⟨u.slots, k b u q⟩
  free := fun b u q n _ => by rw [upd_ne (Nat.ne_of_lt (Nat.lt_of_lt_of_le (Heap.lt_size q) hp))]; exact n
  there := fun b u q _ => ⟨u, k b u q⟩
  tups := fun b xs q => by rw [upd_ne (ne_of_none q hn)]; exact q
  frzs := fun b u xs q => by rw [upd_ne (ne_of_none q hn)]; exact q
  tbls := fun b ps q => by rw [upd_ne (ne_of_none q hn)]; exact q
theorem Un.write (mu : Mut (H x)) (he : e = x ∨ H e = some (.own x)) (k : ∀ b u, b ≠ e → h.get? b = some u → h'.get? b = some u) (heo : ∃ u, h'.get? e = some u) : Un fs ex H (upd H x o) h h' := by
  have hx : ∀ b, H b = none → b ≠ x := fun b n z => by subst z; rw [n] at mu; exact mu
  have hb : ∀ b, H b = none → b ≠ e := fun b n z => by
    subst z
    rcases he with r | r
    · exact hx b n r
    · rw [n] at r; cases r
  have hm : ∀ b u, H b = some u → ¬ Mut (some u) → b ≠ x := fun b u q nm z => by subst z; rw [q] at mu; exact nm mu
  refine ⟨fun b u q n _ _ => k b u (hb b n) q, fun b u q n _ _ => ⟨u.slots, k b u (hb b n) q⟩, fun b u q n _ => by rw [upd_ne (hx b n)]; exact n, fun b u q _ => ?_,
    fun b xs q => by rw [upd_ne (hm b _ q fun z => z)]; exact q, fun b u xs q => by rw [upd_ne (hm b _ q fun z => z)]; exact q, fun b ps q => by rw [upd_ne (hm b _ q fun z => z)]; exact q⟩
  by_cases hbe : b = e
  · subst hbe; exact heo
  · exact ⟨u, k b u hbe q⟩
end
def trk (h : Heap) (H : Hp) : List Addr := (List.range h.objs.size).filter fun a => (H a).isSome
def hidT (h : Heap) (H : Hp) : Heap := PySem.W.hideAll h (trk h H)
theorem hidT_size (h : Heap) (H : Hp) : (hidT h H).objs.size = h.objs.size := PySem.W.hideAll_size _ _
theorem hidT_get {h : Heap} {H : Hp} {b : Addr} {o : Obj} (e : h.get? b = some o) (n : H b = none) : (hidT h H).get? b = some o :=
  PySem.W.hideAll_get _ e fun hm => by
    have q : (H b).isSome = true := (List.mem_filter.mp hm).2
    rw [n] at q; simp at q
theorem of_hidT {h : Heap} {H : Hp} {b : Addr} {o : Obj} (e : (hidT h H).get? b = some o) : h.get? b = some o ∧ H b = none := by
  have e' : h.get? b = some o := PySem.W.of_hideAll (trk h H) e
  refine ⟨e', ?_⟩
  cases q : H b with
  | none => rfl
  | some x =>
    have hm : b ∈ trk h H := List.mem_filter.mpr ⟨List.mem_range.mpr (Heap.lt_size e'), by simp [q]⟩
    have z : (hidT h H).get? b = none := PySem.W.hideAll_none (trk h H) hm
    rw [z] at e; cases e
def allNews (g h : Heap) (L : Addr) : List (Addr × Obj) := (List.range h.objs.size).filterMap fun a => if a = L ∨ (g.get? a).isSome = true then none else (h.get? a).map fun o => (a, o)
def rest (g h : Heap) (L d : Addr) : List (Addr × Obj) := (allNews g h L).filter fun p => decide (p.1 ≠ d)
end L2
namespace L2
open PySem PySem.Spec PyProof.Rows
structure Mod (K : PySem.W.Frag) (mg : Str → Option Value) (base : Heap) : Prop where
  kin : K.In base
  glob : base.Ns mainGlobals mg
  blt : ∃ mb, base.Ns builtinsNs mb ∧ ∀ x : Str, x ≠ "__name__" → mb x = bootBuiltins x
  nolimit : base.NoLimit
structure Cx where
  prog : Program
  w : World
  K : PySem.W.Frag
  mg : Str → Option Value
  base : Heap
  A : Around
  N : List Str
  s₀ : Shared
  H₀ : Hp
  env : Env
  outer : List Env
  stack : List Env
  ex : List Addr
  fn : Str → Bool
  calm : Bool
  pn : List (Addr × Obj)
  xe : Value → Shared → Prop
def frs (l : List Env) : List Addr := l.filterMap (·.frame)
abbrev Cx.fs (X : Cx) : List Addr := frs X.outer
def Vis (sc : Scope) (x : Str) : Prop := sc.names.lookup x = some .local ∨ sc.names.lookup x = some .cell ∨ sc.names.lookup x = some .free
def Loc (sc : Scope) (x : Str) : Prop := sc.names.lookup x = some .local ∨ sc.names.lookup x = some .cell
def Look (env : Env) (h : Heap) (m : Str → Option Value) (x : Str) (u : Value) : Prop :=
  (env.kindOf x = some .local ∧ m x = some u) ∨ ((env.kindOf x = some .cell ∨ env.kindOf x = some .free) ∧ ∃ c, env.cells.lookup x = some c ∧ h.IsCell c (some u))
def makers : List Str := ["law", "_law_with_itself", "_law_ways", "_law_way", "holding", "_law_any_test", "_law_test", "_law_turned", "_law_right", "wheel_run", "answer_run"]
def innerN : List Stmt → Nat → Nat → Str
  | [], _, _ => "<lambda>"
  | .FunctionDef n _ _ _ _ _ _ _ _ pos :: r, l, c => if pos.line = l ∧ pos.col = c then n else innerN r l c
  | _ :: r, l, c => innerN r l c
def innerQ (K : PySem.W.Frag) (x : Str) (l c : Nat) : Str := match PySem.W.nsIn K mainGlobals x with
  | some (some (.ref f)) => (match K.lookup f with
    | some ⟨_, _, .func fd, _⟩ => (match fd.body with
      | .stmts b => x ++ ".<locals>." ++ innerN b l c
      | _ => x)
    | _ => x)
  | _ => x
structure TabsK (K : PySem.W.Frag) (mg : Str → Option Value) (base : Heap) (H : Hp) : Prop where
  bm : ∃ bm ob, mg "__builtins__" = some (.ref bm) ∧ bm ≠ builtinsNs ∧ base.get? bm = some ob ∧ ob.cls = .type "module" ∧ ob.dict = some builtinsNs ∧ ob.data = .plain
  tab : ∀ x c P, x ∈ makers → PySem.W.tabIn K x = some (c, P) → PySem.W.CodeHd base c P ∧ H P = some (.tbl (innerQ K x))
def Bsz (K : PySem.W.Frag) (mg : Str → Option Value) (base h : Heap) (H : Hp) : Prop := base.objs.size ≤ h.objs.size ∧ TabsK K mg base H
def FreeC (X : Cx) (H : Hp) (x : Str) (c : Addr) : Prop := H c = none ∨ (X.fn x = false ∧ ∃ o u, H c = some (.frz o u))
theorem FreeC.now {X : Cx} {H : Hp} {x : Str} {c : Addr} (h : FreeC X H x c) (hf : X.fn x = true) : H c = none := h.elim id fun z => by rw [hf] at z; cases z.1
structure Cx.Ok (X : Cx) : Prop where
  mod : Mod X.K X.mg X.base
  kind : X.env.scope.kind = .function
  glob : X.env.globals = mainGlobals
  blt : X.env.builtins = builtinsNs
  above : X.s₀.heap.objs.size ≤ X.env.locals
  inj : ∀ x y c, X.env.cells.lookup x = some c → X.env.cells.lookup y = some c → x = y
  has : ∀ x, (X.env.kindOf x = some .cell ∨ X.env.kindOf x = some .free) → ∃ c, X.env.cells.lookup x = some c
  cab : ∀ x c, X.fn x = true → X.env.cells.lookup x = some c → X.s₀.heap.objs.size ≤ c
  hd : X.calm = true → X.A.handled = none
  frames : X.A.frames = some X.stack
  stk : X.stack = X.outer ∨ (X.stack = X.env :: X.outer ∧ X.env.frame = some X.env.locals)
  exf : ∀ b ∈ X.ex, b ≠ X.env.locals ∧ ∀ x c, X.env.cells.lookup x = some c → c ≠ b
  bs : ∀ b o, X.base.get? b = some o → X.s₀.heap.get? b = some o ∧ X.H₀ b = none
  bsz : Bsz X.K X.mg X.base X.s₀.heap X.H₀
  noex : ∀ b o, X.base.get? b = some o → b ∉ X.ex
  exfs : ∀ b ∈ X.ex, b ∉ X.fs
  funs : X.s₀.heap.FunFrames X.base X.outer
  frf : ∀ b ∈ X.fs, X.H₀ b = none
structure Inv (X : Cx) (pins : List (Addr × Obj)) (σ : List (Option V)) (H : Hp) (s : Shared) : Prop where
  ok : X.Ok
  os : s.os = X.s₀.os
  bare : AllBare s.gens
  base : Un X.fs X.ex X.H₀ H X.s₀.heap s.heap
  loc : ∃ m, s.heap.Ns X.env.locals m ∧ ∀ (i : Nat) (x : Str) (v : V), X.N[i]? = some x → σ[i]? = some (some v) → Vis X.env.scope x → ∃ u, RelV v u ∧ Look X.env s.heap m x u
  cell : ∀ x c, X.env.cells.lookup x = some c → ∃ v, s.heap.IsCell c v
  free : H X.env.locals = none
  freeC : ∀ x c, X.env.cells.lookup x = some c → FreeC X H x c
  pin : ∀ p ∈ X.pn ++ pins, s.heap.get? p.1 = some p.2 ∧ H p.1 = none ∧ p.1 ≠ X.env.locals ∧ p.1 ∉ X.fs ∧ ∀ v, p.2.data ≠ .cell v
  hok : HOk X.prog X.w H s.heap
  len : σ.length = X.N.length
section
variable {X : Cx} {pins : List (Addr × Obj)} {σ : List (Option V)} {H H' : Hp} {s : Shared} {h' : Heap}
theorem Cx.Ok.nofr (ok : X.Ok) {b : Addr} {o : Obj} (e : X.base.get? b = some o) : b ∉ X.fs := fun hb => by
  have := (ok.funs.mem hb).1
  rw [e] at this; cases this
theorem Inv.bs (I : Inv X pins σ H s) : ∀ b o, X.base.get? b = some o → s.heap.get? b = some o ∧ H b = none := fun b o e =>
  ⟨I.base.keep b o (I.ok.bs b o e).1 (I.ok.bs b o e).2 (I.ok.nofr e) (I.ok.noex b o e), I.base.free b o (I.ok.bs b o e).1 (I.ok.bs b o e).2 (I.ok.noex b o e)⟩
theorem Inv.bk (I : Inv X pins σ H s) : ∀ b o, X.base.get? b = some o → s.heap.get? b = some o := fun b o e => (I.bs b o e).1
theorem Inv.mod (I : Inv X pins σ H s) : Mod X.K X.mg X.base := I.ok.mod
theorem Inv.kIn (I : Inv X pins σ H s) : X.K.In s.heap := I.ok.mod.kin.keeps I.bk
theorem Inv.lt (I : Inv X pins σ H s) : X.env.locals < s.heap.objs.size := let ⟨_, hn, _⟩ := I.loc; hn.lt
theorem Inv.sz (I : Inv X pins σ H s) : X.s₀.heap.objs.size ≤ s.heap.objs.size := Nat.le_trans I.ok.above (Nat.le_of_lt I.lt)
theorem Inv.nofs (I : Inv X pins σ H s) {a : Addr} (h : s.heap.objs.size ≤ a) : a ∉ X.fs := fun hb => by
  obtain ⟨_, o, ho, _⟩ := I.ok.funs.mem hb
  exact absurd (Nat.lt_of_lt_of_le (Heap.lt_size ho) (Nat.le_trans I.sz h)) (Nat.lt_irrefl _)
theorem Inv.cne (I : Inv X pins σ H s) : ∀ x c, X.env.cells.lookup x = some c → c ≠ X.env.locals := fun x c e z => by
  obtain ⟨v, o, ho, hd⟩ := I.cell x c e
  obtain ⟨m, ⟨o', es, ep, ho', hd', _⟩, _⟩ := I.loc
  rw [z, ho'] at ho; cases ho; rw [hd'] at hd; cases hd
theorem Inv.funs (I : Inv X pins σ H s) : s.heap.FunFrames X.base X.outer := by
  have all : ∀ (l : List Env), (∀ b ∈ frs l, b ∈ X.fs) → X.s₀.heap.FunFrames X.base l → s.heap.FunFrames X.base l := by
    intro l
    induction l with
    | nil => intro _ _; trivial
    | cons env r ih =>
      intro hs hl
      obtain ⟨hk, ⟨L, o, hf, hn, ho, hd⟩, hr⟩ := hl
      have hL : L ∈ X.fs := hs L (by unfold frs; rw [List.filterMap_cons, hf]; exact List.mem_cons_self)
      obtain ⟨sl, e⟩ := I.base.slot L o ho (I.ok.frf L hL) hL fun z => I.ok.exfs L z hL
      exact ⟨hk, ⟨L, _, hf, hn, e, hd⟩, ih (fun b hb => hs b (by unfold frs; rw [List.filterMap_cons, hf]; exact List.mem_cons_of_mem _ hb)) hr⟩
  exact all X.outer (fun _ hb => hb) I.ok.funs
theorem Inv.stack (I : Inv X pins σ H s) : s.heap.FunFrames X.base X.stack := by
  rcases I.ok.stk with e | ⟨e, hf⟩
  · rw [e]; exact I.funs
  · rw [e]
    obtain ⟨m, hn, _⟩ := I.loc
    refine .cons (by rw [I.ok.kind]; decide) hf hn ?_ I.funs
    exact Heap.get?_none_of_le (Nat.le_trans I.ok.bsz.1 I.ok.above)
theorem Inv.stkSub (I : Inv X pins σ H s) : ∀ b ∈ frs X.stack, b ∈ X.env.locals :: X.fs := fun b hb => by
  rcases I.ok.stk with e | ⟨e, hf⟩
  · rw [e] at hb; exact List.mem_cons_of_mem _ hb
  · rw [e] at hb
    unfold frs at hb
    rw [List.filterMap_cons, hf] at hb
    exact hb
theorem Inv.stkFree (I : Inv X pins σ H s) : ∀ b ∈ frs X.stack, H b = none := fun b hb => by
  rcases List.mem_cons.mp (I.stkSub b hb) with e | hb
  · rw [e]; exact I.free
  · obtain ⟨_, o, ho, _⟩ := I.ok.funs.mem hb
    exact I.base.free b o ho (I.ok.frf b hb) fun z => I.ok.exfs b z hb
theorem Inv.step {g' : Array GenState} {t' : Nat} {d' : Drawn} {ch : List Addr} (I : Inv X pins σ H s)
    (hch : ∀ b ∈ ch, (b ∈ X.ex ∨ X.s₀.heap.objs.size ≤ b) ∧ b ≠ X.env.locals ∧ (∀ x c, X.env.cells.lookup x = some c → c ≠ b) ∧ ∀ p ∈ X.pn ++ pins, p.1 ≠ b)
    (keep : ∀ b o, b ≠ X.env.locals → b ∉ X.fs → b ∉ ch → s.heap.get? b = some o → H b = none → h'.get? b = some o)
    (slot : ∀ b o, b ≠ X.env.locals → b ∈ X.fs → b ∉ ch → s.heap.get? b = some o → H b = none → ∃ sl, h'.get? b = some { o with slots := sl }) (free : ∀ b o, b ∉ ch → s.heap.get? b = some o → H b = none → H' b = none)
    (there : ∀ b o, b ∉ ch → s.heap.get? b = some o → ∃ o', h'.get? b = some o')
    (tups : ∀ b xs, H b = some (.tup xs) → H' b = some (.tup xs)) (frzs : ∀ b o u, H b = some (.frz o u) → H' b = some (.frz o u)) (tbls : ∀ b ps, H b = some (.tbl ps) → H' b = some (.tbl ps))
    (ns : ∀ m, s.heap.Ns X.env.locals m → h'.Ns X.env.locals m) (hok : HOk X.prog X.w H' h') (hg : AllBare g') :
    Inv X pins σ H' { s with heap := h', gens := g', drawn := d', toks := t' } := by
  have neL : ∀ b o, X.s₀.heap.get? b = some o → b ≠ X.env.locals := fun b o e => Nat.ne_of_lt (Nat.lt_of_lt_of_le (Heap.lt_size e) I.ok.above)
  have neC : ∀ b o, X.s₀.heap.get? b = some o → b ∉ X.ex → b ∉ ch := fun b o e hx hb => by
    rcases (hch b hb).1 with z | z
    · exact hx z
    · exact absurd (Nat.lt_of_lt_of_le (Heap.lt_size e) z) (Nat.lt_irrefl _)
  have cellK : ∀ x c, X.env.cells.lookup x = some c → ∀ v, s.heap.IsCell c v → h'.IsCell c v := fun x c e v ⟨o, ho, hd⟩ => by
    have nch : c ∉ ch := fun z => (hch c z).2.2.1 x c e rfl
    rcases I.freeC x c e with fr | ⟨_, of, uf, fr⟩
    · by_cases hc : c ∈ X.fs
      · obtain ⟨sl, q⟩ := slot c o (I.cne x c e) hc nch ho fr
        exact ⟨_, q, hd⟩
      · exact ⟨o, keep c o (I.cne x c e) hc nch ho fr, hd⟩
    · obtain ⟨e1, _⟩ := I.hok c _ fr
      obtain ⟨e2, _⟩ := hok c _ (frzs c of uf fr)
      rw [ho] at e1; cases e1
      exact ⟨o, e2, hd⟩
  refine ⟨I.ok, I.os, hg, ⟨fun b o e n hb hx => ?_, fun b o e n hb hx => ?_, fun b o e n hx => ?_, fun b o e hx => ?_, fun b xs e => tups b xs (I.base.tups b xs e), fun b o xs e => frzs b o xs (I.base.frzs b o xs e), fun b ps e => ?_⟩, ?_, fun x c e => ?_, ?_, fun x c e => ?_, fun p hp => ?_, hok, I.len⟩
  · exact keep b o (neL b o e) hb (neC b o e hx) (I.base.keep b o e n hb hx) (I.base.free b o e n hx)
  · obtain ⟨sl, e1⟩ := I.base.slot b o e n hb hx
    obtain ⟨sl', e2⟩ := slot b _ (neL b o e) hb (neC b o e hx) e1 (I.base.free b o e n hx)
    exact ⟨sl', e2⟩
  · obtain ⟨o', e1⟩ := I.base.there b o e hx
    exact free b o' (neC b o e hx) e1 (I.base.free b o e n hx)
  · obtain ⟨o', e1⟩ := I.base.there b o e hx
    exact there b o' (neC b o e hx) e1
  · exact tbls b ps (I.base.tbls b ps e)
  · obtain ⟨m, hn, hl⟩ := I.loc
    refine ⟨m, ns m hn, fun i x v e1 e2 e3 => ?_⟩
    obtain ⟨u, r, l⟩ := hl i x v e1 e2 e3
    refine ⟨u, r, ?_⟩
    rcases l with l | ⟨k, c, e, z⟩
    · exact .inl l
    · exact .inr ⟨k, c, e, cellK x c e _ z⟩
  · obtain ⟨v, z⟩ := I.cell x c e
    exact ⟨v, cellK x c e v z⟩
  · obtain ⟨m, ⟨o, _, _, ho, _⟩, _⟩ := I.loc
    exact free _ o (fun z => (hch _ z).2.1 rfl) ho I.free
  · obtain ⟨v, o, ho, hd⟩ := I.cell x c e
    exact (I.freeC x c e).elim (fun fr => .inl (free c o (fun z => (hch c z).2.2.1 x c e rfl) ho fr)) fun ⟨h1, of, uf, fr⟩ => .inr ⟨h1, of, uf, frzs c of uf fr⟩
  · obtain ⟨e, n, ne, nf, d⟩ := I.pin p hp
    have nch : p.1 ∉ ch := fun z => (hch p.1 z).2.2.2 p hp rfl
    exact ⟨keep p.1 p.2 ne nf nch e n, free p.1 p.2 nch e n, ne, nf, d⟩
theorem Inv.un {t' : Nat} (I : Inv X pins σ H s) (u : Un X.fs [] H H' s.heap h') (hok : HOk X.prog X.w H' h') : Inv X pins σ H' { s with heap := h', toks := t' } := by
  obtain ⟨m, ⟨o, es, ep, ho, r⟩, _⟩ := id I.loc
  obtain ⟨sl, hL⟩ := u.any ho I.free (by simp)
  exact I.step (g' := s.gens) (d' := s.drawn) (ch := []) (fun _ z => nomatch z) (fun b o _ hb _ e n => u.keep b o e n hb (by simp)) (fun b o _ hb _ e n => u.slot b o e n hb (by simp)) (fun b o _ e n => u.free b o e n (by simp)) (fun b o _ e => u.there b o e (by simp)) u.tups u.frzs u.tbls (fun m' hm => by
    obtain ⟨o', es', ep', ho', r'⟩ := hm
    rw [ho] at ho'; cases ho'
    exact ⟨_, es', ep', hL, r'⟩) hok I.bare
theorem Inv.call {g' : Array GenState} {t' : Nat} {d' : Drawn} {ch : List Addr} (I : Inv X pins σ H s) (u : Un (frs X.stack) ch H H' s.heap h') (hok : HOk X.prog X.w H' h') (hg : AllBare g')
    (hch : ∀ b ∈ ch, (b ∈ X.ex ∨ X.s₀.heap.objs.size ≤ b) ∧ b ≠ X.env.locals ∧ (∀ x c, X.env.cells.lookup x = some c → c ≠ b) ∧ ∀ p ∈ X.pn ++ pins, p.1 ≠ b) :
    Inv X pins σ H' { s with heap := h', gens := g', drawn := d', toks := t' } := by
  obtain ⟨m, ⟨o, es, ep, ho, r⟩, _⟩ := id I.loc
  obtain ⟨sl, hL⟩ := u.any ho I.free fun z => (hch _ z).2.1 rfl
  exact I.step (ch := ch) hch (fun b o hL hb hc e n => u.keep b o e n (fun z => (List.mem_cons.mp (I.stkSub b z)).elim hL hb) hc) (fun b o _ _ hc e n => u.any e n hc) (fun b o hc e n => u.free b o e n hc) (fun b o hc e => u.there b o e hc) u.tups u.frzs u.tbls (fun m' hm => by
    obtain ⟨o', es', ep', ho', r'⟩ := hm
    rw [ho] at ho'; cases ho'
    exact ⟨_, es', ep', hL, r'⟩) hok hg
theorem Inv.turned {t' : Nat} {it : Addr} (I : Inv X pins σ H s) (k : ∀ b o, b ≠ it → s.heap.get? b = some o → h'.get? b = some o) (hn : H it = none) (hL : it ≠ X.env.locals)
    (h1 : it ∈ X.ex ∨ X.s₀.heap.objs.size ≤ it) (h2 : ∀ x c, X.env.cells.lookup x = some c → c ≠ it) (h3 : ∀ p ∈ X.pn ++ pins, p.1 ≠ it) : Inv X pins σ H { s with heap := h', toks := t' } := by
  have nit : ∀ b u, H b = some u → b ≠ it := fun b u e z => by rw [z, hn] at e; cases e
  refine I.step (g' := s.gens) (d' := s.drawn) (ch := [it]) (fun b hb => ?_) (fun b o _ _ hc e _ => k b o (fun z => hc (by simp [z])) e) (fun b o _ _ hc e _ => ⟨o.slots, k b o (fun z => hc (by simp [z])) e⟩) (fun _ _ _ _ n => n)
    (fun b o hc e => ⟨o, k b o (fun z => hc (by simp [z])) e⟩) (fun _ _ e => e) (fun _ _ _ e => e) (fun _ _ e => e) (fun m hm => ?_) (fun b u e => ?_) I.bare
  · have e : b = it := by simpa using hb
    subst e
    exact ⟨h1, hL, h2, h3⟩
  · obtain ⟨o, es, ep, ho, r⟩ := hm
    exact ⟨o, es, ep, k _ o (Ne.symm hL) ho, r⟩
  · refine (I.hok b u e).stay (fun c v hc q => k c v ?_ q) (fun _ q => q) fun _ _ q => q
    rcases hc with z | z
    · rw [z]; exact nit b u e
    · exact nit c _ z
theorem Inv.tok (I : Inv X pins σ H s) (t : Nat) : Inv X pins σ H { s with toks := t } := I.un (h' := s.heap) (t' := t) Un.refl I.hok
theorem Inv.kept {t' : Nat} (I : Inv X pins σ H s) (k : ∀ b u, s.heap.get? b = some u → h'.get? b = some u) : Inv X pins σ H { s with heap := h', toks := t' } := I.un (Un.kept k) (I.hok.kept k)
theorem Inv.laid {a : Addr} {o : HO} {t' : Nat} (I : Inv X pins σ H s) (k : ∀ b u, s.heap.get? b = some u → h'.get? b = some u) (hp : s.heap.objs.size ≤ a) (new : ObjOk X.prog X.w (upd H a o) h' a o) :
    Inv X pins σ (upd H a o) { s with heap := h', toks := t' } := I.un (Un.laid k hp (I.hok.fresh hp)) (I.hok.laid k hp new)
theorem Inv.write {x e : Addr} {o : HO} {t' : Nat} (I : Inv X pins σ H s) (mu : Mut (H x)) (he : e = x ∨ H e = some (.own x)) (k : ∀ b u, b ≠ e → s.heap.get? b = some u → h'.get? b = some u) (heo : ∃ u, h'.get? e = some u)
    (new : ObjOk X.prog X.w (upd H x o) h' x o) : Inv X pins σ (upd H x o) { s with heap := h', toks := t' } := I.un (Un.write mu he k heo) (I.hok.write mu he k heo new)
theorem Inv.pins_of {pins' : List (Addr × Obj)} (I : Inv X pins σ H s) (h : ∀ p ∈ pins', s.heap.get? p.1 = some p.2 ∧ H p.1 = none ∧ p.1 ≠ X.env.locals ∧ p.1 ∉ X.fs ∧ ∀ v, p.2.data ≠ .cell v) : Inv X pins' σ H s :=
  ⟨I.ok, I.os, I.bare, I.base, I.loc, I.cell, I.free, I.freeC, fun p hp => (List.mem_append.mp hp).elim (fun z => I.pin p (List.mem_append_left _ z)) (h p), I.hok, I.len⟩
theorem nodup_ix {N : List Str} (hN : N.Nodup) {i j : Nat} {x : Str} (a : N[i]? = some x) (b : N[j]? = some x) : i = j := by
  obtain ⟨h1, e1⟩ := List.getElem?_eq_some_iff.mp a
  obtain ⟨h2, e2⟩ := List.getElem?_eq_some_iff.mp b
  exact (List.getElem_inj hN).mp (e1.trans e2.symm)
theorem store_ok2 {M : Model} {A : Around} {E : Value → Shared → Prop} {i : Nat} {x : Str} {v : V} {u : Value} {Q : Unit → Shared → Prop} (I : Inv X pins σ H s) (hN : X.N.Nodup) (hi : X.N[i]? = some x) (hx : Loc X.env.scope x) (r : RelV v u)
    (h : ∀ s', Inv X pins (σ.set i (some v)) H s' → (∃ a, Heap.SameBut a s.heap s'.heap ∧ (a = X.env.locals ∨ X.env.cells.lookup x = some a)) → Q () s') (hf : X.fn x = true ∨ X.env.scope.names.lookup x = some .local := by first | exact .inl rfl | exact .inr rfl | assumption) : wpAny M A (storeName X.env x u) Q E s := by
  obtain ⟨m, hn, hl⟩ := id I.loc
  have hcls : (X.env.scope.kind == .class || (X.env.scope.kind == .module && X.env.locals != X.env.globals)) = false := by rw [I.ok.kind]; rfl
  have hiσ : i < σ.length := by rw [I.len]; exact (List.getElem?_eq_some_iff.mp hi).1
  have cne := I.cne
  have tracked : ∀ {a : Addr} {h' : Heap}, (∃ o, s.heap.get? a = some o ∧ H a = none) → Heap.SameBut a s.heap h' → HOk X.prog X.w H h' := fun {a h'} ha hs b ob e => by
    obtain ⟨_, _, hfree⟩ := ha
    refine (I.hok b ob e).stay (fun c w' hc q => (hs.2 c ?_).trans q) (fun _ q => q) fun _ _ q => q
    rintro rfl
    rcases hc with rfl | hc
    · rw [hfree] at e; cases e
    · rw [hfree] at hc; cases hc
  rcases hx with hk | hk
  · refine wpAny_storeName_local hk hn (fun h' hn' hs => ?_) hcls
    obtain ⟨oL, _, _, hoL, _⟩ := id hn
    refine h _ ⟨I.ok, I.os, I.bare, ⟨fun b o e n hb hx => ?_, fun b o e n hb hx => ?_, I.base.free, fun b o e hx => ?_, I.base.tups, I.base.frzs, I.base.tbls⟩, ⟨_, hn', fun j y v' e1 e2 e3 => ?_⟩, fun y c e => ?_, I.free, I.freeC, fun p hp => ?_, tracked ⟨oL, hoL, I.free⟩ hs, by simpa using I.len⟩ ⟨_, hs, .inl rfl⟩
    · exact (hs.2 b (Nat.ne_of_lt (Nat.lt_of_lt_of_le (Heap.lt_size e) I.ok.above))).trans (I.base.keep b o e n hb hx)
    · obtain ⟨sl, e1⟩ := I.base.slot b o e n hb hx
      exact ⟨sl, (hs.2 b (Nat.ne_of_lt (Nat.lt_of_lt_of_le (Heap.lt_size e) I.ok.above))).trans e1⟩
    · obtain ⟨o', e1⟩ := I.base.there b o e hx
      exact ⟨o', (hs.2 b (Nat.ne_of_lt (Nat.lt_of_lt_of_le (Heap.lt_size e) I.ok.above))).trans e1⟩
    · by_cases hj : j = i
      · subst hj
        rw [hi] at e1; cases e1
        rw [List.getElem?_set_self hiσ] at e2
        cases e2
        exact ⟨u, r, .inl ⟨hk, by simp⟩⟩
      · rw [List.getElem?_set_ne (Ne.symm hj)] at e2
        obtain ⟨u', r', q⟩ := hl j y v' e1 e2 e3
        refine ⟨u', r', ?_⟩
        rcases q with ⟨k, e⟩ | ⟨k, c, e, z⟩
        · refine .inl ⟨k, ?_⟩
          have : y ≠ x := fun e => hj (nodup_ix hN e1 (e ▸ hi))
          simp [this, e]
        · exact .inr ⟨k, c, e, z.sameBut hs (cne y c e)⟩
    · obtain ⟨w', z⟩ := I.cell y c e
      exact ⟨w', z.sameBut hs (cne y c e)⟩
    · obtain ⟨e, n, ne, nf, d⟩ := I.pin p hp
      exact ⟨(hs.2 p.1 ne).trans e, n, ne, nf, d⟩
  · have hfn : X.fn x = true := by
      rcases hf with z | z
      · exact z
      · rw [z] at hk; cases hk
    obtain ⟨c, hc⟩ := I.ok.has x (.inl hk)
    obtain ⟨w', z⟩ := I.cell x c hc
    refine wpAny_storeName_cell I.ok.kind hk hc z (fun h' hc' hs => ?_)
    obtain ⟨oc, hoc, hocd⟩ := id z
    refine h { s with heap := h' } ⟨I.ok, I.os, I.bare, ⟨fun b o e n hb hx => ?_, fun b o e n hb hx => ?_, I.base.free, fun b o e hx => ?_, I.base.tups, I.base.frzs, I.base.tbls⟩, ⟨m, hn.sameBut hs (Ne.symm (cne x c hc)), fun j y v' e1 e2 e3 => ?_⟩, fun y c' e => ?_, I.free, I.freeC, fun p hp => ?_, tracked ⟨oc, hoc, (I.freeC x c hc).now hfn⟩ hs, by simpa using I.len⟩ ⟨c, hs, .inr hc⟩
    · exact (hs.2 b (Nat.ne_of_lt (Nat.lt_of_lt_of_le (Heap.lt_size e) (I.ok.cab x c hfn hc)))).trans (I.base.keep b o e n hb hx)
    · obtain ⟨sl, e1⟩ := I.base.slot b o e n hb hx
      exact ⟨sl, (hs.2 b (Nat.ne_of_lt (Nat.lt_of_lt_of_le (Heap.lt_size e) (I.ok.cab x c hfn hc)))).trans e1⟩
    · obtain ⟨o', e1⟩ := I.base.there b o e hx
      exact ⟨o', (hs.2 b (Nat.ne_of_lt (Nat.lt_of_lt_of_le (Heap.lt_size e) (I.ok.cab x c hfn hc)))).trans e1⟩
    · by_cases hj : j = i
      · subst hj
        rw [hi] at e1; cases e1
        rw [List.getElem?_set_self hiσ] at e2
        cases e2
        exact ⟨u, r, .inr ⟨.inl hk, c, hc, hc'⟩⟩
      · rw [List.getElem?_set_ne (Ne.symm hj)] at e2
        obtain ⟨u', r', q⟩ := hl j y v' e1 e2 e3
        refine ⟨u', r', ?_⟩
        rcases q with q | ⟨k, c', e, z'⟩
        · exact .inl q
        · refine .inr ⟨k, c', e, z'.sameBut hs ?_⟩
          rintro rfl
          exact hj (nodup_ix hN e1 (I.ok.inj _ _ _ e hc ▸ hi))
    · by_cases hcc : c' = c
      · subst hcc; exact ⟨_, hc'⟩
      · obtain ⟨w2, z2⟩ := I.cell y c' e
        exact ⟨w2, z2.sameBut hs hcc⟩
    · obtain ⟨e, n, ne, nf, d⟩ := I.pin p hp
      refine ⟨(hs.2 p.1 ?_).trans e, n, ne, nf, d⟩
      intro q
      rw [q, hoc] at e
      have q' : oc = p.2 := Option.some.inj e
      exact d w' (by rw [← q']; exact hocd)
theorem store_ok {M : Model} {A : Around} {E : Value → Shared → Prop} {i : Nat} {x : Str} {v : V} {u : Value} {Q : Unit → Shared → Prop} (I : Inv X pins σ H s) (hN : X.N.Nodup) (hi : X.N[i]? = some x) (hx : Loc X.env.scope x) (r : RelV v u)
    (h : ∀ s', Inv X pins (σ.set i (some v)) H s' → Q () s') (hf : X.fn x = true ∨ X.env.scope.names.lookup x = some .local := by first | exact .inl rfl | exact .inr rfl | assumption) : wpAny M A (storeName X.env x u) Q E s :=
  store_ok2 I hN hi hx r (fun s' I' _ => h s' I') hf
theorem Inv.call' {s' : Shared} {ch : List Addr} (I : Inv X pins σ H s) (ho : s'.os = s.os) (u : Un (frs X.stack) ch H H' s.heap s'.heap) (hok : HOk X.prog X.w H' s'.heap) (hg : AllBare s'.gens)
    (hch : ∀ b ∈ ch, (b ∈ X.ex ∨ X.s₀.heap.objs.size ≤ b) ∧ b ≠ X.env.locals ∧ (∀ x c, X.env.cells.lookup x = some c → c ≠ b) ∧ ∀ p ∈ X.pn ++ pins, p.1 ≠ b) : Inv X pins σ H' s' := by
  obtain ⟨h', g', d', t', o'⟩ := s'
  have e : o' = s.os := ho
  subst e
  exact I.call (g' := g') (t' := t') (d' := d') u hok hg hch
end
abbrev XK := Value → Option Addr → Hp → Prop
abbrev St := List (Option V)
abbrev VK := V → Hp → Prop
abbrev TE := St → Hp → VK → Prop
abbrev TT := St → Hp → (Bool → Hp → Prop) → Prop
abbrev TA := St → Hp → (List V → Hp → Prop) → Prop
structure Ends where
  nx : St → Hp → Prop
  rt : VK
  bk : St → Hp → Prop := fun _ _ => False
  ct : St → Hp → Prop := fun _ _ => False
abbrev TS := Ends → St → Hp → Prop
def EP (X : Cx) (pins : List (Addr × Obj)) (σ : St) (Q : VK) (u : Value) (s' : Shared) : Prop := ∃ v H', Inv X pins σ H' s' ∧ RelV v u ∧ Q v H'
def TP (X : Cx) (pins : List (Addr × Obj)) (σ : St) (Q : Bool → Hp → Prop) (b : Bool) (s' : Shared) : Prop := ∃ H', Inv X pins σ H' s' ∧ Q b H'
def AP (X : Cx) (pins : List (Addr × Obj)) (σ : St) (Q : List V → Hp → Prop) (us : List Value) (s' : Shared) : Prop := ∃ vs H', Inv X pins σ H' s' ∧ Vals vs us ∧ Q vs H'
def SP (X : Cx) (pins : List (Addr × Obj)) (D : Ends) (f : Flow) (s' : Shared) : Prop :=
  match f with
  | .next => ∃ σ' H', Inv X pins σ' H' s' ∧ D.nx σ' H'
  | .brk => ∃ σ' H', Inv X pins σ' H' s' ∧ D.bk σ' H'
  | .cont => ∃ σ' H', Inv X pins σ' H' s' ∧ D.ct σ' H'
  | .ret u => ∃ v σ' H', Inv X pins σ' H' s' ∧ RelV v u ∧ D.rt v H'
def PE (X : Cx) (e : Expr) (t : TE) : Prop :=
  ∀ (pins : List (Addr × Obj)) (s : Shared) (σ : St) (H : Hp) (Q : VK), Inv X pins σ H s → t σ H Q → wpAny (model X.prog X.w) X.A (eval e X.env) (EP X pins σ Q) X.xe s
def PT (X : Cx) (e : Expr) (t : TT) : Prop :=
  ∀ (pins : List (Addr × Obj)) (s : Shared) (σ : St) (H : Hp) (Q : Bool → Hp → Prop), Inv X pins σ H s → t σ H Q → wpAny (model X.prog X.w) X.A (isTrue e X.env (eval e X.env)) (TP X pins σ Q) X.xe s
def PW (X : Cx) (e : Expr) (t : TT) : Prop :=
  ∀ (whole : Sem Value) (pins : List (Addr × Obj)) (s : Shared) (σ : St) (H : Hp) (Q : Bool → Hp → Prop), Inv X pins σ H s → t σ H Q → wpAny (model X.prog X.w) X.A (isTrue e X.env whole) (TP X pins σ Q) X.xe s
theorem PW.pt {X : Cx} {e : Expr} {t : TT} (h : PW X e t) : PT X e t := h _
def PA (X : Cx) (es : List Expr) (t : TA) : Prop :=
  ∀ (pos : Pos) (pins : List (Addr × Obj)) (s : Shared) (σ : St) (H : Hp) (Q : List V → Hp → Prop), Inv X pins σ H s → t σ H Q → wpAny (model X.prog X.w) X.A (spliced (backTo pos (starEach es X.env))) (AP X pins σ Q) X.xe s
def PS (X : Cx) (st : Stmt) (t : TS) : Prop :=
  ∀ (pins : List (Addr × Obj)) (s : Shared) (σ : St) (H : Hp) (D : Ends), Inv X pins σ H s → t D σ H → wpAny (model X.prog X.w) X.A (exec st X.env) (SP X pins D) X.xe s
def PSs (X : Cx) (st : List Stmt) (t : TS) : Prop :=
  ∀ (pins : List (Addr × Obj)) (s : Shared) (σ : St) (H : Hp) (D : Ends), Inv X pins σ H s → t D σ H → wpAny (model X.prog X.w) X.A (execs st X.env) (SP X pins D) X.xe s
theorem thn {α : Type} {t : Sem α} {Q Q' : α → Shared → Prop} {M : Model} {A : Around} {E : Value → Shared → Prop} {s : Shared} (h : wpAny M A t Q E s) (hQ : ∀ a s, Q a s → Q' a s) : wpAny M A t Q' E s := wpAny_mono h hQ fun _ _ x => x
end L2
namespace L2
open PySem PySem.Spec PyProof.Rows
section
variable {X : Cx}
def tVar (i : Nat) : TE := fun σ H Q => ∃ v, σ[i]? = some (some v) ∧ Q v H
def tC (v : V) : TE := fun _ H Q => Q v H
theorem pe_var {i : Nat} {x : Str} {pos : Pos} (hN : X.N[i]? = some x) (hv : Vis X.env.scope x) (hd : (x == ("__debug__" : Str)) = false := by decide) (hcd : (x == ("__classdict__" : Str)) = false := by decide) : PE X (.Name x pos) (tVar i) := by
  intro pins s σ H Q I h
  obtain ⟨v, e, h⟩ := h
  obtain ⟨m, hn, hl⟩ := I.loc
  obtain ⟨u, r, l⟩ := hl i x v hN e hv
  have fin : EP X pins σ Q u s := ⟨v, H, I, r, h⟩
  rcases l with ⟨hk, hm⟩ | ⟨hk, c, hc, hcell⟩
  · exact wpAny_Name (wpAny_loadName_local I.ok.kind hk hn hm fin) hd
  · rcases hk with hk | hk
    · exact wpAny_Name (wpAny_loadName_cell I.ok.kind hk hc hcell fin) hd
    · exact wpAny_Name (wpAny_loadName_free I.ok.kind hk hc hcell fin hcd) hd
theorem pe_int {i j pos} : PE X (.Constant (.int i) j pos) (tC (.int i)) := fun _ _ _ H _ I h => wpAny_Constant_int ⟨.int i, H, I.tok _, ⟨_, rfl⟩, h⟩
theorem pe_bl {b j pos} : PE X (.Constant (.bool b) j pos) (tC (.bl b)) := fun _ _ _ H _ I h => Constant_bool ⟨.bl b, H, I, rfl, h⟩
theorem pe_non {j pos} : PE X (.Constant .none j pos) (tC .non) := fun _ _ _ H _ I h => Constant_none ⟨.non, H, I, rfl, h⟩
theorem pe_str {x j pos} : PE X (.Constant (.str x) j pos) (tC (.str x)) := fun _ _ _ H _ I h => Calls.Constant_str ⟨.str x, H, I.tok _, ⟨_, rfl⟩, h⟩
def Gl (X : Cx) (x : Str) : Prop := X.env.kindOf x = some .globalImplicit
theorem ld_glob {E : Value → Shared → Prop} {pins : List (Addr × Obj)} {s : Shared} {σ : St} {H : Hp} {x : Str} {u : Value} {pos : Pos} {Q : Value → Shared → Prop} (I : Inv X pins σ H s) (hg : Gl X x) (hm : X.mg x = some u) (h : Q u s)
    (hd : (x == ("__debug__" : Str)) = false := by decide) : wpAny (model X.prog X.w) X.A (eval (.Name x pos) X.env) Q E s :=
  Calls.Name_function_global I.ok.kind hg (Calls.loadGlobal_global (by rw [I.ok.glob]; exact I.mod.glob.keeps I.bk) hm h) hd
theorem ld_blt {E : Value → Shared → Prop} {pins : List (Addr × Obj)} {s : Shared} {σ : St} {H : Hp} {x : Str} {u : Value} {pos : Pos} {Q : Value → Shared → Prop} (I : Inv X pins σ H s) (hg : Gl X x) (hm : X.mg x = none) (hv : bootBuiltins x = some u) (h : Q u s)
    (hn : x ≠ "__name__" := by decide) (hd : (x == ("__debug__" : Str)) = false := by decide) : wpAny (model X.prog X.w) X.A (eval (.Name x pos) X.env) Q E s := by
  obtain ⟨mb, h1, h2⟩ := I.mod.blt
  exact Calls.Name_function_global I.ok.kind hg (Calls.loadGlobal_builtin (by rw [I.ok.glob]; exact I.mod.glob.keeps I.bk) hm (by rw [I.ok.blt]; exact h1.keeps I.bk) ((h2 x hn).trans hv) h) hd
theorem pe_glob {x : Str} {v : V} {u : Value} {pos : Pos} (hg : Gl X x) (hm : X.mg x = some u) (r : RelV v u) (hd : (x == ("__debug__" : Str)) = false := by decide) : PE X (.Name x pos) (tC v) :=
  fun _ _ _ H _ I h => ld_glob I hg hm ⟨v, H, I, r, h⟩ hd
theorem pe_bltn {x : Str} {v : V} {u : Value} {pos : Pos} (hg : Gl X x) (hm : X.mg x = none) (hv : bootBuiltins x = some u) (r : RelV v u) (hn : x ≠ "__name__" := by decide) (hd : (x == ("__debug__" : Str)) = false := by decide) : PE X (.Name x pos) (tC v) :=
  fun _ _ _ H _ I h => ld_blt I hg hm hv ⟨v, H, I, r, h⟩ hn hd
variable {a b : Expr} {ta tb : TE} {pos : Pos}
def tB (t : TE) : TT := fun σ H Q => t σ H fun x H1 => ∃ c, x = .bl c ∧ Q c H1
theorem pt_val {e : Expr} {t : TE} (h : PE X e t) (he : ∀ whole, isTrue e X.env whole = (do let v ← whole; standAt e.pos; holding [v] (truthy v)) := by intro _; rfl) : PT X e (tB t) := by
  intro pins s σ H Q I hw
  refine isTrue_plain (thn (h pins s σ H _ I hw) fun v s1 ⟨x, H1, I1, r1, q1⟩ => ?_) (he _)
  obtain ⟨d, rfl, q⟩ := q1
  cases r1
  exact wpAny_truthy_bool ⟨H1, I1, q⟩
variable {tA tB' : TT} {rest : List Expr}
def tAnd (t u : TT) : TT := fun σ H Q => t σ H fun c H1 => if c = true then u σ H1 Q else Q false H1
def tOr (t u : TT) : TT := fun σ H Q => t σ H fun c H1 => if c = true then Q true H1 else u σ H1 Q
def tNot (t : TT) : TT := fun σ H Q => t σ H fun c H1 => Q (!c) H1
theorem pw_and1 (ha : PT X a tA) : PW X (.BoolOp .And [a] pos) tA := by
  intro wh pins s σ H Q I h
  refine isTrue_and (thn (ha pins s σ H Q I h) fun c s1 e => ?_)
  cases c with
  | true => exact isTrue_and_nil e
  | false => exact e
theorem pw_or1 (ha : PT X a tA) : PW X (.BoolOp .Or [a] pos) tA := by
  intro wh pins s σ H Q I h
  refine isTrue_or (thn (ha pins s σ H Q I h) fun c s1 e => ?_)
  cases c with
  | false => exact isTrue_or_nil e
  | true => exact e
theorem pw_and (ha : PT X a tA) (hb : PW X (.BoolOp .And (b :: rest) pos) tB') : PW X (.BoolOp .And (a :: b :: rest) pos) (tAnd tA tB') := by
  intro wh pins s σ H Q I h
  refine isTrue_and (thn (ha pins s σ H _ I h) fun c s1 ⟨H1, I1, q1⟩ => ?_)
  cases c with
  | true => exact hb wh pins s1 σ H1 Q I1 q1
  | false => exact ⟨H1, I1, q1⟩
theorem pw_or (ha : PT X a tA) (hb : PW X (.BoolOp .Or (b :: rest) pos) tB') : PW X (.BoolOp .Or (a :: b :: rest) pos) (tOr tA tB') := by
  intro wh pins s σ H Q I h
  refine isTrue_or (thn (ha pins s σ H _ I h) fun c s1 ⟨H1, I1, q1⟩ => ?_)
  cases c with
  | true => exact ⟨H1, I1, q1⟩
  | false => exact hb wh pins s1 σ H1 Q I1 q1
theorem pt_not (ha : PT X a tA) : PT X (.UnaryOp .Not a pos) (tNot tA) := by
  intro pins s σ H Q I h
  exact isTrue_not (ha pins s σ H (fun c H1 => Q (!c) H1) I h)
def tAndV (ta tb : TE) : TE := fun σ H Q => ta σ H fun x H1 => ∃ c, x = .bl c ∧ if c = true then tb σ H1 Q else Q (.bl false) H1
def tOrV (ta tb : TE) : TE := fun σ H Q => ta σ H fun x H1 => ∃ c, x = .bl c ∧ if c = true then Q (.bl true) H1 else tb σ H1 Q
def tNotV (ta : TE) : TE := fun σ H Q => ta σ H fun x H1 => ∃ c, x = .bl c ∧ Q (.bl (!c)) H1
theorem pe_one {op} {t : TE} (h : PE X a t) : PE X (.BoolOp op [a] pos) t := fun pins s σ H Q I hw => BoolOp_one (h pins s σ H Q I hw)
theorem pe_and (ha : PE X a ta) (hb : PE X (.BoolOp .And (b :: rest) pos) tb) : PE X (.BoolOp .And (a :: b :: rest) pos) (tAndV ta tb) := by
  intro pins s σ H Q I h
  refine BoolOp_and (thn (ha pins s σ H _ I h) fun v s1 ⟨x, H1, I1, r1, q1⟩ => ?_)
  obtain ⟨c, rfl, q1⟩ := q1
  cases r1
  refine wpAny_truthy_bool ?_
  cases c with
  | true => exact hb pins s1 σ H1 Q I1 q1
  | false => exact ⟨.bl false, H1, I1, rfl, q1⟩
theorem pe_or (ha : PE X a ta) (hb : PE X (.BoolOp .Or (b :: rest) pos) tb) : PE X (.BoolOp .Or (a :: b :: rest) pos) (tOrV ta tb) := by
  intro pins s σ H Q I h
  refine BoolOp_or (thn (ha pins s σ H _ I h) fun v s1 ⟨x, H1, I1, r1, q1⟩ => ?_)
  obtain ⟨c, rfl, q1⟩ := q1
  cases r1
  refine wpAny_truthy_bool ?_
  cases c with
  | false => exact hb pins s1 σ H1 Q I1 q1
  | true => exact ⟨.bl true, H1, I1, rfl, q1⟩
theorem pe_not (ha : PE X a ta) : PE X (.UnaryOp .Not a pos) (tNotV ta) := by
  intro pins s σ H Q I h
  refine UnaryOp_ (thn (ha pins s σ H _ I h) fun v s1 ⟨x, H1, I1, r1, q1⟩ => ?_)
  obtain ⟨c, rfl, q1⟩ := q1
  cases r1
  exact not_of (wpAny_truthy_bool ⟨.bl (!c), H1, I1, rfl, q1⟩)
def tIf (t : TT) (ta tb : TE) : TE := fun σ H Q => t σ H fun c H1 => if c = true then ta σ H1 Q else tb σ H1 Q
theorem pe_ifExp {c : Expr} (hc : PT X c tA) (ha : PE X a ta) (hb : PE X b tb) : PE X (.IfExp c a b pos) (tIf tA ta tb) := by
  intro pins s σ H Q I h
  refine wpAny_IfExp (thn (hc pins s σ H _ I h) fun d s1 ⟨H1, I1, q1⟩ => ?_)
  cases d with
  | true => exact ha pins s1 σ H1 Q I1 q1
  | false => exact hb pins s1 σ H1 Q I1 q1
end
end L2
namespace L2
open PySem PySem.Spec PyProof.Rows
def SqL (K : PySem.W.Frag) (H : Hp) (a : Addr) (xs : List V) : Prop :=
  Rd H a (.lst xs) ∨
    ∃ (o : Obj) (its : Array Value) (n : Nat), K.lookup a = some o ∧ o.cls = .type "list" ∧ o.dict = none ∧ o.data = .seq its n ∧ its.size ≤ sizeLine ∧ Vals xs its.toList
def SqT (K : PySem.W.Frag) (H : Hp) (a : Addr) (xs : List V) : Prop :=
  Rd H a (.tup xs) ∨
    ∃ (o : Obj) (its : Array Value) (n : Nat), K.lookup a = some o ∧ o.cls = .type "tuple" ∧ o.data = .seq its n ∧ its.size ≤ sizeLine ∧ Vals xs its.toList
def absV : Value → Option V
  | .none => some .non
  | .bool b => some (.bl b)
  | .int i _ => some (.int i)
  | .str x _ => some (.str x)
  | .bytes b _ => some (.byt b)
  | .float b _ => some (.flt b)
  | .ref a => some (.ref a)
  | .type n => some (.ty n)
  | _ => none
theorem RelV.abs {x : V} {u : Value} (r : RelV x u) : absV u = some x := by
  cases x with
  | non => cases r; rfl
  | bl _ => cases r; rfl
  | int _ => obtain ⟨t, rfl⟩ := r; rfl
  | str _ => obtain ⟨t, rfl⟩ := r; rfl
  | byt _ => obtain ⟨t, rfl⟩ := r; rfl
  | flt _ => obtain ⟨t, rfl⟩ := r; rfl
  | ref _ => cases r; rfl
  | ty _ => cases r; rfl
theorem RelV.inj {x y : V} {u : Value} (r : RelV x u) (q : RelV y u) : x = y := Option.some.inj (r.abs.symm.trans q.abs)
theorem Vals.inj : ∀ {xs ys : List V} {us : List Value}, Vals xs us → Vals ys us → xs = ys
  | _, _, _, .nil, .nil => rfl
  | _, _, _, .cons r t, .cons r' t' => by rw [r.inj r', Vals.inj t t']
section
variable {X : Cx} {pins : List (Addr × Obj)} {σ : St} {H : Hp} {s : Shared} {a : Addr} {xs ys : List V}
theorem Inv.list (I : Inv X pins σ H s) (h : SqL X.K H a xs) : ∃ its : List Value, Vals xs its ∧ PlainL s.heap a its.toArray ∧ xs.length ≤ sizeLine := by
  rcases h with h | ⟨o, its, n, hk, hc, hd, hs, hz, r⟩
  · obtain ⟨z, its, n, r, e⟩ := h.ok I.hok
    exact ⟨its, r, ⟨_, n, e, rfl, rfl, rfl⟩, z⟩
  · refine ⟨its.toList, r, ⟨o, n, I.kIn a o hk, hc, hd, by simpa using hs⟩, ?_⟩
    have e := r.length
    simp only [Array.length_toList] at e
    omega
theorem Inv.tuple (I : Inv X pins σ H s) (h : SqT X.K H a xs) : ∃ its : List Value, Vals xs its ∧ IsTup s.heap a its.toArray ∧ xs.length ≤ sizeLine := by
  rcases h with h | ⟨o, its, n, hk, hc, hs, hz, r⟩
  · obtain ⟨z, its, r, p⟩ := h.ok I.hok
    exact ⟨its, r, p, z⟩
  · refine ⟨its.toList, r, ⟨o, I.kIn a o hk, hc, n, by simpa using hs⟩, ?_⟩
    have e := r.length
    simp only [Array.length_toList] at e
    omega
theorem Inv.list_inj (I : Inv X pins σ H s) (h : SqL X.K H a xs) (h' : SqL X.K H a ys) : xs = ys := by
  obtain ⟨its, r, ⟨o, n, e, _, _, d⟩, _⟩ := I.list h
  obtain ⟨its', r', ⟨o', n', e', _, _, d'⟩, _⟩ := I.list h'
  rw [e] at e'; cases e'
  rw [d] at d'
  injection d' with d1 _
  have : its = its' := by simpa using congrArg Array.toList d1
  subst this
  exact r.inj r'
theorem Inv.tuple_inj (I : Inv X pins σ H s) (h : SqT X.K H a xs) (h' : SqT X.K H a ys) : xs = ys := by
  obtain ⟨its, r, ⟨o, e, _, n, d⟩, _⟩ := I.tuple h
  obtain ⟨its', r', ⟨o', e', _, n', d'⟩, _⟩ := I.tuple h'
  rw [e] at e'; cases e'
  rw [d] at d'
  injection d' with d1 _
  have : its = its' := by simpa using congrArg Array.toList d1
  subst this
  exact r.inj r'
end
abbrev Cx.wish (X : Cx) (E : Value → Shared → Prop) : Cx := { X with xe := E }
abbrev Cx.nox (X : Cx) : Cx := X.wish fun _ _ => False
theorem Cx.Ok.wish {X : Cx} (ok : X.Ok) (E : Value → Shared → Prop) : (X.wish E).Ok :=
  ⟨ok.mod, ok.kind, ok.glob, ok.blt, ok.above, ok.inj, ok.has, ok.cab, ok.hd, ok.frames, ok.stk, ok.exf, ok.bs, ok.bsz, ok.noex, ok.exfs, ok.funs, ok.frf⟩
theorem Cx.Ok.unwish {X : Cx} {E : Value → Shared → Prop} (ok : (X.wish E).Ok) : X.Ok :=
  ⟨ok.mod, ok.kind, ok.glob, ok.blt, ok.above, ok.inj, ok.has, ok.cab, ok.hd, ok.frames, ok.stk, ok.exf, ok.bs, ok.bsz, ok.noex, ok.exfs, ok.funs, ok.frf⟩
section
variable {X : Cx} {pins : List (Addr × Obj)} {σ : St} {H : Hp} {s : Shared} {E : Value → Shared → Prop}
theorem Inv.wish (I : Inv X pins σ H s) (E : Value → Shared → Prop) : Inv (X.wish E) pins σ H s := ⟨I.ok.wish E, I.os, I.bare, I.base, I.loc, I.cell, I.free, I.freeC, I.pin, I.hok, I.len⟩
theorem Inv.unwish (I : Inv (X.wish E) pins σ H s) : Inv X pins σ H s := ⟨I.ok.unwish, I.os, I.bare, I.base, I.loc, I.cell, I.free, I.freeC, I.pin, I.hok, I.len⟩
theorem SP.unwish {D : Ends} {f : Flow} {s' : Shared} (h : SP (X.wish E) pins D f s') : SP X pins D f s' := by
  cases f with
  | next => obtain ⟨σ', H', I, q⟩ := h; exact ⟨σ', H', I.unwish, q⟩
  | brk => obtain ⟨σ', H', I, q⟩ := h; exact ⟨σ', H', I.unwish, q⟩
  | cont => obtain ⟨σ', H', I, q⟩ := h; exact ⟨σ', H', I.unwish, q⟩
  | ret u => obtain ⟨v, σ', H', I, r, q⟩ := h; exact ⟨v, σ', H', I.unwish, r, q⟩
theorem PE.nox {e : Expr} {t : TE} (h : PE X.nox e t) : PE X e t := fun pins s σ H Q I hw =>
  wpAny_mono (h pins s σ H Q (I.wish _) hw) (fun _ _ ⟨v, H', I', r, q⟩ => ⟨v, H', I'.unwish, r, q⟩) fun _ _ z => False.elim z
theorem PT.nox {e : Expr} {t : TT} (h : PT X.nox e t) : PT X e t := fun pins s σ H Q I hw =>
  wpAny_mono (h pins s σ H Q (I.wish _) hw) (fun _ _ ⟨H', I', q⟩ => ⟨H', I'.unwish, q⟩) fun _ _ z => False.elim z
theorem PSs.nox {st : List Stmt} {t : TS} (h : PSs X.nox st t) : PSs X st t := fun pins s σ H D I hw =>
  wpAny_mono (h pins s σ H D (I.wish _) hw) (fun _ _ q => q.unwish) fun _ _ z => False.elim z
end
section
variable {X : Cx} {st : Stmt} {rest : List Stmt} {t u : TS} {e : Expr} {te : TE} {pos : Pos}
def tNext : TS := fun D σ H => D.nx σ H
def tSeq (t u : TS) : TS := fun D σ H => t { D with nx := u D } σ H
theorem pss_nil : PSs X [] tNext := fun _ _ σ H _ I h => wpAny_execs_nil ⟨σ, H, I, h⟩
theorem pss_cons (h1 : PS X st t) (h2 : PSs X rest u) : PSs X (st :: rest) (tSeq t u) := by
  intro pins s σ H D I h
  refine wpAny_execs_cons (thn (h1 pins s σ H { D with nx := u D } I h) fun f s1 q => ?_)
  cases f with
  | next =>
    obtain ⟨σ', H', I', q⟩ := q
    exact h2 pins s1 σ' H' D I' q
  | ret v => exact q
  | brk => exact q
  | cont => exact q
theorem pss_one (h1 : PS X st t) : PSs X [st] t := by
  intro pins s σ H D I h
  refine wpAny_execs_cons (thn (h1 pins s σ H D I h) fun f s1 q => ?_)
  cases f with
  | next => exact wpAny_execs_nil q
  | ret v => exact q
  | brk => exact q
  | cont => exact q
def tRet (te : TE) : TS := fun D σ H => te σ H D.rt
theorem ps_ret (he : PE X e te) : PS X (.Return (some e) pos) (tRet te) := by
  intro pins s σ H D I h
  exact wpAny_Return_some (thn (he pins s σ H _ I h) fun v s1 ⟨x, H1, I1, r1, q1⟩ => ⟨x, σ, H1, I1, r1, q1⟩)
def tIfS (c : TT) (t u : TS) : TS := fun D σ H => c σ H fun b H1 => if b = true then t D σ H1 else u D σ H1
theorem ps_if {c : Expr} {a b : List Stmt} {tc : TT} (hc : PT X c tc) (ha : PSs X a t) (hb : PSs X b u) : PS X (.If c a b pos) (tIfS tc t u) := by
  intro pins s σ H D I h
  refine wpAny_If (thn (hc pins s σ H _ I h) fun d s1 ⟨H1, I1, q1⟩ => ?_)
  cases d with
  | true => exact ha pins s1 σ H1 D I1 q1
  | false => exact hb pins s1 σ H1 D I1 q1
def tNever : TS := fun _ _ _ => False
theorem ps_never : PS X st tNever := fun _ _ _ _ _ _ h => h.elim
end
abbrev TG := V → St → Hp → (St → Hp → Prop) → Prop
abbrev TGs := List V → St → Hp → (St → Hp → Prop) → Prop
def PG (X : Cx) (target : Expr) (t : TG) : Prop :=
  ∀ (pins : List (Addr × Obj)) (s : Shared) (σ : St) (H : Hp) (v : V) (u : Value) (Q : St → Hp → Prop), Inv X pins σ H s → RelV v u → t v σ H Q →
    wpAny (model X.prog X.w) X.A (assign target X.env u) (fun _ s' => ∃ σ' H', Inv X pins σ' H' s' ∧ Q σ' H') X.xe s
def PGs (X : Cx) (ts : List Expr) (t : TGs) : Prop :=
  ∀ (pins : List (Addr × Obj)) (s : Shared) (σ : St) (H : Hp) (vs : List V) (us : List Value) (Q : St → Hp → Prop), Inv X pins σ H s → Vals vs us → t vs σ H Q →
    wpAny (model X.prog X.w) X.A (assignInOrder ((assignEach ts X.env).map (·.2)) us) (fun _ s' => ∃ σ' H', Inv X pins σ' H' s' ∧ Q σ' H') X.xe s
section
variable {X : Cx} {pos : Pos}
def gName (i : Nat) : TG := fun v σ H Q => Q (σ.set i (some v)) H
theorem pg_name {i : Nat} {x : Str} (hN : X.N.Nodup) (hi : X.N[i]? = some x) (hx : Loc X.env.scope x) (hf : X.fn x = true ∨ X.env.scope.names.lookup x = some .local := by first | exact .inl rfl | exact .inr rfl | assumption) : PG X (.Name x pos) (gName i) := by
  intro pins s σ H v u Q I r h
  exact wpAny_assign_Name (store_ok I hN hi hx r (fun s' I' => ⟨_, H, I', h⟩) hf)
def gNil : TGs := fun vs σ H Q => vs = [] ∧ Q σ H
def gCons (t : TG) (u : TGs) : TGs := fun vs σ H Q => ∃ v r, vs = v :: r ∧ t v σ H fun σ' H' => u r σ' H' Q
theorem pgs_nil : PGs X [] gNil := by
  intro pins s σ H vs us Q I r h
  obtain ⟨e, h⟩ := h
  subst e
  cases r
  exact assignInOrder_nil ⟨σ, H, I, h⟩
theorem pgs_cons {e : Expr} {es : List Expr} {t : TG} {u : TGs} (h1 : PG X e t) (h2 : PGs X es u)
    (hs : (assignEach (e :: es) X.env).map (·.2) = assign e X.env :: (assignEach es X.env).map (·.2) := by rfl) : PGs X (e :: es) (gCons t u) := by
  intro pins s σ H vs us Q I r h
  obtain ⟨v, vr, e1, h⟩ := h
  subst e1
  cases r with
  | cons r rr =>
    rw [hs]
    refine assignInOrder_cons (thn (h1 pins s σ H _ _ _ I r h) fun _ s1 ⟨σ1, H1, I1, q1⟩ => ?_)
    exact h2 pins s1 σ1 H1 _ _ Q I1 rr q1
def gTup (K : PySem.W.Frag) (n : Nat) (t : TGs) : TG := fun v σ H Q => ∃ a xs, v = .ref a ∧ SqT K H a xs ∧ xs.length = n ∧ t xs σ H Q
theorem pg_tup {es : List Expr} {k : Nat} {t : TGs} {n : Nat} (hc : X.calm = true) (h : PGs X es t)
    (hn : (assignEach es X.env).length = n := by rfl) (hst : (assignEach es X.env).findIdx? (·.1) = none := by rfl) : PG X (.Tuple es k pos) (gTup X.K n t) := by
  intro pins s σ H v u Q I r hw
  obtain ⟨a, xs, e1, hq, hl, hw⟩ := hw
  subst e1
  cases r
  obtain ⟨its, rv, ht, hz⟩ := I.tuple hq
  refine assign_Tuple_tuple (I.ok.hd hc) ht (by simp [hn, ← hl, rv.length]) hst fun h' hx => ?_
  have I1 : Inv X pins σ H { s with heap := h' } := I.kept (t' := s.toks) fun b o e => hx b o (Nat.ne_of_lt (Heap.lt_size e)) e
  exact h pins _ σ H xs _ Q I1 (by simpa using rv) hw
def tAsg (te : TE) (g : TG) : TS := fun D σ H => te σ H fun x H1 => g x σ H1 D.nx
theorem ps_asg {tg e : Expr} {te : TE} {g : TG} (he : PE X e te) (hg : PG X tg g) (hs : swapsWithSole [tg] e pos.line X.env = pure false := by rfl) (hw : swappedStores [tg] e X.env = pure none := by rfl)
    (h1 : (assignEach [tg] X.env).map (·.2) = [assign tg X.env] := by rfl) : PS X (.Assign [tg] e pos) (tAsg te g) := by
  intro pins s σ H D I h
  refine wpAny_Assign_stores (thn (he pins s σ H _ I h) fun v s1 ⟨x, H1, I1, r1, q1⟩ => ?_) hs hw
  rw [h1]
  exact thn (hg pins s1 σ H1 x v _ I1 r1 q1) fun _ s2 q => q
theorem ps_set {i : Nat} {x : Str} {e : Expr} {te : TE} {pos' : Pos} (hN : X.N.Nodup) (hi : X.N[i]? = some x) (hx : Loc X.env.scope x) (he : PE X e te) (hs : swapsWith e (some (.Name x pos')) pos.line X.env = pure false := by rfl) (hf : X.fn x = true ∨ X.env.scope.names.lookup x = some .local := by first | exact .inl rfl | exact .inr rfl | assumption) :
    PS X (.Assign [.Name x pos'] e pos) (tAsg te (gName i)) := by
  intro pins s σ H D I h
  refine wpAny_Assign_Name (thn (he pins s σ H _ I h) fun v s1 ⟨y, H1, I1, r1, q1⟩ => ?_) hs
  exact store_ok I1 hN hi hx r1 (fun s2 I2 => ⟨_, H1, I2, q1⟩) hf
end
section
variable {X : Cx} {pos : Pos}
end
structure It where
  go : Nat → Hp → Prop
  yld : Nat → Hp → V → Hp → Prop
  stop : Nat → Hp → Prop
def FpOk (X : Cx) (pins : List (Addr × Obj)) (H : Hp) (b : Addr) : Prop :=
  H b = none ∧ b ≠ X.env.locals ∧ b ∉ X.fs ∧ (b ∈ X.ex ∨ X.s₀.heap.objs.size ≤ b) ∧ (∀ x c, X.env.cells.lookup x = some c → c ≠ b) ∧ ∀ p ∈ X.pn ++ pins, p.1 ≠ b
theorem Inv.fpOk {X : Cx} {pins : List (Addr × Obj)} {σ : St} {H H' : Hp} {s : Shared} {b : Addr} (I : Inv X pins σ H s) (hb : s.heap.objs.size ≤ b) (hn : H' b = none) : FpOk X pins H' b := by
  refine ⟨hn, Nat.ne_of_gt (Nat.lt_of_lt_of_le I.lt hb), I.nofs hb, .inr (Nat.le_trans I.sz hb), fun x c e z => ?_, fun p hp z => ?_⟩
  · obtain ⟨v, q⟩ := I.cell x c e
    exact absurd (Nat.lt_of_lt_of_le q.lt (by rw [z]; exact hb)) (Nat.lt_irrefl _)
  · exact absurd (Nat.lt_of_lt_of_le (Heap.lt_size (I.pin p hp).1) (by rw [z]; exact hb)) (Nat.lt_irrefl _)
structure Turn (P : Program) (w : World) (K : PySem.W.Frag) (tg : Expr) (J : It) (fp : List Addr) (it : Addr) (tn : Nat → Heap → Prop) : Prop where
  mem : it ∈ fp
  obj : ∀ i h, tn i h → ∀ b ∈ fp, ∃ o, h.get? b = some o ∧ ∀ v, o.data ≠ .cell v
  keep : ∀ i h h', tn i h → (∀ b ∈ fp, ∀ o, h.get? b = some o → h'.get? b = some o) → tn i h'
  item : ∀ (X : Cx), X.prog = P → X.w = w → X.K = K → X.calm = true → ∀ (i : Nat) (pins : List (Addr × Obj)) (s : Shared) (σ : St) (H : Hp) (E : Value → Shared → Prop), Inv X pins σ H s → (∀ b ∈ fp, FpOk X pins H b) → tn i s.heap → J.go i H →
    wpAny (model P w) X.A (pyNext (.ref it)) (fun r s1 => ∃ u, r = some u ∧
      wpAny (model P w) X.A (letOwnedTupleGo tg (.ref it) u) (fun _ s2 => ∃ x H', Inv X pins σ H' s2 ∧ RelV x u ∧ J.yld i H x H' ∧ tn (i + 1) s2.heap ∧ ∀ b ∈ fp, H' b = none) E s1) E s
  done : ∀ (X : Cx), X.prog = P → X.w = w → X.K = K → X.calm = true → ∀ (i : Nat) (pins : List (Addr × Obj)) (s : Shared) (σ : St) (H : Hp) (E : Value → Shared → Prop), Inv X pins σ H s → (∀ b ∈ fp, FpOk X pins H b) → tn i s.heap → J.stop i H →
    wpAny (model P w) X.A (pyNext (.ref it)) (fun r s1 => r = none ∧ Inv X pins σ H s1) E s
  self : ∀ (A : Around) (i : Nat) (s : Shared) (Q : Value → Shared → Prop) (E : Value → Shared → Prop), tn i s.heap → Q (.ref it) s → wpAny (model P w) A (pyIter (.ref it)) Q E s
abbrev TI := St → Hp → (It → Hp → Prop) → Prop
def PIE (X : Cx) (pins : List (Addr × Obj)) (σ : St) (tg : Expr) (R : It → Hp → Prop) (itv : Value) (s2 : Shared) : Prop :=
  ∃ (it : Addr) (fp : List Addr) (tn : Nat → Heap → Prop) (J : It) (H' : Hp), itv = .ref it ∧ Inv X pins σ H' s2 ∧ Turn X.prog X.w X.K tg J fp it tn ∧ tn 0 s2.heap ∧ (∀ b ∈ fp, FpOk X pins H' b) ∧ R J H'
def PI (X : Cx) (tg iter : Expr) (wi : TI) : Prop :=
  ∀ (pins : List (Addr × Obj)) (s : Shared) (σ : St) (H : Hp) (R : It → Hp → Prop), Inv X pins σ H s → wi σ H R →
    wpAny (model X.prog X.w) X.A (eval iter X.env) (fun v s1 => wpAny (model X.prog X.w) X.A (pyIter v) (PIE X pins σ tg R) X.xe s1) X.xe s
theorem go_of {M : Model} {A : Around} {E : Value → Shared → Prop} {s : Shared} {tg : Expr} {it : Addr} {u : Value} {o : Obj} {n : String} {vs : Array Value} {Q : Unit → Shared → Prop} (ho : s.heap.get? it = some o) (hc : o.cls = .type n) (hd : o.data = .fields vs)
    (hn : ["enumerate", "zip", "dict_itemiterator", "dict_reverseitemiterator", "odict_iterator", "itertools.zip_longest", "itertools.pairwise"].contains n = false) (hQ : Q () s) : wpAny M A (letOwnedTupleGo tg (.ref it) u) Q E s := by
  unfold letOwnedTupleGo
  cases tg <;> first
    | exact wpAny_pure hQ
    | (cases u <;> first
        | exact wpAny_pure hQ
        | (refine wpAny_bind (wpAny_load ho ?_)
           rw [hc, hd]
           show wpAny M A (if (["enumerate", "zip", "dict_itemiterator", "dict_reverseitemiterator", "odict_iterator", "itertools.zip_longest", "itertools.pairwise"].contains n && vs[0]? == some (rawInt _)) = true then _ else _) Q E s
           rw [if_neg (by intro h; rw [hn, Bool.false_and] at h; cases h)]
           exact wpAny_pure hQ))
def Itl (K : PySem.W.Frag) (a : Addr) : It :=
  ⟨fun i H => ∃ xs x, SqL K H a xs ∧ xs[i]? = some x, fun i H x H' => H' = H ∧ ∀ xs, SqL K H a xs → xs[i]? = some x, fun i H => ∃ xs, SqL K H a xs ∧ xs.length ≤ i⟩
def Itt (K : PySem.W.Frag) (a : Addr) : It :=
  ⟨fun i H => ∃ xs x, SqT K H a xs ∧ xs[i]? = some x, fun i H x H' => H' = H ∧ ∀ xs, SqT K H a xs → xs[i]? = some x, fun i H => ∃ xs, SqT K H a xs ∧ xs.length ≤ i⟩
def Itr (lo : Int) (n : Nat) : It := ⟨fun i _ => i < n, fun i H x H' => H' = H ∧ x = .int (lo + i), fun i _ => n ≤ i⟩
theorem turn_list {P : Program} {w : World} {K : PySem.W.Frag} {tg : Expr} (a it : Addr) : Turn P w K tg (Itl K a) [it] it (fun i h => h.IsListIter it a i) where
  mem := by simp
  obj := fun i h st b hb => by
    have e : b = it := by simpa using hb
    subst e
    obtain ⟨o, e, c, d⟩ := st
    exact ⟨o, e, fun v z => by rw [d] at z; cases z⟩
  keep := fun i h h' st k => st.at fun o e => k it (by simp) o e
  item := by
    intro X hP hw hK hc i pins s σ H E I hf st hg
    subst hP hw hK
    obtain ⟨xs, x, hq, hx⟩ := hg
    obtain ⟨its, rv, p, hz⟩ := I.list hq
    obtain ⟨u, hu, ru⟩ := rv.get hx
    obtain ⟨f0, f1, f2, f3, f4, f5⟩ := hf it (by simp)
    refine wpAny_pyNext_list_item st p.isList (x := u) (by simpa using hu) fun h' st' sb => ?_
    have I1 : Inv X pins σ H { s with heap := h' } := I.turned (t' := s.toks) (fun b o hb e => (sb.2 b hb).trans e) f0 f1 f3 f4 f5
    obtain ⟨o, e, c, d⟩ := id st'
    exact ⟨u, rfl, go_of (s := { s with heap := h' }) e c d (by decide) ⟨x, H, I1, ru, ⟨rfl, fun ys hy => by rw [I.list_inj hy hq]; exact hx⟩, st', fun b hb => (hf b hb).1⟩⟩
  done := by
    intro X hP hw hK hc i pins s σ H E I hf st hg
    subst hP hw hK
    obtain ⟨xs, hq, hx⟩ := hg
    obtain ⟨its, rv, p, hz⟩ := I.list hq
    obtain ⟨f0, f1, f2, f3, f4, f5⟩ := hf it (by simp)
    have hl := rv.length
    exact wpAny_pyNext_list_end (I.ok.hd hc) st p.isList (by simp; omega) fun h' eb => ⟨rfl, I.turned (t' := s.toks) (fun b o hb e => eb b o hb e) f0 f1 f3 f4 f5⟩
  self := fun _ _ _ _ _ st h => wpAny_pyIter_listiter st h
theorem turn_tuple {P : Program} {w : World} {K : PySem.W.Frag} {tg : Expr} (a it : Addr) : Turn P w K tg (Itt K a) [it] it (fun i h => h.IsTupleIter it a i) where
  mem := by simp
  obj := fun i h st b hb => by
    have e : b = it := by simpa using hb
    subst e
    obtain ⟨o, e, c, d⟩ := st
    exact ⟨o, e, fun v z => by rw [d] at z; cases z⟩
  keep := fun i h h' st k => st.at fun o e => k it (by simp) o e
  item := by
    intro X hP hw hK hc i pins s σ H E I hf st hg
    subst hP hw hK
    obtain ⟨xs, x, hq, hx⟩ := hg
    obtain ⟨its, rv, p, hz⟩ := I.tuple hq
    obtain ⟨u, hu, ru⟩ := rv.get hx
    obtain ⟨f0, f1, f2, f3, f4, f5⟩ := hf it (by simp)
    refine wpAny_pyNext_tuple_item st (show s.heap.IsTuple a its.toArray from p) (x := u) (by simpa using hu) fun h' st' sb => ?_
    have I1 : Inv X pins σ H { s with heap := h' } := I.turned (t' := s.toks) (fun b o hb e => (sb.2 b hb).trans e) f0 f1 f3 f4 f5
    obtain ⟨o, e, c, d⟩ := id st'
    exact ⟨u, rfl, go_of (s := { s with heap := h' }) e c d (by decide) ⟨x, H, I1, ru, ⟨rfl, fun ys hy => by rw [I.tuple_inj hy hq]; exact hx⟩, st', fun b hb => (hf b hb).1⟩⟩
  done := by
    intro X hP hw hK hc i pins s σ H E I hf st hg
    subst hP hw hK
    obtain ⟨xs, hq, hx⟩ := hg
    obtain ⟨its, rv, p, hz⟩ := I.tuple hq
    obtain ⟨f0, f1, f2, f3, f4, f5⟩ := hf it (by simp)
    have hl := rv.length
    exact wpAny_pyNext_tuple_end (I.ok.hd hc) st (show s.heap.IsTuple a its.toArray from p) (by simp; omega) fun h' eb => ⟨rfl, I.turned (t' := s.toks) (fun b o hb e => eb b o hb e) f0 f1 f3 f4 f5⟩
  self := fun _ _ _ _ _ st h => wpAny_pyIter_tupleiter st h
theorem turn_range {P : Program} {w : World} {K : PySem.W.Frag} {tg : Expr} (it : Addr) (lo : Int) (n : Nat) : Turn P w K tg (Itr lo n) [it] it (fun i h => IsRangeIter h it (lo + (i : Nat) * 1) ((n : Int) - (i : Nat)) 1) where
  mem := by simp
  obj := fun i h st b hb => by
    have e : b = it := by simpa using hb
    subst e
    exact ⟨_, st, fun v z => by
      have z' : Data.fields _ = Data.cell v := z
      cases z'⟩
  keep := fun i h h' st k => k it (by simp) _ st
  item := by
    intro X hP hw hK hc i pins s σ H E I hf st hg
    subst hP hw hK
    obtain ⟨f0, f1, f2, f3, f4, f5⟩ := hf it (by simp)
    have W := Walks.range (prog := X.prog) (w := X.w) (I.ok.hd hc) it lo 1 n
    refine W.item i s _ _ hg st fun v h' tk hv st' kk => ?_
    obtain ⟨t, rfl⟩ := hv
    have I1 : Inv X pins σ H { s with heap := h', toks := tk } := I.turned (fun b o hb e => kk b o (by simpa using hb) e) f0 f1 f3 f4 f5
    refine ⟨_, rfl, go_of (s := { s with heap := h', toks := tk }) (n := "range_iterator") st' rfl rfl (by decide) ⟨.int (lo + i), H, I1, ⟨t, ?_⟩, ⟨rfl, rfl⟩, st', fun b hb => (hf b hb).1⟩⟩
    rw [Int.mul_one]
  done := by
    intro X hP hw hK hc i pins s σ H E I hf st hg
    subst hP hw hK
    obtain ⟨f0, f1, f2, f3, f4, f5⟩ := hf it (by simp)
    exact wpAny_pyNext_range_end (I.ok.hd hc) st (by have : n ≤ i := hg; omega) fun h' eb => ⟨rfl, I.turned (t' := s.toks) (fun b o hb e => eb b o hb e) f0 f1 f3 f4 f5⟩
  self := fun _ _ _ _ _ st h => wpAny_pyIter_rangeiter st h
end L2
namespace L2
open PySem PySem.Spec PyProof.Rows
section
variable {X : Cx} {tg : Expr}
def iList (K : PySem.W.Frag) (tl : TE) : TI := fun σ H R => tl σ H fun x H1 => ∃ a, x = .ref a ∧ (∃ xs, SqL K H1 a xs) ∧ R (Itl K a) H1
def iTup (K : PySem.W.Frag) (tl : TE) : TI := fun σ H R => tl σ H fun x H1 => ∃ a, x = .ref a ∧ (∃ xs, SqT K H1 a xs) ∧ R (Itt K a) H1
theorem pi_list {l : Expr} {tl : TE} (hl : PE X l tl) : PI X tg l (iList X.K tl) := by
  intro pins s σ H R I h
  refine thn (hl pins s σ H _ I h) fun v s1 ⟨x, H1, I1, r1, q1⟩ => ?_
  obtain ⟨a, e, ⟨xs, hq⟩, q⟩ := q1
  subst e
  cases r1
  obtain ⟨its, rv, p, hz⟩ := I1.list hq
  refine wpAny_pyIter_list p.isList ?_
  refine ⟨s1.heap.objs.size, [s1.heap.objs.size], _, _, H1, rfl, I1.kept (t' := s1.toks) fun b o e => Heap.get?_push_of_some _ e, turn_list a _, ⟨_, Heap.get?_push_size _ rfl, rfl, rfl⟩, fun b hb => ?_, q⟩
  have e : b = s1.heap.objs.size := by simpa using hb
  subst e
  exact I1.fpOk (Nat.le_refl _) (I1.hok.fresh (Nat.le_refl _))
theorem pi_tup {l : Expr} {tl : TE} (hl : PE X l tl) : PI X tg l (iTup X.K tl) := by
  intro pins s σ H R I h
  refine thn (hl pins s σ H _ I h) fun v s1 ⟨x, H1, I1, r1, q1⟩ => ?_
  obtain ⟨a, e, ⟨xs, hq⟩, q⟩ := q1
  subst e
  cases r1
  obtain ⟨its, rv, p, hz⟩ := I1.tuple hq
  refine wpAny_pyIter_tuple (show s1.heap.IsTuple a its.toArray from p) ?_
  refine ⟨s1.heap.objs.size, [s1.heap.objs.size], _, _, H1, rfl, I1.kept (t' := s1.toks) fun b o e => Heap.get?_push_of_some _ e, turn_tuple a _, ⟨_, Heap.get?_push_size _ rfl, rfl, rfl⟩, fun b hb => ?_, q⟩
  have e : b = s1.heap.objs.size := by simpa using hb
  subst e
  exact I1.fpOk (Nat.le_refl _) (I1.hok.fresh (Nat.le_refl _))
theorem range_it {pins : List (Addr × Obj)} {σ : St} {H : Hp} {s : Shared} {R : It → Hp → Prop} {E : Value → Shared → Prop} {lo hi : Int} {t u v : Tok} {tk : Nat} (I : Inv X pins σ H s) (h1 : -(2 ^ 62) ≤ lo) (h2 : lo < 2 ^ 62) (h3 : -(2 ^ 62) ≤ hi) (h4 : hi < 2 ^ 62)
    (q : R (Itr lo (hi - lo).toNat) H) : wpAny (model X.prog X.w) X.A (pyIter (.ref s.heap.objs.size)) (PIE X pins σ tg R) E { s with heap := s.heap.push { cls := .type "range", data := .fields #[.int lo t, .int hi u, .int 1 v] }, toks := tk } := by
  refine wpAny_pyIter_range (IsRange.new ..) (small_one h1 h2 h3 h4) ?_
  have I1 : Inv X pins σ H { s with heap := s.heap.push { cls := .type "range", data := .fields #[.int lo t, .int hi u, .int 1 v] }, toks := tk } := I.kept fun b o e => Heap.get?_push_of_some _ e
  refine ⟨(s.heap.push { cls := .type "range", data := .fields #[.int lo t, .int hi u, .int 1 v] }).objs.size, [(s.heap.push { cls := .type "range", data := .fields #[.int lo t, .int hi u, .int 1 v] }).objs.size], _, _, H, rfl,
    I1.kept (t' := tk) fun b o e => Heap.get?_push_of_some _ e, turn_range _ lo (hi - lo).toNat, ?_, fun b hb => ?_, q⟩
  · have e1 : lo + ((0 : Nat) : Int) * 1 = lo := by simp
    have e2 : (((hi - lo).toNat : Nat) : Int) - ((0 : Nat) : Int) = Builtin.Range.rangeSize lo hi 1 := by rw [rangeSize_one]; split <;> omega
    show IsRangeIter _ _ (lo + ((0 : Nat) : Int) * 1) ((((hi - lo).toNat : Nat) : Int) - ((0 : Nat) : Int)) 1
    rw [e1, e2]
    exact Heap.get?_push_size _ rfl
  · have e : b = (s.heap.push { cls := .type "range", data := .fields #[.int lo t, .int hi u, .int 1 v] }).objs.size := by simpa using hb
    subst e
    exact I1.fpOk (Nat.le_refl _) (I1.hok.fresh (Nat.le_refl _))
def iRng1 (ta : TA) : TI := fun σ H R => ta σ H fun vs H1 => ∃ j : Int, vs = [.int j] ∧ -(2 ^ 62) ≤ j ∧ j < 2 ^ 62 ∧ R (Itr 0 j.toNat) H1
theorem pi_range1 {a : Expr} {ta : TA} {p pos : Pos} (hg : Gl X "range") (hm : X.mg "range" = none) (ha : PA X [a] ta) (hs : starEach [a] X.env = [(false, eval a X.env)] := by rfl) : PI X tg (.Call (.Name "range" p) [a] [] pos) (iRng1 ta) := by
  intro pins s σ H R I h
  refine Call_ (ld_blt I hg hm boot_range (PyProof.Rows.callWith_type1 (thn (ha pos pins s σ H _ I h) fun us s1 ⟨vs, H1, I1, r1, q1⟩ => ?_) hs rfl))
  obtain ⟨j, e, q1, q2, q⟩ := q1
  subst e
  cases r1 with
  | cons r rr =>
    cases rr
    obtain ⟨t, rfl⟩ := r
    exact call_range_1 (range_it I1 (by omega) (by omega) q1 q2 (by simpa using q))
def tFor (wi : TI) (g : TG) (tb : TS) : TS := fun D σ H => wi σ H fun J H1 => ∃ W : Nat → Nat → St → Hp → Prop, (∃ m, W 0 m σ H1) ∧ ∀ i m σ H, W i m σ H →
  (J.stop i H ∧ D.nx σ H) ∨ (J.go i H ∧ ∃ N : St → Hp → Prop, (∀ σ' H', N σ' H' → ∃ m', m' < m ∧ W (i + 1) m' σ' H') ∧ ∀ x H', J.yld i H x H' → g x σ H' fun σ2 H2 => tb { D with nx := N, ct := N, bk := D.nx } σ2 H2)
def pinsAt (fp : List Addr) (h : Heap) : List (Addr × Obj) := fp.filterMap fun b => (h.get? b).map fun o => (b, o)
theorem mem_pinsAt {fp : List Addr} {h : Heap} {b : Addr} {o : Obj} (hb : b ∈ fp) (e : h.get? b = some o) : (b, o) ∈ pinsAt fp h := List.mem_filterMap.mpr ⟨b, hb, by rw [e]; rfl⟩
theorem of_pinsAt {fp : List Addr} {h : Heap} {p : Addr × Obj} (hp : p ∈ pinsAt fp h) : p.1 ∈ fp ∧ h.get? p.1 = some p.2 := by
  obtain ⟨b, hb, e⟩ := List.mem_filterMap.mp hp
  cases q : h.get? b with
  | none => rw [q] at e; cases e
  | some o =>
    rw [q] at e
    have e' : (b, o) = p := Option.some.inj e
    subst e'
    exact ⟨hb, q⟩
theorem Inv.pinned {pins : List (Addr × Obj)} {σ : St} {H : Hp} {s : Shared} {fp : List Addr} (I : Inv X pins σ H s) (hf : ∀ b ∈ fp, FpOk X pins H b) (ho : ∀ b ∈ fp, ∃ o, s.heap.get? b = some o ∧ ∀ v, o.data ≠ .cell v) : Inv X (pins ++ pinsAt fp s.heap) σ H s :=
  I.pins_of fun p hp => (List.mem_append.mp hp).elim (fun z => I.pin p (List.mem_append_right _ z)) fun z => by
    obtain ⟨hb, e⟩ := of_pinsAt z
    obtain ⟨f0, f1, f2, _⟩ := hf p.1 hb
    obtain ⟨o, e', d⟩ := ho p.1 hb
    rw [e] at e'; cases e'
    exact ⟨e, f0, f1, f2, d⟩
theorem Inv.unpinned {pins pl : List (Addr × Obj)} {σ : St} {H : Hp} {s : Shared} (I : Inv X (pins ++ pl) σ H s) : Inv X pins σ H s := I.pins_of fun p hp => I.pin p (List.mem_append_right _ (List.mem_append_left _ hp))
theorem ps_for {iter : Expr} {body : List Stmt} {wi : TI} {g : TG} {tb : TS} {pos : Pos} (hp : PassesOwn (model X.prog X.w) X.A X.env X.xe) (hc : X.calm = true) (hi : PI X tg iter wi) (hg : PG X tg g) (hb : PSs X body tb)
    (hs : ∀ x, foldedSetIterable iter X.env x = pure x := by intro _; rfl) : PS X (.For tg iter body [] pos) (tFor wi g tb) := by
  intro pins s σ H D I h
  refine wpAny_For (thn (hi pins s σ H _ I h) fun v s1 h1 => thn h1 fun itv s2 h2 => ?_) hs
  obtain ⟨it, fp, tn, J, H2, e, I2, T, st2, f2, W, ⟨m0, w0⟩, turn⟩ := h2
  subst e
  -- what stays true of the iterator's objects through the loop
  have stat : ∀ {H' : Hp}, (∀ b ∈ fp, H' b = none) → ∀ b ∈ fp, FpOk X pins H' b := fun hn b hb => ⟨hn b hb, (f2 b hb).2⟩
  refine codeAny_forLoop_any (fun n s' => ∃ i σ' H', Inv X pins σ' H' s' ∧ tn i s'.heap ∧ (∀ b ∈ fp, H' b = none) ∧ W i n σ' H') ?_ m0 ⟨0, σ, H2, I2, st2, fun b hb => (f2 b hb).1, w0⟩
  rintro n s3 ⟨i, σ3, H3, I3, st3, fr3, w3⟩
  rcases turn i n σ3 H3 w3 with ⟨stop, qn⟩ | ⟨go, N, hN, step⟩
  · refine wpAny_passesOwn hp (thn (T.done X rfl rfl rfl hc i pins s3 σ3 H3 X.xe I3 (stat fr3) st3 stop) fun r s4 ⟨hr, I4⟩ => ?_)
    subst hr
    exact wpAny_execs_nil ⟨σ3, H3, I4, qn⟩
  · refine wpAny_passesOwn hp (thn (T.item X rfl rfl rfl hc i pins s3 σ3 H3 X.xe I3 (stat fr3) st3 go) fun r s4 ⟨u, hr, h4⟩ => ?_)
    subst hr
    refine wpAny_passesOwn hp (thn h4 fun _ s5 ⟨x, H5, I5, r5, y5, st5, fr5⟩ => ?_)
    have I5' := I5.pinned (stat fr5) (T.obj _ _ st5)
    refine wpAny_passesOwn hp (thn (hg _ s5 σ3 H5 x u _ I5' r5 (step x H5 y5)) fun _ s6 ⟨σ6, H6, I6, q6⟩ => ?_)
    refine wpAny_passesOwn hp (thn (hb _ s6 σ6 H6 _ I6 q6) fun f s7 q7 => ?_)
    have again : ∀ {σ7 : St} {H7 : Hp}, Inv X (pins ++ pinsAt fp s5.heap) σ7 H7 s7 → N σ7 H7 → ∃ m, m < n ∧ ∃ i σ' H', Inv X pins σ' H' s7 ∧ tn i s7.heap ∧ (∀ b ∈ fp, H' b = none) ∧ W i m σ' H' := fun {σ7 H7} I7 n7 => by
      obtain ⟨m', hm, w7⟩ := hN σ7 H7 n7
      refine ⟨m', hm, i + 1, σ7, H7, I7.unpinned, T.keep _ _ _ st5 fun b hb o e => (I7.pin (b, o) (List.mem_append_right _ (List.mem_append_right _ (mem_pinsAt hb e)))).1, fun b hb => ?_, w7⟩
      obtain ⟨o, e, d⟩ := T.obj _ _ st5 b hb
      exact (I7.pin (b, o) (List.mem_append_right _ (List.mem_append_right _ (mem_pinsAt hb e)))).2.1
    cases f with
    | next => obtain ⟨σ7, H7, I7, n7⟩ := q7; exact again I7 n7
    | cont => obtain ⟨σ7, H7, I7, n7⟩ := q7; exact again I7 n7
    | brk => obtain ⟨σ7, H7, I7, q7⟩ := q7; exact ⟨σ7, H7, I7.unpinned, q7⟩
    | ret v => obtain ⟨x7, σ7, H7, I7, r7, q7⟩ := q7; exact ⟨x7, σ7, H7, I7.unpinned, r7, q7⟩
end
end L2
namespace L2
open PySem PySem.Spec PyProof.Rows
abbrev R2 := V → V → Hp → VK → Prop
def OpR (X : Cx) (f : Value → Value → Sem Value) (r : R2) : Prop :=
  ∀ (pins : List (Addr × Obj)) (s : Shared) (σ : St) (H : Hp) (x y : V) (v u : Value) (Q : VK), Inv X pins σ H s → RelV x v → RelV y u → r x y H Q →
    wpAny (model X.prog X.w) X.A (f v u) (EP X pins σ Q) X.xe s
def UnR (X : Cx) (f : Value → Sem Value) (r : V → Hp → VK → Prop) : Prop :=
  ∀ (pins : List (Addr × Obj)) (s : Shared) (σ : St) (H : Hp) (x : V) (v : Value) (Q : VK), Inv X pins σ H s → RelV x v → r x H Q →
    wpAny (model X.prog X.w) X.A (f v) (EP X pins σ Q) X.xe s
def CallR (X : Cx) (f : Value) (r : List V → Hp → VK → Prop) : Prop :=
  ∀ (pins : List (Addr × Obj)) (s : Shared) (σ : St) (H : Hp) (xs : List V) (us : List Value) (Q : VK), Inv X pins σ H s → Vals xs us → r xs H Q →
    wpAny (model X.prog X.w) X.A (call f us) (EP X pins σ Q) X.xe s
def TruR (X : Cx) (r : V → Hp → (Bool → Hp → Prop) → Prop) : Prop :=
  ∀ (pins : List (Addr × Obj)) (s : Shared) (σ : St) (H : Hp) (x : V) (v : Value) (Q : Bool → Hp → Prop), Inv X pins σ H s → RelV x v → r x H Q →
    wpAny (model X.prog X.w) X.A (truthy v) (TP X pins σ Q) X.xe s
def tOp (r : R2) (ta tb : TE) : TE := fun σ H Q => ta σ H fun x H1 => tb σ H1 fun y H2 => r x y H2 Q
def tUn (r : V → Hp → VK → Prop) (ta : TE) : TE := fun σ H Q => ta σ H fun x H1 => r x H1 Q
def rI (C : Int → Int → Prop) (g : Int → Int → V) : R2 := fun x y H Q => ∃ i j, x = .int i ∧ y = .int j ∧ C i j ∧ Q (g i j) H
def rI0 (g : Int → Int → V) : R2 := fun x y H Q => ∃ i j, x = .int i ∧ y = .int j ∧ Q (g i j) H
def rU (g : Int → V) : V → Hp → VK → Prop := fun x H Q => ∃ i, x = .int i ∧ Q (g i) H
section
variable {X : Cx} {a b c : Expr} {ta tb tc : TE} {pos : Pos}
theorem binT (ha : PE X a ta) (hb : PE X b tb) {pins : List (Addr × Obj)} {s : Shared} {σ : St} {H : Hp} {R : V → V → Hp → Prop} (I : Inv X pins σ H s)
    (h : ta σ H fun x H1 => tb σ H1 fun y H2 => R x y H2) {Q : Value → Shared → Prop} {f : Value → Value → Sem Value}
    (hf : ∀ v u s2 x y H2, Inv X pins σ H2 s2 → RelV x v → RelV y u → R x y H2 → wpAny (model X.prog X.w) X.A (f v u) Q X.xe s2) :
    wpAny (model X.prog X.w) X.A (eval a X.env) (fun v s₁ => wpAny (model X.prog X.w) X.A (eval b X.env) (fun u s₂ => wpAny (model X.prog X.w) X.A (f v u) Q X.xe s₂) X.xe s₁) X.xe s := by
  refine thn (ha pins s σ H _ I h) fun v s1 ⟨x, H1, I1, r1, q1⟩ => ?_
  refine thn (hb pins s1 σ H1 _ I1 q1) fun u s2 ⟨y, H2, I2, r2, q2⟩ => ?_
  exact hf v u s2 x y H2 I2 r1 r2 q2
theorem pe_op {op : Operator} {r : R2} (ho : OpR X (binaryOp op) r) (ha : PE X a ta) (hb : PE X b tb) : PE X (.BinOp a op b pos) (tOp r ta tb) := by
  intro pins s σ H Q I h
  exact wpAny_BinOp (binT ha hb I h fun v u s2 x y H2 I2 rx ry q => ho pins s2 σ H2 x y v u Q I2 rx ry q)
theorem pe_un {op : UnaryOp} {r : V → Hp → VK → Prop} (ho : UnR X (unaryOp op) r) (ha : PE X a ta) : PE X (.UnaryOp op a pos) (tUn r ta) := by
  intro pins s σ H Q I h
  exact UnaryOp_ (thn (ha pins s σ H _ I h) fun v s1 ⟨x, H1, I1, r1, q1⟩ => ho pins s1 σ H1 x v Q I1 r1 q1)
theorem opI {f : Value → Value → Sem Value} {C : Int → Int → Prop} {g : Int → Int → Int}
    (rule : ∀ (i j : Int) (t u : Tok) (s : Shared) (Q : Value → Shared → Prop) (E : Value → Shared → Prop), C i j → Q (.int (g i j) s.toks) { s with toks := s.toks + 1 } → wpAny (model X.prog X.w) X.A (f (.int i t) (.int j u)) Q E s) :
    OpR X f (rI C fun i j => .int (g i j)) := by
  intro pins s σ H x y v u Q I rx ry h
  obtain ⟨i, j, rfl, rfl, hc, q⟩ := h
  obtain ⟨t, rfl⟩ := rx
  obtain ⟨t', rfl⟩ := ry
  exact rule i j t t' s _ _ hc ⟨.int (g i j), H, I.tok _, ⟨_, rfl⟩, q⟩
theorem opI0 {f : Value → Value → Sem Value} {g : Int → Int → Int}
    (rule : ∀ (i j : Int) (t u : Tok) (s : Shared) (Q : Value → Shared → Prop) (E : Value → Shared → Prop), Q (.int (g i j) s.toks) { s with toks := s.toks + 1 } → wpAny (model X.prog X.w) X.A (f (.int i t) (.int j u)) Q E s) :
    OpR X f (rI0 fun i j => .int (g i j)) := by
  intro pins s σ H x y v u Q I rx ry h
  obtain ⟨i, j, rfl, rfl, q⟩ := h
  obtain ⟨t, rfl⟩ := rx
  obtain ⟨t', rfl⟩ := ry
  exact rule i j t t' s _ _ ⟨.int (g i j), H, I.tok _, ⟨_, rfl⟩, q⟩
theorem opB0 {f : Value → Value → Sem Value} {g : Int → Int → Bool}
    (rule : ∀ (i j : Int) (t u : Tok) (s : Shared) (Q : Value → Shared → Prop) (E : Value → Shared → Prop), Q (.bool (g i j)) s → wpAny (model X.prog X.w) X.A (f (.int i t) (.int j u)) Q E s) :
    OpR X f (rI0 fun i j => .bl (g i j)) := by
  intro pins s σ H x y v u Q I rx ry h
  obtain ⟨i, j, rfl, rfl, q⟩ := h
  obtain ⟨t, rfl⟩ := rx
  obtain ⟨t', rfl⟩ := ry
  exact rule i j t t' s _ _ ⟨.bl (g i j), H, I, rfl, q⟩
def CMul (i j : Int) : Prop := (-(2 ^ 64) < i ∧ i < 2 ^ 64) ∨ (-(2 ^ 64) < j ∧ j < 2 ^ 64)
theorem CMul.ok {i j : Int} (h : CMul i j) : IntMulOk i j := by
  rcases h with ⟨h1, h2⟩ | ⟨h1, h2⟩
  · exact .of_left (intBits_le_64 h1 h2)
  · exact .of_right (intBits_le_64 h1 h2)
theorem op_add : OpR X (binaryOp .Add) (rI0 fun i j => .int (i + j)) := opI0 fun _ _ _ _ _ _ _ q => add_int q
theorem op_sub : OpR X (binaryOp .Sub) (rI0 fun i j => .int (i - j)) := opI0 fun _ _ _ _ _ _ _ q => sub_int q
theorem op_mod : OpR X (binaryOp .Mod) (rI (fun _ j => 0 < j) fun i j => .int (i % j)) := opI fun i j _ _ _ _ _ hc q => by
  have h1 : (0 : Int) < j := hc
  exact mod_int' (by omega) (by rw [Int.fmod_eq_emod_of_nonneg i (by omega)]; exact q)
theorem unI {f : Value → Sem Value} {g : Int → Int}
    (rule : ∀ (i : Int) (t : Tok) (s : Shared) (Q : Value → Shared → Prop) (E : Value → Shared → Prop), Q (.int (g i) s.toks) { s with toks := s.toks + 1 } → wpAny (model X.prog X.w) X.A (f (.int i t)) Q E s) :
    UnR X f (rU fun i => .int (g i)) := by
  intro pins s σ H x v Q I rx h
  obtain ⟨i, rfl, q⟩ := h
  obtain ⟨t, rfl⟩ := rx
  exact rule i t s _ _ ⟨.int (g i), H, I.tok _, ⟨_, rfl⟩, q⟩
theorem un_neg : UnR X (unaryOp .USub) (rU fun i => .int (-i)) := unI fun _ _ _ _ _ q => neg_int q
end
section
variable {X : Cx} {a b c : Expr} {ta tb tc : TE} {pos : Pos}
theorem fin_bl {pins : List (Addr × Obj)} {σ : St} {H : Hp} {s : Shared} {Q : VK} {k k' : Bool} (I : Inv X pins σ H s) (q : Q (.bl k) H) (e : k = k') : EP X pins σ Q (.bool k') s := by
  subst e
  exact ⟨.bl k, H, I, rfl, q⟩
theorem op_lt : OpR X (compareOp .Lt) (rI0 fun i j => .bl (decide (i < j))) := opB0 fun _ _ _ _ _ _ _ q => lt_int q
theorem op_le : OpR X (compareOp .LtE) (rI0 fun i j => .bl (decide (i ≤ j))) := opB0 fun _ _ _ _ _ _ _ q => le_int q
theorem op_gt : OpR X (compareOp .Gt) (rI0 fun i j => .bl (decide (j < i))) := opB0 fun _ _ _ _ _ _ _ q => gt_int q
theorem op_ge : OpR X (compareOp .GtE) (rI0 fun i j => .bl (decide (j ≤ i))) := opB0 fun _ _ _ _ _ _ _ q => ge_int q
theorem op_in_str : OpR X (compareOp .In) (fun x y H Q => ∃ i j, x = .str i ∧ y = .str j ∧ Q (.bl (!(Builtin.Str.occurrences j i 0 j.length 1).isEmpty)) H) := by
  intro pins s σ H x y v u Q I rx ry h
  obtain ⟨i, j, rfl, rfl, q⟩ := h
  obtain ⟨t, rfl⟩ := rx
  obtain ⟨t', rfl⟩ := ry
  exact in_str (fin_bl I q rfl)
theorem op_isN : OpR X (compareOp .Is) (fun x y H Q => y = .non ∧ Q (.bl (decide (x = .non))) H) := by
  intro pins s σ H x y v u Q I rx ry h
  obtain ⟨rfl, q⟩ := h
  cases ry
  refine is_none_gen (fin_bl I q ?_)
  cases x <;> first
    | (cases rx; rfl)
    | (obtain ⟨t, rfl⟩ := rx; rfl)
theorem op_notN : OpR X (compareOp .IsNot) (fun x y H Q => y = .non ∧ Q (.bl (!decide (x = .non))) H) := by
  intro pins s σ H x y v u Q I rx ry h
  obtain ⟨rfl, q⟩ := h
  cases ry
  refine isnot_none_gen (fin_bl I q ?_)
  cases x <;> first
    | (cases rx; rfl)
    | (obtain ⟨t, rfl⟩ := rx; rfl)
theorem op_notin_str : OpR X (compareOp .NotIn) (fun x y H Q => ∃ i j, x = .str i ∧ y = .str j ∧ Q (.bl (!(!(Builtin.Str.occurrences j i 0 j.length 1).isEmpty))) H) := by
  intro pins s σ H x y v u Q I rx ry h
  obtain ⟨i, j, rfl, rfl, q⟩ := h
  obtain ⟨t, rfl⟩ := rx
  obtain ⟨t', rfl⟩ := ry
  exact notIn_str (fin_bl I q rfl)
theorem OpR.or {f : Value → Value → Sem Value} {r r' : R2} (h : OpR X f r) (h' : OpR X f r') : OpR X f (fun x y H Q => r x y H Q ∨ r' x y H Q) := by
  intro pins s σ H x y v u Q I rx ry q
  rcases q with q | q
  · exact h pins s σ H x y v u Q I rx ry q
  · exact h' pins s σ H x y v u Q I rx ry q
theorem nomark (b : Expr) {op : CmpOp} (h : op ≠ .In := by decide) (h2 : op ≠ .NotIn := by decide) : behindInMarks op b = false := by
  have e1 : (op == CmpOp.In) = false := by cases op <;> first | rfl | exact absurd rfl h
  have e2 : (op == CmpOp.NotIn) = false := by cases op <;> first | rfl | exact absurd rfl h2
  cases b <;> simp [behindInMarks, e1, e2]
theorem pe_cmpR {op : CmpOp} {r : R2} (ho : OpR X (compareOp op) r) (ha : PE X a ta) (hb : PE X b tb) (hm : behindInMarks op b = false) : PE X (.Compare a [op] [b] pos) (tOp r ta tb) := by
  intro pins s σ H Q I h
  exact wpAny_Compare1 (binT ha hb I h fun v u s2 x y H2 I2 rx ry q => ho pins s2 σ H2 x y v u Q I2 rx ry q) hm
def tTest (t : TE) : TT := fun σ H Q => t σ H fun x H' => ∃ k, x = .bl k ∧ Q k H'
theorem pt_cmpR {op : CmpOp} {r : R2} (ho : OpR X (compareOp op) r) (ha : PE X a ta) (hb : PE X b tb) (hm : behindInMarks op b = false) : PT X (.Compare a [op] [b] pos) (tTest (tOp r ta tb)) := by
  intro pins s σ H Q I h
  refine wpAny_isTrue_Compare1 (thn (ha pins s σ H _ I h) fun v s1 ⟨x, H1, I1, r1, q1⟩ => thn (hb pins s1 σ H1 _ I1 q1) fun u s2 ⟨y, H2, I2, r2, q2⟩ =>
    thn (ho pins s2 σ H2 x y v u _ I2 r1 r2 q2) fun c s3 ⟨z, H3, I3, r3, k, e, q3⟩ => ?_) hm
  subst e
  cases r3
  exact wpAny_truthy_bool ⟨H3, I3, q3⟩
def TruV (K : PySem.W.Frag) (x : V) (H : Hp) (k : Bool) : Prop :=
  match x with
  | .non => k = false
  | .bl b => k = b
  | .int i => k = (i != 0)
  | .str y => y.length ≤ sizeLine ∧ k = ((y.length : Int) != 0)
  | .byt y => y.size ≤ sizeLine ∧ k = ((y.size : Int) != 0)
  | .ref p => (∃ xs, SqL K H p xs ∧ k = !xs.isEmpty) ∨ (∃ xs, SqT K H p xs ∧ k = !xs.isEmpty) ∨ ∃ kvs, H p = some (.dK kvs) ∧ k = !kvs.isEmpty
  | _ => False
theorem isEmpty_kv {κ : Type} {kvs : List (κ × V)} {vs : List (κ × Value)} (r : KV kvs vs) : (!vs.isEmpty) = !kvs.isEmpty := by
  cases r <;> rfl
theorem isEmpty_of {xs : List V} {its : List Value} (r : Vals xs its) : (!its.toArray.isEmpty) = !xs.isEmpty := by
  cases r <;> simp
theorem line63 : (sizeLine : Nat) < 2 ^ 63 := by rw [sizeLine_eq]; decide
theorem tru_ok : TruR X (fun x H Q => ∃ k, TruV X.K x H k ∧ Q k H) := by
  intro pins s σ H x v Q I rx h
  obtain ⟨k, e, q⟩ := h
  have hl := line63
  have hs : sizeLine = 16777216 := sizeLine_eq
  cases x with
  | non =>
    cases rx
    have e' : k = false := e
    subst e'
    exact truthy_none ⟨H, I, q⟩
  | bl b =>
    cases rx
    have e' : k = b := e
    subst e'
    exact wpAny_truthy_bool ⟨H, I, q⟩
  | int i =>
    obtain ⟨t, rfl⟩ := rx
    have e' : k = (i != 0) := e
    subst e'
    exact PySem.P.truthy_int ⟨H, I, q⟩
  | str y =>
    obtain ⟨t, rfl⟩ := rx
    obtain ⟨hy, e'⟩ : y.length ≤ sizeLine ∧ k = ((y.length : Int) != 0) := e
    subst e'
    exact PySem.P.truthy_str (by omega) ⟨H, I.tok _, q⟩
  | byt y =>
    obtain ⟨t, rfl⟩ := rx
    obtain ⟨hy, e'⟩ : y.size ≤ sizeLine ∧ k = ((y.size : Int) != 0) := e
    subst e'
    exact PySem.W.truthy_bytes (by omega) ⟨H, I.tok _, q⟩
  | ref p =>
    cases rx
    have e' : (∃ xs, SqL X.K H p xs ∧ k = !xs.isEmpty) ∨ (∃ xs, SqT X.K H p xs ∧ k = !xs.isEmpty) ∨ ∃ kvs, H p = some (.dK kvs) ∧ k = !kvs.isEmpty := e
    rcases e' with ⟨xs, hx, e'⟩ | ⟨xs, hx, e'⟩ | ⟨kvs, hx, e'⟩
    · subst e'
      obtain ⟨its, r, pl, hz⟩ := I.list hx
      have hlen := r.length
      exact wpAny_truthy_list pl.isList (by simp only [List.size_toArray]; omega) ⟨H, I.tok _, by rw [isEmpty_of r]; exact q⟩
    · subst e'
      obtain ⟨its, r, pl, hz⟩ := I.tuple hx
      have hlen := r.length
      exact truthy_tuple pl (by simp only [List.size_toArray]; omega) ⟨H, I.tok _, by rw [isEmpty_of r]; exact q⟩
    · subst e'
      obtain ⟨hz, hS, vs, r, m⟩ : kvs.length ≤ sizeLine ∧ (p == sysModules) = false ∧ ∃ vs, KV kvs vs ∧ s.heap.DictOf (mixKind X.prog X.w) p vs := I.hok p _ hx
      have hlen : kvs.length = vs.length := Paired.length r
      exact wpAny_truthy_dict hS m (by omega) ⟨H, I.tok _, by rw [isEmpty_kv r]; exact q⟩
  | _ => exact (show False from e).elim
theorem pt_truth (ha : PE X a ta) (he : ∀ whole, isTrue a X.env whole = (do let v ← whole; standAt a.pos; holding [v] (truthy v))) :
    PT X a (fun σ H Q => ta σ H fun x H' => ∃ k, TruV X.K x H' k ∧ Q k H') := by
  intro pins s σ H Q I h
  exact isTrue_plain (thn (ha pins s σ H _ I h) fun v s1 ⟨x, H1, I1, r1, q1⟩ => tru_ok pins s1 σ H1 x v Q I1 r1 q1) (he _)
theorem op_add_str : OpR X (binaryOp .Add) (fun x y H Q => ∃ i j, x = .str i ∧ y = .str j ∧ i.length + j.length ≤ sizeLine ∧ Q (.str (i ++ j)) H) := by
  intro pins s σ H x y v u Q I rx ry h
  obtain ⟨i, j, rfl, rfl, hz, q⟩ := h
  obtain ⟨t, rfl⟩ := rx
  obtain ⟨t', rfl⟩ := ry
  exact add_str (fun t' tk => ⟨.str (i ++ j), H, I.tok _, ⟨_, rfl⟩, q⟩) hz
theorem vals1 {x : V} {us : List Value} (r : Vals [x] us) : ∃ u, us = [u] ∧ RelV x u := by
  cases r with
  | cons r1 r2 => cases r2; exact ⟨_, rfl, r1⟩
theorem vals2 {x y : V} {us : List Value} (r : Vals [x, y] us) : ∃ u w', us = [u, w'] ∧ RelV x u ∧ RelV y w' := by
  cases r with
  | cons r1 r2 =>
    cases r2 with
    | cons r3 r4 => cases r4; exact ⟨_, _, rfl, r1, r3⟩
theorem call_int1 : CallR X (.type "int") (fun xs H Q => (∃ i, xs = [.int i] ∧ Q (.int i) H) ∨ ∃ k, xs = [.bl k] ∧ Q (.int (if k then 1 else 0)) H) := by
  intro pins s σ H xs us Q I r h
  rcases h with ⟨i, rfl, q⟩ | ⟨k, rfl, q⟩
  · obtain ⟨u, rfl, t, rfl⟩ := vals1 r
    exact call_int_int ⟨.int i, H, I, ⟨_, rfl⟩, q⟩
  · obtain ⟨u, rfl, r1⟩ := vals1 r
    cases r1
    exact call_int_bool ⟨.int (if k then 1 else 0), H, I.tok _, ⟨_, rfl⟩, q⟩
theorem call_str_int : CallR X (.type "str") (fun xs H Q => ∃ i, xs = [.int i] ∧ i.natAbs.log2 < 1920 ∧ Q (.str (toString i)) H) := by
  intro pins s σ H xs us Q I r h
  obtain ⟨i, rfl, hz, q⟩ := h
  obtain ⟨u, rfl, t, rfl⟩ := vals1 r
  exact PySem.P.str_of_int hz ⟨.str _, H, I.tok _, ⟨_, rfl⟩, q⟩
end
end L2
namespace L2
open PySem PySem.Spec PyProof.Rows
structure ObjM (h : Heap) (x dx C : Addr) (mA : Str → Option Value) : Prop where
  obj : h.get? x = some (PySem.W.instObj C dx)
  ns : h.Ns1 dx mA
  ne : dx ≠ x
theorem lookIn_ns {h : Heap} {dx : Addr} {mA : Str → Option Value} (n : h.Ns1 dx mA) : ∃ od, h.get? dx = some od ∧ ∀ name, PySem.W.lookIn name od = some (mA name) := by
  obtain ⟨o, es, ep, ho, hd, hk, _, hm⟩ := n
  refine ⟨o, ho, fun name => ?_⟩
  have e := hm name
  unfold nsFind findBy at e
  rw [← Array.find?_toList] at e
  unfold PySem.W.lookIn
  rw [hd]
  dsimp only
  split
  · rename_i y q
    rw [q] at e
    exact congrArg some e
  · rename_i q
    rw [q] at e
    have a : es.toList.any (·.refKey) = false := by
      rw [List.any_eq_false]
      intro y hy
      obtain ⟨z, t, hkey⟩ := hk y (Array.mem_toList_iff.mp hy)
      simp [DictEntry.refKey, hkey]
    have a' : ¬ es.toList.any (·.refKey) = true := by rw [a]; exact Bool.false_ne_true
    rw [if_neg a']
    exact congrArg some e
theorem ObjM.look {h : Heap} {x dx C : Addr} {mA : Str → Option Value} (I : ObjM h x dx C mA) : ∃ od, PySem.W.InstAt h x (PySem.W.instObj C dx) C (some od) ∧ ∀ name, PySem.W.lookIn name od = some (mA name) :=
  let ⟨od, ho, hl⟩ := lookIn_ns I.ns
  ⟨od, ⟨I.obj, rfl, rfl, ho⟩, hl⟩
section
variable {prog : Program} {w : World} {A : Around} {E : Value → Shared → Prop} {s : Shared} {K : PySem.W.Frag} {x dx C f : Addr} {mA : Str → Option Value} {name : Str} {v : Value}
theorem get_map {expr : Bool} {Q : Value → Shared → Prop} (X : K.In s.heap) (I : ObjM s.heap x dx C mA) (hg : PySem.W.plainGet K C name = true) (hh : PySem.W.hasDictIn K C = true)
    (ha : PySem.W.findIn K (.ref C) name = some none) (hv : mA name = some v) (hv' : PySem.W.handedIn v = true) (h : Q v { s with toks := s.toks + 1 }) :
    wpAny (model prog w) A (getAttr (.ref x) name expr) Q E s := by
  obtain ⟨od, J, hl⟩ := I.look
  exact PySem.W.get_value X J (PySem.W.plainGet_of hg).1 (PySem.W.findObj_own hh ha rfl (by rw [hl, hv])) hv' h
theorem get_meth {pl : Sem Bool} {Q : Value × List Value → Shared → Prop} (X : K.In s.heap) (I : ObjM s.heap x dx C mA) (hg : PySem.W.plainGet K C name = true)
    (hf : PySem.W.findIn K (.ref C) name = some (some (.ref f))) (ht : PySem.W.isFn K (.ref f) = true) (hv : mA name = none) (h : Q (.ref f, [.ref x]) s) :
    wpAny (model prog w) A (getMethod (.ref x) name pl) Q E s := by
  obtain ⟨od, J, hl⟩ := I.look
  exact PySem.W.method_fn X J (PySem.W.plainGet_of hg).1 (PySem.W.plainGet_of hg).2 hf (beq_iff_eq.mp ht) (by show (PySem.W.lookIn name od).map (·.isSome) = some false; rw [hl, hv]; rfl) h
theorem set_map {ns : List Str} {Q : Unit → Shared → Prop} (X : K.In s.heap) (I : ObjM s.heap x dx C mA)
    (hs : PySem.W.findIn K (.ref C) "__setattr__" = some (some (.builtin "object.__setattr__"))) (hp : PySem.W.plainOver K C = true) (ht : PySem.W.takerIn K C name = some none) (hh : PySem.W.hasDictIn K C = true)
    (hw : PySem.Within mA ns) (hsz : ns.length ≤ sizeLine)
    (h : ∀ h', ObjM h' x dx C (fun y => if y = name then some v else mA y) → Heap.SameBut dx s.heap h' → Q () { s with heap := h', toks := s.toks + 2 }) :
    wpAny (model prog w) A (setAttr (.ref x) name v) Q E s := by
  obtain ⟨od, J, hl⟩ := I.look
  refine PySem.W.set_plain X J hs (PySem.W.osa_open (s := { s with toks := s.toks + 1 }) (r := none) X J hp ht fun b => ?_)
  obtain ⟨cd, hc, hd'⟩ := PySem.W.any_some hh
  have hx : s.heap.get? x = some ⟨.ref C, some dx, .plain, #[]⟩ := I.obj
  refine wpAny_bind (wpAny_pure (wpAny_bind (wpAny_bind (wpAny_loadPart hx (wpAny_bind (PySem.W.Looks.here (s := { s with toks := s.toks + 1 }) (PySem.W.looks_clsIn X hc) ?_))))))
  rw [hd']
  refine wpAny_pure (a := some dx) (wpAny_bind (wpAny_pure (wpAny_bind ?_)))
  refine wpAny_nsSet1 (s := { s with toks := s.toks + 1 }) I.ns fun h' hn2 hs2 => ?_
  obtain ⟨oD, esD, epD, hoD, hdD, hcD⟩ := hn2.count (PySem.Within.cons name v hw)
  refine wpAny_bind (wpAny_lookBehind hoD (by rw [hdD]; exact pastItsLine_dict (Nat.le_trans hcD (by rw [List.length_cons]; omega))) ?_)
  exact wpAny_pure (h _ ⟨(hs2.2 _ (Ne.symm I.ne)).trans I.obj, hn2, I.ne⟩ hs2)
theorem make_map {R : Result → Shared → Prop} {vs : List Value} {kw : List (Str × Value)} (X : K.In s.heap) (hm : PySem.W.makesIn K C = true)
    (hi : PySem.W.findIn K (.ref C) "__init__" = some (some (.ref f))) (hf : PySem.W.typeIn K (.ref f) = some (.type "function"))
    (h : codeAny (model prog w) (A.under (.builtin "type.__call__" ⟨.ref C :: vs, kw⟩)) (.call (.ref f) ⟨.ref (s.heap.objs.size + 1) :: vs, kw⟩) (PySem.W.InitBack (s.heap.objs.size + 1) R)
      { s with heap := (s.heap.push PySem.W.emptyDict).push (PySem.W.instObj C s.heap.objs.size) }) :
    codeAny (model prog w) A (.call (.ref C) ⟨vs, kw⟩) R s := by
  obtain ⟨hh, g, d, t, os⟩ := s
  exact PySem.W.make_core (PySem.W.makes_of X hm) (PySem.W.looks_findIn X hi) (fun self => PySem.W.bind_fn X self hf) (.inl rfl) h
end
def putF (f : Str) (v : V) : List (Str × V) → List (Str × V)
  | [] => [(f, v)]
  | (g, x) :: r => if g = f then (g, v) :: r else (g, x) :: putF f v r
theorem lookup_putF (f g : Str) (v : V) : ∀ fs : List (Str × V), (putF f v fs).lookup g = if g = f then some v else fs.lookup g
  | [] => by
    show List.lookup g [(f, v)] = _
    by_cases h : g = f
    · have hb : (g == f) = true := beq_iff_eq.mpr h
      simp only [List.lookup, hb, if_pos h]
    · have hb : (g == f) = false := beq_eq_false_iff_ne.mpr h
      simp only [List.lookup, hb, if_neg h]
  | (k, x) :: r => by
    have ih := lookup_putF f g v r
    rw [show putF f v ((k, x) :: r) = (if k = f then (k, v) :: r else (k, x) :: putF f v r) from rfl]
    by_cases hk : k = f
    · rw [if_pos hk]
      by_cases h : g = k
      · have hb : (g == k) = true := beq_iff_eq.mpr h
        simp only [List.lookup, hb, if_pos (h.trans hk)]
      · have hb : (g == k) = false := beq_eq_false_iff_ne.mpr h
        simp only [List.lookup, hb, if_neg (fun e : g = f => h (e.trans hk.symm))]
    · rw [if_neg hk]
      by_cases h : g = k
      · have hb : (g == k) = true := beq_iff_eq.mpr h
        simp only [List.lookup, hb, if_neg (fun e : g = f => hk (h.symm.trans e))]
      · have hb : (g == k) = false := beq_eq_false_iff_ne.mpr h
        simp only [List.lookup, hb]
        exact ih
theorem keys_putF (f : Str) (v : V) : ∀ fs : List (Str × V), f ∈ (putF f v fs).map (·.1) ∧ ∀ g, g ∈ fs.map (·.1) → g ∈ (putF f v fs).map (·.1)
  | [] => ⟨by simp [putF], fun g h => by simp at h⟩
  | (k, x) :: r => by
    obtain ⟨i1, i2⟩ := keys_putF f v r
    rw [show putF f v ((k, x) :: r) = (if k = f then (k, v) :: r else (k, x) :: putF f v r) from rfl]
    by_cases hk : k = f
    · rw [if_pos hk]
      subst hk
      exact ⟨by simp, fun g h => by simpa using h⟩
    · rw [if_neg hk]
      refine ⟨?_, fun g h => ?_⟩
      · rw [List.map_cons]
        exact List.mem_cons_of_mem _ i1
      · rw [List.map_cons] at h ⊢
        rcases List.mem_cons.mp h with e | e
        · exact List.mem_cons.mpr (.inl e)
        · exact List.mem_cons_of_mem _ (i2 g e)
theorem length_putF (f : Str) (v : V) : ∀ fs : List (Str × V), (putF f v fs).length ≤ fs.length + 1
  | [] => by simp [putF]
  | (k, x) :: r => by
    have ih := length_putF f v r
    rw [show putF f v ((k, x) :: r) = (if k = f then (k, v) :: r else (k, x) :: putF f v r) from rfl]
    by_cases hk : k = f
    · rw [if_pos hk, List.length_cons, List.length_cons]; omega
    · rw [if_neg hk, List.length_cons, List.length_cons]; omega
theorem RelO.some_of {v : V} {o : Option Value} (r : RelO (some v) o) : ∃ u, o = some u ∧ RelV v u := by
  cases o with
  | none => exact (show False from r).elim
  | some u => exact ⟨u, rfl, r⟩
theorem RelO.none_of {o : Option Value} (r : RelO none o) : o = none := by
  cases o with
  | none => rfl
  | some u => exact (show False from r).elim
theorem handed_of {v : V} {u : Value} (r : RelV v u) : PySem.W.handedIn u = true := by
  cases v with
  | non => cases (show u = Value.none from r); rfl
  | bl b => cases (show u = Value.bool b from r); rfl
  | int i => obtain ⟨t, e⟩ := (show ∃ t, u = Value.int i t from r); cases e; rfl
  | str x => obtain ⟨t, e⟩ := (show ∃ t, u = Value.str x t from r); cases e; rfl
  | byt b => obtain ⟨t, e⟩ := (show ∃ t, u = Value.bytes b t from r); cases e; rfl
  | flt b => obtain ⟨t, e⟩ := (show ∃ t, u = Value.float b t from r); cases e; rfl
  | ref a => cases (show u = Value.ref a from r); rfl
  | ty n => cases (show u = Value.type n from r); rfl
section
variable {P : Program} {w : World} {H H' : Hp} {h h' : Heap} {a C dx : Addr} {fs fs' : List (Str × V)}
theorem ins_get (hok : HOk P w H h) (e : H a = some (.ins C dx fs)) : ∃ mA, ObjM h a dx C mA ∧ (∀ f, RelO (fs.lookup f) (mA f)) ∧ PySem.Within mA (fs.map (·.1)) ∧ fs.length ≤ 1000 ∧ H dx = some (.own a) := by
  obtain ⟨d, z, ne, ob, mA, n, r, q⟩ := (show ObjOk P w H h a (.ins C dx fs) from hok a _ e)
  exact ⟨mA, ⟨ob, n, ne⟩, r, q, z, d⟩
end
structure Cls (K : PySem.W.Frag) (C : Addr) : Prop where
  pg : PySem.W.plainGet K C Str.empty = true
  hd : PySem.W.hasDictIn K C = true
  po : PySem.W.plainOver K C = true
  sa : PySem.W.findIn K (.ref C) "__setattr__" = some (some (.builtin "object.__setattr__"))
theorem Cls.get {K : PySem.W.Frag} {C : Addr} (c : Cls K C) (f : Str) : PySem.W.plainGet K C f = true := c.pg
def NoAttr (K : PySem.W.Frag) (C : Addr) (f : Str) : Prop := PySem.W.findIn K (.ref C) f = some none
theorem NoAttr.taker {K : PySem.W.Frag} {C : Addr} {f : Str} (n : NoAttr K C f) : PySem.W.takerIn K C f = some none := by
  unfold PySem.W.takerIn
  rw [show PySem.W.findIn K (.ref C) f = some none from n]
  rfl
structure Meth (K : PySem.W.Frag) (C : Addr) (m : Str) (f : Addr) : Prop where
  at_ : PySem.W.findIn K (.ref C) m = some (some (.ref f))
  fn : PySem.W.isFn K (.ref f) = true
  kp : PySem.W.keepIn K (.ref f) = true
section
variable {X : Cx} {pins : List (Addr × Obj)} {σ : St} {H : Hp} {s : Shared} {a C dx : Addr} {fs : List (Str × V)} {f : Str} {v : V} {A : Around} {E : Value → Shared → Prop}
theorem getattr_ok {b : Bool} {Q : Value → Shared → Prop} (I : Inv X pins σ H s) (e : H a = some (.ins C dx fs)) (c : Cls X.K C) (n : NoAttr X.K C f) (l : fs.lookup f = some v)
    (h : ∀ u s', Inv X pins σ H s' → RelV v u → Q u s') : wpAny (model X.prog X.w) A (getAttr (.ref a) f b) Q E s := by
  obtain ⟨mA, O, r, _, _, _⟩ := ins_get I.hok e
  obtain ⟨u, hu, ru⟩ := RelO.some_of (v := v) (o := mA f) (by rw [← l]; exact r f)
  exact get_map I.kIn O (c.get f) c.hd n hu (handed_of ru) (h u _ (I.tok _) ru)
theorem getmeth_ok {m : Str} {g : Addr} {pl : Sem Bool} {Q : Value × List Value → Shared → Prop} (I : Inv X pins σ H s) (e : H a = some (.ins C dx fs)) (c : Cls X.K C) (k : Meth X.K C m g) (l : fs.lookup m = none)
    (h : Q (.ref g, [.ref a]) s) : wpAny (model X.prog X.w) A (getMethod (.ref a) m pl) Q E s := by
  obtain ⟨mA, O, r, _, _, _⟩ := ins_get I.hok e
  have hn : mA m = none := RelO.none_of (by rw [← l]; exact r m)
  exact get_meth I.kIn O (c.get m) k.at_ k.fn hn h
theorem setattr_ok {y : V} {u : Value} {Q : Unit → Shared → Prop} (I : Inv X pins σ H s) (e : H a = some (.ins C dx fs)) (c : Cls X.K C) (n : NoAttr X.K C f) (hl : fs.length < 1000) (ry : RelV y u)
    (h : ∀ s', Inv X pins σ (upd H a (.ins C dx (putF f y fs))) s' → Q () s') : wpAny (model X.prog X.w) A (setAttr (.ref a) f u) Q E s := by
  obtain ⟨mA, O, r, wi, _, ho⟩ := ins_get I.hok e
  have hz : (fs.map (·.1)).length ≤ sizeLine := by rw [List.length_map, sizeLine_eq]; omega
  refine set_map I.kIn O c.sa c.po n.taker c.hd wi hz fun h' O' sb => h _ ?_
  have hd : ∃ o, h'.get? dx = some o := let ⟨o, _, _, e', _⟩ := O'.ns; ⟨o, e'⟩
  refine I.write (x := a) (e := dx) (by rw [e]; exact True.intro) (.inr ho) (fun b q hb z => (sb.2 b hb).trans z) hd ?_
  refine ⟨by rw [upd_ne O.ne]; exact ho, ?_, O.ne, O'.obj, _, O'.ns, fun g => ?_, fun g hg => ?_⟩
  · have := length_putF f y fs; omega
  · show RelO ((putF f y fs).lookup g) (if g = f then some u else mA g)
    rw [lookup_putF]
    by_cases q : g = f
    · rw [if_pos q, if_pos q]; exact ry
    · rw [if_neg q, if_neg q]; exact r g
  · by_cases q : g = f
    · rw [q]; exact (keys_putF f y fs).1
    · refine (keys_putF f y fs).2 g (wi g fun z => hg ?_)
      show (if g = f then some u else mA g) = none
      rw [if_neg q]; exact z
theorem Inv.made (I : Inv X pins σ H s) : Inv X pins σ (upd (upd H s.heap.objs.size (.own (s.heap.objs.size + 1))) (s.heap.objs.size + 1) (.ins C s.heap.objs.size []))
    { s with heap := (s.heap.push PySem.W.emptyDict).push (PySem.W.instObj C s.heap.objs.size) } := by
  have e1 : (s.heap.push PySem.W.emptyDict).get? s.heap.objs.size = some PySem.W.emptyDict := Heap.get?_push_size s.heap rfl
  have e2 : ((s.heap.push PySem.W.emptyDict).push (PySem.W.instObj C s.heap.objs.size)).get? (s.heap.objs.size + 1) = some (PySem.W.instObj C s.heap.objs.size) := by
    have := Heap.get?_push_size (s.heap.push PySem.W.emptyDict) (o := PySem.W.instObj C s.heap.objs.size) rfl
    rwa [Heap.size_push] at this
  have e3 : (s.heap.push PySem.W.emptyDict).Ns s.heap.objs.size (fun _ => none) := ⟨PySem.W.emptyDict, #[], _, e1, rfl, (fun e he => absurd he (by simp)), fun _ => rfl⟩
  have I1 := I.laid (a := s.heap.objs.size) (o := .own (s.heap.objs.size + 1)) (h' := s.heap.push PySem.W.emptyDict) (t' := s.toks) (fun b u q => Heap.get?_push_of_some _ q) (Nat.le_refl _) ⟨_, e1⟩
  refine I1.laid (a := s.heap.objs.size + 1) (o := .ins C s.heap.objs.size []) (t' := s.toks) (fun b u q => Heap.get?_push_of_some _ q) (Nat.le_of_eq (Heap.size_push _ _)) ?_
  have ne : s.heap.objs.size ≠ s.heap.objs.size + 1 := Nat.ne_of_lt (Nat.lt_succ_self _)
  refine ⟨by rw [upd_ne ne, upd_same], Nat.zero_le _, ne, e2, fun _ => none, (Heap.Ns1.of_empty e3).at fun o q => Heap.get?_push_of_some _ q, fun _ => True.intro, fun y hy => absurd rfl hy⟩
theorem attr_of {prog : Program} {w : World} {env : Env} {e : Expr} {f : Str} {pos : Pos} {s : Shared} {Q : Value → Shared → Prop} (hb : attributeBase e f env (eval e env) = eval e env)
    (h : wpAny (model prog w) A (eval e env) (fun o s₁ => wpAny (model prog w) A (getAttr o f true) Q E s₁) E s) : wpAny (model prog w) A (eval (.Attribute e f pos) env) Q E s :=
  Attribute_any_ h (by rw [arm_eval_Attribute, hb])
end
def tFld (K : PySem.W.Frag) (ta : TE) (f : Str) : TE := fun σ H Q => ta σ H fun x H1 => ∃ a C dx fs v, x = .ref a ∧ H1 a = some (.ins C dx fs) ∧ Cls K C ∧ NoAttr K C f ∧ fs.lookup f = some v ∧ Q v H1
def sFld (K : PySem.W.Frag) (ta tv : TE) (f : Str) : TS := fun D σ H => tv σ H fun y H1 => ta σ H1 fun x H2 => ∃ a C dx fs, x = .ref a ∧ H2 a = some (.ins C dx fs) ∧ Cls K C ∧ NoAttr K C f ∧ fs.length < 1000 ∧
  D.nx σ (upd H2 a (.ins C dx (putF f y fs)))
section
variable {X : Cx} {o e value : Expr} {f : Str} {pos pos' tpos : Pos} {ta tv : TE}
theorem pe_fld (he : PE X e ta) (hb : attributeBase e f X.env (eval e X.env) = eval e X.env) : PE X (.Attribute e f pos) (tFld X.K ta f) := by
  intro pins s σ H Q I h
  refine attr_of hb (thn (he pins s σ H _ I h) fun u s1 ⟨x, H1, I1, rx, a, C, dx, fs, v, ex, ea, c, n, l, q⟩ => ?_)
  subst ex
  obtain rfl : u = Value.ref a := rx
  exact getattr_ok I1 ea c n l fun u' s2 I2 ru => ⟨v, H1, I2, ru, q⟩
theorem ps_fld (ha : PE X o ta) (hv : PE X value tv) (hs : swapsWith value (some (.Attribute o f pos')) pos.line X.env = pure false) : PS X (.Assign [.Attribute o f pos'] value pos) (sFld X.K ta tv f) := by
  intro pins s σ H D I h
  refine plainObj_wpAny_Assign_Attribute (thn (hv pins s σ H _ I h) fun u s1 ⟨y, H1, I1, ry, q⟩ => thn (ha pins s1 σ H1 _ I1 q) fun ov s2 ⟨x, H2, I2, rx, a, C, dx, fs, ex, ea, c, n, l, q2⟩ => ?_) hs
  subst ex
  obtain rfl : ov = Value.ref a := rx
  exact setattr_ok I2 ea c n l ry fun s3 I3 => ⟨σ, _, I3, q2⟩
end
section
variable {X : Cx} {pins : List (Addr × Obj)} {σ : St} {H : Hp} {s : Shared} {A : Around} {E : Value → Shared → Prop} {Q : Value → Shared → Prop} {c : Value} {b : Bool}
inductive TyOf (K : PySem.W.Frag) (H : Hp) : V → Value → Prop where
  | non : TyOf K H .non (.type "NoneType")
  | bl (x : Bool) : TyOf K H (.bl x) (.type "bool")
  | int (i : Int) : TyOf K H (.int i) (.type "int")
  | str (x : Str) : TyOf K H (.str x) (.type "str")
  | flt (x : UInt64) : TyOf K H (.flt x) (.type "float")
  | lst {a : Addr} {xs : List V} (e : H a = some (.lst xs)) : TyOf K H (.ref a) (.type "list")
  | frz {a : Addr} {o : Obj} {xs : List V} (e : H a = some (.frz o (.lst xs))) : TyOf K H (.ref a) (.type "list")
  | tup {a : Addr} {xs : List V} (e : H a = some (.tup xs)) : TyOf K H (.ref a) (.type "tuple")
  | dK {a : Addr} {kvs : List (Key × V)} (e : H a = some (.dK kvs)) : TyOf K H (.ref a) (.type "dict")
  | dT {a : Addr} {kvs : List (List Key × V)} (e : H a = some (.dT kvs)) : TyOf K H (.ref a) (.type "dict")
  | ins {a C dx : Addr} {fs : List (Str × V)} (e : H a = some (.ins C dx fs)) (cl : Cls K C) (ha : PySem.W.findIn K (.ref C) "__class__" = some (some (.builtin "object.__class__")))
      (hn : PySem.W.specialIn K (.builtin "object.__class__") "__get__" = some (some (.builtin "getset_descriptor.__get__"))) (htk : PySem.W.takesIn K (.builtin "object.__class__") = some true)
      (hm : PySem.W.mroIn K C (.type "object") = some true) : TyOf K H (.ref a) (.ref C)
theorem isinst_ok {x : V} {u t : Value} (I : Inv X pins σ H s) (rx : RelV x u) (ty : TyOf X.K H x t) (e : PySem.W.kitOne X.K t c = some b) (h : ∀ tk, Q (.bool b) { s with toks := tk }) :
    wpAny (model X.prog X.w) A (call (.builtin "isinstance") [u, c]) Q E s := by
  cases ty with
  | non => cases (show u = Value.none from rx); exact PySem.W.kia_one PySem.W.kitx_none I.kIn True.intro e (fun z => nomatch z) h
  | bl y => cases (show u = Value.bool y from rx); exact PySem.W.kia_one PySem.W.kitx_bool I.kIn True.intro e (fun z => nomatch z) h
  | int i => obtain ⟨t, q⟩ := (show ∃ t, u = Value.int i t from rx); cases q; exact PySem.W.kia_one PySem.W.kitx_int I.kIn True.intro e (fun z => nomatch z) h
  | str y => obtain ⟨t, q⟩ := (show ∃ t, u = Value.str y t from rx); cases q; exact PySem.W.kia_one PySem.W.kitx_str I.kIn True.intro e (fun z => nomatch z) h
  | flt y => obtain ⟨t, q⟩ := (show ∃ t, u = Value.float y t from rx); cases q; exact PySem.W.kia_one PySem.W.kitx_float I.kIn True.intro e (fun z => nomatch z) h
  | @lst a xs ea =>
    cases (show u = Value.ref a from rx)
    obtain ⟨_, _, n, _, h1⟩ := (show ObjOk X.prog X.w H s.heap a (.lst xs) from I.hok a _ ea)
    exact PySem.W.kia_one PySem.W.kitx_list I.kIn ⟨_, h1, rfl⟩ e (fun z => nomatch z) h
  | @frz a ob xs ea =>
    cases (show u = Value.ref a from rx)
    obtain ⟨_, _, _, n, _, h1⟩ := (show ObjOk X.prog X.w H s.heap a (.frz ob (.lst xs)) from I.hok a _ ea)
    exact PySem.W.kia_one PySem.W.kitx_list I.kIn ⟨_, h1, rfl⟩ e (fun z => nomatch z) h
  | @tup a xs ea =>
    cases (show u = Value.ref a from rx)
    obtain ⟨_, _, _, p⟩ := (show ObjOk X.prog X.w H s.heap a (.tup xs) from I.hok a _ ea)
    obtain ⟨o, h1, h2, _⟩ := p
    exact PySem.W.kia_one PySem.W.kitx_tuple I.kIn ⟨o, h1, h2⟩ e (fun z => nomatch z) h
  | @dK a kvs ea =>
    cases (show u = Value.ref a from rx)
    obtain ⟨_, _, vs, _, p⟩ := (show ObjOk X.prog X.w H s.heap a (.dK kvs) from I.hok a _ ea)
    obtain ⟨o, es, ep, h1, h2, _⟩ := p
    exact PySem.W.kia_one PySem.W.kitx_dict I.kIn ⟨o, h1, h2.1⟩ e (fun z => nomatch z) h
  | @dT a kvs ea =>
    cases (show u = Value.ref a from rx)
    obtain ⟨_, _, xs, _, o, es, ep, h1, h2, _⟩ := (show ObjOk X.prog X.w H s.heap a (.dT kvs) from I.hok a _ ea)
    exact PySem.W.kia_one PySem.W.kitx_dict I.kIn ⟨o, h1, h2.1⟩ e (fun z => nomatch z) h
  | @ins a C dx fs ea cl ha hn htk hm =>
    cases (show u = Value.ref a from rx)
    obtain ⟨mA, O, _⟩ := ins_get I.hok ea
    obtain ⟨od, J, _⟩ := O.look
    exact PySem.W.kia_one (PySem.W.kitx_own (cl.get _) cl.hd ha hn htk hm) I.kIn J e (fun z => nomatch z) h
end
end L2
namespace L2
open PySem PySem.Spec PyProof.Rows
structure Room (k : Nat) (A : Around) : Prop where
  hd : A.handled = none
  dp : A.depth + 3 * k + 5 < recursionLimit
  un : A.units + 16 * k + 200 < cLine
theorem Room.mono {j k : Nat} {A : Around} (r : Room k A) (h : j ≤ k) : Room j A := ⟨r.hd, by have := r.dp; omega, by have := r.un; omega⟩
theorem Room.deeper {k : Nat} {A : Around} (r : Room (k + 1) A) (env : Env) : Room k (A.deeper env) :=
  ⟨r.hd, by have := r.dp; show A.depth + 1 + 3 * k + 5 < _; omega, by have := r.un; show A.units + 3 + 16 * k + 200 < _; omega⟩
theorem make_depth {A : Around} {C : Addr} {us : List Value} {kw : List (Str × Value)} : (A.under (.builtin "type.__call__" ⟨.ref C :: us, kw⟩)).depth = A.depth + 1 := by
  first | rfl | simp [Around.under, Code.weight, Code.isCreation, Code.isGuard, Code.isCaller, Code.frames, Code.isFrame, guardIds]
theorem make_units {A : Around} {C : Addr} {us : List Value} {kw : List (Str × Value)} : (A.under (.builtin "type.__call__" ⟨.ref C :: us, kw⟩)).units = A.units + 1 := by
  first | rfl | simp [Around.under, Code.cUnits, Code.frames, Code.isFrame]
theorem Room.make {k : Nat} {A : Around} (r : Room (k + 1) A) (C : Addr) (us : List Value) (kw : List (Str × Value)) : Room k (A.under (.builtin "type.__call__" ⟨.ref C :: us, kw⟩)) :=
  ⟨r.hd, by have := r.dp; rw [make_depth]; omega, by have := r.un; rw [make_units]; omega⟩
theorem Room.depth {k : Nat} {A : Around} (r : Room k A) : A.depth < recursionLimit := by have := r.dp; omega
def tNil : TA := fun _ H Q => Q [] H
def tCons (ta : TE) (tr : TA) : TA := fun σ H Q => ta σ H fun x H1 => tr σ H1 fun xs H2 => Q (x :: xs) H2
section
variable {X : Cx} {e : Expr} {es : List Expr} {te : TE} {t : TA} {pos : Pos}
theorem pa_nil : PA X [] tNil := fun _ _ _ _ H Q I h => Calls.spliced_nil ⟨[], H, I, .nil, h⟩
theorem pa_cons (ha : PE X e te) (hr : PA X es t) (hs : starEach (e :: es) X.env = (false, eval e X.env) :: starEach es X.env := by rfl) : PA X (e :: es) (tCons te t) := by
  intro pos pins s σ H Q I h
  rw [hs]
  show wpAny _ _ (spliced ((false, eval e X.env) :: backTo pos (starEach es X.env))) _ _ s
  refine Calls.spliced_cons (thn (ha pins s σ H _ I h) fun u s1 ⟨x, H1, I1, r1, q1⟩ => ?_)
  exact thn (hr pos pins s1 σ H1 _ I1 q1) fun us s2 ⟨xs, H2, I2, r2, q2⟩ => ⟨x :: xs, H2, I2, .cons r1 r2, q2⟩
def tTup (t : TA) : TE := fun σ H Q => t σ H fun xs H1 => xs.length ≤ sizeLine ∧ ∀ p, H1 p = none → Q (.ref p) (upd H1 p (.tup xs))
def tLst (t : TA) : TE := fun σ H Q => t σ H fun xs H1 => xs.length ≤ sizeLine ∧ ∀ p, H1 p = none → Q (.ref p) (upd H1 p (.lst xs))
theorem pe_tup {x1} (h : PA X es t) : PE X (.Tuple es x1 pos) (tTup t) := by
  intro pins s σ H Q I hq
  refine wpAny_Tuple_spliced (thn (h pos pins s σ H _ I hq) fun us s1 ⟨xs, H1, I1, r, z, q⟩ => ⟨by rw [← r.length]; exact z, ?_⟩)
  have hf : H1 s1.heap.objs.size = none := I1.hok.fresh (Nat.le_refl _)
  refine ⟨.ref s1.heap.objs.size, upd H1 s1.heap.objs.size (.tup xs), I1.laid (t' := s1.toks) (fun b u e => Heap.get?_push_of_some _ e) (Nat.le_refl _) ?_, rfl, q _ hf⟩
  exact ⟨z, us, r, ⟨_, Heap.get?_push_size _ rfl, rfl, _, rfl⟩⟩
theorem pe_lst (h : PA X es t) : PE X (.List es pos) (tLst t) := by
  intro pins s σ H Q I hq
  refine wpAny_List_spliced (thn (h pos pins s σ H _ I hq) fun us s1 ⟨xs, H1, I1, r, z, q⟩ => ⟨by rw [← r.length]; exact z, ?_⟩)
  have hf : H1 s1.heap.objs.size = none := I1.hok.fresh (Nat.le_refl _)
  refine ⟨.ref s1.heap.objs.size, upd H1 s1.heap.objs.size (.lst xs), I1.laid (t' := s1.toks) (fun b u e => Heap.get?_push_of_some _ e) (Nat.le_refl _) ?_, rfl, q _ hf⟩
  exact ⟨z, us, 0, r, Heap.get?_push_size _ rfl⟩
end
abbrev Sp := List V → Hp → VK → XK → Prop
abbrev CXT := List Env → Hp → Shared → XK → Value → Shared → Prop
structure Env0 (P : Program) (w : World) (K : PySem.W.Frag) (mg : Str → Option Value) (base : Heap) (A : Around) (outer : List Env) (s : Shared) (H : Hp) : Prop where
  frames : A.frames = some outer
  mod : Mod K mg base
  bs : ∀ b o, base.get? b = some o → s.heap.get? b = some o ∧ H b = none
  bsz : Bsz K mg base s.heap H
  funs : s.heap.FunFrames base outer
  frf : ∀ b ∈ frs outer, H b = none
  hok : HOk P w H s.heap
  bare : AllBare s.gens
def CE (outer : List Env) (P : Program) (w : World) (H : Hp) (s : Shared) (Q : VK) (u : Value) (s' : Shared) : Prop :=
  ∃ v H', s'.os = s.os ∧ AllBare s'.gens ∧ Un (frs outer) [] H H' s.heap s'.heap ∧ HOk P w H' s'.heap ∧ RelV v u ∧ Q v H'
def CR (CX : CXT) (outer : List Env) (P : Program) (w : World) (H : Hp) (s : Shared) (Q : VK) (E : XK) (r : Result) (s' : Shared) : Prop :=
  match r with
  | .ok (.ret u) => CE outer P w H s Q u s'
  | .ok _ => False
  | .error e => CX outer H s E e s'
structure FnOk (P : Program) (w : World) (K : PySem.W.Frag) (mg : Str → Option Value) (base : Heap) (CX : CXT) (k : Nat) (f : Addr) (fd : FuncData) (ps : List Str) (sp : Sp) : Prop where
  len : ∀ vs H Q E, sp vs H Q E → vs.length = ps.length
  run : ∀ (A : Around) (outer : List Env) (s : Shared) (H : Hp) (args : Args) (us : List Value) (vs : List V) (Q : VK) (E : XK), Room k A → Env0 P w K mg base A outer s H → BindsTo s fd args (ps.zip us) → Vals vs us → sp vs H Q E →
    codeAny (model P w) A (.call (.ref f) args) (CR CX outer P w H s Q E) s
theorem FnOk.mono {P : Program} {w : World} {K : PySem.W.Frag} {mg : Str → Option Value} {base : Heap} {CX : CXT} {j k : Nat} {f : Addr} {fd : FuncData} {ps : List Str} {sp : Sp} (F : FnOk P w K mg base CX j f fd ps sp) (h : j ≤ k) :
    FnOk P w K mg base CX k f fd ps sp := ⟨F.len, fun A outer s H args us vs Q E hr => F.run A outer s H args us vs Q E (hr.mono h)⟩
theorem FnOk.imp {P : Program} {w : World} {K : PySem.W.Frag} {mg : Str → Option Value} {base : Heap} {CX : CXT} {k : Nat} {f : Addr} {fd : FuncData} {ps : List Str} {sp sp' : Sp} (F : FnOk P w K mg base CX k f fd ps sp)
    (h : ∀ vs H Q E, sp' vs H Q E → sp vs H Q E) : FnOk P w K mg base CX k f fd ps sp' :=
  ⟨fun vs H Q E q => F.len vs H Q E (h _ _ _ _ q), fun A outer s H args us vs Q E hr he hb hv hs => F.run A outer s H args us vs Q E hr he hb hv (h _ _ _ _ hs)⟩
theorem Env0.make {P : Program} {w : World} {K : PySem.W.Frag} {mg : Str → Option Value} {base : Heap} {A : Around} {outer : List Env} {s : Shared} {H : Hp} (e : Env0 P w K mg base A outer s H) (C : Addr) (us : List Value) (kw : List (Str × Value)) :
    Env0 P w K mg base (A.under (.builtin "type.__call__" ⟨.ref C :: us, kw⟩)) outer s H := ⟨by first | exact e.frames | (simpa [Around.under, Code.envs, Code.isFrame, pushEnvs] using e.frames), e.mod, e.bs, e.bsz, e.funs, e.frf, e.hok, e.bare⟩
section
variable {X : Cx} {pins : List (Addr × Obj)} {σ : St} {H : Hp} {s s' : Shared}
theorem Inv.tabsH (I : Inv X pins σ H s) : TabsK X.K X.mg X.base H := ⟨I.ok.bsz.2.bm, fun x c P hx ht => ⟨(I.ok.bsz.2.tab x c P hx ht).1, I.base.tbls _ _ (I.ok.bsz.2.tab x c P hx ht).2⟩⟩
theorem Inv.env0 (I : Inv X pins σ H s) : Env0 X.prog X.w X.K X.mg X.base X.A X.stack s H :=
  ⟨I.ok.frames, I.ok.mod, I.bs, ⟨Nat.le_trans I.ok.bsz.1 I.sz, I.tabsH⟩, I.stack, I.stkFree, I.hok, I.bare⟩
theorem Inv.after {Q : VK} {u : Value} (I : Inv X pins σ H s) (h : CE X.stack X.prog X.w H s Q u s') : EP X pins σ Q u s' := by
  obtain ⟨v, H', os, bare, un, hok, r, q⟩ := h
  obtain ⟨hh, g, d, t, os'⟩ := s'
  obtain rfl : os' = s.os := os
  exact ⟨v, H', I.call (h' := hh) (g' := g) (d' := d) (t' := t) (ch := []) un hok bare (fun b z => absurd z (by simp)), r, q⟩
end
def tCall (sp : Sp) (dvs : List V) (E : XK) (t : TA) : TE := fun σ H Q => t σ H fun vs H1 => sp (vs ++ dvs) H1 Q E
def tMake (C : Addr) (sp : Sp) (dvs : List V) (E : XK) (t : TA) : TE := fun σ H Q => t σ H fun vs H1 => ∀ x dx, H1 x = none → H1 dx = none → dx ≠ x →
  sp (.ref x :: (vs ++ dvs)) (upd (upd H1 dx (.own x)) x (.ins C dx [])) (fun v H2 => v = .non ∧ Q (.ref x) H2) E
def Binds (K : PySem.W.Frag) (fd : FuncData) (ps : List Str) (ds : List Value) : Prop :=
  ∀ (s : Shared) (us : List Value), K.In s.heap → (us ++ ds).length = ps.length → BindsTo s fd ⟨us, []⟩ (ps.zip (us ++ ds))
theorem Binds.all {K : PySem.W.Frag} {fd : FuncData} {ps : List Str} (h : ∀ us : List Value, us.length = ps.length → bindArgs fd ⟨us, []⟩ = pure (ps.zip us)) : Binds K fd ps [] := fun s us _ hl => by
  rw [List.append_nil] at hl ⊢
  exact .of_eq (h us hl)
def Passes (CX : CXT) (X : Cx) (E : XK) : Prop := ∀ (pins : List (Addr × Obj)) (σ : St) (H : Hp) (s : Shared) (e : Value) (s' : Shared), Inv X pins σ H s → CX X.stack H s E e s' → X.xe e s'
section
variable {X : Cx} {CX : CXT} {k : Nat} {f C : Addr} {fd : FuncData} {ps : List Str} {sp : Sp} {dvs : List V} {ds : List Value} {E : XK} {x m : Str} {p pos apos : Pos} {e o : Expr} {es : List Expr} {ta : TE} {t : TA}
theorem run_fn {pins : List (Addr × Obj)} {σ : St} {H : Hp} {s : Shared} {Q : VK} {us : List Value} {vs : List V} (F : FnOk X.prog X.w X.K X.mg X.base CX k f fd ps sp) (hr : Room k X.A) (hb : Binds X.K fd ps ds) (hd : Vals dvs ds) (hx : Passes CX X E)
    (I : Inv X pins σ H s) (r : Vals vs us) (h : sp (vs ++ dvs) H Q E) : wpAny (model X.prog X.w) X.A (call (.ref f) us) (EP X pins σ Q) X.xe s := by
  have r2 : Vals (vs ++ dvs) (us ++ ds) := r.append hd
  have hl : (us ++ ds).length = ps.length := by rw [← r2.length]; exact F.len _ _ _ _ h
  refine wpAny_call (codeAny_mono (F.run X.A X.stack s H ⟨us, []⟩ (us ++ ds) (vs ++ dvs) Q E hr I.env0 (hb s us I.kIn hl) r2 h) fun r s' hq => ?_)
  cases r with
  | error e => exact hx pins σ H s e s' I hq
  | ok fl =>
    cases fl with
    | ret u => exact I.after hq
    | next => exact False.elim hq
    | brk => exact False.elim hq
    | cont => exact False.elim hq
theorem pe_call (F : FnOk X.prog X.w X.K X.mg X.base CX k f fd ps sp) (hr : Room k X.A) (hg : Gl X x) (hm : X.mg x = some (.ref f)) (hk : PySem.W.keepIn X.K (.ref f) = true) (hb : Binds X.K fd ps ds) (hd : Vals dvs ds) (hx : Passes CX X E)
    (ha : PA X (e :: es) t) (hdb : (x == ("__debug__" : Str)) = false := by decide) (he : starEach (e :: es) X.env = (false, eval e X.env) :: starEach es X.env := by rfl) (hpl : (backTo pos (starEach es X.env)).any (·.1) = false := by rfl) :
    PE X (.Call (.Name x p) (e :: es) [] pos) (tCall sp dvs E t) := by
  intro pins s σ H Q I h
  refine wpAny_Call_Name_kw (ld_glob I hg hm ?_ hdb)
  refine PySem.W.callWith_K (h₀ := X.base) I.ok.mod.kin hk (thn (ha pos pins s σ H _ I h) fun us s1 ⟨vs, H1, I1, r, q⟩ => ⟨I1.kIn, ?_⟩) he hpl
  exact run_fn F hr hb hd hx I1 r q
structure Mk (K : PySem.W.Frag) (C f : Addr) : Prop where
  makes : PySem.W.makesIn K C = true
  init : PySem.W.findIn K (.ref C) "__init__" = some (some (.ref f))
  fn : PySem.W.isFn K (.ref f) = true
  kp : PySem.W.keepIn K (.ref C) = true
theorem run_make {pins : List (Addr × Obj)} {σ : St} {H : Hp} {s : Shared} {Q : VK} {us : List Value} {vs : List V} (M : Mk X.K C f) (F : FnOk X.prog X.w X.K X.mg X.base CX k f fd ps sp) (hr : Room (k + 1) X.A) (hb : Binds X.K fd ps ds) (hd : Vals dvs ds)
    (hx : Passes CX X E) (I : Inv X pins σ H s) (r : Vals vs us)
    (h : ∀ x dx, H x = none → H dx = none → dx ≠ x → sp (.ref x :: (vs ++ dvs)) (upd (upd H dx (.own x)) x (.ins C dx [])) (fun v H2 => v = .non ∧ Q (.ref x) H2) E) :
    wpAny (model X.prog X.w) X.A (call (.ref C) us) (EP X pins σ Q) X.xe s := by
  have hq := h (s.heap.objs.size + 1) s.heap.objs.size (I.hok.fresh (Nat.le_succ _)) (I.hok.fresh (Nat.le_refl _)) (Nat.ne_of_lt (Nat.lt_succ_self _))
  have I2 := Inv.made (C := C) I
  have r2 : Vals (V.ref (s.heap.objs.size + 1) :: (vs ++ dvs)) (Value.ref (s.heap.objs.size + 1) :: (us ++ ds)) := .cons rfl (r.append hd)
  have hl : (Value.ref (s.heap.objs.size + 1) :: us ++ ds).length = ps.length := by
    have e := r2.length
    rw [F.len _ _ _ _ hq] at e
    exact e.symm
  refine wpAny_call (make_map (f := f) I.kIn M.makes M.init (beq_iff_eq.mp M.fn) (codeAny_mono (F.run _ X.stack _ _ ⟨Value.ref (s.heap.objs.size + 1) :: us, []⟩ (Value.ref (s.heap.objs.size + 1) :: (us ++ ds)) _ _ E (hr.make C us [])
    (I2.env0.make C us []) (hb _ (Value.ref (s.heap.objs.size + 1) :: us) I2.kIn hl) r2 hq) fun r s' hq' => ?_))
  cases r with
  | error e => exact hx pins σ _ _ e s' I2 hq'
  | ok fl =>
    cases fl with
    | ret u =>
      obtain ⟨v, H', I3, rv, ev, q3⟩ := I2.after hq'
      subst ev
      exact ⟨rv, ⟨V.ref (s.heap.objs.size + 1), H', I3, rfl, q3⟩⟩
    | next => exact False.elim hq'
    | brk => exact False.elim hq'
    | cont => exact False.elim hq'
theorem pe_make (M : Mk X.K C f) (F : FnOk X.prog X.w X.K X.mg X.base CX k f fd ps sp) (hr : Room (k + 1) X.A) (hg : Gl X x) (hm : X.mg x = some (.ref C)) (hb : Binds X.K fd ps ds) (hd : Vals dvs ds) (hx : Passes CX X E)
    (ha : PA X (e :: es) t) (hdb : (x == ("__debug__" : Str)) = false := by decide) (he : starEach (e :: es) X.env = (false, eval e X.env) :: starEach es X.env := by rfl) (hpl : (backTo pos (starEach es X.env)).any (·.1) = false := by rfl) :
    PE X (.Call (.Name x p) (e :: es) [] pos) (tMake C sp dvs E t) := by
  intro pins s σ H Q I h
  refine wpAny_Call_Name_kw (ld_glob I hg hm ?_ hdb)
  refine PySem.W.callWith_K (h₀ := X.base) I.ok.mod.kin M.kp (thn (ha pos pins s σ H _ I h) fun us s1 ⟨vs, H1, I1, r, q⟩ => ⟨I1.kIn, ?_⟩) he hpl
  exact run_make M F hr hb hd hx I1 r q
end
section
variable {X : Cx} {CX : CXT} {k : Nat} {f C : Addr} {fd : FuncData} {ps ks : List Str} {sp : Sp} {E : XK} {x m : Str} {p pos apos kpos : Pos} {e o : Expr} {es : List Expr} {kws : List Keyword} {te ta : TE} {t tk : TA} {nm : Option Str}
variable {g : List Value → List Value → List Value} {gV : List V → List V → List V}
end
structure FnScope (N P : List Str) (sc : Scope) : Prop where
  kind : sc.kind = .function
  co : sc.isCoroutine = false
  gen : sc.isGenerator = false
  nd : N.Nodup
  pre : N.take P.length = P
  par : ∀ x ∈ P, sc.names.lookup x = some .local ∨ sc.names.lookup x = some .cell
  nofree : ∀ y ∈ sc.names, y.2 ≠ .free
theorem bindL_out {kindOf : Str → Option NameKind} {x : Str} : ∀ {binds : List (Str × Value)} {m : Str → Option Value}, (∀ v, (x, v) ∉ binds) → bindL kindOf binds m x = m x
  | [], _, _ => rfl
  | (n, v) :: r, m, h => by
    unfold bindL
    rw [bindL_out fun w hw => h w (List.mem_cons_of_mem _ hw)]
    split
    · have : x ≠ n := by rintro rfl; exact h v List.mem_cons_self
      simp [this]
    · rfl
theorem bindC_out {kindOf : Str → Option NameKind} {x : Str} : ∀ {binds : List (Str × Value)} {m : Str → Option Value}, (∀ v, (x, v) ∉ binds) → bindC kindOf binds m x = m x
  | [], _, _ => rfl
  | (n, v) :: r, m, h => by
    unfold bindC
    rw [bindC_out fun w hw => h w (List.mem_cons_of_mem _ hw)]
    split
    · rfl
    · have : x ≠ n := by rintro rfl; exact h v List.mem_cons_self
      simp [this]
theorem bindL_get {kindOf : Str → Option NameKind} {x : Str} {v : Value} : ∀ {P : List Str} {vs : List Value} {i : Nat} {m : Str → Option Value}, P.Nodup → P[i]? = some x → vs[i]? = some v → kindOf x = some .local →
    bindL kindOf (P.zip vs) m x = some v
  | [], _, _, _, _, h, _, _ => by simp at h
  | _ :: _, [], _, _, _, _, h, _ => by simp at h
  | p :: P, w :: vs, 0, m, nd, h1, h2, hk => by
    simp at h1 h2; subst h1; subst h2
    show bindL kindOf ((p, w) :: P.zip vs) m p = _
    unfold bindL
    rw [bindL_out fun v hv => (List.nodup_cons.mp nd).1 (List.of_mem_zip hv).1, if_pos hk]
    simp
  | p :: P, w :: vs, i + 1, m, nd, h1, h2, hk => by
    show bindL kindOf ((p, w) :: P.zip vs) m x = _
    unfold bindL
    exact bindL_get (i := i) (List.nodup_cons.mp nd).2 (by simpa using h1) (by simpa using h2) hk
theorem bindC_get {kindOf : Str → Option NameKind} {x : Str} {v : Value} : ∀ {P : List Str} {vs : List Value} {i : Nat} {m : Str → Option Value}, P.Nodup → P[i]? = some x → vs[i]? = some v → kindOf x ≠ some .local →
    bindC kindOf (P.zip vs) m x = some v
  | [], _, _, _, _, h, _, _ => by simp at h
  | _ :: _, [], _, _, _, _, h, _ => by simp at h
  | p :: P, w :: vs, 0, m, nd, h1, h2, hk => by
    simp at h1 h2; subst h1; subst h2
    show bindC kindOf ((p, w) :: P.zip vs) m p = _
    unfold bindC
    rw [bindC_out fun v hv => (List.nodup_cons.mp nd).1 (List.of_mem_zip hv).1, if_neg hk]
    simp
  | p :: P, w :: vs, i + 1, m, nd, h1, h2, hk => by
    show bindC kindOf ((p, w) :: P.zip vs) m x = _
    unfold bindC
    exact bindC_get (i := i) (List.nodup_cons.mp nd).2 (by simpa using h1) (by simpa using h2) hk
def start (N : List Str) (vs : List V) : St := vs.map some ++ List.replicate (N.length - vs.length) none
def cxOf (CX : CXT) (P : Program) (w : World) (K : PySem.W.Frag) (mg : Str → Option Value) (base : Heap) (N : List Str) (qual : Str) (scope : Scope) (f : Addr) (cd : Value) (A : Around) (outer : List Env) (s : Shared) (H : Hp) (E : XK) : Cx where
  prog := P
  w := w
  K := K
  mg := mg
  base := base
  A := A.deeper (envOfC qual scope s.heap.objs.size f cd)
  N := N
  s₀ := s
  H₀ := H
  env := envOfC qual scope s.heap.objs.size f cd
  outer := outer
  stack := envOfC qual scope s.heap.objs.size f cd :: outer
  ex := []
  calm := true
  fn := fun _ => true
  pn := []
  xe := fun e s' => wpAny (model P w) (A.deeper (envOfC qual scope s.heap.objs.size f cd)) (leaving (envOfC qual scope s.heap.objs.size f cd) e) (fun _ s'' => CX outer H s E e s'') (fun e' s'' => CX outer H s E e' s'') s'
theorem cell_has {sc : Scope} {n : Nat} {x : Str} (h : sc.names.lookup x = some .cell) : ∃ c, (cellsFrom n sc.names []).lookup x = some c := by
  have q := PySem.W.cellsFrom_some sc.names n [] (.inl h)
  exact Option.isSome_iff_exists.mp q
theorem inv_start {CX : CXT} {P : Program} {w : World} {K : PySem.W.Frag} {mg : Str → Option Value} {base : Heap} {N ps : List Str} {qual : Str} {scope : Scope} {f : Addr} {cd : Value} {A : Around} {outer : List Env} {s s1 : Shared} {H : Hp} {E : XK} {us : List Value} {vs : List V}
    (S : FnScope N ps scope) (hd : A.handled = none) (e0 : Env0 P w K mg base A outer s H) (hl : vs.length = ps.length) (r : Vals vs us)
    (x : InCallC s s.heap.objs.size (bindL (envOfC qual scope s.heap.objs.size f cd).kindOf (ps.zip us) fun _ => none) (cellsFrom (s.heap.objs.size + 1) scope.names []) (bindC (envOfC qual scope s.heap.objs.size f cd).kindOf (ps.zip us) fun _ => none) s1) :
    Inv (cxOf CX P w K mg base N qual scope f cd A outer s H E) [] (start N vs) H s1 := by
  have hpl : ps.length ≤ N.length := by have := congrArg List.length S.pre; rw [List.length_take] at this; omega
  obtain ⟨h1, tk, rfl, hk⟩ := x.done
  have noA : ∀ b : Addr, b ∉ (cxOf CX P w K mg base N qual scope f cd A outer s H E).ex := fun b z => absurd (show b ∈ ([] : List Addr) from z) (by simp)
  refine ⟨⟨e0.mod, S.kind, rfl, rfl, Nat.le_refl _, fun y z c h1 h2 => ?_, fun y hy => ?_, fun y c _ h => ?_, fun _ => hd, Around.frames_deeper e0.frames, .inr ⟨rfl, rfl⟩, fun b z => absurd z (noA b), e0.bs, e0.bsz, fun b _ _ => noA b, fun b z => absurd z (noA b), e0.funs, e0.frf⟩,
    rfl, e0.bare, Un.kept hk, ⟨_, x.toInCall.ns, fun i y v h1 h2 h3 => ?_⟩, fun y c h => ⟨_, x.cell y c h⟩, e0.hok.fresh (Nat.le_refl _), fun y c h => ?_, fun p hp => absurd (show p ∈ ([] : List (Addr × Obj)) from hp) (by simp), e0.hok.kept hk, ?_⟩
  · exact name_of_addr x.apart (PySem.mem_of_lookup h1) (PySem.mem_of_lookup h2)
  · have hy : scope.names.lookup y = some .cell ∨ scope.names.lookup y = some .free := hy
    rcases hy with hy | hy
    · exact cell_has hy
    · exact absurd rfl (S.nofree _ (PySem.mem_of_lookup hy))
  · exact Nat.le_of_lt (x.above y c (PySem.mem_of_lookup h))
  · have hi : i < vs.length := by
      unfold start at h2
      by_cases hi : i < vs.length
      · exact hi
      · rw [List.getElem?_append_right (by simpa using hi)] at h2
        rw [List.getElem?_replicate] at h2
        split at h2 <;> cases h2
    have ha : vs[i]? = some v := by
      unfold start at h2
      rw [List.getElem?_append_left (by simpa using hi), List.getElem?_map] at h2
      cases e : vs[i]? with
      | none => rw [e] at h2; cases h2
      | some a => rw [e] at h2; cases h2; rfl
    obtain ⟨u, hu, rv⟩ := r.get ha
    have hp : ps[i]? = some y := by
      rw [← S.pre, List.getElem?_take_of_lt (by omega)]; exact h1
    have ndP : ps.Nodup := by rw [← S.pre]; exact S.nd.sublist (List.take_sublist _ _)
    refine ⟨u, rv, ?_⟩
    rcases S.par y (List.mem_of_getElem? hp) with k | k
    · exact .inl ⟨k, bindL_get ndP hp hu k⟩
    · obtain ⟨c, e⟩ := cell_has (n := s.heap.objs.size + 1) k
      refine .inr ⟨.inl k, c, e, ?_⟩
      have q := x.cell y c e
      rw [bindC_get ndP hp hu (by show scope.names.lookup y ≠ _; rw [k]; decide)] at q
      exact q
  · exact .inl (e0.hok.fresh (Nat.le_of_lt (x.above y c (PySem.mem_of_lookup h))))
  · unfold start
    show _ = N.length
    rw [List.length_append, List.length_map, List.length_replicate]
    omega
theorem fn_of {CX : CXT} {P : Program} {w : World} {K : PySem.W.Frag} {mg : Str → Option Value} {base : Heap} {k : Nat} {f : Addr} {name qual : Str} {params : Arguments} {body : List Stmt} {scope : Scope} {dV kV doc pm cdv ct oc : Value} {an od : Option Addr}
    {osl : Array (Option Value)} {N ps : List Str} {sp : Sp} (lk : K.lookup f = some ⟨oc, od, .func (PySem.W.fnOf name qual params body scope dV kV doc pm an cdv ct), osl⟩) (hcd : PySem.W.codeIn K cdv qual = true) (S : FnScope N ps scope)
    (len : ∀ vs H Q E, sp vs H Q E → vs.length = ps.length)
    (hbody : ∀ (A : Around) (outer : List Env) (s : Shared) (H : Hp) (vs : List V) (Q : VK) (E : XK), Room k (A.deeper (envOfC qual scope s.heap.objs.size f cdv)) → sp vs H Q E →
      ∃ t, PSs (cxOf CX P w K mg base N qual scope f cdv A outer s H E) body t ∧ t { nx := fun _ H' => Q .non H', rt := Q } (start N vs) H) :
    FnOk P w K mg base CX (k + 1) f (PySem.W.fnOf name qual params body scope dV kV doc pm an cdv ct) ps sp := by
  refine ⟨len, fun A outer s H args us vs Q E hr e0 hb r hsp => ?_⟩
  have hl := len _ _ _ _ hsp
  have KX : K.In s.heap := e0.mod.kin.keeps fun b o e => (e0.bs b o e).1
  have lim : s.heap.NoLimit := e0.mod.nolimit.keeps fun b o e => (e0.bs b o e).1
  have hkind : ∀ y ∈ ps.zip us, scope.names.lookup y.1 = some .local ∨ (scope.names.lookup y.1 = some .cell ∧ ((cellsFrom (s.heap.objs.size + 1) scope.names []).lookup y.1).isSome = true) := fun ⟨n, v⟩ hy => by
    rcases S.par n (List.of_mem_zip hy).1 with q | q
    · exact .inl q
    · exact .inr ⟨q, PySem.W.cellsFrom_some _ _ _ (.inl q)⟩
  refine codeAny_call_function hr.depth (KX _ _ lk) rfl S.co S.gen rfl (PySem.W.codeRec_of KX hcd) (hb _ _ _ _ ?_)
  refine wpAny_newFunctionEnv_cells S.kind hkind fun env he s1 x => ?_
  subst he
  refine ⟨lim.keeps x.toInCall.keep, codeAny_func ?_⟩
  obtain ⟨t, ht, hq⟩ := hbody A outer s H vs Q E (hr.deeper _) hsp
  have I : Inv (cxOf CX P w K mg base N qual scope f cdv A outer s H E) [] (start N vs) H s1 := inv_start S hr.hd e0 hl r x
  refine wpAny_mono (ht [] s1 (start N vs) H _ I hq) (fun fl s' hs => ?_) fun e s' hs => hs
  have fin : ∀ {σ' : St} {H' : Hp} {v : V} {u : Value}, Inv (cxOf CX P w K mg base N qual scope f cdv A outer s H E) [] σ' H' s' → RelV v u → Q v H' → CE outer P w H s Q u s' :=
    fun {σ' H' v u} J rv q => ⟨v, H', J.os, J.bare, J.base, J.hok, rv, q⟩
  cases fl with
  | ret u =>
    obtain ⟨v, σ', H', J, rv, q⟩ := hs
    exact fin J rv q
  | next =>
    obtain ⟨σ', H', J, q⟩ := hs
    exact fin (v := V.non) (u := Value.none) J rfl q
  | brk =>
    obtain ⟨_, _, _, q⟩ := hs
    exact False.elim q
  | cont =>
    obtain ⟨_, _, _, q⟩ := hs
    exact False.elim q
end L2
namespace L2
open PySem PySem.Spec PyProof.Rows
section
variable {X : Cx} {x : Str} {p pos : Pos} {e : Expr} {es : List Expr} {t : TA} {id T : String} {r : List V → Hp → VK → Prop}
def tCB (r : List V → Hp → VK → Prop) (t : TA) : TE := fun σ H Q => t σ H fun vs H1 => r vs H1 Q
theorem pe_callB (hc : CallR X (.builtin id) r) (hg : Gl X x) (hm : X.mg x = none) (hv : bootBuiltins x = some (.builtin id)) (ha : PA X (e :: es) t) (hn : x ≠ "__name__" := by decide) (hdb : (x == ("__debug__" : Str)) = false := by decide)
    (he : starEach (e :: es) X.env = (false, eval e X.env) :: starEach es X.env := by rfl) (hpl : (backTo pos (starEach es X.env)).any (·.1) = false := by rfl) : PE X (.Call (.Name x p) (e :: es) [] pos) (tCB r t) := by
  intro pins s σ H Q I h
  refine wpAny_Call_Name_kw (ld_blt I hg hm hv ?_ hn hdb)
  exact PyProof.Rows.callWith_builtin1 (thn (ha pos pins s σ H _ I h) fun us s1 ⟨vs, H1, I1, r1, q1⟩ => hc pins s1 σ H1 vs us Q I1 r1 q1) he hpl
theorem pe_callTy (hc : CallR X (.type T) r) (hg : Gl X x) (hm : X.mg x = none) (hv : bootBuiltins x = some (.type T)) (ha : PA X (e :: es) t) (hn : x ≠ "__name__" := by decide) (hdb : (x == ("__debug__" : Str)) = false := by decide)
    (he : starEach (e :: es) X.env = (false, eval e X.env) :: starEach es X.env := by rfl) (hpl : (backTo pos (starEach es X.env)).any (·.1) = false := by rfl) : PE X (.Call (.Name x p) (e :: es) [] pos) (tCB r t) := by
  intro pins s σ H Q I h
  refine wpAny_Call_Name_kw (ld_blt I hg hm hv ?_ hn hdb)
  exact PyProof.Rows.callWith_type1 (thn (ha pos pins s σ H _ I h) fun us s1 ⟨vs, H1, I1, r1, q1⟩ => hc pins s1 σ H1 vs us Q I1 r1 q1) he hpl
end
end L2
namespace HT
open PySem PyProof.Rows
section
open PySem.SeqAt
open PySem.AutoSeq1 (wpAny_loadPart')
open PySem.MeetsSeq PySem.MeetsSeq2 PySem.MeetsSeq3
end
section
variable {prog : Program} {w : World} {A : Around} {E : Value → Shared → Prop} {s : Shared}
end
end HT
namespace L2
open PySem PySem.Spec PyProof.Rows
abbrev TO := St → Hp → (Option Int → Hp → Prop) → Prop
def PO (X : Cx) (e : Option Expr) (t : TO) : Prop :=
  ∀ (pins : List (Addr × Obj)) (s : Shared) (σ : St) (H : Hp) (Q : Option Int → Hp → Prop), Inv X pins σ H s → t σ H Q →
    wpAny (model X.prog X.w) X.A (evalPart e X.env) (fun u s' => ∃ o H', Inv X pins σ H' s' ∧ IsPart u o ∧ Q o H') X.xe s
def tNoPart : TO := fun _ H Q => Q none H
def tPart (t : TE) : TO := fun σ H Q => t σ H fun x H1 => ∃ i, x = .int i ∧ Q (some i) H1
theorem intsAre_of {ns : List Int} : ∀ {us : List Value}, Vals (ns.map V.int) us → IntsAre us ns := by
  induction ns with
  | nil => intro us r; rw [List.map_nil] at r; cases r; exact .nil
  | cons n ns ih =>
    intro us r
    rw [List.map_cons] at r
    cases r with
    | cons r1 r2 =>
      obtain ⟨t, e⟩ := r1
      subst e
      exact .cons n t (ih r2)
section
variable {X : Cx} {e : Expr} {te : TE} {lo hi : Option Expr} {tl th : TO} {pos p2 : Pos}
theorem po_none : PO X none tNoPart := by
  intro pins s σ H Q I h
  rw [evalPart_none]
  exact wpAny_pure ⟨none, H, I, .none, h⟩
theorem po_some (h : PE X e te) : PO X (some e) (tPart te) := by
  intro pins s σ H Q I hw
  rw [evalPart_some]
  refine thn (h pins s σ H _ I hw) fun u s1 ⟨x, H1, I1, r1, q1⟩ => ?_
  obtain ⟨i, rfl, q⟩ := q1
  obtain ⟨t, rfl⟩ := r1
  exact ⟨some i, H1, I1, .int i t, q⟩
def SlR (X : Cx) (r : V → Option Int → Option Int → Hp → VK → Prop) : Prop :=
  ∀ (pins : List (Addr × Obj)) (s : Shared) (σ : St) (H : Hp) (x : V) (v vl vu : Value) (lo hi : Option Int) (sl : Addr) (Q : VK), Inv X pins σ H s → RelV x v → s.heap.IsSliceOf sl vl vu .none → IsPart vl lo → IsPart vu hi → r x lo hi H Q →
    ∃ T id, typeLookup (.type T) "__getitem__" = pure (some (.builtin id)) ∧ s.TypeIs v T ∧ wpAny (model X.prog X.w) X.A (getItem v (.ref sl)) (EP X pins σ Q) X.xe s
def tSl (r : V → Option Int → Option Int → Hp → VK → Prop) (te : TE) (tl th : TO) : TE := fun σ H Q => te σ H fun x H1 => tl σ H1 fun l H2 => th σ H2 fun u H3 => r x l u H3 Q
theorem pe_slice {r : V → Option Int → Option Int → Hp → VK → Prop} (hr : SlR X r) (he : PE X e te) (hl : PO X lo tl) (hu : PO X hi th) : PE X (.Subscript e (.Slice lo hi none p2) pos) (tSl r te tl th) := by
  intro pins s σ H Q I h
  refine Subscript_ (thn (he pins s σ H _ I h) fun v s1 ⟨x, H1, I1, r1, q1⟩ => ?_)
  refine wpAny_Slice (thn (hl pins s1 σ H1 _ I1 q1) fun vl s2 ⟨l, H2, I2, pl, q2⟩ => thn (hu pins s2 σ H2 _ I2 q2) fun vu s3 ⟨u, H3, I3, pu, q3⟩ => ?_)
  rw [evalPart_none]
  refine wpAny_pure ?_
  have I4 : Inv X pins σ H3 { s3 with heap := s3.heap.push { cls := .type "slice", data := .fields #[vl, vu, .none] } } := I3.kept (t' := s3.toks) fun b ob q => Heap.get?_push_of_some _ q
  obtain ⟨T, id, hT, ht, hg⟩ := hr pins { s3 with heap := s3.heap.push { cls := .type "slice", data := .fields #[vl, vu, .none] } } σ H3 x v vl vu l u s3.heap.objs.size Q I4 r1 (Heap.IsSliceOf.new ..) pl pu q3
  show wpAny (model X.prog X.w) X.A (subscriptTail e (.Slice lo hi none p2) v (.ref s3.heap.objs.size)) (EP X pins σ Q) X.xe { s3 with heap := s3.heap.push { cls := .type "slice", data := .fields #[vl, vu, .none] } }
  exact tail_any (ops := [.ref s3.heap.objs.size, v]) ht hT hg (by with_unfolding_all rfl)
end
end L2
namespace L2
open PySem PySem.Spec PyProof.Rows
theorem ixN_seq {n : Nat} {i : Int} {j : Nat} (h : ixN n i = some j) : seqIndex? i n = some j ∧ j < n ∧ -(n : Int) ≤ i ∧ i < n := by
  unfold ixN at h
  by_cases h0 : 0 ≤ i
  · rw [if_pos h0] at h
    by_cases h1 : i < n
    · rw [if_pos h1] at h
      have e : i.toNat = j := Option.some.inj h
      exact ⟨by rw [seqIndex_of h0 h1, e], by omega, by omega, h1⟩
    · rw [if_neg h1] at h; cases h
  · rw [if_neg h0] at h
    by_cases h1 : -(n : Int) ≤ i
    · rw [if_pos h1] at h
      have e : (i + n).toNat = j := Option.some.inj h
      exact ⟨by rw [seqIndex_neg (by omega) h1, e], by omega, h1, by omega⟩
    · rw [if_neg h1] at h; cases h
theorem atI_get {α : Type} {xs : List α} {i : Int} {v : α} (h : atI xs i = some v) : ∃ j, seqIndex? i xs.length = some j ∧ xs[j]? = some v ∧ j < xs.length ∧ -(xs.length : Int) ≤ i ∧ i < xs.length := by
  unfold atI at h
  cases e : ixN xs.length i with
  | none => rw [e] at h; cases h
  | some j =>
    rw [e] at h
    obtain ⟨h1, h2, h3, h4⟩ := ixN_seq e
    exact ⟨j, h1, h, h2, h3, h4⟩
def PlainIx (b : Expr) : Prop := ∀ o i, subscripted b false o i = operate [o, i] (getItem o i)
def IxR (X : Cx) (r : R2) : Prop :=
  ∀ (value slice : Expr) (pins : List (Addr × Obj)) (s : Shared) (σ : St) (H : Hp) (x y : V) (v u : Value) (Q : VK), Inv X pins σ H s → RelV x v → RelV y u → r x y H Q →
    subscripted slice false v u = operate [v, u] (getItem v u) → wpAny (model X.prog X.w) X.A (subscriptTail value slice v u) (EP X pins σ Q) X.xe s
def MtR (X : Cx) (id : String) (r : V → List V → Hp → VK → Prop) : Prop :=
  ∀ (pins : List (Addr × Obj)) (s : Shared) (σ : St) (H : Hp) (x : V) (xs : List V) (v : Value) (us : List Value) (Q : VK), Inv X pins σ H s → RelV x v → Vals xs us → r x xs H Q →
    wpAny (model X.prog X.w) X.A (call (.builtin id) (v :: us)) (EP X pins σ Q) X.xe s
section
variable {X : Cx} {a b : Expr} {ta tb : TE} {pos : Pos}
theorem IxR.or {r r' : R2} (h : IxR X r) (h' : IxR X r') : IxR X (fun x y H Q => r x y H Q ∨ r' x y H Q) := by
  intro value slice pins s σ H x y v u Q I rx ry q hs
  rcases q with q | q
  · exact h value slice pins s σ H x y v u Q I rx ry q hs
  · exact h' value slice pins s σ H x y v u Q I rx ry q hs
theorem pe_ix {r : R2} (hr : IxR X r) (ha : PE X a ta) (hb : PE X b tb) (hs : PlainIx b) : PE X (.Subscript a b pos) (tOp r ta tb) := by
  intro pins s σ H Q I h
  exact Subscript_ (binT ha hb I h fun v u s2 x y H2 I2 rx ry q => hr a b pins s2 σ H2 x y v u Q I2 rx ry q (hs _ _))
def rIxL (K : PySem.W.Frag) : R2 := fun x y H Q => ∃ p xs i v, x = .ref p ∧ y = .int i ∧ SqL K H p xs ∧ atI xs i = some v ∧ Q v H
def rIxT (K : PySem.W.Frag) : R2 := fun x y H Q => ∃ p xs i v, x = .ref p ∧ y = .int i ∧ SqT K H p xs ∧ atI xs i = some v ∧ Q v H
def rIxS : R2 := fun x y H Q => ∃ z i c, x = .str z ∧ y = .int i ∧ z.length ≤ sizeLine ∧ atI z.cps.toList i = some c ∧ Q (.str ⟨#[c]⟩) H
theorem ix_list : IxR X (rIxL X.K) := by
  intro value slice pins s σ H x y v u Q I rx ry h hs
  obtain ⟨p, xs, i, z, rfl, rfl, hq, he, q⟩ := h
  cases rx
  obtain ⟨t, rfl⟩ := ry
  obtain ⟨its, r, pl, hz⟩ := I.list hq
  obtain ⟨j, h1, h2, h3, h4, h5⟩ := atI_get he
  obtain ⟨w, ew, rw'⟩ := r.get h2
  have hl := r.length
  have hn := line63
  have fin : EP X pins σ Q w s := ⟨z, H, I, rw', q⟩
  by_cases h0 : 0 ≤ i
  · have hj : i.toNat = j := by
      rw [seqIndex_of h0 h5] at h1
      exact Option.some.inj h1
    exact item_listR pl.isList h0 (by omega) (by rw [hj]; simpa using ew) fin hs
  · have hj : (i + (its.toArray.size : Int)).toNat = j := by
      rw [seqIndex_neg (by omega) h4] at h1
      rw [List.size_toArray, ← hl]
      exact Option.some.inj h1
    exact subscriptTail_builtinR (x := w) pl.isList.typeIs slot_list_getitem.lookup
      (wpAny_getItem_list_neg (Q := fun r s' => r = w ∧ EP X pins σ Q r s') pl.isList (by omega) (by rw [List.size_toArray] <;> omega) (by omega) (by rw [hj]; simpa using ew) ⟨rfl, fin⟩) hs
theorem ix_tup : IxR X (rIxT X.K) := by
  intro value slice pins s σ H x y v u Q I rx ry h hs
  obtain ⟨p, xs, i, z, rfl, rfl, hq, he, q⟩ := h
  cases rx
  obtain ⟨t, rfl⟩ := ry
  obtain ⟨its, r, pl, hz⟩ := I.tuple hq
  obtain ⟨j, h1, h2, h3, h4, h5⟩ := atI_get he
  obtain ⟨w, ew, rw'⟩ := r.get h2
  have hl := r.length
  have hn := line63
  have fin : EP X pins σ Q w s := ⟨z, H, I, rw', q⟩
  exact subscriptTail_builtinR (x := w) pl.typeIs slot_tuple_getitem.lookup
    (getItem_tuple (j := j) (Q := fun r s' => r = w ∧ EP X pins σ Q r s') pl (by omega) (by omega) (by rw [List.size_toArray, ← hl]; exact h1) (by simpa using ew) ⟨rfl, fin⟩) hs
theorem ix_str : IxR X rIxS := by
  intro value slice pins s σ H x y v u Q I rx ry h hs
  obtain ⟨z, i, c, rfl, rfl, hz, he, q⟩ := h
  obtain ⟨t, rfl⟩ := rx
  obtain ⟨t', rfl⟩ := ry
  obtain ⟨j, h1, h2, h3, h4, h5⟩ := atI_get he
  have hl : z.cps.toList.length = z.length := by simp [Str.length]
  rw [hl] at h1 h4 h5
  have hn := line63
  exact tail_any (typeIs_str s z t) slot_str_getitem.lookup (getItem_str (c := c) (by
    have e1 : decide (i < -(2 ^ 63 : Int)) = false := decide_eq_false (by omega)
    have e2 : decide (i ≥ 2 ^ 63) = false := decide_eq_false (by omega)
    rw [e1, e2, Bool.or_false]) (by rw [h1]; simpa using h2) ⟨.str ⟨#[c]⟩, H, I.tok _, ⟨_, rfl⟩, q⟩) hs
def rIx (K : PySem.W.Frag) : R2 := fun x y H Q => rIxL K x y H Q ∨ rIxT K x y H Q ∨ rIxS x y H Q
theorem ix_seq : IxR X (rIx X.K) := ix_list.or (ix_tup.or ix_str)
theorem Inv.lst {pins : List (Addr × Obj)} {σ : St} {H : Hp} {s : Shared} {p : Addr} {xs : List V} (I : Inv X pins σ H s) (h : H p = some (.lst xs)) :
    ∃ (its : List Value) (n : Nat), Vals xs its ∧ s.heap.get? p = some { cls := .type "list", data := .seq its.toArray n } ∧ xs.length ≤ sizeLine := by
  obtain ⟨z, its, n, r, e⟩ := I.hok p _ h
  exact ⟨its, n, r, e, z⟩
def flatV : V → Bool
  | .non => true
  | .bl _ => true
  | .int _ => true
  | .str _ => true
  | _ => false
def eqV : V → V → Bool
  | .non, .non => true
  | .bl a, .bl b => a == b
  | .bl a, .int b => (if a then 1 else 0) == b
  | .int a, .bl b => a == (if b then 1 else 0)
  | .int a, .int b => a == b
  | .str a, .str b => a == b
  | _, _ => false
theorem eqAt_V {A : Around} {s : Shared} {y x : V} {u v : Value} (ry : RelV y u) (rx : RelV x v) (fy : flatV y = true) (fx : flatV x = true) : SeqAt.EqAt A s u v (eqV y x) := by
  cases y with
  | non =>
    cases ry
    cases x with
    | non => cases rx; exact SeqAt.EqAt.same _
    | bl b => cases rx; exact SeqAt.EqAt.none_bool b
    | int b => obtain ⟨t, rfl⟩ := rx; exact SeqAt.EqAt.none_int b t
    | str b => obtain ⟨t, rfl⟩ := rx; exact SeqAt.EqAt.none_str b t
    | _ => exact absurd (show false = true from fx) Bool.false_ne_true
  | bl a =>
    cases ry
    cases x with
    | non => cases rx; exact SeqAt.EqAt.bool_none a
    | bl b => cases rx; exact SeqAt.EqAt.bool_bool a b
    | int b => obtain ⟨t, rfl⟩ := rx; exact SeqAt.EqAt.bool_int a b t
    | str b => obtain ⟨t, rfl⟩ := rx; exact SeqAt.EqAt.bool_str a b t
    | _ => exact absurd (show false = true from fx) Bool.false_ne_true
  | int a =>
    obtain ⟨t', rfl⟩ := ry
    cases x with
    | non => cases rx; exact SeqAt.EqAt.int_none a t'
    | bl b => cases rx; exact SeqAt.EqAt.int_bool a t' b
    | int b => obtain ⟨t, rfl⟩ := rx; exact SeqAt.EqAt.int_int a t' b t
    | str b => obtain ⟨t, rfl⟩ := rx; exact SeqAt.EqAt.int_str a t' b t
    | _ => exact absurd (show false = true from fx) Bool.false_ne_true
  | str a =>
    obtain ⟨t', rfl⟩ := ry
    cases x with
    | non => cases rx; exact SeqAt.EqAt.str_none a t'
    | bl b => cases rx; exact SeqAt.EqAt.str_bool a t' b
    | int b => obtain ⟨t, rfl⟩ := rx; exact SeqAt.EqAt.str_int a t' b t
    | str b => obtain ⟨t, rfl⟩ := rx; exact SeqAt.EqAt.str_str a t' b t
    | _ => exact absurd (show false = true from fx) Bool.false_ne_true
  | _ => exact absurd (show false = true from fy) Bool.false_ne_true
def eqU (x : V) (u : Value) : Bool := match u with
  | .none => eqV .non x
  | .bool b => eqV (.bl b) x
  | .int i _ => eqV (.int i) x
  | .str z _ => eqV (.str z) x
  | _ => false
theorem eqU_of {x y : V} {u : Value} (r : RelV y u) (f : flatV y = true) : eqU x u = eqV y x := by
  cases y with
  | non => cases r; rfl
  | bl b => cases r; rfl
  | int i => obtain ⟨t, rfl⟩ := r; rfl
  | str z => obtain ⟨t, rfl⟩ := r; rfl
  | _ => exact absurd (show false = true from f) Bool.false_ne_true
theorem any_eqU {x : V} : ∀ {xs : List V} {us : List Value}, Vals xs us → xs.all flatV = true → us.any (eqU x) = xs.any fun y => eqV y x
  | _, _, .nil, _ => rfl
  | y :: xs, u :: us, .cons r t, f => by
    rw [List.all_cons, Bool.and_eq_true] at f
    rw [List.any_cons, List.any_cons, eqU_of r f.1, any_eqU t f.2]
theorem mem_eqAt {A : Around} {s : Shared} {x : V} {v : Value} (rx : RelV x v) (fx : flatV x = true) : ∀ {xs : List V} {us : List Value}, Vals xs us → xs.all flatV = true → ∀ u ∈ us, SeqAt.EqAt A s u v (eqU x u)
  | _, _, .nil, _ => fun u hu => by cases hu
  | y :: xs, u :: us, .cons r t, f => fun u' hu => by
    rw [List.all_cons, Bool.and_eq_true] at f
    rcases List.mem_cons.mp hu with rfl | hu
    · rw [eqU_of r f.1]; exact eqAt_V r rx f.1 fx
    · exact mem_eqAt rx fx t f.2 u' hu
def inV (x : V) (xs : List V) : Bool := xs.any fun y => eqV y x
def rIn (K : PySem.W.Frag) (neg : Bool) : R2 := fun x y H Q => ∃ p xs, y = .ref p ∧ (SqL K H p xs ∨ SqT K H p xs) ∧ flatV x = true ∧ xs.all flatV = true ∧ Q (.bl (if neg then !inV x xs else inV x xs)) H
theorem op_notIn_seq : OpR X (compareOp .NotIn) (rIn X.K true) := by
  intro pins s σ H x y v u Q I rx ry h
  obtain ⟨p, xs, rfl, hq, fx, fs, q⟩ := h
  cases ry
  rcases hq with hq | hq
  · obtain ⟨its, r, pl, hz⟩ := I.list hq
    refine SeqAt.notIn_listAt (eqU x) pl.isList (fun w hw => mem_eqAt rx fx r fs w (by simpa using hw)) ⟨.bl _, H, I, rfl, ?_⟩
    rw [show its.toArray.any (eqU x) = its.any (eqU x) by simp, any_eqU r fs]
    exact q
  · obtain ⟨its, r, pl, hz⟩ := I.tuple hq
    refine SeqAt.notIn_tupleAt (eqU x) pl (fun w hw => mem_eqAt rx fx r fs w (by simpa using hw)) ⟨.bl _, H, I, rfl, ?_⟩
    rw [show its.toArray.any (eqU x) = its.any (eqU x) by simp, any_eqU r fs]
    exact q
theorem call_len_seq : CallR X (.builtin "len") (fun xs H Q => ∃ p ys, xs = [.ref p] ∧ (SqL X.K H p ys ∨ SqT X.K H p ys) ∧ Q (.int ys.length) H) := by
  intro pins s σ H xs us Q I r h
  obtain ⟨p, ys, rfl, hq, q⟩ := h
  obtain ⟨u, rfl, rx⟩ := vals1 r
  cases rx
  have hn := line63
  rcases hq with hq | hq
  · obtain ⟨its, r', pl, hz⟩ := I.list hq
    have hlen := r'.length
    exact Calls.call_len_list pl.isList (by simp only [List.size_toArray] <;> omega) ⟨.int ys.length, H, I.tok _, ⟨s.toks + 1, by rw [List.size_toArray, hlen]⟩, q⟩
  · obtain ⟨its, r', pl, hz⟩ := I.tuple hq
    have hlen := r'.length
    exact len_tuple pl (by simp only [List.size_toArray] <;> omega) ⟨.int ys.length, H, I.tok _, ⟨s.toks + 1, by rw [List.size_toArray, hlen]⟩, q⟩
theorem call_len_str : CallR X (.builtin "len") (fun xs H Q => ∃ z, xs = [.str z] ∧ z.length ≤ sizeLine ∧ Q (.int z.length) H) := by
  intro pins s σ H xs us Q I r h
  obtain ⟨z, rfl, hz, q⟩ := h
  obtain ⟨u, rfl, t, rfl⟩ := vals1 r
  have hn := line63
  exact len_str (by omega) ⟨.int z.length, H, I.tok _, ⟨_, rfl⟩, q⟩
theorem CallR.or {f : Value} {r r' : List V → Hp → VK → Prop} (h : CallR X f r) (h' : CallR X f r') : CallR X f (fun xs H Q => r xs H Q ∨ r' xs H Q) := by
  intro pins s σ H xs us Q I rs q
  rcases q with q | q
  · exact h pins s σ H xs us Q I rs q
  · exact h' pins s σ H xs us Q I rs q
def tyV (K : PySem.W.Frag) (T : String) (x : V) (H : Hp) : Prop := match x with
  | .str _ => T = "str"
  | .int _ => T = "int"
  | .ref p => (T = "list" ∧ ∃ xs, SqL K H p xs) ∨ (T = "tuple" ∧ ∃ o, K.lookup p = some o ∧ o.cls = .type "tuple" ∧ o.dict = none) ∨
      (T = "dict" ∧ ((∃ kvs, H p = some (.dK kvs)) ∨ ∃ kvs, H p = some (.dT kvs))) ∨ (T = "set" ∧ ∃ S n, H p = some (.set S n))
  | _ => False
theorem tyV_is {pins : List (Addr × Obj)} {σ : St} {H : Hp} {s : Shared} {T : String} {x : V} {v : Value} (I : Inv X pins σ H s) (r : RelV x v) (ty : tyV X.K T x H) :
    s.TypeIs v T ∧ ∀ a, v = .ref a → ∃ ob, s.heap.get? a = some ob ∧ ob.dict = none := by
  cases x with
  | str z =>
    obtain ⟨t, rfl⟩ := r
    cases (show T = "str" from ty)
    exact ⟨typeIs_str s z t, fun _ e => nomatch e⟩
  | int i =>
    obtain ⟨t, rfl⟩ := r
    cases (show T = "int" from ty)
    exact ⟨typeIs_int s i t, fun _ e => nomatch e⟩
  | ref p =>
    cases r
    rcases ty with ⟨rfl, xs, hq⟩ | ⟨rfl, o, hk, hc, hd⟩ | ⟨rfl, hk⟩ | ⟨rfl, S, n, hk⟩
    · obtain ⟨its, _, pl, _⟩ := I.list hq
      refine ⟨pl.isList.typeIs, fun a e => ?_⟩
      cases e
      obtain ⟨o, n, e, c, hd, _⟩ := pl
      exact ⟨o, e, hd⟩
    · refine ⟨⟨o, I.kIn p o hk, hc⟩, fun a e => ?_⟩
      cases e
      exact ⟨o, I.kIn _ o hk, hd⟩
    · have z : ∃ o, s.heap.get? p = some o ∧ o.ExactDict := by
        rcases hk with ⟨kvs, hk⟩ | ⟨kvs, hk⟩
        · obtain ⟨_, _, _, _, o, _, _, e, ex, _⟩ := I.hok p _ hk
          exact ⟨o, e, ex⟩
        · obtain ⟨_, _, _, _, o, _, _, e, ex, _⟩ := I.hok p _ hk
          exact ⟨o, e, ex⟩
      obtain ⟨o, e, ex⟩ := z
      refine ⟨⟨o, e, ex.1⟩, fun a e2 => ?_⟩
      cases e2
      exact ⟨o, e, ex.2.1⟩
    · obtain ⟨o, _, _, _, e, ex, _⟩ := I.hok p _ hk
      refine ⟨⟨o, e, ex.1⟩, fun a e2 => ?_⟩
      cases e2
      exact ⟨o, e, ex.2.1⟩
  | _ => exact False.elim ty
def tBM (K : PySem.W.Frag) (T : String) (r : V → List V → Hp → VK → Prop) (to : TE) (t : TA) : TE := fun σ H Q => to σ H fun x H1 => tyV K T x H1 ∧ t σ H1 fun xs H2 => r x xs H2 Q
variable {o e : Expr} {es : List Expr} {to : TE} {t : TA} {name : Str} {apos cpos : Pos} {T id : String} {r : V → List V → Hp → VK → Prop}
theorem pe_bm (pa : PlainAttrs T) (slot : Slot T name id) (hty : typeOf (.builtin id) = pure (.type "method_descriptor")) (hm : MtR X id r) (ho : PE X o to) (ha : PA X (e :: es) t)
    (hbase : attributeBase o name X.env (eval o X.env) = eval o X.env := by rfl)
    (hfew : ((backTo cpos (starEach (e :: es) X.env)).all (fun x => !x.1) && (backToKw cpos (keywordEach [] X.env)).all (fun x => x.1.isSome)
      && decide ((e :: es).length + ([] : List Keyword).length + (if ([] : List Keyword).isEmpty then 0 else 1) < 30)) = true := by rfl)
    (hline : (apos.endLine == cpos.line) = true := by rfl) (hs : starEach (e :: es) X.env = (false, eval e X.env) :: starEach es X.env := by rfl) (hplain : (backTo cpos (starEach es X.env)).any (·.1) = false := by rfl) :
    PE X (.Call (.Attribute o name apos) (e :: es) [] cpos) (tBM X.K T r to t) := by
  intro pins s σ H Q I h
  refine wpAny_Call_method_late hbase hfew hline rfl (thn (ho pins s σ H _ I h) fun v s1 ⟨x, H1, I1, r1, ty, q1⟩ => ?_)
  obtain ⟨h1, h2⟩ := tyV_is I1 r1 ty
  refine ⟨T, id, pa, slot, hty, h1, h2, ?_⟩
  have hA := ha cpos pins s1 σ H1 _ I1 q1
  rw [hs] at hA ⊢
  refine Calls.callWith_builtin (by show (false || (backTo cpos (starEach es X.env)).any (·.1)) = false; rw [hplain] <;> rfl) (Calls.evalArgs_plain ?_)
  exact thn hA fun us s2 ⟨vs, H2, I2, r2, q2⟩ => hm pins s2 σ H2 x vs v us Q I2 r1 r2 q2
/- xs.append(e), list.index on a module's tuple .. are MtR facts of 06m -/
end
end L2
namespace L2
open PySem PySem.Spec PyProof.Rows
theorem Vals.one : ∀ {x : V} {us : List Value}, Vals [x] us → ∃ u, us = [u] ∧ RelV x u
  | _, _, .cons r .nil => ⟨_, rfl, r⟩
theorem Vals.dropLast {xs : List V} {us : List Value} (h : Vals xs us) : Vals xs.dropLast us.dropLast := by
  induction h with
  | nil => exact .nil
  | cons r t ih =>
    cases t with
    | nil => exact .nil
    | cons q t' => exact .cons r ih
theorem Vals.reverse {xs : List V} {us : List Value} (h : Vals xs us) : Vals xs.reverse us.reverse := by
  induction h with
  | nil => exact .nil
  | cons r t ih => rw [List.reverse_cons, List.reverse_cons]; exact Vals.append ih (.cons r .nil)
theorem Vals.rep {xs : List V} {us : List Value} (h : Vals xs us) : ∀ k : Nat, Vals (List.replicate k xs).flatten (List.replicate k us).flatten
  | 0 => .nil
  | k + 1 => by
    rw [List.replicate_succ, List.replicate_succ, List.flatten_cons, List.flatten_cons]
    exact Vals.append h (Vals.rep h k)
section
variable {X : Cx} {pins : List (Addr × Obj)} {σ : St} {H : Hp} {s : Shared} {l b : Addr} {xs ys zs : List V}
theorem Inv.lnew {its : List Value} {t' : Nat} (I : Inv X pins σ H s) (hv : Vals ys its) (hz : ys.length ≤ sizeLine) :
    Inv X pins σ (upd H s.heap.objs.size (.lst ys)) { s with heap := s.heap.push { cls := .type "list", data := .seq its.toArray }, toks := t' } :=
  I.laid (fun _ _ q => Heap.get?_push_of_some _ q) (Nat.le_refl _) ⟨hz, its, 0, hv, Heap.get?_push_size _ rfl⟩
theorem Inv.fresh (I : Inv X pins σ H s) : H s.heap.objs.size = none := I.hok.fresh (Nat.le_refl _)
end
section
variable {X : Cx}
end
section
variable {prog : Program} {w : World} {A : Around} {E : Value → Shared → Prop} {s : Shared}
end
section
variable {X : Cx}
end
end L2
namespace L2
open PySem PySem.Spec PyProof.Rows
section
variable {κ : Type} [DecidableEq κ]
def valV (kvs : List (κ × V)) (k : κ) : Option V := (kvs.find? fun kv => decide (kv.1 = k)).map (·.2)
def putK (kvs : List (κ × V)) (k : κ) (v : V) : List (κ × V) :=
  if (kvs.any fun kv => decide (kv.1 = k)) = true then kvs.map (fun kv => if kv.1 = k then (kv.1, v) else kv) else kvs ++ [(k, v)]
def dropK (kvs : List (κ × V)) (k : κ) : List (κ × V) := kvs.filter fun kv => decide (kv.1 ≠ k)
theorem valV_pos {p : κ × V} {r : List (κ × V)} {k : κ} (e : p.1 = k) : valV (p :: r) k = some p.2 := by simp [valV, List.find?_cons, e]
theorem valV_neg {p : κ × V} {r : List (κ × V)} {k : κ} (e : ¬ p.1 = k) : valV (p :: r) k = valV r k := by simp [valV, List.find?_cons, e]
theorem RelO.getD {o : Option V} {u : Option Value} {d : V} {d' : Value} (r : RelO o u) (rd : RelV d d') : RelV (o.getD d) (u.getD d') := by
  cases o with
  | none => cases u with
    | none => exact rd
    | some _ => exact (show False from r).elim
  | some _ => cases u with
    | none => exact (show False from r).elim
    | some _ => exact r
theorem KV.val {kvs : List (κ × V)} {vs : List (κ × Value)} (r : KV kvs vs) (k : κ) : RelO (valV kvs k) (valueAt vs k) := by
  unfold KV at r
  induction r with
  | nil => exact True.intro
  | @cons p q ps qs h t ih =>
    obtain ⟨h1, h2⟩ := h
    by_cases e : p.1 = k
    · have e' : q.1 = k := h1.symm.trans e
      have b : valueAt (q :: qs) k = some q.2 := by simp [valueAt, List.find?_cons, e']
      rw [valV_pos e, b]; exact h2
    · have e' : ¬ q.1 = k := fun z => e (h1.trans z)
      have b : valueAt (q :: qs) k = valueAt qs k := by simp [valueAt, List.find?_cons, e']
      rw [valV_neg e, b]; exact ih
theorem KV.any {kvs : List (κ × V)} {vs : List (κ × Value)} (r : KV kvs vs) (k : κ) : (kvs.any fun kv => decide (kv.1 = k)) = vs.any fun kv => decide (kv.1 = k) := by
  unfold KV at r
  induction r with
  | nil => rfl
  | cons h t ih => rw [List.any_cons, List.any_cons, ih, h.1]
theorem KV.drop {kvs : List (κ × V)} {vs : List (κ × Value)} (r : KV kvs vs) (k : κ) : KV (dropK kvs k) (without vs k) := by
  unfold KV at r ⊢
  unfold dropK without
  induction r with
  | nil => exact .nil
  | @cons p q ps qs h t ih =>
    obtain ⟨h1, h2⟩ := h
    rw [List.filter_cons, List.filter_cons]
    by_cases e : p.1 = k
    · have a : ¬ decide (p.1 ≠ k) = true := by simp [e]
      have b : ¬ decide (q.1 ≠ k) = true := by simp [h1.symm.trans e]
      rw [if_neg a, if_neg b]; exact ih
    · have e' : ¬ q.1 = k := fun z => e (h1.trans z)
      have a : decide (p.1 ≠ k) = true := by simp [e]
      have b : decide (q.1 ≠ k) = true := by simp [e']
      rw [if_pos a, if_pos b]; exact .cons ⟨h1, h2⟩ ih
theorem KV.length {kvs : List (κ × V)} {vs : List (κ × Value)} (r : KV kvs vs) : kvs.length = vs.length := Paired.length r
end
abbrev KT (H : Hp) : List (List Key × V) → List (List Key × Addr × Value) → Prop := Paired fun p q => p.1 = q.1 ∧ H q.2.1 = some (.tup (p.1.map kV)) ∧ RelV p.2 q.2.2
theorem KT.val {H : Hp} {kvs : List (List Key × V)} {xs : List (List Key × Addr × Value)} (r : KT H kvs xs) (k : List Key) : RelO (valV kvs k) ((atKey xs k).map (·.2)) := by
  induction r with
  | nil => exact True.intro
  | @cons p q ps qs h t ih =>
    obtain ⟨h1, _, h2⟩ := h
    by_cases e : p.1 = k
    · have e' : q.1 = k := h1.symm.trans e
      have b : atKey (q :: qs) k = some q.2 := by simp [atKey, List.find?_cons, e']
      rw [valV_pos e, b]; exact h2
    · have e' : ¬ q.1 = k := fun z => e (h1.trans z)
      have b : atKey (q :: qs) k = atKey qs k := by simp [atKey, List.find?_cons, e']
      rw [valV_neg e, b]; exact ih
section
variable {P : Program} {w : World} {H : Hp} {h : Heap} {a : Addr}
end
def DGet (H : Hp) (a : Addr) (y : V) (r : Option V) : Prop :=
  (∃ kvs k, Rd H a (.dK kvs) ∧ y = kV k ∧ r = valV kvs k) ∨ ∃ kvs k b, Rd H a (.dT kvs) ∧ y = .ref b ∧ H b = some (.tup (k.map kV)) ∧ r = valV kvs k
def DPut (H : Hp) (a : Addr) (y v : V) (H' : Hp) : Prop :=
  (∃ kvs k, H a = some (.dK kvs) ∧ y = kV k ∧ kvs.length < sizeLine ∧ H' = upd H a (.dK (putK kvs k v))) ∨
  ∃ kvs k b, H a = some (.dT kvs) ∧ y = .ref b ∧ H b = some (.tup (k.map kV)) ∧ kvs.length < sizeLine ∧ H' = upd H a (.dT (putK kvs k v))
theorem DGet.t {H : Hp} {a b : Addr} {kvs : List (List Key × V)} {k : List Key} (e : H a = some (.dT kvs)) (eb : H b = some (.tup (k.map kV))) : DGet H a (.ref b) (valV kvs k) := .inr ⟨kvs, k, b, .inl e, rfl, eb, rfl⟩
theorem DPut.t {H : Hp} {a b : Addr} {kvs : List (List Key × V)} {k : List Key} {v : V} (e : H a = some (.dT kvs)) (eb : H b = some (.tup (k.map kV))) (hl : kvs.length < sizeLine) :
    DPut H a (.ref b) v (upd H a (.dT (putK kvs k v))) := .inr ⟨kvs, k, b, e, rfl, eb, hl, rfl⟩
section
variable {X : Cx} {pins : List (Addr × Obj)} {σ : St} {H : Hp} {s : Shared} {a : Addr} {y v : V} {u r : Value} {o : Option V} {A : Around} {E : Value → Shared → Prop}
end
section
variable {X : Cx} {pins : List (Addr × Obj)} {σ : St} {H : Hp} {s : Shared} {a : Addr} {kvs : List (Key × V)} {k : Key} {u : Value} {A : Around} {E : Value → Shared → Prop}
end
section
variable {X : Cx} {o i e value : Expr} {pos pos' tpos : Pos} {td ty tv : TE}
end
section
variable {X : Cx} {pos : Pos}
end
structure M1 (X : Cx) (o : Expr) (m : Str) (apos : Pos) (e : Expr) (cpos : Pos) : Prop where
  base : attributeBase o m X.env (eval o X.env) = eval o X.env
  few : ((backTo cpos (starEach [e] X.env)).all (fun x => !x.1) && (backToKw cpos (keywordEach [] X.env)).all (fun x => x.1.isSome)
    && decide (([e] : List Expr).length + ([] : List Keyword).length + (if ([] : List Keyword).isEmpty then 0 else 1) < 30)) = true
  line : (apos.endLine == cpos.line) = true
  trees : backTo cpos (starEach [e] X.env) = [(false, eval e X.env)]
structure M2 (X : Cx) (o : Expr) (m : Str) (apos : Pos) (e f : Expr) (cpos : Pos) : Prop where
  base : attributeBase o m X.env (eval o X.env) = eval o X.env
  few : ((backTo cpos (starEach [e, f] X.env)).all (fun x => !x.1) && (backToKw cpos (keywordEach [] X.env)).all (fun x => x.1.isSome)
    && decide (([e, f] : List Expr).length + ([] : List Keyword).length + (if ([] : List Keyword).isEmpty then 0 else 1) < 30)) = true
  line : (apos.endLine == cpos.line) = true
  trees : backTo cpos (starEach [e, f] X.env) = [(false, eval e X.env), (false, eval f X.env)]
section
variable {X : Cx} {pins : List (Addr × Obj)} {σ : St} {H : Hp} {s : Shared} {a : Addr} {y d : V} {u r : Value} {o : Option V} {A : Around} {E : Value → Shared → Prop}
end
section
variable {X : Cx} {o e f : Expr} {apos cpos : Pos} {td ty tx : TE}
end
section
variable {X : Cx} {pins : List (Addr × Obj)} {σ : St} {H : Hp} {s : Shared} {a : Addr} {kvs : List (Key × V)} {A : Around} {E : Value → Shared → Prop}
end
section
variable {X : Cx} {pins : List (Addr × Obj)} {σ : St} {H : Hp} {s : Shared} {a : Addr} {y : V} {u : Value} {A : Around} {E : Value → Shared → Prop}
end
end L2
namespace Att
open PySem PySem.W PySem.Calls PyProof.Rows
theorem ints_of_wellAll {P : Params} {h : Heap} : ∀ (ns : List Int) (vs : List Value), WellAll P h vs (ns.map WData.int) → IntsAre vs ns := by
  intro ns
  induction ns with
  | nil =>
    intro vs w
    rw [List.map_nil] at w
    cases w
    exact .nil
  | cons n ns ih =>
    intro vs w
    rw [List.map_cons] at w
    cases w with
    | cons a b =>
      cases a
      exact .cons _ _ (ih _ b)
theorem script_of {l : OpenLaw} {n : Nat} (hn : l.most = some n) {P : Params} {h : Heap} {args : List WData} {vals : List Value}
    (hpre : l.row.toRowW.claim.pre args = true) (hwl : WellAll P h vals args) :
    ∃ a vs ns, vals = [Value.ref a] ∧ args = [WData.list (ns.map WData.int)] ∧ h.get? a = some { cls := .type "list", data := .seq vs.toArray } ∧ IntsAre vs ns ∧ ns.length ≤ n := by
  have hsh : WShape.hasAll [] args [.list .int] = true := (pre_splitW hpre).1
  have hc : l.pre.holds [] { args := args } = true := (pre_splitW hpre).2
  obtain ⟨d, r, rfl, h1, h2⟩ := hasAllW_cons hsh
  obtain rfl := hasAllW_nil h2
  obtain ⟨xs, rfl, h3⟩ := hasW_list h1
  obtain ⟨ns, rfl⟩ := items_int h3
  have hlen : ns.length ≤ n := by
    unfold OpenLaw.pre at hc
    have h4 : (WTm.not (.lt (.lit (.int (n : Int))) (.len (.arg 0)))).holds [] { args := [.list (ns.map .int)] } = true := by
      have h4 := (holds_andW hc).1
      rw [hn] at h4
      exact h4
    have h5 := condW_of h4 (w_not (w_lt w_lit (w_len_list (w_arg rfl))))
    rw [List.length_map] at h5
    refine Nat.le_of_not_lt fun q => ?_
    have q' : (n : Int) < ((ns.length : Nat) : Int) := by omega
    first
      | (rw [decide_eq_true q'] at h5; exact absurd h5 (by decide))
      | (simp at h5; omega)
  cases hwl with
  | cons w1 w2 =>
    cases w2
    cases w1 with
    | list ho hall => exact ⟨_, _, ns, rfl, rfl, ho, ints_of_wellAll ns _ hall, hlen⟩
theorem post_true (l : OpenLaw) (args : List WData) : l.row.toRowW.claim.post args (.bool true) args = true :=
  postW_of (r := l.row.toRowW) (X := (true == true))
    (show WShape.has [] (.bool true) .bool = true by first | rfl | decide | simp [WShape.has, WShape.arms, WShape.armsAll])
    (show (WTm.eq .res (.lit (.bool true))).value [] { args := args, res := some (.bool true), after := args } = some (.bool (true == true)) from w_eq_bool (w_res rfl) w_lit) rfl
section
variable {prog : Program} {w : World} {A : Around} {E : Value → Shared → Prop} {s : Shared} {K : Frag}
end
end Att
namespace L2
open PySem PySem.Spec PyProof.Rows
theorem vals_ints : ∀ {vs : List Value} {ns : List Int}, IntsAre vs ns → Vals (ns.map V.int) vs
  | _, _, .nil => .nil
  | _, _, .cons n t h => .cons ⟨t, rfl⟩ (vals_ints h)
end L2
namespace L2
open PySem PySem.Spec PyProof.Rows
def inClass (s : Stmt) (j : Nat) : Stmt := match s with
  | .ClassDef _ _ _ body _ _ _ _ _ _ _ => body.getD j (.Pass ⟨0, 0, 0, 0⟩)
  | _ => .Pass ⟨0, 0, 0, 0⟩
def defArgs (s : Stmt) : Arguments := match s with
  | .FunctionDef _ a _ _ _ _ _ _ _ _ => a
  | _ => { posonlyargs := [], args := [], vararg := none, kwonlyargs := [], kw_defaults := [], kwarg := none, defaults := [] }
def defBody (s : Stmt) : List Stmt := match s with
  | .FunctionDef _ _ b _ _ _ _ _ _ _ => b
  | _ => []
def defScope (s : Stmt) : Scope := match s with
  | .FunctionDef _ _ _ _ _ _ sc _ _ _ => sc
  | _ => { kind := .function, names := [], isGenerator := false, isCoroutine := false }
abbrev CX0 : CXT := fun _ _ _ _ _ _ => False
abbrev E0 : XK := fun _ _ _ => False
theorem pass0 {X : Cx} : Passes CX0 X E0 := fun _ _ _ _ _ _ _ h => h.elim
structure Fun (K : PySem.W.Frag) (x qual : Str) (st : Stmt) (f : Addr) (fd : FuncData) : Prop where
  ex : ∃ (oc : Value) (od : Option Addr) (kV doc pm : Value) (an : Option Addr) (cdv ct : Value) (osl : Array (Option Value)),
    fd = PySem.W.fnOf x qual (defArgs st) (defBody st) (defScope st) .none kV doc pm an cdv ct ∧ K.lookup f = some ⟨oc, od, .func fd, osl⟩ ∧ PySem.W.codeIn K cdv qual = true
  kp : PySem.W.keepIn K (.ref f) = true
section
variable {P : Program} {w : World} {K : PySem.W.Frag} {mg : Str → Option Value} {base : Heap}
theorem Fun.ok {x qual : Str} {st : Stmt} {f : Addr} {fd : FuncData} {N ps : List Str} {k : Nat} {sp : Sp} (F : Fun K x qual st f fd) (S : FnScope N ps (defScope st)) (len : ∀ vs H Q E, sp vs H Q E → vs.length = ps.length)
    (hbody : ∀ (cdv : Value) (A : Around) (outer : List Env) (s : Shared) (H : Hp) (vs : List V) (Q : VK) (E : XK), Room k (A.deeper (envOfC qual (defScope st) s.heap.objs.size f cdv)) → sp vs H Q E →
      ∃ t, PSs (cxOf CX0 P w K mg base N qual (defScope st) f cdv A outer s H E).nox (defBody st) t ∧ t { nx := fun _ H' => Q .non H', rt := Q } (start N vs) H) : FnOk P w K mg base CX0 (k + 1) f fd ps sp := by
  obtain ⟨oc, od, kV, doc, pm, an, cdv, ct, osl, rfl, lk, hcd⟩ := F.ex
  refine fn_of lk hcd S len fun A outer s H vs Q E hr hsp => ?_
  obtain ⟨t, h, q⟩ := hbody cdv A outer s H vs Q E hr hsp
  exact ⟨t, h.nox, q⟩
theorem Fun.binds {x qual : Str} {st : Stmt} {f : Addr} {fd : FuncData} {ps : List Str} (F : Fun K x qual st f fd)
    (h : ∀ (kV doc pm : Value) (an : Option Addr) (cdv ct : Value) (us : List Value), us.length = ps.length → bindArgs (PySem.W.fnOf x qual (defArgs st) (defBody st) (defScope st) .none kV doc pm an cdv ct) ⟨us, []⟩ = pure (ps.zip us)) : Binds K fd ps [] := by
  obtain ⟨oc, od, kV, doc, pm, an, cdv, ct, osl, rfl, lk, hcd⟩ := F.ex
  exact .all (h kV doc pm an cdv ct)
theorem fun_mk {x qual : Str} {st : Stmt} {f : Addr} {oc : Value} {od an : Option Addr} {osl : Array (Option Value)} {kV doc pm cdv ct : Value} (l : K.lookup f = some ⟨oc, od, .func (PySem.W.fnOf x qual (defArgs st) (defBody st) (defScope st) .none kV doc pm an cdv ct), osl⟩)
    (c : PySem.W.codeIn K cdv qual = true) (k : PySem.W.keepIn K (.ref f) = true) : Fun K x qual st f (PySem.W.fnOf x qual (defArgs st) (defBody st) (defScope st) .none kV doc pm an cdv ct) := ⟨⟨oc, od, kV, doc, pm, an, cdv, ct, osl, rfl, l, c⟩, k⟩
end
section
variable {X : Cx}
end
theorem iteF {A B : Prop} (h : B) : if false = true then A else B := by
  rw [if_neg Bool.false_ne_true]
  exact h
theorem iteT {A B : Prop} (h : A) : if true = true then A else B := by
  rw [if_pos rfl]
  exact h
def Same (H H' : Hp) : Prop := ∀ b o, H b = some o → H' b = some o
theorem Same.refl (H : Hp) : Same H H := fun _ _ h => h
theorem Same.trans {H H1 H2 : Hp} (a : Same H H1) (b : Same H1 H2) : Same H H2 := fun c o h => b c o (a c o h)
theorem Same.free {H H' : Hp} (e : Same H H') {l : Addr} (h : H' l = Option.none) : H l = Option.none := by
  cases q : H l with
  | none => rfl
  | some o =>
    rw [e l o q] at h
    cases h
theorem Same.seq {K : PySem.W.Frag} {H H' : Hp} {a : Addr} {xs : List V} (e : Same H H') (h : SqL K H a xs) : SqL K H' a xs := by
  rcases h with (h | ⟨o, h⟩) | h
  · exact .inl (.inl (e _ _ h))
  · exact .inl (.inr ⟨o, e _ _ h⟩)
  · exact .inr h
end L2
namespace L2
open PySem PySem.Spec PyProof.Rows
section
variable {X : Cx}
end
section
variable {κ : Type} [DecidableEq κ]
end
end L2
namespace L2
open PySem PySem.Spec PyProof.Rows
def closL (env : Env) : List (Str × NameKind) → List (Str × Addr) → List (Str × Addr)
  | [], cs => cs
  | (n, k) :: r, cs => closL env r (if k == NameKind.free then (match env.cells.lookup n with | some c => (n, c) :: cs | none => cs) else cs)
theorem closureFor_of {scope : Scope} {env : Env} (h : ∀ y ∈ scope.names, y.2 = NameKind.free → ∃ c, env.cells.lookup y.1 = some c) : closureFor scope env = pure (closL env scope.names []) := by
  simp only [closureFor]
  generalize ([] : List (Str × Addr)) = cs
  revert h cs
  generalize scope.names = l
  intro h
  induction l with
  | nil => intro cs; rfl
  | cons y r ih =>
    intro cs
    obtain ⟨n, k⟩ := y
    have ihr := ih fun z hz => h z (List.mem_cons_of_mem _ hz)
    simp only [List.forIn_cons, closL]
    by_cases hk : k = NameKind.free
    · obtain ⟨c, hc⟩ := h (n, k) List.mem_cons_self hk
      have hc' : env.cells.lookup n = some c := hc
      have hcell : cellOf env n = pure c := by unfold cellOf; rw [hc']
      subst hk
      simp only [hcell, hc', beq_self_eq_true, if_true, pure_bind, bind_pure_comp, map_pure, bind_assoc]
      first
        | exact ihr _
        | simpa using ihr _
    · have hb : (k == NameKind.free) = false := by simpa using hk
      simp only [hb, Bool.false_eq_true, if_false, pure_bind]
      first
        | exact ihr _
        | simpa using ihr _
theorem closL_from {env : Env} : ∀ (l : List (Str × NameKind)) (cs : List (Str × Addr)), (∀ x c, cs.lookup x = some c → env.cells.lookup x = some c) → ∀ x c, (closL env l cs).lookup x = some c → env.cells.lookup x = some c
  | [], _, h => h
  | (n, k) :: r, cs, h => by
    unfold closL
    refine closL_from r _ fun x c e => ?_
    split at e
    · cases hc : env.cells.lookup n with
      | none => rw [hc] at e; exact h x c e
      | some c' =>
        rw [hc] at e
        simp only [List.lookup_cons] at e
        by_cases hx : x == n
        · rw [hx] at e
          cases e
          rw [beq_iff_eq] at hx
          rw [hx]
          exact hc
        · have hx' : (x == n) = false := by simpa using hx
          rw [hx'] at e
          exact h x c e
    · exact h x c e
theorem closL_keep {env : Env} : ∀ (l : List (Str × NameKind)) (cs : List (Str × Addr)) (x : Str), (∃ c, cs.lookup x = some c) → ∃ c, (closL env l cs).lookup x = some c
  | [], _, _, h => h
  | (n, k) :: r, cs, x, h => by
    unfold closL
    refine closL_keep r _ x ?_
    split
    · cases hc : env.cells.lookup n with
      | none => exact h
      | some c' =>
        simp only [List.lookup_cons]
        by_cases hx : x == n
        · rw [hx]; exact ⟨_, rfl⟩
        · have hx' : (x == n) = false := by simpa using hx
          rw [hx']; exact h
    · exact h
theorem closL_has {env : Env} : ∀ (l : List (Str × NameKind)) (cs : List (Str × Addr)) (x : Str) (c : Addr), (x, NameKind.free) ∈ l → env.cells.lookup x = some c → ∃ c, (closL env l cs).lookup x = some c
  | [], _, _, _, h, _ => nomatch h
  | (n, k) :: r, cs, x, c, h, hc => by
    unfold closL
    rcases List.mem_cons.mp h with e | e
    · cases e
      refine closL_keep r _ _ ?_
      simp only [beq_self_eq_true, if_true, hc, List.lookup_cons]
      exact ⟨_, rfl⟩
    · exact closL_has r _ x c e hc
theorem lookup_relabel_free {env : Env} : ∀ {names : List (Str × NameKind)} {x : Str}, names.lookup x = some NameKind.free →
    (names.map fun (n, k) => if (k == NameKind.free && env.scope.kind == .function && env.kindOf n == some .cell) then (n, NameKind.cell) else (n, k)).lookup x = some NameKind.cell ∨
    (names.map fun (n, k) => if (k == NameKind.free && env.scope.kind == .function && env.kindOf n == some .cell) then (n, NameKind.cell) else (n, k)).lookup x = some NameKind.free
  | [], _, h => by simp at h
  | (n, k) :: r, x, h => by
    have ih := @lookup_relabel_free env r x
    simp only [List.map_cons]
    cases hx : x == n with
    | true =>
      simp only [List.lookup_cons, hx] at h
      cases h
      by_cases hc : (NameKind.free == NameKind.free && env.scope.kind == .function && env.kindOf n == some .cell) = true
      · rw [if_pos hc]; left; simp only [List.lookup_cons, hx]
      · rw [if_neg hc]; right; simp only [List.lookup_cons, hx]
    | false =>
      simp only [List.lookup_cons, hx] at h
      by_cases hc : (k == NameKind.free && env.scope.kind == .function && env.kindOf n == some .cell) = true
      · rw [if_pos hc]; simp only [List.lookup_cons, hx]; exact ih h
      · rw [if_neg hc]; simp only [List.lookup_cons, hx]; exact ih h
theorem of_relabel {env : Env} : ∀ {names : List (Str × NameKind)} {x : Str} {k' : NameKind}, (∀ y ∈ names, y.2 ≠ NameKind.cell) →
    (names.map fun (n, k) => if (k == NameKind.free && env.scope.kind == .function && env.kindOf n == some .cell) then (n, NameKind.cell) else (n, k)).lookup x = some k' → (k' = NameKind.cell ∨ k' = NameKind.free) → (x, NameKind.free) ∈ names
  | [], _, _, _, h, _ => by simp at h
  | (n, k) :: r, x, k', hn, h, hk => by
    have ih := @of_relabel env r x k' fun y hy => hn y (List.mem_cons_of_mem _ hy)
    simp only [List.map_cons] at h
    cases hx : x == n with
    | true =>
      have ex : x = n := by simpa using hx
      by_cases hc : (k == NameKind.free && env.scope.kind == .function && env.kindOf n == some .cell) = true
      · have : k = NameKind.free := by
          simp only [Bool.and_eq_true, beq_iff_eq] at hc
          exact hc.1.1
        subst this; subst ex
        exact List.mem_cons_self
      · rw [if_neg hc] at h
        simp only [List.lookup_cons, hx] at h
        cases h
        rcases hk with hk | hk
        · exact absurd hk (hn (n, k) List.mem_cons_self)
        · subst hk; subst ex; exact List.mem_cons_self
    | false =>
      by_cases hc : (k == NameKind.free && env.scope.kind == .function && env.kindOf n == some .cell) = true
      · rw [if_pos hc] at h; simp only [List.lookup_cons, hx] at h; exact List.mem_cons_of_mem _ (ih h hk)
      · rw [if_neg hc] at h; simp only [List.lookup_cons, hx] at h; exact List.mem_cons_of_mem _ (ih h hk)
section
variable {X : Cx}
structure CI where
  C : Addr
  s : Shared
  H : Hp
  ex : List Addr
def compCx (X : Cx) (scope : Scope) (NY : List Str) (c : CI) : Cx where
  prog := X.prog
  w := X.w
  K := X.K
  mg := X.mg
  base := X.base
  A := X.A
  N := NY
  s₀ := c.s
  H₀ := c.H
  env := compEnvC scope (closL X.env scope.names []) c.C X.env
  outer := X.stack
  stack := X.stack
  ex := c.ex
  fn := fun _ => false
  calm := X.calm
  pn := []
  xe := fun _ _ => False
theorem Inv.adopt {pins : List (Addr × Obj)} {σ : St} {H : Hp} {s : Shared} {a : Addr} {o : HO} (I : Inv X pins σ H s) (hn : H a = none) (young : X.s₀.heap.objs.size ≤ a) (hL : a ≠ X.env.locals)
    (hc : ∀ x c, X.env.cells.lookup x = some c → c ≠ a) (hp : ∀ p ∈ X.pn ++ pins, p.1 ≠ a) (new : ObjOk X.prog X.w (upd H a o) s.heap a o) : Inv X pins σ (upd H a o) s := by
  have ne : ∀ {b : Addr} {u : HO}, H b = some u → b ≠ a := fun e z => by rw [z, hn] at e; cases e
  refine ⟨I.ok, I.os, I.bare, ⟨I.base.keep, I.base.slot, fun b ob q n hx => ?_, I.base.there, fun b xs q => ?_, fun b ob u q => ?_, fun b ps q => ?_⟩, I.loc, I.cell, ?_, fun x c e => ?_, fun p hpm => ?_, fun b u e => ?_, I.len⟩
  · rw [upd_ne (Nat.ne_of_lt (Nat.lt_of_lt_of_le (Heap.lt_size q) young))]
    exact I.base.free b ob q n hx
  · have := I.base.tups b xs q
    rw [upd_ne (ne this)]; exact this
  · have := I.base.frzs b ob u q
    rw [upd_ne (ne this)]; exact this
  · have := I.base.tbls b ps q
    rw [upd_ne (ne this)]; exact this
  · rw [upd_ne (Ne.symm hL)]; exact I.free
  · have := I.freeC x c e
    unfold FreeC at this ⊢
    rw [upd_ne (hc x c e)]; exact this
  · obtain ⟨h1, h2, h3⟩ := I.pin p hpm
    exact ⟨h1, by rw [upd_ne (hp p hpm)]; exact h2, h3⟩
  · by_cases hb : b = a
    · subst hb; rw [upd_same] at e; cases e; exact new
    · rw [upd_ne hb] at e
      exact (I.hok b u e).stay (fun c v _ q => q) (fun c q => by rw [upd_ne (ne q)]; exact q) fun c xs q => by rw [upd_ne (ne q)]; exact q
def PF (X : Cx) (ifs : List Expr) (t : TT) : Prop :=
  ∀ (pins : List (Addr × Obj)) (s : Shared) (σ : St) (H : Hp) (Q : Bool → Hp → Prop), Inv X pins σ H s → t σ H Q →
    wpAny (model X.prog X.w) X.A (forIn ifs true fun c r => if r = true then do let ok ← isTrue c X.env (eval c X.env); pure (ForInStep.yield ok) else pure (ForInStep.yield r)) (TP X pins σ Q) X.xe s
def tNoIf : TT := fun _ H Q => Q true H
theorem pf_nil : PF X [] tNoIf := fun _ _ _ H _ I h => wpAny_tests_nil ⟨H, I, h⟩
def slotsY (mp : List (Option Nat)) (σ : St) : St := mp.map fun o => o.bind fun j => σ[j]?.join
def tCompK (J : It) (mp : List (Option Nat)) (g : CI → TG) (tt : CI → TT) (te : CI → TE) (σ : St) (H1 : Hp) (R : List V → Hp → Prop) : Prop :=
  ∀ c : CI, ∃ W : Nat → Nat → List V → Hp → Prop, (∃ m, W 0 m [] H1) ∧ ∀ i m ys H, W i m ys H →
    (J.stop i H ∧ R ys H) ∨
    (J.go i H ∧ ys.length < sizeLine ∧ ∀ x H', J.yld i H x H' → g c x (slotsY mp σ) H' fun σ2 H2 => tt c σ2 H2 fun b H3 =>
      if b = true then te c σ2 H3 fun y H4 => ∃ m', m' < m ∧ W (i + 1) m' (ys ++ [y]) H4 else ∃ m', m' < m ∧ W (i + 1) m' ys H3)
def tComp (wi : TI) (mp : List (Option Nat)) (g : CI → TG) (tt : CI → TT) (te : CI → TE) : TE := fun σ H Q => wi σ H fun J H1 =>
  tCompK J mp g tt te σ H1 fun ys H' => ys.length ≤ sizeLine ∧ ∀ p, H' p = none → Q (.ref p) (upd H' p (.lst ys))
structure CompScope (X : Cx) (scope : Scope) (NY : List Str) (mp : List (Option Nat)) : Prop where
  kind : scope.kind = .function
  nocell : ∀ y ∈ scope.names, y.2 ≠ .cell
  names : ∀ y ∈ scope.names, y.2 = .local → scope.names.lookup y.1 = some .local
  free : ∀ y ∈ scope.names, y.2 = .free → (X.env.kindOf y.1 = some .cell ∨ X.env.kindOf y.1 = some .free)
  len : mp.length = NY.length
  map : ∀ (i : Nat) (x : Str) (j : Nat), NY[i]? = some x → mp[i]? = some (some j) → X.N[j]? = some x ∧ scope.names.lookup x = some .free
theorem compLoop_own {prog : Program} {w : World} {A : Around} {R : Result → Shared → Prop} {s : Shared} {elt target iter : Expr} {ifs : List Expr} {scope : Scope} {pos : Pos} {it acc : Value} {env : Env} (I : Nat → Shared → Prop)
    (turn : ∀ n s, I n s → wpAny (model prog w) A (pyNext it) (fun r s₁ => match r with
      | none => R (.ok .next) s₁
      | some v => wpAny (model prog w) A (letOwnedTupleGo target it v) (fun _ s₁' => wpAny (model prog w) A (assign target env v) (fun _ s₂ =>
          wpAny (model prog w) A (forIn ifs true fun c r => if r = true then do let ok ← isTrue c env (eval c env); pure (ForInStep.yield ok) else pure (ForInStep.yield r)) (fun ok s₃ =>
            if ok = true then wpAny (model prog w) A (eval elt env) (fun x s₄ =>
              wpAny (model prog w) A (call (.builtin "list.append") [acc, x]) (fun _ s₅ => ∃ m, m < n ∧ I m s₅) (fun _ _ => False) s₄) (fun _ _ => False) s₃
            else ∃ m, m < n ∧ I m s₃) (fun _ _ => False) s₂) (fun _ _ => False) s₁') (fun _ _ => False) s₁) (fun _ _ => False) s)
    (n : Nat) (h : I n s) :
    codeAny (model prog w) A (.compLoop (.ListComp elt [⟨target, iter, ifs, 0⟩] scope pos) 0 it acc env) R s := by
  refine codeAny_loop rfl I (fun n s hI => ?_) n h
  show wpAny _ A ((compTurn (.ListComp elt [⟨target, iter, ifs, 0⟩] scope pos) 0 it acc env).onRaise (fun x => do noteFrame x env; theTreesLotGoes x)) _ _ s
  refine wpAny_noted ?_
  rw [compTurn_list]
  refine wpAny_bind (wpAny_standAt (wpAny_bind (wpAny_mono (turn n s hI) (fun r s₁ h₁ => ?_) fun _ _ h' => h'.elim)))
  cases r with
  | none => exact wpAny_pure h₁
  | some v =>
    refine wpAny_bind (wpAny_mono h₁ (fun _ s₁' h₁' => ?_) fun _ _ h' => h'.elim)
    refine wpAny_bind (wpAny_mono h₁' (fun _ s₂ h₂ => wpAny_bind (wpAny_mono h₂ (fun ok s₃ h₃ => ?_) fun _ _ h' => h'.elim)) fun _ _ h' => h'.elim)
    cases ok with
    | false => exact wpAny_pure ⟨rfl, h₃⟩
    | true =>
      exact wpAny_bind (wpAny_bind (wpAny_mono h₃ (fun x s₄ h₄ => wpAny_bind (wpAny_mono h₄ (fun _ s₅ h₅ => wpAny_pure (wpAny_pure ⟨rfl, h₅⟩)) fun _ _ h' => h'.elim)) fun _ _ h' => h'.elim))
theorem comp_block {E : Value → Shared → Prop} {scope : Scope} {NY : List Str} {mp : List (Option Nat)} {tg iter elt : Expr} {ifs : List Expr} {pos : Pos} {g : CI → TG} {tt : CI → TT} {te : CI → TE} {pins : List (Addr × Obj)} {σ : St} {H : Hp} {s₂ : Shared}
    {J : It} {fp : List Addr} {it : Addr} {tn : Nat → Heap → Prop} {R : List V → Hp → Prop} {RR : Value → Addr → Result → Shared → Prop}
    (S : CompScope X scope NY mp) (hc : X.calm = true) (I : Inv X pins σ H s₂) (T : Turn X.prog X.w X.K tg J fp it tn) (st : tn 0 s₂.heap) (hf : ∀ b ∈ fp, FpOk X pins H b)
    (hg : ∀ c, PG (compCx X scope NY c) tg (g c)) (ht : ∀ c, PF (compCx X scope NY c) ifs (tt c)) (he : ∀ c, PE (compCx X scope NY c) elt (te c))
    (h : tCompK J mp g tt te σ H R)
    (fin : ∀ (s' : Shared) (C : Addr) (m : Str → Option Value) (ys : List V) (H' : Hp), R ys H' → H' s₂.heap.objs.size = none → H' C = none → C ≠ s₂.heap.objs.size → s'.heap.Ns C m →
      (ys.length ≤ sizeLine → Inv X pins σ (upd H' s₂.heap.objs.size (.lst ys)) s') →
      (C ≠ X.env.locals ∧ X.s₀.heap.objs.size ≤ C ∧ (∀ x c, X.env.cells.lookup x = some c → c ≠ C) ∧ ∀ p ∈ X.pn ++ pins, p.1 ≠ C) → RR (.ref s₂.heap.objs.size) C (.ok .next) s') :
    wpAny (model X.prog X.w) X.A (newList []) (fun acc s₃ => wpAny (model X.prog X.w) X.A (newFunctionEnv scope X.env.globals (closL X.env scope.names []) [] X.env.qual none .none (some X.env)) (fun cenv s₄ =>
      codeAny (model X.prog X.w) X.A (.compStart (.ListComp elt [⟨tg, iter, ifs, 0⟩] scope pos) 0 (.ref it) acc { cenv with scope := relabel scope X.env }) (RR acc cenv.locals) s₄) E s₃) E s₂ := by
  refine wpAny_newObj_type (wpAny_newFunctionEnv S.nocell (by intro y hy; simp at hy) (fun h₁ hns₁ hsb₁ => ?_) S.kind)
  dsimp only at hns₁ hsb₁ ⊢
  generalize hH2 : s₂.heap.push { cls := .type "list", dict := none, data := .seq ([] : List Value).toArray } = H2 at hns₁ hsb₁ ⊢
  have hC : (H2.objs.size : Nat) = s₂.heap.objs.size + 1 := by rw [← hH2, Heap.size_push]
  generalize hDd : s₂.heap.objs.size = D at fin hC ⊢
  generalize hCC : H2.objs.size = C at hns₁ hsb₁ hC ⊢
  have hC : (C : Nat) = (D : Nat) + 1 := hC
  have hDC : D ≠ C := fun z => absurd (z.trans hC) (Nat.ne_of_lt (Nat.lt_succ_self _))
  have ltC : ∀ {b : Addr}, b < D → b ≠ C := fun {b} h => Nat.ne_of_lt (Nat.lt_of_lt_of_eq (Nat.lt_succ_of_lt h) hC.symm)
  have ltD : ∀ {b : Addr}, b < D → b ≠ D := fun {b} h => Nat.ne_of_lt h
  have hlt : ∀ {b : Addr} {o : Obj}, s₂.heap.get? b = some o → (b : Nat) < D := fun e => hDd ▸ Heap.lt_size e
  have k2 : ∀ b o, s₂.heap.get? b = some o → H2.get? b = some o := fun b o e => hH2 ▸ Heap.get?_push_of_some _ e
  have k1 : ∀ b o, H2.get? b = some o → h₁.get? b = some o := fun b o e => by
    have hb : b < C := hCC ▸ Heap.lt_size e
    exact hsb₁.extBut b o (Nat.ne_of_lt hb) (Heap.get?_push_of_some _ e)
  have fr : ∀ a, D ≤ a → H a = none := fun a ha => I.hok.fresh (hDd ▸ ha)
  have accP : h₁.PlainList D #[] := ⟨_, k1 _ _ (by rw [← hH2, ← hDd]; exact Heap.get?_push_size _ rfl)⟩
  have fpo : ∀ b ∈ fp, (b : Nat) < D := fun b hb => let ⟨o, e, _⟩ := T.obj 0 _ st b hb; hlt e
  have clF : ∀ x c, (closL X.env scope.names []).lookup x = some c → X.env.cells.lookup x = some c := closL_from _ _ fun x c e => nomatch e
  have cellLt : ∀ x c, X.env.cells.lookup x = some c → (c : Nat) < D := fun x c e => by
    obtain ⟨v, o, ho, _⟩ := I.cell x c e
    exact hlt ho
  have locLt : (X.env.locals : Nat) < D := hDd ▸ I.lt
  have stkLt : ∀ b ∈ frs X.stack, (b : Nat) < D := fun b hb => by
    obtain ⟨_, o, ho, _⟩ := I.stack.mem hb
    exact hlt ho
  have fpStk : ∀ b ∈ fp, b ∉ frs X.stack := fun b hb z => by
    obtain ⟨_, f1, f2, _⟩ := hf b hb
    rcases List.mem_cons.mp (I.stkSub b z) with q | q
    · exact f1 q
    · exact f2 q
  have pinLt : ∀ p ∈ X.pn ++ pins, (p.1 : Nat) < D := fun p hp => hlt (I.pin p hp).1
  have pinStk : ∀ p ∈ X.pn ++ pins, p.1 ∉ frs X.stack := fun p hp z => by
    obtain ⟨_, _, f1, f2, _⟩ := I.pin p hp
    rcases List.mem_cons.mp (I.stkSub _ z) with q | q
    · exact f1 q
    · exact f2 q
  let Y : Cx := compCx X scope NY ⟨C, { s₂ with heap := H2 }, H, D :: fp⟩
  obtain ⟨W, ⟨m0, w0⟩, turn⟩ := h ⟨C, { s₂ with heap := H2 }, H, D :: fp⟩
  have okY : Y.Ok := by
    refine ⟨I.ok.mod, S.kind, I.ok.glob, I.ok.blt, Nat.le_of_eq hCC, fun x y c h1 h2 => I.ok.inj x y c (clF _ _ h1) (clF _ _ h2), fun x hx => ?_, fun x c hfn => absurd hfn (by intro z; cases z), I.ok.hd, I.ok.frames, .inl rfl, fun b hb => ?_, fun b o e => ?_, ?_, fun b o e => ?_, fun b hb => ?_, ?_, I.stkFree⟩
    · have hx' : (x, NameKind.free) ∈ scope.names := by
        rcases hx with hx | hx
        · exact of_relabel S.nocell hx (.inl rfl)
        · exact of_relabel S.nocell hx (.inr rfl)
      obtain ⟨c, e⟩ := I.ok.has x (S.free _ hx' rfl)
      exact closL_has _ _ x c hx' e
    · rcases List.mem_cons.mp hb with z | z
      · subst z
        exact ⟨hDC, fun x c e q => absurd (cellLt x c (clF x c e)) (by rw [q]; exact Nat.lt_irrefl _)⟩
      · have := fpo b z
        exact ⟨ltC this, fun x c e q => (hf b z).2.2.2.2.1 x c (clF x c e) q⟩
    · have := I.bs b o e
      exact ⟨k2 b o this.1, this.2⟩
    · refine ⟨?_, I.tabsH⟩
      show (X.base.objs.size : Nat) ≤ H2.objs.size
      have h1 : (X.base.objs.size : Nat) ≤ s₂.heap.objs.size := Nat.le_trans I.ok.bsz.1 I.sz
      have h2 : (H2.objs.size : Nat) = C := hCC
      have h3 : (s₂.heap.objs.size : Nat) = D := hDd
      omega
    · have hb := I.bs b o e
      have hb' := hlt hb.1
      intro z
      rcases List.mem_cons.mp z with z | z
      · rw [z] at hb'; exact Nat.lt_irrefl _ hb'
      · rcases (hf b z).2.2.2.1 with q | q
        · exact I.ok.noex b o e q
        · exact absurd (Nat.lt_of_lt_of_le (Heap.lt_size (I.ok.bs b o e).1) q) (Nat.lt_irrefl _)
    · rcases List.mem_cons.mp hb with z | z
      · subst z
        exact fun q => absurd (stkLt _ q) (Nat.lt_irrefl _)
      · exact fpStk b z
    · exact I.stack.of_keeps fun b o e _ => ⟨o, k2 b o e, rfl⟩
  have capt : ∀ (i : Nat) (x : Str) (v : V), NY[i]? = some x → (slotsY mp σ)[i]? = some (some v) → ∃ u c, RelV v u ∧ (Y.env.kindOf x = some .cell ∨ Y.env.kindOf x = some .free) ∧ Y.env.cells.lookup x = some c ∧ H2.IsCell c (some u) ∧ (H c = none ∨ ∃ o u, H c = some (.frz o u)) ∧ c ∉ D :: fp := by
    intro i x v e1 e2
    have e2' : (mp[i]?.map fun o => o.bind fun j => σ[j]?.join) = some (some v) := by
      unfold slotsY at e2
      rwa [List.getElem?_map] at e2
    cases hm : mp[i]? with
    | none => rw [hm] at e2'; cases e2'
    | some o =>
      rw [hm] at e2'
      cases o with
      | none => simp at e2'
      | some j =>
        simp only [Option.map_some, Option.bind_some, Option.some.injEq] at e2'
        have e4 : σ[j]? = some (some v) := by
          cases hs : σ[j]? with
          | none => rw [hs] at e2'; cases e2'
          | some q => rw [hs] at e2'; simp at e2'; rw [e2']
        obtain ⟨hXj, hfr⟩ := S.map i x j e1 hm
        have hmem : (x, NameKind.free) ∈ scope.names := PySem.mem_of_lookup hfr
        have hk := S.free _ hmem rfl
        obtain ⟨m, hn, hl⟩ := I.loc
        obtain ⟨u, ru, l⟩ := hl j x v hXj e4 (hk.elim (fun z => .inr (.inl z)) fun z => .inr (.inr z))
        have hlook : ∃ c, X.env.cells.lookup x = some c ∧ s₂.heap.IsCell c (some u) := by
          rcases l with ⟨kl, _⟩ | ⟨_, c, ec, hcell⟩
          · rcases hk with q | q
            · exact absurd (kl.symm.trans q) (by intro z; cases z)
            · exact absurd (kl.symm.trans q) (by intro z; cases z)
          · exact ⟨c, ec, hcell⟩
        obtain ⟨c, ec, oc, hoc, hocd⟩ := hlook
        obtain ⟨c', ec'⟩ := closL_has (env := X.env) scope.names [] x c hmem ec
        have : c' = c := Option.some.inj ((clF x c' ec').symm.trans ec)
        subst this
        refine ⟨u, c', ru, lookup_relabel_free hfr, ec', ⟨oc, k2 _ _ hoc, hocd⟩, (I.freeC x c' ec).imp id And.right, fun z => ?_⟩
        rcases List.mem_cons.mp z with z | z
        · have := cellLt x c' ec; rw [z] at this; exact Nat.lt_irrefl _ this
        · exact (hf c' z).2.2.2.2.1 x c' ec rfl
  have lenY : (slotsY mp σ).length = NY.length := by
    unfold slotsY
    rw [List.length_map]
    exact S.len
  have I0 : ∀ tk, Inv Y [] (slotsY mp σ) H { s₂ with heap := h₁, toks := tk } := by
    intro tk
    refine ⟨okY, rfl, I.bare, Un.kept k1, ⟨_, hns₁, fun i x v e1 e2 e3 => ?_⟩, fun x c e => ?_, fr C (by show (D : Nat) ≤ C; omega), fun x c e => (I.freeC x c (clF x c e)).imp id fun z => ⟨rfl, z.2⟩, fun p hp => absurd (show p ∈ ([] : List (Addr × Obj)) from hp) (by simp), I.hok.kept fun b o e => k1 b o (k2 b o e), lenY⟩
    · obtain ⟨u, c, ru, hk, ec, ⟨oc, hoc, hocd⟩, _⟩ := capt i x v e1 e2
      exact ⟨u, ru, .inr ⟨hk, c, ec, oc, k1 _ _ hoc, hocd⟩⟩
    · obtain ⟨v, o, ho, hd⟩ := I.cell x c (clF x c e)
      exact ⟨v, o, k1 _ _ (k2 _ _ ho), hd⟩
  have stat : ∀ {H' : Hp} {pl : List (Addr × Obj)}, (∀ p ∈ pl, p.1 ∉ fp) → (∀ b ∈ fp, H' b = none) → ∀ b ∈ fp, FpOk Y pl H' b := fun hpl hn b hb => by
    have hbD := fpo b hb
    refine ⟨hn b hb, ltC hbD, fpStk b hb, .inl (List.mem_cons_of_mem _ hb), fun x c e => (hf b hb).2.2.2.2.1 x c (clF x c e), fun p hp z => hpl p (show p ∈ _ from hp) (z ▸ hb)⟩
  have dN : D ∉ Y.fs := fun q => absurd (stkLt _ q) (Nat.lt_irrefl _)
  have dFp : D ∉ fp := fun q => absurd (fpo _ q) (Nat.lt_irrefl _)
  have plD : ∀ (o : Obj), ∀ p ∈ [(D, o)], p.1 ∉ fp := fun o p hp => by
    have e : p = (D, o) := by simpa using hp
    rw [e]; exact dFp
  have keyC : ∀ (tk : Nat) (it' : Value), it' = .ref it → codeAny (model X.prog X.w) X.A (.compLoop (.ListComp elt [⟨tg, iter, ifs, 0⟩] scope pos) 0 it' (.ref D) Y.env) (RR (.ref D) C) { s₂ with heap := h₁, toks := tk } := by
    rintro tk _ rfl
    refine compLoop_own (fun n s' => ∃ i ys H' its, Inv Y [] (slotsY mp σ) H' s' ∧ tn i s'.heap ∧ (∀ b ∈ fp, H' b = none) ∧ H' D = none ∧ s'.heap.PlainList D its ∧ Vals ys its.toList ∧ W i n ys H') ?_ m0
      ⟨0, [], H, #[], I0 tk, T.keep 0 _ _ st fun b _ o e => k1 b o (k2 b o e), fun b hb => (hf b hb).1, fr D (Nat.le_refl _), accP, .nil, w0⟩
    rintro n s3 ⟨i, ys, H3, its, I3, st3, fr3, d3, ⟨kk, pl3⟩, rv3, w3⟩
    have I3' : Inv Y [(D, { cls := .type "list", data := .seq its kk })] (slotsY mp σ) H3 s3 := I3.pins_of fun p hp => by
      have e : p = (D, { cls := .type "list", data := .seq its kk }) := by simpa using hp
      subst e
      exact ⟨pl3, d3, hDC, dN, fun v z => nomatch (show Data.seq its kk = Data.cell v from z)⟩
    rcases turn i n ys H3 w3 with ⟨stop, qn⟩ | ⟨go, hsz, step⟩
    · refine thn (T.done Y rfl rfl rfl hc i _ s3 _ H3 _ I3' (stat (plD _) fr3) st3 stop) fun r s4 ⟨hr, I4⟩ => ?_
      subst hr
      have hD4 : s4.heap.get? D = some { cls := .type "list", data := .seq its kk } := (I4.pin (D, _) (by simp)).1
      have u : Un (frs X.stack) fp H H3 s₂.heap s4.heap := by
        have B : Un (frs X.stack) (D :: fp) H H3 H2 s4.heap := I4.base
        have nx : ∀ {b : Addr} {o : Obj}, s₂.heap.get? b = some o → b ∉ fp → b ∉ D :: fp := fun e hb z => by
          rcases List.mem_cons.mp z with z | z
          · have := hlt e; rw [z] at this; exact Nat.lt_irrefl _ this
          · exact hb z
        exact ⟨fun b o q n hb hx => B.keep b o (k2 b o q) n hb (nx q hx), fun b o q n hb hx => B.slot b o (k2 b o q) n hb (nx q hx), fun b o q n hx => B.free b o (k2 b o q) n (nx q hx), fun b o q hx => B.there b o (k2 b o q) (nx q hx), B.tups, B.frzs, B.tbls⟩
      have J4 : Inv X pins σ H3 s4 := I.call' I4.os u I4.hok I4.bare fun b hb => ⟨(hf b hb).2.2.2.1, (hf b hb).2.1, (hf b hb).2.2.2.2.1, (hf b hb).2.2.2.2.2⟩
      obtain ⟨m4, hn4, _⟩ := I4.loc
      refine fin s4 C m4 ys H3 qn d3 I4.free (Ne.symm hDC) hn4 (fun hz => ?_) ⟨(ltC locLt).symm, ?_, fun x c e => ?_, fun p hp => ?_⟩
      · refine J4.adopt d3 ?_ (ltD locLt).symm (fun x c e => ?_) (fun p hp => ?_) ⟨hz, its.toList, kk, rv3, hD4⟩
        · exact hDd ▸ I.sz
        · exact ltD (cellLt x c e)
        · exact ltD (pinLt p hp)
      · have : (X.s₀.heap.objs.size : Nat) ≤ D := hDd ▸ I.sz
        show (X.s₀.heap.objs.size : Nat) ≤ C
        omega
      · exact ltC (cellLt x c e)
      · exact ltC (pinLt p hp)
    · refine thn (T.item Y rfl rfl rfl hc i _ s3 _ H3 _ I3' (stat (plD _) fr3) st3 go) fun r s4 ⟨u, hr, h4⟩ => ?_
      subst hr
      refine thn h4 fun _ s5 ⟨x, H5, I5, r5, y5, st5, fr5⟩ => ?_
      have I5' := I5.pinned (stat (plD _) fr5) (T.obj _ _ st5)
      refine thn (hg _ _ s5 _ H5 x u _ I5' r5 (step x H5 y5)) fun _ s6 ⟨σ6, H6, I6, q6⟩ => ?_
      refine thn (ht _ _ s6 σ6 H6 _ I6 q6) fun ok s7 ⟨H7, I7, q7⟩ => ?_
      have back : ∀ {s8 : Shared} {σ8 : St} {H8 : Hp}, Inv Y ([(D, { cls := .type "list", data := .seq its kk })] ++ pinsAt fp s5.heap) σ8 H8 s8 →
          tn (i + 1) s8.heap ∧ (∀ b ∈ fp, H8 b = none) ∧ H8 D = none ∧ s8.heap.get? D = some { cls := .type "list", data := .seq its kk } := fun {s8 σ8 H8} I8 => by
        refine ⟨T.keep _ _ _ st5 fun b hb o e => (I8.pin (b, o) (List.mem_append_right _ (List.mem_append_right _ (mem_pinsAt hb e)))).1, fun b hb => ?_, ?_, ?_⟩
        · obtain ⟨o, e, d⟩ := T.obj _ _ st5 b hb
          exact (I8.pin (b, o) (List.mem_append_right _ (List.mem_append_right _ (mem_pinsAt hb e)))).2.1
        · exact (I8.pin (D, _) (List.mem_append_right _ (List.mem_append_left _ (List.mem_singleton.mpr rfl)))).2.1
        · exact (I8.pin (D, _) (List.mem_append_right _ (List.mem_append_left _ (List.mem_singleton.mpr rfl)))).1
      have drop : ∀ {s8 : Shared} {σ8 : St} {H8 : Hp} {pl : List (Addr × Obj)}, Inv Y pl σ8 H8 s8 → Inv Y [] (slotsY mp σ) H8 s8 := fun {s8 σ8 H8 pl} I8 => by
        obtain ⟨m8, hn8, _⟩ := I8.loc
        refine ⟨I8.ok, I8.os, I8.bare, I8.base, ⟨m8, hn8, fun i x v e1 e2 e3 => ?_⟩, I8.cell, I8.free, I8.freeC, fun p hp => absurd (show p ∈ ([] : List (Addr × Obj)) from hp) (by simp), I8.hok, lenY⟩
        obtain ⟨u, c, ru, hk, ec, ⟨oc, hoc, hocd⟩, hn, hx⟩ := capt i x v e1 e2
        rcases hn with hn | ⟨ob, ub, hn⟩
        · obtain ⟨sl, e⟩ := I8.base.any hoc hn hx
          exact ⟨u, ru, .inr ⟨hk, c, ec, _, e, hocd⟩⟩
        · obtain ⟨e1, _⟩ := I.hok c _ hn
          obtain ⟨e2, _⟩ := I8.hok c _ (I8.base.frzs c ob ub hn)
          have e3 := k2 _ _ e1
          rw [hoc] at e3; cases e3
          exact ⟨u, ru, .inr ⟨hk, c, ec, oc, e2, hocd⟩⟩
      cases ok with
      | false =>
        obtain ⟨m', hm', w'⟩ := q7
        obtain ⟨b1, b2, b3, b4⟩ := back I7
        exact ⟨m', hm', i + 1, ys, H7, its, drop I7, b1, b2, b3, ⟨kk, b4⟩, rv3, w'⟩
      | true =>
        refine thn (he _ _ s7 σ6 H7 _ I7 q7) fun y s8 ⟨yv, H8, I8, r8, q8⟩ => ?_
        obtain ⟨b1, b2, b3, b4⟩ := back I8
        have hl : ys.length = its.size := by simpa using rv3.length
        refine wpAny_list_append_plain (items := its) ⟨kk, b4⟩ (fun h' pl' sb => ?_) (by omega)
        obtain ⟨m', hm', w'⟩ := q8
        have I9 : Inv Y [] (slotsY mp σ) H8 { s8 with heap := h' } := (drop I8).turned (it := D) (t' := s8.toks) (fun b o hb e => (sb.2 b hb).trans e) b3 hDC (.inl List.mem_cons_self) (fun x c e => ltD (cellLt x c (clF x c e))) fun p hp => absurd (show p ∈ ([] : List (Addr × Obj)) from hp) (by simp)
        refine ⟨m', hm', i + 1, ys ++ [yv], H8, its.push y, I9, ?_, b2, b3, pl', ?_, w'⟩
        · exact T.keep _ _ _ b1 fun b hb o e => (sb.2 b (fun z => dFp (z ▸ hb))).trans e
        · rw [Array.toList_push]
          exact rv3.append (.cons r8 .nil)
  exact codeAny_compStart_list (keyC _ _ rfl) (T.self _ 0 _ _ _ (T.keep 0 _ _ st fun b _ o e => k1 b o (k2 b o e)) (keyC _ _ rfl))
theorem pe_comp {scope : Scope} {NY : List Str} {mp : List (Option Nat)} {tg iter elt : Expr} {ifs : List Expr} {pos : Pos} {wi : TI} {g : CI → TG} {tt : CI → TT} {te : CI → TE}
    (S : CompScope X scope NY mp) (hc : X.calm = true) (hi : PI X tg iter wi)
    (hg : ∀ c, PG (compCx X scope NY c) tg (g c)) (ht : ∀ c, PF (compCx X scope NY c) ifs (tt c)) (he : ∀ c, PE (compCx X scope NY c) elt (te c))
    (hs : ∀ x, foldedSetIterable iter X.env x = pure x := by intro _; rfl) : PE X (.ListComp elt [⟨tg, iter, ifs, 0⟩] scope pos) (tComp wi mp g tt te) := by
  intro pins s σ H Q I h
  rw [eval_ListComp]
  refine wpAny_comprehension_free (use := none) rfl hs (closureFor_of fun y hy hk => I.ok.has y.1 (S.free y hy hk)) S.kind S.names (thn (hi pins s σ H _ I h) fun v s1 h1 => thn h1 fun itv s2 h2 => ?_)
  obtain ⟨it, fp, tn, J, H2, e, I2, T, st2, f2, hk⟩ := h2
  subst e
  refine comp_block (RR := fun acc C => compPost (model X.prog X.w) X.A X.xe none (EP X pins σ Q) acc C) S hc I2 T st2 f2 hg ht he hk ?_
  intro s' C m ys H' q hD hC hCD hn hI hct
  refine ⟨m, hn, fun h' sb => ?_⟩
  have J' := hI q.1
  refine ⟨.ref s2.heap.objs.size, _, J'.turned (it := C) (t' := s'.toks) (fun b o hb e => (sb.2 b hb).trans e) (by rw [upd_ne hCD]; exact hC) hct.1 (.inr hct.2.1) hct.2.2.1 hct.2.2.2, rfl, q.2 _ hD⟩
end
end L2
namespace TS
open PySem PyProof.Rows
set_option autoImplicit false
def ky (p : Keyed) : Int := numOf p.1
section
variable {prog : Program} {w : World} {A : Around} {E : Value → Shared → Prop} {s : Shared} {a₀ : Array Keyed}
end
end TS
namespace TS
open PySem PyProof.Rows
set_option autoImplicit false
def gallop' : Bool → Keyed → Array Keyed → Nat → Nat → Nat → StateT SortSt Sem (Option Nat) := sortPriv% PySem.Builtin.gallop
section
variable {prog : Program} {w : World} {A : Around} {E : Value → Shared → Prop} {s : Shared}
variable {st : SortSt} {ask : Nat → StateT SortSt Sem (Option Bool)} {g : Nat → Bool} {n : Nat}
  (hask : ∀ (i : Nat) (R : Option Bool → SortSt → Prop), i < n → R (some (g i)) st → wpS (model prog w) A E s (ask i) R st)
  (mono : ∀ i j, i ≤ j → j < n → g j = true → g i = true)
include hask mono
end
section
variable {prog : Program} {w : World} {A : Around} {E : Value → Shared → Prop} {s : Shared} {st : SortSt}
end
end TS
namespace TS
open PySem PyProof.Rows
set_option autoImplicit false
def Sd (l : List Keyed) : Prop := l.Pairwise fun p q => ky p ≤ ky q
structure Mg (a b : List Keyed) (o : List Keyed) (x y : Nat) : Prop where
  xa : x ≤ a.length
  yb : y ≤ b.length
  pm : (o ++ (a.drop x ++ b.drop y)).Perm (a ++ b)
  sd : Sd o
  le : ∀ p ∈ o, ∀ q, (q ∈ a.drop x ∨ q ∈ b.drop y) → ky p ≤ ky q
def setMG (g : Nat) : StateT SortSt Sem Unit := (sortPriv% PySem.Builtin.setMinGallop) g
def fin (a b o : Array Keyed) (x y : Nat) : Array Keyed := o ++ a.extract x a.size ++ b.extract y b.size
section
variable {prog : Program} {w : World} {A : Around} {E : Value → Shared → Prop} {s : Shared} {a b : Array Keyed}
structure In (a b o : Array Keyed) (x y : Nat) : Prop where
  mg : Mg a.toList b.toList o.toList x y
  x1 : x + 1 < a.size
  y1 : y < b.size
end
end TS
namespace TS
open PySem PyProof.Rows
set_option autoImplicit false
def fiH (a b o : Array Keyed) (x y : Nat) : Array Keyed := a.extract 0 x ++ b.extract 0 y ++ o.reverse
def fiB (a b o : Array Keyed) (x y : Nat) : Array Keyed := b.extract 0 y ++ a.extract 0 x ++ o.reverse
abbrev GH := Option (Array Keyed) × Nat × Nat × Array Keyed × Nat × Nat × Nat
def hi3 (a b o : Array Keyed) (x y mg ca cb : Nat) : StateT SortSt Sem (ForInStep GH) := do
  let p ← elem' a (x - 1)
  if (x - 1 == 0) = true then pure (ForInStep.done (some (fiH a b (o.push p) (x - 1) y), x - 1, y, o.push p, mg, ca, cb))
  else if (decide (ca < 7) && decide (cb < 7)) = true then pure (ForInStep.done (none, x - 1, y, o.push p, mg, ca, cb))
  else pure (ForInStep.yield (none, x - 1, y, o.push p, mg, ca, cb))
def hi2 (a b o : Array Keyed) (x y mg ca cb : Nat) : StateT SortSt Sem (ForInStep GH) := do
  let p ← elem' b (y - 1)
  if (y - 1 == 1) = true then pure (ForInStep.done (some (fiB a b (o.push p) x (y - 1)), x, y - 1, o.push p, mg, ca, cb))
  else do
    let q ← elem' a (x - 1)
    let r ← gallop' true q b 0 (y - 1) (y - 1 - 1)
    match r with
      | some t =>
        if y - 1 - t > 0 then
          if (t == 1) = true then pure (ForInStep.done (some (fiB a b (o.push p ++ (b.extract t (y - 1)).reverse) x t), x, t, o.push p ++ (b.extract t (y - 1)).reverse, mg, ca, y - 1 - t))
          else if (t == 0) = true then pure (ForInStep.done (some (fiH a b (o.push p ++ (b.extract t (y - 1)).reverse) x t), x, t, o.push p ++ (b.extract t (y - 1)).reverse, mg, ca, y - 1 - t))
          else hi3 a b (o.push p ++ (b.extract t (y - 1)).reverse) x t mg ca (y - 1 - t)
        else hi3 a b (o.push p) x (y - 1) mg ca (y - 1 - t)
      | _ => pure (ForInStep.done (some (fiH a b (o.push p) x (y - 1)), x, y - 1, o.push p, mg, ca, cb))
def hi1 (a b o : Array Keyed) (x y mg ca cb : Nat) : StateT SortSt Sem (ForInStep GH) := do
  setMG mg
  let q ← elem' b (y - 1)
  let r ← gallop' false q a 0 x (x - 1)
  match r with
    | some t =>
      if x - t > 0 then
        if (t == 0) = true then pure (ForInStep.done (some (fiH a b (o ++ (a.extract t x).reverse) t y), t, y, o ++ (a.extract t x).reverse, mg, x - t, cb))
        else hi2 a b (o ++ (a.extract t x).reverse) t y mg (x - t) cb
      else hi2 a b o x y mg (x - t) cb
    | _ => pure (ForInStep.done (some (fiH a b o x y), x, y, o, mg, ca, cb))
section
variable {prog : Program} {w : World} {A : Around} {E : Value → Shared → Prop} {s : Shared} {a b : Array Keyed}
end
end TS
namespace TS
open PySem PyProof.Rows
set_option autoImplicit false
def lay (xs : Array Keyed) (sa : Nat) (r : List Keyed) : Array Keyed := r.zipIdx.foldl (fun a (p, j) => a.setIfInBounds (sa + j) p) xs
section
variable {prog : Program} {w : World} {A : Around} {E : Value → Shared → Prop} {s : Shared} {a₀ : Array Keyed}
end
end TS
namespace TS
open PySem PyProof.Rows
set_option autoImplicit false
section
variable {prog : Program} {w : World} {A : Around} {E : Value → Shared → Prop} {s : Shared} {a₀ : Array Keyed}
end
section
variable {prog : Program} {w : World} {A : Around} {E : Value → Shared → Prop} {s : Shared}
end
end TS
namespace TS
open PySem PyProof.Rows
set_option autoImplicit false
section
variable {prog : Program} {w : World} {A : Around} {E : Value → Shared → Prop} {s : Shared}
end
end TS
namespace TS
open PySem PyProof.Rows
set_option autoImplicit false
section
variable {prog : Program} {w : World}
section
variable {A : Around} {R : Result → Shared → Prop} {J : Addr} {feet hand : List Addr} {G : Array GenState → Array GenState → Prop} {n : Nat} {P : Nat → Value → Prop} {Z : Nat → Shared → Prop}
end
section
variable {A : Around} {E : Value → Shared → Prop} {s : Shared}
end
end
end TS
namespace TS
open PySem PyProof.Rows
set_option autoImplicit false
section
variable {prog : Program} {w : World} {A : Around} {E : Value → Shared → Prop} {s : Shared}
end
end TS
namespace TS
open PySem PyProof.Rows
set_option autoImplicit false
section
variable {prog : Program} {w : World} {A : Around} {E : Value → Shared → Prop} {s : Shared}
end
end TS
namespace FL
open PySem PySem.Spec PyProof.Rows L2
abbrev Frag := PySem.W.Frag
def KLst (K : Frag) (a : Addr) (xs : List V) : Prop := ∃ (o : Obj) (its : Array Value) (n : Nat), K.lookup a = some o ∧ o.cls = .type "list" ∧ o.dict = none ∧ o.data = .seq its n ∧ its.size ≤ sizeLine ∧ Vals xs its.toList
def KTup (K : Frag) (a : Addr) (xs : List V) : Prop := ∃ (o : Obj) (its : Array Value) (n : Nat), K.lookup a = some o ∧ o.cls = .type "tuple" ∧ o.data = .seq its n ∧ its.size ≤ sizeLine ∧ Vals xs its.toList
structure LamT where
  qual : Str
  params : Arguments
  body : FuncBody
  scope : Scope
def lamsE (q : Str) : Nat → Expr → List LamT
  | 0, _ => []
  | n + 1, e => match e with
    | .Lambda a b sc _ => [⟨q ++ "<lambda>", a, .expr b, sc⟩]
    | .Call _ as _ _ => as.flatMap (lamsE q n)
    | .Compare l _ cs _ => lamsE q n l ++ cs.flatMap (lamsE q n)
    | .BoolOp _ vs _ => vs.flatMap (lamsE q n)
    | .UnaryOp _ o _ => lamsE q n o
    | .BinOp l _ r _ => lamsE q n l ++ lamsE q n r
    | .IfExp t b o _ => lamsE q n t ++ (lamsE q n b ++ lamsE q n o)
    | .List es _ => es.flatMap (lamsE q n)
    | .Tuple es _ _ => es.flatMap (lamsE q n)
    | .Subscript v i _ => lamsE q n v ++ lamsE q n i
    | _ => []
def lamsS (q : Str) : Nat → Stmt → List LamT
  | 0, _ => []
  | n + 1, s => match s with
    | .FunctionDef x a b _ _ _ sc _ _ _ => [⟨q ++ x, a, .stmts b, sc⟩]
    | .Assign _ e _ => lamsE q 12 e
    | .Return (some e) _ => lamsE q 12 e
    | .Expr e _ => lamsE q 12 e
    | .If t a b _ => lamsE q 12 t ++ (a.flatMap (lamsS q n) ++ b.flatMap (lamsS q n))
    | .For _ _ a _ _ => a.flatMap (lamsS q n)
    | .While _ a _ _ => a.flatMap (lamsS q n)
    | _ => []
def lamsOf (x : Str) (b : List Stmt) : List LamT := b.flatMap (lamsS (x ++ ".<locals>.") 8)
def textIn (K : PySem.W.Frag) (m n : Nat) : Option LamT := (makers[m]?).bind fun x => match PySem.W.nsIn K mainGlobals x with
  | some (some (.ref f)) => (match K.lookup f with
    | some ⟨_, _, .func fd, _⟩ => (match fd.body with
      | .stmts b => (lamsOf x b)[n]?
      | _ => none)
    | _ => none)
  | _ => none
def freeR (l : List (Str × NameKind)) : List Str := ((l.filter fun y => y.2 == NameKind.free).map (·.1)).reverse
inductive ClosOk (H : Hp) (O : Addr → Prop) : List (Str × Addr) → List V → Prop
  | nil : ClosOk H O [] []
  | cons {n : Str} {c : Addr} {o : Obj} {u : HO} {w : Value} {x : V} {cl : List (Str × Addr)} {xs : List V} (no : ¬ O c) (h : H c = some (.frz o u)) (d : o.data = .cell (some w)) (r : RelV x w) (t : ClosOk H O cl xs) : ClosOk H O ((n, c) :: cl) (x :: xs)
def LamAt (H : Hp) (O : Addr → Prop) (f : Addr) (t : LamT) (cl : List (Str × Addr)) : Prop := ¬ O f ∧ ∃ (o oc : Obj) (u uc : HO) (fd : FuncData) (c : Addr) (vs : Array Value) (tq : Tok),
  H f = some (.frz o u) ∧ o.cls = .type "function" ∧ o.data = .func fd ∧ fd.qualname = t.qual ∧ fd.params = t.params ∧ fd.body = t.body ∧ fd.scope = t.scope ∧ fd.globals = mainGlobals ∧ fd.closure = cl ∧ fd.defaults = .none ∧ fd.kwdefaults = .none ∧ fd.code = .ref c ∧ fd.builtins = builtinsNs ∧
  ¬ O c ∧ H c = some (.frz oc uc) ∧ oc.data = .fields vs ∧ vs[1]? = some (.str t.qual tq)
mutual
inductive Rep (K : Frag) (H : Hp) (O : Addr → Prop) : V → D → Prop
  | non : Rep K H O .non .non
  | bl (b : Bool) : Rep K H O (.bl b) (.bl b)
  | int (i : Int) : Rep K H O (.int i) (.int i)
  | str (x : Str) : Rep K H O (.str x) (.str x)
  | tup {a : Addr} {xs : List V} {ds : List D} (n : ¬ O a) (h : Rd H a (.tup xs)) (r : Reps K H O xs ds) : Rep K H O (.ref a) (.tup ds)
  | tupK {a : Addr} {xs : List V} {ds : List D} (h : KTup K a xs) (r : Reps K H O xs ds) : Rep K H O (.ref a) (.tup ds)
  | lst {a : Addr} {xs : List V} {ds : List D} (n : ¬ O a) (h : Rd H a (.lst xs)) (r : Reps K H O xs ds) : Rep K H O (.ref a) (.lst ds)
  | lstK {a : Addr} {xs : List V} {ds : List D} (h : KLst K a xs) (r : Reps K H O xs ds) : Rep K H O (.ref a) (.lst ds)
  | dct {a : Addr} {kvs : List (Key × V)} {ks : List Key} {ds : List D} (n : ¬ O a) (h : H a = some (.dK kvs)) (e : kvs.map (·.1) = ks) (r : Reps K H O (kvs.map (·.2)) ds) : Rep K H O (.ref a) (.dct ks ds)
  | ins {a C dx : Addr} {t : Nat} {kvs : List (Str × V)} {ds : List D} (c : PySem.W.nsIn K mainGlobals (clsName t) = some (some (.ref C))) (n : ¬ O a) (h : H a = some (.ins C dx kvs)) (e : kvs.map (·.1) = clsFlds t) (r : Reps K H O (kvs.map (·.2)) ds) : Rep K H O (.ref a) (.ins t ds)
  | clo {f : Addr} {m n : Nat} {t : LamT} {cl : List (Str × Addr)} {xs : List V} {ds : List D} (tx : textIn K m n = some t) (h : LamAt H O f t cl) (e : cl.map (·.1) = freeR t.scope.names) (nd : (cl.map (·.2)).Nodup) (c : ClosOk H O cl xs) (r : Reps K H O xs ds) : Rep K H O (.ref f) (.clo m n ds)
  | fnK {f : Addr} {k : Nat} (h : PySem.W.nsIn K mainGlobals (fnName k) = some (some (.ref f))) : Rep K H O (.ref f) (.clo 1000 k [])
inductive Reps (K : Frag) (H : Hp) (O : Addr → Prop) : List V → List D → Prop
  | nil : Reps K H O [] []
  | cons {x : V} {d : D} {xs : List V} {ds : List D} (h : Rep K H O x d) (t : Reps K H O xs ds) : Reps K H O (x :: xs) (d :: ds)
end
section
variable {K : Frag} {H H' : Hp} {O O' : Addr → Prop}
def Keep (O : Addr → Prop) (H H' : Hp) : Prop := ∀ b o, ¬ O b → H b = some o → H' b = some o
theorem Keep.of_same (h : Same H H') : Keep O H H' := fun b o _ e => h b o e
theorem Keep.rd {a : Addr} {u : HO} (k : Keep O H H') (n : ¬ O a) (h : Rd H a u) : Rd H' a u := by
  rcases h with h | ⟨o, h⟩
  · exact .inl (k _ _ n h)
  · exact .inr ⟨o, k _ _ n h⟩
theorem ClosOk.keep (k : Keep O H H') : ∀ {cl : List (Str × Addr)} {xs : List V}, ClosOk H O cl xs → ClosOk H' O cl xs
  | _, _, .nil => .nil
  | _, _, .cons no h d r t => .cons no (k _ _ no h) d r (ClosOk.keep k t)
theorem LamAt.keep {f : Addr} {t : LamT} {cl : List (Str × Addr)} (k : Keep O H H') (h : LamAt H O f t cl) : LamAt H' O f t cl := by
  obtain ⟨n, o, oc, u, uc, fd, c, vs, tq, h1, h2, h3, h4, h5, h6, h7, h8, h9, h10, h11, h12, h13, h14, h15, h16, h17⟩ := h
  exact ⟨n, o, oc, u, uc, fd, c, vs, tq, k _ _ n h1, h2, h3, h4, h5, h6, h7, h8, h9, h10, h11, h12, h13, h14, k _ _ h14 h15, h16, h17⟩
theorem ClosOk.nots (k : ∀ a, O' a → O a) : ∀ {cl : List (Str × Addr)} {xs : List V}, ClosOk H O cl xs → ClosOk H O' cl xs
  | _, _, .nil => .nil
  | _, _, .cons no h d r t => .cons (fun z => no (k _ z)) h d r (ClosOk.nots k t)
theorem LamAt.nots {f : Addr} {t : LamT} {cl : List (Str × Addr)} (k : ∀ a, O' a → O a) (h : LamAt H O f t cl) : LamAt H O' f t cl := by
  obtain ⟨n, o, oc, u, uc, fd, c, vs, tq, h1, h2, h3, h4, h5, h6, h7, h8, h9, h10, h11, h12, h13, h14, h15, h16, h17⟩ := h
  exact ⟨fun z => n (k _ z), o, oc, u, uc, fd, c, vs, tq, h1, h2, h3, h4, h5, h6, h7, h8, h9, h10, h11, h12, h13, fun z => h14 (k _ z), h15, h16, h17⟩
def ins1 (p : Addr) (O : Addr → Prop) : Addr → Prop := fun b => b = p ∨ O b
theorem ClosOk.ins {p : Addr} (hp : H p = none) : ∀ {cl : List (Str × Addr)} {xs : List V}, ClosOk H O cl xs → ClosOk H (ins1 p O) cl xs
  | _, _, .nil => .nil
  | _, _, .cons no h d r t => .cons (fun z => z.elim (fun e => by rw [e, hp] at h; cases h) no) h d r (ClosOk.ins hp t)
theorem LamAt.ins {p f : Addr} {t : LamT} {cl : List (Str × Addr)} (hp : H p = none) (h : LamAt H O f t cl) : LamAt H (ins1 p O) f t cl := by
  obtain ⟨n, o, oc, u, uc, fd, c, vs, tq, h1, h2, h3, h4, h5, h6, h7, h8, h9, h10, h11, h12, h13, h14, h15, h16, h17⟩ := h
  exact ⟨fun z => z.elim (fun e => by rw [e, hp] at h1; cases h1) n, o, oc, u, uc, fd, c, vs, tq, h1, h2, h3, h4, h5, h6, h7, h8, h9, h10, h11, h12, h13, fun z => z.elim (fun e => by rw [e, hp] at h15; cases h15) h14, h15, h16, h17⟩
mutual
theorem Rep.keep (k : Keep O H H') : ∀ {v : V} {d : D}, Rep K H O v d → Rep K H' O v d
  | _, _, .non => .non
  | _, _, .bl b => .bl b
  | _, _, .int i => .int i
  | _, _, .str x => .str x
  | _, _, .tup n h r => .tup n (k.rd n h) (Reps.keep k r)
  | _, _, .tupK h r => .tupK h (Reps.keep k r)
  | _, _, .lst n h r => .lst n (k.rd n h) (Reps.keep k r)
  | _, _, .lstK h r => .lstK h (Reps.keep k r)
  | _, _, .dct n h e r => .dct n (k _ _ n h) e (Reps.keep k r)
  | _, _, .ins c n h e r => .ins c n (k _ _ n h) e (Reps.keep k r)
  | _, _, .clo tx h e nd c r => .clo tx (h.keep k) e nd (c.keep k) (Reps.keep k r)
  | _, _, .fnK h => .fnK h
theorem Reps.keep (k : Keep O H H') : ∀ {vs : List V} {ds : List D}, Reps K H O vs ds → Reps K H' O vs ds
  | _, _, .nil => .nil
  | _, _, .cons h t => .cons (Rep.keep k h) (Reps.keep k t)
end
theorem Rep.mono (k : Same H H') {v : V} {d : D} (h : Rep K H O v d) : Rep K H' O v d := h.keep (.of_same k)
theorem Reps.mono (k : Same H H') {v : List V} {d : List D} (h : Reps K H O v d) : Reps K H' O v d := h.keep (.of_same k)
mutual
theorem Rep.less (k : ∀ a, O' a → O a) : ∀ {v : V} {d : D}, Rep K H O v d → Rep K H O' v d
  | _, _, .non => .non
  | _, _, .bl b => .bl b
  | _, _, .int i => .int i
  | _, _, .str x => .str x
  | _, _, .tup n h r => .tup (fun z => n (k _ z)) h (Reps.less k r)
  | _, _, .tupK h r => .tupK h (Reps.less k r)
  | _, _, .lst n h r => .lst (fun z => n (k _ z)) h (Reps.less k r)
  | _, _, .lstK h r => .lstK h (Reps.less k r)
  | _, _, .dct n h e r => .dct (fun z => n (k _ z)) h e (Reps.less k r)
  | _, _, .ins c n h e r => .ins c (fun z => n (k _ z)) h e (Reps.less k r)
  | _, _, .clo tx h e nd c r => .clo tx (h.nots k) e nd (c.nots k) (Reps.less k r)
  | _, _, .fnK h => .fnK h
theorem Reps.less (k : ∀ a, O' a → O a) : ∀ {vs : List V} {ds : List D}, Reps K H O vs ds → Reps K H O' vs ds
  | _, _, .nil => .nil
  | _, _, .cons h t => .cons (Rep.less k h) (Reps.less k t)
end
theorem Rd.some {a : Addr} {u : HO} (h : Rd H a u) : H a ≠ none := by
  rcases h with h | ⟨o, h⟩ <;> (rw [h]; simp)
mutual
theorem Rep.more {p : Addr} (hp : H p = none) : ∀ {v : V} {d : D}, Rep K H O v d → Rep K H (ins1 p O) v d
  | _, _, .non => .non
  | _, _, .bl b => .bl b
  | _, _, .int i => .int i
  | _, _, .str x => .str x
  | _, _, .tup n h r => .tup (fun z => z.elim (fun e => Rd.some h (e ▸ hp)) n) h (Reps.more hp r)
  | _, _, .tupK h r => .tupK h (Reps.more hp r)
  | _, _, .lst n h r => .lst (fun z => z.elim (fun e => Rd.some h (e ▸ hp)) n) h (Reps.more hp r)
  | _, _, .lstK h r => .lstK h (Reps.more hp r)
  | _, _, .dct n h e r => .dct (fun z => z.elim (fun e => by rw [e, hp] at h; cases h) n) h e (Reps.more hp r)
  | _, _, .ins c n h e r => .ins c (fun z => z.elim (fun e => by rw [e, hp] at h; cases h) n) h e (Reps.more hp r)
  | _, _, .clo tx h e nd c r => .clo tx (h.ins hp) e nd (c.ins hp) (Reps.more hp r)
  | _, _, .fnK h => .fnK h
theorem Reps.more {p : Addr} (hp : H p = none) : ∀ {vs : List V} {ds : List D}, Reps K H O vs ds → Reps K H (ins1 p O) vs ds
  | _, _, .nil => .nil
  | _, _, .cons h t => .cons (Rep.more hp h) (Reps.more hp t)
end
def mutO : HO → Bool
  | .lst _ | .dK _ | .dT _ | .set _ _ | .ins _ _ _ => true
  | _ => false
def Old (H : Hp) : Addr → Prop := fun a => ∃ o, H a = some o ∧ mutO o = true
theorem Old.mono (k : Same H H') {a : Addr} (h : Old H a) : Old H' a := let ⟨o, e, m⟩ := h; ⟨o, k _ _ e, m⟩
def none0 : Addr → Prop := fun _ => False
mutual
theorem Rep.flatten (ho : ∀ a, O a → Old H a) : ∀ {v : V} {d : D}, flat d = true → Rep K H O' v d → Rep K H O v d
  | _, _, _, .non => .non
  | _, _, _, .bl b => .bl b
  | _, _, _, .int i => .int i
  | _, _, _, .str x => .str x
  | _, _, f, .tup (a := a) n h r => .tup (fun z => by
      obtain ⟨u, e, m⟩ := ho a z
      rcases h with h | ⟨o, h⟩
      · rw [e] at h; cases h; cases m
      · rw [e] at h; cases h; cases m) h (Reps.flatten ho (by simpa [flat] using f) r)
  | _, _, f, .tupK h r => .tupK h (Reps.flatten ho (by simpa [flat] using f) r)
  | _, _, f, .lst _ _ _ => by simp [flat] at f
  | _, _, f, .lstK _ _ => by simp [flat] at f
  | _, _, f, .dct _ _ _ _ => by simp [flat] at f
  | _, _, f, .ins _ _ _ _ _ => by simp [flat] at f
  | _, _, f, .clo _ _ _ _ _ _ => by simp [flat] at f
  | _, _, f, .fnK _ => by simp [flat] at f
theorem Reps.flatten (ho : ∀ a, O a → Old H a) : ∀ {vs : List V} {ds : List D}, flats ds = true → Reps K H O' vs ds → Reps K H O vs ds
  | _, _, _, .nil => .nil
  | _, _, f, .cons h t => by
    simp only [flats, Bool.and_eq_true] at f
    exact .cons (Rep.flatten ho f.1 h) (Reps.flatten ho f.2 t)
end
theorem Reps.length : ∀ {vs : List V} {ds : List D}, Reps K H O vs ds → vs.length = ds.length
  | _, _, .nil => rfl
  | _, _, .cons _ t => by simp [Reps.length t]
theorem Reps.get : ∀ {vs : List V} {ds : List D} {i : Nat} {d : D}, Reps K H O vs ds → ds[i]? = some d → ∃ v, vs[i]? = some v ∧ Rep K H O v d
  | _, _, _, _, .nil, e => by simp at e
  | _, _, 0, _, .cons h _, e => by simp at e; subst e; exact ⟨_, rfl, h⟩
  | _, _, i + 1, d, .cons _ t, e => by
    obtain ⟨v, h1, h2⟩ := Reps.get (i := i) (d := d) t (by simpa using e)
    exact ⟨v, by simpa using h1, h2⟩
theorem Reps.append : ∀ {xs ys : List V} {ds es : List D}, Reps K H O xs ds → Reps K H O ys es → Reps K H O (xs ++ ys) (ds ++ es)
  | _, _, _, _, .nil, s => s
  | _, _, _, _, .cons r t, s => .cons r (Reps.append t s)
theorem Reps.set {x : V} {d : D} (r : Rep K H O x d) : ∀ {xs : List V} {ds : List D} (i : Nat), Reps K H O xs ds → Reps K H O (xs.set i x) (ds.set i d)
  | _, _, _, .nil => .nil
  | _, _, 0, .cons _ t => .cons r t
  | _, _, i + 1, .cons q t => .cons q (Reps.set r i t)
theorem Reps.drop : ∀ {xs : List V} {ds : List D} (n : Nat), Reps K H O xs ds → Reps K H O (xs.drop n) (ds.drop n)
  | _, _, 0, r => r
  | _, _, _ + 1, .nil => .nil
  | _, _, n + 1, .cons _ t => Reps.drop n t
theorem Reps.take : ∀ {xs : List V} {ds : List D} (n : Nat), Reps K H O xs ds → Reps K H O (xs.take n) (ds.take n)
  | _, _, 0, _ => .nil
  | _, _, _ + 1, .nil => .nil
  | _, _, n + 1, .cons r t => .cons r (Reps.take n t)
theorem Reps.ints : ∀ (ns : List Int), Reps K H O (ns.map V.int) (ns.map D.int)
  | [] => .nil
  | n :: r => .cons (.int n) (Reps.ints r)
def WRep (K : Frag) (H : Hp) (O : Addr → Prop) (v : V) (d : D) : Prop := Rep K H O v d ∨ ∃ a xs l, v = .ref a ∧ d = .lst l ∧ O a ∧ H a = some (.lst xs) ∧ Reps K H O xs l
theorem WRep.mono (k : Same H H') {v : V} {d : D} (h : WRep K H O v d) : WRep K H' O v d := by
  rcases h with h | ⟨a, xs, l, e1, e2, ho, h, r⟩
  · exact .inl (h.mono k)
  · exact .inr ⟨a, xs, l, e1, e2, ho, k _ _ h, r.mono k⟩
theorem WRep.any {v : V} {d : D} (h : WRep K H O v d) : Rep K H none0 v d := by
  rcases h with h | ⟨a, xs, l, rfl, rfl, ho, h, r⟩
  · exact h.less (fun _ z => z.elim)
  · exact .lst (fun z => z.elim) (.inl h) (r.less fun _ z => z.elim)
theorem WRep.seqL {v : V} {l : List D} (h : WRep K H O v (.lst l)) : ∃ a xs, v = .ref a ∧ SqL K H a xs ∧ Reps K H O xs l := by
  rcases h with h | ⟨a, xs, l', rfl, e, ho, h, r⟩
  · cases h with
    | lst n h r => exact ⟨_, _, rfl, .inl h, r⟩
    | lstK h r => exact ⟨_, _, rfl, .inr h, r⟩
  · cases e; exact ⟨a, xs, rfl, .inl (.inl h), r⟩
theorem WRep.seqT {v : V} {l : List D} (h : WRep K H O v (.tup l)) : ∃ a xs, v = .ref a ∧ SqT K H a xs ∧ Reps K H O xs l := by
  rcases h with h | ⟨a, xs, l', rfl, e, ho, h, r⟩
  · cases h with
    | tup n h r => exact ⟨_, _, rfl, .inl h, r⟩
    | tupK h r => exact ⟨_, _, rfl, .inr h, r⟩
  · cases e
theorem WRep.int' {v : V} {i : Int} (h : WRep K H O v (.int i)) : v = .int i := by
  rcases h with h | ⟨a, xs, l', rfl, e, _⟩
  · cases h; rfl
  · cases e
theorem WRep.bl' {v : V} {i : Bool} (h : WRep K H O v (.bl i)) : v = .bl i := by
  rcases h with h | ⟨a, xs, l', rfl, e, _⟩
  · cases h; rfl
  · cases e
theorem WRep.str' {v : V} {i : Str} (h : WRep K H O v (.str i)) : v = .str i := by
  rcases h with h | ⟨a, xs, l', rfl, e, _⟩
  · cases h; rfl
  · cases e
end
def SlOk (K : Frag) (H₀ H : Hp) (O : Addr → Prop) : Option V → Sl → Prop
  | _, .no => True
  | some x, .v d => Rep K H O x d
  | some (.ref a), .own l => O a ∧ ∃ xs, H a = some (.lst xs) ∧ Reps K H O xs l
  | some (.ref a), .fr l => ¬ O a ∧ H₀ a = none ∧ ∃ xs, H a = some (.lst xs) ∧ Reps K H O xs l
  | some (.ref a), .exc t => ∃ C o u, PySem.W.nsIn K mainGlobals (xName t) = some (some (.ref C)) ∧ H a = some (.frz o u) ∧ o.cls = .ref C
  | _, _ => False
def IsOwn (ds : List Sl) (i : Nat) : Prop := ∃ l, ds[i]? = some (.own l)
inductive HI where
  | rep (v : V) (d : D) | base (B : Addr → Prop)
abbrev Hold := List HI
def HOk (K : Frag) (H₀ H : Hp) (O : Addr → Prop) : HI → Prop
  | .rep v d => Rep K H O v d
  | .base B => ∀ a, B a → O a ∧ H₀ a ≠ none
structure Ok (K : Frag) (H₀ H : Hp) (O : Addr → Prop) (σ : L2.St) (ds : List Sl) (hd : Hold) : Prop where
  same : Same H₀ H
  fresh : ∀ (i : Nat) (l : List D) (a : Addr), ds[i]? = some (.own l) → σ[i]? = some (some (.ref a)) → H₀ a = none
  dom : ∀ a, O a → ∃ xs, H a = some (.lst xs)
  len : σ.length = ds.length
  sl : ∀ (i : Nat) (s : Sl), ds[i]? = some s → SlOk K H₀ H O (σ[i]?.join) s
  apart : ∀ (i j : Nat) (a : Addr), i ≠ j → IsOwn ds i → IsOwn ds j → σ[i]? = some (some (.ref a)) → σ[j]? = some (some (.ref a)) → False
  hold : ∀ p ∈ hd, HOk K H₀ H O p
section
variable {K : Frag} {H₀ H H' : Hp} {O O' : Addr → Prop} {σ : L2.St} {ds : List Sl} {hd : Hold}
theorem HOk.mono (k : Same H H') : ∀ {p : HI}, HOk K H₀ H O p → HOk K H₀ H' O p
  | .rep _ _, h => Rep.mono k h
  | .base _, h => h
theorem HOk.keep (k : Keep O H H') : ∀ {p : HI}, HOk K H₀ H O p → HOk K H₀ H' O p
  | .rep _ _, h => Rep.keep k h
  | .base _, h => h
theorem SlOk.mono (k : Same H H') : ∀ {x : Option V} {s : Sl}, SlOk K H₀ H O x s → SlOk K H₀ H' O x s
  | none, .no, _ => trivial
  | some (.ref _), .no, _ => trivial
  | some _, .no, _ => by simp [SlOk]
  | some x, .v d, h => by
    have h : Rep K H O x d := by cases x <;> exact h
    show SlOk K H₀ H' O (some x) (.v d)
    have := h.mono k
    cases x <;> exact this
  | some (.ref a), .own l, ⟨ho, xs, h, r⟩ => ⟨ho, xs, k _ _ h, r.mono k⟩
  | some (.ref a), .fr l, ⟨ho, h0, xs, h, r⟩ => ⟨ho, h0, xs, k _ _ h, r.mono k⟩
  | some (.ref a), .exc t, ⟨C, o, u, h1, h2, h3⟩ => ⟨C, o, u, h1, k _ _ h2, h3⟩
theorem Ok.old (o : Ok K H₀ H O σ ds hd) {a : Addr} (h : O a) : Old H a := let ⟨xs, e⟩ := o.dom a h; ⟨_, e, rfl⟩
theorem Ok.mono (k : Same H H') (o : Ok K H₀ H O σ ds hd) : Ok K H₀ H' O σ ds hd :=
  ⟨o.same.trans k, o.fresh, fun a h => let ⟨xs, e⟩ := o.dom a h; ⟨xs, k _ _ e⟩, o.len, fun i s e => (o.sl i s e).mono k, o.apart, fun p hp => (o.hold p hp).mono k⟩
theorem Ok.free {p : Addr} (o : Ok K H₀ H O σ ds hd) (h : H p = none) : ¬ O p := fun z => by
  obtain ⟨xs, e⟩ := o.dom p z
  rw [h] at e; cases e
theorem Ok.read {i : Nat} {d : D} (o : Ok K H₀ H O σ ds hd) (e : ds[i]? = some (.v d)) : ∃ v, σ[i]? = some (some v) ∧ Rep K H O v d := by
  have h := o.sl i _ e
  cases q : σ[i]? with
  | none => rw [q] at h; exact h.elim
  | some x =>
    rw [q] at h
    cases x with
    | none => exact h.elim
    | some x => exact ⟨x, rfl, by cases x <;> exact h⟩
theorem Ok.readO {i : Nat} {l : List D} (o : Ok K H₀ H O σ ds hd) (e : ds[i]? = some (.own l)) : ∃ a xs, σ[i]? = some (some (.ref a)) ∧ O a ∧ H a = some (.lst xs) ∧ Reps K H O xs l := by
  have h := o.sl i _ e
  cases q : σ[i]? with
  | none => rw [q] at h; exact h.elim
  | some x =>
    rw [q] at h
    cases x with
    | none => exact h.elim
    | some x =>
      cases x with
      | ref a => obtain ⟨ho, xs, h1, h2⟩ := h; exact ⟨a, xs, rfl, ho, h1, h2⟩
      | _ => exact h.elim
theorem Ok.readX {i t : Nat} (o : Ok K H₀ H O σ ds hd) (e : ds[i]? = some (.exc t)) : ∃ a C ob u, σ[i]? = some (some (.ref a)) ∧ PySem.W.nsIn K mainGlobals (xName t) = some (some (.ref C)) ∧ H a = some (.frz ob u) ∧ ob.cls = .ref C := by
  have h := o.sl i _ e
  cases q : σ[i]? with
  | none => rw [q] at h; exact h.elim
  | some x =>
    rw [q] at h
    cases x with
    | none => exact h.elim
    | some x =>
      cases x with
      | ref a => obtain ⟨C, ob, u, h1, h2, h3⟩ := h; exact ⟨a, C, ob, u, rfl, h1, h2, h3⟩
      | _ => exact h.elim
theorem slOk_no {x : Option V} : SlOk K H₀ H O x .no := by
  cases x with
  | none => trivial
  | some x => cases x <;> trivial
theorem slOk_v {x : V} {d : D} (h : Rep K H O x d) : SlOk K H₀ H O (some x) (.v d) := by
  cases x <;> exact h
theorem Ok.set {i : Nat} {v : V} {d : D} (o : Ok K H₀ H O σ ds hd) (r : Rep K H O v d) : Ok K H₀ H O (σ.set i (some v)) (ds.set i (.v d)) hd := by
  have own' : ∀ {j : Nat}, IsOwn (ds.set i (.v d)) j → j ≠ i ∧ IsOwn ds j := fun {j} ⟨l, e⟩ => by
    by_cases hj : j = i
    · subst hj
      by_cases hl : j < ds.length
      · rw [List.getElem?_set_self hl] at e; cases e
      · rw [List.getElem?_eq_none (by simpa using hl)] at e; cases e
    · rw [List.getElem?_set_ne (Ne.symm hj)] at e
      exact ⟨hj, l, e⟩
  refine ⟨o.same, fun j l a e1 e2 => ?_, o.dom, by simpa using o.len, fun j s e => ?_, fun j k a hjk hj hk e1 e2 => ?_, o.hold⟩
  · obtain ⟨n1, h1⟩ := own' ⟨l, e1⟩
    rw [List.getElem?_set_ne (Ne.symm n1)] at e1 e2
    exact o.fresh j l a e1 e2
  · by_cases hj : j = i
    · subst hj
      by_cases hl : j < ds.length
      · rw [List.getElem?_set_self hl] at e
        cases e
        rw [List.getElem?_set_self (by rw [o.len]; exact hl)]
        exact slOk_v r
      · rw [List.getElem?_eq_none (by simpa using hl)] at e; cases e
    · rw [List.getElem?_set_ne (Ne.symm hj)] at e
      rw [List.getElem?_set_ne (Ne.symm hj)]
      exact o.sl j s e
  · obtain ⟨n1, h1⟩ := own' hj
    obtain ⟨n2, h2⟩ := own' hk
    rw [List.getElem?_set_ne (Ne.symm n1)] at e1
    rw [List.getElem?_set_ne (Ne.symm n2)] at e2
    exact o.apart j k a hjk h1 h2 e1 e2
theorem Ok.holdMore {p : HI} (o : Ok K H₀ H O σ ds hd) (r : HOk K H₀ H O p) : Ok K H₀ H O σ ds (p :: hd) :=
  ⟨o.same, o.fresh, o.dom, o.len, o.sl, o.apart, fun q hq => (List.mem_cons.mp hq).elim (fun e => e ▸ r) (o.hold q)⟩
theorem Ok.holdLess {p : HI} (o : Ok K H₀ H O σ ds (p :: hd)) : Ok K H₀ H O σ ds hd :=
  ⟨o.same, o.fresh, o.dom, o.len, o.sl, o.apart, fun q hq => o.hold q (List.mem_cons_of_mem _ hq)⟩
end
end FL
namespace FL
open PySem PySem.Spec PyProof.Rows L2
section
variable (X : Cx)
def PV (e : Expr) (f : FE) : Prop := ∃ t, PE X e t ∧ ∀ H₀ H O σ ds hd d Q, Ok X.K H₀ H O σ ds hd → f ds = some d → (∀ v H', Same H H' → Rep X.K H' O v d → Q v H') → t σ H Q
def PVw (e : Expr) (f : FE) : Prop := ∃ t, PE X e t ∧ ∀ H₀ H O σ ds hd d Q, Ok X.K H₀ H O σ ds hd → f ds = some d → (∀ v H', Same H H' → WRep X.K H' O v d → Q v H') → t σ H Q
def PVf (e : Expr) (f : FA) : Prop := ∃ t, PE X e t ∧ ∀ H₀ H O σ ds hd l Q, Ok X.K H₀ H O σ ds hd → f ds = some l →
  (∀ a xs H', Same H H' → H a = none → H' a = some (.lst xs) → Reps X.K H' (ins1 a O) xs l → Q (.ref a) H') → t σ H Q
def PTv (e : Expr) (c : FT) : Prop := ∃ t, PT X e t ∧ ∀ H₀ H O σ ds hd b Q, Ok X.K H₀ H O σ ds hd → c ds = some b → (∀ H', Same H H' → Q b H') → t σ H Q
def PWv (e : Expr) (c : FT) : Prop := ∃ t, PW X e t ∧ ∀ H₀ H O σ ds hd b Q, Ok X.K H₀ H O σ ds hd → c ds = some b → (∀ H', Same H H' → Q b H') → t σ H Q
def PAv (es : List Expr) (f : FA) : Prop := ∃ t, PA X es t ∧ ∀ H₀ H O σ ds hd l Q, Ok X.K H₀ H O σ ds hd → f ds = some l → (∀ vs H', Same H H' → Paired (WRep X.K H' O) vs l → Q vs H') → t σ H Q
def PAs (es : List Expr) (f : FA) : Prop := ∃ t, PA X es t ∧ ∀ H₀ H O σ ds hd l Q, Ok X.K H₀ H O σ ds hd → f ds = some l → (∀ vs H', Same H H' → Reps X.K H' O vs l → Q vs H') → t σ H Q
end
section
variable {X : Cx}
theorem PV.w {e : Expr} {f : FE} (h : PV X e f) : PVw X e f := by
  obtain ⟨t, ht, hf⟩ := h
  exact ⟨t, ht, fun H₀ H O σ ds hd d Q o e q => hf H₀ H O σ ds hd d Q o e fun v H' s r => q v H' s (.inl r)⟩
theorem PVf.s {e : Expr} {f : FA} (h : PVf X e f) : PV X e (mkL f) := by
  obtain ⟨t, ht, hf⟩ := h
  refine ⟨t, ht, fun H₀ H O σ ds hd d Q o e q => ?_⟩
  unfold mkL at e
  cases hl : f ds with
  | none => rw [hl] at e; cases e
  | some l =>
    rw [hl] at e; cases e
    refine hf H₀ H O σ ds hd l Q o hl fun a xs H' s hn he r => q _ _ s ?_
    exact .lst (o.free hn) (.inl he) (r.less fun _ z => .inr z)
theorem pv_var (i : Nat) {x : Str} {pos : Pos} (hN : X.N[i]? = some x := by rfl) (hv : Vis X.env.scope x := by first | exact Or.inl rfl | exact Or.inr (Or.inl rfl) | exact Or.inr (Or.inr rfl)) (hd : (x == ("__debug__" : Str)) = false := by decide)
    (hcd : (x == ("__classdict__" : Str)) = false := by decide) : PV X (.Name x pos) (getV i) := by
  refine ⟨_, pe_var hN hv hd hcd, fun H₀ H O σ ds hd d Q o e q => ?_⟩
  unfold getV at e
  cases hs : ds[i]? with
  | none => rw [hs] at e; cases e
  | some s =>
    rw [hs] at e
    cases s with
    | v d' =>
      cases e
      obtain ⟨v, h1, h2⟩ := o.read hs
      exact ⟨v, h1, q v H (Same.refl _) h2⟩
    | no => cases e
    | exc _ => cases e
    | fr _ => cases e
    | own l => cases e
theorem pw_var (i : Nat) {x : Str} {pos : Pos} (hN : X.N[i]? = some x := by rfl) (hv : Vis X.env.scope x := by first | exact Or.inl rfl | exact Or.inr (Or.inl rfl) | exact Or.inr (Or.inr rfl)) (hd : (x == ("__debug__" : Str)) = false := by decide)
    (hcd : (x == ("__classdict__" : Str)) = false := by decide) : PVw X (.Name x pos) (getW i) := by
  refine ⟨_, pe_var hN hv hd hcd, fun H₀ H O σ ds hd d Q o e q => ?_⟩
  unfold getW at e
  cases hs : ds[i]? with
  | none => rw [hs] at e; cases e
  | some s =>
    rw [hs] at e
    cases s with
    | v d' =>
      cases e
      obtain ⟨v, h1, h2⟩ := o.read hs
      exact ⟨v, h1, q v H (Same.refl _) (.inl h2)⟩
    | no => cases e
    | exc _ => cases e
    | fr _ => cases e
    | own l =>
      cases e
      obtain ⟨a, xs, h1, h2, h3, h4⟩ := o.readO hs
      exact ⟨.ref a, h1, q _ H (Same.refl _) (.inr ⟨a, xs, l, rfl, rfl, h2, h3, h4⟩)⟩
theorem pv_int {i : Int} {j pos} : PV X (.Constant (.int i) j pos) (konst (.int i)) := ⟨_, pe_int, fun _ H _ _ _ _ _ _ _ e q => by cases e; exact q _ H (Same.refl _) (.int i)⟩
theorem pv_bl {b : Bool} {j pos} : PV X (.Constant (.bool b) j pos) (konst (.bl b)) := ⟨_, pe_bl, fun _ H _ _ _ _ _ _ _ e q => by cases e; exact q _ H (Same.refl _) (.bl b)⟩
theorem pv_non {j pos} : PV X (.Constant .none j pos) (konst .non) := ⟨_, pe_non, fun _ H _ _ _ _ _ _ _ e q => by cases e; exact q _ H (Same.refl _) .non⟩
theorem pv_str {x : Str} {j pos} : PV X (.Constant (.str x) j pos) (konst (.str x)) := ⟨_, pe_str, fun _ H _ _ _ _ _ _ _ e q => by cases e; exact q _ H (Same.refl _) (.str x)⟩
theorem pv_glob {x : Str} {v : V} {u : Value} {d : D} {pos : Pos} (hg : Gl X x) (hm : X.mg x = some u) (r : RelV v u) (hr : ∀ H O, Rep X.K H O v d) (hd : (x == ("__debug__" : Str)) = false := by decide) : PV X (.Name x pos) (konst d) :=
  ⟨_, pe_glob hg hm r hd, fun _ H O _ _ _ _ _ _ e q => by cases e; exact q _ H (Same.refl _) (hr H O)⟩
def OpS (X : Cx) (r : R2) (op : D → D → Option D) : Prop := ∀ H O x y dx dy d Q, (∀ a, O a → ∃ xs, H a = some (.lst xs)) → WRep X.K H O x dx → WRep X.K H O y dy → op dx dy = some d → (∀ v H', Same H H' → Rep X.K H' O v d → Q v H') → r x y H Q
theorem pv_tOp {r : R2} {op : D → D → Option D} (hs : OpS X r op) {a b : Expr} {fa fb : FE} {ta tb : TE} (ha : ∀ H₀ H O σ ds hd d Q, Ok X.K H₀ H O σ ds hd → fa ds = some d → (∀ v H', Same H H' → WRep X.K H' O v d → Q v H') → ta σ H Q)
    (hb : ∀ H₀ H O σ ds hd d Q, Ok X.K H₀ H O σ ds hd → fb ds = some d → (∀ v H', Same H H' → WRep X.K H' O v d → Q v H') → tb σ H Q) :
    ∀ H₀ H O σ ds hd d Q, Ok X.K H₀ H O σ ds hd → bin2 op fa fb ds = some d → (∀ v H', Same H H' → Rep X.K H' O v d → Q v H') → tOp r ta tb σ H Q := by
  intro H₀ H O σ ds hd d Q o e q
  unfold bin2 at e
  cases h1 : fa ds with
  | none => rw [h1] at e; cases e
  | some dx =>
    cases h2 : fb ds with
    | none => rw [h1, h2] at e; cases e
    | some dy =>
      rw [h1, h2] at e
      refine ha H₀ H O σ ds hd dx _ o h1 fun x H1 s1 r1 => ?_
      refine hb H₀ H1 O σ ds hd dy _ (o.mono s1) h2 fun y H2 s2 r2 => ?_
      exact hs H2 O x y dx dy d Q ((o.mono s1).mono s2).dom (r1.mono s2) r2 e fun v H' s r => q v H' ((s1.trans s2).trans s) r
theorem pv_bin {op : Operator} {r : R2} {opD : D → D → Option D} {a b : Expr} {fa fb : FE} {pos : Pos} (ho : OpR X (binaryOp op) r) (hs : OpS X r opD) (ha : PVw X a fa) (hb : PVw X b fb) : PV X (.BinOp a op b pos) (bin2 opD fa fb) := by
  obtain ⟨ta, pa, ha⟩ := ha
  obtain ⟨tb, pb, hb⟩ := hb
  exact ⟨_, pe_op ho pa pb, pv_tOp hs (a := a) (b := b) ha hb⟩
theorem pv_cmp {op : CmpOp} {r : R2} {opD : D → D → Option D} {a b : Expr} {fa fb : FE} {pos : Pos} (ho : OpR X (compareOp op) r) (hs : OpS X r opD) (ha : PVw X a fa) (hb : PVw X b fb) (hm : behindInMarks op b = false) : PV X (.Compare a [op] [b] pos) (bin2 opD fa fb) := by
  obtain ⟨ta, pa, ha⟩ := ha
  obtain ⟨tb, pb, hb⟩ := hb
  exact ⟨_, pe_cmpR ho pa pb hm, pv_tOp hs (a := a) (b := b) ha hb⟩
theorem pt_cmpV {op : CmpOp} {r : R2} {opD : D → D → Option D} {a b : Expr} {fa fb : FE} {pos : Pos} (ho : OpR X (compareOp op) r) (hs : OpS X r opD) (ha : PVw X a fa) (hb : PVw X b fb) (hm : behindInMarks op b = false) : PTv X (.Compare a [op] [b] pos) (testB (bin2 opD fa fb)) := by
  obtain ⟨ta, pa, ha⟩ := ha
  obtain ⟨tb, pb, hb⟩ := hb
  refine ⟨_, pt_cmpR ho pa pb hm, fun H₀ H O σ ds hd k Q o e q => ?_⟩
  unfold testB at e
  cases h : bin2 opD fa fb ds with
  | none => rw [h] at e; cases e
  | some d =>
    rw [h] at e
    refine pv_tOp hs (a := a) (b := b) ha hb H₀ H O σ ds hd d _ o h fun v H' s r => ?_
    cases d with
    | bl c => cases e; cases r; exact ⟨_, rfl, q H' s⟩
    | _ => cases e
theorem os_add : OpS X (fun x y H Q => rI0 (fun i j => .int (i + j)) x y H Q ∨ ∃ i j, x = .str i ∧ y = .str j ∧ i.length + j.length ≤ sizeLine ∧ Q (.str (i ++ j)) H) addD := by
  intro H O x y dx dy d Q ho rx ry e q
  cases dx <;> cases dy <;> first | (simp [addD] at e; done) | skip
  · cases e
    rw [rx.int', ry.int']
    exact .inl ⟨_, _, rfl, rfl, q _ H (Same.refl _) (.int _)⟩
  · rename_i x y
    simp only [addD] at e
    split at e
    · rename_i hl
      cases e
      rw [rx.str', ry.str']
      exact .inr ⟨_, _, rfl, rfl, hl, q _ H (Same.refl _) (.str _)⟩
    · cases e
theorem op_addU : OpR X (binaryOp .Add) (fun x y H Q => rI0 (fun i j => .int (i + j)) x y H Q ∨ ∃ i j, x = .str i ∧ y = .str j ∧ i.length + j.length ≤ sizeLine ∧ Q (.str (i ++ j)) H) := op_add.or op_add_str
theorem os_sub : OpS X (rI0 fun i j => .int (i - j)) subD := by
  intro H O x y dx dy d Q ho rx ry e q
  cases dx <;> cases dy <;> first | (simp [subD] at e; done) | skip
  cases e
  rw [rx.int', ry.int']
  exact ⟨_, _, rfl, rfl, q _ H (Same.refl _) (.int _)⟩
def CDivB (i j : Int) : Prop := divOk j
theorem op_fdivB : OpR X (binaryOp .FloorDiv) (rI CDivB fun i j => .int (i / j)) := opI fun i j _ _ _ _ _ hc q => by
  have e : i.fdiv j = i / j := Int.fdiv_eq_ediv_of_nonneg _ (Int.le_of_lt hc.1)
  refine floordiv_int (by have := hc.1; omega) ?_ (.inl (PyProof.noPylong_of_log2 hc.2))
  rw [e]; exact q
theorem os_fdiv : OpS X (rI CDivB fun i j => .int (i / j)) fdivD := by
  intro H O x y dx dy d Q ho rx ry e q
  cases dx <;> cases dy <;> first | (simp [fdivD] at e; done) | skip
  simp only [fdivD] at e
  split at e
  · rename_i hc
    cases e
    rw [rx.int', ry.int']
    exact ⟨_, _, rfl, rfl, hc, q _ H (Same.refl _) (.int _)⟩
  · cases e
theorem os_mod : OpS X (rI (fun _ j => 0 < j) fun i j => .int (i % j)) modD := by
  intro H O x y dx dy d Q ho rx ry e q
  cases dx <;> cases dy <;> first | (simp [modD] at e; done) | skip
  simp only [modD] at e
  split at e
  · rename_i hc
    cases e
    rw [rx.int', ry.int']
    exact ⟨_, _, rfl, rfl, hc, q _ H (Same.refl _) (.int _)⟩
  · cases e
theorem os_cmpI {p : Int → Int → Bool} : OpS X (rI0 fun i j => .bl (p i j)) (cmpI p) := by
  intro H O x y dx dy d Q ho rx ry e q
  cases dx <;> cases dy <;> first | (simp [cmpI] at e; done) | skip
  cases e
  rw [rx.int', ry.int']
  exact ⟨_, _, rfl, rfl, q _ H (Same.refl _) (.bl _)⟩
end
end FL
namespace FL
open PySem PySem.Spec PyProof.Rows L2
section
variable {X : Cx}
theorem PV.t {e : Expr} {f : FE} (h : PV X e f) (he : ∀ whole, isTrue e X.env whole = (do let v ← whole; standAt e.pos; holding [v] (truthy v)) := by intro _; rfl) : PTv X e (testB f) := by
  obtain ⟨t, ht, hf⟩ := h
  refine ⟨_, pt_val ht he, fun H₀ H O σ ds hd k Q o e q => ?_⟩
  unfold testB at e
  cases h : f ds with
  | none => rw [h] at e; cases e
  | some d =>
    rw [h] at e
    refine hf H₀ H O σ ds hd d _ o h fun v H' s r => ?_
    cases d with
    | bl c => cases e; cases r; exact ⟨_, rfl, q H' s⟩
    | _ => cases e
theorem pwv_and1 {a : Expr} {pos : Pos} {c : FT} (ha : PTv X a c) : PWv X (.BoolOp .And [a] pos) c := by
  obtain ⟨t, ht, hf⟩ := ha
  exact ⟨_, pw_and1 ht, hf⟩
theorem pwv_or1 {a : Expr} {pos : Pos} {c : FT} (ha : PTv X a c) : PWv X (.BoolOp .Or [a] pos) c := by
  obtain ⟨t, ht, hf⟩ := ha
  exact ⟨_, pw_or1 ht, hf⟩
theorem pwv_and {a b : Expr} {rest : List Expr} {pos : Pos} {c d : FT} (ha : PTv X a c) (hb : PWv X (.BoolOp .And (b :: rest) pos) d) : PWv X (.BoolOp .And (a :: b :: rest) pos) (andT c d) := by
  obtain ⟨t, ht, hf⟩ := ha
  obtain ⟨u, hu, hg⟩ := hb
  refine ⟨_, pw_and ht hu, fun H₀ H O σ ds hd k Q o e q => ?_⟩
  unfold andT at e
  cases h : c ds with
  | none => rw [h] at e; cases e
  | some b =>
    rw [h] at e
    refine hf H₀ H O σ ds hd b _ o h fun H' s => ?_
    cases b with
    | true => exact iteT (hg H₀ H' O σ ds hd k Q (o.mono s) (by simpa using e) fun H'' s' => q H'' (s.trans s'))
    | false =>
      have : false = k := by simpa using e
      subst this
      exact iteF (q H' s)
theorem pwv_or {a b : Expr} {rest : List Expr} {pos : Pos} {c d : FT} (ha : PTv X a c) (hb : PWv X (.BoolOp .Or (b :: rest) pos) d) : PWv X (.BoolOp .Or (a :: b :: rest) pos) (orT c d) := by
  obtain ⟨t, ht, hf⟩ := ha
  obtain ⟨u, hu, hg⟩ := hb
  refine ⟨_, pw_or ht hu, fun H₀ H O σ ds hd k Q o e q => ?_⟩
  unfold orT at e
  cases h : c ds with
  | none => rw [h] at e; cases e
  | some b =>
    rw [h] at e
    refine hf H₀ H O σ ds hd b _ o h fun H' s => ?_
    cases b with
    | false => exact iteF (hg H₀ H' O σ ds hd k Q (o.mono s) (by simpa using e) fun H'' s' => q H'' (s.trans s'))
    | true =>
      have : true = k := by simpa using e
      subst this
      exact iteT (q H' s)
theorem PWv.t {e : Expr} {c : FT} (h : PWv X e c) : PTv X e c := by
  obtain ⟨t, ht, hf⟩ := h
  exact ⟨t, ht.pt, hf⟩
theorem ptv_not {a : Expr} {pos : Pos} {c : FT} (ha : PTv X a c) : PTv X (.UnaryOp .Not a pos) (notT c) := by
  obtain ⟨t, ht, hf⟩ := ha
  refine ⟨_, pt_not ht, fun H₀ H O σ ds hd k Q o e q => ?_⟩
  unfold notT at e
  cases h : c ds with
  | none => rw [h] at e; cases e
  | some b =>
    rw [h] at e
    cases e
    exact hf H₀ H O σ ds hd b _ o h fun H' s => q H' s
theorem pv_one {a : Expr} {op} {pos : Pos} {f : FE} (ha : PV X a f) : PV X (.BoolOp op [a] pos) f := by
  obtain ⟨t, ht, hf⟩ := ha
  exact ⟨_, pe_one ht, hf⟩
theorem pv_and {a b : Expr} {rest : List Expr} {pos : Pos} {f g : FE} (ha : PV X a f) (hb : PV X (.BoolOp .And (b :: rest) pos) g) : PV X (.BoolOp .And (a :: b :: rest) pos) (andV f g) := by
  obtain ⟨t, ht, hf⟩ := ha
  obtain ⟨u, hu, hg⟩ := hb
  refine ⟨_, pe_and ht hu, fun H₀ H O σ ds hd d Q o e q => ?_⟩
  unfold andV at e
  cases h : f ds with
  | none => rw [h] at e; cases e
  | some dd =>
    rw [h] at e
    refine hf H₀ H O σ ds hd dd _ o h fun v H' s r => ?_
    cases dd with
    | bl c =>
      cases r
      cases c with
      | true => exact ⟨true, rfl, iteT (hg H₀ H' O σ ds hd d Q (o.mono s) e fun v H'' s' => q v H'' (s.trans s'))⟩
      | false =>
        have : D.bl false = d := Option.some.inj e
        subst this
        exact ⟨false, rfl, iteF (q _ H' s (.bl false))⟩
    | _ => cases e
theorem pv_or {a b : Expr} {rest : List Expr} {pos : Pos} {f g : FE} (ha : PV X a f) (hb : PV X (.BoolOp .Or (b :: rest) pos) g) : PV X (.BoolOp .Or (a :: b :: rest) pos) (orV f g) := by
  obtain ⟨t, ht, hf⟩ := ha
  obtain ⟨u, hu, hg⟩ := hb
  refine ⟨_, pe_or ht hu, fun H₀ H O σ ds hd d Q o e q => ?_⟩
  unfold orV at e
  cases h : f ds with
  | none => rw [h] at e; cases e
  | some dd =>
    rw [h] at e
    refine hf H₀ H O σ ds hd dd _ o h fun v H' s r => ?_
    cases dd with
    | bl c =>
      cases r
      cases c with
      | false => exact ⟨false, rfl, iteF (hg H₀ H' O σ ds hd d Q (o.mono s) e fun v H'' s' => q v H'' (s.trans s'))⟩
      | true =>
        have : D.bl true = d := Option.some.inj e
        subst this
        exact ⟨true, rfl, iteT (q _ H' s (.bl true))⟩
    | _ => cases e
theorem pv_not {a : Expr} {pos : Pos} {f : FE} (ha : PV X a f) : PV X (.UnaryOp .Not a pos) (notV f) := by
  obtain ⟨t, ht, hf⟩ := ha
  refine ⟨_, pe_not ht, fun H₀ H O σ ds hd d Q o e q => ?_⟩
  unfold notV at e
  cases h : f ds with
  | none => rw [h] at e; cases e
  | some dd =>
    rw [h] at e
    refine hf H₀ H O σ ds hd dd _ o h fun v H' s r => ?_
    cases dd with
    | bl c => cases r; cases e; exact ⟨c, rfl, q _ H' s (.bl _)⟩
    | _ => cases e
theorem pv_if {c a b : Expr} {pos : Pos} {fc : FT} {f g : FE} (hc : PTv X c fc) (ha : PV X a f) (hb : PV X b g) : PV X (.IfExp c a b pos) (ifV fc f g) := by
  obtain ⟨tc, pc, hc⟩ := hc
  obtain ⟨t, ht, hf⟩ := ha
  obtain ⟨u, hu, hg⟩ := hb
  refine ⟨_, pe_ifExp pc ht hu, fun H₀ H O σ ds hd d Q o e q => ?_⟩
  unfold ifV at e
  cases h : fc ds with
  | none => rw [h] at e; cases e
  | some k =>
    rw [h] at e
    refine hc H₀ H O σ ds hd k _ o h fun H' s => ?_
    cases k with
    | true => exact iteT (hf H₀ H' O σ ds hd d Q (o.mono s) (by simpa using e) fun v H'' s' => q v H'' (s.trans s'))
    | false => exact iteF (hg H₀ H' O σ ds hd d Q (o.mono s) (by simpa using e) fun v H'' s' => q v H'' (s.trans s'))
theorem pav_nil : PAv X [] nilA := ⟨_, pa_nil, fun _ H _ _ _ _ _ _ _ e q => by cases e; exact q _ H (Same.refl _) .nil⟩
theorem pas_nil : PAs X [] nilA := ⟨_, pa_nil, fun _ H _ _ _ _ _ _ _ e q => by cases e; exact q _ H (Same.refl _) .nil⟩
theorem pav_cons {e : Expr} {es : List Expr} {f : FE} {g : FA} (ha : PVw X e f) (hr : PAv X es g) (hs : starEach (e :: es) X.env = (false, eval e X.env) :: starEach es X.env := by rfl) : PAv X (e :: es) (consA f g) := by
  obtain ⟨t, ht, hf⟩ := ha
  obtain ⟨u, hu, hg⟩ := hr
  refine ⟨_, pa_cons ht hu hs, fun H₀ H O σ ds hd l Q o e q => ?_⟩
  unfold consA at e
  cases h : f ds with
  | none => rw [h] at e; cases e
  | some x =>
    cases h2 : g ds with
    | none => rw [h, h2] at e; cases e
    | some r =>
      rw [h, h2] at e
      cases e
      refine hf H₀ H O σ ds hd x _ o h fun v H1 s1 r1 => ?_
      refine hg H₀ H1 O σ ds hd r _ (o.mono s1) h2 fun vs H2 s2 r2 => ?_
      exact q _ H2 (s1.trans s2) (.cons (r1.mono s2) r2)
theorem pas_cons {e : Expr} {es : List Expr} {f : FE} {g : FA} (ha : PV X e f) (hr : PAs X es g) (hs : starEach (e :: es) X.env = (false, eval e X.env) :: starEach es X.env := by rfl) : PAs X (e :: es) (consA f g) := by
  obtain ⟨t, ht, hf⟩ := ha
  obtain ⟨u, hu, hg⟩ := hr
  refine ⟨_, pa_cons ht hu hs, fun H₀ H O σ ds hd l Q o e q => ?_⟩
  unfold consA at e
  cases h : f ds with
  | none => rw [h] at e; cases e
  | some x =>
    cases h2 : g ds with
    | none => rw [h, h2] at e; cases e
    | some r =>
      rw [h, h2] at e
      cases e
      refine hf H₀ H O σ ds hd x _ o h fun v H1 s1 r1 => ?_
      refine hg H₀ H1 O σ ds hd r _ (o.mono s1) h2 fun vs H2 s2 r2 => ?_
      exact q _ H2 (s1.trans s2) (.cons (r1.mono s2) r2)
theorem same_upd {H : Hp} {p : Addr} (h : H p = none) (o : HO) : Same H (upd H p o) := fun b u q => by rw [upd_ne (ne_of_none q h)]; exact q
theorem pvf_lst {es : List Expr} {pos : Pos} {g : FA} (h : PAs X es g) : PVf X (.List es pos) (sized g) := by
  obtain ⟨t, ht, hf⟩ := h
  refine ⟨_, pe_lst ht, fun H₀ H O σ ds hd l Q o e q => ?_⟩
  unfold sized at e
  cases h : g ds with
  | none => rw [h] at e; cases e
  | some l' =>
    rw [h] at e
    simp only [Option.bind_some] at e
    split at e
    · rename_i hl
      cases e
      refine hf H₀ H O σ ds hd l _ o h fun vs H1 s1 r1 => ⟨by rw [r1.length]; exact hl, fun p hp => ?_⟩
      refine q p vs _ (s1.trans (same_upd hp _)) (s1.free hp) upd_same ?_
      exact (r1.more hp).mono (same_upd hp _)
    · cases e
theorem pv_tup {es : List Expr} {x1} {pos : Pos} {g : FA} (h : PAs X es g) : PV X (.Tuple es x1 pos) (mkT (sized g)) := by
  obtain ⟨t, ht, hf⟩ := h
  refine ⟨_, pe_tup ht, fun H₀ H O σ ds hd d Q o e q => ?_⟩
  unfold mkT sized at e
  cases h : g ds with
  | none => rw [h] at e; cases e
  | some l' =>
    rw [h] at e
    simp only [Option.bind_some] at e
    split at e
    · rename_i hl
      cases e
      refine hf H₀ H O σ ds hd l' _ o h fun vs H1 s1 r1 => ⟨by rw [r1.length]; exact hl, fun p hp => ?_⟩
      refine q _ _ (s1.trans (same_upd hp _)) ?_
      exact .tup ((o.mono s1).free hp) (.inl upd_same) (r1.mono (same_upd hp _))
    · cases e
theorem atI_rep {K : Frag} {H : Hp} {O : Addr → Prop} {xs : List V} {l : List D} {i : Int} {d : D} (r : Reps K H O xs l) (e : atI l i = some d) : ∃ v, atI xs i = some v ∧ Rep K H O v d := by
  unfold atI at e ⊢
  rw [r.length]
  cases h : ixN l.length i with
  | none => rw [h] at e; cases e
  | some j =>
    rw [h] at e
    exact r.get e
theorem ix_sem {K : Frag} {H : Hp} {O : Addr → Prop} {x y : V} {dx dy d : D} {Q : VK} (rx : WRep K H O x dx) (ry : WRep K H O y dy) (e : ixD dx dy = some d) (q : ∀ v H', Same H H' → Rep K H' O v d → Q v H') : rIx K x y H Q := by
  cases dx <;> cases dy <;> first | (simp [ixD] at e; done) | skip
  · simp only [ixD] at e
    split at e
    · rename_i hl
      rw [rx.str', ry.int']
      rename_i z i
      cases hc : atI z.cps.toList i with
      | none => rw [hc] at e; cases e
      | some c =>
        rw [hc] at e
        cases e
        exact .inr (.inr ⟨_, _, c, rfl, rfl, hl, hc, q _ H (Same.refl _) (.str _)⟩)
    · cases e
  · obtain ⟨a, xs, rfl, hs, r⟩ := rx.seqT
    rw [ry.int']
    obtain ⟨v, h1, h2⟩ := atI_rep r e
    exact .inr (.inl ⟨a, xs, _, v, rfl, rfl, hs, h1, q _ H (Same.refl _) h2⟩)
  · obtain ⟨a, xs, rfl, hs, r⟩ := rx.seqL
    rw [ry.int']
    obtain ⟨v, h1, h2⟩ := atI_rep r e
    exact .inl ⟨a, xs, _, v, rfl, rfl, hs, h1, q _ H (Same.refl _) h2⟩
theorem os_ix : OpS X (rIx X.K) ixD := fun H O x y dx dy d Q ho rx ry e q => ix_sem rx ry e q
theorem pv_ix {a b : Expr} {fa fb : FE} {pos : Pos} (ha : PVw X a fa) (hb : PVw X b fb) (hs : PlainIx b := by exact fun _ _ => rfl) : PV X (.Subscript a b pos) (bin2 ixD fa fb) := by
  obtain ⟨ta, pa, ha⟩ := ha
  obtain ⟨tb, pb, hb⟩ := hb
  exact ⟨_, pe_ix ix_seq pa pb hs, pv_tOp os_ix (a := a) (b := b) ha hb⟩
end
end FL
namespace FL
open PySem PySem.Spec PyProof.Rows L2
def RetOk (K : Frag) (H H' : Hp) (v : V) : Ret → Prop
  | .val d => Rep K H' (Old H) v d
  | .fresh l => ∃ a xs, v = .ref a ∧ H a = none ∧ H' a = some (.lst xs) ∧ Reps K H' (ins1 a (Old H)) xs l
  | .any d => Rep K H' none0 v d
def RetB (K : Frag) (H : Hp) (hd : Hold) (v : V) : Ret → Prop
  | .any d => ∀ B, HI.base B ∈ hd → Rep K H B v d
  | _ => True
def spF (K : Frag) (n : Nat) (F : List D → Option Ret) : Sp := fun vs H Q _ => vs.length = n ∧ ∃ ds r, Reps K H none0 vs ds ∧ F ds = some r ∧ ∀ v H', Same H H' → RetOk K H H' v r → Q v H'
section
variable {X : Cx}
theorem retV_ok {K : Frag} {H H' : Hp} {O : Addr → Prop} {v : V} {r : Ret} {d : D} (h : RetOk K H H' v r) (e : retV r = some d) (ho : ∀ a, O a → Old H a) : Rep K H' O v d := by
  cases r with
  | any d' => cases e
  | val d' => cases e; exact h.less ho
  | fresh l =>
    cases e
    obtain ⟨a, xs, rfl, h1, h2, h3⟩ := h
    refine .lst (fun z => ?_) (.inl h2) (h3.less fun b z => .inr (ho b z))
    obtain ⟨o, e, _⟩ := ho a z
    rw [h1] at e; cases e
section
variable {k : Nat} {f : Addr} {fd : FuncData} {ps : List Str} {n : Nat} {F : List D → Option Ret} {x : Str} {p pos : Pos} {e : Expr} {es : List Expr} {g : FA}
end
def CallS (X : Cx) (r : List V → Hp → VK → Prop) (F : List D → Option D) : Prop := ∀ H O vs l d Q, (∀ a, O a → ∃ xs, H a = some (.lst xs)) → Paired (WRep X.K H O) vs l → F l = some d → (∀ v H', Same H H' → Rep X.K H' O v d → Q v H') → r vs H Q
theorem pv_callB {x : Str} {p pos : Pos} {e : Expr} {es : List Expr} {id : String} {r : List V → Hp → VK → Prop} {F : List D → Option D} {g : FA} (hc : CallR X (.builtin id) r) (hs : CallS X r F) (hm : X.mg x = none) (hv : bootBuiltins x = some (.builtin id)) (ha : PAv X (e :: es) g)
    (hg : Gl X x) (hn : x ≠ "__name__" := by decide) (hdb : (x == ("__debug__" : Str)) = false := by decide) (he : starEach (e :: es) X.env = (false, eval e X.env) :: starEach es X.env := by rfl) (hpl : (backTo pos (starEach es X.env)).any (·.1) = false := by rfl) :
    PV X (.Call (.Name x p) (e :: es) [] pos) (callB F g) := by
  obtain ⟨t, ht, hf⟩ := ha
  refine ⟨_, pe_callB hc hg hm hv ht hn hdb he hpl, fun H₀ H O σ ds hd d Q o e q => ?_⟩
  unfold callB at e
  cases h : g ds with
  | none => rw [h] at e; cases e
  | some l =>
    rw [h] at e
    refine hf H₀ H O σ ds hd l _ o h fun vs H1 s1 r1 => ?_
    exact hs H1 O vs l d Q (o.mono s1).dom r1 e fun v H' s' r => q v H' (s1.trans s') r
theorem call_lenU : CallR X (.builtin "len") (fun xs H Q => (∃ p ys, xs = [.ref p] ∧ (SqL X.K H p ys ∨ SqT X.K H p ys) ∧ Q (.int ys.length) H) ∨ ∃ z, xs = [.str z] ∧ z.length ≤ sizeLine ∧ Q (.int z.length) H) := call_len_seq.or call_len_str
theorem cs_len : CallS X (fun xs H Q => (∃ p ys, xs = [.ref p] ∧ (SqL X.K H p ys ∨ SqT X.K H p ys) ∧ Q (.int ys.length) H) ∨ ∃ z, xs = [.str z] ∧ z.length ≤ sizeLine ∧ Q (.int z.length) H) lenD := by
  intro H O vs l d Q ho r e q
  match l, r, e with
  | [.lst l], .cons r .nil, e =>
    cases e
    obtain ⟨a, xs, rfl, hs, rs⟩ := r.seqL
    refine .inl ⟨a, xs, rfl, .inl hs, ?_⟩
    rw [rs.length]
    exact q _ H (Same.refl _) (.int _)
  | [.tup l], .cons r .nil, e =>
    cases e
    obtain ⟨a, xs, rfl, hs, rs⟩ := r.seqT
    refine .inl ⟨a, xs, rfl, .inr hs, ?_⟩
    rw [rs.length]
    exact q _ H (Same.refl _) (.int _)
  | [.str x], .cons r .nil, e =>
    simp only [lenD] at e
    split at e
    · rename_i hl
      cases e
      rw [r.str']
      exact .inr ⟨x, rfl, hl, q _ H (Same.refl _) (.int _)⟩
    · cases e
theorem pv_len {p pos : Pos} {e : Expr} {g : FA} (hm : X.mg "len" = none) (ha : PAv X [e] g) (hg : Gl X "len" := by rfl) (he : starEach [e] X.env = [(false, eval e X.env)] := by rfl) :
    PV X (.Call (.Name "len" p) [e] [] pos) (callB lenD g) := pv_callB call_lenU cs_len hm PySem.boot_len ha hg (by decide) (by decide) he rfl
def After (X : Cx) (H₀ : Hp) (hd : Hold) (E : Ends) : Out → Prop
  | .nx ds => ∀ σ H O, Ok X.K H₀ H O σ ds hd → E.nx σ H
  | .bk ds => ∀ σ H O, Ok X.K H₀ H O σ ds hd → E.bk σ H
  | .ct ds => ∀ σ H O, Ok X.K H₀ H O σ ds hd → E.ct σ H
  | .rt r => ∀ v H, Same H₀ H → RetOk X.K H₀ H v r → RetB X.K H hd v r → E.rt v H
variable (X) in
def PSv (st : Stmt) (g : FS) : Prop := ∃ t, PS X st t ∧ ∀ H₀ H O σ ds hd out E, Ok X.K H₀ H O σ ds hd → g ds = some out → After X H₀ hd E out → t E σ H
variable (X) in
def PSsv (st : List Stmt) (g : FS) : Prop := ∃ t, PSs X st t ∧ ∀ H₀ H O σ ds hd out E, Ok X.K H₀ H O σ ds hd → g ds = some out → After X H₀ hd E out → t E σ H
theorem pssv_nil : PSsv X [] nextG := ⟨_, pss_nil, fun _ H O σ ds hd out E o e h => by cases e; exact h σ H O o⟩
theorem pssv_cons {st : Stmt} {rest : List Stmt} {f g : FS} (h1 : PSv X st f) (h2 : PSsv X rest g) : PSsv X (st :: rest) (seqG f g) := by
  obtain ⟨t, ht, hf⟩ := h1
  obtain ⟨u, hu, hg⟩ := h2
  refine ⟨_, pss_cons ht hu, fun H₀ H O σ ds hd out E o e h => ?_⟩
  unfold seqG at e
  cases h1 : f ds with
  | none => rw [h1] at e; cases e
  | some o1 =>
    rw [h1] at e
    refine hf H₀ H O σ ds hd o1 _ o h1 ?_
    cases o1 with
    | nx ds' => exact fun σ' H' O' o' => hg H₀ H' O' σ' ds' hd out E o' e h
    | rt r => cases e; exact h
    | bk ds' => cases e; exact h
    | ct ds' => cases e; exact h
theorem pssv_one {st : Stmt} {f : FS} (h1 : PSv X st f) : PSsv X [st] f := by
  obtain ⟨t, ht, hf⟩ := h1
  exact ⟨_, pss_one ht, hf⟩
theorem psv_if {c : Expr} {a b : List Stmt} {pos : Pos} {fc : FT} {f g : FS} (hc : PTv X c fc) (ha : PSsv X a f) (hb : PSsv X b g) : PSv X (.If c a b pos) (ifG fc f g) := by
  obtain ⟨tc, pc, hc⟩ := hc
  obtain ⟨t, ht, hf⟩ := ha
  obtain ⟨u, hu, hg⟩ := hb
  refine ⟨_, ps_if pc ht hu, fun H₀ H O σ ds hd out E o e h => ?_⟩
  unfold ifG at e
  cases h1 : fc ds with
  | none => rw [h1] at e; cases e
  | some k =>
    rw [h1] at e
    refine hc H₀ H O σ ds hd k _ o h1 fun H' s => ?_
    cases k with
    | true => exact iteT (hf H₀ H' O σ ds hd out E (o.mono s) (by simpa using e) h)
    | false => exact iteF (hg H₀ H' O σ ds hd out E (o.mono s) (by simpa using e) h)
theorem psv_set {i : Nat} {x : Str} {e : Expr} {pos pos' : Pos} {f : FE} (hN : X.N.Nodup) (he : PV X e f) (hi : X.N[i]? = some x := by rfl) (hx : Loc X.env.scope x := by first | exact Or.inl rfl | exact Or.inr rfl) (hs : swapsWith e (some (.Name x pos')) pos.line X.env = pure false := by rfl)
    (hf : X.fn x = true ∨ X.env.scope.names.lookup x = some .local := by first | exact .inl rfl | exact .inr rfl) : PSv X (.Assign [.Name x pos'] e pos) (setG i f) := by
  obtain ⟨t, ht, hg⟩ := he
  refine ⟨_, ps_set hN hi hx ht hs hf, fun H₀ H O σ ds hd out E o e h => ?_⟩
  unfold setG at e
  cases h1 : f ds with
  | none => rw [h1] at e; cases e
  | some d =>
    rw [h1] at e
    cases e
    exact hg H₀ H O σ ds hd d _ o h1 fun v H' s r => h _ _ _ ((o.mono s).set r)
theorem psv_ret {e : Expr} {pos : Pos} {f : FE} (he : PVw X e f) : PSv X (.Return (some e) pos) (retG f) := by
  obtain ⟨t, ht, hg⟩ := he
  refine ⟨_, ps_ret ht, fun H₀ H O σ ds hd out E o e h => ?_⟩
  unfold retG at e
  cases h1 : f ds with
  | none => rw [h1] at e; cases e
  | some d =>
    rw [h1] at e
    simp only [Option.bind_some, flatR] at e
    split at e
    · rename_i hf
      cases e
      exact hg H₀ H O σ ds hd d _ o h1 fun v H' s r => h _ _ (o.same.trans s) (Rep.flatten (fun a z => Old.mono (o.same.trans s) z) hf r.any) True.intro
    · cases e
theorem psv_retF {e : Expr} {pos : Pos} {f : FA} (he : PVf X e f) : PSv X (.Return (some e) pos) (retOG f) := by
  obtain ⟨t, ht, hg⟩ := he
  refine ⟨_, ps_ret ht, fun H₀ H O σ ds hd out E o e h => ?_⟩
  unfold retOG at e
  cases h1 : f ds with
  | none => rw [h1] at e; cases e
  | some l =>
    rw [h1] at e
    simp only [Option.bind_some, flatF] at e
    split at e
    · rename_i hf
      cases e
      refine hg H₀ H O σ ds hd l _ o h1 fun a xs H' s hn he r => h _ _ (o.same.trans s) ⟨a, xs, rfl, o.same.free hn, he, Reps.flatten (fun b z => ?_) hf r⟩ True.intro
      rcases z with rfl | z
      · exact ⟨_, he, rfl⟩
      · exact Old.mono (o.same.trans s) z
    · cases e
theorem ok_start {K : Frag} {H : Hp} {N : List Str} {vs : List V} {ds : List D} (r : Reps K H none0 vs ds) : Ok K H H none0 (L2.start N vs) (args N.length ds) [] := by
  have hl := r.length
  have no : ∀ i, IsOwn (args N.length ds) i → False := fun i ⟨l, e⟩ => by
    unfold args at e
    by_cases hi : i < ds.length
    · rw [List.getElem?_append_left (by simpa using hi), List.getElem?_map] at e
      cases h : ds[i]? with
      | none => rw [h] at e; cases e
      | some d => rw [h] at e; cases e
    · rw [List.getElem?_append_right (by simpa using hi), List.getElem?_replicate] at e
      split at e <;> cases e
  refine ⟨Same.refl _, fun i l a e _ => (no i ⟨l, e⟩).elim, fun _ z => z.elim, by simp [L2.start, args, hl], fun i s e => ?_, fun i j a _ hi _ _ _ => no i hi, fun p hp => nomatch hp⟩
  unfold args at e
  unfold L2.start
  by_cases hi : i < ds.length
  · rw [List.getElem?_append_left (by simpa using hi), List.getElem?_map] at e
    rw [List.getElem?_append_left (by simpa [hl] using hi), List.getElem?_map]
    cases h : ds[i]? with
    | none => rw [h] at e; cases e
    | some d =>
      rw [h] at e
      cases e
      obtain ⟨v, h1, h2⟩ := r.get h
      rw [h1]
      exact slOk_v h2
  · rw [List.getElem?_append_right (by simpa using hi), List.getElem?_replicate] at e
    split at e
    · cases e; exact slOk_no
    · cases e
def Does (g : FS) (n : Nat) (ds : List D) (r : Ret) : Prop := g (args n ds) = some (.rt r) ∨ (r = .val .non ∧ ∃ ds', g (args n ds) = some (.nx ds'))
theorem fun_ok {P : Program} {w : World} {K : Frag} {mg : Str → Option Value} {base : Heap} {x qual : Str} {st : Stmt} {f : Addr} {fd : FuncData} {N ps : List Str} {k : Nat} {F : List D → Option Ret} (Fn : Fun K x qual st f fd) (S : FnScope N ps (defScope st))
    {g : FS} (hbody : ∀ (cdv : Value) (A : Around) (outer : List Env) (s : Shared) (H : Hp) (E : XK), Room k (A.deeper (envOfC qual (defScope st) s.heap.objs.size f cdv)) → PSsv (cxOf CX0 P w K mg base N qual (defScope st) f cdv A outer s H E).nox (defBody st) g)
    (hg : ∀ ds r, ds.length = ps.length → F ds = some r → Does g N.length ds r) : FnOk P w K mg base CX0 (k + 1) f fd ps (spF K ps.length F) := by
  refine Fn.ok S (fun vs H Q E h => h.1) (fun cdv A outer s H vs Q E hr h => ?_)
  obtain ⟨hl, ds, r, rv, e, q⟩ := h
  obtain ⟨t, ht, hf⟩ := hbody cdv A outer s H E hr
  refine ⟨t, ht, ?_⟩
  have o := ok_start (N := N) rv
  rcases hg ds r (by rw [← rv.length]; exact hl) e with e' | ⟨rfl, ds', e'⟩
  · exact hf H H none0 _ _ [] _ _ o e' (fun v H' s r _ => q v H' s r)
  · exact hf H H none0 _ _ [] _ _ o e' (fun σ H' O o' => q .non H' o'.same .non)
end
end FL
namespace L2
open PySem PySem.Spec PyProof.Rows
def Its (x : Str) : It := ⟨fun i _ => i < x.cps.size, fun i H v H' => H' = H ∧ ∃ c, x.cps[i]? = some c ∧ v = .str ⟨#[c]⟩, fun i _ => i = x.cps.size⟩
theorem turn_str {P : Program} {w : World} {K : PySem.W.Frag} {tg : Expr} (x : Str) (t : Tok) (it : Addr) (ty : String) (hn : ["enumerate", "zip", "dict_itemiterator", "dict_reverseitemiterator", "odict_iterator", "itertools.zip_longest", "itertools.pairwise"].contains ty = false)
    (Wk : ∀ A : Around, A.handled = none → Walks P w A it [it] [it] x.cps.size (SignAt x) (fun i h => h.IsStrIter it ty x t i))
    (hself : ∀ (A : Around) (i : Nat) (s : Shared) (Q : Value → Shared → Prop) (E : Value → Shared → Prop), s.heap.IsStrIter it ty x t i → Q (.ref it) s → wpAny (model P w) A (pyIter (.ref it)) Q E s) : Turn P w K tg (Its x) [it] it (fun i h => h.IsStrIter it ty x t i) where
  mem := by simp
  obj := fun i h st b hb => by
    have e : b = it := by simpa using hb
    subst e
    obtain ⟨o, e, c, d⟩ := st
    exact ⟨o, e, fun v z => by rw [d] at z; cases z⟩
  keep := fun i h h' st k => by
    obtain ⟨o, e, r⟩ := st
    exact ⟨o, k it (by simp) o e, r⟩
  item := by
    intro X hP hw hK hc i pins s σ H E I hf st hg
    subst hP hw hK
    obtain ⟨f0, f1, f2, f3, f4, f5⟩ := hf it (by simp)
    refine (Wk X.A (I.ok.hd hc)).item i s _ _ hg st fun v h' tk hv st' kk => ?_
    obtain ⟨c, u, hc', rfl⟩ := hv
    have I1 : Inv X pins σ H { s with heap := h', toks := tk } := I.turned (fun b o hb e => kk b o (by simpa using hb) e) f0 f1 f3 f4 f5
    obtain ⟨o, e, c1, d⟩ := id st'
    exact ⟨_, rfl, go_of (s := { s with heap := h', toks := tk }) e c1 d hn ⟨.str ⟨#[c]⟩, H, I1, ⟨u, rfl⟩, ⟨rfl, c, hc', rfl⟩, st', fun b hb => (hf b hb).1⟩⟩
  done := by
    intro X hP hw hK hc i pins s σ H E I hf st hg
    subst hP hw hK
    obtain ⟨f0, f1, f2, f3, f4, f5⟩ := hf it (by simp)
    have hg' : i = x.cps.size := hg
    subst hg'
    exact (Wk X.A (I.ok.hd hc)).done s _ _ st fun h' tk eb => ⟨rfl, I.turned (fun b o hb e => eb b o (by simpa using hb) e) f0 f1 f3 f4 f5⟩
  self := hself
section
variable {X : Cx} {tg : Expr}
def iStr (tl : TE) : TI := fun σ H R => tl σ H fun x H1 => ∃ z, x = .str z ∧ R (Its z) H1
theorem pi_str {l : Expr} {tl : TE} (hl : PE X l tl) : PI X tg l (iStr tl) := by
  intro pins s σ H R I h
  refine thn (hl pins s σ H _ I h) fun v s1 ⟨x, H1, I1, r1, q1⟩ => ?_
  obtain ⟨z, e, q⟩ := q1
  subst e
  obtain ⟨t, rfl⟩ := r1
  cases ha : z.cps.all (· < 128)
  · refine wpAny_pyIter_wide ha ⟨s1.heap.objs.size, [s1.heap.objs.size], _, _, H1, rfl, I1.kept (t' := s1.toks) fun b o e => Heap.get?_push_of_some _ e, turn_str z t _ "str_iterator" (by decide) (fun A hA => Walks.strWide hA _ z t) (fun _ _ _ _ _ st h => wpAny_pyIter_striter_wide st h), ⟨_, Heap.get?_push_size _ rfl, rfl, rfl⟩, fun b hb => ?_, q⟩
    have e : b = s1.heap.objs.size := by simpa using hb
    subst e
    exact I1.fpOk (Nat.le_refl _) (I1.hok.fresh (Nat.le_refl _))
  · refine wpAny_pyIter_ascii ha ⟨s1.heap.objs.size, [s1.heap.objs.size], _, _, H1, rfl, I1.kept (t' := s1.toks) fun b o e => Heap.get?_push_of_some _ e, turn_str z t _ "str_ascii_iterator" (by decide) (fun A hA => Walks.strAscii hA _ z t) (fun _ _ _ _ _ st h => wpAny_pyIter_striter_ascii st h), ⟨_, Heap.get?_push_size _ rfl, rfl, rfl⟩, fun b hb => ?_, q⟩
    have e : b = s1.heap.objs.size := by simpa using hb
    subst e
    exact I1.fpOk (Nat.le_refl _) (I1.hok.fresh (Nat.le_refl _))
end
end L2
namespace FL
open PySem PySem.Spec PyProof.Rows L2
def Wlk (K : Frag) (J : It) (p : V × D) (items : List D) : Prop := ∀ H O, (∀ a, O a → ∃ xs, H a = some (HO.lst xs)) → Rep K H O p.1 p.2 →
  (∀ i d, items[i]? = some d → J.go i H ∧ ∀ x H', J.yld i H x H' → Same H H' ∧ Rep K H' O x d) ∧ J.stop items.length H
section
variable {X : Cx}
variable (X) in
def PIv (tg iter : Expr) (fi : FA) : Prop := ∃ wi, PI X tg iter wi ∧ ∀ H₀ H O σ ds hd items R, Ok X.K H₀ H O σ ds hd → fi ds = some items →
  (∀ J p H', Same H H' → Rep X.K H' O p.1 p.2 → Wlk X.K J p items → R J H') → wi σ H R
theorem wlk_list {K : Frag} {a : Addr} {l : List D} : Wlk K (Itl K a) (.ref a, .lst l) l := by
  intro H O _ r
  obtain ⟨b, xs, e, hs, rs⟩ := WRep.seqL (.inl r)
  cases e
  refine ⟨fun i d hd => ?_, ⟨xs, hs, by rw [rs.length]; exact Nat.le_refl _⟩⟩
  obtain ⟨v, h1, h2⟩ := rs.get hd
  refine ⟨⟨xs, v, hs, h1⟩, fun x H' y => ?_⟩
  obtain ⟨rfl, y⟩ := y
  have := y xs hs
  rw [h1] at this; cases this
  exact ⟨Same.refl _, h2⟩
theorem wlk_tup {K : Frag} {a : Addr} {l : List D} : Wlk K (Itt K a) (.ref a, .tup l) l := by
  intro H O _ r
  obtain ⟨b, xs, e, hs, rs⟩ := WRep.seqT (.inl r)
  cases e
  refine ⟨fun i d hd => ?_, ⟨xs, hs, by rw [rs.length]; exact Nat.le_refl _⟩⟩
  obtain ⟨v, h1, h2⟩ := rs.get hd
  refine ⟨⟨xs, v, hs, h1⟩, fun x H' y => ?_⟩
  obtain ⟨rfl, y⟩ := y
  have := y xs hs
  rw [h1] at this; cases this
  exact ⟨Same.refl _, h2⟩
theorem wlk_range {K : Frag} {lo : Int} {n : Nat} : Wlk K (Itr lo n) (.non, .non) (rangeD lo n) := by
  intro H O _ r
  have hl : (rangeD lo n).length = n := by simp [rangeD]
  refine ⟨fun i d hd => ?_, show n ≤ _ by rw [hl]; exact Nat.le_refl _⟩
  have hi : i < n := by
    have := (List.getElem?_eq_some_iff.mp hd).1
    rwa [hl] at this
  refine ⟨hi, fun x H' y => ?_⟩
  obtain ⟨rfl, rfl⟩ := y
  have : d = D.int (lo + (i : Int)) := by
    simp only [rangeD, List.getElem?_map, List.getElem?_range hi, Option.map_some] at hd
    exact (Option.some.inj hd).symm
  subst this
  exact ⟨Same.refl _, .int _⟩
theorem wlk_str {K : Frag} {x : Str} : Wlk K (Its x) (.non, .non) (sgns x) := by
  intro H O _ r
  have hl : (sgns x).length = x.cps.size := by simp [sgns]
  refine ⟨fun i d hd => ?_, show _ = x.cps.size from hl⟩
  have hi : i < x.cps.size := by
    have := (List.getElem?_eq_some_iff.mp hd).1
    rwa [hl] at this
  refine ⟨hi, fun v H' y => ?_⟩
  obtain ⟨rfl, c, hc, rfl⟩ := y
  have : d = D.str ⟨#[c]⟩ := by
    simp only [sgns, List.getElem?_map, Array.getElem?_toList, hc, Option.map_some] at hd
    exact (Option.some.inj hd).symm
  subst this
  exact ⟨Same.refl _, .str _⟩
theorem piv_str {tg e : Expr} {f : FE} (h : PV X e f) : PIv X tg e (viaA f asS) := by
  obtain ⟨t, ht, hf⟩ := h
  refine ⟨_, pi_str ht, fun H₀ H O σ ds hd items R o e q => ?_⟩
  unfold viaA at e
  cases h1 : f ds with
  | none => rw [h1] at e; cases e
  | some d =>
    rw [h1] at e
    cases d with
    | str x =>
      cases e
      refine hf H₀ H O σ ds hd _ _ o h1 fun v H' s r => ?_
      cases r
      exact ⟨x, rfl, q _ (.non, .non) H' s .non wlk_str⟩
    | _ => cases e
theorem piv_range1 {tg e : Expr} {p pos : Pos} {f : FE} (hm : X.mg "range" = none) (h : PV X e f) (hg : Gl X "range" := by rfl) (hs : starEach [e] X.env = [(false, eval e X.env)] := by rfl) : PIv X tg (.Call (.Name "range" p) [e] [] pos) (rng1 f) := by
  obtain ⟨t, ht, hf⟩ := h
  refine ⟨_, pi_range1 hg hm (pa_cons ht pa_nil hs) hs, fun H₀ H O σ ds hd items R o e q => ?_⟩
  unfold rng1 at e
  cases h1 : f ds with
  | none => rw [h1] at e; cases e
  | some d =>
    rw [h1] at e
    simp only [Option.bind_some] at e
    cases d with
    | int j =>
      simp only at e
      split at e
      · rename_i hj
        cases e
        refine hf H₀ H O σ ds hd _ _ o h1 fun v H' s r => ?_
        cases r
        exact ⟨j, rfl, hj.1, hj.2, q _ (.non, .non) H' s .non wlk_range⟩
      · cases e
    | _ => cases e
variable (X) in
def PGv (tg : Expr) (ga : D → List Sl → Option (List Sl)) : Prop := ∃ g, PG X tg g ∧ ∀ H₀ H O σ ds hd v d ds' Q, Ok X.K H₀ H O σ ds hd → Rep X.K H O v d → ga d ds = some ds' → (∀ σ', Ok X.K H₀ H O σ' ds' hd → Q σ' H) → g v σ H Q
variable (X) in
def PGsv (tgs : List Expr) (ga : List D → List Sl → Option (List Sl)) : Prop := ∃ g, PGs X tgs g ∧ ∀ H₀ H O σ ds hd vs l ds' Q, Ok X.K H₀ H O σ ds hd → Reps X.K H O vs l → ga l ds = some ds' → (∀ σ', Ok X.K H₀ H O σ' ds' hd → Q σ' H) → g vs σ H Q
theorem pgv_name {i : Nat} {x : Str} {pos : Pos} (hN : X.N.Nodup) (hi : X.N[i]? = some x := by rfl) (hx : Loc X.env.scope x := by first | exact Or.inl rfl | exact Or.inr rfl)
    (hf : X.fn x = true ∨ X.env.scope.names.lookup x = some .local := by first | exact .inl rfl | exact .inr rfl) : PGv X (.Name x pos) (nameG i) :=
  ⟨_, pg_name hN hi hx hf, fun H₀ H O σ ds hd v d ds' Q o r e q => by cases e; exact q _ (o.set r)⟩
theorem pgsv_nil : PGsv X [] tgNil := ⟨_, pgs_nil, fun H₀ H O σ ds hd vs l ds' Q o r e q => by
  cases r with
  | nil => cases e; exact ⟨rfl, q _ o⟩
  | cons _ _ => cases e⟩
theorem pgsv_cons {e : Expr} {es : List Expr} {g : D → List Sl → Option (List Sl)} {h : List D → List Sl → Option (List Sl)} (h1 : PGv X e g) (h2 : PGsv X es h)
    (hs : (assignEach (e :: es) X.env).map (·.2) = assign e X.env :: (assignEach es X.env).map (·.2) := by rfl) : PGsv X (e :: es) (tgCons g h) := by
  obtain ⟨t, ht, hf⟩ := h1
  obtain ⟨u, hu, hg⟩ := h2
  refine ⟨_, pgs_cons ht hu hs, fun H₀ H O σ ds hd vs l ds' Q o r e q => ?_⟩
  cases r with
  | nil => cases e
  | cons r1 rr =>
    rename_i v d vr dr
    simp only [tgCons] at e
    cases h1 : g d ds with
    | none => rw [h1] at e; cases e
    | some ds1 =>
      rw [h1] at e
      exact ⟨v, vr, rfl, hf H₀ H O σ ds hd v d ds1 _ o r1 h1 fun σ' o' => hg H₀ H O σ' ds1 hd vr dr ds' Q o' rr e q⟩
theorem pgv_tup {es : List Expr} {k : Nat} {pos : Pos} {h : List D → List Sl → Option (List Sl)} {n : Nat} (hc : X.calm = true) (hh : PGsv X es h)
    (hn : (assignEach es X.env).length = n := by rfl) (hst : (assignEach es X.env).findIdx? (·.1) = none := by rfl) : PGv X (.Tuple es k pos) (tupG n h) := by
  obtain ⟨t, ht, hf⟩ := hh
  refine ⟨_, pg_tup hc ht hn hst, fun H₀ H O σ ds hd v d ds' Q o r e q => ?_⟩
  cases d with
  | tup l =>
    simp only [tupG] at e
    split at e
    · rename_i hl
      obtain ⟨a, xs, rfl, hs, rs⟩ := WRep.seqT (.inl r)
      exact ⟨a, xs, rfl, hs, by rw [rs.length]; exact hl, hf H₀ H O σ ds hd xs l ds' Q o rs e q⟩
    · cases e
  | _ => cases e
theorem retB_less {K : Frag} {H : Hp} {hd : Hold} {q : HI} {v : V} {r : Ret} (h : RetB K H (q :: hd) v r) : RetB K H hd v r := by
  cases r with
  | any d => exact fun B hB => h B (List.mem_cons_of_mem _ hB)
  | _ => exact True.intro
theorem psv_for {tg iter : Expr} {body : List Stmt} {pos : Pos} {fi : FA} {ga : D → List Sl → Option (List Sl)} {g : FS} (hp : PassesOwn (model X.prog X.w) X.A X.env X.xe) (hc : X.calm = true) (hi : PIv X tg iter fi) (hg : PGv X tg ga) (hb : PSsv X body g)
    (hs : ∀ x, foldedSetIterable iter X.env x = pure x := by intro _; rfl) : PSv X (.For tg iter body [] pos) (forG fi ga g) := by
  obtain ⟨wi, pi, hi⟩ := hi
  obtain ⟨tg', pg, hg⟩ := hg
  obtain ⟨tb, pb, hb⟩ := hb
  refine ⟨_, ps_for hp hc pi pg pb hs, fun H₀ H O σ ds hd out E o e h => ?_⟩
  unfold forG at e
  cases h1 : fi ds with
  | none => rw [h1] at e; cases e
  | some items =>
    rw [h1] at e
    simp only [Option.bind_some] at e
    refine hi H₀ H O σ ds hd items _ o h1 fun J p H' s r wk => ?_
    refine ⟨fun i m σ' H' => i ≤ items.length ∧ m = items.length - i ∧ ∃ O' ds', Ok X.K H₀ H' O' σ' ds' (HI.rep p.1 p.2 :: hd) ∧ loopG ga g (items.drop i) ds' = some out, ⟨items.length, Nat.zero_le _, rfl, O, ds, (o.mono s).holdMore (p := HI.rep p.1 p.2) r, by simpa using e⟩, ?_⟩
    rintro i m σ1 H1 ⟨hi1, rfl, O1, ds1, o1, e1⟩
    obtain ⟨go, stop⟩ := wk H1 O1 o1.dom (o1.hold (HI.rep p.1 p.2) List.mem_cons_self)
    by_cases hlt : i < items.length
    · right
      have hd0 : items[i]? = some items[i] := List.getElem?_eq_getElem hlt
      obtain ⟨hgo, hy⟩ := go i _ hd0
      rw [List.drop_eq_getElem_cons hlt, loopG] at e1
      refine ⟨hgo, fun σ' H' => i + 1 ≤ items.length ∧ ∃ O' ds', Ok X.K H₀ H' O' σ' ds' (HI.rep p.1 p.2 :: hd) ∧ loopG ga g (items.drop (i + 1)) ds' = some out, fun σ' H' ⟨q1, q2⟩ => ⟨items.length - (i + 1), by omega, q1, rfl, q2⟩, fun x H2 y => ?_⟩
      obtain ⟨s2, r2⟩ := hy x H2 y
      cases h2 : ga items[i] ds1 with
      | none => rw [h2] at e1; cases e1
      | some ds2 =>
        rw [h2] at e1
        simp only [Option.bind_some] at e1
        cases h3 : g ds2 with
        | none => rw [h3] at e1; cases e1
        | some o3 =>
          rw [h3] at e1
          simp only [Option.bind_some] at e1
          refine hg H₀ H2 O1 σ1 ds1 (HI.rep p.1 p.2 :: hd) x _ ds2 _ (o1.mono s2) r2 h2 fun σ' o' => ?_
          refine hb H₀ H2 O1 σ' ds2 (HI.rep p.1 p.2 :: hd) o3 _ o' h3 ?_
          cases o3 with
          | nx ds3 => exact fun σ3 H3 O3 ok3 => ⟨hlt, O3, ds3, ok3, e1⟩
          | ct ds3 => exact fun σ3 H3 O3 ok3 => ⟨hlt, O3, ds3, ok3, e1⟩
          | bk ds3 => cases e1; exact fun σ3 H3 O3 ok3 => h σ3 H3 O3 ok3.holdLess
          | rt rr => cases e1; exact fun v H s r b => h v H s r (retB_less b)
    · left
      have ei : i = items.length := by omega
      subst ei
      rw [List.drop_length, loopG] at e1
      cases e1
      exact ⟨stop, h σ1 H1 O1 o1.holdLess⟩
variable (X) in
def PFv (ifs : List Expr) (c : FT) : Prop := ∃ t, PF X ifs t ∧ ∀ H₀ H O σ ds hd b Q, Ok X.K H₀ H O σ ds hd → c ds = some b → (∀ H', Same H H' → Q b H') → t σ H Q
theorem pfv_nil : PFv X [] (fun _ => some true) := ⟨_, pf_nil, fun _ H _ _ _ _ _ _ _ e q => by cases e; exact q H (Same.refl _)⟩
theorem Ok.inner {K : Frag} {H₀ H : Hp} {O : Addr → Prop} {σ : L2.St} {ds : List Sl} {hd : Hold} (o : Ok K H₀ H O σ ds hd) (mp : List (Option Nat)) : Ok K H₀ H O (slotsY mp σ) (slotsD mp ds) hd := by
  have no : ∀ {i : Nat} {l : List D}, (slotsD mp ds)[i]? = some (.own l) → False := fun {i l} e => by
    unfold slotsD at e
    rw [List.getElem?_map] at e
    cases hm : mp[i]? with
    | none => rw [hm] at e; cases e
    | some m =>
      rw [hm] at e
      simp only [Option.map_some, Option.some.injEq] at e
      cases m with
      | none => cases e
      | some j =>
        simp only at e
        split at e <;> cases e
  refine ⟨o.same, fun i l a e _ => (no e).elim, o.dom, by simp [slotsY, slotsD], fun i s e => ?_, fun i j a hij hi hj e1 e2 => ?_, o.hold⟩
  · unfold slotsD at e
    unfold slotsY
    rw [List.getElem?_map] at e ⊢
    cases hm : mp[i]? with
    | none => rw [hm] at e; cases e
    | some m =>
      rw [hm] at e
      simp only [Option.map_some, Option.some.injEq] at e
      cases m with
      | none =>
        simp only at e
        subst e; exact slOk_no
      | some j =>
        simp only at e
        cases hj : ds[j]? with
        | none => rw [hj] at e; subst e; exact slOk_no
        | some s' =>
          rw [hj] at e
          cases s' with
          | no => subst e; exact slOk_no
          | exc _ => subst e; exact slOk_no
          | fr _ => subst e; exact slOk_no
          | own l => subst e; exact slOk_no
          | v d =>
            simp only at e
            subst e
            obtain ⟨v, h1, h2⟩ := o.read hj
            simp only [Option.map_some, Option.bind_some, h1, Option.join_some]
            exact slOk_v h2
  · obtain ⟨l, e⟩ := hi
    unfold slotsD at e
    rw [List.getElem?_map] at e
    cases hm : mp[i]? with
    | none => rw [hm] at e; cases e
    | some m =>
      rw [hm] at e
      simp only [Option.map_some, Option.some.injEq] at e
      cases m with
      | none => cases e
      | some j =>
        simp only at e
        cases hj : ds[j]? with
        | none => rw [hj] at e; cases e
        | some s' => rw [hj] at e; cases s' <;> cases e
section
variable {scope : Scope} {NY : List Str} {mp : List (Option Nat)} {tg iter elt : Expr} {ifs : List Expr} {pos : Pos} {fi : FA} {ga : D → List Sl → Option (List Sl)} {tt : FT} {fe : FE}
theorem comp_sem {wi : TI} {g : CI → TG} {t1 : CI → TT} {t2 : CI → TE}
    (hi : ∀ H₀ H O σ ds hd items R, Ok X.K H₀ H O σ ds hd → fi ds = some items → (∀ J p H', Same H H' → Rep X.K H' O p.1 p.2 → Wlk X.K J p items → R J H') → wi σ H R)
    (hg : ∀ c H₀ H O σ ds hd v d ds' Q, Ok X.K H₀ H O σ ds hd → Rep X.K H O v d → ga d ds = some ds' → (∀ σ', Ok X.K H₀ H O σ' ds' hd → Q σ' H) → g c v σ H Q)
    (ht : ∀ c H₀ H O σ ds hd b Q, Ok X.K H₀ H O σ ds hd → tt ds = some b → (∀ H', Same H H' → Q b H') → t1 c σ H Q)
    (he : ∀ c H₀ H O σ ds hd d Q, Ok X.K H₀ H O σ ds hd → fe ds = some d → (∀ v H', Same H H' → Rep X.K H' O v d → Q v H') → t2 c σ H Q) :
    ∀ H₀ H O σ ds hd l Q, Ok X.K H₀ H O σ ds hd → compG fi mp ga tt fe ds = some l →
      (∀ a xs H', Same H H' → H a = none → H' a = some (.lst xs) → Reps X.K H' (ins1 a O) xs l → Q (.ref a) H') → tComp wi mp g t1 t2 σ H Q := by
  intro H₀ H O σ ds hd l Q o e q
  unfold compG at e
  cases h1 : fi ds with
  | none => rw [h1] at e; cases e
  | some items =>
    rw [h1] at e
    simp only [Option.bind_some] at e
    split at e
    · rename_i hsz
      refine hi H₀ H O σ ds hd items _ o h1 fun J p H1 s1 r1 wk => fun c => ?_
      have oI : Ok X.K H₀ H1 O (slotsY mp σ) (slotsD mp ds) (HI.rep p.1 p.2 :: hd) := ((o.mono s1).holdMore (p := HI.rep p.1 p.2) r1).inner mp
      refine ⟨fun i m ys H2 => i ≤ items.length ∧ m = items.length - i ∧ Same H1 H2 ∧ ys.length ≤ i ∧ ∃ l' rest, Reps X.K H2 O ys l' ∧ compL ga tt fe (slotsD mp ds) (items.drop i) = some rest ∧ l = l' ++ rest,
        ⟨items.length, Nat.zero_le _, rfl, Same.refl _, Nat.le_refl _, [], l, .nil, by simpa using e, rfl⟩, ?_⟩
      rintro i m ys H2 ⟨hi1, rfl, s2, hy, l', rest, ry, er, el⟩
      have o2 := oI.mono s2
      obtain ⟨go, stop⟩ := wk H2 O o2.dom (o2.hold (HI.rep p.1 p.2) List.mem_cons_self)
      by_cases hlt : i < items.length
      · right
        have hd0 : items[i]? = some items[i] := List.getElem?_eq_getElem hlt
        obtain ⟨hgo, hyl⟩ := go i _ hd0
        refine ⟨hgo, by omega, fun x H3 y => ?_⟩
        obtain ⟨s3, r3⟩ := hyl x H3 y
        rw [List.drop_eq_getElem_cons hlt, compL] at er
        cases h2 : ga items[i] (slotsD mp ds) with
        | none => rw [h2] at er; cases er
        | some ds1 =>
          rw [h2] at er
          simp only [Option.bind_some] at er
          refine hg c H₀ H3 O _ _ (HI.rep p.1 p.2 :: hd) x _ ds1 _ (o2.mono s3) r3 h2 fun σ' o3 => ?_
          cases h3 : tt ds1 with
          | none => rw [h3] at er; cases er
          | some b =>
            rw [h3] at er
            simp only [Option.bind_some] at er
            refine ht c H₀ H3 O σ' ds1 (HI.rep p.1 p.2 :: hd) b _ o3 h3 fun H4 s4 => ?_
            cases b with
            | false =>
              refine iteF ⟨items.length - (i + 1), by omega, hlt, rfl, (s2.trans s3).trans s4, Nat.le_succ_of_le hy, l', rest, (ry.mono s3).mono s4, by simpa using er, el⟩
            | true =>
              refine iteT ?_
              simp only [if_true] at er
              cases h4 : fe ds1 with
              | none => rw [h4] at er; cases er
              | some yd =>
                rw [h4] at er
                simp only [Option.bind_some] at er
                cases h5 : compL ga tt fe (slotsD mp ds) (items.drop (i + 1)) with
                | none => rw [h5] at er; cases er
                | some rest' =>
                  rw [h5] at er
                  cases er
                  refine he c H₀ H4 O σ' ds1 (HI.rep p.1 p.2 :: hd) yd _ (o3.mono s4) h4 fun v H5 s5 r5 => ?_
                  refine ⟨items.length - (i + 1), by omega, hlt, rfl, ((s2.trans s3).trans s4).trans s5, by simp; omega, l' ++ [yd], rest', (((ry.mono s3).mono s4).mono s5).append (.cons r5 .nil), h5, ?_⟩
                  rw [el]; simp
      · left
        have ei : i = items.length := by omega
        subst ei
        rw [List.drop_length, compL] at er
        cases er
        rw [List.append_nil] at el
        subst el
        refine ⟨stop, by omega, fun a ha => ?_⟩
        refine q a ys _ ((s1.trans s2).trans (same_upd ha _)) ((s1.trans s2).free ha) upd_same ?_
        exact (ry.more ha).mono (same_upd ha _)
    · cases e
theorem pvf_comp (S : CompScope X scope NY mp) (hc : X.calm = true) (hi : PIv X tg iter fi) (hg : ∀ c, PGv (compCx X scope NY c) tg ga) (ht : ∀ c, PFv (compCx X scope NY c) ifs tt) (he : ∀ c, PV (compCx X scope NY c) elt fe)
    (hs : ∀ x, foldedSetIterable iter X.env x = pure x := by intro _; rfl) : PVf X (.ListComp elt [⟨tg, iter, ifs, 0⟩] scope pos) (compG fi mp ga tt fe) := by
  obtain ⟨wi, pi, hi⟩ := hi
  refine ⟨_, pe_comp S hc pi (fun c => (Classical.choose_spec (hg c)).1) (fun c => (Classical.choose_spec (ht c)).1) (fun c => (Classical.choose_spec (he c)).1) hs, ?_⟩
  exact comp_sem hi (fun c => (Classical.choose_spec (hg c)).2) (fun c => (Classical.choose_spec (ht c)).2) (fun c => (Classical.choose_spec (he c)).2)
end
end
end FL
namespace L2
open PySem PySem.Spec PyProof.Rows
section
variable {X : Cx}
inductive TyV (K : PySem.W.Frag) (H : Hp) : V → Value → Prop where
  | of {x : V} {t : Value} (h : TyOf K H x t) : TyV K H x t
  | lstK {a : Addr} {o : Obj} (h : K.lookup a = some o) (c : o.cls = .type "list") : TyV K H (.ref a) (.type "list")
  | tupK {a : Addr} {o : Obj} (h : K.lookup a = some o) (c : o.cls = .type "tuple") : TyV K H (.ref a) (.type "tuple")
  | tupF {a : Addr} {o : Obj} {xs : List V} (h : H a = some (.frz o (.tup xs))) : TyV K H (.ref a) (.type "tuple")
def clsV : V → Value → Prop
  | .ty n, u => u = .type n
  | .ref a, u => u = .ref a
  | _, _ => False
theorem call_isi : CallR X (.builtin "isinstance") (fun xs H Q => ∃ x c cv t b, xs = [x, c] ∧ clsV c cv ∧ TyV X.K H x t ∧ PySem.W.kitOne X.K t cv = some b ∧ Q (.bl b) H) := by
  intro pins s σ H xs us Q I r h
  obtain ⟨x, c, cv, t, b, rfl, hc, ty, e, q⟩ := h
  obtain ⟨u, u2, rfl, ru, ru2⟩ := vals2 r
  have e2 : u2 = cv := by
    cases c with
    | ty n => cases (show cv = .type n from hc); cases (show u2 = .type n from ru2); rfl
    | ref a => cases (show cv = .ref a from hc); cases (show u2 = .ref a from ru2); rfl
    | _ => exact (show False from hc).elim
  subst e2
  have fin : ∀ tk, EP X pins σ Q (.bool b) { s with toks := tk } := fun tk => ⟨.bl b, H, I.tok tk, rfl, q⟩
  cases ty with
  | of h => exact isinst_ok I ru h e fin
  | @lstK a o h c =>
    cases (show u = Value.ref a from ru)
    exact PySem.W.kia_one PySem.W.kitx_list I.kIn ⟨o, I.kIn _ _ h, c⟩ e (fun z => nomatch z) fin
  | @tupK a o h c =>
    cases (show u = Value.ref a from ru)
    exact PySem.W.kia_one PySem.W.kitx_tuple I.kIn ⟨o, I.kIn _ _ h, c⟩ e (fun z => nomatch z) fin
  | @tupF a o xs ea =>
    cases (show u = Value.ref a from ru)
    obtain ⟨e0, _, _, _, p⟩ := (show ObjOk X.prog X.w H s.heap a (.frz o (.tup xs)) from I.hok a _ ea)
    obtain ⟨o', h1, h2, _⟩ := p
    exact PySem.W.kia_one PySem.W.kitx_tuple I.kIn ⟨o', h1, h2⟩ e (fun z => nomatch z) fin
theorem bools_of : ∀ {bs : List Bool} {us : List Value}, Vals (bs.map V.bl) us → LSm.BoolsAre us bs
  | [], _, .nil => .nil
  | b :: r, _, .cons h t => by
    cases (show _ = Value.bool b from h)
    exact .cons b (bools_of t)
theorem call_allB (hc : X.calm = true) : CallR X (.builtin "all") (fun xs H Q => ∃ (p : Addr) (bs : List Bool), xs = [.ref p] ∧ SqL X.K H p (bs.map V.bl) ∧ Q (.bl (bs.all id)) H) := by
  intro pins s σ H xs us Q I r h
  obtain ⟨p, bs, rfl, hq, q⟩ := h
  obtain ⟨u, rfl, ru⟩ := vals1 r
  cases ru
  obtain ⟨its, rv, pl, hz⟩ := I.list hq
  have hlt : p < s.heap.objs.size := by obtain ⟨_, e, _⟩ := pl.isList; exact Heap.lt_size e
  have hb := bools_of rv
  refine call_all_walk (wpAny_pyIter_list pl.isList ?_)
  refine ⟨s.heap.objs.size, [s.heap.objs.size, p], [s.heap.objs.size], its.toArray.size, _, _, fun i => (bs[i]?).getD true, rfl, Walks.list (A := X.A.in1) (I.ok.hd hc) _ p (Nat.ne_of_lt hlt) its.toArray,
    ⟨⟨_, Heap.get?_push_size _ rfl, rfl, rfl⟩, pl.isList.push _⟩, fun i v s' Q' E' hP hQ => ?_, fun h' tk hk => ?_⟩
  · obtain ⟨b, e, rfl⟩ := hb.get i v (by simpa using hP)
    simp only [e, Option.getD_some] at hQ
    exact wpAny_truthy_bool hQ
  · have e : ((List.range its.toArray.size).all fun i => (bs[i]?).getD true) = bs.all id := by
      rw [List.size_toArray, hb.length]; exact LSm.range_all bs
    rw [e]
    exact ⟨.bl _, H, I.kept (LSm.kept_iter hk), rfl, q⟩
end
end L2
namespace FL
open PySem PySem.Spec PyProof.Rows L2
section
variable {X : Cx}
def kitO (t T : String) : Option Bool := if ((Value.type t) == (Value.type T)) = true then some true else if PySem.W.kitMeta T = true then (fastBuiltinMro t).map (·.contains (.type T)) else none
theorem kit_all : ∀ t ∈ kitN, ∀ T ∈ kitT, kitO t T = some (t == T || (t == "bool" && T == "int")) := by decide +kernel
theorem kit_of {K : Frag} {t T : String} {b : Bool} (h : kitF t T = some b) : PySem.W.kitOne K (.type t) (.type T) = some b := by
  unfold kitF at h
  split at h
  · rename_i hm
    cases h
    exact kit_all t hm.1 T hm.2
  · cases h
theorem ty_of {K : Frag} {H : Hp} {O : Addr → Prop} {v : V} {d : D} {t : String} (r : WRep K H O v d) (e : tyD d = some t) : TyV K H v (.type t) := by
  rcases r with r | ⟨a, xs, l, rfl, rfl, ho, h, rs⟩
  · cases r with
    | non => cases e; exact .of .non
    | bl b => cases e; exact .of (.bl b)
    | int i => cases e; exact .of (.int i)
    | str x => cases e; exact .of (.str x)
    | tup n h r =>
      cases e
      rcases h with h | ⟨o, h⟩
      · exact .of (.tup h)
      · exact .tupF h
    | tupK h r => cases e; obtain ⟨o, its, m, hk, hc, _⟩ := h; exact .tupK hk hc
    | lst n h r =>
      cases e
      rcases h with h | ⟨o, h⟩
      · exact .of (.lst h)
      · exact .of (.frz h)
    | lstK h r => cases e; obtain ⟨o, its, m, hk, hc, _⟩ := h; exact .lstK hk hc
    | dct n h e' r => cases e; exact .of (.dK h)
    | ins c n h e' r => cases e
    | clo tx h e' nd c r => cases e
    | fnK h => cases e
  · cases e; exact .of (.lst h)
theorem pv_isi {p pT pos : Pos} {e : Expr} {f : FE} {x : Str} {T : String} (hm : X.mg "isinstance" = none) (hT : X.mg x = none) (hv : bootBuiltins x = some (.type T)) (he : PVw X e f) (hg : Gl X "isinstance" := by rfl) (hgT : Gl X x := by rfl)
    (h1 : starEach [e, .Name x pT] X.env = (false, eval e X.env) :: starEach [.Name x pT] X.env := by rfl) (h2 : starEach [.Name x pT] X.env = (false, eval (.Name x pT) X.env) :: starEach [] X.env := by rfl) (h3 : (backTo pos (starEach [.Name x pT] X.env)).any (·.1) = false := by rfl)
    (hn : x ≠ "__name__" := by decide) (hd : (x == ("__debug__" : Str)) = false := by decide) : PV X (.Call (.Name "isinstance" p) [e, .Name x pT] [] pos) (isiG T f) := by
  obtain ⟨t, ht, hf⟩ := he
  refine ⟨_, pe_callB call_isi hg hm (by decide +kernel) (pa_cons ht (pa_cons (pe_bltn (v := .ty T) hgT hT hv rfl hn hd) pa_nil h2) h1) (by decide) (by decide) h1 h3, fun H₀ H O σ ds hd d Q o e q => ?_⟩
  unfold isiG at e
  cases hh : f ds with
  | none => rw [hh] at e; cases e
  | some dx =>
    rw [hh] at e
    simp only [Option.bind_some, isiD] at e
    cases ht : tyD dx with
    | none => rw [ht] at e; cases e
    | some t =>
      rw [ht] at e
      simp only [Option.bind_some] at e
      cases hk : kitF t T with
      | none => rw [hk] at e; cases e
      | some b =>
        rw [hk] at e
        cases e
        refine hf H₀ H O σ ds hd dx _ o hh fun v H' s r => ?_
        exact ⟨v, .ty T, .type T, .type t, b, rfl, rfl, ty_of r ht, kit_of hk, q _ H' s (.bl b)⟩
theorem bls_rep {K : Frag} {H : Hp} {O : Addr → Prop} : ∀ {xs : List V} {l : List D} {bs : List Bool}, Reps K H O xs l → blsD l = some bs → xs = bs.map V.bl
  | _, _, _, .nil, e => by cases e; rfl
  | _, _, bs, .cons (d := d) h t, e => by
    cases d with
    | bl b =>
      rename_i ds
      simp only [blsD] at e
      cases hr : blsD ds with
      | none => rw [hr] at e; cases e
      | some r =>
        rw [hr] at e
        cases e
        cases h
        rw [bls_rep t hr]
        rfl
    | _ => cases e
theorem cs_all : CallS X (fun xs H Q => ∃ (p : Addr) (bs : List Bool), xs = [.ref p] ∧ SqL X.K H p (bs.map V.bl) ∧ Q (.bl (bs.all id)) H) allD := by
  intro H O vs l d Q ho r e q
  match l, r, e with
  | [.lst l], .cons r .nil, e =>
    simp only [allD] at e
    cases hb : blsD l with
    | none => rw [hb] at e; cases e
    | some bs =>
      rw [hb] at e
      cases e
      obtain ⟨a, xs, rfl, hs, rs⟩ := r.seqL
      refine ⟨a, bs, rfl, ?_, q _ H (Same.refl _) (.bl _)⟩
      rw [← bls_rep rs hb]
      exact hs
theorem pv_all {p pos : Pos} {e : Expr} {g : FA} (hc : X.calm = true) (hm : X.mg "all" = none) (ha : PAv X [e] g) (hg : Gl X "all" := by rfl) (he : starEach [e] X.env = [(false, eval e X.env)] := by rfl) :
    PV X (.Call (.Name "all" p) [e] [] pos) (callB allD g) := pv_callB (call_allB hc) cs_all hm (by decide +kernel) ha hg (by decide) (by decide) he rfl
theorem pv_neg {a : Expr} {pos : Pos} {f : FE} (ha : PV X a f) : PV X (.UnaryOp .USub a pos) (un1 negD f) := by
  obtain ⟨ta, pa, ha⟩ := ha
  refine ⟨_, pe_un un_neg pa, fun H₀ H O σ ds hd d Q o e q => ?_⟩
  unfold un1 at e
  cases h1 : f ds with
  | none => rw [h1] at e; cases e
  | some dx =>
    rw [h1] at e
    cases dx with
    | int i =>
      cases e
      refine ha H₀ H O σ ds hd _ _ o h1 fun x H1 s1 r1 => ?_
      cases r1
      exact ⟨i, rfl, q _ H1 s1 (.int _)⟩
    | _ => cases e
theorem os_inS : OpS X (fun x y H Q => ∃ i j, x = .str i ∧ y = .str j ∧ Q (.bl (!(Builtin.Str.occurrences j i 0 j.length 1).isEmpty)) H) inS := by
  intro H O x y dx dy d Q ho rx ry e q
  cases dx <;> cases dy <;> first | (simp [inS] at e; done) | skip
  cases e
  rw [rx.str', ry.str']
  exact ⟨_, _, rfl, rfl, q _ H (Same.refl _) (.bl _)⟩
variable (X) in
def PVd (e : Expr) (f : FE) : Prop := ∃ t, PE X e t ∧ ∀ H₀ H O σ ds hd d Q, Ok X.K H₀ H O σ ds hd → f ds = some d → (∀ v H', Same H H' → Rep X.K H' (Old H) v d → Q v H') → t σ H Q
theorem not_old {H : Hp} {p : Addr} (h : H p = none) : ¬ Old H p := fun ⟨o, e, _⟩ => by rw [h] at e; cases e
theorem psv_retD {e : Expr} {pos : Pos} {f : FE} (he : PVd X e f) : PSv X (.Return (some e) pos) (retDG f) := by
  obtain ⟨t, ht, hg⟩ := he
  refine ⟨_, ps_ret ht, fun H₀ H O σ ds hd out E o e h => ?_⟩
  unfold retDG at e
  cases h1 : f ds with
  | none => rw [h1] at e; cases e
  | some d =>
    rw [h1] at e
    cases e
    exact hg H₀ H O σ ds hd d _ o h1 fun v H' s r => h _ _ (o.same.trans s) (r.less fun a z => Old.mono o.same z) True.intro
end
end FL
namespace FL
open PySem PySem.Spec PyProof.Rows L2
section
variable {X : Cx}
def compOk (sc scope : Scope) (N NY : List Str) (mp : List (Option Nat)) : Bool :=
  scope.kind == .function && scope.names.all (fun y => y.2 != .cell) && scope.names.all (fun y => y.2 != .local || scope.names.lookup y.1 == some .local)
  && scope.names.all (fun y => y.2 != .free || (sc.names.lookup y.1 == some .cell || sc.names.lookup y.1 == some .free)) && mp.length == NY.length
  && (List.range NY.length).all (fun i => match NY[i]?, mp[i]? with | some x, some (some j) => N[j]? == some x && scope.names.lookup x == some .free | _, _ => true)
theorem comp_scope {scope : Scope} {NY : List Str} {mp : List (Option Nat)} (h : compOk X.env.scope scope X.N NY mp = true) : CompScope X scope NY mp := by
  unfold compOk at h
  simp only [Bool.and_eq_true, List.all_eq_true, beq_iff_eq] at h
  obtain ⟨⟨⟨⟨⟨h1, h2⟩, h3⟩, h4⟩, h5⟩, h6⟩ := h
  refine ⟨h1, fun y hy => by simpa using h2 y hy, fun y hy hk => ?_, fun y hy hk => ?_, h5, fun i x j e1 e2 => ?_⟩
  · have := h3 y hy
    simpa [hk] using this
  · have := h4 y hy
    simp only [hk, bne_self_eq_false, Bool.false_or, Bool.or_eq_true, beq_iff_eq] at this
    exact this
  · have hi : i ∈ List.range NY.length := List.mem_range.mpr (List.getElem?_eq_some_iff.mp e1).1
    have := h6 i hi
    rw [e1, e2] at this
    simpa using this
end
theorem does_run {g : FS} {n : Nat} {ds : List D} {r : Ret} (e : runG g n ds = some r) : Does g n ds r := by
  unfold runG at e
  cases h : g (args n ds) with
  | none => rw [h] at e; cases e
  | some o =>
    rw [h] at e
    cases o with
    | rt r' => cases e; exact .inl h
    | nx ds' => cases e; exact .inr ⟨rfl, ds', h⟩
    | bk ds' => cases e
    | ct ds' => cases e
end FL
namespace L2
open PySem PySem.Spec PyProof.Rows
section
variable {X : Cx}
theorem op_mulB : OpR X (binaryOp .Mult) (rI IntMulOk fun i j => .int (i * j)) := opI fun _ _ _ _ _ _ _ hc q => mul_int q hc
theorem op_powB : OpR X (binaryOp .Pow) (rI FL.CPowB fun i j => .int (i ^ j.toNat)) := opI fun _ _ _ _ _ _ _ hc q => pow_int hc.1 hc.2 q
end
end L2
namespace FL
open PySem PySem.Spec PyProof.Rows L2
section
variable {X : Cx}
variable (X) in
def PVn (e : Expr) (f : FE) : Prop := ∃ t, PE X e t ∧ ∀ H₀ H O σ ds hd d Q, Ok X.K H₀ H O σ ds hd → f ds = some d → (∀ v H', Same H H' → Rep X.K H' none0 v d → Q v H') → t σ H Q
variable (X) in
def PAn (es : List Expr) (f : FA) : Prop := ∃ t, PA X es t ∧ ∀ H₀ H O σ ds hd l Q, Ok X.K H₀ H O σ ds hd → f ds = some l → (∀ vs H', Same H H' → Reps X.K H' none0 vs l → Q vs H') → t σ H Q
theorem PVw.n {e : Expr} {f : FE} (h : PVw X e f) : PVn X e f := by
  obtain ⟨t, ht, hf⟩ := h
  exact ⟨t, ht, fun H₀ H O σ ds hd d Q o e q => hf H₀ H O σ ds hd d Q o e fun v H' s r => q v H' s r.any⟩
theorem PV.n {e : Expr} {f : FE} (h : PV X e f) : PVn X e f := h.w.n
theorem pan_nil : PAn X [] nilA := ⟨_, pa_nil, fun _ H _ _ _ _ _ _ _ e q => by cases e; exact q _ H (Same.refl _) .nil⟩
theorem pan_cons {e : Expr} {es : List Expr} {f : FE} {g : FA} (ha : PVn X e f) (hr : PAn X es g) (hs : starEach (e :: es) X.env = (false, eval e X.env) :: starEach es X.env := by rfl) : PAn X (e :: es) (consA f g) := by
  obtain ⟨t, ht, hf⟩ := ha
  obtain ⟨u, hu, hg⟩ := hr
  refine ⟨_, pa_cons ht hu hs, fun H₀ H O σ ds hd l Q o e q => ?_⟩
  unfold consA at e
  cases h : f ds with
  | none => rw [h] at e; cases e
  | some x =>
    cases h2 : g ds with
    | none => rw [h, h2] at e; cases e
    | some r =>
      rw [h, h2] at e
      cases e
      refine hf H₀ H O σ ds hd x _ o h fun v H1 s1 r1 => ?_
      refine hg H₀ H1 O σ ds hd r _ (o.mono s1) h2 fun vs H2 s2 r2 => ?_
      exact q _ H2 (s1.trans s2) (.cons (r1.mono s2) r2)
section
variable {k : Nat} {f : Addr} {fd : FuncData} {ps : List Str} {n : Nat} {F : List D → Option Ret} {x : Str} {p pos : Pos} {e : Expr} {es : List Expr} {g : FA}
theorem pv_callN (Fn : FnOk X.prog X.w X.K X.mg X.base CX0 k f fd ps (spF X.K n F)) (hr : Room k X.A) (hm : X.mg x = some (.ref f)) (hk : PySem.W.keepIn X.K (.ref f) = true) (hb : Binds X.K fd ps []) (ha : PAn X (e :: es) g)
    (hg : Gl X x := by rfl) (hdb : (x == ("__debug__" : Str)) = false := by decide) (he : starEach (e :: es) X.env = (false, eval e X.env) :: starEach es X.env := by rfl) (hpl : (backTo pos (starEach es X.env)).any (·.1) = false := by rfl) :
    PV X (.Call (.Name x p) (e :: es) [] pos) (callV n F g) := by
  obtain ⟨t, ht, hf⟩ := ha
  refine ⟨_, pe_call (CX := CX0) (E := E0) Fn hr hg hm hk hb .nil pass0 ht hdb he hpl, fun H₀ H O σ ds hd d Q o e q => ?_⟩
  unfold callV at e
  cases h : g ds with
  | none => rw [h] at e; cases e
  | some l =>
    rw [h] at e
    simp only [Option.bind_some] at e
    split at e
    · rename_i hln
      cases h2 : F l with
      | none => rw [h2] at e; cases e
      | some r =>
        rw [h2] at e
        simp only [Option.bind_some] at e
        refine hf H₀ H O σ ds hd l _ o h fun vs H1 s1 r1 => ?_
        have hl := r1.length
        refine ⟨by simp only [List.append_nil]; omega, l, r, by simpa using r1, h2, fun v H' s' ro => q v H' (s1.trans s') ?_⟩
        exact retV_ok ro e fun a ha => (o.mono s1).old ha
    · cases e
end
def OpN (X : Cx) (r : R2) (op : D → D → Option D) : Prop := ∀ H O x y dx dy d Q, Rep X.K H none0 x dx → Rep X.K H none0 y dy → op dx dy = some d → (∀ v H', Same H H' → Rep X.K H' O v d → Q v H') → r x y H Q
theorem pvn_tOp {r : R2} {op : D → D → Option D} (hs : OpN X r op) {fa fb : FE} {ta tb : TE} (ha : ∀ H₀ H O σ ds hd d Q, Ok X.K H₀ H O σ ds hd → fa ds = some d → (∀ v H', Same H H' → Rep X.K H' none0 v d → Q v H') → ta σ H Q)
    (hb : ∀ H₀ H O σ ds hd d Q, Ok X.K H₀ H O σ ds hd → fb ds = some d → (∀ v H', Same H H' → Rep X.K H' none0 v d → Q v H') → tb σ H Q) :
    ∀ H₀ H O σ ds hd d Q, Ok X.K H₀ H O σ ds hd → bin2 op fa fb ds = some d → (∀ v H', Same H H' → Rep X.K H' O v d → Q v H') → tOp r ta tb σ H Q := by
  intro H₀ H O σ ds hd d Q o e q
  unfold bin2 at e
  cases h1 : fa ds with
  | none => rw [h1] at e; cases e
  | some dx =>
    cases h2 : fb ds with
    | none => rw [h1, h2] at e; cases e
    | some dy =>
      rw [h1, h2] at e
      refine ha H₀ H O σ ds hd dx _ o h1 fun x H1 s1 r1 => ?_
      refine hb H₀ H1 O σ ds hd dy _ (o.mono s1) h2 fun y H2 s2 r2 => ?_
      exact hs H2 O x y dx dy d Q (r1.mono s2) r2 e fun v H' s r => q v H' ((s1.trans s2).trans s) r
theorem pv_cmpN {op : CmpOp} {r : R2} {opD : D → D → Option D} {a b : Expr} {fa fb : FE} {pos : Pos} (ho : OpR X (compareOp op) r) (hs : OpN X r opD) (ha : PVn X a fa) (hb : PVn X b fb) (hm : behindInMarks op b = false) : PV X (.Compare a [op] [b] pos) (bin2 opD fa fb) := by
  obtain ⟨ta, pa, ha⟩ := ha
  obtain ⟨tb, pb, hb⟩ := hb
  exact ⟨_, pe_cmpR ho pa pb hm, pvn_tOp hs ha hb⟩
theorem pt_cmpN {op : CmpOp} {r : R2} {opD : D → D → Option D} {a b : Expr} {fa fb : FE} {pos : Pos} (ho : OpR X (compareOp op) r) (hs : OpN X r opD) (ha : PVn X a fa) (hb : PVn X b fb) (hm : behindInMarks op b = false) : PTv X (.Compare a [op] [b] pos) (testB (bin2 opD fa fb)) := by
  obtain ⟨ta, pa, ha⟩ := ha
  obtain ⟨tb, pb, hb⟩ := hb
  refine ⟨_, pt_cmpR ho pa pb hm, fun H₀ H O σ ds hd k Q o e q => ?_⟩
  unfold testB at e
  cases h : bin2 opD fa fb ds with
  | none => rw [h] at e; cases e
  | some d =>
    rw [h] at e
    refine pvn_tOp hs ha hb H₀ H O σ ds hd d _ o h fun v H' s r => ?_
    cases d with
    | bl c => cases e; cases r; exact ⟨_, rfl, q H' s⟩
    | _ => cases e
mutual
theorem Rep.reads {pins : List (Addr × Obj)} {σ : L2.St} {H : Hp} {s : Shared} {O : Addr → Prop} (I : Inv X pins σ H s) : ∀ {v : V} {d : D} {u : Value} {n : Nat}, Rep X.K H O v d → RelV v u → shal n d = true → ∃ as, Reads s.heap u (toPy d) as ∧ (toPy d).canLay0 = true ∧ (toPy d).depth ≤ n + 1
  | _, _, _, _, .non, r, _ => by cases r; exact ⟨[], .none, rfl, Nat.zero_le _⟩
  | _, _, _, _, .bl b, r, _ => by cases r; exact ⟨[], .bool b, rfl, Nat.zero_le _⟩
  | _, _, _, _, .int i, r, _ => by obtain ⟨t, rfl⟩ := r; exact ⟨[], .int i t, rfl, Nat.zero_le _⟩
  | _, _, _, _, .str x, r, h => by obtain ⟨t, rfl⟩ := r; exact ⟨[], .str x t, by simpa [toPy, PyData.canLay0, shal] using h, Nat.zero_le _⟩
  | _, _, _, n, .tup m h q, r, hs => by
    cases r
    obtain ⟨its, rv, ⟨o, ho, hc, k, hd⟩, hz⟩ := I.tuple (.inl h)
    obtain ⟨as, h1, h2, h3⟩ := Reps.reads I q rv (by simpa [shal] using hs)
    exact ⟨as, .tuple ho hc hd (by simpa using h1), by simpa [toPy, PyData.canLay0] using h2, by simpa [toPy, PyData.depth] using h3⟩
  | _, _, _, n, .tupK h q, r, hs => by
    cases r
    obtain ⟨its, rv, ⟨o, ho, hc, k, hd⟩, hz⟩ := I.tuple (.inr h)
    obtain ⟨as, h1, h2, h3⟩ := Reps.reads I q rv (by simpa [shal] using hs)
    exact ⟨as, .tuple ho hc hd (by simpa using h1), by simpa [toPy, PyData.canLay0] using h2, by simpa [toPy, PyData.depth] using h3⟩
  | _, _, _, n, .lst m h q, r, hs => by
    cases r
    obtain ⟨its, rv, pl, hz⟩ := I.list (.inl h)
    obtain ⟨o, ho, hc, k, hd⟩ := pl.isList
    obtain ⟨as, h1, h2, h3⟩ := Reps.reads I q rv (by simpa [shal] using hs)
    exact ⟨_, .list ho hc hd (by simpa using h1), by simpa [toPy, PyData.canLay0] using h2, by simpa [toPy, PyData.depth] using h3⟩
  | _, _, _, n, .lstK h q, r, hs => by
    cases r
    obtain ⟨its, rv, pl, hz⟩ := I.list (.inr h)
    obtain ⟨o, ho, hc, k, hd⟩ := pl.isList
    obtain ⟨as, h1, h2, h3⟩ := Reps.reads I q rv (by simpa [shal] using hs)
    exact ⟨_, .list ho hc hd (by simpa using h1), by simpa [toPy, PyData.canLay0] using h2, by simpa [toPy, PyData.depth] using h3⟩
  | _, _, _, _, .dct _ _ _ _, _, hs => by simp [shal] at hs
  | _, _, _, _, .ins _ _ _ _ _, _, hs => by simp [shal] at hs
  | _, _, _, _, .clo _ _ _ _ _ _, _, hs => by simp [shal] at hs
  | _, _, _, _, .fnK _, _, hs => by simp [shal] at hs
theorem Reps.reads {pins : List (Addr × Obj)} {σ : L2.St} {H : Hp} {s : Shared} {O : Addr → Prop} (I : Inv X pins σ H s) : ∀ {vs : List V} {ds : List D} {us : List Value} {n : Nat}, Reps X.K H O vs ds → Vals vs us → shals n ds = true → ∃ as, ReadsAll s.heap us (toPys ds) as ∧ PyData.canLayAll0 (toPys ds) = true ∧ PyData.depthAll (toPys ds) ≤ n
  | _, _, _, _, .nil, r, _ => by cases r; exact ⟨[], .nil, rfl, Nat.zero_le _⟩
  | _, _, _, 0, .cons h t, _, hs => by simp [shals] at hs
  | _, _, _, n + 1, .cons h t, r, hs => by
    cases r with
    | cons r1 r2 =>
      simp only [shals, Bool.and_eq_true] at hs
      obtain ⟨as, h1, h2, h3⟩ := Rep.reads I h r1 hs.1
      obtain ⟨bs, k1, k2, k3⟩ := Reps.reads I t r2 hs.2
      exact ⟨_, .cons h1 k1, by simp [toPys, PyData.canLayAll0, h2, k2], by simp only [toPys, PyData.depthAll]; omega⟩
end
def rEqD (X : Cx) (neg : Bool) : R2 := fun x y H Q => ∃ dx dy, Rep X.K H none0 x dx ∧ Rep X.K H none0 y dy ∧ shal 40 dx = true ∧ shal 40 dy = true ∧ Q (.bl (if neg then !eqvD dx dy else eqvD dx dy)) H
theorem op_eqD (hu : X.A.units + 100 < cLine) : OpR X (compareOp .Eq) (rEqD X false) := by
  intro pins s σ H x y v u Q I rx ry h
  obtain ⟨dx, dy, r1, r2, s1, s2, q⟩ := h
  obtain ⟨as, a1, a2, a3⟩ := r1.reads I rx s1
  obtain ⟨bs, b1, b2, b3⟩ := r2.reads I ry s2
  exact SeqAt.compareEq_reads a1 b1 a2 b2 (by omega) ⟨.bl _, H, I, rfl, q⟩
theorem op_neD (hu : X.A.units + 100 < cLine) : OpR X (compareOp .NotEq) (rEqD X true) := by
  intro pins s σ H x y v u Q I rx ry h
  obtain ⟨dx, dy, r1, r2, s1, s2, q⟩ := h
  obtain ⟨as, a1, a2, a3⟩ := r1.reads I rx s1
  obtain ⟨bs, b1, b2, b3⟩ := r2.reads I ry s2
  exact SeqAt.compareNe_reads a1 b1 a2 b2 (by omega) ⟨.bl _, H, I, rfl, q⟩
theorem on_eqD : OpN X (rEqD X false) eqD := by
  intro H O x y dx dy d Q rx ry e q
  unfold eqD at e
  split at e
  · rename_i hs
    cases e
    exact ⟨dx, dy, rx, ry, hs.1, hs.2, q _ H (Same.refl _) (.bl _)⟩
  · cases e
theorem on_neD : OpN X (rEqD X true) neD := by
  intro H O x y dx dy d Q rx ry e q
  unfold neD at e
  split at e
  · rename_i hs
    cases e
    exact ⟨dx, dy, rx, ry, hs.1, hs.2, q _ H (Same.refl _) (.bl _)⟩
  · cases e
theorem hu100 {k : Nat} {A : Around} (hr : Room k A) : A.units + 100 < cLine := by have := hr.un; omega
theorem pv_eq {a b : Expr} {fa fb : FE} {pos : Pos} {k : Nat} (hr : Room k X.A) (ha : PVn X a fa) (hb : PVn X b fb) : PV X (.Compare a [.Eq] [b] pos) (bin2 eqD fa fb) := pv_cmpN (op_eqD (hu100 hr)) on_eqD ha hb (nomark _)
theorem pv_ne {a b : Expr} {fa fb : FE} {pos : Pos} {k : Nat} (hr : Room k X.A) (ha : PVn X a fa) (hb : PVn X b fb) : PV X (.Compare a [.NotEq] [b] pos) (bin2 neD fa fb) := pv_cmpN (op_neD (hu100 hr)) on_neD ha hb (nomark _)
theorem pt_eq {a b : Expr} {fa fb : FE} {pos : Pos} {k : Nat} (hr : Room k X.A) (ha : PVn X a fa) (hb : PVn X b fb) : PTv X (.Compare a [.Eq] [b] pos) (testB (bin2 eqD fa fb)) := pt_cmpN (op_eqD (hu100 hr)) on_eqD ha hb (nomark _)
theorem pt_ne {a b : Expr} {fa fb : FE} {pos : Pos} {k : Nat} (hr : Room k X.A) (ha : PVn X a fa) (hb : PVn X b fb) : PTv X (.Compare a [.NotEq] [b] pos) (testB (bin2 neD fa fb)) := pt_cmpN (op_neD (hu100 hr)) on_neD ha hb (nomark _)
theorem non_iff {K : Frag} {H : Hp} {O : Addr → Prop} {v : V} {d : D} (r : Rep K H O v d) : decide (v = .non) = (match d with | .non => true | _ => false) := by
  cases r <;> rfl
theorem on_is : OpN X (fun x y H Q => y = .non ∧ Q (.bl (decide (x = .non))) H) isD := by
  intro H O x y dx dy d Q rx ry e q
  cases dy <;> first | (cases dx <;> simp [isD] at e; done) | skip
  cases ry
  refine ⟨rfl, ?_⟩
  rw [non_iff rx]
  cases dx <;> (simp only [isD, Option.some.injEq] at e; subst e; exact q _ H (Same.refl _) (.bl _))
theorem on_not : OpN X (fun x y H Q => y = .non ∧ Q (.bl (!decide (x = .non))) H) notD := by
  intro H O x y dx dy d Q rx ry e q
  cases dy <;> first | (cases dx <;> simp [notD] at e; done) | skip
  cases ry
  refine ⟨rfl, ?_⟩
  rw [non_iff rx]
  cases dx <;> (simp only [notD, Option.some.injEq] at e; subst e; exact q _ H (Same.refl _) (.bl _))
theorem pv_isnot {a b : Expr} {fa fb : FE} {pos : Pos} (ha : PVn X a fa) (hb : PVn X b fb) : PV X (.Compare a [.IsNot] [b] pos) (bin2 notD fa fb) := pv_cmpN op_notN on_not ha hb (nomark _)
theorem pt_is {a b : Expr} {fa fb : FE} {pos : Pos} (ha : PVn X a fa) (hb : PVn X b fb) : PTv X (.Compare a [.Is] [b] pos) (testB (bin2 isD fa fb)) := pt_cmpN op_isN on_is ha hb (nomark _)
theorem pt_isnot {a b : Expr} {fa fb : FE} {pos : Pos} (ha : PVn X a fa) (hb : PVn X b fb) : PTv X (.Compare a [.IsNot] [b] pos) (testB (bin2 notD fa fb)) := pt_cmpN op_notN on_not ha hb (nomark _)
theorem scl_flat {K : Frag} {H : Hp} {O : Addr → Prop} {v : V} {d : D} (r : Rep K H O v d) (h : sclD d = true) : flatV v = true := by
  cases r <;> first | rfl | (simp [sclD] at h; done)
theorem scl_eq {K : Frag} {H : Hp} {O O' : Addr → Prop} {v v' : V} {d d' : D} (r : Rep K H O v d) (h : sclD d = true) (r' : Rep K H O' v' d') (h' : sclD d' = true) : eqV v v' = eqvD d d' := by
  cases r <;> first | (simp [sclD] at h; done) | skip
  all_goals (cases r' <;> first | (simp [sclD] at h'; done) | rfl)
theorem scl_all {K : Frag} {H : Hp} {O O' : Addr → Prop} {x : V} {dx : D} (rx : Rep K H O' x dx) (hx : sclD dx = true) : ∀ {xs : List V} {l : List D}, Reps K H O xs l → l.all sclD = true → xs.all flatV = true ∧ inV x xs = l.any fun z => eqvD z dx
  | _, _, .nil, _ => ⟨rfl, rfl⟩
  | _, _, .cons r t, h => by
    rw [List.all_cons, Bool.and_eq_true] at h
    obtain ⟨h1, h2⟩ := scl_all rx hx t h.2
    refine ⟨by rw [List.all_cons, scl_flat r h.1, h1]; rfl, ?_⟩
    unfold inV at h2 ⊢
    rw [List.any_cons, List.any_cons, h2, scl_eq r h.1 rx hx]
theorem on_in {neg : Bool} : OpN X (rIn X.K neg) (inD neg) := by
  intro H O x y dx dy d Q rx ry e q
  unfold inD at e
  cases hl : asLT dy with
  | none => rw [hl] at e; cases e
  | some l =>
    rw [hl] at e
    simp only [Option.bind_some] at e
    split at e
    · rename_i hs
      cases e
      cases dy with
      | lst l' =>
        cases hl
        obtain ⟨a, xs, rfl, hq, rs⟩ := WRep.seqL (.inl ry)
        obtain ⟨h1, h2⟩ := scl_all rx hs.1 rs hs.2
        refine ⟨a, xs, rfl, .inl hq, scl_flat rx hs.1, h1, ?_⟩
        rw [h2]
        exact q _ H (Same.refl _) (.bl _)
      | tup l' =>
        cases hl
        obtain ⟨a, xs, rfl, hq, rs⟩ := WRep.seqT (.inl ry)
        obtain ⟨h1, h2⟩ := scl_all rx hs.1 rs hs.2
        refine ⟨a, xs, rfl, .inr hq, scl_flat rx hs.1, h1, ?_⟩
        rw [h2]
        exact q _ H (Same.refl _) (.bl _)
      | _ => cases hl
    · cases e
theorem pt_notin {a b : Expr} {fa fb : FE} {pos : Pos} (ha : PVn X a fa) (hb : PVn X b fb) (hm : behindInMarks .NotIn b = false := by rfl) : PTv X (.Compare a [.NotIn] [b] pos) (testB (bin2 (inD true) fa fb)) := pt_cmpN op_notIn_seq on_in ha hb hm
theorem os_mul : OpS X (rI IntMulOk fun i j => .int (i * j)) mulD := by
  intro H O x y dx dy d Q ho rx ry e q
  cases dx <;> cases dy <;> first | (simp [mulD] at e; done) | skip
  simp only [mulD] at e
  split at e
  · rename_i hc
    cases e
    rw [rx.int', ry.int']
    exact ⟨_, _, rfl, rfl, hc, q _ H (Same.refl _) (.int _)⟩
  · cases e
theorem os_pow : OpS X (rI CPowB fun i j => .int (i ^ j.toNat)) powD := by
  intro H O x y dx dy d Q ho rx ry e q
  cases dx <;> cases dy <;> first | (simp [powD] at e; done) | skip
  simp only [powD] at e
  split at e
  · rename_i hc
    cases e
    rw [rx.int', ry.int']
    exact ⟨_, _, rfl, rfl, hc, q _ H (Same.refl _) (.int _)⟩
  · cases e
variable (X) in
def POv (e : Option Expr) (f : List Sl → Option (Option Int)) : Prop := ∃ t, PO X e t ∧ ∀ H₀ H O σ ds hd i Q, Ok X.K H₀ H O σ ds hd → f ds = some i → (∀ H', Same H H' → Q i H') → t σ H Q
theorem pov_no : POv X none noP := ⟨_, po_none, fun _ H _ _ _ _ _ _ _ e q => by cases e; exact q H (Same.refl _)⟩
theorem pov_so {e : Expr} {f : FE} (h : PVw X e f) : POv X (some e) (soP f) := by
  obtain ⟨t, ht, hf⟩ := h
  refine ⟨_, po_some ht, fun H₀ H O σ ds hd i Q o e q => ?_⟩
  unfold soP at e
  cases h1 : f ds with
  | none => rw [h1] at e; cases e
  | some d =>
    rw [h1] at e
    simp only [Option.bind_some] at e
    cases d <;> first | (cases e; done) | skip
    cases e
    refine hf H₀ H O σ ds hd _ _ o h1 fun v H' s r => ?_
    rw [r.int']
    exact ⟨_, rfl, q H' s⟩
theorem isEmpty_len {α β : Type} {xs : List α} {ys : List β} (h : xs.length = ys.length) : xs.isEmpty = ys.isEmpty := by
  cases xs <;> cases ys <;> simp_all
theorem PVn.t {e : Expr} {f : FE} (h : PVn X e f) (he : ∀ whole, isTrue e X.env whole = (do let v ← whole; standAt e.pos; holding [v] (truthy v)) := by intro _; rfl) : PTv X e (testT f) := by
  obtain ⟨t, ht, hf⟩ := h
  refine ⟨_, pt_truth ht he, fun H₀ H O σ ds hd k Q o e q => ?_⟩
  unfold testT at e
  cases h : f ds with
  | none => rw [h] at e; cases e
  | some d =>
    rw [h] at e
    simp only [Option.bind_some] at e
    refine hf H₀ H O σ ds hd d _ o h fun v H' s r => ⟨k, ?_, q H' s⟩
    cases d with
    | non => cases e; cases r; exact rfl
    | bl b => cases e; cases r; exact rfl
    | int i => cases e; cases r; exact rfl
    | str x =>
      simp only [truD] at e
      split at e
      · rename_i hz; cases e; cases r; exact ⟨hz, rfl⟩
      · cases e
    | tup l =>
      cases e
      obtain ⟨a, xs, rfl, hq, rs⟩ := WRep.seqT (.inl r)
      exact .inr (.inl ⟨xs, hq, by rw [isEmpty_len rs.length]⟩)
    | lst l =>
      cases e
      obtain ⟨a, xs, rfl, hq, rs⟩ := WRep.seqL (.inl r)
      exact .inl ⟨xs, hq, by rw [isEmpty_len rs.length]⟩
    | _ => cases e
theorem psv_never {st : Stmt} : PSv X st (fun _ => none) := ⟨_, ps_never, fun _ _ _ _ _ _ _ _ _ e _ => by cases e⟩
theorem psv_asg {tg e : Expr} {pos : Pos} {f : FE} {ga : D → List Sl → Option (List Sl)} (he : PV X e f) (hg : PGv X tg ga) (hs : swapsWithSole [tg] e pos.line X.env = pure false := by rfl) (hw : swappedStores [tg] e X.env = pure none := by rfl)
    (h1 : (assignEach [tg] X.env).map (·.2) = [assign tg X.env] := by rfl) : PSv X (.Assign [tg] e pos) (asgG ga f) := by
  obtain ⟨te, pe, he⟩ := he
  obtain ⟨tg', pg, hg⟩ := hg
  refine ⟨_, ps_asg pe pg hs hw h1, fun H₀ H O σ ds hd out E o e h => ?_⟩
  unfold asgG at e
  cases h2 : f ds with
  | none => rw [h2] at e; cases e
  | some d =>
    rw [h2] at e
    simp only [Option.bind_some] at e
    cases h3 : ga d ds with
    | none => rw [h3] at e; cases e
    | some ds' =>
      rw [h3] at e
      cases e
      refine he H₀ H O σ ds hd d _ o h2 fun v H1 s1 r1 => ?_
      exact hg H₀ H1 O σ ds hd v d ds' _ (o.mono s1) r1 h3 fun σ' o' => h σ' H1 O o'
end
end FL
namespace L2
open PySem PySem.Spec PyProof.Rows
section
variable {X : Cx}
end
end L2
namespace Att
open PySem PySem.W PySem.Calls PyProof.Rows
theorem bits_script : ∀ {ns : List Int} {b : Nat}, WData.weightAll (ns.map WData.int) ≤ b → ∀ c ∈ ns, Builtin.Int.intBits c ≤ b
  | [], _, _ => fun c hc => by cases hc
  | n :: r, b, h => fun c hc => by
    simp only [List.map_cons, WData.weightAll, WData.weight] at h
    rcases List.mem_cons.mp hc with rfl | hc
    · unfold Builtin.Int.intBits
      omega
    · exact bits_script (ns := r) (b := b) (by omega) c hc
theorem attach_callB {l : OpenLaw} {n : Nat} {q : Program} {loose : List Str} {XP : (Str → Option Value) → Heap → Prop} {YP : World → Heap → Prop} {d : DefRec}
    (hn : l.most = some n) (hdf : d.params.defaults = [])
    (call : ∀ (w : World) (s₀ s₁ : Shared) (mg mb : Str → Option Value) (fa : Addr) (o : Obj) (pm cd doc : Value) (a : Addr) (vs : List Value) (ns : List Int),
      Ground q loose [] XP w s₀ mg mb s₁.heap → YP w s₁.heap →
      s₁.heap.get? fa = some o → o.data = .func (docDef d.name d.params d.body d.scope pm cd doc) → s₁.heap.CodeRec cd d.name → mg d.name = some (.ref fa) →
      s₁.heap.get? a = some { cls := .type "list", data := .seq vs.toArray } → IntsAre vs ns → ns.length ≤ n → (∀ c ∈ ns, Builtin.Int.intBits c ≤ 1048576) → s₁.gens = #[] →
      codeAny (model l.prog w) callerA (.call (.ref fa) ⟨[.ref a], []⟩) (fun r s' => r = .ok (.ret (.bool true)) ∧ OldK s₁.heap s'.heap ∧ s'.os = s₁.os ∧ AllBare s'.gens) s₁) :
    WalkO q loose XP YP l.row.toRowW d [] (fun f vs => PySem.call f vs) := by
  intro w s₀ s₁ mg mb G Y fa o pm cd doc dV kV ho hd hcd hD hmg hg args vals as hpre hlay hrd hwl hlo
  obtain rfl : dV = .none := Dflts.none hD hdf
  obtain rfl : kV = .none := Dflts.noKw hD
  obtain ⟨a, vs, ns, rfl, rfl, hobj, hints, hlen⟩ := script_of hn hpre hwl
  have hb : ∀ c ∈ ns, Builtin.Int.intBits c ≤ 1048576 := by
    have h1 := (layableW_iff.mp (layW_cons hlay).1).2.2
    simp only [WData.weight] at h1
    exact bits_script (Nat.le_trans h1 (by decide))
  refine enter_call (codeAny_mono (call w s₀ s₁ mg mb fa o pm cd doc a vs ns G Y ho (fd_plain hd) hcd hmg hobj hints hlen hb hg) fun r s' hq => ?_)
  obtain ⟨rfl, h2, h3, h4⟩ := hq
  exact ⟨.inl ⟨.bool true, .bool true, [], rfl, fun _ => rfl, .bool true, post_true l _, fun _ => ⟨List.Pairwise.nil, fun _ hm => (nomatch hm)⟩⟩, h2, h3, h4⟩
end Att
namespace FL
open PySem PySem.Spec PyProof.Rows L2
def spLawB (K : Frag) (n : Nat) : Sp := fun vs H Q _ => ∃ (a : Addr) (ns : List Int), vs = [.ref a] ∧ SqL K H a (ns.map V.int) ∧ ns.length ≤ n ∧ (∀ c ∈ ns, Builtin.Int.intBits c ≤ 1048576) ∧ ∀ H', Q (.bl true) H'
theorem law_ofB {P : Program} {w : World} {K : Frag} {mg : Str → Option Value} {base : Heap} {k : Nat} {f : Addr} {fd : FuncData} {x : Str} {n : Nat} {F : List D → Option Ret} (Fn : FnOk P w K mg base CX0 k f fd [x] (spF K 1 F))
    (h : ∀ ns : List Int, ns.length ≤ n → (∀ c ∈ ns, Builtin.Int.intBits c ≤ 1048576) → F [.lst (ns.map D.int)] = some (.val (.bl true))) : FnOk P w K mg base CX0 k f fd [x] (spLawB K n) := by
  refine Fn.imp fun vs H Q E hq => ?_
  obtain ⟨a, ns, rfl, hS, hl, hb, q⟩ := hq
  refine ⟨rfl, [.lst (ns.map D.int)], .val (.bl true), .cons ?_ .nil, h ns hl hb, fun v H' s r => ?_⟩
  · rcases hS with hS | hS
    · exact .lst (fun z => z.elim) hS (Reps.ints ns)
    · exact .lstK hS (Reps.ints ns)
  · cases r; exact q H'
open PySem.W (tabIn CodeHd tabObj noTabs tab_of) in
inductive TabL (K : Frag) (q : Program) : List Str → List (Str × Addr × Addr) → Prop
  | nil : TabL K q [] []
  | yes {x : Str} {xs : List Str} {c P : Addr} {tl : List (Str × Addr × Addr)} (h : PySem.W.tabIn K x = some (c, P)) (r : ((recsOf q).find? (fun e => e.name == x)).isSome = true) (ap : (tl.all fun p => p.2.2 != P) = true) (t : TabL K q xs tl) : TabL K q (x :: xs) ((x, c, P) :: tl)
  | no {x : Str} {xs : List Str} {tl : List (Str × Addr × Addr)} (h : PySem.W.tabIn K x = none) (t : TabL K q xs tl) : TabL K q (x :: xs) tl
theorem tabL_no {K : Frag} {q : Program} {x : Str} {xs : List Str} {tl : List (Str × Addr × Addr)} (h : PySem.W.nsIn K mainGlobals x = some none) (t : TabL K q xs tl) : TabL K q (x :: xs) tl := .no (by unfold PySem.W.tabIn; rw [h]) t
theorem tabL_yes {K : Frag} {q : Program} {x : Str} {xs : List Str} {c P f : Addr} {fd : FuncData} {oc oc' : Value} {od od' : Option Addr} {sl sl' : Array (Option Value)} {vs : Array Value} {tl : List (Str × Addr × Addr)} (h1 : PySem.W.nsIn K mainGlobals x = some (some (.ref f))) (h2 : K.lookup f = some ⟨oc, od, .func fd, sl⟩)
    (h3 : fd.code = .ref c) (h4 : K.lookup c = some ⟨oc', od', .fields vs, sl'⟩) (h5 : (vs[11]? : Option Value) = some (.ref P)) (r : ((recsOf q).find? (fun e => e.name == x)).isSome = true) (t : TabL K q xs tl) (ap : (tl.all fun p => p.2.2 != P) = true) : TabL K q (x :: xs) ((x, c, P) :: tl) :=
  .yes (by unfold PySem.W.tabIn; simp only [h1, h2, h3, h4, h5]) r ap t
section
variable {K : Frag} {q : Program} {xs : List Str} {tl : List (Str × Addr × Addr)}
theorem TabL.get (h : TabL K q xs tl) : ∀ {x : Str} {c P : Addr}, x ∈ xs → PySem.W.tabIn K x = some (c, P) → (x, c, P) ∈ tl := by
  induction h with
  | nil => intro x c P hx; cases hx
  | yes h r ap t ih =>
    intro x c P hx ht
    rcases List.mem_cons.mp hx with e | e
    · subst e
      rw [h] at ht
      cases ht
      exact List.mem_cons_self
    · exact List.mem_cons_of_mem _ (ih e ht)
  | no h t ih =>
    intro x c P hx ht
    rcases List.mem_cons.mp hx with e | e
    · subst e
      rw [h] at ht
      cases ht
    · exact ih e ht
theorem TabL.fact (h : TabL K q xs tl) : ∀ p ∈ tl, PySem.W.tabIn K p.1 = some (p.2.1, p.2.2) ∧ ((recsOf q).find? (fun e => e.name == p.1)).isSome = true := by
  induction h with
  | nil => intro p hp; cases hp
  | yes h r ap t ih =>
    intro p hp
    rcases List.mem_cons.mp hp with e | e
    · subst e; exact ⟨h, r⟩
    · exact ih p e
  | no h t ih => exact ih
def tabH (K : Frag) (tl : List (Str × Addr × Addr)) : Hp := fun b => (tl.find? fun p => p.2.2 == b).map fun p => .tbl (innerQ K p.1)
theorem tabH_of {b : Addr} {u : HO} (e : tabH K tl b = some u) : ∃ p ∈ tl, b = p.2.2 ∧ u = .tbl (innerQ K p.1) := by
  unfold tabH at e
  cases h : tl.find? fun p => p.2.2 == b with
  | none => rw [h] at e; cases e
  | some p =>
    rw [h] at e
    cases e
    exact ⟨p, List.mem_of_find?_eq_some h, (beq_iff_eq.mp (List.find?_some (p := fun p : Str × Addr × Addr => p.2.2 == b) h)).symm, rfl⟩
theorem TabL.at (h : TabL K q xs tl) : ∀ p ∈ tl, tabH K tl p.2.2 = some (.tbl (innerQ K p.1)) := by
  induction h with
  | nil => intro p hp; cases hp
  | yes h r ap t ih =>
    intro p hp
    rename_i x xs c P tl
    unfold tabH
    rcases List.mem_cons.mp hp with e | e
    · subst e
      simp
    · have : (P == p.2.2) = false := by
        have := List.all_eq_true.mp ap p e
        simp only [bne_iff_ne, ne_eq] at this
        exact beq_eq_false_iff_ne.mpr (Ne.symm this)
      rw [List.find?_cons, this]
      exact ih p e
  | no h t ih => exact ih
end
theorem no_cls {K : Frag} {h : Heap} {b : Addr} {o : Obj} {ps : Array Value} (X : K.In h) (hK : PySem.W.noTabs K = true) (e : K.lookup b = some o) (hb : h.get? b = some (PySem.W.tabObj ps)) : False := by
  have q := X b o e
  rw [hb] at q
  cases q
  have h2 := List.all_eq_true.mp hK (b, _) (PySem.W.mem_of_lookupK e)
  exact absurd (show false = true from h2) Bool.false_ne_true
theorem law_callT {P : Program} {w : World} {K : Frag} {q : Program} {loose : List Str} {mean : ExcName → Option Value} {mg mb : Str → Option Value} {k : Nat} {fa a : Addr} {fd : FuncData} {x : Str} {sp : Sp} {s₁ : Shared} {vs : List Value} {ns : List Int} {tl : List (Str × Addr × Addr)}
    (KX : K.In s₁.heap) (T : Top q loose mean mg mb s₁.heap) (hT : TabL K q makers tl) (hK : PySem.W.noTabs K = true) (hg : s₁.gens = #[]) (ha : s₁.heap.get? a = some { cls := .type "list", data := .seq vs.toArray }) (hi : IntsAre vs ns) (hl : ns.length ≤ sizeLine) (hr : Room k callerA)
    (F : ∀ base : Heap, K.In base → base.Ns mainGlobals mg → FnOk P w K mg base CX0 k fa fd [x] sp) (hbind : ∀ (s : Shared) (u : Value), BindsTo s fd ⟨[u], []⟩ [(x, u)])
    (hsp : ∀ H : Hp, SqL K H a (ns.map V.int) → sp [.ref a] H (fun v _ => v = .bl true) fun _ _ _ => False) :
    codeAny (model P w) callerA (.call (.ref fa) ⟨[.ref a], []⟩) (fun r s' => r = .ok (.ret (.bool true)) ∧ OldK s₁.heap s'.heap ∧ s'.os = s₁.os ∧ AllBare s'.gens) s₁ := by
  have rv := vals_ints hi
  have tf : ∀ p ∈ tl, PySem.W.CodeHd s₁.heap p.2.1 p.2.2 ∧ s₁.heap.get? p.2.2 = some (PySem.W.tabObj #[]) := fun p hp => by
    obtain ⟨h1, h2⟩ := hT.fact p hp
    obtain ⟨d, hd⟩ := Option.isSome_iff_exists.mp h2
    exact PySem.W.tab_of T KX hd h1
  have core : ∀ H : Hp, SqL K H a (ns.map V.int) → L2.HOk P w H s₁.heap → (∀ b u, H b = some u → (b = a ∧ K.lookup a = none ∧ ∃ o xs, u = .frz o (.lst xs)) ∨ ∃ p ∈ tl, b = p.2.2 ∧ u = .tbl (innerQ K p.1)) → (∀ p ∈ tl, H p.2.2 = some (.tbl (innerQ K p.1))) →
      codeAny (model P w) callerA (.call (.ref fa) ⟨[.ref a], []⟩) (fun r s' => r = .ok (.ret (.bool true)) ∧ OldK s₁.heap s'.heap ∧ s'.os = s₁.os ∧ AllBare s'.gens) s₁ := by
    intro H hS hok hA hP
    have free_of : ∀ {b : Addr} {o : Obj}, s₁.heap.get? b = some o → (∀ its n, o.data ≠ .seq its n) → o.data ≠ .fields #[] → H b = none := fun {b o} e n1 n2 => by
      cases qb : H b with
      | none => rfl
      | some u =>
        rcases hA b u qb with ⟨rfl, _, _⟩ | ⟨p, hp, rfl, _⟩
        · rw [ha] at e; cases e; exact (n1 _ _ rfl).elim
        · rw [(tf p hp).2] at e; cases e; exact (n2 rfl).elim
    have base_of : ∀ {b : Addr} {o : Obj}, s₁.heap.get? b = some o → (∀ its n, o.data ≠ .seq its n) → o.data ≠ .fields #[] → (hidT s₁.heap H).get? b = some o := fun e n1 n2 => hidT_get e (free_of e n1 n2)
    have nsK : ∀ {b : Addr} {m : Str → Option Value}, s₁.heap.Ns b m → (hidT s₁.heap H).Ns b m := fun {b m} ⟨o, es, ep, e, d, r⟩ => ⟨o, es, ep, base_of e (fun _ _ z => by rw [d] at z; cases z) (fun z => by rw [d] at z; cases z), d, r⟩
    have hKb : K.In (hidT s₁.heap H) := fun b o e => hidT_get (KX b o e) (by
      cases qb : H b with
      | none => rfl
      | some u =>
        rcases hA b u qb with ⟨rfl, z, _⟩ | ⟨p, hp, rfl, _⟩
        · rw [z] at e; cases e
        · exact (no_cls KX hK e (tf p hp).2).elim)
    have hM : Mod K mg (hidT s₁.heap H) := ⟨hKb, nsK T.g, ⟨mb, nsK T.b, T.builtins⟩, let ⟨mc, h1, h2⟩ := T.nolimit; ⟨mc, nsK h1, h2⟩⟩
    have hTab : TabsK K mg (hidT s₁.heap H) H := by
      refine ⟨?_, fun y c P' hy ht => ?_⟩
      · obtain ⟨bm, ob, b1, b2, b3, b4, b5, b6⟩ := T.bmain
        exact ⟨bm, ob, b1, b2, base_of b3 (fun _ _ z => by rw [b6] at z; cases z) (fun z => by rw [b6] at z; cases z), b4, b5, b6⟩
      · have hm := hT.get hy ht
        refine ⟨?_, hP _ hm⟩
        obtain ⟨o, ws, file, tf', flags, tg, inF, text, tt, e1, r1, r2, r3, rest⟩ := (tf _ hm).1
        refine ⟨o, ws, file, tf', flags, tg, inF, text, tt, base_of e1 (fun _ _ z => by rw [r2] at z; cases z) (fun z => ?_), r1, r2, r3, rest⟩
        rw [r2] at z
        cases z
        cases r3
    have e0 : Env0 P w K mg (hidT s₁.heap H) callerA [] s₁ H := ⟨rfl, hM, fun b o e => of_hidT e, ⟨Nat.le_of_eq (hidT_size _ _), hTab⟩, trivial, fun b hb => absurd (show b ∈ ([] : List Addr) from hb) (by simp), hok, .of_eq hg⟩
    refine codeAny_mono ((F _ hKb (nsK T.g)).run callerA [] s₁ H ⟨[.ref a], []⟩ [.ref a] [.ref a] _ _ hr e0 (hbind s₁ (.ref a)) (.cons rfl .nil) (hsp H hS)) fun r s' h => ?_
    cases r with
    | error e => exact False.elim h
    | ok fl =>
      cases fl with
      | next => exact False.elim h
      | brk => exact False.elim h
      | cont => exact False.elim h
      | ret u =>
        obtain ⟨v, H', os, bare, un, hok', r', hv⟩ := h
        have hv' : v = .bl true := hv
        subst hv'
        obtain rfl : u = Value.bool true := r'
        refine ⟨rfl, ⟨fun b o e => ?_, fun b o e => un.there b o e (by simp)⟩, os, bare⟩
        cases qb : H b with
        | none => exact .inl (un.keep b o e qb (by intro z; exact absurd (show b ∈ ([] : List Addr) from z) (by simp)) (by simp))
        | some u =>
          rcases hA b u qb with ⟨_, _, ob, xs, rfl⟩ | ⟨p, hp, rfl, rfl⟩
          · obtain ⟨e1, _⟩ := hok b _ qb
            obtain ⟨e2, _⟩ := hok' b _ (un.frzs b ob _ qb)
            rw [e] at e1; cases e1
            exact .inl e2
          · have t2 := (tf p hp).2
            rw [e] at t2
            cases t2
            obtain ⟨ps, e2, _⟩ := hok' _ _ (un.tbls _ _ qb)
            exact .inr (.inl ⟨((tf p hp).1.tab (tf p hp).2).isCodeTable, rfl, #[], ps, rfl, by rw [Array.empty_append]; exact e2⟩)
  have tabOk : ∀ (H : Hp) (p : Str × Addr × Addr), p ∈ tl → ObjOk P w H s₁.heap p.2.2 (.tbl (innerQ K p.1)) := fun H p hp => ⟨#[], (tf p hp).2, trivial, fun pos v z => by cases z⟩
  cases hk : K.lookup a with
  | some o =>
    have e := KX a o hk
    rw [ha] at e
    cases e
    refine core (tabH K tl) (.inr ⟨_, vs.toArray, _, hk, rfl, rfl, rfl, by rw [List.size_toArray, hi.length]; exact hl, by simpa using rv⟩) (fun b u z => ?_) (fun b u z => .inr (tabH_of z)) fun p hp => hT.at p hp
    obtain ⟨p, hp, rfl, rfl⟩ := tabH_of z
    exact tabOk _ p hp
  | none =>
    have na : ∀ p ∈ tl, p.2.2 ≠ a := fun p hp z => by
      have := (tf p hp).2
      rw [z, ha] at this; cases this
    refine core (upd (tabH K tl) a (.frz { cls := .type "list", data := .seq vs.toArray } (.lst (ns.map V.int)))) (.inl (.inr ⟨_, upd_same⟩)) (fun b u z => ?_) (fun b u z => ?_) fun p hp => by rw [upd_ne (na p hp)]; exact hT.at p hp
    · by_cases hb : b = a
      · subst hb
        rw [upd_same] at z
        cases z
        exact ⟨ha, by rw [List.length_map]; exact hl, vs, _, rv, ha⟩
      · rw [upd_ne hb] at z
        obtain ⟨p, hp, rfl, rfl⟩ := tabH_of z
        exact tabOk _ p hp
    · by_cases hb : b = a
      · subst hb
        rw [upd_same] at z
        cases z
        exact .inl ⟨rfl, hk, _, _, rfl⟩
      · rw [upd_ne hb] at z
        exact .inr (tabH_of z)
theorem walkB {l : PySem.W.OpenLaw} {q : Program} {loose : List Str} {XP : (Str → Option Value) → Heap → Prop} {YP : World → Heap → Prop} {d : DefRec} {K : Params → PySem.W.Frag} {k : Nat} {tl : List (Str × Addr × Addr)} (hn : l.most = some 63) (hdf : d.params.defaults = []) (hr : Room k callerA)
    (hY : ∀ (w : World) (h : Heap), YP w h → (K w.params).In h) (hK : ∀ w : World, PySem.W.noTabs (K w.params) = true) (hT : ∀ w : World, TabL (K w.params) q makers tl)
    (F : ∀ (w : World) (mg : Str → Option Value) (fa : Addr) (h : Heap), (K w.params).In h → h.Ns mainGlobals mg → mg d.name = some (.ref fa) →
      ∃ fd : FuncData, (∀ (s : Shared) (u : Value), BindsTo s fd ⟨[u], []⟩ [("_law_script", u)]) ∧ ∀ base : Heap, (K w.params).In base → base.Ns mainGlobals mg → FnOk l.prog w (K w.params) mg base CX0 k fa fd ["_law_script"] (spLawB (K w.params) 63)) :
    PySem.W.WalkO q loose XP YP l.row.toRowW d [] (fun f vs => PySem.call f vs) := by
  refine Att.attach_callB hn hdf fun w s₀ s₁ mg mb fa o pm cd doc a vs ns G Y ho hd hcd hmg hobj hints hlen hb hg => ?_
  have KX := hY w _ Y
  obtain ⟨fd, hbd, hF⟩ := F w mg fa _ KX G.T.g hmg
  exact law_callT KX G.T (hT w) (hK w) hg hobj hints (Nat.le_trans hlen (by decide)) hr hF hbd fun H hS => ⟨a, ns, rfl, hS, hlen, hb, fun _ => rfl⟩
structure Cal (P : Program) (w : World) (K : Frag) (mg : Str → Option Value) (base : Heap) (x : Str) (k n : Nat) (F : List D → Option Ret) : Prop where
  ex : ∃ (f : Addr) (fd : FuncData) (ps : List Str), FnOk P w K mg base CX0 k f fd ps (spF K n F) ∧ Binds K fd ps [] ∧ PySem.W.keepIn K (.ref f) = true ∧ mg x = some (.ref f)
section
variable {X : Cx}
section
variable {k j : Nat} {n : Nat} {F : List D → Option Ret} {x : Str} {p pos : Pos} {e : Expr} {es : List Expr} {g : FA}
theorem pv_callC (C : Cal X.prog X.w X.K X.mg X.base x k n F) (hr : Room j X.A) (ha : PAn X (e :: es) g) (hj : k ≤ j := by decide)
    (hg : Gl X x := by rfl) (hdb : (x == ("__debug__" : Str)) = false := by decide) (he : starEach (e :: es) X.env = (false, eval e X.env) :: starEach es X.env := by rfl) (hpl : (backTo pos (starEach es X.env)).any (·.1) = false := by rfl) :
    PV X (.Call (.Name x p) (e :: es) [] pos) (callV n F g) := by
  obtain ⟨f, fd, ps, Fn, hb, hk, hm⟩ := C.ex
  exact pv_callN Fn (hr.mono hj) hm hk hb ha hg hdb he hpl
end
end
section
variable {X : Cx} {a b : Expr} {fa fb : FE} {pos : Pos}
theorem pv_le (ha : PVw X a fa) (hb : PVw X b fb) : PV X (.Compare a [.LtE] [b] pos) (bin2 leD fa fb) := pv_cmp op_le os_cmpI ha hb (nomark _)
theorem pt_lt (ha : PVw X a fa) (hb : PVw X b fb) : PTv X (.Compare a [.Lt] [b] pos) (testB (bin2 ltD fa fb)) := pt_cmpV op_lt os_cmpI ha hb (nomark _)
theorem pt_gt (ha : PVw X a fa) (hb : PVw X b fb) : PTv X (.Compare a [.Gt] [b] pos) (testB (bin2 gtD fa fb)) := pt_cmpV op_gt os_cmpI ha hb (nomark _)
theorem pt_ge (ha : PVw X a fa) (hb : PVw X b fb) : PTv X (.Compare a [.GtE] [b] pos) (testB (bin2 geD fa fb)) := pt_cmpV op_ge os_cmpI ha hb (nomark _)
theorem pv_addI (ha : PVw X a fa) (hb : PVw X b fb) : PV X (.BinOp a .Add b pos) (bin2 addD fa fb) := pv_bin op_addU os_add ha hb
theorem pv_subI (ha : PVw X a fa) (hb : PVw X b fb) : PV X (.BinOp a .Sub b pos) (bin2 subD fa fb) := pv_bin op_sub os_sub ha hb
theorem pv_mulI (ha : PVw X a fa) (hb : PVw X b fb) : PV X (.BinOp a .Mult b pos) (bin2 mulD fa fb) := pv_bin op_mulB os_mul ha hb
theorem pv_powI (ha : PVw X a fa) (hb : PVw X b fb) : PV X (.BinOp a .Pow b pos) (bin2 powD fa fb) := pv_bin op_powB os_pow ha hb
theorem pv_modI (ha : PVw X a fa) (hb : PVw X b fb) : PV X (.BinOp a .Mod b pos) (bin2 modD fa fb) := pv_bin op_mod os_mod ha hb
theorem pv_divI (ha : PVw X a fa) (hb : PVw X b fb) : PV X (.BinOp a .FloorDiv b pos) (bin2 fdivD fa fb) := pv_bin op_fdivB os_fdiv ha hb
end
end FL
namespace L2
open PySem PySem.Spec PyProof.Rows
section
variable {X : Cx} {tg : Expr}
theorem pi_seq {l : Expr} {tl : TE} (hl : PE X l tl) : PI X tg l (fun σ H R => iList X.K tl σ H R ∨ iTup X.K tl σ H R) := by
  intro pins s σ H R I h
  rcases h with h | h
  · exact pi_list hl pins s σ H R I h
  · exact pi_tup hl pins s σ H R I h
end
end L2
namespace FL
open PySem PySem.Spec PyProof.Rows L2
section
variable {X : Cx}
theorem piv_seq {tg e : Expr} {f : FE} (h : PV X e f) : PIv X tg e (viaA f asLT) := by
  obtain ⟨t, ht, hf⟩ := h
  refine ⟨_, pi_seq ht, fun H₀ H O σ ds hd items R o e q => ?_⟩
  unfold viaA at e
  cases h1 : f ds with
  | none => rw [h1] at e; cases e
  | some d =>
    rw [h1] at e
    cases d with
    | lst l =>
      cases e
      refine .inl (hf H₀ H O σ ds hd _ _ o h1 fun v H' s r => ?_)
      obtain ⟨a, xs, rfl, hs, rs⟩ := WRep.seqL (.inl r)
      exact ⟨a, rfl, ⟨xs, hs⟩, q _ (.ref a, .lst items) H' s r wlk_list⟩
    | tup l =>
      cases e
      refine .inr (hf H₀ H O σ ds hd _ _ o h1 fun v H' s r => ?_)
      obtain ⟨a, xs, rfl, hs, rs⟩ := WRep.seqT (.inl r)
      exact ⟨a, rfl, ⟨xs, hs⟩, q _ (.ref a, .tup items) H' s r wlk_tup⟩
    | _ => cases e
end
end FL
namespace L2
open PySem PySem.Spec PyProof.Rows
section
variable {X : Cx} {tg : Expr}
theorem maxOf_spec : ∀ ns : List Int, ns ≠ [] → FL.maxOf ns ∈ ns ∧ ∀ a ∈ ns, a ≤ FL.maxOf ns
  | [], h => (h rfl).elim
  | [a], _ => ⟨by simp [FL.maxOf], by simp [FL.maxOf]⟩
  | a :: b :: r, _ => by
    obtain ⟨h1, h2⟩ := maxOf_spec (b :: r) (by simp)
    have e : FL.maxOf (a :: b :: r) = max a (FL.maxOf (b :: r)) := rfl
    rw [e]
    refine ⟨?_, fun x hx => ?_⟩
    · rcases (show max a (FL.maxOf (b :: r)) = a ∨ max a (FL.maxOf (b :: r)) = FL.maxOf (b :: r) by omega) with h | h <;> rw [h]
      · exact List.mem_cons_self
      · exact List.mem_cons_of_mem _ h1
    · rcases List.mem_cons.mp hx with rfl | hx
      · omega
      · have := h2 x hx; omega
theorem maxOf_of {ns : List Int} {M : Int} (h1 : M ∈ ns) (h2 : ∀ a ∈ ns, a ≤ M) : M = FL.maxOf ns := by
  obtain ⟨h3, h4⟩ := maxOf_spec ns (List.ne_nil_of_mem h1)
  have := h2 _ h3
  have := h4 _ h1
  omega
theorem call_maxL (hc : X.calm = true) : CallR X (.builtin "max") (fun xs H Q => ∃ (p : Addr) (ns : List Int), xs = [.ref p] ∧ SqL X.K H p (ns.map V.int) ∧ ns ≠ [] ∧ Q (.int (FL.maxOf ns)) H) := by
  intro pins s σ H xs us Q I r h
  obtain ⟨p, ns, rfl, hq, hne, q⟩ := h
  obtain ⟨u, rfl, ru⟩ := vals1 r
  cases ru
  obtain ⟨its, rv, pl, hz⟩ := I.list hq
  have hi : IntsAre its ns := intsAre_of rv
  have hl := pl.isList
  obtain ⟨xs, e⟩ := hi.allInts.items
  have hns : ns = xs.toList.map (·.1) := by
    rw [← hi.numsOf, ← nums_intItems, ← e]
  have hsz : 0 < xs.size := by
    have h3 := List.length_pos_iff.mpr hne; rw [hns, List.length_map, Array.length_toList] at h3; exact h3
  rw [e] at hl
  refine max_intList (I.ok.hd hc) hl hsz fun v h' tk hv hk => ?_
  obtain ⟨t, rfl⟩ := intItems_at hv
  obtain ⟨h1, h2⟩ := argBest_gt (numAt xs) (xs.size - 1)
  have hM : numAt xs (argBest (fun i j => decide (numAt xs i > numAt xs j)) (xs.size - 1)) = FL.maxOf ns := by
    refine maxOf_of ?_ fun a ha => ?_
    · rw [hns, numAt_eq]
      have hlt : argBest (fun i j => decide (numAt xs i > numAt xs j)) (xs.size - 1) < (xs.toList.map (·.1)).length := by rw [List.length_map, Array.length_toList]; omega
      rw [List.getD_eq_getElem?_getD, List.getElem?_eq_getElem hlt]
      exact List.getElem_mem hlt
    · rw [hns] at ha
      obtain ⟨j, hj, rfl⟩ := List.mem_iff_getElem.mp ha
      rw [List.length_map, Array.length_toList] at hj
      have := h2 j (by omega)
      rw [numAt_eq xs j, List.getD_eq_getElem?_getD, List.getElem?_eq_getElem (by rw [List.length_map, Array.length_toList]; exact hj)] at this
      exact this
  rw [hM]
  exact ⟨.int (FL.maxOf ns), H, I.kept hk, ⟨t, rfl⟩, q⟩
end
end L2
namespace FL
open PySem PySem.Spec PyProof.Rows L2
section
variable {X : Cx}
theorem ints_rep {K : Frag} {H : Hp} {O : Addr → Prop} : ∀ {xs : List V} {l : List D} {bs : List Int}, Reps K H O xs l → intsD l = some bs → xs = bs.map V.int
  | _, _, _, .nil, e => by cases e; rfl
  | _, _, bs, .cons (d := d) h t, e => by
    cases d with
    | int b =>
      rename_i ds
      simp only [intsD] at e
      cases hr : intsD ds with
      | none => rw [hr] at e; cases e
      | some r =>
        rw [hr] at e
        cases e
        cases h
        rw [ints_rep t hr]
        rfl
    | _ => cases e
theorem cs_maxL : CallS X (fun xs H Q => ∃ (p : Addr) (ns : List Int), xs = [.ref p] ∧ SqL X.K H p (ns.map V.int) ∧ ns ≠ [] ∧ Q (.int (maxOf ns)) H) mxLD := by
  intro H O vs l d Q ho r e q
  match l, r, e with
  | [.lst l], .cons r .nil, e =>
    simp only [mxLD] at e
    cases hb : intsD l with
    | none => rw [hb] at e; cases e
    | some ns =>
      rw [hb] at e
      simp only [Option.bind_some] at e
      split at e
      · cases e
      · rename_i hne
        cases e
        obtain ⟨a, xs, rfl, hs, rs⟩ := r.seqL
        refine ⟨a, ns, rfl, ?_, hne, q _ H (Same.refl _) (.int _)⟩
        rw [← ints_rep rs hb]
        exact hs
theorem pv_maxL {p pos : Pos} {e : Expr} {g : FA} (hc : X.calm = true) (hm : X.mg "max" = none) (ha : PAv X [e] g) (hg : Gl X "max" := by rfl) (he : starEach [e] X.env = [(false, eval e X.env)] := by rfl) :
    PV X (.Call (.Name "max" p) [e] [] pos) (callB mxLD g) := pv_callB (call_maxL hc) cs_maxL hm (by decide +kernel) ha hg (by decide) (by decide) he rfl
theorem pv_int1 {p pos : Pos} {e : Expr} {g : FA} (hm : X.mg "int" = none) (ha : PAv X [e] g) (hg : Gl X "int" := by rfl) (he : starEach [e] X.env = [(false, eval e X.env)] := by rfl) : PV X (.Call (.Name "int" p) [e] [] pos) (callB int1D g) := by
  obtain ⟨t, ht, hf⟩ := ha
  refine ⟨_, pe_callTy call_int1 hg hm (by decide +kernel) ht (by decide) (by decide) he rfl, fun H₀ H O σ ds hd d Q o e q => ?_⟩
  unfold callB at e
  cases h : g ds with
  | none => rw [h] at e; cases e
  | some l =>
    rw [h] at e
    simp only [Option.bind_some] at e
    refine hf H₀ H O σ ds hd l _ o h fun vs H1 s1 r1 => ?_
    match l, r1, e with
    | [.int i], .cons r .nil, e =>
      cases e
      exact .inl ⟨i, by rw [r.int'], q _ H1 s1 (.int _)⟩
    | [.bl b], .cons r .nil, e =>
      cases e
      exact .inr ⟨b, by rw [r.bl'], q _ H1 s1 (.int _)⟩
end
end FL
namespace L2
open PySem PySem.Spec PyProof.Rows
section
variable {X : Cx} {pins : List (Addr × Obj)} {σ : St} {H : Hp} {s : Shared} {h' : Heap}
end
section
variable {X : Cx}
end
end L2
namespace FL
open PySem PySem.Spec PyProof.Rows L2
section
variable {X : Cx}
section
variable {scope : Scope} {NY : List Str} {mp : List (Option Nat)} {tg iter elt : Expr} {ifs : List Expr} {pos : Pos} {fi : FA} {ga : D → List Sl → Option (List Sl)} {tt : FT} {fe : FE}
end
end
end FL
namespace L2
open PySem PySem.Spec PyProof.Rows
section
variable {X : Cx}
end
end L2
namespace FL
open PySem PySem.Spec PyProof.Rows L2
section
variable {X : Cx}
end
end FL
namespace FL
open PySem PySem.Spec PyProof.Rows L2
section
variable {X : Cx}
end
end FL
namespace FL
open PySem PySem.Spec PyProof.Rows L2
section
variable {X : Cx}
theorem Reps.rep {K : Frag} {H : Hp} {O : Addr → Prop} {xs : List V} {l : List D} (h : Reps K H O xs l) : ∀ k : Nat, Reps K H O (List.replicate k xs).flatten (List.replicate k l).flatten
  | 0 => by simpa using .nil
  | k + 1 => by
    rw [List.replicate_succ, List.flatten_cons, List.replicate_succ, List.flatten_cons]
    exact h.append (Reps.rep h k)
end
end FL
namespace L2
open PySem PySem.Spec PyProof.Rows
section
variable {X : Cx}
end
end L2
namespace FL
open PySem PySem.Spec PyProof.Rows L2
section
variable {X : Cx}
end
end FL
namespace L2
open PySem PySem.Spec PyProof.Rows
section
variable {X : Cx}
def tMethD (X : Cx) (m : Str) (k : Nat) (ta : TE) (t : TA) : TE := fun σ H Q => ta σ H fun x H1 => ∃ (a C dx : Addr) (fs : List (Str × V)) (f : Addr) (fd : FuncData) (ps : List Str) (sp : Sp), x = .ref a ∧ H1 a = some (.ins C dx fs) ∧ fs.lookup m = none ∧
  Cls X.K C ∧ Meth X.K C m f ∧ FnOk X.prog X.w X.K X.mg X.base CX0 k f fd ps sp ∧ Binds X.K fd ps [] ∧ t σ H1 fun vs H2 => sp (x :: vs) H2 Q E0
theorem pe_methD0 {k : Nat} {m : Str} {o : Expr} {apos pos : Pos} {ta : TE} {pl : Sem Bool} (he : PE X o ta) (hr : Room k X.A)
    (ht : eval (.Call (.Attribute o m apos) [] [] pos) X.env = (do
      let ov ← eval o X.env
      standAt apos.atName
      let (f, first) ← holding [ov] (getMethod ov m pl)
      callWith pos f first (backTo pos (starEach [] X.env)) (backToKw pos (keywordEach [] X.env))) := by rfl) :
    PE X (.Call (.Attribute o m apos) [] [] pos) (tMethD X m k ta tNil) := by
  intro pins s σ H Q I h
  refine PySem.W.methodCall_KW (pl := pl) (thn (he pins s σ H _ I h) fun u s1 ⟨x, H1, I1, rx, a, C, dx, fs, f, fd, ps, sp, ex, ea, l, c, hm, F, hb, q⟩ => ?_) ht
  subst ex
  obtain rfl : u = Value.ref a := rx
  refine getmeth_ok I1 ea c hm l ?_
  exact PySem.W.callWith_K0 (first := [.ref a]) I1.kIn hm.kp (run_fn (us := [.ref a]) (vs := [.ref a]) F hr hb .nil pass0 I1 (.cons rfl .nil) q)
end
end L2
namespace FL
open PySem PySem.Spec PyProof.Rows L2
section
variable {X : Cx}
theorem PVd.v {e : Expr} {f : FE} (h : PVd X e f) : PV X e f := by
  obtain ⟨t, ht, hf⟩ := h
  exact ⟨t, ht, fun H₀ H O σ ds hd d Q o e q => hf H₀ H O σ ds hd d Q o e fun v H' s r => q v H' s (r.less fun a z => o.old z)⟩
def FldOk (K : Frag) (f : Str) (ix : List (Nat × Nat)) : Prop := ∀ t i, ix.lookup t = some i → (clsFlds t)[i]? = some f ∧ (∀ j, j < i → (clsFlds t)[j]? ≠ some f) ∧ ∀ C, PySem.W.nsIn K mainGlobals (clsName t) = some (some (.ref C)) → Cls K C ∧ NoAttr K C f
theorem fldOk_nil {K : Frag} {f : Str} : FldOk K f [] := fun t i h => by simp at h
theorem fldOk_cons {K : Frag} {f : Str} {t i : Nat} {C : Addr} {ix : List (Nat × Nat)} (a : PySem.W.nsIn K mainGlobals (clsName t) = some (some (.ref C))) (c : Cls K C) (n : NoAttr K C f) (h1 : (clsFlds t)[i]? = some f) (h2 : ∀ j, j < i → (clsFlds t)[j]? ≠ some f)
    (h : FldOk K f ix) : FldOk K f ((t, i) :: ix) := by
  intro t' i' e
  by_cases q : t' = t
  · subst q
    simp at e
    subst e
    refine ⟨h1, h2, fun C' e' => ?_⟩
    rw [a] at e'
    cases e'
    exact ⟨c, n⟩
  · have : (t' == t) = false := by simpa using q
    rw [List.lookup_cons, this] at e
    exact h t' i' e
theorem lookup_fld {f : Str} : ∀ {kvs : List (Str × V)} {i : Nat} {v : V}, (kvs.map (·.1))[i]? = some f → (∀ j, j < i → (kvs.map (·.1))[j]? ≠ some f) → (kvs.map (·.2))[i]? = some v → kvs.lookup f = some v
  | [], _, _, h, _, _ => by simp at h
  | (g, x) :: r, 0, v, h1, _, h3 => by
    simp at h1 h3
    subst h1 h3
    simp [List.lookup]
  | (g, x) :: r, i + 1, v, h1, h2, h3 => by
    have hg : g ≠ f := fun z => h2 0 (by omega) (by simp [z])
    have : (f == g) = false := by simpa using fun z => hg z.symm
    rw [List.lookup_cons, this]
    exact lookup_fld (i := i) (by simpa using h1) (fun j hj => by have := h2 (j + 1) (by omega); simpa using this) (by simpa using h3)
theorem pv_fld {e : Expr} {f : Str} {pos : Pos} {fe : FE} {ix : List (Nat × Nat)} (hF : FldOk X.K f ix) (he : PV X e fe) (hb : attributeBase e f X.env (eval e X.env) = eval e X.env := by rfl) : PV X (.Attribute e f pos) (fldG ix fe) := by
  obtain ⟨t, ht, hf⟩ := he
  refine ⟨_, pe_fld ht hb, fun H₀ H O σ ds hd d Q o e q => ?_⟩
  unfold fldG at e
  cases h : fe ds with
  | none => rw [h] at e; cases e
  | some x =>
    rw [h] at e
    simp only [Option.bind_some] at e
    refine hf H₀ H O σ ds hd x _ o h fun v H1 s1 r1 => ?_
    cases x with
    | ins t es =>
      simp only [fldD] at e
      cases hl : ix.lookup t with
      | none => rw [hl] at e; cases e
      | some i =>
        rw [hl] at e
        simp only [Option.bind_some] at e
        obtain ⟨h1, h2, h3⟩ := hF t i hl
        cases r1 with
        | @ins a C dx _ kvs _ c n ha ek rr =>
          obtain ⟨cl, na⟩ := h3 C c
          obtain ⟨w, hw, rw'⟩ := rr.get e
          refine ⟨a, C, dx, kvs, w, rfl, ha, cl, na, lookup_fld (i := i) (by rw [ek]; exact h1) (by rw [ek]; exact h2) hw, ?_⟩
          exact q w H1 s1 rw'
    | _ => simp [fldD] at e
structure MCal (P : Program) (w : World) (K : Frag) (mg : Str → Option Value) (base : Heap) (m : Str) (k n : Nat) (cs : List Nat) (F : Nat → List D → Option Ret) : Prop where
  no : ∀ t ∈ cs, m ∉ clsFlds t
  of : ∀ t ∈ cs, ∀ C, PySem.W.nsIn K mainGlobals (clsName t) = some (some (.ref C)) → ∃ (f : Addr) (fd : FuncData) (ps : List Str), Cls K C ∧ Meth K C m f ∧ FnOk P w K mg base CX0 k f fd ps (spF K (n + 1) (F t)) ∧ Binds K fd ps []
theorem mcal_nil {P : Program} {w : World} {K : Frag} {mg : Str → Option Value} {base : Heap} {m : Str} {k n : Nat} {F : Nat → List D → Option Ret} : MCal P w K mg base m k n [] F := ⟨fun _ h => (nomatch h), fun _ h => (nomatch h)⟩
theorem mcal_cons {P : Program} {w : World} {K : Frag} {mg : Str → Option Value} {base : Heap} {m : Str} {j k n t : Nat} {cs : List Nat} {F : Nat → List D → Option Ret} {C f : Addr} {fd : FuncData} {ps : List Str} (a : PySem.W.nsIn K mainGlobals (clsName t) = some (some (.ref C)))
    (c : Cls K C) (hm : Meth K C m f) (G : FnOk P w K mg base CX0 j f fd ps (spF K (n + 1) (F t))) (hj : j ≤ k) (b : Binds K fd ps []) (hn : m ∉ clsFlds t) (h : MCal P w K mg base m k n cs F) : MCal P w K mg base m k n (t :: cs) F := by
  refine ⟨fun t' ht => (List.mem_cons.mp ht).elim (fun e => e ▸ hn) (h.no t'), fun t' ht C' e => ?_⟩
  rcases List.mem_cons.mp ht with rfl | ht
  · rw [a] at e
    cases e
    exact ⟨f, fd, ps, c, hm, G.mono hj, b⟩
  · exact h.of t' ht C' e
theorem lookup_none_of {m : Str} : ∀ {kvs : List (Str × V)}, m ∉ kvs.map (·.1) → kvs.lookup m = none
  | [], _ => rfl
  | (g, x) :: r, h => by
    have hg : (m == g) = false := by simpa using fun z => h (by simp [z])
    rw [List.lookup_cons, hg]
    exact lookup_none_of fun z => h (by simp at z ⊢; exact .inr z)
theorem meth_sem {m : Str} {k n : Nat} {cs : List Nat} {F : Nat → List D → Option Ret} (M : MCal X.prog X.w X.K X.mg X.base m k n cs F) {ta : TE} {t : TA} {fo : FE} {g : FA}
    (hfo : ∀ H₀ H O σ ds hd d Q, Ok X.K H₀ H O σ ds hd → fo ds = some d → (∀ v H', Same H H' → Rep X.K H' O v d → Q v H') → ta σ H Q)
    (hfg : ∀ H₀ H O σ ds hd l Q, Ok X.K H₀ H O σ ds hd → g ds = some l → (∀ vs H', Same H H' → Reps X.K H' none0 vs l → Q vs H') → t σ H Q)
    {H₀ H : Hp} {O : Addr → Prop} {σ : L2.St} {ds : List Sl} {hd : Hold} {x : D} {l : List D} {r : Ret} {Q : VK} (o : Ok X.K H₀ H O σ ds hd) (h1 : fo ds = some x) (h2 : g ds = some l) (h3 : methR n cs F x l = some r)
    (q : ∀ v H1 H', Same H H1 → Same H1 H' → RetOk X.K H1 H' v r → Q v H') : tMethD X m k ta t σ H Q := by
  refine hfo H₀ H O σ ds hd x _ o h1 fun v H1 s1 r1 => ?_
  cases x with
  | ins c es =>
    simp only [methR] at h3
    split at h3
    · rename_i hc
      cases r1 with
      | @ins a C dx _ kvs _ cc nn ha ek rr =>
        obtain ⟨f, fd, ps, cl, hm, Fn, hb⟩ := M.of c hc.1 C cc
        refine ⟨a, C, dx, kvs, f, fd, ps, _, rfl, ha, lookup_none_of (by rw [ek]; exact M.no c hc.1), cl, hm, Fn, hb, ?_⟩
        refine hfg H₀ H1 O σ ds hd l _ (o.mono s1) h2 fun vs H2 s2 r2 => ?_
        have hl := r2.length
        have r1' : Rep X.K H2 none0 (.ref a) (.ins c es) := (Rep.ins cc (fun z => z.elim) (s2 _ _ ha) ek ((rr.mono s2).less fun _ z => z.elim))
        exact ⟨by simp only [List.length_cons]; omega, _, r, .cons r1' r2, h3, fun v H' s' ro => q v H2 H' (s1.trans s2) s' ro⟩
    · cases h3
  | _ => simp [methR] at h3
section
variable {m : Str} {k j n : Nat} {cs : List Nat} {F : Nat → List D → Option Ret} {o e : Expr} {es : List Expr} {apos pos : Pos} {fo : FE} {g : FA}
end
end
end FL
namespace FL
open PySem PySem.Spec PyProof.Rows L2
def eH : Hp := fun _ => none
def Keepx (x : Addr) (H H' : Hp) : Prop := ∀ b o, b ≠ x → H b = some o → H' b = some o
theorem Keepx.trans {x : Addr} {H H1 H2 : Hp} (a : Keepx x H H1) (b : Keepx x H1 H2) : Keepx x H H2 := fun c o n e => b c o n (a c o n e)
theorem Keepx.of_same {x : Addr} {H H1 : Hp} (s : Same H H1) : Keepx x H H1 := fun c o _ e => s c o e
section
variable {K : Frag} {H H' : Hp} {O : Addr → Prop} {x : Addr}
theorem Keepx.rd {a C dx : Addr} {kvs : List (Str × V)} {xs : List V} (k : Keepx x H H') (hx : H x = some (.ins C dx kvs)) (h : Rd H a (.tup xs)) : Rd H' a (.tup xs) := by
  rcases h with h | ⟨o, h⟩
  · exact .inl (k _ _ (fun z => by rw [z, hx] at h; cases h) h)
  · exact .inr ⟨o, k _ _ (fun z => by rw [z, hx] at h; cases h) h⟩
mutual
theorem Rep.flatKeep {C dx : Addr} {kvs : List (Str × V)} (k : Keepx x H H') (hx : H x = some (.ins C dx kvs)) : ∀ {v : V} {d : D}, flat d = true → Rep K H O v d → Rep K H' O v d
  | _, _, _, .non => .non
  | _, _, _, .bl b => .bl b
  | _, _, _, .int i => .int i
  | _, _, _, .str y => .str y
  | _, _, f, .tup n h r => .tup n (k.rd hx h) (Reps.flatKeep k hx (by simpa [flat] using f) r)
  | _, _, f, .tupK h r => .tupK h (Reps.flatKeep k hx (by simpa [flat] using f) r)
  | _, _, f, .lst _ _ _ => by simp [flat] at f
  | _, _, f, .lstK _ _ => by simp [flat] at f
  | _, _, f, .dct _ _ _ _ => by simp [flat] at f
  | _, _, f, .ins _ _ _ _ _ => by simp [flat] at f
  | _, _, f, .clo _ _ _ _ _ _ => by simp [flat] at f
  | _, _, f, .fnK _ => by simp [flat] at f
theorem Reps.flatKeep {C dx : Addr} {kvs : List (Str × V)} (k : Keepx x H H') (hx : H x = some (.ins C dx kvs)) : ∀ {vs : List V} {ds : List D}, flats ds = true → Reps K H O vs ds → Reps K H' O vs ds
  | _, _, _, .nil => .nil
  | _, _, f, .cons h t => by
    simp only [flats, Bool.and_eq_true] at f
    exact .cons (Rep.flatKeep k hx f.1 h) (Reps.flatKeep k hx f.2 t)
end
end
def FlatS (ds : List Sl) : Prop := ∀ i : Nat, ds[i]? = none ∨ ds[i]? = some Sl.no ∨ ∃ d, ds[i]? = some (Sl.v d) ∧ flat d = true
def putAll (kvs : List (Str × V)) (l : List (Str × V)) : List (Str × V) := l.foldl (fun k p => putF p.1 p.2 k) kvs
theorem putF_new {f : Str} {v : V} : ∀ {kvs : List (Str × V)}, f ∉ kvs.map (·.1) → putF f v kvs = kvs ++ [(f, v)]
  | [], _ => rfl
  | (g, x) :: r, h => by
    have hg : ¬ g = f := fun z => h (by simp [z])
    rw [show putF f v ((g, x) :: r) = (if g = f then (g, v) :: r else (g, x) :: putF f v r) from rfl, if_neg hg, putF_new fun z => h (by simp at z ⊢; exact .inr z)]
    rfl
theorem putAll_new : ∀ {l kvs : List (Str × V)}, (kvs.map (·.1) ++ l.map (·.1)).Nodup → putAll kvs l = kvs ++ l
  | [], kvs, _ => by simp [putAll]
  | p :: r, kvs, h => by
    have hp : p.1 ∉ kvs.map (·.1) := fun z => by
      rw [List.nodup_append] at h
      exact h.2.2 _ z _ (by simp) rfl
    have : putAll kvs (p :: r) = putAll (putF p.1 p.2 kvs) r := rfl
    rw [this, putF_new hp, putAll_new (by simpa [List.append_assoc] using h)]
    simp
def spN (K : Frag) (n : Nat) (ns : List Str) (G : List D → Option (List D)) : Sp := fun vs H Q _ => ∃ (x C dx : Addr) (kvs : List (Str × V)) (vs' : List V) (ds new : List D), vs = .ref x :: vs' ∧ vs'.length = n ∧ H x = some (.ins C dx kvs) ∧ Cls K C ∧
  Reps K H none0 vs' ds ∧ flats ds = true ∧ G ds = some new ∧ (∀ f ∈ ns, NoAttr K C f) ∧ kvs.length + ns.length < 1000 ∧
  ∀ ws H', Keepx x H H' → H' x = some (.ins C dx (putAll kvs (ns.zip ws))) → Reps K H' none0 ws new → new.length = ns.length → flats new = true → Q .non H'
section
variable {X : Cx}
variable (X) in
def PIs (st : List Stmt) (ns : List Str) (g : FN) : Prop := ∃ t, PSs X st t ∧ ∀ H σ ds x C dx kvs new E, Ok X.K eH H none0 σ ds [] → FlatS ds → σ[0]? = some (some (.ref x)) → H x = some (.ins C dx kvs) → Cls X.K C → g ds = some new → flats new = true →
  (∀ f ∈ ns, NoAttr X.K C f) → kvs.length + ns.length < 1000 → (∀ ws H', Keepx x H H' → H' x = some (.ins C dx (putAll kvs (ns.zip ws))) → Reps X.K H' none0 ws new → new.length = ns.length → E.nx σ H') → t E σ H
variable (X) in
def PI1 (st : Stmt) (ns : List Str) (g : FN) : Prop := ∃ t, PS X st t ∧ ∀ H σ ds x C dx kvs new E, Ok X.K eH H none0 σ ds [] → FlatS ds → σ[0]? = some (some (.ref x)) → H x = some (.ins C dx kvs) → Cls X.K C → g ds = some new → flats new = true →
  (∀ f ∈ ns, NoAttr X.K C f) → kvs.length + ns.length < 1000 → (∀ ws H', Keepx x H H' → H' x = some (.ins C dx (putAll kvs (ns.zip ws))) → Reps X.K H' none0 ws new → new.length = ns.length → E.nx σ H') → t E σ H
theorem pis_one {st : Stmt} {ns : List Str} {g : FN} (h : PI1 X st ns g) : PIs X [st] ns g := by
  obtain ⟨t, ht, hf⟩ := h
  exact ⟨_, pss_one ht, hf⟩
theorem pi_fld {y f : Str} {e : Expr} {p pos pos' : Pos} {fe : FE} (he : PV X e fe) (hN : X.N[0]? = some y := by rfl) (hv : Vis X.env.scope y := by first | exact Or.inl rfl | exact Or.inr (Or.inl rfl) | exact Or.inr (Or.inr rfl)) (hd : (y == ("__debug__" : Str)) = false := by decide)
    (hcd : (y == ("__classdict__" : Str)) = false := by decide) (hs : swapsWith e (some (.Attribute (.Name y p) f pos')) pos.line X.env = pure false := by rfl) : PI1 X (.Assign [.Attribute (.Name y p) f pos'] e pos) [f] (fldN fe) := by
  obtain ⟨t, ht, hf⟩ := he
  refine ⟨_, ps_fld (pe_var hN hv hd hcd) ht hs, fun H σ ds x C dx kvs new E o fl h0 hx cl e hfl hn hk q => ?_⟩
  unfold fldN at e
  cases e1 : fe ds with
  | none => rw [e1] at e; cases e
  | some d =>
    rw [e1] at e
    simp only [Option.bind_some] at e
    split at e
    · rename_i hd1
      cases e
      simp only [List.length_cons, List.length_nil] at hk
      refine hf eH H none0 σ ds [] d _ o e1 fun v H1 s1 r1 => ?_
      refine ⟨.ref x, h0, x, C, dx, kvs, rfl, s1 _ _ hx, cl, hn f (by simp), by omega, ?_⟩
      have k2 : Keepx x H1 (upd H1 x (.ins C dx (putF f v kvs))) := fun b u hb e => by rw [upd_ne hb]; exact e
      exact q [v] _ ((Keepx.of_same s1).trans k2) upd_same (.cons (r1.flatKeep k2 (s1 _ _ hx) hd1) .nil) rfl
    · cases e
end
theorem flats_mem : ∀ {ds : List D} {i : Nat} {d : D}, flats ds = true → ds[i]? = some d → flat d = true
  | [], _, _, _, e => by simp at e
  | c :: r, 0, d, h, e => by
    simp only [flats, Bool.and_eq_true] at h
    simp at e; subst e; exact h.1
  | c :: r, i + 1, d, h, e => by
    simp only [flats, Bool.and_eq_true] at h
    exact flats_mem h.2 (by simpa using e)
theorem argsN_get {n : Nat} {ds : List D} {i : Nat} {s : Sl} (e : (argsN n ds)[i]? = some s) : s = .no ∨ ∃ j d, i = j + 1 ∧ ds[j]? = some d ∧ s = .v d := by
  unfold argsN at e
  cases i with
  | zero => simp at e; exact .inl e.symm
  | succ j =>
    rw [List.getElem?_cons_succ] at e
    by_cases hj : j < ds.length
    · rw [List.getElem?_append_left (by simpa using hj), List.getElem?_map] at e
      cases h : ds[j]? with
      | none => rw [h] at e; cases e
      | some d => rw [h] at e; cases e; exact .inr ⟨j, d, rfl, h, rfl⟩
    · rw [List.getElem?_append_right (by simpa using hj), List.getElem?_replicate] at e
      split at e
      · cases e; exact .inl rfl
      · cases e
theorem init_ok {P : Program} {w : World} {K : Frag} {mg : Str → Option Value} {base : Heap} {x qual : Str} {st : Stmt} {f : Addr} {fd : FuncData} {N ps : List Str} {k n m : Nat} {ns : List Str} {g : FN} (Fn : Fun K x qual st f fd) (S : FnScope N ps (defScope st))
    (hbody : ∀ (cdv : Value) (A : Around) (outer : List Env) (s : Shared) (H : Hp) (E : XK), Room k (A.deeper (envOfC qual (defScope st) s.heap.objs.size f cdv)) → PIs (cxOf CX0 P w K mg base N qual (defScope st) f cdv A outer s H E).nox (defBody st) ns g)
    (hn : ps.length = n + 1) (hN : n + 1 ≤ m) (hm : N.length = m) : FnOk P w K mg base CX0 (k + 1) f fd ps (spN K n ns (runN g m)) := by
  subst hm
  refine Fn.ok S (fun vs H Q E h => ?_) (fun cdv A outer s H vs Q E hr h => ?_)
  · obtain ⟨x, C, dx, kvs, vs', ds, new, rfl, hl, _⟩ := h
    simp [hl, hn]
  · obtain ⟨x, C, dx, kvs, vs', ds, new, rfl, hl, hx, cl, rv, hfl, e, hna, hk, q⟩ := h
    obtain ⟨t, ht, hf⟩ := hbody cdv A outer s H E hr
    refine ⟨t, ht, ?_⟩
    have hld : ds.length = n := by rw [← rv.length]; exact hl
    unfold runN at e
    cases e1 : g (argsN N.length ds) with
    | none => rw [e1] at e; cases e
    | some new' =>
      rw [e1] at e
      simp only [Option.bind_some] at e
      split at e
      · rename_i hfn
        cases e
        have o : Ok K eH H none0 (L2.start N (.ref x :: vs')) (argsN N.length ds) [] := by
          refine ⟨(fun b u e => by cases e), (fun i l a hi _ => by rcases argsN_get hi with h | ⟨j, d, _, _, h⟩ <;> cases h), fun _ z => z.elim, by simp [L2.start, argsN, hl, hld], fun i s e => ?_, fun i j a _ ⟨l, hi⟩ _ _ _ => ?_, (fun p hp => by cases hp)⟩
          · rcases argsN_get e with rfl | ⟨j, d, rfl, hj, rfl⟩
            · exact slOk_no
            · obtain ⟨v, h1, h2⟩ := rv.get hj
              have hjl : j < vs'.length := (List.getElem?_eq_some_iff.mp h1).1
              have : (L2.start N (.ref x :: vs'))[j + 1]? = some (some v) := by
                unfold L2.start
                rw [List.getElem?_append_left (by simpa using hjl)]
                simp [h1]
              rw [this]
              exact slOk_v h2
          · rcases argsN_get hi with h | ⟨j, d, _, _, h⟩ <;> cases h
        have fl : FlatS (argsN N.length ds) := fun i => by
          cases e : (argsN N.length ds)[i]? with
          | none => exact .inl rfl
          | some s =>
            rcases argsN_get e with rfl | ⟨j, d, rfl, hj, rfl⟩
            · exact .inr (.inl rfl)
            · exact .inr (.inr ⟨d, rfl, flats_mem hfl hj⟩)
        exact hf H _ _ x C dx kvs new _ o fl (by simp [L2.start]) hx cl e1 hfn hna hk fun ws H' k' x' r' l' => q ws H' k' x' r' l' hfn
      · cases e
structure MkC (P : Program) (w : World) (K : Frag) (mg : Str → Option Value) (base : Heap) (t k n : Nat) (G : List D → Option (List D)) : Prop where
  ex : ∃ (C f : Addr) (fd : FuncData) (ps : List Str), PySem.W.nsIn K mainGlobals (clsName t) = some (some (.ref C)) ∧ mg (clsName t) = some (.ref C) ∧ Mk K C f ∧ Cls K C ∧ FnOk P w K mg base CX0 k f fd ps (spN K n (clsFlds t) G) ∧ Binds K fd ps [] ∧ (∀ f ∈ clsFlds t, NoAttr K C f)
section
variable {X : Cx} {t k j n : Nat} {G : List D → Option (List D)} {x : Str} {p pos : Pos} {e : Expr} {es : List Expr} {g : FA}
theorem make_sem {C : Addr} {ta : TA} {l : List D} {new : List D} {H₀ H : Hp} {O : Addr → Prop} {σ : L2.St} {ds : List Sl} {hd : Hold} {Q : VK} (hc : PySem.W.nsIn X.K mainGlobals (clsName t) = some (some (.ref C))) (hcl : Cls X.K C) (hna : ∀ f ∈ clsFlds t, NoAttr X.K C f) (hnd : (clsFlds t).Nodup) (hln : (clsFlds t).length < 900)
    (hfa : ∀ H₀ H O σ ds hd l Q, Ok X.K H₀ H O σ ds hd → g ds = some l → (∀ vs H', Same H H' → Reps X.K H' none0 vs l → Q vs H') → ta σ H Q) (o : Ok X.K H₀ H O σ ds hd) (h1 : g ds = some l) (hl : l.length = n ∧ flats l = true) (h2 : G l = some new)
    (q : ∀ v H', Same H H' → Rep X.K H' (Old H) v (.ins t new) → Q v H') : tMake C (spN X.K n (clsFlds t) G) [] E0 ta σ H Q := by
  refine hfa H₀ H O σ ds hd l _ o h1 fun vs H1 s1 r1 => ?_
  intro x dx nx ndx nex
  have s2 : Same H1 (upd (upd H1 dx (.own x)) x (.ins C dx [])) := fun b o e => by
    rw [upd_ne (ne_of_none e nx), upd_ne (ne_of_none e ndx)]
    exact e
  refine ⟨x, C, dx, [], vs, l, new, by simp, by rw [r1.length]; exact hl.1, upd_same, hcl, r1.mono s2, hl.2, h2, hna, by simp; omega, fun ws H' k' x' r' l' f' => ⟨rfl, ?_⟩⟩
  have s3 : Same H1 H' := fun b o e => k' b o (ne_of_none e nx) (s2 b o e)
  have hlw : (clsFlds t).length = ws.length := by rw [r'.length]; exact l'.symm
  have ek : putAll [] ((clsFlds t).zip ws) = (clsFlds t).zip ws := by
    rw [putAll_new (by simpa [List.map_fst_zip (Nat.le_of_eq hlw)] using hnd)]
    simp
  rw [ek] at x'
  have nx0 : H x = none := s1.free nx
  refine q (.ref x) H' (s1.trans s3) (.ins hc (not_old nx0) x' (List.map_fst_zip (Nat.le_of_eq hlw)) ?_)
  rw [List.map_snd_zip (Nat.le_of_eq hlw.symm)]
  exact Reps.flatten (fun a z => Old.mono (s1.trans s3) z) f' r'
theorem pvd_make (M : MkC X.prog X.w X.K X.mg X.base t k n G) (hr : Room j X.A) (ha : PAn X (e :: es) g) (hj : k + 1 ≤ j := by decide) (hx : clsName t = x := by rfl) (hnd : (clsFlds t).Nodup := by decide +kernel) (hln : (clsFlds t).length < 900 := by decide)
    (hg : Gl X x := by rfl) (hdb : (x == ("__debug__" : Str)) = false := by decide) (he : starEach (e :: es) X.env = (false, eval e X.env) :: starEach es X.env := by rfl) (hpl : (backTo pos (starEach es X.env)).any (·.1) = false := by rfl) :
    PVd X (.Call (.Name x p) (e :: es) [] pos) (makeG t n G g) := by
  obtain ⟨C, f, fd, ps, hc, hm, mk, cl, Fn, hb, hna⟩ := M.ex
  obtain ⟨ta, pa, hfa⟩ := ha
  subst hx
  refine ⟨_, pe_make (CX := CX0) (E := E0) mk Fn (hr.mono hj) hg hm hb .nil pass0 pa hdb he hpl, fun H₀ H O σ ds hd d Q o e q => ?_⟩
  unfold makeG at e
  cases h1 : g ds with
  | none => rw [h1] at e; cases e
  | some l =>
    rw [h1] at e
    simp only [Option.bind_some] at e
    split at e
    · rename_i hl
      cases h2 : G l with
      | none => rw [h2] at e; cases e
      | some new =>
        rw [h2] at e
        cases e
        exact make_sem hc cl hna hnd hln hfa o h1 hl h2 q
    · cases e
end
theorem kit_self {K : Frag} (C : Addr) : PySem.W.kitOne K (.ref C) (.ref C) = some true := by unfold PySem.W.kitOne; rw [if_pos (by simp)]
theorem kit_no {K : Frag} {C C' : Addr} (u : PySem.W.isClsIn K C = true) (y : PySem.W.typeIn K (.ref C) = some (.type "type")) (s : PySem.W.subIn K (.ref C') (.ref C) = some false) (n : (Value.ref C' == Value.ref C) = false) : PySem.W.kitOne K (.ref C') (.ref C) = some false := by
  unfold PySem.W.kitOne
  rw [n, if_neg (by decide)]
  unfold PySem.W.kitCls
  simp only
  rw [show (PySem.W.clsIn K C).isSome = true from u, y, if_pos (by simp), s]
section
variable {X : Cx}
end
section
variable {X : Cx}
theorem pv_globI {x : Str} {i : Int} {pos : Pos} (hm : ∃ t, X.mg x = some (.int i t)) (hg : Gl X x := by rfl) (hd : (x == ("__debug__" : Str)) = false := by decide) : PV X (.Name x pos) (konst (.int i)) :=
  let ⟨t, h⟩ := hm
  pv_glob (v := .int i) hg h ⟨t, rfl⟩ (fun _ _ => .int i) hd
theorem pv_globS {x : Str} {i : Str} {pos : Pos} (hm : ∃ t, X.mg x = some (.str i t)) (hg : Gl X x := by rfl) (hd : (x == ("__debug__" : Str)) = false := by decide) : PV X (.Name x pos) (konst (.str i)) :=
  let ⟨t, h⟩ := hm
  pv_glob (v := .str i) hg h ⟨t, rfl⟩ (fun _ _ => .str i) hd
end
inductive NoAll (K : Frag) (C : Addr) : List Str → Prop
  | nil : NoAll K C []
  | cons {f : Str} {l : List Str} (h : NoAttr K C f) (t : NoAll K C l) : NoAll K C (f :: l)
theorem noAll_nil {K : Frag} {C : Addr} : NoAll K C [] := .nil
theorem noAll_cons {K : Frag} {C : Addr} {f : Str} {l : List Str} (h : NoAttr K C f) (t : NoAll K C l) : NoAll K C (f :: l) := .cons h t
theorem noAll_mem {K : Frag} {C : Addr} : ∀ {l : List Str}, NoAll K C l → ∀ f ∈ l, NoAttr K C f
  | _, .nil, f, h => (nomatch h)
  | _, .cons q t, f, h => (List.mem_cons.mp h).elim (fun e => e ▸ q) (noAll_mem t f)
end FL
namespace FL
open PySem PySem.Spec PyProof.Rows L2
section
variable {X : Cx}
end
section
variable {X : Cx} {k j n : Nat} {F : List D → Option Ret} {x : Str} {p pos : Pos} {e : Expr} {es : List Expr} {g : FA}
end
end FL
namespace PySem
open Sem (wp)
section
variable {prog : Program} {w : World} {A : Around} {R : Result → Shared → Prop} {I : Addr} {fp wr : List Addr} {n : Nat} {P : Nat → Value → Prop} {St : Nat → Heap → Prop} {kw : List (Str × Value)}
end
section
variable {prog : Program} {w : World} {A : Around} {E : Value → Shared → Prop} {s : Shared}
end
end PySem
namespace FL
open PySem PySem.Spec PyProof.Rows L2
section
variable {X : Cx}
end
end FL
namespace FL
open PySem PySem.Spec PyProof.Rows L2
open PySem.Calls PySem.Builtin PySem.Builtin.ObjectAttr PySem.Builtin.Getset_descriptor
open PySem.W (Looks looks_findIn looks_mroIn findIn mroIn specialIn takesIn KitX)
structure XIn (K : Frag) (C : Addr) : Prop where
  ga : findIn K (.ref C) "__getattribute__" = some (some (.builtin "BaseException.__getattribute__"))
  gt : findIn K (.ref C) "__getattr__" = some none
  cl : findIn K (.ref C) "__class__" = some (some (.builtin "object.__class__"))
  ob : mroIn K C (.type "object") = some true
  be : mroIn K C (.type "BaseException") = some true
section
variable {prog : Program} {w : World} {A : Around} {E : Value → Shared → Prop} {h : Heap} {g : Array GenState} {d : Drawn} {t : Nat} {os : OsState} {a C : Addr} {o : Obj} {K : Frag}
theorem x_type {M : Model} (hx : h.get? a = some o) (hc : o.cls = .ref C) : Looks M h (typeOf (.ref a)) (.ref C) := hc ▸ (PySem.W.Looks.ld hx).andThen .now
theorem x_class_get {R : Result → Shared → Prop} {tp : Value} (X : K.In h) (hx : h.get? a = some o) (hc : o.cls = .ref C) (I : XIn K C) (hq : R (.ok (.ret (.ref C))) ⟨h, g, d, t, os⟩) :
    codeAny (model prog w) A (.call (.builtin "getset_descriptor.__get__") ⟨[.builtin "object.__class__", .ref a, tp], []⟩) R ⟨h, g, d, t, os⟩ := by
  have L0 := x_type (M := model prog w) hx hc
  have L1 := looks_mroIn (M := model prog w) X I.ob
  refine codeAny_call_builtin PySem.W.KF.slot_gs.plain PySem.W.KF.entry_gs (PySem.W.KF.slot_gs.check _ _ _ _ _ _ _ _ PySem.W.KF.type_class (PySem.W.KF.args_gs _ _ _) ?_)
  unfold Builtin.«getset_descriptor.__get__» descrGet
  rw [PySem.W.dga_obj]
  refine wpAny_bind (wpAny_pure ?_)
  unfold descrGetter descrCheckInstance descrNameAndClass isInstance
  simp only [PySem.W.KF.owner_class]
  repeat lk
  refine ⟨Code.quiet_builtin _ (by decide +kernel), codeAny_builtin PySem.W.KF.entry_class ?_⟩
  unfold Builtin.«object.__class__» shownTypeOf
  repeat lk
  exact hq
theorem x_check_ga {M : Model} {nameV : Value} {Q : Unit → Shared → Prop} (X : K.In h) (hx : h.get? a = some o) (hc : o.cls = .ref C) (I : XIn K C) (hq : Q () ⟨h, g, d, t, os⟩) :
    wpAny M A (checkBuiltinCall "BaseException.__getattribute__" ⟨[.ref a, nameV], []⟩) Q E ⟨h, g, d, t, os⟩ := by
  have hk : builtinKind "BaseException.__getattribute__" = some .slot := by decide +kernel
  have hsplit : splitId "BaseException.__getattribute__" = some ("BaseException", "__getattribute__") := by decide +kernel
  have L0 := x_type (M := M) hx hc
  have L1 := looks_mroIn (M := M) X I.be
  have ha := F.args_bexc_ga (.ref a) nameV
  simp only [checkBuiltinCall, hk, hsplit]
  refine wpAny_bind ?_
  · unfold isInstance
    repeat (first | with_reducible refine L0.at ?_ | with_reducible refine L1.at ?_ | wp_step)
    exact hq
theorem x_entry {tk : Tok} {Q : Fin → Shared → Prop} (X : K.In h) (hx : h.get? a = some o) (hc : o.cls = .ref C) (I : XIn K C) (hq : Q (.done (.ret (.ref C))) ⟨h, g, d, t, os⟩) :
    wpAny (model prog w) A (Builtin.«object.__getattribute__» ⟨[.ref a, .str "__class__" tk], []⟩) Q E ⟨h, g, d, t, os⟩ := by
  have L0 := x_type (M := model prog w) hx hc
  have L1 := looks_findIn (M := model prog w) X I.cl
  have hT5 : (⟨h, g, d, t, os⟩ : Shared).TypeIs (.builtin "object.__class__") "getset_descriptor" := F.typeOf_object_class
  have f5 := F.typeOf_object_class
  have f6 := F.slot_gs_get.lookup
  have f7 := F.slot_gs_set.lookup
  repeat (any_goals (first | assumption | with_reducible refine L0.at ?_ | with_reducible refine L1.at ?_ | wp_step))
  refine x_class_get X hx hc I ?_
  repeat (any_goals (first | assumption | wp_step))
theorem x_call {tk : Tok} {R : Result → Shared → Prop} (X : K.In h) (hx : h.get? a = some o) (hc : o.cls = .ref C) (I : XIn K C) (hq : R (.ok (.ret (.ref C))) ⟨h, g, d, t, os⟩) :
    codeAny (model prog w) A (.call (.builtin "BaseException.__getattribute__") ⟨[.ref a, .str "__class__" tk], []⟩) R ⟨h, g, d, t, os⟩ :=
  codeAny_call_builtin F.attr_ValueError.ga.plain F.entry_bexc_ga (x_check_ga X hx hc I (x_entry X hx hc I hq))
theorem x_by {tk : Tok} {fill expr : Bool} {Q : Value → Shared → Prop} (X : K.In h) (hx : h.get? a = some o) (hc : o.cls = .ref C) (I : XIn K C) (hq : Q (.ref C) ⟨h, g, d, t, os⟩) :
    wpAny (model prog w) A (getAttrBy (.ref a) (.str "__class__" tk) fill expr) Q E ⟨h, g, d, t, os⟩ := by
  have L0 := x_type (M := model prog w) hx hc
  have L1 := looks_findIn (M := model prog w) X I.ga
  have L2 := looks_findIn (M := model prog w) X I.gt
  have f3 := F.attr_ValueError.ga.bind (.ref a)
  have hx0 : (expr && onTheHeap (Value.builtin "BaseException.__getattribute__")) = false := by cases expr <;> rfl
  have hx2 : (Value.builtin "BaseException.__getattribute__" == Value.builtin "object.__getattribute__") = false := by decide +kernel
  have hx1 : (onTheHeap (Value.ref C) && Value.builtin "BaseException.__getattribute__" == Value.builtin "object.__getattribute__") = false := by rw [hx2]; rfl
  repeat (any_goals (first | assumption | with_reducible refine L0.at ?_ | with_reducible refine L1.at ?_ | with_reducible refine L2.at ?_ | wp_step))
  refine x_call X hx hc I ?_
  repeat (any_goals (first | assumption | wp_step))
theorem x_attr {Q : Option Value → Shared → Prop} (X : K.In h) (hx : h.get? a = some o) (hc : o.cls = .ref C) (I : XIn K C) (hq : Q (some (.ref C)) ⟨h, g, d, t + 1, os⟩) :
    wpAny (model prog w) A (getAttr? (.ref a) "__class__") Q E ⟨h, g, d, t, os⟩ := by
  unfold getAttr? getAttrBy?
  repeat (any_goals (first | assumption | with_reducible apply x_by X hx hc I | wp_step))
def IsX (a C : Addr) (h : Heap) : Prop := ∃ o, h.get? a = some o ∧ o.cls = .ref C
theorem kitx_exc (I : XIn K C) : KitX K (.ref a) (.ref C) (IsX a C) where
  ty := fun _ _ _ ⟨o, h1, h2⟩ => x_type h1 h2
  it := fun _ _ X _ => by
    have hm := I.ob
    unfold mroIn at hm
    cases hcD : PySem.W.clsIn K C with
    | none => rw [hcD] at hm; cases hm
    | some cd =>
      unfold PySem.W.clsIn at hcD
      split at hcD
      · rename_i c' d' cd' sl' ho
        intro A' Q' E' s' k q
        unfold isType loadHead
        exact wpAny_bind (wpAny_loadPart (k _ _ (X _ _ ho)) (wpAny_pure q))
      · cases hcD
  ne := fun h tp dd its n sl X htp => by
    have hm := I.ob
    unfold mroIn at hm
    cases hcD : PySem.W.clsIn K C with
    | none => rw [hcD] at hm; cases hm
    | some cd =>
      refine Bool.eq_false_iff.mpr fun q => ?_
      have e : C = tp := Value.ref.inj (beq_iff_eq.mp q)
      subst e
      unfold PySem.W.clsIn at hcD
      split at hcD
      · rename_i c' d' cd' sl' ho
        have z := (X _ _ ho).symm.trans htp
        cases z
      · cases hcD
  ca := fun {prog w A E Q s} X p k => by
    obtain ⟨o, h1, h2⟩ := p
    obtain ⟨h, g, d, t, os⟩ := s
    exact x_attr X h1 h2 I k
end
end FL
namespace FL
open PySem PySem.Spec PyProof.Rows L2
open PySem.W (hideAll hideAll_get of_hideAll hideAll_none funFrames_hide excIn tail_of_in nsMap_none_of_in isNs_of_in)
theorem obj_get {P : Program} {w : World} {H : Hp} {h : Heap} {a : Addr} {o : HO} (x : ObjOk P w H h a o) : ∃ u, h.get? a = some u := by
  cases o with
  | lst xs => obtain ⟨_, _, _, _, e⟩ := x; exact ⟨_, e⟩
  | tup xs => obtain ⟨_, _, _, _, e, _⟩ := x; exact ⟨_, e⟩
  | dK kvs => obtain ⟨_, _, _, _, o, _, _, e, _⟩ := x; exact ⟨_, e⟩
  | dT kvs => obtain ⟨_, _, _, _, o, _, _, e, _⟩ := x; exact ⟨_, e⟩
  | set S n => obtain ⟨o, _, _, _, e, _⟩ := x; exact ⟨_, e⟩
  | ins C dx fs => obtain ⟨_, _, _, e, _⟩ := x; exact ⟨_, e⟩
  | own y => obtain ⟨_, e⟩ := x; exact ⟨_, e⟩
  | xd fs => obtain ⟨_, ⟨_, _, _, e, _⟩, _⟩ := x; exact ⟨_, e⟩
  | rng lo hi => obtain ⟨_, _, _, e⟩ := x; exact ⟨_, e⟩
  | frz ob u => obtain ⟨e, _⟩ := x; exact ⟨_, e⟩
  | tbl ps => obtain ⟨_, e, _⟩ := x; exact ⟨_, e⟩
  | met f y => exact ⟨_, (show h.get? a = some _ from x)⟩
  | ext φ => obtain ⟨_, ⟨_, e⟩, _⟩ := x; exact ⟨_, e⟩
structure Thrown (P : Program) (w : World) (outer : List Env) (H : Hp) (s : Shared) (cls : Value) (ea : Addr) (a0 : Value) (B : Heap) (H' : Hp) (h : Heap) : Prop where
  fly : Heap.FlyingW B outer ea cls a0 h
  keep : ∀ b o, s.heap.get? b = some o → H b = none → b ∉ frs outer → B.get? b = some o
  there : ∀ b o, s.heap.get? b = some o → b ∉ frs outer → ∃ o', B.get? b = some o'
  slot : ∀ b o, s.heap.get? b = some o → b ∈ frs outer → ∃ sl, h.get? b = some { o with slots := sl }
  free : ∀ b o, s.heap.get? b = some o → H b = none → H' b = none
  tups : ∀ b xs, H b = some (.tup xs) → H' b = some (.tup xs)
  frzs : ∀ b o u, H b = some (.frz o u) → H' b = some (.frz o u)
  tbls : ∀ b ps, H b = some (.tbl ps) → H' b = some (.tbl ps)
  hok : L2.HOk P w H' B
section
variable {P : Program} {w : World} {outer : List Env} {H H' : Hp} {s : Shared} {cls a0 : Value} {ea : Addr} {B h h' : Heap}
theorem Thrown.un (t : Thrown P w outer H s cls ea a0 B H' h) : Un (frs outer) [] H H' s.heap h where
  keep := fun b o e n hb _ => t.fly.1 b o (t.keep b o e n hb)
  slot := fun b o e n hb _ => t.slot b o e hb
  free := fun b o e n _ => t.free b o e n
  there := fun b o e _ => by
    by_cases hb : b ∈ frs outer
    · obtain ⟨sl, q⟩ := t.slot b o e hb; exact ⟨_, q⟩
    · obtain ⟨o', q⟩ := t.there b o e hb; exact ⟨o', t.fly.1 b o' q⟩
  tups := t.tups
  frzs := t.frzs
  tbls := t.tbls
theorem Thrown.hokh (t : Thrown P w outer H s cls ea a0 B H' h) : L2.HOk P w H' h := t.hok.kept t.fly.1
theorem Thrown.on (t : Thrown P w outer H s cls ea a0 B H' h) (f : Heap.FlyingW B outer ea cls a0 h') (u : h.UpToSlots h') : Thrown P w outer H s cls ea a0 B H' h' where
  fly := f
  keep := t.keep
  there := t.there
  slot := fun b o e hb => by
    obtain ⟨sl, q⟩ := t.slot b o e hb
    obtain ⟨_, ob, ho, hd⟩ := t.fly.2.2.1.mem hb
    rw [q] at ho
    cases ho
    obtain ⟨sl', q'⟩ := u b _ q hd
    exact ⟨sl', q'⟩
  free := t.free
  tups := t.tups
  frzs := t.frzs
  tbls := t.tbls
  hok := t.hok
theorem Thrown.no (t : Thrown P w outer H s cls ea a0 B H' h) : H' ea = none := by
  cases q : H' ea with
  | none => rfl
  | some u =>
    obtain ⟨o, e⟩ := obj_get (t.hok _ _ q)
    rw [t.fly.2.1] at e; cases e
end
theorem hok_hidden {P : Program} {w : World} {H : Hp} {h : Heap} (x : L2.HOk P w H h) (l : List Addr) (hl : ∀ b ∈ l, H b = none) : L2.HOk P w H (hideAll h l) := fun a o e =>
  (x a o e).stay (fun b u hb q => hideAll_get _ q fun z => by
    rcases hb with rfl | hb
    · rw [hl _ z] at e; cases e
    · rw [hl _ z] at hb; cases hb) (fun _ q => q) fun _ _ q => q
def CXM (P : Program) (w : World) : CXT := fun outer H s E e s' => ∃ ea cls a0 B H', e = .ref ea ∧ s'.os = s.os ∧ AllBare s'.gens ∧ Thrown P w outer H s cls ea a0 B H' s'.heap ∧ E cls none H'
def XeOk (X : Cx) (C : Addr) (σ : L2.St) (H : Hp) : Prop := ∀ (pins : List (Addr × Obj)) (s : Shared) (h' : Heap) (e : Addr) (as : List Value), Inv X pins σ H s → Heap.MadeExcOf s.heap h' e (.ref C) as → X.xe (.ref e) { s with heap := h' }
theorem xe_raise {P : Program} {w : World} {K : Frag} {mg : Str → Option Value} {base : Heap} {N : List Str} {qual : Str} {scope : Scope} {f C : Addr} {cd : Value} {A : Around} {outer : List Env} {s : Shared} {H H' : Hp} {E : XK} {σ : L2.St}
    (hE : E (.ref C) none H') : XeOk (cxOf (CXM P w) P w K mg base N qual scope f cd A outer s H E) C σ H' := by
  intro pins s1 h1 e as I hx
  have hfr : frs (envOfC qual scope s.heap.objs.size f cd :: outer) = s.heap.objs.size :: frs outer := rfl
  have nm : ∀ b o, s.heap.get? b = some o → b ∉ frs outer → b ∉ frs (envOfC qual scope s.heap.objs.size f cd :: outer) := fun b o q n z => by
    rw [hfr] at z
    rcases List.mem_cons.mp z with z | z
    · exact absurd (Heap.lt_size q) (by rw [z]; exact Nat.lt_irrefl _)
    · exact n z
  show wpAny _ _ (leaving _ _) _ _ _
  refine wpAny_leaves_madeW (base := hideAll s1.heap (frs (envOfC qual scope s.heap.objs.size f cd :: outer))) (h := s1.heap) I.ok.frames rfl (fun b o q => of_hideAll _ q) (funFrames_hide I.stack fun env he b hb => List.mem_filterMap.mpr ⟨env, he, hb⟩) hx fun h' t x1 x2 x3 x4 => ?_
  refine ⟨e, .ref C, .ref t, _, H', rfl, I.os, I.bare, ⟨x1, fun b o q n hb => ?_, fun b o q hb => ?_, fun b o q hb => ?_, fun b o q n => I.base.free b o q n (by intro z; cases z), I.base.tups, I.base.frzs, I.base.tbls, ?_⟩, hE⟩
  · exact hideAll_get _ (I.base.keep b o q n hb (by intro z; cases z)) (nm b o q hb)
  · obtain ⟨o', q'⟩ := I.base.there b o q (by intro z; cases z)
    exact ⟨o', hideAll_get _ q' (nm b o q hb)⟩
  · obtain ⟨sl, q'⟩ := I.base.slot b o q (I.ok.frf b hb) hb (by intro z; cases z)
    obtain ⟨_, ob, ho, hd⟩ := I.ok.funs.mem hb
    have ho' : s.heap.get? b = some ob := ho
    rw [q] at ho'
    cases ho'
    obtain ⟨sl', q''⟩ := x4 b _ (hx.keeps _ _ q') hd
    exact ⟨sl', q''⟩
  · exact hok_hidden I.hok _ I.stkFree
abbrev bmVE : List Value := [.type "ValueError", .type "Exception", .type "BaseException", .type "object"]
structure XCls (K : Frag) (C : Addr) : Prop where
  exc : excIn K C bmVE "ValueError.__new__" = true
  xin : XIn K C
theorem xcls_at {K : Frag} {h : Heap} {C : Addr} {bmB : List Value} {newId : String} (X : K.In h) (q : excIn K C bmB newId = true) : ∃ bm N nm qn bs hdct sn sub ab col dd k0 k1 k2 k3 k5 mN, h.get? C = some (excClassObj nm qn C N bs bm hdct sn sub ab col dd k0 k1 k2 k3 k5 newId) ∧ h.Ns N mN ∧ mN "__init__" = none ∧ OwnTail h bmB bm := by
  unfold excIn at q
  split at q
  · rename_i dd cd sl ho
    split at q
    · rename_i C' bm k0 k1 k2 k3 n k5 hm hs
      simp only [Bool.and_eq_true, beq_iff_eq, Bool.not_eq_true'] at q
      obtain ⟨⟨⟨⟨⟨rfl, rfl⟩, hdel⟩, ht⟩, hok⟩, hni⟩ := q
      obtain ⟨nm, bs, mro, ns, qn, hd, sn, sub, ab, col, del⟩ := cd
      dsimp only at hm hdel hok hni
      subst hm hdel
      have hsl : sl = #[k0, k1, k2, k3, some (.builtin n), k5] := by
        obtain ⟨l⟩ := sl
        simp only at hs
        rw [hs]
      subst hsl
      exact ⟨bm, ns, nm, qn, bs, hd, sn, sub, ab, col, dd, k0, k1, k2, k3, k5, _, X _ _ ho, .of_isNs (isNs_of_in X hok), nsMap_none_of_in X hok hni, tail_of_in X ht⟩
    · cases q
  · cases q
def tRaise (X : Cx) (C : Addr) : TS := fun _ σ H => XeOk X C σ H
theorem ps_raise {X : Cx} {C : Addr} {x txt : Str} {j : Nat} {np cp cpos pos : Pos} (hC : XCls X.K C) (hm : X.mg x = some (.ref C)) (hcalm : X.calm = true) (hg : Gl X x := by rfl) (hdb : (x == ("__debug__" : Str)) = false := by decide)
    (he : starEach [.Constant (.str txt) j cp] X.env = [(false, eval (.Constant (.str txt) j cp) X.env)] := by rfl) : PS X (.Raise (some (.Call (.Name x np) [.Constant (.str txt) j cp] [] cpos)) none pos) (tRaise X C) := by
  intro pins s σ H D I h
  obtain ⟨bm, N, nm, qn, bs, hdct, sn, sub, ab, col, dd, k0, k1, k2, k3, k5, mN, h1, h2, h3, h4⟩ := xcls_at I.kIn hC.exc
  have hbase : bm.contains (.type "BaseException") = true := h4.hasType (by decide +kernel)
  refine wpAny_Raise_call_subU (C := C) (mN := mN) (N := N) (nm := nm) (q := qn) (bs := bs) (bm := bm) (hdct := hdct) (sn := sn) (sub := sub) (ab := ab) (col := col) (dd := dd) (k0 := k0) (k1 := k1) (k2 := k2) (k3 := k3) (k5 := k5) F.excBase_ValueError (by decide +kernel) F.excBase_ValueError hbase (I.ok.hd hcalm) (by rw [he]; rfl) h3 (ld_glob I hg hm ⟨rfl, ?_⟩ hdb)
  rw [he]
  show wpAny _ _ (evalArgs _ true ((false, eval (.Constant (.str txt) j cp) X.env) :: []) []) _ _ s
  refine Calls.evalArgs_plain (Calls.spliced_cons ?_)
  refine Calls.Constant_str (k := j) (pos := cp) (Calls.spliced_nil ?_)
  have I2 := I.tok (s.toks + 1)
  refine ⟨rfl, by show 1 ≤ sizeLine; decide, h1, h2, h4, fun h' e hx => ?_⟩
  exact h pins _ h' e _ I2 hx
section
variable (X : Cx) (C : Addr)
def PSx (st : Stmt) (x : List Sl → Bool) : Prop := ∃ t, PS X st t ∧ ∀ H₀ H O σ ds hd E, Ok X.K H₀ H O σ ds hd → x ds = true → (∀ σ' H', Same H₀ H' → XeOk X C σ' H') → t E σ H
end
section
variable {X : Cx} {C : Addr}
theorem psx_raise {x txt : Str} {j : Nat} {np cp cpos pos : Pos} (hC : XCls X.K C) (hm : X.mg x = some (.ref C)) (hcalm : X.calm = true := by rfl) (hg : Gl X x := by rfl) (hdb : (x == ("__debug__" : Str)) = false := by decide)
    (he : starEach [.Constant (.str txt) j cp] X.env = [(false, eval (.Constant (.str txt) j cp) X.env)] := by rfl) : PSx X C (.Raise (some (.Call (.Name x np) [.Constant (.str txt) j cp] [] cpos)) none pos) alwaysX :=
  ⟨_, ps_raise hC hm hcalm hg hdb he, fun H₀ H O σ ds hd E o _ h => h σ H o.same⟩
end
def spX (K : Frag) (n : Nat) (R : List D → Bool) (C : Addr) : Sp := fun vs H _ E => vs.length = n ∧ ∃ ds, Reps K H none0 vs ds ∧ R ds = true ∧ ∀ H', Same H H' → E (.ref C) none H'
structure CalX (P : Program) (w : World) (K : Frag) (mg : Str → Option Value) (base : Heap) (x : Str) (k n : Nat) (R : List D → Bool) (C : Addr) : Prop where
  ex : ∃ (f : Addr) (fd : FuncData) (ps : List Str), FnOk P w K mg base (CXM P w) k f fd ps (spX K n R C) ∧ Binds K fd ps [] ∧ PySem.W.keepIn K (.ref f) = true ∧ mg x = some (.ref f)
end FL
namespace FL
open PySem PySem.Spec PyProof.Rows L2
open PySem.W (Looks looks_mroIn mroIn)
abbrev suiteCx (X : Cx) (ea : Addr) (xe : Value → Shared → Prop) : Cx := { X with A := X.A.mark (some (.ref ea)), calm := false, xe := xe }
section
variable {X : Cx} {pins : List (Addr × Obj)} {σ : L2.St} {H : Hp} {s : Shared} {ea : Addr} {oe : Obj} {xe : Value → Shared → Prop}
theorem inv_suite (I : Inv X pins σ H s) : Inv (suiteCx X ea xe) pins σ H s := by
  have ok := I.ok
  exact ⟨⟨ok.mod, ok.kind, ok.glob, ok.blt, ok.above, ok.inj, ok.has, ok.cab, (fun z => by cases z), ok.frames, ok.stk, ok.exf, ok.bs, ok.bsz, ok.noex, ok.exfs, ok.funs, ok.frf⟩, I.os, I.bare, I.base, I.loc, I.cell, I.free, I.freeC, I.pin, I.hok, I.len⟩
theorem inv_unsuite (I : Inv (suiteCx X ea xe) pins σ H s) (hd : X.calm = true → X.A.handled = none) : Inv X pins σ H s := by
  have ok := I.ok
  exact ⟨⟨ok.mod, ok.kind, ok.glob, ok.blt, ok.above, ok.inj, ok.has, ok.cab, hd, ok.frames, ok.stk, ok.exf, ok.bs, ok.bsz, ok.noex, ok.exfs, ok.funs, ok.frf⟩, I.os, I.bare, I.base, I.loc, I.cell, I.free, I.freeC, I.pin, I.hok, I.len⟩
theorem inv_track (I : Inv X pins σ H s) (hn : H ea = none) (h1 : s.heap.get? ea = some oe) (h3 : ea ≠ X.env.locals) (h0 : X.s₀.heap.get? ea = none) (hc : ∀ v, oe.data ≠ .cell v) (hp : ∀ p ∈ X.pn ++ pins, p.1 ≠ ea) :
    Inv X pins σ (upd H ea (.frz oe (.own ea))) s := by
  have nz : ∀ b u, H b = some u → b ≠ ea := fun b u e z => by rw [z, hn] at e; cases e
  have n0 : ∀ b o, X.s₀.heap.get? b = some o → b ≠ ea := fun b o e z => by rw [z, h0] at e; cases e
  refine ⟨I.ok, I.os, I.bare, ⟨I.base.keep, I.base.slot, fun b o e n hx => ?_, I.base.there, fun b xs e => ?_, fun b o u e => ?_, fun b ps e => ?_⟩, I.loc, I.cell, ?_, fun x c e => ?_, fun p hpp => ?_, fun b u e => ?_, I.len⟩
  · rw [upd_ne (n0 b o e)]; exact I.base.free b o e n hx
  · have := I.base.tups b xs e; rw [upd_ne (nz b _ this)]; exact this
  · have := I.base.frzs b o u e; rw [upd_ne (nz b _ this)]; exact this
  · have := I.base.tbls b ps e; rw [upd_ne (nz b _ this)]; exact this
  · rw [upd_ne (Ne.symm h3)]; exact I.free
  · have hz : c ≠ ea := by
      intro z
      obtain ⟨v, o, ho, hd⟩ := I.cell x c e
      rw [z, h1] at ho
      cases ho
      exact hc v hd
    have := I.freeC x c e
    unfold FreeC at this ⊢
    rw [upd_ne hz]
    exact this
  · obtain ⟨q1, q2, q3, q4, q5⟩ := I.pin p hpp
    exact ⟨q1, by rw [upd_ne (hp p hpp)]; exact q2, q3, q4, q5⟩
  · by_cases hb : b = ea
    · subst hb
      rw [upd_same] at e
      cases e
      exact ⟨h1, oe, h1⟩
    · rw [upd_ne hb] at e
      exact (I.hok b u e).stay (fun _ _ _ q => q) (fun c q => by rw [upd_ne (nz c _ q)]; exact q) fun c xs q => by rw [upd_ne (nz c _ q)]; exact q
theorem inv_gone {i : Nat} {x : Str} {m : Str → Option Value} {h' : Heap} {v : Option Value} {t' : Nat} (I : Inv X pins σ H s) (hN : X.N.Nodup) (hi : X.N[i]? = some x) (hn : s.heap.Ns X.env.locals m)
    (hl : ∀ (i : Nat) (x : Str) (v : V), X.N[i]? = some x → σ[i]? = some (some v) → Vis X.env.scope x → ∃ u, RelV v u ∧ Look X.env s.heap m x u)
    (hn' : h'.Ns X.env.locals (fun y => if y = x then v else m y)) (hs : Heap.SameBut X.env.locals s.heap h') : Inv X pins (σ.set i none) H { s with heap := h', toks := t' } := by
  have cne := I.cne
  obtain ⟨oL, _, _, hoL, _⟩ := id hn
  refine ⟨I.ok, I.os, I.bare, ⟨fun b o e n hb hx => ?_, fun b o e n hb hx => ?_, I.base.free, fun b o e hx => ?_, I.base.tups, I.base.frzs, I.base.tbls⟩, ⟨_, hn', fun j y v' e1 e2 e3 => ?_⟩, fun y c e => ?_, I.free, I.freeC, fun p hp => ?_, fun b ob e => ?_, by simpa using I.len⟩
  · exact (hs.2 b (Nat.ne_of_lt (Nat.lt_of_lt_of_le (Heap.lt_size e) I.ok.above))).trans (I.base.keep b o e n hb hx)
  · obtain ⟨sl, e1⟩ := I.base.slot b o e n hb hx
    exact ⟨sl, (hs.2 b (Nat.ne_of_lt (Nat.lt_of_lt_of_le (Heap.lt_size e) I.ok.above))).trans e1⟩
  · obtain ⟨o', e1⟩ := I.base.there b o e hx
    exact ⟨o', (hs.2 b (Nat.ne_of_lt (Nat.lt_of_lt_of_le (Heap.lt_size e) I.ok.above))).trans e1⟩
  · by_cases hj : j = i
    · subst hj
      have hiσ : j < σ.length := by rw [I.len]; exact (List.getElem?_eq_some_iff.mp hi).1
      rw [List.getElem?_set_self hiσ] at e2
      cases e2
    · rw [List.getElem?_set_ne (Ne.symm hj)] at e2
      obtain ⟨u', r', q⟩ := hl j y v' e1 e2 e3
      refine ⟨u', r', ?_⟩
      rcases q with ⟨k, e⟩ | ⟨k, c, e, z⟩
      · refine .inl ⟨k, ?_⟩
        have : y ≠ x := fun e => hj (nodup_ix hN e1 (e ▸ hi))
        simp [this, e]
      · exact .inr ⟨k, c, e, z.sameBut hs (cne y c e)⟩
  · obtain ⟨w', z⟩ := I.cell y c e
    exact ⟨w', z.sameBut hs (cne y c e)⟩
  · obtain ⟨e, n, ne, nf, d⟩ := I.pin p hp
    exact ⟨(hs.2 p.1 ne).trans e, n, ne, nf, d⟩
  · refine (I.hok b ob e).stay (fun c w' hc q => (hs.2 c ?_).trans q) (fun _ q => q) fun _ _ q => q
    rintro rfl
    have hfree := I.free
    rcases hc with rfl | hc
    · rw [hfree] at e; cases e
    · rw [hfree] at hc; cases hc
end
theorem Ok.setNo {K : Frag} {H₀ H : Hp} {O : Addr → Prop} {σ : L2.St} {ds : List Sl} {hd : Hold} (o : Ok K H₀ H O σ ds hd) (i : Nat) (v : Option V) : Ok K H₀ H O (σ.set i v) (ds.set i .no) hd := by
  have own' : ∀ {j : Nat}, IsOwn (ds.set i .no) j → j ≠ i ∧ IsOwn ds j := fun {j} ⟨l, e⟩ => by
    by_cases hj : j = i
    · subst hj
      by_cases hl : j < ds.length
      · rw [List.getElem?_set_self hl] at e; cases e
      · rw [List.getElem?_eq_none (by simpa using hl)] at e; cases e
    · rw [List.getElem?_set_ne (Ne.symm hj)] at e
      exact ⟨hj, l, e⟩
  refine ⟨o.same, fun j l a e1 e2 => ?_, o.dom, by simpa using o.len, fun j s e => ?_, fun j k a hjk hj hk e1 e2 => ?_, o.hold⟩
  · obtain ⟨n1, h1⟩ := own' ⟨l, e1⟩
    rw [List.getElem?_set_ne (Ne.symm n1)] at e1 e2
    exact o.fresh j l a e1 e2
  · by_cases hj : j = i
    · subst hj
      by_cases hl : j < ds.length
      · rw [List.getElem?_set_self hl] at e
        cases e
        exact slOk_no
      · rw [List.getElem?_eq_none (by simpa using hl)] at e; cases e
    · rw [List.getElem?_set_ne (Ne.symm hj)] at e
      rw [List.getElem?_set_ne (Ne.symm hj)]
      exact o.sl j s e
  · obtain ⟨n1, h1⟩ := own' hj
    obtain ⟨n2, h2⟩ := own' hk
    rw [List.getElem?_set_ne (Ne.symm n1)] at e1
    rw [List.getElem?_set_ne (Ne.symm n2)] at e2
    exact o.apart j k a hjk h1 h2 e1 e2
theorem Ok.setX {K : Frag} {H₀ H : Hp} {O : Addr → Prop} {σ : L2.St} {ds : List Sl} {hd : Hold} (o : Ok K H₀ H O σ ds hd) {i t : Nat} {a C : Addr} {ob : Obj} {u : HO} (h1 : PySem.W.nsIn K mainGlobals (xName t) = some (some (.ref C))) (h2 : H a = some (.frz ob u)) (h3 : ob.cls = .ref C) :
    Ok K H₀ H O (σ.set i (some (.ref a))) (ds.set i (.exc t)) hd := by
  have own' : ∀ {j : Nat}, IsOwn (ds.set i (.exc t)) j → j ≠ i ∧ IsOwn ds j := fun {j} ⟨l, e⟩ => by
    by_cases hj : j = i
    · subst hj
      by_cases hl : j < ds.length
      · rw [List.getElem?_set_self hl] at e; cases e
      · rw [List.getElem?_eq_none (by simpa using hl)] at e; cases e
    · rw [List.getElem?_set_ne (Ne.symm hj)] at e
      exact ⟨hj, l, e⟩
  refine ⟨o.same, fun j l a e1 e2 => ?_, o.dom, by simpa using o.len, fun j s e => ?_, fun j k a hjk hj hk e1 e2 => ?_, o.hold⟩
  · obtain ⟨n1, h1⟩ := own' ⟨l, e1⟩
    rw [List.getElem?_set_ne (Ne.symm n1)] at e1 e2
    exact o.fresh j l a e1 e2
  · by_cases hj : j = i
    · subst hj
      by_cases hl : j < ds.length
      · rw [List.getElem?_set_self hl] at e
        cases e
        rw [List.getElem?_set_self (by rw [o.len]; exact hl)]
        exact ⟨C, ob, u, h1, h2, h3⟩
      · rw [List.getElem?_eq_none (by simpa using hl)] at e; cases e
    · rw [List.getElem?_set_ne (Ne.symm hj)] at e
      rw [List.getElem?_set_ne (Ne.symm hj)]
      exact o.sl j s e
  · obtain ⟨n1, h1⟩ := own' hj
    obtain ⟨n2, h2⟩ := own' hk
    rw [List.getElem?_set_ne (Ne.symm n1)] at e1
    rw [List.getElem?_set_ne (Ne.symm n2)] at e2
    exact o.apart j k a hjk h1 h2 e1 e2
def Throws (X : Cx) (C : Addr) (st : Stmt) (x : List Sl → Bool) : Prop := ∀ (pins : List (Addr × Obj)) (s : Shared) (σ : L2.St) (H H₀ : Hp) (O : Addr → Prop) (ds : List Sl) (hd : Hold), Inv X pins σ H s → Ok X.K H₀ H O σ ds hd → x ds = true →
  (∀ ea a0 B H1 H' s1 s', Inv X pins σ H1 s1 → Same H H1 → Same H1 H' → Thrown X.prog X.w X.stack H1 s1 (.ref C) ea a0 B H' s'.heap → s'.os = s1.os → AllBare s'.gens → X.xe (.ref ea) s') → wpAny (model X.prog X.w) X.A (exec st X.env) (fun _ _ => False) X.xe s
section
variable {X : Cx} {k j n : Nat} {R : List D → Bool} {C : Addr} {x : Str} {p pos : Pos} {e : Expr} {es : List Expr} {g : FA}
theorem call_thrown (CX : CalX X.prog X.w X.K X.mg X.base x k n R C) (hr : Room j X.A) (ha : PAn X (e :: es) g) (hj : k ≤ j) (hg : Gl X x) (hdb : (x == ("__debug__" : Str)) = false)
    (he : starEach (e :: es) X.env = (false, eval e X.env) :: starEach es X.env) (hpl : (backTo pos (starEach es X.env)).any (·.1) = false)
    {pins : List (Addr × Obj)} {s : Shared} {σ : L2.St} {H H₀ : Hp} {O : Addr → Prop} {ds : List Sl} {hd : Hold} {Q : Value → Shared → Prop} (I : Inv X pins σ H s) (o : Ok X.K H₀ H O σ ds hd) (ex : callX n R g ds = true)
    (W : ∀ ea a0 B H1 H' s1 s', Inv X pins σ H1 s1 → Same H H1 → Same H1 H' → Thrown X.prog X.w X.stack H1 s1 (.ref C) ea a0 B H' s'.heap → s'.os = s1.os → AllBare s'.gens → X.xe (.ref ea) s') :
    wpAny (model X.prog X.w) X.A (eval (.Call (.Name x p) (e :: es) [] pos) X.env) Q X.xe s := by
  obtain ⟨f, fd, ps, Fn, hb, hk, hm⟩ := CX.ex
  obtain ⟨t, ht, hf⟩ := ha
  unfold callX at ex
  cases hl : g ds with
  | none => rw [hl] at ex; cases ex
  | some l =>
    rw [hl] at ex
    simp only [Bool.and_eq_true, decide_eq_true_eq] at ex
    refine wpAny_Call_Name_kw (ld_glob I hg hm ?_ hdb)
    refine PySem.W.callWith_K (h₀ := X.base) I.ok.mod.kin hk (thn (ht pos pins s σ H (fun vs H1 => Same H H1 ∧ Reps X.K H1 none0 vs l) I (hf H₀ H O σ ds hd l _ o hl fun vs H1 s1 r => ⟨s1, r⟩)) fun us s1 ⟨vs, H1, I1, r, q1, q2⟩ => ⟨I1.kIn, ?_⟩) he hpl
    have sp : spX X.K n R C vs H1 (fun _ _ => False) (fun cl _ H' => cl = .ref C ∧ Same H1 H') := ⟨by rw [q2.length]; exact ex.1, l, q2, ex.2, fun H' s' => ⟨rfl, s'⟩⟩
    have hl2 : us.length = ps.length := by rw [← r.length]; exact Fn.len _ _ _ _ sp
    have bd := hb s1 us I1.kIn (by rw [List.append_nil]; exact hl2)
    rw [List.append_nil] at bd
    refine wpAny_call (codeAny_mono (Fn.run X.A X.stack s1 H1 ⟨us, []⟩ us vs (fun _ _ => False) (fun cl _ H' => cl = .ref C ∧ Same H1 H') (hr.mono hj) I1.env0 bd r sp) fun r s' hq => ?_)
    cases r with
    | error e' =>
      obtain ⟨ea, cls, a0, B, H', rfl, os, bare, T, rfl, sm⟩ := hq
      exact W ea a0 B H1 H' s1 s' I1 q1 sm T os bare
    | ok fl =>
      cases fl with
      | ret u => obtain ⟨v, H', _, _, _, _, _, z⟩ := hq; exact z.elim
      | next => exact False.elim hq
      | brk => exact False.elim hq
      | cont => exact False.elim hq
theorem thr_set {y : Str} {py pos' : Pos} (CX : CalX X.prog X.w X.K X.mg X.base x k n R C) (hr : Room j X.A) (ha : PAn X (e :: es) g) (hj : k ≤ j := by decide) (hg : Gl X x := by rfl) (hdb : (x == ("__debug__" : Str)) = false := by decide)
    (he : starEach (e :: es) X.env = (false, eval e X.env) :: starEach es X.env := by rfl) (hpl : (backTo pos (starEach es X.env)).any (·.1) = false := by rfl) (hs : swapsWith (.Call (.Name x p) (e :: es) [] pos) (some (.Name y py)) pos'.line X.env = pure false := by rfl) :
    Throws X C (.Assign [.Name y py] (.Call (.Name x p) (e :: es) [] pos) pos') (callX n R g) := by
  intro pins s σ H H₀ O ds hd I o ex W
  exact wpAny_Assign_Name (call_thrown CX hr ha hj hg hdb he hpl I o ex W) hs
end
end FL
namespace FL
open PySem PySem.Spec PyProof.Rows L2
open PySem.W (Looks looks_mroIn mroIn clsIn)
structure XCatch (K : Frag) (C S : Addr) : Prop where
  kit : PySem.W.kitCls K (.ref C) (.ref S) = some true
  be : mroIn K S (.type "BaseException") = some true
section
variable {prog : Program} {w : World} {A : Around} {E : Value → Shared → Prop} {h : Heap} {g : Array GenState} {d : Drawn} {t : Nat} {os : OsState} {a C S : Addr} {o : Obj} {K : Frag}
theorem x_matches {M : Model} {Q : Bool → Shared → Prop} (X : K.In h) (hx : h.get? a = some o) (hc : o.cls = .ref C) (hS : XCatch K C S) (hq : Q true ⟨h, g, d, t, os⟩) :
    wpAny M A (excMatches (.ref a) (.ref S)) Q E ⟨h, g, d, t, os⟩ := by
  have L0 := x_type (M := M) hx hc
  have L1 := looks_mroIn (M := M) X hS.be
  obtain ⟨L3, L4, L2⟩ := PySem.W.kit_cls (M := M) X hS.kit
  have f := tc_notTuple
  unfold excMatches
  repeat (first | with_reducible refine L0.at ?_ | with_reducible refine L1.at ?_ | with_reducible refine L2.at ?_ | with_reducible refine L3.at ?_ | with_reducible refine L4.at ?_ | with_reducible refine wpAny_loadPart_at hx ?_ | wp_step)
  exact hq
end
section
variable {X : Cx}
theorem run_suite {ea : Addr} {xe0 : Value → Shared → Prop} {sts : List Stmt} {h : FS} {pins : List (Addr × Obj)} {σ : L2.St} {H H₀ : Hp} {O : Addr → Prop} {ds : List Sl} {hd : Hold} {out : Out} {D : Ends} {s : Shared}
    (hs : ∀ xe, PSsv (suiteCx X ea xe) sts h) (I : Inv (suiteCx X ea xe0) pins σ H s) (o : Ok X.K H₀ H O σ ds hd) (e : h ds = some out) (af : After X H₀ hd D out) {EXC : Value → Shared → Prop} {POST : Flow → Shared → Prop}
    (hp : ∀ f s', SP (suiteCx X ea EXC) pins D f s' → POST f s') : wpAny (model X.prog X.w) (X.A.mark (some (.ref ea))) (execs sts X.env) POST EXC s := by
  obtain ⟨t, ht, hf⟩ := hs EXC
  exact wpAny_mono (ht pins s σ H D (I.wish EXC) (hf H₀ H O σ ds hd out D o e af)) hp (fun _ _ z => z)
theorem after_gone {H₀ : Hp} {hd : Hold} {D : Ends} {i : Nat} {out : Out} (af : After X H₀ hd D (goneO i out)) :
    After X H₀ hd { nx := fun σ H => D.nx (σ.set i none) H, rt := D.rt, bk := fun σ H => D.bk (σ.set i none) H, ct := fun σ H => D.ct (σ.set i none) H } out := by
  cases out with
  | nx ds => exact fun σ H O o => af _ _ O (o.setNo i none)
  | bk ds => exact fun σ H O o => af _ _ O (o.setNo i none)
  | ct ds => exact fun σ H O o => af _ _ O (o.setNo i none)
  | rt r => exact af
theorem fly_apart {B h : Heap} {l : List Env} {e : Addr} {cls a0 : Value} (f : Heap.FlyingW B l e cls a0 h) : e ∉ frs l ∧ ∃ oe, h.get? e = some oe ∧ oe.cls = cls ∧ ∀ v, oe.data ≠ .cell v := by
  obtain ⟨_, _, f3, oe, vs, T, oT, ts, he, hc, hd, _⟩ := f
  refine ⟨fun z => ?_, oe, he, hc.1, fun v q => by rw [hd] at q; cases q⟩
  obtain ⟨_, o, ho, hn⟩ := f3.mem z
  rw [he] at ho
  cases ho
  exact hn vs hd
def tryE (X : Cx) (pins : List (Addr × Obj)) (D : Ends) (hs : List ExceptHandler) : Value → Shared → Prop := fun e s₁ => wpAny (model X.prog X.w) X.A (noteFrame e X.env) (fun _ s₂ => wpAny (model X.prog X.w) X.A (setFlight e none) (fun _ s₃ => wpAny (model X.prog X.w) X.A (handleBy e X.env hs) (SP X pins D) X.xe s₃) X.xe s₂) X.xe s₁
end
end FL
namespace FL
open PySem PySem.Spec PyProof.Rows L2
def IsxOk (K : Frag) (cv : Value) (tb : List (Nat × Bool)) : Prop := ∀ t b, tb.lookup t = some b → ∀ C, PySem.W.nsIn K mainGlobals (xName t) = some (some (.ref C)) → XIn K C ∧ PySem.W.kitOne K (.ref C) cv = some b
section
variable {X : Cx}
theorem call_isx : CallR X (.builtin "isinstance") (fun xs H Q => ∃ a o u C c cv b, xs = [.ref a, c] ∧ clsV c cv ∧ H a = some (.frz o u) ∧ o.cls = .ref C ∧ XIn X.K C ∧ PySem.W.kitOne X.K (.ref C) cv = some b ∧ Q (.bl b) H) := by
  intro pins s σ H xs us Q I r h
  obtain ⟨a, o, v, C, c, cv, b, rfl, hc, ha, ho, hx, e, q⟩ := h
  obtain ⟨u, u2, rfl, ru, ru2⟩ := vals2 r
  have e2 : u2 = cv := by
    cases c with
    | ty n => cases (show cv = .type n from hc); cases (show u2 = .type n from ru2); rfl
    | ref a => cases (show cv = .ref a from hc); cases (show u2 = .ref a from ru2); rfl
    | _ => exact (show False from hc).elim
  subst e2
  cases (show u = Value.ref a from ru)
  have hg : s.heap.get? a = some o := (show s.heap.get? a = some o ∧ ObjOk X.prog X.w H s.heap a v from I.hok a _ ha).1
  exact PySem.W.kia_one (kitx_exc hx) I.kIn ⟨o, hg, ho⟩ e (fun z => nomatch z) fun tk => ⟨.bl b, H, I.tok tk, rfl, q⟩
section
variable {en : Str} {i : Nat} {p pe pT pos : Pos} {tb : List (Nat × Bool)}
theorem isx_read {σ : L2.St} {H₀ H : Hp} {O : Addr → Prop} {ds : List Sl} {hd : Hold} {d : D} (o : Ok X.K H₀ H O σ ds hd) (e : isxG i tb ds = some d) : ∃ t b, ds[i]? = some (.exc t) ∧ tb.lookup t = some b ∧ d = .bl b := by
  unfold isxG at e
  cases hs : ds[i]? with
  | none => rw [hs] at e; cases e
  | some s =>
    rw [hs] at e
    cases s with
    | exc t =>
      simp only at e
      cases hl : tb.lookup t with
      | none => rw [hl] at e; cases e
      | some b => rw [hl] at e; cases e; exact ⟨t, b, rfl, hl, rfl⟩
    | no => cases e
    | v d => cases e
    | own l => cases e
    | fr l => cases e
theorem pv_isx {x : Str} (hm : X.mg "isinstance" = none) (hI : ∃ D, X.mg x = some (.ref D) ∧ IsxOk X.K (.ref D) tb) (hN : X.N[i]? = some en := by rfl) (hv : Vis X.env.scope en := by exact Or.inl rfl) (hde : (en == ("__debug__" : Str)) = false := by decide)
    (hcd : (en == ("__classdict__" : Str)) = false := by decide) (hg : Gl X "isinstance" := by rfl) (hgT : Gl X x := by rfl)
    (h1 : starEach [.Name en pe, .Name x pT] X.env = (false, eval (.Name en pe) X.env) :: starEach [.Name x pT] X.env := by rfl) (h2 : starEach [.Name x pT] X.env = (false, eval (.Name x pT) X.env) :: starEach [] X.env := by rfl) (h3 : (backTo pos (starEach [.Name x pT] X.env)).any (·.1) = false := by rfl)
    (hd : (x == ("__debug__" : Str)) = false := by decide) : PV X (.Call (.Name "isinstance" p) [.Name en pe, .Name x pT] [] pos) (isxG i tb) := by
  obtain ⟨D, hT, hI⟩ := hI
  refine ⟨_, pe_callB call_isx hg hm (by decide +kernel) (pa_cons (pe_var hN hv hde hcd) (pa_cons (pe_glob (v := .ref D) hgT hT rfl hd) pa_nil h2) h1) (by decide) (by decide) h1 h3, fun H₀ H O σ ds hd d Q o e q => ?_⟩
  obtain ⟨t, b, hs, hl, rfl⟩ := isx_read o e
  obtain ⟨a, C, ob, u, q1, q2, q3, q4⟩ := o.readX hs
  obtain ⟨x1, x2⟩ := hI t b hl C q2
  exact ⟨.ref a, q1, a, ob, u, C, .ref D, .ref D, b, rfl, rfl, q3, q4, x1, x2, q _ H (Same.refl _) (.bl b)⟩
theorem pv_isxB {x : Str} {T : String} (hm : X.mg "isinstance" = none) (hx : X.mg x = none) (hI : IsxOk X.K (.type T) tb) (hb : bootBuiltins x = some (.type T) := by decide +kernel) (hN : X.N[i]? = some en := by rfl) (hv : Vis X.env.scope en := by exact Or.inl rfl) (hde : (en == ("__debug__" : Str)) = false := by decide)
    (hcd : (en == ("__classdict__" : Str)) = false := by decide) (hg : Gl X "isinstance" := by rfl) (hgT : Gl X x := by rfl)
    (h1 : starEach [.Name en pe, .Name x pT] X.env = (false, eval (.Name en pe) X.env) :: starEach [.Name x pT] X.env := by rfl) (h2 : starEach [.Name x pT] X.env = (false, eval (.Name x pT) X.env) :: starEach [] X.env := by rfl) (h3 : (backTo pos (starEach [.Name x pT] X.env)).any (·.1) = false := by rfl)
    (hn : x ≠ "__name__" := by decide) (hd : (x == ("__debug__" : Str)) = false := by decide) : PV X (.Call (.Name "isinstance" p) [.Name en pe, .Name x pT] [] pos) (isxG i tb) := by
  refine ⟨_, pe_callB call_isx hg hm (by decide +kernel) (pa_cons (pe_var hN hv hde hcd) (pa_cons (pe_bltn (v := .ty T) hgT hx hb rfl hn hd) pa_nil h2) h1) (by decide) (by decide) h1 h3, fun H₀ H O σ ds hd d Q o e q => ?_⟩
  obtain ⟨t, b, hs, hl, rfl⟩ := isx_read o e
  obtain ⟨a, C, ob, u, q1, q2, q3, q4⟩ := o.readX hs
  obtain ⟨x1, x2⟩ := hI t b hl C q2
  exact ⟨.ref a, q1, a, ob, u, C, .ty T, .type T, b, rfl, rfl, q3, q4, x1, x2, q _ H (Same.refl _) (.bl b)⟩
end
end
structure XR (K : Frag) (mg : Str → Option Value) (t : Nat) (C : Addr) : Prop where
  nm : PySem.W.nsIn K mainGlobals (xName t) = some (some (.ref C))
  gl : mg (xName t) = some (.ref C)
  cls : XCls K C
structure XT (K : Frag) (mg : Str → Option Value) (t : Nat) (x : Str) (C S : Addr) : Prop where
  nm : PySem.W.nsIn K mainGlobals (xName t) = some (some (.ref C))
  gl : mg x = some (.ref S)
  cat : XCatch K C S
end FL
namespace FL
open PySem PySem.Spec PyProof.Rows L2
section
variable {X : Cx} {m : Str} {k j : Nat} {cs : List Nat} {F : Nat → List D → Option Ret} {o : Expr} {apos pos : Pos} {fo : FE}
theorem pv_meth0 {pl : Sem Bool} (M : MCal X.prog X.w X.K X.mg X.base m k 0 cs F) (hr : Room j X.A) (ho : PV X o fo) (hj : k ≤ j := by decide)
    (ht : eval (.Call (.Attribute o m apos) [] [] pos) X.env = (do
      let ov ← eval o X.env
      standAt apos.atName
      let (f, first) ← holding [ov] (getMethod ov m pl)
      callWith pos f first (backTo pos (starEach [] X.env)) (backToKw pos (keywordEach [] X.env))) := by rfl) : PV X (.Call (.Attribute o m apos) [] [] pos) (methV 0 cs F fo nilA) := by
  obtain ⟨ta, pa, hfo⟩ := ho
  refine ⟨_, pe_methD0 (pl := pl) (k := k) pa (hr.mono hj) ht, fun H₀ H O σ ds hd d Q o e q => ?_⟩
  unfold methV at e
  cases h1 : fo ds with
  | none => rw [h1] at e; cases e
  | some x =>
    rw [h1] at e
    simp only [nilA, Option.bind_some] at e
    cases h3 : methR 0 cs F x [] with
    | none => rw [h3] at e; cases e
    | some r =>
      rw [h3] at e
      refine meth_sem (g := nilA) M hfo (fun _ H _ _ _ _ _ _ _ e q => by cases e; exact q _ H (Same.refl _) .nil) o h1 rfl h3 fun v H1 H' s1 s' ro => q v H' (s1.trans s') ?_
      exact retV_ok ro e fun a ha => (o.mono s1).old ha
end
section
variable {X : Cx} {C : Addr} {x : Str} {p pos : Pos}
structure MkP (K : Frag) (mg : Str → Option Value) (t : Nat) : Prop where
  ex : ∃ C, PySem.W.nsIn K mainGlobals (clsName t) = some (some (.ref C)) ∧ mg (clsName t) = some (.ref C) ∧ PySem.W.makesIn K C = true ∧ PySem.W.findIn K (.ref C) "__init__" = some (some (.builtin "object.__init__")) ∧ PySem.W.keepIn K (.ref C) = true
theorem run_makeP {pins : List (Addr × Obj)} {σ : L2.St} {H : Hp} {s : Shared} {Q : VK} (hm : PySem.W.makesIn X.K C = true) (hi : PySem.W.findIn X.K (.ref C) "__init__" = some (some (.builtin "object.__init__"))) (I : Inv X pins σ H s)
    (h : ∀ x dx, H x = none → H dx = none → dx ≠ x → Q (.ref x) (upd (upd H dx (.own x)) x (.ins C dx []))) : wpAny (model X.prog X.w) X.A (call (.ref C) []) (EP X pins σ Q) X.xe s := by
  have hq := h (s.heap.objs.size + 1) s.heap.objs.size (I.hok.fresh (Nat.le_succ _)) (I.hok.fresh (Nat.le_refl _)) (Nat.ne_of_lt (Nat.lt_succ_self _))
  have I2 := Inv.made (C := C) I
  refine wpAny_call ?_
  have X' := I.kIn
  obtain ⟨hh, g, d, t, os⟩ := s
  have Y := PySem.W.makes_of (M := model X.prog X.w) X' hm
  refine PySem.W.make_core Y (PySem.W.looks_findIn X' hi) (fun self => PySem.W.Looks.of_pure (PySem.W.oi_bind self)) (.inr ⟨rfl, rfl⟩) ?_
  have gx : ((hh.push PySem.W.emptyDict).push (PySem.W.instObj C hh.objs.size)).get? (hh.objs.size + 1) = some (PySem.W.instObj C hh.objs.size) := by
    have := Heap.get?_push_size (hh.push PySem.W.emptyDict) (o := PySem.W.instObj C hh.objs.size) rfl
    rwa [Heap.size_push] at this
  have t1 : PySem.W.Looks (model X.prog X.w) ((hh.push PySem.W.emptyDict).push (PySem.W.instObj C hh.objs.size)) (typeOf (.ref (hh.objs.size + 1))) (.ref C) := (PySem.W.Looks.ld gx).andThen .now
  have t2 : PySem.W.Looks (model X.prog X.w) ((hh.push PySem.W.emptyDict).push (PySem.W.instObj C hh.objs.size)) (isInstance (.ref (hh.objs.size + 1)) (.type "object")) true := t1.andThen (Y.top.keeps fun b o e => Heap.get?_push_of_some _ (Heap.get?_push_of_some _ e))
  refine codeAny_call_builtin PySem.W.oi_plain PySem.W.entry_oi (@PySem.W.check_slot (model X.prog X.w) _ _ _ "object.__init__" "object" "__init__" (.ref (hh.objs.size + 1)) [] [] _ PySem.W.oi_kind PySem.W.oi_split t2 (PySem.W.oi_args (.ref (hh.objs.size + 1))) ?_)
  rw [PySem.W.oi_run]
  exact wpAny_pure (And.intro rfl ⟨V.ref (hh.objs.size + 1), _, I2, rfl, hq⟩)
theorem pvd_makeP {t : Nat} (M : MkP X.K X.mg t) (hx : clsName t = x := by rfl) (hf : clsFlds t = [] := by rfl) (hg : Gl X x := by rfl) (hdb : (x == ("__debug__" : Str)) = false := by decide) :
    PVd X (.Call (.Name x p) [] [] pos) (konst (.ins t [])) := by
  obtain ⟨C, hc, hm, mk, hi, kp⟩ := M.ex
  subst hx
  refine ⟨fun σ H Q => ∀ x dx, H x = none → H dx = none → dx ≠ x → Q (.ref x) (upd (upd H dx (.own x)) x (.ins C dx [])), fun pins s σ H Q I h => ?_, fun H₀ H O σ ds hd d Q o e q x dx nx ndx ne => ?_⟩
  · refine wpAny_Call_Name_kw (ld_glob I hg hm ?_ hdb)
    exact PySem.W.callWith_K0 I.kIn kp (run_makeP mk hi I h)
  · cases e
    refine q _ _ (fun b u e => ?_) (.ins hc (fun z => ?_) upd_same (by rw [hf]; rfl) .nil)
    · rw [upd_ne (fun z => by rw [z, nx] at e; cases e), upd_ne (fun z => by rw [z, ndx] at e; cases e)]; exact e
    · obtain ⟨u, e, _⟩ := z
      rw [nx] at e; cases e
end
theorem kitCls_yes {K : Frag} {C C' : Addr} (u : PySem.W.isClsIn K C = true) (y : PySem.W.typeIn K (.ref C) = some (.type "type")) (s : PySem.W.subIn K (.ref C') (.ref C) = some true) : PySem.W.kitCls K (.ref C') (.ref C) = some true := by
  unfold PySem.W.kitCls
  simp only
  rw [show (PySem.W.clsIn K C).isSome = true from u, y, if_pos (by simp), s]
theorem kitB_yes {K : Frag} {C' : Addr} {T : String} (u : PySem.W.kitMeta T = true) (s : PySem.W.subIn K (.ref C') (.type T) = some true) : PySem.W.kitOne K (.ref C') (.type T) = some true := by
  unfold PySem.W.kitOne
  split
  · rfl
  · unfold PySem.W.kitCls
    simp only
    rw [u, if_pos rfl, s]
end FL
namespace FL
open PySem PySem.Spec PyProof.Rows L2
section
variable {K : Frag} {H : Hp} {O : Addr → Prop} {a : Addr} {xs ys : List V}
end
section
variable {X : Cx}
end
end FL
namespace FL
open PySem PySem.Spec PyProof.Rows L2
theorem pass_on {P : Program} {w : World} {K : Frag} {mg : Str → Option Value} {base : Heap} {N : List Str} {qual : Str} {scope : Scope} {f : Addr} {cd : Value} {A : Around} {outer : List Env} {s : Shared} {H : Hp} {E : XK} :
    Passes (CXM P w) (cxOf (CXM P w) P w K mg base N qual scope f cd A outer s H E) E := by
  intro pins σ H1 s1 e s' I h
  obtain ⟨ea, cls, a0, B, H', rfl, os, bare, T, hE⟩ := h
  have hfr : frs (envOfC qual scope s.heap.objs.size f cd :: outer) = s.heap.objs.size :: frs outer := rfl
  have nm : ∀ b o, s.heap.get? b = some o → b ∉ frs outer → b ∉ frs (envOfC qual scope s.heap.objs.size f cd :: outer) := fun b o q n z => by
    rw [hfr] at z
    rcases List.mem_cons.mp z with z | z
    · exact absurd (Heap.lt_size q) (by rw [z]; exact Nat.lt_irrefl _)
    · exact n z
  show wpAny _ _ (leaving _ _) _ _ _
  refine wpAny_leaves_onW I.ok.frames rfl T.fly fun h' x1 x4 => ?_
  refine ⟨ea, cls, a0, B, H', rfl, os.trans I.os, bare, ⟨x1, fun b o q n hb => ?_, fun b o q hb => ?_, fun b o q hb => ?_, fun b o q n => ?_, fun b xs q => T.tups b xs (I.base.tups b xs q), fun b o u q => T.frzs b o u (I.base.frzs b o u q), fun b ps q => ?_, T.hok⟩, hE⟩
  · exact T.keep b o (I.base.keep b o q n hb (by intro z; cases z)) (I.base.free b o q n (by intro z; cases z)) (nm b o q hb)
  · obtain ⟨o', q'⟩ := I.base.there b o q (by intro z; cases z)
    exact T.there b o' q' (nm b o q hb)
  · obtain ⟨sl, q'⟩ := I.base.slot b o q (I.ok.frf b hb) hb (by intro z; cases z)
    obtain ⟨sl2, q2⟩ := T.slot b _ q' (List.mem_cons_of_mem _ hb)
    obtain ⟨_, ob, ho, hd⟩ := I.ok.funs.mem hb
    have ho' : s.heap.get? b = some ob := ho
    rw [q] at ho'
    cases ho'
    obtain ⟨sl', q''⟩ := x4 b _ q2 hd
    exact ⟨sl', q''⟩
  · obtain ⟨o', q'⟩ := I.base.there b o q (by intro z; cases z)
    exact T.free b o' q' (I.base.free b o q n (by intro z; cases z))
  · exact T.tbls b ps (I.base.tbls b ps q)
section
variable (X : Cx) (E : XK) (C : Addr)
def PSy (st : Stmt) (x : List Sl → Bool) : Prop := ∃ t, PS X st t ∧ ∀ H₀ H O σ ds hd D, Ok X.K H₀ H O σ ds hd → x ds = true → (∀ σ' H', Same H₀ H' → XeOk X C σ' H') → (∀ H', Same H₀ H' → E (.ref C) none H') → t D σ H
def PSsy (st : List Stmt) (x : List Sl → Bool) : Prop := ∃ t, PSs X st t ∧ ∀ H₀ H O σ ds hd D, Ok X.K H₀ H O σ ds hd → x ds = true → (∀ σ' H', Same H₀ H' → XeOk X C σ' H') → (∀ H', Same H₀ H' → E (.ref C) none H') → t D σ H
def PEy (e : Expr) (x : List Sl → Bool) : Prop := ∃ t, PE X e t ∧ ∀ H₀ H O σ ds hd Q, Ok X.K H₀ H O σ ds hd → x ds = true → (∀ H', Same H₀ H' → E (.ref C) none H') → t σ H Q
def PSsAny (st : List Stmt) : Prop := ∃ t, PSs X st t
end
section
variable {X : Cx} {E : XK} {C : Addr}
theorem PSx.y {st : Stmt} {x : List Sl → Bool} (h : PSx X C st x) : PSy X E C st x := by
  obtain ⟨t, ht, hf⟩ := h
  exact ⟨t, ht, fun H₀ H O σ ds hd D o e q _ => hf H₀ H O σ ds hd D o e q⟩
theorem PSsv.any {st : List Stmt} {g : FS} (h : PSsv X st g) : PSsAny X st := let ⟨t, ht, _⟩ := h; ⟨t, ht⟩
theorem pssy_never {st : List Stmt} (h : PSsAny X st) : PSsy X E C st neverX := by
  obtain ⟨t, ht⟩ := h
  exact ⟨t, ht, fun _ _ _ _ _ _ _ _ e _ _ => by cases e⟩
theorem pssy_head {st : Stmt} {rest : List Stmt} {x : List Sl → Bool} (h1 : PSy X E C st x) (h2 : PSsAny X rest) : PSsy X E C (st :: rest) x := by
  obtain ⟨t, ht, hf⟩ := h1
  obtain ⟨u, hu⟩ := h2
  exact ⟨_, pss_cons ht hu, fun H₀ H O σ ds hd D o e q p => hf H₀ H O σ ds hd _ o e q p⟩
theorem pssy_tail {st : Stmt} {rest : List Stmt} {f : FS} {x : List Sl → Bool} (h1 : PSv X st f) (h2 : PSsy X E C rest x) : PSsy X E C (st :: rest) (seqX f x) := by
  obtain ⟨t, ht, hf⟩ := h1
  obtain ⟨u, hu, hg⟩ := h2
  refine ⟨_, pss_cons ht hu, fun H₀ H O σ ds hd D o e q p => ?_⟩
  unfold seqX at e
  cases h1 : f ds with
  | none => rw [h1] at e; cases e
  | some o1 =>
    rw [h1] at e
    cases o1 with
    | nx ds' => exact hf H₀ H O σ ds hd _ _ o h1 (fun σ' H' O' o' => hg H₀ H' O' σ' ds' hd D o' e q p)
    | _ => cases e
theorem ps_or {st : Stmt} {t u : TS} (h1 : PS X st t) (h2 : PS X st u) : PS X st (fun D σ H => t D σ H ∨ u D σ H) := fun pins s σ H D I h => h.elim (h1 pins s σ H D I) (h2 pins s σ H D I)
theorem pssy_cons {st : Stmt} {rest : List Stmt} {f : FS} {x y : List Sl → Bool} (h0 : PSy X E C st x) (h1 : PSv X st f) (h2 : PSsy X E C rest y) : PSsy X E C (st :: rest) (orX x (seqX f y)) := by
  obtain ⟨t0, ht0, hf0⟩ := h0
  obtain ⟨t, ht, hf⟩ := h1
  obtain ⟨u, hu, hg⟩ := h2
  refine ⟨_, pss_cons (ps_or ht0 ht) hu, fun H₀ H O σ ds hd D o e q p => ?_⟩
  unfold orX at e
  rcases Bool.or_eq_true_iff.mp e with e | e
  · exact .inl (hf0 H₀ H O σ ds hd _ o e q p)
  · refine .inr ?_
    unfold seqX at e
    cases h1 : f ds with
    | none => rw [h1] at e; cases e
    | some o1 =>
      rw [h1] at e
      cases o1 with
      | nx ds' => exact hf H₀ H O σ ds hd _ _ o h1 (fun σ' H' O' o' => hg H₀ H' O' σ' ds' hd D o' e q p)
      | _ => cases e
theorem psy_if {c : Expr} {a b : List Stmt} {pos : Pos} {fc : FT} {xa xb : List Sl → Bool} (hc : PTv X c fc) (ha : PSsy X E C a xa) (hb : PSsy X E C b xb) : PSy X E C (.If c a b pos) (ifX fc xa xb) := by
  obtain ⟨tc, hc, hcf⟩ := hc
  obtain ⟨ta, ha, haf⟩ := ha
  obtain ⟨tb, hb, hbf⟩ := hb
  refine ⟨_, ps_if hc ha hb, fun H₀ H O σ ds hd D o e q p => ?_⟩
  unfold ifX at e
  cases hh : fc ds with
  | none => rw [hh] at e; cases e
  | some k =>
    rw [hh] at e
    refine hcf H₀ H O σ ds hd k _ o hh fun H' s => ?_
    cases k with
    | true => exact haf H₀ H' O σ ds hd D (o.mono s) e q p
    | false => exact hbf H₀ H' O σ ds hd D (o.mono s) e q p
theorem psy_ret {e : Expr} {pos : Pos} {x : List Sl → Bool} (h : PEy X E C e x) : PSy X E C (.Return (some e) pos) x := by
  obtain ⟨t, ht, hf⟩ := h
  exact ⟨_, ps_ret ht, fun H₀ H O σ ds hd D o e _ p => hf H₀ H O σ ds hd _ o e p⟩
section
variable {k j n : Nat} {R : List D → Bool} {x : Str} {p pos : Pos} {e : Expr} {es : List Expr} {g : FA}
theorem pey_call (hp : Passes (CXM X.prog X.w) X E) (CX : CalX X.prog X.w X.K X.mg X.base x k n R C) (hr : Room j X.A) (ha : PAn X (e :: es) g) (hj : k ≤ j := by decide) (hg : Gl X x := by rfl) (hdb : (x == ("__debug__" : Str)) = false := by decide)
    (he : starEach (e :: es) X.env = (false, eval e X.env) :: starEach es X.env := by rfl) (hpl : (backTo pos (starEach es X.env)).any (·.1) = false := by rfl) : PEy X E C (.Call (.Name x p) (e :: es) [] pos) (callX n R g) := by
  obtain ⟨f, fd, ps, Fn, hb, hk, hm⟩ := CX.ex
  obtain ⟨t, ht, hf⟩ := ha
  refine ⟨_, pe_call (E := E) Fn (hr.mono hj) hg hm hk hb .nil hp ht hdb he hpl, fun H₀ H O σ ds hd Q o ex q => ?_⟩
  unfold callX at ex
  cases hl : g ds with
  | none => rw [hl] at ex; cases ex
  | some l =>
    rw [hl] at ex
    simp only [Bool.and_eq_true, decide_eq_true_eq] at ex
    refine hf H₀ H O σ ds hd l _ o hl fun vs H1 s1 r1 => ?_
    have hl' := r1.length
    exact ⟨by simp only [List.append_nil]; rw [hl']; exact ex.1, l, by simpa using r1, ex.2, fun H' s' => q H' (o.same.trans (s1.trans s'))⟩
end
end
theorem fun_okY {P : Program} {w : World} {K : Frag} {mg : Str → Option Value} {base : Heap} {x qual : Str} {st : Stmt} {f C : Addr} {fd : FuncData} {N ps : List Str} {k : Nat} {R : List D → Bool} (Fn : Fun K x qual st f fd) (S : FnScope N ps (defScope st))
    {g : List Sl → Bool} (hbody : ∀ (cdv : Value) (A : Around) (outer : List Env) (s : Shared) (H : Hp) (E : XK), Room k (A.deeper (envOfC qual (defScope st) s.heap.objs.size f cdv)) → PSsy (cxOf (CXM P w) P w K mg base N qual (defScope st) f cdv A outer s H E) E C (defBody st) g)
    (hg : ∀ ds, ds.length = ps.length → R ds = true → g (args N.length ds) = true) : FnOk P w K mg base (CXM P w) (k + 1) f fd ps (spX K ps.length R C) := by
  obtain ⟨oc, od, kV, doc, pm, an, cdv, ct, osl, rfl, lk, hcd⟩ := Fn.ex
  refine fn_of lk hcd S (fun vs H Q E h => h.1) fun A outer s H vs Q E hr h => ?_
  obtain ⟨hl, ds, rv, e, q⟩ := h
  obtain ⟨t, ht, hf⟩ := hbody cdv A outer s H E hr
  exact ⟨t, ht, hf H H none0 _ _ [] _ (ok_start (N := N) rv) (hg ds (by rw [← rv.length]; exact hl) e) (fun σ' H' s' => xe_raise (q H' s')) q⟩
section
variable {X : Cx} {E : XK} {C : Addr} {t k j n : Nat} {R : List D → Bool} {x : Str} {p pos : Pos} {e : Expr} {es : List Expr} {g : FA}
end
section
variable {X : Cx}
theorem try_lands {st b₀ : Stmt} {suite : List Stmt} {sx en : Str} {hp hpos : Pos} {i t : Nat} {C S : Addr} {h : FS} {x : List Sl → Bool}
    (hN : X.N.Nodup) (hm : X.mg sx = some (.ref S)) (hS : XCatch X.K C S) (hC : PySem.W.nsIn X.K mainGlobals (xName t) = some (some (.ref C)))
    (hx : ∀ W, Throws (X.wish W) C st x) (hs : ∀ ea xe, PSsv (suiteCx X ea xe) (b₀ :: suite) h)
    (hi : X.N[i]? = some en) (hlo : X.env.kindOf en = some .local) (hst : X.stack = X.env :: X.outer) (hfr : X.env.frame = some X.env.locals) (hex : X.ex = [])
    (hgS : Gl X sx) (hdb : (sx == ("__debug__" : Str)) = false)
    {pins : List (Addr × Obj)} {s : Shared} {σ : L2.St} {H H₀ : Hp} {O : Addr → Prop} {ds : List Sl} {hd : Hold} {D : Ends} {out' : Out} (I : Inv X pins σ H s) (o : Ok X.K H₀ H O σ ds hd) (hxd : x ds = true) (hh : h (ds.set i (.exc t)) = some out') (af : After X H₀ hd D (goneO i out')) :
    wpAny (model X.prog X.w) X.A (exec st X.env) (fun _ _ => False) (tryE X pins D [.ExceptHandler (some (.Name sx hp)) (some en) (b₀ :: suite) hpos]) s := by
  have hLoc : Loc X.env.scope en := .inl hlo
  have hsub : ∀ b, b ∈ X.env.locals :: X.fs → b ∈ frs X.stack := fun b hb => by
    rw [hst]; unfold frs; rw [List.filterMap_cons, hfr]; exact hb
  refine hx (tryE X pins D [.ExceptHandler (some (.Name sx hp)) (some en) (b₀ :: suite) hpos]) pins s σ H H₀ O ds hd (I.wish _) o hxd ?_
  intro ea a0 B H1 H' s1 s' I1 m1 m2 T os bare
  have I1' : Inv X pins σ H1 s1 := I1.unwish
  have T : Thrown X.prog X.w X.stack H1 s1 (.ref C) ea a0 B H' s'.heap := T
  show wpAny _ _ (noteFrame _ _) _ _ _
  have hA : X.A.frames = some (X.env :: X.outer) := by rw [← hst]; exact I.ok.frames
  refine wpAny_looks_onW hA hfr (by rw [← hst]; exact T.fly) fun h₄ held₄ sm₄ => ?_
  refine wpAny_landsW held₄ fun h₅ fly₅ sm₅ => ?_
  have T5 := T.on (h' := h₅) (by rw [hst]; exact fly₅) (sm₄.trans sm₅)
  have I5 : Inv X pins σ H' { s' with heap := h₅ } := I1'.call' (ch := []) os T5.un T5.hokh bare (fun b z => by cases z)
  obtain ⟨ap5, ob, hob, hobc, hobd⟩ := fly_apart T5.fly
  refine wpAny_handleBy_cons (codeAny_handlers_test ?_) (by intro q; cases q)
  refine ld_glob (X := suiteCx X ea X.xe) (inv_suite I5) hgS hm ?_ hdb
  refine x_matches (K := X.K) I5.kIn hob hobc hS ?_
  refine codeAny_handlers_suite_as ?_
  refine lands_againW (s := { s' with heap := h₅ }) fly₅ fun h₆ fly₆ sm₆ => ?_
  have T6 := T5.on (h' := h₆) (by rw [hst]; exact fly₆) sm₆
  have I6 : Inv X pins σ H' { s' with heap := h₆ } := I1'.call' (ch := []) os T6.un T6.hokh bare (fun b z => by cases z)
  obtain ⟨ap6, oe, hoe, hoec, hoed⟩ := fly_apart T6.fly
  have nb : ∀ b o, s1.heap.get? b = some o → b ≠ ea := fun b o e z => by
    subst z
    obtain ⟨o', q⟩ := T6.there b o e ap6
    rw [T6.fly.2.1] at q; cases q
  have h0 : X.s₀.heap.get? ea = none := by
    cases q : X.s₀.heap.get? ea with
    | none => rfl
    | some o' =>
      obtain ⟨o'', q'⟩ := I1'.base.there ea o' q (by rw [hex]; intro z; cases z)
      exact (nb ea o'' q' rfl).elim
  have It := inv_track I6 T6.no hoe (fun z => ap6 (hsub _ (by rw [z]; exact List.mem_cons_self))) h0 hoed fun p hpp => nb p.1 p.2 (I1'.pin p hpp).1
  have sm : Same H' (upd H' ea (.frz oe (.own ea))) := fun b u e => by rw [upd_ne (fun z => by rw [z, T6.no] at e; cases e)]; exact e
  refine store_ok (X := suiteCx X ea X.xe) (i := i) (v := .ref ea) (inv_suite It) hN hi hLoc rfl (fun s7 I7 => ?_) (.inr hlo)
  refine run_suite (fun xe => hs ea xe) I7 ((o.mono ((m1.trans m2).trans sm)).setX hC upd_same hoec) hh (after_gone af) fun f s8 h8 => ?_
  have hcls : (X.env.scope.kind == .class || (X.env.scope.kind == .module && X.env.locals != X.env.globals)) = false := by rw [I.ok.kind]; rfl
  have gone : ∀ xe σ' H8, Inv (suiteCx X ea xe) pins σ' H8 s8 → ∀ Q : Unit → Shared → Prop, (∀ s9, Inv X pins (σ'.set i none) H8 s9 → Q () s9) → wpAny (model X.prog X.w) X.A (do bindName X.env en .none; unbindBehindTheSuite X.env en hpos) Q X.xe s8 := fun xe σ' H8 I8 Q k => by
    have I8' := inv_unsuite I8 I.ok.hd
    obtain ⟨m, hn, hl⟩ := id I8'.loc
    exact wpAny_nameGoes_keeps hlo hn hcls fun h' v hn' hs' => k _ (inv_gone I8' hN hi hn hl hn' hs')
  cases f with
  | next => obtain ⟨σ', H8, I8, q⟩ := h8; exact gone _ σ' H8 I8 _ fun s9 I9 => ⟨_, H8, I9, q⟩
  | brk => obtain ⟨σ', H8, I8, q⟩ := h8; exact gone _ σ' H8 I8 _ fun s9 I9 => ⟨_, H8, I9, q⟩
  | cont => obtain ⟨σ', H8, I8, q⟩ := h8; exact gone _ σ' H8 I8 _ fun s9 I9 => ⟨_, H8, I9, q⟩
  | ret u => obtain ⟨v, σ', H8, I8, r, q⟩ := h8; exact gone _ σ' H8 I8 _ fun s9 I9 => ⟨v, _, H8, I9, r, q⟩
theorem psv_try2 {st b₀ : Stmt} {suite : List Stmt} {sx en : Str} {hp hpos pos : Pos} {i t u : Nat} {C C' S : Addr} {g h : FS} {x y : List Sl → Bool}
    (hN : X.N.Nodup) (hm : X.mg sx = some (.ref S)) (hS : XCatch X.K C S) (hS' : XCatch X.K C' S) (hC : PySem.W.nsIn X.K mainGlobals (xName t) = some (some (.ref C))) (hC' : PySem.W.nsIn X.K mainGlobals (xName u) = some (some (.ref C')))
    (hg : ∀ W, PSv (X.wish W) st g) (hx : ∀ W, Throws (X.wish W) C st x) (hy : ∀ W, Throws (X.wish W) C' st y) (hs : ∀ ea xe, PSsv (suiteCx X ea xe) (b₀ :: suite) h)
    (hi : X.N[i]? = some en := by rfl) (hlo : X.env.kindOf en = some .local := by rfl) (hst : X.stack = X.env :: X.outer := by rfl) (hfr : X.env.frame = some X.env.locals := by rfl) (hex : X.ex = [] := by rfl)
    (hgS : Gl X sx := by rfl) (hdb : (sx == ("__debug__" : Str)) = false := by decide) :
    PSv X (.Try [st] [.ExceptHandler (some (.Name sx hp)) (some en) (b₀ :: suite) hpos] [] [] pos) (tryG2 i t u g x y h) := by
  refine ⟨fun D σ H => ∀ pins s, Inv X pins σ H s → wpAny (model X.prog X.w) X.A (exec (.Try [st] [.ExceptHandler (some (.Name sx hp)) (some en) (b₀ :: suite) hpos] [] [] pos) X.env) (SP X pins D) X.xe s,
    fun pins s σ H D I h => h pins s I, fun H₀ H O σ ds hd out D o e af pins s I => ?_⟩
  refine wpAny_Try_except (wpAny_execs_cons ?_)
  show wpAny _ _ _ _ (tryE X pins D [.ExceptHandler (some (.Name sx hp)) (some en) (b₀ :: suite) hpos]) s
  unfold tryG2 at e
  by_cases hxd : x ds = true
  · rw [if_pos hxd] at e
    cases hh : h (ds.set i (.exc t)) with
    | none => rw [hh] at e; cases e
    | some out' =>
      rw [hh] at e
      cases e
      exact wpAny_mono (try_lands hN hm hS hC hx hs hi hlo hst hfr hex hgS hdb I o hxd hh af) (fun _ _ z => z.elim) (fun _ _ z => z)
  rw [if_neg hxd] at e
  by_cases hyd : y ds = true
  · rw [if_pos hyd] at e
    cases hh : h (ds.set i (.exc u)) with
    | none => rw [hh] at e; cases e
    | some out' =>
      rw [hh] at e
      cases e
      exact wpAny_mono (try_lands hN hm hS' hC' hy hs hi hlo hst hfr hex hgS hdb I o hyd hh af) (fun _ _ z => z.elim) (fun _ _ z => z)
  · rw [if_neg hyd] at e
    obtain ⟨t, ht, hf⟩ := hg (tryE X pins D [.ExceptHandler (some (.Name sx hp)) (some en) (b₀ :: suite) hpos])
    refine wpAny_mono (ht pins s σ H D (I.wish _) (hf H₀ H O σ ds hd out D o e af)) (fun f s1 q => ?_) (fun _ _ z => z)
    have q' := q.unwish
    cases f with
    | next => exact wpAny_execs_nil (wpAny_execs_nil q')
    | brk => exact q'
    | cont => exact q'
    | ret u => exact q'
end
end FL
namespace FL
open PySem PySem.Spec PyProof.Rows L2
section
variable {X : Cx} {k j i : Nat} {F : Nat → Option Ret} {x en : Str} {p pe pos : Pos}
end
theorem isx_nil {K : Frag} {cv : Value} : IsxOk K cv [] := fun t b e => by cases e
theorem isx_cons {K : Frag} {cv : Value} {t : Nat} {b : Bool} {C : Addr} {tb : List (Nat × Bool)} (n : PySem.W.nsIn K mainGlobals (xName t) = some (some (.ref C))) (x : XIn K C) (k : PySem.W.kitOne K (.ref C) cv = some b) (r : IsxOk K cv tb) : IsxOk K cv ((t, b) :: tb) := fun t' b' e C' n' => by
  by_cases h : t' = t
  · subst h
    simp [List.lookup] at e
    subst e
    rw [n] at n'
    cases n'
    exact ⟨x, k⟩
  · have hf : (t' == t) = false := beq_eq_false_iff_ne.mpr h
    simp only [List.lookup, hf] at e
    exact r t' b' e C' n'
end FL
namespace L2
open PySem PySem.Spec PyProof.Rows
section
variable {X : Cx}
end
end L2
namespace FL
open PySem PySem.Spec PyProof.Rows L2
section
variable {X : Cx}
end
end FL
namespace FL
open PySem PySem.Spec PyProof.Rows L2
section
variable {X : Cx}
variable (X) in
def PVe (e : Expr) (f : FE) : Prop := ∃ t, PE X e t ∧ ∀ H₀ H O σ ds hd d Q, Ok X.K H₀ H O σ ds hd → f ds = some d → (∀ v H', Same H H' → Rep X.K H' (Old H₀) v d → Q v H') → t σ H Q
variable (X) in
def PAe (es : List Expr) (f : FA) : Prop := ∃ t, PA X es t ∧ ∀ H₀ H O σ ds hd l Q, Ok X.K H₀ H O σ ds hd → f ds = some l → (∀ vs H', Same H H' → Reps X.K H' (Old H₀) vs l → Q vs H') → t σ H Q
theorem PVd.e {e : Expr} {f : FE} (h : PVd X e f) : PVe X e f := by
  obtain ⟨t, ht, hf⟩ := h
  exact ⟨t, ht, fun H₀ H O σ ds hd d Q o e q => hf H₀ H O σ ds hd d Q o e fun v H' s r => q v H' s (r.less fun a z => Old.mono o.same z)⟩
theorem pae_nil : PAe X [] nilA := ⟨_, pa_nil, fun _ H _ _ _ _ _ _ _ e q => by cases e; exact q _ H (Same.refl _) .nil⟩
theorem pae_cons {e : Expr} {es : List Expr} {f : FE} {g : FA} (ha : PVe X e f) (hr : PAe X es g) (hs : starEach (e :: es) X.env = (false, eval e X.env) :: starEach es X.env := by rfl) : PAe X (e :: es) (consA f g) := by
  obtain ⟨t, ht, hf⟩ := ha
  obtain ⟨u, hu, hg⟩ := hr
  refine ⟨_, pa_cons ht hu hs, fun H₀ H O σ ds hd l Q o e q => ?_⟩
  unfold consA at e
  cases h : f ds with
  | none => rw [h] at e; cases e
  | some x =>
    cases h2 : g ds with
    | none => rw [h, h2] at e; cases e
    | some r =>
      rw [h, h2] at e
      cases e
      refine hf H₀ H O σ ds hd x _ o h fun v H1 s1 r1 => ?_
      refine hg H₀ H1 O σ ds hd r _ (o.mono s1) h2 fun vs H2 s2 r2 => ?_
      exact q _ H2 (s1.trans s2) (.cons (r1.mono s2) r2)
theorem pve_tup {es : List Expr} {x1} {pos : Pos} {g : FA} (h : PAe X es g) : PVe X (.Tuple es x1 pos) (mkT (sized g)) := by
  obtain ⟨t, ht, hf⟩ := h
  refine ⟨_, pe_tup ht, fun H₀ H O σ ds hd d Q o e q => ?_⟩
  unfold mkT sized at e
  cases h : g ds with
  | none => rw [h] at e; cases e
  | some l' =>
    rw [h] at e
    simp only [Option.bind_some] at e
    split at e
    · rename_i hl
      cases e
      refine hf H₀ H O σ ds hd l' _ o h fun vs H1 s1 r1 => ⟨by rw [r1.length]; exact hl, fun p hp => ?_⟩
      refine q _ _ (s1.trans (same_upd hp _)) ?_
      exact .tup (not_old ((o.same.trans s1).free hp)) (.inl upd_same) (r1.mono (same_upd hp _))
    · cases e
theorem psv_retE {e : Expr} {pos : Pos} {f : FE} (he : PVe X e f) : PSv X (.Return (some e) pos) (retDG f) := by
  obtain ⟨t, ht, hg⟩ := he
  refine ⟨_, ps_ret ht, fun H₀ H O σ ds hd out E o e h => ?_⟩
  unfold retDG at e
  cases h1 : f ds with
  | none => rw [h1] at e; cases e
  | some d =>
    rw [h1] at e
    cases e
    exact hg H₀ H O σ ds hd d _ o h1 fun v H' s r => h _ _ (o.same.trans s) r True.intro
end
end FL
namespace L2
open PySem PySem.Spec PyProof.Rows
section
variable {X : Cx}
end
end L2
namespace FL
open PySem PySem.Spec PyProof.Rows L2
section
variable {X : Cx}
end
end FL
namespace L2
open PySem PySem.Spec PyProof.Rows
section
variable {prog : Program} {w : World} {A : Around} {E : Value → Shared → Prop} {s : Shared}
end
section
variable {X : Cx}
end
end L2
namespace FL
open PySem PySem.Spec PyProof.Rows L2
section
variable {X : Cx}
end
end FL
namespace FL
open PySem PySem.Spec PyProof.Rows L2
open PySem.W (tabIn CodeHd tabObj kla_eval kla_makeFunction kla_makeFunctionHit kla_obj kla_fn kla_callFunE kla_codeExpr FnAt callWith_F envX)
section
variable {X : Cx}
end
section
variable {X : Cx} {pins : List (Addr × Obj)} {σ : L2.St} {H H' : Hp} {s s' : Shared} {cs : List Addr}
end
section
variable {K : Frag} {H : Hp} {O : Addr → Prop} {cs : List Addr}
end
section
variable {X : Cx}
end
end FL
namespace FL
open PySem PySem.Spec PyProof.Rows L2
open PySem.W (tabIn CodeHd tabObj kla_callFunE kla_codeExpr FnAt callWith_F envX)
section
variable {X : Cx}
section
variable {k j' n m j : Nat} {F : List D → Option Ret} {x y : Str} {p pos : Pos} {e : Expr} {es : List Expr} {g : FA} {is : List Nat} {t : LamT} {st : Stmt} {f c P : Addr}
end
end
theorem ClosOk.length {H : Hp} {O : Addr → Prop} : ∀ {cl : List (Str × Addr)} {xs : List V}, ClosOk H O cl xs → cl.length = xs.length
  | _, _, .nil => rfl
  | _, _, .cons no h d r t => by simp [t.length]
section
variable {X : Cx} {k j i : Nat} {Φ : Fun2} {x : Str} {p pos : Pos} {e : Expr} {es : List Expr} {g : FA}
end
end FL
namespace FL
open PySem PySem.Spec PyProof.Rows L2
section
variable {X : Cx}
end
end FL
namespace FL
open PySem PySem.Spec PyProof.Rows L2
open PySem.W (tabIn CodeHd tabObj makeFunction_K makeFunction_hit fnMade fnX nestDef_K kla_callFunE envX)
section
variable {X : Cx} {pins : List (Addr × Obj)} {σ : L2.St} {H : Hp} {s : Shared}
end
section
variable {X : Cx}
end
section
variable {X : Cx} {pins : List (Addr × Obj)} {σ : L2.St} {H : Hp} {s : Shared} {cs : List Addr}
end
section
variable {X : Cx}
end
end FL
namespace FL
open PySem PySem.Spec PyProof.Rows L2
section
variable {X : Cx} {tg : Expr}
end
section
variable {X : Cx}
theorem pss_any {st : List Stmt} : PSsAny X st := ⟨fun _ _ _ => False, fun _ _ _ _ _ _ h => h.elim⟩
end
end FL
namespace FL
open PySem PySem.Spec PyProof.Rows L2
open PySem.W (tabIn CodeHd)
section
variable {X : Cx}
end
section
variable {X : Cx} {E : XK} {C : Addr}
theorem psy_set {i : Nat} {x : Str} {e : Expr} {pos pos' : Pos} {y : List Sl → Bool} (hN : X.N.Nodup) (h : PEy X E C e y) (hi : X.N[i]? = some x := by rfl) (hx : Loc X.env.scope x := by first | exact Or.inl rfl | exact Or.inr rfl) (hs : swapsWith e (some (.Name x pos')) pos.line X.env = pure false := by rfl)
    (hf : X.fn x = true ∨ X.env.scope.names.lookup x = some .local := by first | exact .inl rfl | exact .inr rfl) : PSy X E C (.Assign [.Name x pos'] e pos) y := by
  obtain ⟨t, ht, hg⟩ := h
  exact ⟨_, ps_set hN hi hx ht hs hf, fun H₀ H O σ ds hd D o e _ p => hg H₀ H O σ ds hd _ o e p⟩
end
section
variable {X : Cx} {k j : Nat} {n : Nat} {F : List D → Option Ret} {x : Str} {p pos : Pos} {e : Expr} {es : List Expr} {g : FA}
theorem pvd_callC (C : Cal X.prog X.w X.K X.mg X.base x k n F) (hr : Room j X.A) (ha : PAn X (e :: es) g) (hj : k ≤ j := by decide)
    (hg : Gl X x := by rfl) (hdb : (x == ("__debug__" : Str)) = false := by decide) (he : starEach (e :: es) X.env = (false, eval e X.env) :: starEach es X.env := by rfl) (hpl : (backTo pos (starEach es X.env)).any (·.1) = false := by rfl) :
    PVd X (.Call (.Name x p) (e :: es) [] pos) (callV n F g) := by
  obtain ⟨f, fd, ps, Fn, hb, hk, hm⟩ := C.ex
  obtain ⟨t, ht, hf⟩ := ha
  refine ⟨_, pe_call (CX := CX0) (E := E0) Fn (hr.mono hj) hg hm hk hb .nil pass0 ht hdb he hpl, fun H₀ H O σ ds hd d Q o e q => ?_⟩
  unfold callV at e
  cases h : g ds with
  | none => rw [h] at e; cases e
  | some l =>
    rw [h] at e
    simp only [Option.bind_some] at e
    split at e
    · rename_i hln
      cases h2 : F l with
      | none => rw [h2] at e; cases e
      | some r =>
        rw [h2] at e
        simp only [Option.bind_some] at e
        refine hf H₀ H O σ ds hd l _ o h fun vs H1 s1 r1 => ?_
        have hl := r1.length
        refine ⟨by simp only [List.append_nil]; omega, l, r, by simpa using r1, h2, fun v H' s' ro => q v H' (s1.trans s') ?_⟩
        exact retV_ok ro e fun a ha => Old.mono s1 ha
    · cases e
end
end FL
namespace FL
open PySem PySem.Spec PyProof.Rows L2
section
variable {M : Model} {A : Around} {E : Value → Shared → Prop} {s : Shared} {base : Heap} {l : List Env} {e L : Addr} {cls a0 : Value}
end
section
variable {X : Cx} {E : XK} {C : Addr}
end
section
variable {X : Cx} {E : XK} {C : Addr}
end
end FL
namespace L2
open PySem PySem.Spec PyProof.Rows
section
variable {X : Cx}
end
end L2
namespace FL
open PySem PySem.Spec PyProof.Rows L2
section
variable {X : Cx} {E : XK} {C : Addr}
end
section
variable {X : Cx}
end
end FL
namespace L2
open PySem PySem.Spec PyProof.Rows
open Builtin Builtin.Str
section
variable {X : Cx}
def rTxt (F : Str → Str → V) : V → List V → Hp → VK → Prop := fun x vs H Q => ∃ a b, x = .str a ∧ vs = [.str b] ∧ Q (F a b) H
theorem mt_startswith : MtR X "str.startswith" (rTxt fun a b => .bl (Txt.startswith a b)) := by
  intro pins s σ H x vs v us Q I rx rv h
  obtain ⟨a, b, rfl, rfl, q⟩ := h
  obtain ⟨tk, rfl⟩ := (show ∃ tk, v = Value.str a tk from rx)
  obtain ⟨u, rfl, ru⟩ := rv.one
  obtain ⟨tk2, rfl⟩ := (show ∃ tk, u = Value.str b tk from ru)
  exact SC.startswith ⟨.bl _, H, I, rfl, q⟩
theorem mt_endswith : MtR X "str.endswith" (rTxt fun a b => .bl (Txt.endswith a b)) := by
  intro pins s σ H x vs v us Q I rx rv h
  obtain ⟨a, b, rfl, rfl, q⟩ := h
  obtain ⟨tk, rfl⟩ := (show ∃ tk, v = Value.str a tk from rx)
  obtain ⟨u, rfl, ru⟩ := rv.one
  obtain ⟨tk2, rfl⟩ := (show ∃ tk, u = Value.str b tk from ru)
  exact SC.endswith ⟨.bl _, H, I, rfl, q⟩
theorem split1P {prog : Program} {w : World} {A : Around} {E : Value → Shared → Prop} {s : Shared} {x y : Str} {t u : Tok} {Q : Value → Shared → Prop} (hy : (y.length == 0) = false)
    (hq : ∀ l k, l.map (·.1) = Txt.split x y → Q (.ref s.heap.objs.size) { s with heap := s.heap.push { cls := .type "list", data := .seq (strValues l).toArray }, toks := k })
    (hsz : x.length + 2 ≤ sizeLine) : wpAny (model prog w) A (call (.builtin "str.split") [.str x t, .str y u]) Q E s := by
  have hsz2 : (partsBetween x (occurrences x y 0 x.length (x.length + 1)) y.length).length ≤ sizeLine := by
    have e1 := StrLaws.occ_length_le x y 0 x.length (x.length + 1)
    rw [length_partsBetween]; omega
  cases h1 : (decide (x.length < y.length) || decide (strKind x < strKind y))
  · cases hf : (occurrences x y 0 x.length (x.length + 1)).isEmpty
    · refine call_meets F.slot_str_split (typeIs_str _ _ _) F.entry_str_split (F.args_str_split_2 _ _) (meets_str_split_sep x y t u h1 hy hf (by omega) hsz2) ?_
      show wants Q E _ { s with toks := _, heap := s.heap.push { cls := .type "list", data := .seq (strsFrom s.toks (partsBetween x (occurrences x y 0 x.length (x.length + 1)) y.length)).toArray } }
      rw [strsFrom_eq]
      exact hq (numbered s.toks _) _ ((numbered_texts _ _).trans ((if_neg (ne_true_of_eq_false h1)).trans (if_neg (ne_true_of_eq_false hf))).symm)
    · exact call_meets F.slot_str_split (typeIs_str _ _ _) F.entry_str_split (F.args_str_split_2 _ _) (meets_str_split_not_found x y t u h1 hy hf)
        (hq [(x, t)] s.toks ((if_neg (ne_true_of_eq_false h1)).trans (if_pos hf)).symm)
  · exact call_meets F.slot_str_split (typeIs_str _ _ _) F.entry_str_split (F.args_str_split_2 _ _) (meets_str_split_cannot_occur x y t u h1)
      (hq [(x, t)] s.toks (if_pos h1).symm)
theorem vals_strs : ∀ (l : List (Str × Tok)), Vals ((l.map (·.1)).map V.str) (strValues l)
  | [] => .nil
  | (a, t) :: l => .cons ⟨t, rfl⟩ (vals_strs l)
theorem split_len (x y : Str) : (Txt.split x y).length ≤ x.length + 2 := by
  unfold Txt.split
  have e1 := StrLaws.occ_length_le x y 0 x.length (x.length + 1)
  split
  · simp
  · split
    · simp
    · rw [length_partsBetween]; omega
def rSplit : V → List V → Hp → VK → Prop := fun x vs H Q => ∃ a b, x = .str a ∧ vs = [.str b] ∧ (b.length == 0) = false ∧ a.length + 2 ≤ sizeLine ∧ ∀ p, H p = none → Q (.ref p) (upd H p (.lst ((Txt.split a b).map V.str)))
theorem mt_split : MtR X "str.split" rSplit := by
  intro pins s σ H x vs v us Q I rx rv h
  obtain ⟨a, b, rfl, rfl, hb, hz, q⟩ := h
  obtain ⟨tk, rfl⟩ := (show ∃ tk, v = Value.str a tk from rx)
  obtain ⟨u, rfl, ru⟩ := rv.one
  obtain ⟨tk2, rfl⟩ := (show ∃ tk, u = Value.str b tk from ru)
  refine split1P hb (fun l k e => ?_) hz
  have hv := vals_strs l
  rw [e] at hv
  have := split_len a b
  exact ⟨.ref _, _, I.lnew (t' := k) hv (by rw [List.length_map]; omega), rfl, q _ I.fresh⟩
def rPart : V → List V → Hp → VK → Prop := fun x vs H Q => ∃ a b, x = .str a ∧ vs = [.str b] ∧ (b.length == 0) = false ∧ a.length ≤ sizeLine ∧ ∀ p, H p = none → Q (.ref p) (upd H p (.tup [.str (Txt.partition a b).1, .str (Txt.partition a b).2.1, .str (Txt.partition a b).2.2]))
theorem mt_partition : MtR X "str.partition" rPart := by
  intro pins s σ H x vs v us Q I rx rv h
  obtain ⟨a, b, rfl, rfl, hb, hz, q⟩ := h
  obtain ⟨tk, rfl⟩ := (show ∃ tk, v = Value.str a tk from rx)
  obtain ⟨u, rfl, ru⟩ := rv.one
  obtain ⟨tk2, rfl⟩ := (show ∃ tk, u = Value.str b tk from ru)
  have lay : ∀ (p1 p2 p3 : Str) (ta tb tc : Tok) (k : Nat), EP X pins σ (fun v' H' => ∀ q' : VK, (∀ p, H p = none → q' (.ref p) (upd H p (.tup [.str p1, .str p2, .str p3]))) → q' v' H') (.ref s.heap.objs.size) { s with toks := k, heap := s.heap.push { cls := .type "tuple", data := .seq [.str p1 ta, .str p2 tb, .str p3 tc].toArray } } := by
    intro p1 p2 p3 ta tb tc k
    refine ⟨.ref s.heap.objs.size, _, I.laid (o := .tup [.str p1, .str p2, .str p3]) (fun b o e => Heap.get?_push_of_some _ e) (Nat.le_refl _) ⟨by simp only [List.length_cons, List.length_nil]; rw [sizeLine_eq]; decide, [.str p1 ta, .str p2 tb, .str p3 tc], .cons ⟨_, rfl⟩ (.cons ⟨_, rfl⟩ (.cons ⟨_, rfl⟩ .nil)), ?_⟩, rfl, fun q' hq => hq _ (I.hok.fresh (Nat.le_refl _))⟩
    exact ⟨_, Heap.get?_push_size s.heap rfl, rfl, 0, rfl⟩
  refine call_meets F.slot_str_partition (typeIs_str _ _ _) F.entry_str_partition (F.args_str_partition_2 _ _) (meets_str_partition a b tk tk2 hb hz) ?_
  unfold Txt.partition at q
  show wants _ _ _ (match occurrences a b 0 a.length 1 with | i :: _ => _ | [] => _)
  cases ho : occurrences a b 0 a.length 1 with
  | nil =>
    rw [ho] at q
    obtain ⟨v', H', I', r', z⟩ := lay a Str.empty Str.empty tk s.toks s.toks (s.toks + 1)
    exact ⟨v', H', I', r', z Q q⟩
  | cons i rest =>
    rw [ho] at q
    obtain ⟨v', H', I', r', z⟩ := lay (strSub a 0 i) b (strSub a (i + b.length) a.length) s.toks tk2 (s.toks + 1) (s.toks + 1 + 1)
    exact ⟨v', H', I', r', z Q q⟩
theorem call_intT : CallR X (.type "int") (fun xs H Q => (∃ x n, xs = [.str x] ∧ x.length ≤ 640 ∧ PySem.intText? x = some n ∧ Q (.int n) H) ∨ (∃ i, xs = [.int i] ∧ Q (.int i) H) ∨ ∃ k, xs = [.bl k] ∧ Q (.int (if k then 1 else 0)) H) := by
  intro pins s σ H xs us Q I r h
  rcases h with ⟨x, n, rfl, hl, hn, q⟩ | h
  · obtain ⟨u, rfl, t, rfl⟩ := vals1 r
    exact PySem.W.KIN.call_text hn hl ⟨.int n, H, I.tok _, ⟨_, rfl⟩, q⟩
  · exact call_int1 pins s σ H xs us Q I r h
theorem op_mulS : OpR X (binaryOp .Mult) (fun x y H Q => ∃ a n, x = .str a ∧ y = .int n ∧ MulOk a n ∧ Q (.str (Txt.mul a n)) H) := by
  intro pins s σ H x y v u Q I rx ry h
  obtain ⟨a, n, rfl, rfl, hk, q⟩ := h
  obtain ⟨tk, rfl⟩ := (show ∃ tk, v = Value.str a tk from rx)
  obtain ⟨tk2, rfl⟩ := (show ∃ tk, u = Value.int n tk from ry)
  exact SB.mul hk fun t' k => ⟨.str _, H, I.tok _, ⟨_, rfl⟩, q⟩
def rSlS : V → Option Int → Option Int → Hp → VK → Prop := fun x lo hi H Q => ∃ a, x = .str a ∧ a.length ≤ sizeLine ∧ Q (.str (Txt.slice a lo hi)) H
theorem sl_str : SlR X rSlS := by
  intro pins s σ H x v vl vu lo hi sl Q I rx hs pl pu h
  obtain ⟨a, rfl, hz, q⟩ := h
  obtain ⟨tk, rfl⟩ := (show ∃ tk, v = Value.str a tk from rx)
  obtain ⟨o, ho, hc, hd⟩ := hs
  have fin : ∀ (l u : Option (Int × Tok)), partValue l = vl → partValue u = vu → l.map (·.1) = lo → u.map (·.1) = hi → wpAny (model X.prog X.w) X.A (getItem (.str a tk) (.ref sl)) (EP X pins σ Q) X.xe s := by
    intro l u e1 e2 e3 e4
    refine wpAny_getItem_str_slice (l := l) (u := u) (st := none) ⟨o, ho, hc, by rw [hd, e1, e2]; rfl⟩ rfl ?_
    subst e3 e4
    exact post_val_or_str ⟨Nat.le_trans (Txt.slice_le a _ _) hz, fun t' k => ⟨.str _, H, I.tok _, ⟨_, rfl⟩, q⟩⟩
  refine ⟨"str", _, F.slot_str_getitem.lookup, typeIs_str _ _ _, ?_⟩
  cases pl with
  | none =>
    cases pu with
    | none => exact fin none none rfl rfl rfl rfl
    | int j t2 => exact fin none (some (j, t2)) rfl rfl rfl rfl
  | int i t1 =>
    cases pu with
    | none => exact fin (some (i, t1)) none rfl rfl rfl rfl
    | int j t2 => exact fin (some (i, t1)) (some (j, t2)) rfl rfl rfl rfl
end
end L2
namespace FL
open PySem PySem.Spec PyProof.Rows L2
section
variable {X : Cx}
section
variable {o e : Expr} {apos cpos : Pos} {f g : FE} {name : Str} {id : String}
theorem pv_txt {F : Str → Str → V} {G : D → D → Option D} (slot : Slot "str" name id) (hty : typeOf (.builtin id) = pure (.type "method_descriptor")) (hm : MtR X id (rTxt F)) (hG : ∀ dx dy d, G dx dy = some d → ∃ a b, dx = .str a ∧ dy = .str b ∧ ∀ H O, Rep X.K H O (F a b) d)
    (ho : PVw X o f) (he : PVw X e g)
    (hbase : attributeBase o name X.env (eval o X.env) = eval o X.env := by rfl)
    (hfew : ((backTo cpos (starEach [e] X.env)).all (fun x => !x.1) && (backToKw cpos (keywordEach [] X.env)).all (fun x => x.1.isSome)
      && decide ([e].length + ([] : List Keyword).length + (if ([] : List Keyword).isEmpty then 0 else 1) < 30)) = true := by rfl)
    (hline : (apos.endLine == cpos.line) = true := by rfl) (hs : starEach [e] X.env = (false, eval e X.env) :: starEach [] X.env := by rfl) :
    PV X (.Call (.Attribute o name apos) [e] [] cpos) (bin2 G f g) := by
  obtain ⟨to, po, ho⟩ := ho
  obtain ⟨te, pe, he⟩ := he
  refine ⟨_, pe_bm PySem.F.plainAttrs_str slot hty hm po (pa_cons pe pa_nil hs) hbase hfew hline hs rfl, fun H₀ H O σ ds hd d Q o e q => ?_⟩
  unfold bin2 at e
  cases h1 : f ds with
  | none => rw [h1] at e; cases e
  | some dx =>
    cases h2 : g ds with
    | none => rw [h1, h2] at e; cases e
    | some dy =>
      rw [h1, h2] at e
      simp only [Option.bind_some] at e
      obtain ⟨a, b, rfl, rfl, rr⟩ := hG dx dy d e
      refine ho H₀ H O σ ds hd _ _ o h1 fun x H1 s1 r1 => ?_
      rw [r1.str']
      refine ⟨rfl, ?_⟩
      refine he H₀ H1 O σ ds hd _ _ (o.mono s1) h2 fun y H2 s2 r2 => ?_
      rw [r2.str']
      exact ⟨a, b, rfl, rfl, q _ H2 (s1.trans s2) (rr H2 O)⟩
theorem pv_stw (ho : PVw X o f) (he : PVw X e g)
    (hbase : attributeBase o "startswith" X.env (eval o X.env) = eval o X.env := by rfl)
    (hfew : ((backTo cpos (starEach [e] X.env)).all (fun x => !x.1) && (backToKw cpos (keywordEach [] X.env)).all (fun x => x.1.isSome)
      && decide ([e].length + ([] : List Keyword).length + (if ([] : List Keyword).isEmpty then 0 else 1) < 30)) = true := by rfl)
    (hline : (apos.endLine == cpos.line) = true := by rfl) (hs : starEach [e] X.env = (false, eval e X.env) :: starEach [] X.env := by rfl) :
    PV X (.Call (.Attribute o "startswith" apos) [e] [] cpos) (bin2 stwD f g) :=
  pv_txt PySem.F.slot_str_startswith PySem.F.type_str_startswith mt_startswith (fun dx dy d e => by cases dx <;> cases dy <;> simp [stwD] at e; subst e; exact ⟨_, _, rfl, rfl, fun H O => .bl _⟩) ho he hbase hfew hline hs
theorem pv_enw (ho : PVw X o f) (he : PVw X e g)
    (hbase : attributeBase o "endswith" X.env (eval o X.env) = eval o X.env := by rfl)
    (hfew : ((backTo cpos (starEach [e] X.env)).all (fun x => !x.1) && (backToKw cpos (keywordEach [] X.env)).all (fun x => x.1.isSome)
      && decide ([e].length + ([] : List Keyword).length + (if ([] : List Keyword).isEmpty then 0 else 1) < 30)) = true := by rfl)
    (hline : (apos.endLine == cpos.line) = true := by rfl) (hs : starEach [e] X.env = (false, eval e X.env) :: starEach [] X.env := by rfl) :
    PV X (.Call (.Attribute o "endswith" apos) [e] [] cpos) (bin2 enwD f g) :=
  pv_txt PySem.F.slot_str_endswith PySem.F.type_str_endswith mt_endswith (fun dx dy d e => by cases dx <;> cases dy <;> simp [enwD] at e; subst e; exact ⟨_, _, rfl, rfl, fun H O => .bl _⟩) ho he hbase hfew hline hs
theorem reps_strs {K : Frag} {H : Hp} {O : Addr → Prop} : ∀ (l : List Str), Reps K H O (l.map V.str) (l.map D.str)
  | [] => .nil
  | a :: l => .cons (.str a) (reps_strs l)
theorem pvf_split (ho : PVw X o f) (he : PVw X e g)
    (hbase : attributeBase o "split" X.env (eval o X.env) = eval o X.env := by rfl)
    (hfew : ((backTo cpos (starEach [e] X.env)).all (fun x => !x.1) && (backToKw cpos (keywordEach [] X.env)).all (fun x => x.1.isSome)
      && decide ([e].length + ([] : List Keyword).length + (if ([] : List Keyword).isEmpty then 0 else 1) < 30)) = true := by rfl)
    (hline : (apos.endLine == cpos.line) = true := by rfl) (hs : starEach [e] X.env = (false, eval e X.env) :: starEach [] X.env := by rfl) :
    PVf X (.Call (.Attribute o "split" apos) [e] [] cpos) (splA f g) := by
  obtain ⟨to, po, ho⟩ := ho
  obtain ⟨te, pe, he⟩ := he
  refine ⟨_, pe_bm PySem.F.plainAttrs_str PySem.F.slot_str_split PySem.F.type_str_split mt_split po (pa_cons pe pa_nil hs) hbase hfew hline hs rfl, fun H₀ H O σ ds hd l Q o e q => ?_⟩
  unfold splA at e
  cases h1 : f ds with
  | none => rw [h1] at e; cases e
  | some dx =>
    cases h2 : g ds with
    | none => rw [h1, h2] at e; cases e
    | some dy =>
      rw [h1, h2] at e
      simp only [Option.bind_some] at e
      cases dx <;> cases dy <;> first | (cases e; done) | skip
      rename_i a b
      simp only at e
      split at e
      · rename_i hc
        cases e
        refine ho H₀ H O σ ds hd _ _ o h1 fun x H1 s1 r1 => ?_
        rw [r1.str']
        refine ⟨rfl, ?_⟩
        refine he H₀ H1 O σ ds hd _ _ (o.mono s1) h2 fun y H2 s2 r2 => ?_
        rw [r2.str']
        refine ⟨a, b, rfl, rfl, hc.1, hc.2, fun p hp => ?_⟩
        exact q p _ _ ((s1.trans s2).trans (same_upd hp _)) ((s1.trans s2).free hp) upd_same (reps_strs _)
      · cases e
theorem pv_part (ho : PVw X o f) (he : PVw X e g)
    (hbase : attributeBase o "partition" X.env (eval o X.env) = eval o X.env := by rfl)
    (hfew : ((backTo cpos (starEach [e] X.env)).all (fun x => !x.1) && (backToKw cpos (keywordEach [] X.env)).all (fun x => x.1.isSome)
      && decide ([e].length + ([] : List Keyword).length + (if ([] : List Keyword).isEmpty then 0 else 1) < 30)) = true := by rfl)
    (hline : (apos.endLine == cpos.line) = true := by rfl) (hs : starEach [e] X.env = (false, eval e X.env) :: starEach [] X.env := by rfl) :
    PV X (.Call (.Attribute o "partition" apos) [e] [] cpos) (bin2 prtD f g) := by
  obtain ⟨to, po, ho⟩ := ho
  obtain ⟨te, pe, he⟩ := he
  refine ⟨_, pe_bm PySem.F.plainAttrs_str PySem.F.slot_str_partition PySem.F.type_str_partition mt_partition po (pa_cons pe pa_nil hs) hbase hfew hline hs rfl, fun H₀ H O σ ds hd d Q o e q => ?_⟩
  unfold bin2 at e
  cases h1 : f ds with
  | none => rw [h1] at e; cases e
  | some dx =>
    cases h2 : g ds with
    | none => rw [h1, h2] at e; cases e
    | some dy =>
      rw [h1, h2] at e
      simp only [Option.bind_some] at e
      cases dx <;> cases dy <;> first | (simp [prtD] at e; done) | skip
      rename_i a b
      simp only [prtD] at e
      split at e
      · rename_i hc
        cases e
        refine ho H₀ H O σ ds hd _ _ o h1 fun x H1 s1 r1 => ?_
        rw [r1.str']
        refine ⟨rfl, ?_⟩
        refine he H₀ H1 O σ ds hd _ _ (o.mono s1) h2 fun y H2 s2 r2 => ?_
        rw [r2.str']
        refine ⟨a, b, rfl, rfl, hc.1, hc.2, fun p hp => ?_⟩
        have ss := s1.trans s2
        exact q _ _ (ss.trans (same_upd hp _)) (.tup ((o.mono ss).free hp) (.inl upd_same) (.cons (.str _) (.cons (.str _) (.cons (.str _) .nil))))
      · cases e
end
theorem pv_strC {p pos : Pos} {e : Expr} {g : FA} (hm : X.mg "str" = none) (ha : PAv X [e] g) (hg : Gl X "str" := by rfl) (he : starEach [e] X.env = [(false, eval e X.env)] := by rfl) : PV X (.Call (.Name "str" p) [e] [] pos) (callB strD g) := by
  obtain ⟨t, ht, hf⟩ := ha
  refine ⟨_, pe_callTy call_str_int hg hm (by decide +kernel) ht (by decide) (by decide) he rfl, fun H₀ H O σ ds hd d Q o e q => ?_⟩
  unfold callB at e
  cases h : g ds with
  | none => rw [h] at e; cases e
  | some l =>
    rw [h] at e
    simp only [Option.bind_some] at e
    refine hf H₀ H O σ ds hd l _ o h fun vs H1 s1 r1 => ?_
    match l, r1, e with
    | [.int i], .cons r .nil, e =>
      simp only [strD] at e
      split at e
      · rename_i hc
        cases e
        exact ⟨i, by rw [r.int'], hc, q _ H1 s1 (.str _)⟩
      · cases e
theorem pv_intT {p pos : Pos} {e : Expr} {g : FA} (hm : X.mg "int" = none) (ha : PAv X [e] g) (hg : Gl X "int" := by rfl) (he : starEach [e] X.env = [(false, eval e X.env)] := by rfl) : PV X (.Call (.Name "int" p) [e] [] pos) (callB intTD g) := by
  obtain ⟨t, ht, hf⟩ := ha
  refine ⟨_, pe_callTy call_intT hg hm (by decide +kernel) ht (by decide) (by decide) he rfl, fun H₀ H O σ ds hd d Q o e q => ?_⟩
  unfold callB at e
  cases h : g ds with
  | none => rw [h] at e; cases e
  | some l =>
    rw [h] at e
    simp only [Option.bind_some] at e
    refine hf H₀ H O σ ds hd l _ o h fun vs H1 s1 r1 => ?_
    match l, r1, e with
    | [.str x], .cons r .nil, e =>
      simp only [intTD] at e
      split at e
      · rename_i hc
        cases hn : intText? x with
        | none => rw [hn] at e; cases e
        | some n =>
          rw [hn] at e
          cases e
          exact .inl ⟨x, n, by rw [r.str'], hc, hn, q _ H1 s1 (.int _)⟩
      · cases e
    | [.int i], .cons r .nil, e =>
      cases e
      exact .inr (.inl ⟨i, by rw [r.int'], q _ H1 s1 (.int _)⟩)
    | [.bl b], .cons r .nil, e =>
      cases e
      exact .inr (.inr ⟨b, by rw [r.bl'], q _ H1 s1 (.int _)⟩)
theorem os_mulS : OpS X (fun x y H Q => ∃ a n, x = .str a ∧ y = .int n ∧ MulOk a n ∧ Q (.str (Txt.mul a n)) H) mulSD := by
  intro H O x y dx dy d Q ho rx ry e q
  cases dx <;> cases dy <;> first | (simp [mulSD] at e; done) | skip
  simp only [mulSD] at e
  split at e
  · rename_i hc
    cases e
    rw [rx.str', ry.int']
    exact ⟨_, _, rfl, rfl, hc, q _ H (Same.refl _) (.str _)⟩
  · cases e
theorem pv_mulS {a b : Expr} {fa fb : FE} {pos : Pos} (ha : PVw X a fa) (hb : PVw X b fb) : PV X (.BinOp a .Mult b pos) (bin2 mulSD fa fb) := pv_bin op_mulS os_mulS ha hb
theorem pv_sls {e : Expr} {lo hi : Option Expr} {f : FE} {gl gh : List Sl → Option (Option Int)} {p2 pos : Pos} (he : PVw X e f) (hl : POv X lo gl) (hh : POv X hi gh) : PV X (.Subscript e (.Slice lo hi none p2) pos) (slsS f gl gh) := by
  obtain ⟨te, pe, he⟩ := he
  obtain ⟨tl, pl, hl⟩ := hl
  obtain ⟨th, ph, hh⟩ := hh
  refine ⟨_, pe_slice sl_str pe pl ph, fun H₀ H O σ ds hd d' Q o e q => ?_⟩
  unfold slsS at e
  cases h1 : f ds with
  | none => rw [h1] at e; cases e
  | some d =>
    cases h2 : gl ds with
    | none => rw [h1, h2] at e; cases e
    | some a =>
      cases h3 : gh ds with
      | none => rw [h1, h2, h3] at e; cases e
      | some b =>
        rw [h1, h2, h3] at e
        simp only [Option.bind_some] at e
        cases d <;> first | (cases e; done) | skip
        simp only at e
        split at e
        · rename_i hc
          cases e
          refine he H₀ H O σ ds hd _ _ o h1 fun v H1 s1 r1 => ?_
          refine hl H₀ H1 O σ ds hd _ _ (o.mono s1) h2 fun H2 s2 => ?_
          refine hh H₀ H2 O σ ds hd _ _ ((o.mono s1).mono s2) h3 fun H3 s3 => ?_
          rw [r1.str']
          exact ⟨_, rfl, hc, q _ H3 ((s1.trans s2).trans s3) (.str _)⟩
        · cases e
def Throwss (X : Cx) (C : Addr) (sts : List Stmt) (x : List Sl → Bool) : Prop := ∀ (pins : List (Addr × Obj)) (s : Shared) (σ : L2.St) (H H₀ : Hp) (O : Addr → Prop) (ds : List Sl) (hd : Hold), Inv X pins σ H s → Ok X.K H₀ H O σ ds hd → x ds = true →
  (∀ ea a0 B H1 H' s1 s', Inv X pins σ H1 s1 → Same H H1 → Same H1 H' → Thrown X.prog X.w X.stack H1 s1 (.ref C) ea a0 B H' s'.heap → s'.os = s1.os → AllBare s'.gens → X.xe (.ref ea) s') → wpAny (model X.prog X.w) X.A (execs sts X.env) (fun _ _ => False) X.xe s
theorem throwss_one {C : Addr} {st : Stmt} {x : List Sl → Bool} (h : Throws X C st x) : Throwss X C [st] x := by
  intro pins s σ H H₀ O ds hd I o ex W
  exact wpAny_execs_cons (wpAny_mono (h pins s σ H H₀ O ds hd I o ex W) (fun _ _ z => False.elim z) fun _ _ z => z)
theorem throwss_never {C : Addr} {sts : List Stmt} : Throwss X C sts neverX := fun _ _ _ _ _ _ _ _ _ _ ex _ => by cases ex
theorem thr_if {C : Addr} {c : Expr} {a b : List Stmt} {pos : Pos} {fc : FT} {xa xb : List Sl → Bool} (hc : PTv X c fc) (ha : Throwss X C a xa) (hb : Throwss X C b xb) : Throws X C (.If c a b pos) (ifX fc xa xb) := by
  obtain ⟨tc, pc, hf⟩ := hc
  intro pins s σ H H₀ O ds hd I o ex W
  unfold ifX at ex
  cases h : fc ds with
  | none => rw [h] at ex; cases ex
  | some k =>
    rw [h] at ex
    refine wpAny_If (thn (pc pins s σ H (fun d H1 => d = k ∧ Same H H1) I (hf H₀ H O σ ds hd k _ o h fun H' sm => ⟨rfl, sm⟩)) fun d s1 ⟨H1, I1, e1, sm⟩ => ?_)
    subst e1
    cases d with
    | true => exact ha pins s1 σ H1 H₀ O ds hd I1 (o.mono sm) ex fun ea a0 B H2 H' s2 s' i2 s2' => W ea a0 B H2 H' s2 s' i2 (sm.trans s2')
    | false => exact hb pins s1 σ H1 H₀ O ds hd I1 (o.mono sm) ex fun ea a0 B H2 H' s2 s' i2 s2' => W ea a0 B H2 H' s2 s' i2 (sm.trans s2')
end
end FL
namespace FL
open PySem PySem.Spec PyProof.Rows L2
section
variable {X : Cx} {E : XK} {C : Addr}
theorem pe_or {e : Expr} {t u : TE} (h1 : PE X e t) (h2 : PE X e u) : PE X e (fun σ H Q => t σ H Q ∨ u σ H Q) := fun pins s σ H Q I h => h.elim (h1 pins s σ H Q I) (h2 pins s σ H Q I)
theorem pey_tup2 {a b : Expr} {x1} {pos : Pos} {fa : FE} {xa xb : List Sl → Bool} (ha : PEy X E C a xa) (hn : PV X a fa) (hb : PEy X E C b xb)
    (h1 : starEach [a, b] X.env = (false, eval a X.env) :: starEach [b] X.env := by rfl) (h2 : starEach [b] X.env = (false, eval b X.env) :: starEach [] X.env := by rfl) : PEy X E C (.Tuple [a, b] x1 pos) (orX xa (thenX fa xb)) := by
  obtain ⟨ta, pa, ha⟩ := ha
  obtain ⟨tn, pn, hn⟩ := hn
  obtain ⟨tb, pb, hb⟩ := hb
  refine ⟨_, pe_tup (pa_cons (pe_or pa pn) (pa_cons pb pa_nil h2) h1), fun H₀ H O σ ds hd Q o e q => ?_⟩
  unfold orX at e
  rcases Bool.or_eq_true_iff.mp e with e | e
  · exact .inl (ha H₀ H O σ ds hd _ o e q)
  · unfold thenX at e
    cases h : fa ds with
    | none => rw [h] at e; cases e
    | some d =>
      rw [h] at e
      exact .inr (hn H₀ H O σ ds hd d _ o h fun v H' s r => hb H₀ H' O σ ds hd _ (o.mono s) e q)
section
variable {x : Str} {p pos : Pos} {e : Expr} {t k j : Nat} {G : List D → Option (List D)} {y : List Sl → Bool}
theorem pey_mkarg (M : MkC X.prog X.w X.K X.mg X.base t k 1 G) (hr : Room j X.A) (hy : PEy X E C e y) (hj : k + 1 ≤ j := by decide) (hx : clsName t = x := by rfl)
    (hg : Gl X x := by rfl) (hdb : (x == ("__debug__" : Str)) = false := by decide) (he : starEach [e] X.env = (false, eval e X.env) :: starEach [] X.env := by rfl) (hpl : (backTo pos (starEach [] X.env)).any (·.1) = false := by rfl) :
    PEy X E C (.Call (.Name x p) [e] [] pos) y := by
  obtain ⟨D, f, fd, ps, hc, hm, mk, cl, Fn, hb, hna⟩ := M.ex
  obtain ⟨te, pe, hf⟩ := hy
  subst hx
  exact ⟨_, pe_make (CX := CX0) (E := E0) mk Fn (hr.mono hj) hg hm hb .nil pass0 (pa_cons pe pa_nil he) hdb he hpl, fun H₀ H O σ ds hd Q o e q => hf H₀ H O σ ds hd _ o e q⟩
end
theorem os_notS : OpS X (fun x y H Q => ∃ i j, x = .str i ∧ y = .str j ∧ Q (.bl (!(!(Builtin.Str.occurrences j i 0 j.length 1).isEmpty))) H) notS := by
  intro H O x y dx dy d Q ho rx ry e q
  cases dx <;> cases dy <;> first | (simp [notS] at e; done) | skip
  cases e
  rw [rx.str', ry.str']
  exact ⟨_, _, rfl, rfl, q _ H (Same.refl _) (.bl _)⟩
end
end FL
namespace L2
open PySem PySem.Spec PyProof.Rows
section
variable {prog : Program} {w : World} {A : Around} {E : Value → Shared → Prop} {s : Shared}
end
section
variable {X : Cx} {pos : Pos}
end
end L2
namespace FL
open PySem PySem.Spec PyProof.Rows L2
section
variable {X : Cx}
end
end FL
namespace FL
open PySem PySem.Spec PyProof.Rows L2
def oi : Option Int → D
  | none => .non
  | some i => .int i
@[simp] theorem oi_none : oi none = .non := rfl
@[simp] theorem oi_some (i : Int) : oi (some i) = .int i := rfl
def andK (r : Option D) : D → Option D := fun d => match d with | .bl true => r | .bl false => some (.bl false) | _ => none
def orK (r : Option D) : D → Option D := fun d => match d with | .bl true => some (.bl true) | .bl false => r | _ => none
@[simp] theorem andK_bl (r : Option D) (b : Bool) : andK r (.bl b) = if b = true then r else some (.bl false) := by cases b <;> rfl
@[simp] theorem orK_bl (r : Option D) (b : Bool) : orK r (.bl b) = if b = true then some (.bl true) else r := by cases b <;> rfl
@[simp] theorem ite_andD (b c : Bool) : (if b = true then some (D.bl c) else some (D.bl false)) = some (.bl (b && c)) := by cases b <;> rfl
@[simp] theorem ite_orD (b c : Bool) : (if b = true then some (D.bl true) else some (D.bl c)) = some (.bl (b || c)) := by cases b <;> rfl
@[simp] theorem ite_andB (b c : Bool) : (if b = true then some c else some false) = some (b && c) := by cases b <;> rfl
@[simp] theorem ite_orB (b c : Bool) : (if b = true then some true else some c) = some (b || c) := by cases b <;> rfl
@[simp] theorem ite_andD' (p : Prop) [Decidable p] (c : Bool) : (if p then some (D.bl c) else some (D.bl false)) = some (.bl (decide p && c)) := by by_cases h : p <;> simp [h]
@[simp] theorem ite_orD' (p : Prop) [Decidable p] (c : Bool) : (if p then some (D.bl true) else some (D.bl c)) = some (.bl (decide p || c)) := by by_cases h : p <;> simp [h]
@[simp] theorem ite_andB' (p : Prop) [Decidable p] (c : Bool) : (if p then some c else some false) = some (decide p && c) := by by_cases h : p <;> simp [h]
@[simp] theorem ite_orB' (p : Prop) [Decidable p] (c : Bool) : (if p then some true else some c) = some (decide p || c) := by by_cases h : p <;> simp [h]
@[simp] theorem szl : sizeLine = 16777216 := sizeLine_eq
section
variable (ds : List Sl)
@[simp] theorem getV_eq (i : Nat) : getV i ds = match ds[i]? with | some (.v d) => some d | _ => none := rfl
@[simp] theorem getW_eq (i : Nat) : getW i ds = match ds[i]? with | some (.v d) => some d | some (.own l) => some (.lst l) | _ => none := rfl
@[simp] theorem konst_eq (d : D) : konst d ds = some d := rfl
@[simp] theorem bin2_eq (op : D → D → Option D) (fa fb : FE) : bin2 op fa fb ds = (fa ds).bind fun x => (fb ds).bind fun y => op x y := rfl
@[simp] theorem un1_eq (op : D → Option D) (f : FE) : un1 op f ds = (f ds).bind op := rfl
@[simp] theorem callB_eq (F : List D → Option D) (g : FA) : callB F g ds = (g ds).bind F := rfl
@[simp] theorem callV_eq (n : Nat) (F : List D → Option Ret) (g : FA) : callV n F g ds = (g ds).bind fun l => if l.length = n then (F l).bind retV else none := rfl
@[simp] theorem callF_eq (n : Nat) (F : List D → Option Ret) (g : FA) : callF n F g ds = (g ds).bind fun l => if l.length = n then (F l).bind retF else none := rfl
@[simp] theorem retV_val (d : D) : retV (.val d) = some d := rfl
@[simp] theorem retV_fresh (l : List D) : retV (.fresh l) = some (.lst l) := rfl
@[simp] theorem retF_val (d : D) : retF (.val d) = none := rfl
@[simp] theorem retF_fresh (l : List D) : retF (.fresh l) = some l := rfl
@[simp] theorem consA_eq (f : FE) (g : FA) : consA f g ds = (f ds).bind fun x => (g ds).map fun r => x :: r := rfl
@[simp] theorem nilA_eq : nilA ds = some [] := rfl
@[simp] theorem sized_eq (f : FA) : sized f ds = (f ds).bind fun l => if l.length ≤ sizeLine then some l else none := rfl
@[simp] theorem mkL_eq (f : FA) : mkL f ds = (f ds).map D.lst := rfl
@[simp] theorem mkT_eq (f : FA) : mkT f ds = (f ds).map D.tup := rfl
@[simp] theorem testB_eq (f : FE) : testB f ds = (f ds).bind isB := rfl
@[simp] theorem testT_eq (f : FE) : testT f ds = (f ds).bind truD := rfl
@[simp] theorem isB_bl (b : Bool) : isB (.bl b) = some b := rfl
@[simp] theorem andT_eq (c d : FT) : andT c d ds = (c ds).bind fun b => if b = true then d ds else some false := rfl
@[simp] theorem orT_eq (c d : FT) : orT c d ds = (c ds).bind fun b => if b = true then some true else d ds := rfl
@[simp] theorem notT_eq (c : FT) : notT c ds = (c ds).map not := rfl
@[simp] theorem andV_eq (f g : FE) : andV f g ds = (f ds).bind (andK (g ds)) := rfl
@[simp] theorem orV_eq (f g : FE) : orV f g ds = (f ds).bind (orK (g ds)) := rfl
@[simp] theorem notV_eq (f : FE) : notV f ds = (f ds).bind fun d => match d with | .bl b => some (.bl (!b)) | _ => none := rfl
@[simp] theorem ifV_eq (c : FT) (f g : FE) : ifV c f g ds = (c ds).bind fun b => if b = true then f ds else g ds := rfl
@[simp] theorem seqG_eq (f g : FS) : seqG f g ds = (f ds).bind fun o => match o with | .nx ds' => g ds' | o => some o := rfl
@[simp] theorem ifG_eq (c : FT) (f g : FS) : ifG c f g ds = (c ds).bind fun b => if b = true then f ds else g ds := rfl
@[simp] theorem setG_eq (i : Nat) (f : FE) : setG i f ds = (f ds).map fun d => .nx (ds.set i (.v d)) := rfl
@[simp] theorem setOG_eq (i : Nat) (f : FA) : setOG i f ds = (f ds).map fun l => .nx (ds.set i (.own l)) := rfl
@[simp] theorem retG_eq (f : FE) : retG f ds = (f ds).bind flatR := rfl
@[simp] theorem retOG_eq (f : FA) : retOG f ds = (f ds).bind flatF := rfl
@[simp] theorem retXG_eq (i : Nat) : retXG i ds = match ds[i]? with | some (.own l) => flatF l | _ => none := rfl
@[simp] theorem nextG_eq : nextG ds = some (.nx ds) := rfl
@[simp] theorem appG_eq (i : Nat) (fe : FE) : appG i fe ds = match ds[i]? with
  | some (.own l) => (fe ds).bind fun d => if l.length < sizeLine then some (.nx (ds.set i (.own (l ++ [d])))) else none
  | _ => none := rfl
@[simp] theorem extG_eq (i : Nat) (fe : FA) : extG i fe ds = match ds[i]? with
  | some (.own l) => (fe ds).bind fun d => if l.length + d.length ≤ sizeLine then some (.nx (ds.set i (.own (l ++ d)))) else none
  | _ => none := rfl
@[simp] theorem putG_eq (i : Nat) (fk fe : FE) : putG i fk fe ds = match ds[i]? with
  | some (.own l) => (fe ds).bind fun d => (fk ds).bind fun k => match k with
    | .int n => (ixN l.length n).map fun j => .nx (ds.set i (.own (l.set j d)))
    | _ => none
  | _ => none := rfl
@[simp] theorem clrG_eq (i : Nat) : clrG i ds = match ds[i]? with
  | some (.own l) => some (.nx (ds.set i (.own [])))
  | _ => none := rfl
@[simp] theorem asgG_eq (ga : D → List Sl → Option (List Sl)) (f : FE) : asgG ga f ds = (f ds).bind fun d => (ga d ds).map .nx := rfl
@[simp] theorem relS_eq (i : Nat) : relS i ds = match ds[i]? with | some (.own l) => ds.set i (.v (.lst l)) | _ => ds := rfl
@[simp] theorem viaA_eq (f : FE) (k : D → Option (List D)) : viaA f k ds = (f ds).bind k := rfl
@[simp] theorem asLT_lst (l : List D) : asLT (.lst l) = some l := rfl
@[simp] theorem asLT_tup (l : List D) : asLT (.tup l) = some l := rfl
@[simp] theorem catA_eq (fa fb : FE) : catA fa fb ds = (fa ds).bind fun x => (fb ds).bind fun y => match x, y with
  | .lst a, .lst b => if a.length + b.length ≤ sizeLine then some (a ++ b) else none
  | _, _ => none := rfl
@[simp] theorem sliA_eq (f : FE) (lo hi : List Sl → Option (Option Int)) : sliA f lo hi ds = (f ds).bind fun d => (lo ds).bind fun a => (hi ds).bind fun b => match d with
  | .lst l => some (cutD l a b)
  | _ => none := rfl
@[simp] theorem lisA_eq (f : FE) : lisA f ds = (f ds).bind asLT := rfl
@[simp] theorem noP_eq : noP ds = some none := rfl
@[simp] theorem soP_eq (f : FE) : soP f ds = (f ds).bind fun d => match d with | .int i => some (some i) | _ => none := rfl
@[simp] theorem forG_eq (fi : FA) (ga : D → List Sl → Option (List Sl)) (body : FS) : forG fi ga body ds = (fi ds).bind fun items => loopG ga body items ds := rfl
@[simp] theorem nameG_eq (i : Nat) (d : D) : nameG i d ds = some (ds.set i (.v d)) := rfl
@[simp] theorem tupG_eq (n : Nat) (h : List D → List Sl → Option (List Sl)) (l : List D) : tupG n h (.tup l) ds = if l.length = n then h l ds else none := rfl
@[simp] theorem tgCons_eq (g : D → List Sl → Option (List Sl)) (h : List D → List Sl → Option (List Sl)) (d : D) (r : List D) : tgCons g h (d :: r) ds = (g d ds).bind fun ds' => h r ds' := rfl
@[simp] theorem tgNil_eq : tgNil [] ds = some ds := rfl
@[simp] theorem isiG_eq (T : String) (f : FE) : isiG T f ds = (f ds).bind (isiD T) := rfl
@[simp] theorem chain_eq (op op' : D → D → Option D) (fa fb fc : FE) : chain op op' fa fb fc ds = (fa ds).bind fun x => (fb ds).bind fun y => (op x y).bind fun z => match z with
  | .bl true => (fc ds).bind fun w => op' y w
  | .bl false => some (.bl false)
  | _ => none := rfl
end
@[simp] theorem addD_int (i j : Int) : addD (.int i) (.int j) = some (.int (i + j)) := rfl
@[simp] theorem subD_int (i j : Int) : subD (.int i) (.int j) = some (.int (i - j)) := rfl
@[simp] theorem negD_int (i : Int) : negD (.int i) = some (.int (-i)) := rfl
@[simp] theorem ltD_int (i j : Int) : ltD (.int i) (.int j) = some (.bl (decide (i < j))) := rfl
@[simp] theorem leD_int (i j : Int) : leD (.int i) (.int j) = some (.bl (decide (i ≤ j))) := rfl
@[simp] theorem gtD_int (i j : Int) : gtD (.int i) (.int j) = some (.bl (decide (j < i))) := rfl
@[simp] theorem geD_int (i j : Int) : geD (.int i) (.int j) = some (.bl (decide (j ≤ i))) := rfl
@[simp] theorem modD_pos {j : Int} (i : Int) (h : 0 < j) : modD (.int i) (.int j) = some (.int (i % j)) := if_pos h
theorem divOk_small {j : Int} (h : 0 < j) (h2 : j < 1000000000) : divOk j := ⟨h, by
  have h3 : j.natAbs < 2 ^ 30 := by
    have : (2 : Nat) ^ 30 = 1073741824 := by decide
    omega
  have h4 : j.natAbs ≠ 0 := by omega
  have := (Nat.log2_lt h4).mpr h3
  omega⟩
@[simp] theorem fdivD_small {j : Int} (i : Int) (h : 0 < j) (h2 : j < 1000000000) : fdivD (.int i) (.int j) = some (.int (i / j)) := if_pos (divOk_small h h2)
theorem mulD_ok {i j : Int} (h : IntMulOk i j) : mulD (.int i) (.int j) = some (.int (i * j)) := if_pos h
theorem powD_ok {i j : Int} (h : CPowB i j) : powD (.int i) (.int j) = some (.int (i ^ j.toNat)) := if_pos h
theorem cpow_of {i j : Int} {n m : Nat} (h : i.natAbs < 2 ^ n) (h0 : 0 ≤ j) (h1 : j ≤ m) (h2 : n * m ≤ 134217728) : CPowB i j := by
  refine ⟨h0, ?_⟩
  have hb : Builtin.Int.intBits i ≤ n := intBits_le_iff.mpr h
  have h3 : (Builtin.Int.intBits i : Int) * j ≤ (n : Int) * (m : Int) := Int.mul_le_mul (by omega) h1 h0 (by omega)
  have h4 : ((n * m : Nat) : Int) ≤ 134217728 := by omega
  have e : ((n * m : Nat) : Int) = (n : Int) * (m : Int) := Int.natCast_mul n m
  have e2 : (2 : Int) ^ 27 = 134217728 := by decide
  rw [e2]
  omega
@[simp] theorem pow10 {j : Int} (h0 : 0 ≤ j) (h1 : j ≤ 1000) : powD (.int 10) (.int j) = some (.int (10 ^ j.toNat)) := powD_ok (cpow_of (n := 4) (m := 1000) (by decide) h0 h1 (by decide))
@[simp] theorem mxD_int (i j : Int) : mxD [.int i, .int j] = some (.int (max i j)) := by
  show some (D.int (if j > i then j else i)) = _
  congr 2
  split <;> omega
@[simp] theorem mnD_int (i j : Int) : mnD [.int i, .int j] = some (.int (min i j)) := by
  show some (D.int (if j < i then j else i)) = _
  congr 2
  split <;> omega
@[simp] theorem lenD_lst (l : List D) : lenD [.lst l] = some (.int l.length) := rfl
@[simp] theorem lenD_tup (l : List D) : lenD [.tup l] = some (.int l.length) := rfl
@[simp] theorem isD_non : isD .non .non = some (.bl true) := rfl
@[simp] theorem isD_int (i : Int) : isD (.int i) .non = some (.bl false) := rfl
@[simp] theorem isD_bl (i : Bool) : isD (.bl i) .non = some (.bl false) := rfl
@[simp] theorem isD_tup (i : List D) : isD (.tup i) .non = some (.bl false) := rfl
@[simp] theorem isD_lst (i : List D) : isD (.lst i) .non = some (.bl false) := rfl
@[simp] theorem isD_oi (o : Option Int) : isD (oi o) .non = some (.bl o.isNone) := by cases o <;> rfl
@[simp] theorem notD_non : notD .non .non = some (.bl false) := rfl
@[simp] theorem notD_int (i : Int) : notD (.int i) .non = some (.bl true) := rfl
@[simp] theorem notD_bl (i : Bool) : notD (.bl i) .non = some (.bl true) := rfl
@[simp] theorem notD_tup (i : List D) : notD (.tup i) .non = some (.bl true) := rfl
@[simp] theorem notD_lst (i : List D) : notD (.lst i) .non = some (.bl true) := rfl
@[simp] theorem notD_oi (o : Option Int) : notD (oi o) .non = some (.bl o.isSome) := by cases o <;> rfl
@[simp] theorem truD_bl (b : Bool) : truD (.bl b) = some b := rfl
@[simp] theorem truD_non : truD .non = some false := rfl
@[simp] theorem truD_lst (l : List D) : truD (.lst l) = some (!l.isEmpty) := rfl
@[simp] theorem truD_tup (l : List D) : truD (.tup l) = some (!l.isEmpty) := rfl
theorem ixN_pos {n : Nat} {i : Int} (h : 0 ≤ i) (h2 : i < n) : ixN n i = some i.toNat := by
  unfold ixN
  rw [if_pos h, if_pos h2]
theorem ixL_pos (l : List D) {i : Int} (h : 0 ≤ i) (h2 : i < l.length) : ixD (.lst l) (.int i) = l[i.toNat]? := by
  show atI l i = _
  unfold atI
  rw [ixN_pos h h2]
  rfl
theorem ixT_pos (l : List D) {i : Int} (h : 0 ≤ i) (h2 : i < l.length) : ixD (.tup l) (.int i) = l[i.toNat]? := by
  show atI l i = _
  unfold atI
  rw [ixN_pos h h2]
  rfl
@[simp] theorem ixT0 (a : D) (l : List D) : ixD (.tup (a :: l)) (.int 0) = some a := by
  rw [ixT_pos _ (by decide) (by rw [List.length_cons]; omega)]
  rfl
@[simp] theorem ixT1 (a b : D) (l : List D) : ixD (.tup (a :: b :: l)) (.int 1) = some b := by
  rw [ixT_pos _ (by decide) (by rw [List.length_cons, List.length_cons]; omega)]
  rfl
@[simp] theorem ixT2 (a b c : D) (l : List D) : ixD (.tup (a :: b :: c :: l)) (.int 2) = some c := by
  rw [ixT_pos _ (by decide) (by rw [List.length_cons, List.length_cons, List.length_cons]; omega)]
  rfl
@[simp] theorem ixL0 (a : D) (l : List D) : ixD (.lst (a :: l)) (.int 0) = some a := by
  rw [ixL_pos _ (by decide) (by rw [List.length_cons]; omega)]
  rfl
@[simp] theorem ixL1 (a b : D) (l : List D) : ixD (.lst (a :: b :: l)) (.int 1) = some b := by
  rw [ixL_pos _ (by decide) (by rw [List.length_cons, List.length_cons]; omega)]
  rfl
@[simp] theorem flat_non : flat .non = true := by simp [flat]
@[simp] theorem flat_bl (b : Bool) : flat (.bl b) = true := by simp [flat]
@[simp] theorem flat_int (i : Int) : flat (.int i) = true := by simp [flat]
@[simp] theorem flat_str (i : Str) : flat (.str i) = true := by simp [flat]
@[simp] theorem flat_tup (l : List D) : flat (.tup l) = flats l := by simp [flat]
@[simp] theorem flats_nil : flats [] = true := by simp [flats]
@[simp] theorem flats_cons (d : D) (l : List D) : flats (d :: l) = (flat d && flats l) := by simp [flats]
@[simp] theorem flat_oi (o : Option Int) : flat (oi o) = true := by cases o <;> simp
theorem flatR_of {d : D} (h : flat d = true) : flatR d = some (.rt (.val d)) := if_pos h
@[simp] theorem flatR_non : flatR .non = some (.rt (.val .non)) := flatR_of (by simp)
@[simp] theorem flatR_bl (b : Bool) : flatR (.bl b) = some (.rt (.val (.bl b))) := flatR_of (by simp)
@[simp] theorem flatR_int (i : Int) : flatR (.int i) = some (.rt (.val (.int i))) := flatR_of (by simp)
@[simp] theorem flatR_str (i : Str) : flatR (.str i) = some (.rt (.val (.str i))) := flatR_of (by simp)
@[simp] theorem flatR_oi (o : Option Int) : flatR (oi o) = some (.rt (.val (oi o))) := flatR_of (by simp)
@[simp] theorem flatR_tup (l : List D) (h : flats l = true) : flatR (.tup l) = some (.rt (.val (.tup l))) := flatR_of (by simpa using h)
@[simp] theorem flatF_of (l : List D) (h : flats l = true) : flatF l = some (.rt (.fresh l)) := if_pos h
@[simp] theorem shal_int (n : Nat) (i : Int) : shal n (.int i) = true := by simp [shal]
@[simp] theorem shal_non (n : Nat) : shal n .non = true := by simp [shal]
@[simp] theorem shal_bl (n : Nat) (b : Bool) : shal n (.bl b) = true := by simp [shal]
@[simp] theorem shal_oi (n : Nat) (o : Option Int) : shal n (oi o) = true := by cases o <;> simp
@[simp] theorem shal_tup (n : Nat) (l : List D) : shal n (.tup l) = shals n l := by simp [shal]
@[simp] theorem shal_lst (n : Nat) (l : List D) : shal n (.lst l) = shals n l := by simp [shal]
@[simp] theorem shals_nil (n : Nat) : shals n [] = true := by cases n <;> simp [shals]
@[simp] theorem shals_cons (n : Nat) (d : D) (l : List D) : shals (n + 1) (d :: l) = (shal n d && shals (n + 1) l) := by simp [shals]
theorem eqD_ok {x y : D} (h : shal 40 x = true) (h2 : shal 40 y = true) : eqD x y = some (.bl (eqvD x y)) := if_pos ⟨h, h2⟩
theorem neD_ok {x y : D} (h : shal 40 x = true) (h2 : shal 40 y = true) : neD x y = some (.bl (!eqvD x y)) := if_pos ⟨h, h2⟩
@[simp] theorem eqvD_int (i j : Int) : eqvD (.int i) (.int j) = decide (i = j) := by
  show (i == j) = _
  rw [Bool.eq_iff_iff]; simp
@[simp] theorem eqvD_bl (i j : Bool) : eqvD (.bl i) (.bl j) = decide (i = j) := by
  show (i == j) = _
  rw [Bool.eq_iff_iff]; simp
@[simp] theorem eqvD_non : eqvD .non .non = true := rfl
@[simp] theorem eqvD_non_int (j : Int) : eqvD .non (.int j) = false := rfl
@[simp] theorem eqvD_int_non (j : Int) : eqvD (.int j) .non = false := rfl
@[simp] theorem eqvD_oi (o p : Option Int) : eqvD (oi o) (oi p) = decide (o = p) := by cases o <;> cases p <;> simp
@[simp] theorem eqvD_tup (a b : List D) : eqvD (.tup a) (.tup b) = eqvs a b := by simp [eqvD, eqvs, toPy, PyData.eqv]
@[simp] theorem eqvD_lst (a b : List D) : eqvD (.lst a) (.lst b) = eqvs a b := by simp [eqvD, eqvs, toPy, PyData.eqv]
@[simp] theorem eqvs_nil : eqvs [] [] = true := by simp [eqvs, toPys, PyData.eqvAll]
@[simp] theorem eqvs_cons (x y : D) (a b : List D) : eqvs (x :: a) (y :: b) = (eqvD x y && eqvs a b) := by simp [eqvs, eqvD, toPys, PyData.eqvAll]
@[simp] theorem eqvs_nil_cons (y : D) (b : List D) : eqvs [] (y :: b) = false := by simp [eqvs, toPys, PyData.eqvAll]
@[simp] theorem eqvs_cons_nil (y : D) (b : List D) : eqvs (y :: b) [] = false := by simp [eqvs, toPys, PyData.eqvAll]
@[simp] theorem eqD_int (i j : Int) : eqD (.int i) (.int j) = some (.bl (decide (i = j))) := by rw [eqD_ok (by simp) (by simp)]; simp
@[simp] theorem neD_int (i j : Int) : neD (.int i) (.int j) = some (.bl (!decide (i = j))) := by rw [neD_ok (by simp) (by simp)]; simp
@[simp] theorem eqD_bl (i j : Bool) : eqD (.bl i) (.bl j) = some (.bl (decide (i = j))) := by rw [eqD_ok (by simp) (by simp)]; simp
@[simp] theorem neD_bl (i j : Bool) : neD (.bl i) (.bl j) = some (.bl (!decide (i = j))) := by rw [neD_ok (by simp) (by simp)]; simp
@[simp] theorem eqD_oi (i j : Option Int) : eqD (oi i) (oi j) = some (.bl (decide (i = j))) := by rw [eqD_ok (by simp) (by simp)]; simp
@[simp] theorem neD_oi (i j : Option Int) : neD (oi i) (oi j) = some (.bl (!decide (i = j))) := by rw [neD_ok (by simp) (by simp)]; simp
theorem kits : kitF "int" "int" = some true ∧ kitF "NoneType" "int" = some false ∧ kitF "bool" "int" = some true ∧ kitF "tuple" "int" = some false ∧ kitF "list" "int" = some false ∧ kitF "str" "int" = some false ∧
    kitF "bool" "bool" = some true ∧ kitF "int" "bool" = some false ∧ kitF "NoneType" "bool" = some false ∧ kitF "tuple" "tuple" = some true ∧ kitF "list" "tuple" = some false ∧ kitF "NoneType" "tuple" = some false ∧
    kitF "list" "list" = some true ∧ kitF "tuple" "list" = some false ∧ kitF "NoneType" "list" = some false := by
  refine ⟨?_, ?_, ?_, ?_, ?_, ?_, ?_, ?_, ?_, ?_, ?_, ?_, ?_, ?_, ?_⟩ <;> decide +kernel
@[simp] theorem isi_int_int (i : Int) : isiD "int" (.int i) = some (.bl true) := by simp [isiD, tyD, kits.1]
@[simp] theorem isi_int_non : isiD "int" .non = some (.bl false) := by simp [isiD, tyD, kits.2.1]
@[simp] theorem isi_int_bl (b : Bool) : isiD "int" (.bl b) = some (.bl true) := by simp [isiD, tyD, kits.2.2.1]
@[simp] theorem isi_bool_bl (b : Bool) : isiD "bool" (.bl b) = some (.bl true) := by simp [isiD, tyD, kits.2.2.2.2.2.2.1]
@[simp] theorem isi_bool_int (i : Int) : isiD "bool" (.int i) = some (.bl false) := by simp [isiD, tyD, kits.2.2.2.2.2.2.2.1]
@[simp] theorem isi_bool_non : isiD "bool" .non = some (.bl false) := by simp [isiD, tyD, kits.2.2.2.2.2.2.2.2.1]
@[simp] theorem isi_tup_tup (l : List D) : isiD "tuple" (.tup l) = some (.bl true) := by simp [isiD, tyD, kits.2.2.2.2.2.2.2.2.2.1]
@[simp] theorem isi_lst_lst (l : List D) : isiD "list" (.lst l) = some (.bl true) := by simp [isiD, tyD, kits.2.2.2.2.2.2.2.2.2.2.2.2.1]
@[simp] theorem bind_ite {α β : Type} {c : Prop} [Decidable c] (a b : Option α) (f : α → Option β) : (if c then a else b).bind f = if c then a.bind f else b.bind f := by split <;> rfl
@[simp] theorem map_ite {α β : Type} {c : Prop} [Decidable c] (a b : Option α) (f : α → β) : (if c then a else b).map f = if c then a.map f else b.map f := by split <;> rfl
theorem compG_ok {fi : FA} {mp : List (Option Nat)} {ga : D → List Sl → Option (List Sl)} {tt : FT} {fe : FE} {ds : List Sl} {items l : List D} (h : fi ds = some items) (hl : items.length ≤ sizeLine) (hc : compL ga tt fe (slotsD mp ds) items = some l) : compG fi mp ga tt fe ds = some l := by
  unfold compG
  rw [h]
  show (if items.length ≤ sizeLine then compL ga tt fe (slotsD mp ds) items else none) = _
  rw [if_pos hl]
  exact hc
theorem blsD_map : ∀ bs : List Bool, blsD (bs.map D.bl) = some bs
  | [] => rfl
  | b :: r => by simp [blsD, blsD_map r]
@[simp] theorem allD_bls (bs : List Bool) : allD [.lst (bs.map D.bl)] = some (.bl (bs.all id)) := by simp [allD, blsD_map]
@[simp] theorem anyD_bls (bs : List Bool) : anyD [.lst (bs.map D.bl)] = some (.bl (bs.any id)) := by simp [anyD, blsD_map]
@[simp] theorem ixL2 (a b c : D) (l : List D) : ixD (.lst (a :: b :: c :: l)) (.int 2) = some c := by
  rw [ixL_pos _ (by decide) (by rw [List.length_cons, List.length_cons, List.length_cons]; omega)]
  rfl
@[simp] theorem ixL3 (a b c d : D) (l : List D) : ixD (.lst (a :: b :: c :: d :: l)) (.int 3) = some d := by
  rw [ixL_pos _ (by decide) (by rw [List.length_cons, List.length_cons, List.length_cons, List.length_cons]; omega)]
  rfl
@[simp] theorem rng3_eq (fa fb fc : FE) (ds : List Sl) : rng3 fa fb fc ds = (fa ds).bind fun x => (fb ds).bind fun y => (fc ds).bind fun z => match x, y, z with
  | .int i, .int j, .int c => if okR3 i j c then some (range3D i c (steps3 i j c)) else none
  | _, _, _ => none := rfl
@[simp] theorem rng2_eq (fa fb : FE) (ds : List Sl) : rng2 fa fb ds = (fa ds).bind fun x => (fb ds).bind fun y => match x, y with
  | .int i, .int j => if okR i ∧ okR j then some (rangeD i (j - i).toNat) else none
  | _, _ => none := rfl
@[simp] theorem rng1_eq (f : FE) (ds : List Sl) : rng1 f ds = (f ds).bind fun d => match d with | .int j => if okR j then some (rangeD 0 j.toNat) else none | _ => none := rfl
theorem okR_small {j : Int} (h : -1000000000 ≤ j) (h2 : j ≤ 1000000000) : okR j := ⟨Int.le_trans (by decide) h, Int.lt_of_le_of_lt h2 (by decide)⟩
theorem intsD_map : ∀ bs : List Int, intsD (bs.map D.int) = some bs
  | [] => rfl
  | b :: r => by simp [intsD, intsD_map r]
theorem mxLD_ints (bs : List Int) (h : bs ≠ []) : mxLD [.lst (bs.map D.int)] = some (.int (maxOf bs)) := by simp [mxLD, intsD_map, h]
@[simp] theorem absD_int (i : Int) : absD [.int i] = some (.int (if i < 0 then -i else i)) := rfl
@[simp] theorem int1D_int (i : Int) : int1D [.int i] = some (.int i) := rfl
@[simp] theorem int1D_bl (b : Bool) : int1D [.bl b] = some (.int (if b then 1 else 0)) := rfl
@[simp] theorem augA_eq (i : Nat) (f : FE) (ds : List Sl) : augA i f ds = (getV i ds).bind fun x => (f ds).bind fun y => match x, y with
  | .int a, .int b => some (.nx (ds.set i (.v (.int (a + b)))))
  | _, _ => none := rfl
@[simp] theorem parG_eq (i j : Nat) (f : FA) (ds : List Sl) : parG i j f ds = (f ds).bind fun l => match l with
  | [a, b] => some (.nx ((ds.set i (.v a)).set j (.v b)))
  | _ => none := rfl
@[simp] theorem revA_eq (f : FE) (ds : List Sl) : revA f ds = (f ds).bind fun d => match d with
  | .lst l => some l.reverse
  | _ => none := rfl
theorem seq_nx {f g : FS} {ds ds' : List Sl} (h : f ds = some (.nx ds')) : seqG f g ds = g ds' := by simp [h]
theorem seq_rt {f g : FS} {ds : List Sl} {r : Ret} (h : f ds = some (.rt r)) : seqG f g ds = some (.rt r) := by simp [h]
theorem run_rt {g : FS} {n : Nat} {ds : List D} {r : Ret} (h : g (args n ds) = some (.rt r)) : runG g n ds = some r := by unfold runG; rw [h]
end FL
section
open PySem PyProof.Rows L2 FL
noncomputable def GP.ends_ahead.g : FS := (retG (andV (bin2 notD (getW 0) (konst .non)) (andV (bin2 notD (getW 1) (konst .non)) (bin2 leD (getW 0) (getW 1)))))
noncomputable def GP.ends_ahead.f : List D → Option Ret := runG GP.ends_ahead.g 2
noncomputable def GP.Shut_low.g : FS := (retG (fldG [(7, 0), (8, 0)] (getV 0)))
noncomputable def GP.Shut_low.f : List D → Option Ret := runG GP.Shut_low.g 1
noncomputable def GP.Open_low.g : FS := (retG (bin2 addD (fldG [(7, 0), (8, 0)] (getV 0)) (konst (.int 1))))
noncomputable def GP.Open_low.f : List D → Option Ret := runG GP.Open_low.g 1
noncomputable def GP.Endless_low.g : FS := (retG (konst .non))
noncomputable def GP.Endless_low.f : List D → Option Ret := runG GP.Endless_low.g 1
noncomputable def GP.Shut_behind.g : FS := (retG (bin2 addD (fldG [(7, 0), (8, 0)] (getV 0)) (konst (.int 1))))
noncomputable def GP.Shut_behind.f : List D → Option Ret := runG GP.Shut_behind.g 1
noncomputable def GP.Open_behind.g : FS := (retG (fldG [(7, 0), (8, 0)] (getV 0)))
noncomputable def GP.Open_behind.f : List D → Option Ret := runG GP.Open_behind.g 1
noncomputable def GP.Endless_behind.g : FS := (retG (konst .non))
noncomputable def GP.Endless_behind.f : List D → Option Ret := runG GP.Endless_behind.g 1
noncomputable def GP.M_low_88ddca : Nat → List D → Option Ret
  | 7 => GP.Shut_low.f
  | 8 => GP.Open_low.f
  | 9 => GP.Endless_low.f
  | 10 => GP.Endless_low.f
  | _ => fun _ => none
noncomputable def GP.M_behind_f72aa6 : Nat → List D → Option Ret
  | 7 => GP.Shut_behind.f
  | 8 => GP.Open_behind.f
  | 9 => GP.Endless_behind.f
  | 10 => GP.Endless_behind.f
  | _ => fun _ => none
noncomputable def GP.span2.g : FS := (seqG (setG 2 (methV 0 [7, 8, 9, 10] GP.M_low_88ddca (getV 0) nilA))
  (seqG (setG 3 (methV 0 [7, 8, 9, 10] GP.M_behind_f72aa6 (getV 1) nilA))
  (seqG (ifG (testT (callV 2 GP.ends_ahead.f (consA (getW 3) (consA (getW 2) nilA)))) (fun _ => none) nextG)
  (retG (mkT (sized (consA (getV 2) (consA (getV 3) nilA))))))))
noncomputable def GP.span2.f : List D → Option Ret := runG GP.span2.g 4
noncomputable def GP.Shut___init__.i : FN := (fldN (getV 1))
noncomputable def GP.Shut___init__.f : List D → Option (List D) := runN GP.Shut___init__.i 2
noncomputable def GP.is_number.g : FS := (seqG (ifG (notT (testT (isiG "str" (getW 0)))) (retG (konst (.bl false))) nextG)
  (seqG (setG 1 (ifV (testT (bin2 stwD (getW 0) (konst (.str "-")))) (slsS (getW 0) (soP (konst (.int 1))) noP) (getV 0)))
  (seqG (ifG (orT (testB (bin2 ltD (callB lenD (consA (getW 1) nilA)) (konst (.int 1)))) (testB (bin2 gtD (callB lenD (consA (getW 1) nilA)) (konst (.int 60))))) (retG (konst (.bl false))) nextG)
  (seqG (ifG (notT (testT (callB allD (consA (mkL (compG (viaA (getV 1) asS) [none] (nameG 0) (fun _ => some true) (bin2 inS (getW 0) (konst (.str "0123456789"))))) nilA)))) (retG (konst (.bl false))) nextG)
  (retG (orV (bin2 neD (bin2 ixD (getW 1) (konst (.int 0))) (konst (.str "0"))) (bin2 eqD (getW 0) (konst (.str "0")))))))))
noncomputable def GP.is_number.f : List D → Option Ret := runG GP.is_number.g 2
noncomputable def GP.read_number.g : FS := (seqG (ifG (notT (testT (callV 1 GP.is_number.f (consA (getW 0) nilA)))) (fun _ => none) nextG)
  (retG (callB intTD (consA (getW 0) nilA))))
noncomputable def GP.read_number.f : List D → Option Ret := runG GP.read_number.g 1
noncomputable def GP.read_low_end.g : FS := (seqG (ifG (testB (bin2 eqD (getW 0) (konst (.str "(..")))) (retDG (konst (.ins 9 []))) nextG)
  (seqG (ifG (testT (bin2 stwD (getW 0) (konst (.str "[")))) (retDG (makeG 7 1 GP.Shut___init__.f (consA (callV 1 GP.read_number.f (consA (slsS (getW 0) (soP (konst (.int 1))) noP) nilA)) nilA))) nextG)
  (seqG (ifG (testT (bin2 stwD (getW 0) (konst (.str "(")))) (retDG (makeG 8 1 GP.Shut___init__.f (consA (callV 1 GP.read_number.f (consA (slsS (getW 0) (soP (konst (.int 1))) noP) nilA)) nilA))) nextG)
  (fun _ => none))))
noncomputable def GP.read_low_end.f : List D → Option Ret := runG GP.read_low_end.g 1
noncomputable def GP.read_high_end.g : FS := (seqG (ifG (testB (bin2 eqD (getW 0) (konst (.str "..)")))) (retDG (konst (.ins 9 []))) nextG)
  (seqG (ifG (testT (bin2 enwD (getW 0) (konst (.str "]")))) (retDG (makeG 7 1 GP.Shut___init__.f (consA (callV 1 GP.read_number.f (consA (slsS (getW 0) noP (soP (un1 negD (konst (.int 1))))) nilA)) nilA))) nextG)
  (seqG (ifG (testT (bin2 enwD (getW 0) (konst (.str ")")))) (retDG (makeG 8 1 GP.Shut___init__.f (consA (callV 1 GP.read_number.f (consA (slsS (getW 0) noP (soP (un1 negD (konst (.int 1))))) nilA)) nilA))) nextG)
  (fun _ => none))))
noncomputable def GP.read_high_end.f : List D → Option Ret := runG GP.read_high_end.g 1
noncomputable def GP.read_ends.g : FS := (seqG (ifG (notT (testT (isiG "str" (getW 0)))) (fun _ => none) nextG)
  (seqG (setG 1 (mkL (splA (getW 0) (konst (.str ",")))))
  (seqG (ifG (testB (bin2 neD (callB lenD (consA (getW 1) nilA)) (konst (.int 2)))) (fun _ => none) nextG)
  (retDG (mkT (sized (consA (callV 1 GP.read_low_end.f (consA (bin2 ixD (getW 1) (konst (.int 0))) nilA)) (consA (callV 1 GP.read_high_end.f (consA (bin2 ixD (getW 1) (konst (.int 1))) nilA)) nilA))))))))
noncomputable def GP.read_ends.f : List D → Option Ret := runG GP.read_ends.g 2
noncomputable def GP.read_span.g : FS := (seqG (setG 1 (callV 1 GP.read_ends.f (consA (getW 0) nilA)))
  (retG (callV 2 GP.span2.f (consA (bin2 ixD (getW 1) (konst (.int 0))) (consA (bin2 ixD (getW 1) (konst (.int 1))) nilA)))))
noncomputable def GP.read_span.f : List D → Option Ret := runG GP.read_span.g 2
noncomputable def GP.show_span.g : FS := (seqG (setG 1 (ifV (testB (bin2 isD (bin2 ixD (getW 0) (konst (.int 0))) (konst .non))) (konst (.str "(..")) (bin2 addD (konst (.str "[")) (callB strD (consA (bin2 ixD (getW 0) (konst (.int 0))) nilA)))))
  (seqG (setG 2 (ifV (testB (bin2 isD (bin2 ixD (getW 0) (konst (.int 1))) (konst .non))) (konst (.str "..)")) (bin2 addD (callB strD (consA (bin2 ixD (getW 0) (konst (.int 1))) nilA)) (konst (.str ")")))))
  (retG (bin2 addD (bin2 addD (getW 1) (konst (.str ","))) (getW 2)))))
noncomputable def GP.show_span.f : List D → Option Ret := runG GP.show_span.g 3
noncomputable def GL.cell_at.g : FS := (seqG (ifG (testB (bin2 ltD (getW 1) (callB lenD (consA (getW 0) nilA)))) (retG (bin2 ixD (getW 0) (getW 1))) nextG)
  (retG (konst (.int 0))))
noncomputable def GL.cell_at.f : List D → Option Ret := runG GL.cell_at.g 2
noncomputable def GL.end.g : FS := (retG (orV (bin2 isD (getW 0) (konst .non)) (andV (isiG "int" (getW 0)) (notV (isiG "bool" (getW 0))))))
noncomputable def GL.end.f : List D → Option Ret := runG GL.end.g 1
noncomputable def GL.whole.g : FS := (retG (andV (isiG "int" (getW 0)) (notV (isiG "bool" (getW 0)))))
noncomputable def GL.whole.f : List D → Option Ret := runG GL.whole.g 1
noncomputable def GL.read.b1 : FS := (ifG (testB (bin2 notS (getW 2) (konst (.str "0123456789")))) (retG (konst .non)) nextG)
noncomputable def GL.read.g : FS := (seqG (setG 1 (getV 0))
  (seqG (ifG (testB (bin2 eqD (slsS (getW 0) noP (soP (konst (.int 1)))) (konst (.str "-")))) (setG 1 (slsS (getW 0) (soP (konst (.int 1))) noP)) nextG)
  (seqG (ifG (orT (testB (bin2 eqD (getW 1) (konst (.str "")))) (orT (testB (bin2 gtD (callB lenD (consA (getW 1) nilA)) (konst (.int 60)))) (andT (testB (bin2 eqD (bin2 ixD (getW 1) (konst (.int 0))) (konst (.str "0")))) (testB (bin2 neD (getW 0) (konst (.str "0"))))))) (retG (konst .non)) nextG)
  (seqG (forG (viaA (getV 1) asS) (nameG 2) GL.read.b1)
  (retG (callB intTD (consA (getW 0) nilA)))))))
noncomputable def GL.read.f : List D → Option Ret := runG GL.read.g 3
noncomputable def GL.end3.g : FS := (seqG (ifG (andT (testB (bin2 eqD (getW 1) (konst (.str "..")))) (testB (bin2 neD (getW 0) (getW 2)))) (retOG (sized (consA (konst .non) nilA))) nextG)
  (seqG (setG 4 (callV 1 GL.read.f (consA (getW 1) nilA)))
  (seqG (ifG (testB (bin2 isD (getW 4) (konst .non))) (retOG (sized nilA)) nextG)
  (retOG (sized (consA (bin2 addD (getW 4) (getW 3)) nilA))))))
noncomputable def GL.end3.f : List D → Option Ret := runG GL.end3.g 5
end
namespace FL
open PySem PySem.Spec PyProof.Rows L2
abbrev Spn := Option Int × Option Int
def spD (s : Spn) : D := .tup [oi s.1, oi s.2]
def oS : Option Spn → D
  | none => .non
  | some s => spD s
def okS (s : Spn) : Prop := ∀ a b, s.1 = some a → s.2 = some b → a < b
@[simp] theorem spD_0 (s : Spn) : ixD (spD s) (.int 0) = some (oi s.1) := ixT0 _ _
@[simp] theorem spD_1 (s : Spn) : ixD (spD s) (.int 1) = some (oi s.2) := ixT1 _ _ _
@[simp] theorem spD_flat (s : Spn) : flat (spD s) = true := by simp [spD]
@[simp] theorem spD_flatR (s : Spn) : flatR (spD s) = some (.rt (.val (spD s))) := flatR_of (by simp)
@[simp] theorem spD_shal (s : Spn) (n : Nat) : shal (n + 1) (spD s) = true := by simp [spD]
@[simp] theorem spD_isi (s : Spn) : isiD "tuple" (spD s) = some (.bl true) := by simp [spD]
@[simp] theorem spD_len (s : Spn) : lenD [spD s] = some (.int 2) := by simp [spD]
@[simp] theorem spD_isD (s : Spn) : isD (spD s) .non = some (.bl false) := rfl
@[simp] theorem spD_notD (s : Spn) : notD (spD s) .non = some (.bl true) := rfl
@[simp] theorem spD_asLT (s : Spn) : asLT (spD s) = some [oi s.1, oi s.2] := rfl
@[simp] theorem spD_eqv (s t : Spn) : eqvD (spD s) (spD t) = decide (s = t) := by
  rw [Bool.eq_iff_iff]
  simp [spD, Prod.ext_iff]
@[simp] theorem oS_isD (o : Option Spn) : isD (oS o) .non = some (.bl o.isNone) := by cases o <;> rfl
@[simp] theorem oS_notD (o : Option Spn) : notD (oS o) .non = some (.bl o.isSome) := by cases o <;> rfl
@[simp] theorem oS_flatR (o : Option Spn) : flatR (oS o) = some (.rt (.val (oS o))) := by cases o <;> simp [oS]
def lateL : Option Int → Option Int → Option Int
  | none, b => b
  | a, none => a
  | some a, some b => some (max a b)
def earlB : Option Int → Option Int → Option Int
  | none, b => b
  | a, none => a
  | some a, some b => some (min a b)
def aheadE : Option Int → Option Int → Bool
  | some b, some l => decide (b ≤ l)
  | _, _ => false
theorem aheadE_eq (a b : Option Int) : GP.ends_ahead.f [oi a, oi b] = some (.val (.bl (aheadE a b))) := by
  unfold GP.ends_ahead.f runG GP.ends_ahead.g
  cases a <;> cases b <;> simp [args, aheadE]
def meetS (s t : Spn) : Option Spn := if aheadE (earlB s.2 t.2) (lateL s.1 t.1) = true then none else some (lateL s.1 t.1, earlB s.2 t.2)
end FL
namespace FL
open PySem PySem.Spec PyProof.Rows L2
open Builtin.Int (intBits)
def cel (ns : List Int) (k : Nat) : Int := ns.getD k 0
theorem cell_eq0 (ns : List Int) {k : Int} (h : 0 ≤ k) : GL.cell_at.f [.lst (ns.map D.int), .int k] = some (.val (.int (ns.getD k.toNat 0))) := by
  unfold GL.cell_at.f runG GL.cell_at.g
  by_cases hk : k < (ns.length : Int)
  · have hl : k < ((ns.map D.int).length : Int) := by simpa using hk
    have e : (ns.map D.int)[k.toNat]? = some (.int (ns.getD k.toNat 0)) := by
      have : k.toNat < ns.length := by omega
      simp [this, List.getD]
    simp [args, hk, ixL_pos _ h hl, e]
  · have : ns.getD k.toNat 0 = 0 := by
      have : ns.length ≤ k.toNat := by omega
      simp [List.getD, List.getElem?_eq_none this]
    rw [this]
    simp [args, hk]
theorem cell_eq (ns : List Int) (k : Nat) : GL.cell_at.f [.lst (ns.map D.int), .int (k : Int)] = some (.val (.int (cel ns k))) := cell_eq0 ns (k := (k : Int)) (by omega)
theorem bits_ediv {a b : Int} {m : Nat} (hb : 0 ≤ b) (h : intBits a ≤ m) : intBits (a / b) ≤ m := by
  rw [← Int.fdiv_eq_ediv_of_nonneg _ hb]
  exact bits_fdiv h
theorem bits_nat {a : Int} {m : Nat} (h : a.natAbs < 2 ^ m) : intBits a ≤ m := intBits_le_iff.mpr h
theorem bits_cell {ns : List Int} (hb : ∀ c ∈ ns, intBits c ≤ 1048576) (k : Nat) : intBits (cel ns k) ≤ 1048576 := by
  show intBits (ns.getD k 0) ≤ 1048576
  by_cases h : k < ns.length
  · have : ns.getD k 0 = ns[k] := by simp [List.getD, h]
    rw [this]
    exact hb _ (List.getElem_mem h)
  · have : ns.getD k 0 = 0 := by simp [List.getD, List.getElem?_eq_none (Nat.le_of_not_lt h)]
    rw [this]
    decide
theorem end_eq (o : Option Int) : GL.end.f [oi o] = some (.val (.bl true)) := by
  unfold GL.end.f runG GL.end.g
  cases o <;> simp [args]
@[simp] theorem end_int (i : Int) : GL.end.f [.int i] = some (.val (.bl true)) := end_eq (some i)
@[simp] theorem end_non : GL.end.f [.non] = some (.val (.bl true)) := end_eq none
end FL
namespace FL
open PySem PySem.Spec PyProof.Rows L2
open Builtin.Int (intBits)
@[simp] theorem eqS_put_put : eqD (.str "put") (.str "put") = some (.bl true) := by kernel_rfl
@[simp] theorem neS_put_put : neD (.str "put") (.str "put") = some (.bl false) := by kernel_rfl
@[simp] theorem eqS_put_widen : eqD (.str "put") (.str "widen") = some (.bl false) := by kernel_rfl
@[simp] theorem neS_put_widen : neD (.str "put") (.str "widen") = some (.bl true) := by kernel_rfl
@[simp] theorem eqS_put_narrow : eqD (.str "put") (.str "narrow") = some (.bl false) := by kernel_rfl
@[simp] theorem neS_put_narrow : neD (.str "put") (.str "narrow") = some (.bl true) := by kernel_rfl
@[simp] theorem eqS_put_move : eqD (.str "put") (.str "move") = some (.bl false) := by kernel_rfl
@[simp] theorem neS_put_move : neD (.str "put") (.str "move") = some (.bl true) := by kernel_rfl
@[simp] theorem eqS_put_stretch : eqD (.str "put") (.str "stretch") = some (.bl false) := by kernel_rfl
@[simp] theorem neS_put_stretch : neD (.str "put") (.str "stretch") = some (.bl true) := by kernel_rfl
@[simp] theorem eqS_put_mirror : eqD (.str "put") (.str "mirror") = some (.bl false) := by kernel_rfl
@[simp] theorem neS_put_mirror : neD (.str "put") (.str "mirror") = some (.bl true) := by kernel_rfl
@[simp] theorem eqS_widen_put : eqD (.str "widen") (.str "put") = some (.bl false) := by kernel_rfl
@[simp] theorem neS_widen_put : neD (.str "widen") (.str "put") = some (.bl true) := by kernel_rfl
@[simp] theorem eqS_widen_widen : eqD (.str "widen") (.str "widen") = some (.bl true) := by kernel_rfl
@[simp] theorem neS_widen_widen : neD (.str "widen") (.str "widen") = some (.bl false) := by kernel_rfl
@[simp] theorem eqS_widen_narrow : eqD (.str "widen") (.str "narrow") = some (.bl false) := by kernel_rfl
@[simp] theorem neS_widen_narrow : neD (.str "widen") (.str "narrow") = some (.bl true) := by kernel_rfl
@[simp] theorem eqS_widen_move : eqD (.str "widen") (.str "move") = some (.bl false) := by kernel_rfl
@[simp] theorem neS_widen_move : neD (.str "widen") (.str "move") = some (.bl true) := by kernel_rfl
@[simp] theorem eqS_widen_stretch : eqD (.str "widen") (.str "stretch") = some (.bl false) := by kernel_rfl
@[simp] theorem neS_widen_stretch : neD (.str "widen") (.str "stretch") = some (.bl true) := by kernel_rfl
@[simp] theorem eqS_widen_mirror : eqD (.str "widen") (.str "mirror") = some (.bl false) := by kernel_rfl
@[simp] theorem neS_widen_mirror : neD (.str "widen") (.str "mirror") = some (.bl true) := by kernel_rfl
@[simp] theorem eqS_narrow_put : eqD (.str "narrow") (.str "put") = some (.bl false) := by kernel_rfl
@[simp] theorem neS_narrow_put : neD (.str "narrow") (.str "put") = some (.bl true) := by kernel_rfl
@[simp] theorem eqS_narrow_widen : eqD (.str "narrow") (.str "widen") = some (.bl false) := by kernel_rfl
@[simp] theorem neS_narrow_widen : neD (.str "narrow") (.str "widen") = some (.bl true) := by kernel_rfl
@[simp] theorem eqS_narrow_narrow : eqD (.str "narrow") (.str "narrow") = some (.bl true) := by kernel_rfl
@[simp] theorem neS_narrow_narrow : neD (.str "narrow") (.str "narrow") = some (.bl false) := by kernel_rfl
@[simp] theorem eqS_narrow_move : eqD (.str "narrow") (.str "move") = some (.bl false) := by kernel_rfl
@[simp] theorem neS_narrow_move : neD (.str "narrow") (.str "move") = some (.bl true) := by kernel_rfl
@[simp] theorem eqS_narrow_stretch : eqD (.str "narrow") (.str "stretch") = some (.bl false) := by kernel_rfl
@[simp] theorem neS_narrow_stretch : neD (.str "narrow") (.str "stretch") = some (.bl true) := by kernel_rfl
@[simp] theorem eqS_narrow_mirror : eqD (.str "narrow") (.str "mirror") = some (.bl false) := by kernel_rfl
@[simp] theorem neS_narrow_mirror : neD (.str "narrow") (.str "mirror") = some (.bl true) := by kernel_rfl
@[simp] theorem eqS_move_put : eqD (.str "move") (.str "put") = some (.bl false) := by kernel_rfl
@[simp] theorem neS_move_put : neD (.str "move") (.str "put") = some (.bl true) := by kernel_rfl
@[simp] theorem eqS_move_widen : eqD (.str "move") (.str "widen") = some (.bl false) := by kernel_rfl
@[simp] theorem neS_move_widen : neD (.str "move") (.str "widen") = some (.bl true) := by kernel_rfl
@[simp] theorem eqS_move_narrow : eqD (.str "move") (.str "narrow") = some (.bl false) := by kernel_rfl
@[simp] theorem neS_move_narrow : neD (.str "move") (.str "narrow") = some (.bl true) := by kernel_rfl
@[simp] theorem eqS_move_move : eqD (.str "move") (.str "move") = some (.bl true) := by kernel_rfl
@[simp] theorem neS_move_move : neD (.str "move") (.str "move") = some (.bl false) := by kernel_rfl
@[simp] theorem eqS_move_stretch : eqD (.str "move") (.str "stretch") = some (.bl false) := by kernel_rfl
@[simp] theorem neS_move_stretch : neD (.str "move") (.str "stretch") = some (.bl true) := by kernel_rfl
@[simp] theorem eqS_move_mirror : eqD (.str "move") (.str "mirror") = some (.bl false) := by kernel_rfl
@[simp] theorem neS_move_mirror : neD (.str "move") (.str "mirror") = some (.bl true) := by kernel_rfl
@[simp] theorem eqS_stretch_put : eqD (.str "stretch") (.str "put") = some (.bl false) := by kernel_rfl
@[simp] theorem neS_stretch_put : neD (.str "stretch") (.str "put") = some (.bl true) := by kernel_rfl
@[simp] theorem eqS_stretch_widen : eqD (.str "stretch") (.str "widen") = some (.bl false) := by kernel_rfl
@[simp] theorem neS_stretch_widen : neD (.str "stretch") (.str "widen") = some (.bl true) := by kernel_rfl
@[simp] theorem eqS_stretch_narrow : eqD (.str "stretch") (.str "narrow") = some (.bl false) := by kernel_rfl
@[simp] theorem neS_stretch_narrow : neD (.str "stretch") (.str "narrow") = some (.bl true) := by kernel_rfl
@[simp] theorem eqS_stretch_move : eqD (.str "stretch") (.str "move") = some (.bl false) := by kernel_rfl
@[simp] theorem neS_stretch_move : neD (.str "stretch") (.str "move") = some (.bl true) := by kernel_rfl
@[simp] theorem eqS_stretch_stretch : eqD (.str "stretch") (.str "stretch") = some (.bl true) := by kernel_rfl
@[simp] theorem neS_stretch_stretch : neD (.str "stretch") (.str "stretch") = some (.bl false) := by kernel_rfl
@[simp] theorem eqS_stretch_mirror : eqD (.str "stretch") (.str "mirror") = some (.bl false) := by kernel_rfl
@[simp] theorem neS_stretch_mirror : neD (.str "stretch") (.str "mirror") = some (.bl true) := by kernel_rfl
@[simp] theorem eqS_mirror_put : eqD (.str "mirror") (.str "put") = some (.bl false) := by kernel_rfl
@[simp] theorem neS_mirror_put : neD (.str "mirror") (.str "put") = some (.bl true) := by kernel_rfl
@[simp] theorem eqS_mirror_widen : eqD (.str "mirror") (.str "widen") = some (.bl false) := by kernel_rfl
@[simp] theorem neS_mirror_widen : neD (.str "mirror") (.str "widen") = some (.bl true) := by kernel_rfl
@[simp] theorem eqS_mirror_narrow : eqD (.str "mirror") (.str "narrow") = some (.bl false) := by kernel_rfl
@[simp] theorem neS_mirror_narrow : neD (.str "mirror") (.str "narrow") = some (.bl true) := by kernel_rfl
@[simp] theorem eqS_mirror_move : eqD (.str "mirror") (.str "move") = some (.bl false) := by kernel_rfl
@[simp] theorem neS_mirror_move : neD (.str "mirror") (.str "move") = some (.bl true) := by kernel_rfl
@[simp] theorem eqS_mirror_stretch : eqD (.str "mirror") (.str "stretch") = some (.bl false) := by kernel_rfl
@[simp] theorem neS_mirror_stretch : neD (.str "mirror") (.str "stretch") = some (.bl true) := by kernel_rfl
@[simp] theorem eqS_mirror_mirror : eqD (.str "mirror") (.str "mirror") = some (.bl true) := by kernel_rfl
@[simp] theorem neS_mirror_mirror : neD (.str "mirror") (.str "mirror") = some (.bl false) := by kernel_rfl
@[simp] theorem fldG_eq (ix : List (Nat × Nat)) (f : FE) (ds : List Sl) : fldG ix f ds = (f ds).bind (fldD ix) := rfl
@[simp] theorem fldD_ins (ix : List (Nat × Nat)) (t : Nat) (es : List D) : fldD ix (.ins t es) = (ix.lookup t).bind fun i => es[i]? := rfl
@[simp] theorem methV_eq (n : Nat) (cs : List Nat) (F : Nat → List D → Option Ret) (fo : FE) (g : FA) (ds : List Sl) : methV n cs F fo g ds = (fo ds).bind fun o => (g ds).bind fun l => (methR n cs F o l).bind retV := rfl
@[simp] theorem methF_eq (n : Nat) (cs : List Nat) (F : Nat → List D → Option Ret) (fo : FE) (g : FA) (ds : List Sl) : methF n cs F fo g ds = (fo ds).bind fun o => (g ds).bind fun l => (methR n cs F o l).bind retF := rfl
@[simp] theorem makeG_eq (t n : Nat) (G : List D → Option (List D)) (g : FA) (ds : List Sl) : makeG t n G g ds = (g ds).bind fun l => if l.length = n ∧ flats l = true then (G l).map (D.ins t) else none := rfl
@[simp] theorem retDG_eq (f : FE) (ds : List Sl) : retDG f ds = (f ds).map fun d => .rt (.val d) := rfl
end FL
namespace FL
open PySem PySem.Spec PyProof.Rows L2
abbrev Rw := Option Int × Option Int × Option Int
def rwD (r : Rw) : D := .tup [oi r.1, oi r.2.1, oi r.2.2]
def ok3 (r : Rw) : Prop := okS (r.1, r.2.1)
@[simp] theorem rwD_0 (r : Rw) : ixD (rwD r) (.int 0) = some (oi r.1) := ixT0 _ _
@[simp] theorem rwD_1 (r : Rw) : ixD (rwD r) (.int 1) = some (oi r.2.1) := ixT1 _ _ _
@[simp] theorem rwD_2 (r : Rw) : ixD (rwD r) (.int 2) = some (oi r.2.2) := ixT2 _ _ _ _
@[simp] theorem rwD_flat (r : Rw) : flat (rwD r) = true := by simp [rwD]
@[simp] theorem rwD_flatR (r : Rw) : flatR (rwD r) = some (.rt (.val (rwD r))) := flatR_of (by simp)
@[simp] theorem rwD_shal (r : Rw) (n : Nat) : shal (n + 1) (rwD r) = true := by simp [rwD]
@[simp] theorem rwD_isi (r : Rw) : isiD "tuple" (rwD r) = some (.bl true) := by simp [rwD]
@[simp] theorem rwD_len (r : Rw) : lenD [rwD r] = some (.int 3) := by simp [rwD]
@[simp] theorem rwD_tupG (h : List D → List Sl → Option (List Sl)) (r : Rw) (ds : List Sl) : tupG 3 h (rwD r) ds = h [oi r.1, oi r.2.1, oi r.2.2] ds := by simp [rwD]
@[simp] theorem rwD_eqv (r t : Rw) : eqvD (rwD r) (rwD t) = decide (r = t) := by
  obtain ⟨a, b, c⟩ := r
  obtain ⟨x, y, z⟩ := t
  rw [Bool.eq_iff_iff]
  simp [rwD]
def ahead (a b : Rw) : Prop := ∃ x y, a.2.1 = some x ∧ b.1 = some y ∧ x ≤ y
structure Ord (rows : List Rw) : Prop where
  ok : ∀ r ∈ rows, ok3 r
  pw : rows.Pairwise ahead
def adjOk : List Rw → Prop
  | b :: a :: t => ¬ (a.2.1 = b.1 ∧ a.2.2 = b.2.2) ∧ adjOk (a :: t)
  | _ => True
structure KI (acc : List Rw) : Prop where
  ok : ∀ r ∈ acc, ok3 r
  pw : acc.Pairwise fun b a => ahead a b
  val : ∀ r ∈ acc, r.2.2 ≠ none
  adj : adjOk acc
theorem KI.nil : KI [] := ⟨(fun _ h => nomatch h), List.Pairwise.nil, (fun _ h => nomatch h), trivial⟩
structure MapF (ps : List Rw) : Prop where
  ord : Ord ps
  val : ∀ r ∈ ps, r.2.2 ≠ none
  adj : ∀ (i : Nat) (a b : Rw), ps[i]? = some a → ps[i + 1]? = some b → ¬ (a.2.1 = b.1 ∧ a.2.2 = b.2.2)
theorem adjOk_get : ∀ {l : List Rw}, adjOk l → ∀ (i : Nat) (b a : Rw), l[i]? = some b → l[i + 1]? = some a → ¬ (a.2.1 = b.1 ∧ a.2.2 = b.2.2)
  | [], _, i, b, a, e, _ => by simp at e
  | [x], _, i, b, a, e, e2 => by simp at e2
  | x :: y :: t, h, 0, b, a, e, e2 => by
    simp at e e2
    subst e e2
    exact h.1
  | x :: y :: t, h, i + 1, b, a, e, e2 => adjOk_get h.2 i b a (by simpa using e) (by simpa using e2)
theorem KI.map {acc : List Rw} (k : KI acc) : MapF acc.reverse := by
  refine ⟨⟨fun r hr => k.ok r (List.mem_reverse.mp hr), List.pairwise_reverse.mpr k.pw⟩, fun r hr => k.val r (List.mem_reverse.mp hr), fun i a b h1 h2 => ?_⟩
  have l2 := (List.getElem?_eq_some_iff.mp h2).1
  rw [List.length_reverse] at l2
  rw [List.getElem?_reverse (by omega)] at h1 h2
  refine adjOk_get k.adj (acc.length - 1 - (i + 1)) b a h2 ?_
  rw [← h1]
  congr 1
  omega
end FL
namespace FL
open PySem PySem.Spec PyProof.Rows L2
open Builtin.Int (intBits)
structure Drawn (rows : List Rw) (s : Int) : Prop where
  ord : Ord rows
  fin : ∀ r ∈ rows, ∃ lo bh, r.1 = some lo ∧ r.2.1 = some bh ∧ bh ≤ s
theorem whole_int (i : Int) : GL.whole.f [.int i] = some (.val (.bl true)) := by
  unfold GL.whole.f runG GL.whole.g
  simp [args]
end FL
namespace FL
open PySem PySem.Spec PyProof.Rows L2
open Builtin.Int (intBits)
@[simp] theorem methR_ins (n : Nat) (cs : List Nat) (F : Nat → List D → Option Ret) (t : Nat) (es l : List D) : methR n cs F (.ins t es) l = if t ∈ cs ∧ l.length = n then F t (.ins t es :: l) else none := rfl
end FL
namespace FL
open PySem PySem.Spec PyProof.Rows L2
open Builtin.Int (intBits)
end FL
namespace FL
open PySem PySem.Spec PyProof.Rows L2
end FL
namespace FL
open PySem PySem.Spec PyProof.Rows L2
end FL
namespace FL
open PySem PySem.Spec PyProof.Rows L2
def part1 (s : Spn) (r : Rw) : Option Rw := (meetS (r.1, r.2.1) s).map fun u => (u.1, u.2, r.2.2)
def partsF (ps : List Rw) (s : Spn) : List Rw := ps.filterMap (part1 s)
theorem parts_len (ps : List Rw) (s : Spn) : (partsF ps s).length ≤ ps.length := List.length_filterMap_le _ _
abbrev Rv := Spn × Option Int
def rvD (r : Rv) : D := .tup [spD r.1, oi r.2]
@[simp] theorem rvD_flat (r : Rv) : flat (rvD r) = true := by simp [rvD]
@[simp] theorem rvD_flatR (r : Rv) : flatR (rvD r) = some (.rt (.val (rvD r))) := flatR_of (by simp)
@[simp] theorem rvD_shal (r : Rv) (n : Nat) : shal (n + 2) (rvD r) = true := by simp [rvD]
@[simp] theorem rvD_tupG (h : List D → List Sl → Option (List Sl)) (r : Rv) (ds : List Sl) : tupG 2 h (rvD r) ds = h [spD r.1, oi r.2] ds := by simp [rvD]
@[simp] theorem rvD_eqv (r t : Rv) : eqvD (rvD r) (rvD t) = decide (r = t) := by
  obtain ⟨a, b⟩ := r
  obtain ⟨x, y⟩ := t
  rw [Bool.eq_iff_iff]
  simp [rvD]
theorem MapF.nil : MapF [] := ⟨⟨(fun _ h => nomatch h), List.Pairwise.nil⟩, (fun _ h => nomatch h), (fun i a b h _ => by simp at h)⟩
end FL
namespace FL
open PySem PySem.Spec PyProof.Rows L2
open Builtin.Int (intBits)
end FL
namespace FL
open PySem PySem.Spec PyProof.Rows L2
theorem compL_map {α : Type} {ga : D → List Sl → Option (List Sl)} {fe : FE} {s0 : List Sl} (f h : α → D) : ∀ (xs : List α), (∀ x ∈ xs, ∃ ds1, ga (f x) s0 = some ds1 ∧ fe ds1 = some (h x)) → compL ga (fun _ => some true) fe s0 (xs.map f) = some (xs.map h)
  | [], _ => rfl
  | x :: xs, H => by
    obtain ⟨ds1, e1, e2⟩ := H x List.mem_cons_self
    have ih := compL_map (ga := ga) (fe := fe) (s0 := s0) f h xs fun y hy => H y (List.mem_cons_of_mem _ hy)
    simp only [List.map_cons, compL, e1, e2, ih, Option.bind_some, if_true, Option.map_some]
end FL
namespace FL
open PySem PySem.Spec PyProof.Rows L2
end FL
namespace FL
open PySem PySem.Spec PyProof.Rows L2
abbrev R4 := Option Int × Option Int × Option Int × Option Int
def r4D (r : R4) : D := .tup [oi r.1, oi r.2.1, oi r.2.2.1, oi r.2.2.2]
end FL
namespace FL
open PySem PySem.Spec PyProof.Rows L2
@[simp] theorem r4D_tupG (h : List D → List Sl → Option (List Sl)) (r : R4) (ds : List Sl) : tupG 4 h (r4D r) ds = h [oi r.1, oi r.2.1, oi r.2.2.1, oi r.2.2.2] ds := by simp [r4D]
end FL
namespace FL
open PySem PySem.Spec PyProof.Rows L2
def shR (f : Int) (r : Rw) : Rw := (r.1.map (· + f), r.2.1.map (· + f), r.2.2)
def splitF (ps : List Rw) (a c f : Int) : List Rw := partsF ps (none, some a) ++ (partsF ps (some c, none)).map (shR f)
theorem split_len (ps : List Rw) (a c f : Int) : (splitF ps a c f).length ≤ 2 * ps.length := by
  have h1 := parts_len ps (none, some a)
  have h2 := parts_len ps (some c, none)
  simp only [splitF, List.length_append, List.length_map]
  omega
end FL
namespace FL
open PySem PySem.Spec PyProof.Rows L2
end FL
namespace FL
open PySem PySem.Spec PyProof.Rows L2
open Builtin.Int (intBits)
structure DrawM (rows : List Rw) (s : Int) : Prop where
  map : MapF rows
  fin : ∀ r ∈ rows, ∃ lo bh, r.1 = some lo ∧ r.2.1 = some bh ∧ bh ≤ s
  last : ∀ r, rows.getLast? = some r → r.2.1 = some s
theorem DrawM.nil (s : Int) : DrawM [] s := ⟨MapF.nil, (fun _ h => nomatch h), fun r h => by simp at h⟩
end FL
namespace FL
open PySem PySem.Spec PyProof.Rows L2
open Builtin.Int (intBits)
@[simp] theorem notD_rw (r : Rw) : notD (rwD r) .non = some (.bl true) := rfl
end FL
namespace FL
open PySem PySem.Spec PyProof.Rows L2
theorem if_yes {t : FT} {f g : FS} {ds : List Sl} (h : t ds = some true) : ifG t f g ds = f ds := by simp [h]
theorem if_not {t : FT} {f g : FS} {ds : List Sl} (h : t ds = some false) : ifG t f g ds = g ds := by simp [h]
end FL
namespace FL
open PySem PyProof.Rows L2 Builtin.Str
def txS (cs : List Nat) : Str := ⟨cs.toArray⟩
theorem txS_list (x : Str) : txS x.cps.toList = x := by cases x; simp [txS]
@[simp] theorem list_txS (cs : List Nat) : (txS cs).cps.toList = cs := rfl
@[simp] theorem len_txS (cs : List Nat) : (txS cs).length = cs.length := by simp [txS, Str.length]
theorem txS_inj {a b : List Nat} : txS a = txS b ↔ a = b := ⟨fun h => by have := congrArg (fun x : Str => x.cps.toList) h; simpa using this, fun h => by rw [h]⟩
@[simp] theorem txS_app (a b : List Nat) : txS a ++ txS b = txS (a ++ b) := Str.ext' (by rw [Str.cps_append]; simp [txS])
theorem stw_txS (cs : List Nat) (c : Nat) : Txt.startswith (txS cs) (txS [c]) = decide (cs[0]? = some c) := by
  have h := StrLaws.subAt_one (txS cs) c 0
  rw [list_txS] at h
  rw [Bool.eq_iff_iff, decide_eq_true_eq, ← h]
  unfold Txt.startswith
  simp only [Bool.and_eq_true, decide_eq_true_eq]
  rfl
theorem enw_txS (cs : List Nat) (c : Nat) : Txt.endswith (txS cs) (txS [c]) = decide (cs.getLast? = some c) := by
  have h := StrLaws.subAt_one (txS cs) c (cs.length - 1)
  rw [list_txS, ← List.getLast?_eq_getElem?] at h
  rw [Bool.eq_iff_iff, decide_eq_true_eq, ← h]
  unfold Txt.endswith
  simp only [Bool.and_eq_true, decide_eq_true_eq, len_txS]
  have e : (⟨#[c]⟩ : Str).length = 1 := rfl
  have e2 : ([c] : List Nat).length = 1 := rfl
  have e3 : txS [c] = (⟨#[c]⟩ : Str) := rfl
  rw [e, e2, e3]
  constructor
  · rintro ⟨h1, h2⟩; exact ⟨by omega, h2⟩
  · rintro ⟨h1, h2⟩
    refine ⟨?_, h2⟩
    cases cs with
    | nil => exfalso; simp at h1
    | cons a r => simp
theorem slice_eq (x : Str) (l u : Option Int) : Txt.slice x l u = StrLaws.sliceText x l u := rfl
theorem slice_nat (cs : List Nat) {a b : Nat} (hab : a ≤ b) (hb : b ≤ cs.length) : Txt.slice (txS cs) (some (a : Int)) (some (b : Int)) = txS ((cs.drop a).take (b - a)) := by
  rw [slice_eq, StrLaws.sliceText_nat _ hab (by simpa using hb)]
  rfl
theorem slice_to (cs : List Nat) {b : Nat} (hb : b ≤ cs.length) : Txt.slice (txS cs) none (some (b : Int)) = txS (cs.take b) := by
  have e : Txt.slice (txS cs) none (some (b : Int)) = Txt.slice (txS cs) (some ((0 : Nat) : Int)) (some (b : Int)) := by
    rw [slice_eq, slice_eq]; unfold StrLaws.sliceText; rw [StrLaws.sliceIdx_none_lo]; rfl
  rw [e, slice_nat cs (Nat.zero_le _) hb]
  simp
theorem slice_from (cs : List Nat) (a : Nat) : Txt.slice (txS cs) (some (a : Int)) none = txS (cs.drop a) := by
  have key : ∀ a : Nat, a ≤ cs.length → Txt.slice (txS cs) (some (a : Int)) none = txS (cs.drop a) := by
    intro a ha
    have e : Txt.slice (txS cs) (some (a : Int)) none = Txt.slice (txS cs) (some (a : Int)) (some (cs.length : Int)) := by
      rw [slice_eq, slice_eq]; unfold StrLaws.sliceText; rw [StrLaws.sliceIdx_none_hi]; simp
    rw [e, slice_nat cs ha (Nat.le_refl _)]
    congr 1
    exact List.take_of_length_le (by simp)
  by_cases ha : a ≤ cs.length
  · exact key a ha
  · have e : Txt.slice (txS cs) (some (a : Int)) none = Txt.slice (txS cs) (some (cs.length : Int)) none := by
      have : strSliceIndices (some (a : Int)) none 1 (txS cs).length = strSliceIndices (some (cs.length : Int)) none 1 (txS cs).length := by
        have h1 : ¬ ((a : Int) < 0) := by omega
        have h2 : ¬ ((cs.length : Int) < 0) := by omega
        have e1 : max (0 : Int) (min (a : Int) (cs.length : Int)) = cs.length := by omega
        have e2 : max (0 : Int) (min (cs.length : Int) (cs.length : Int)) = cs.length := by omega
        simp only [strSliceIndices, len_txS, h1, h2, if_false, e1, e2, show ((1 : Int) > 0) = True from by simp, if_true]
      rw [slice_eq, slice_eq]; unfold StrLaws.sliceText; rw [this]
    rw [e, key _ (Nat.le_refl _), List.drop_of_length_le (by omega), List.drop_of_length_le (by omega)]
theorem idx_neg (l : Option Int) {n : Nat} (h : 1 ≤ n) : strSliceIndices l (some (-1)) 1 n = strSliceIndices l (some ((n - 1 : Nat) : Int)) 1 n := by
  have h1 : ((-1 : Int) < 0) := by decide
  have h2 : ¬ (((n - 1 : Nat) : Int) < 0) := by omega
  have e1 : max (0 : Int) (min (-1 + (n : Int)) (n : Int)) = ((n - 1 : Nat) : Int) := by omega
  have e2 : max (0 : Int) (min ((n - 1 : Nat) : Int) (n : Int)) = ((n - 1 : Nat) : Int) := by omega
  simp only [strSliceIndices, h1, h2, if_true, if_false, e1, e2, show ((1 : Int) > 0) = True from by simp]
theorem slice_but (cs : List Nat) (h : cs ≠ []) : Txt.slice (txS cs) none (some (-1)) = txS cs.dropLast := by
  have hl : 1 ≤ cs.length := List.length_pos_iff.mpr h
  have e : Txt.slice (txS cs) none (some (-1)) = Txt.slice (txS cs) none (some ((cs.length - 1 : Nat) : Int)) := by
    rw [slice_eq, slice_eq]; unfold StrLaws.sliceText; rw [len_txS, idx_neg none hl]
  rw [e, slice_to cs (by omega), List.dropLast_eq_take]
theorem slice_mid (cs : List Nat) (h : 2 ≤ cs.length) : Txt.slice (txS cs) (some 1) (some (-1)) = txS cs.tail.dropLast := by
  have e : Txt.slice (txS cs) (some 1) (some (-1)) = Txt.slice (txS cs) (some ((1 : Nat) : Int)) (some ((cs.length - 1 : Nat) : Int)) := by
    rw [slice_eq, slice_eq]; unfold StrLaws.sliceText; rw [len_txS, idx_neg _ (by omega)]; rfl
  rw [e, slice_nat cs (by omega) (by omega), List.dropLast_eq_take, ← List.drop_one, List.length_drop]
theorem occ_all (x : Str) (c lim : Nat) : ∀ (m a : Nat) (st : Array Nat × Nat), st.snd ≤ a → st.fst.size + m ≤ lim → (forIn (m := Id) (List.range' a m) st (StrLaws.occBody x ⟨#[c]⟩ x.length lim)).run.fst.size = st.fst.size + ((List.range' a m).filter (fun i => decide (x.cps.toList[i]? = some c))).length
  | 0, a, st, _, _ => by simp
  | m + 1, a, st, h1, h2 => by
    rw [List.range'_succ, List.forIn_cons, List.filter_cons]
    have one := StrLaws.subAt_one x c a
    unfold StrLaws.occBody
    by_cases h : x.cps.toList[a]? = some c
    · obtain ⟨k1, k2⟩ := one.mpr h
      rw [if_pos ⟨⟨⟨by omega, h1⟩, k1⟩, k2⟩, if_pos (by simpa using h)]
      have ih := occ_all x c lim m (a + 1) (st.fst.push a, a + (⟨#[c]⟩ : Str).length) (Nat.le_refl _) (by simp; omega)
      simp only [Array.size_push] at ih
      simp only [List.length_cons]
      exact ih.trans (by omega)
    · rw [if_neg (fun z => h (one.mp ⟨z.1.2, z.2⟩)), if_neg (by simpa using h)]
      exact occ_all x c lim m (a + 1) st (by omega) (by omega)
theorem count_range (c : Nat) : ∀ (l : List Nat) (p : List Nat), ((List.range' p.length l.length).filter (fun i => decide ((p ++ l)[i]? = some c))).length = l.count c
  | [], p => by simp
  | a :: l, p => by
    have ih := count_range c l (p ++ [a])
    simp only [List.length_append, List.length_singleton, List.append_assoc, List.singleton_append] at ih
    rw [List.length_cons, List.range'_succ, List.filter_cons, List.getElem?_append_right (Nat.le_refl _)]
    simp only [Nat.sub_self, List.getElem?_cons_zero, Option.some.injEq]
    by_cases h : a = c
    · subst h; simp [ih]
    · simp [h, ih]
theorem occ_count (cs : List Nat) (c : Nat) : (occurrences (txS cs) (txS [c]) 0 (txS cs).length ((txS cs).length + 1)).length = cs.count c := by
  have e3 : txS [c] = (⟨#[c]⟩ : Str) := rfl
  rw [StrLaws.occ_eq, e3, Array.length_toList, occ_all (txS cs) c _ _ 0 (#[], 0) (Nat.le_refl _) (by simp)]
  have ec : ∀ m, ((List.range' 0 m).filter (fun i => decide ((txS cs).cps.toList[i]? = some c))).length = ((List.range' 0 m).filter (fun i => decide (cs[i]? = some c))).length := fun m => rfl
  rw [ec]
  have := count_range c cs []
  simp only [List.length_nil, List.nil_append] at this
  rw [len_txS, Nat.sub_zero, List.range'_concat, List.filter_append, List.length_append, this]
  simp
theorem split_count (cs : List Nat) (c : Nat) (hc : c < 256) : (Txt.split (txS cs) (txS [c])).length = cs.count c + 1 := by
  have oc := occ_count cs c
  unfold Txt.split
  split
  · rename_i h
    rcases Bool.or_eq_true_iff.mp h with h | h
    · have : cs.length < 1 := by simpa using h
      have : cs = [] := List.eq_nil_of_length_eq_zero (by omega)
      subst this
      rfl
    · exfalso
      have k1 : Builtin.Str.strKind (txS [c]) = 1 := by simp [Builtin.Str.strKind, txS, hc]
      have k2 : 1 ≤ Builtin.Str.strKind (txS cs) := by
        unfold Builtin.Str.strKind
        split
        · decide
        · split <;> decide
      rw [k1] at h
      have := of_decide_eq_true h
      omega
  · split
    · rename_i h
      rw [List.isEmpty_iff.mp h] at oc
      simp at oc
      simp only [List.length_singleton]
      omega
    · rw [length_partsBetween, oc]
theorem split_two {cs : List Nat} {c : Nat} (hc : c < 256) (h : cs.count c = 1) : ∃ A B, cs = A ++ c :: B ∧ c ∉ A ∧ c ∉ B ∧ Txt.split (txS cs) (txS [c]) = [txS A, txS B] := by
  have hl := split_count cs c hc
  rw [h] at hl
  have hj := StrLaws.join_split (txS cs) (txS [c])
  match hs : Txt.split (txS cs) (txS [c]), hl with
  | [p, q], _ =>
    rw [hs] at hj
    have e : p ++ txS [c] ++ q = txS cs := hj
    rw [← txS_list p, ← txS_list q, txS_app, txS_app, txS_inj] at e
    rw [← txS_list p, ← txS_list q]
    generalize p.cps.toList = A at *
    generalize q.cps.toList = B at *
    have hc' : A.count c + (B.count c + 1) = 1 := by
      rw [← e] at h
      simp only [List.append_assoc, List.count_append, List.count_cons, List.count_nil, beq_self_eq_true, if_true] at h
      omega
    exact ⟨A, B, by rw [← e]; simp, List.count_eq_zero.mp (by omega), List.count_eq_zero.mp (by omega), rfl⟩
theorem part_first {A B : List Nat} {c : Nat} (h : c ∉ A) : Txt.partition (txS (A ++ c :: B)) (txS [c]) = (txS A, txS [c], txS B) := by
  have e3 : txS [c] = (⟨#[c]⟩ : Str) := rfl
  have hat : (A ++ c :: B)[A.length]? = some c := by simp
  unfold Txt.partition
  rcases StrLaws.occ_head (txS (A ++ c :: B)) (txS [c]) 1 (Nat.le_refl 1) with ⟨_, hn⟩ | ⟨i, r, e, ha, hk⟩
  · exact (hn A.length ((StrLaws.subAt_one _ c _).mpr (by rw [list_txS]; exact hat))).elim
  · have hi : (A ++ c :: B)[i]? = some c := by have := (StrLaws.subAt_one _ c i).mp ha; rwa [list_txS] at this
    have h1 : ¬ i < A.length := fun z => by
      rw [List.getElem?_append_left z] at hi
      exact h (List.mem_of_getElem? hi)
    have h2 : ¬ A.length < i := fun z => hk A.length z ((StrLaws.subAt_one _ c _).mpr (by rw [list_txS]; exact hat))
    obtain rfl : i = A.length := by omega
    rw [e]
    show (strSub _ 0 A.length, txS [c], strSub _ (A.length + (txS [c]).length) _) = _
    have s1 : strSub (txS (A ++ c :: B)) 0 A.length = txS A := by
      rw [← txS_list (strSub _ _ _), StrLaws.strSub_toList, list_txS]
      simp
    have s2 : strSub (txS (A ++ c :: B)) (A.length + (txS [c]).length) (txS (A ++ c :: B)).length = txS B := by
      rw [← txS_list (strSub _ _ _), StrLaws.strSub_toList, list_txS, len_txS, len_txS]
      congr 1
      have e5 : (A ++ c :: B).drop (A.length + [c].length) = B := by
        rw [List.drop_append]
        simp
      rw [e5]
      exact List.take_of_length_le (by simp; omega)
    rw [s1, s2]
theorem in_one (cs : List Nat) (c : Nat) : inS (.str (txS [c])) (.str (txS cs)) = some (.bl (decide (c ∈ cs))) := by
  have e3 : txS [c] = (⟨#[c]⟩ : Str) := rfl
  have e := StrLaws.found_one (txS cs) c
  rw [list_txS] at e
  rw [e3]
  show some (D.bl _) = _
  rw [e]
theorem notin_one (cs : List Nat) (c : Nat) : notS (.str (txS [c])) (.str (txS cs)) = some (.bl (!decide (c ∈ cs))) := by
  have e3 : txS [c] = (⟨#[c]⟩ : Str) := rfl
  have e := StrLaws.found_one (txS cs) c
  rw [list_txS] at e
  rw [e3]
  show some (D.bl (!_)) = _
  rw [e]
theorem ix_tx0 (c : Nat) (r : List Nat) (h : (c :: r).length ≤ 16777216) : ixD (.str (txS (c :: r))) (.int 0) = some (.str (txS [c])) := by
  show (if (txS (c :: r)).length ≤ sizeLine then (atI (c :: r) 0).map fun c => D.str ⟨#[c]⟩ else none) = _
  rw [len_txS, if_pos (by simpa using h)]
  unfold atI
  rw [ixN_pos (by decide) (by simp)]
  rfl
theorem ix_txL (r : List Nat) (c : Nat) (h : (r ++ [c]).length ≤ 16777216) : ixD (.str (txS (r ++ [c]))) (.int (-1)) = some (.str (txS [c])) := by
  show (if (txS (r ++ [c])).length ≤ sizeLine then (atI (r ++ [c]) (-1)).map fun c => D.str ⟨#[c]⟩ else none) = _
  rw [len_txS, if_pos (by simpa using h)]
  unfold atI
  have e : ixN (r ++ [c]).length (-1) = some r.length := by
    unfold ixN
    simp
    omega
  rw [e]
  simp
  rfl
theorem len_tx (cs : List Nat) (h : cs.length ≤ 16777216) : lenD [.str (txS cs)] = some (.int cs.length) := by
  simp [lenD, h]
theorem add_tx (a b : List Nat) (h : a.length + b.length ≤ 16777216) : addD (.str (txS a)) (.str (txS b)) = some (.str (txS (a ++ b))) := by
  simp [addD, h]
def Asc (cs : List Nat) : Prop := ∀ c ∈ cs, c < 1000
theorem shal_tx {cs : List Nat} (h : Asc cs) (n : Nat) : shal n (.str (txS cs)) = true := by
  have : PyData.strOk (txS cs) = true := by
    unfold PyData.strOk
    rw [← Array.all_toList, list_txS, List.all_eq_true]
    intro c hc
    have := h c hc
    simp
    omega
  simp [shal, this]
theorem eqv_tx (a b : List Nat) : eqvD (.str (txS a)) (.str (txS b)) = decide (a = b) := by
  have e : (txS a == txS b) = decide (a = b) := by
    rw [Bool.eq_iff_iff, decide_eq_true_eq, beq_iff_eq, txS_inj]
  simpa [eqvD, toPy, PyData.eqv] using e
theorem eq_tx {a b : List Nat} (ha : Asc a) (hb : Asc b) : eqD (.str (txS a)) (.str (txS b)) = some (.bl (decide (a = b))) := by rw [eqD_ok (shal_tx ha 40) (shal_tx hb 40), eqv_tx]
theorem ne_tx {a b : List Nat} (ha : Asc a) (hb : Asc b) : neD (.str (txS a)) (.str (txS b)) = some (.bl (!decide (a = b))) := by rw [neD_ok (shal_tx ha 40) (shal_tx hb 40), eqv_tx]
end FL
namespace FL
open PySem PyProof.Rows L2 NumText
theorem kitS : kitF "str" "str" = some true ∧ kitF "int" "str" = some false ∧ kitF "NoneType" "str" = some false ∧ kitF "tuple" "str" = some false ∧ kitF "list" "str" = some false ∧ kitF "str" "tuple" = some false ∧ kitF "str" "bool" = some false := by
  refine ⟨?_, ?_, ?_, ?_, ?_, ?_, ?_⟩ <;> decide +kernel
@[simp] theorem isi_str_str (x : Str) : isiD "str" (.str x) = some (.bl true) := by simp [isiD, tyD, kitS.1]
@[simp] theorem isi_str_int (i : Int) : isiD "str" (.int i) = some (.bl false) := by simp [isiD, tyD, kitS.2.1]
@[simp] theorem isi_str_non : isiD "str" .non = some (.bl false) := by simp [isiD, tyD, kitS.2.2.1]
@[simp] theorem isi_str_tup (l : List D) : isiD "str" (.tup l) = some (.bl false) := by simp [isiD, tyD, kitS.2.2.2.1]
@[simp] theorem isi_str_lst (l : List D) : isiD "str" (.lst l) = some (.bl false) := by simp [isiD, tyD, kitS.2.2.2.2.1]
@[simp] theorem isi_int_str (x : Str) : isiD "int" (.str x) = some (.bl false) := by simp [isiD, tyD, kits.2.2.2.2.2.1]
theorem t_minus : Str.ofString "-" = txS [45] := by decide
theorem t_zero : Str.ofString "0" = txS [48] := by decide
theorem t_figs : Str.ofString "0123456789" = txS [48, 49, 50, 51, 52, 53, 54, 55, 56, 57] := by decide
theorem t_empty : Str.ofString "" = txS [] := by decide
theorem t_comma : Str.ofString "," = txS [44] := by decide
theorem t_lsh : Str.ofString "[" = txS [91] := by decide
theorem t_lop : Str.ofString "(" = txS [40] := by decide
theorem t_hsh : Str.ofString "]" = txS [93] := by decide
theorem t_hop : Str.ofString ")" = txS [41] := by decide
theorem t_dots : Str.ofString ".." = txS [46, 46] := by decide
theorem t_lend : Str.ofString "(.." = txS [40, 46, 46] := by decide
theorem t_hend : Str.ofString "..)" = txS [46, 46, 41] := by decide
theorem t_chend : Str.ofString ",..)" = txS [44, 46, 46, 41] := by decide
def dig (c : Nat) : Bool := decide (48 ≤ c) && decide (c ≤ 57)
def figs : List Nat → List Nat
  | [] => []
  | c :: r => if c = 45 then r else c :: r
def numL (cs : List Nat) : Bool := decide (1 ≤ (figs cs).length) && (decide ((figs cs).length ≤ 60) && ((figs cs).all dig && (decide ((figs cs).head? ≠ some 48) || decide (cs = [48]))))
def valT : List Nat → Int
  | [] => 0
  | c :: r => if c = 45 then -((digitsVal r : Nat) : Int) else ((digitsVal (c :: r) : Nat) : Int)
theorem asc_figs {cs : List Nat} (h : Asc cs) : Asc (figs cs) := by
  cases cs with
  | nil => exact h
  | cons c r =>
    show Asc (if c = 45 then r else c :: r)
    by_cases hc : c = 45
    · rw [if_pos hc]; exact fun d hd => h d (.tail _ hd)
    · rw [if_neg hc]; exact h
theorem figs_len (cs : List Nat) : (figs cs).length ≤ cs.length := by
  cases cs with
  | nil => simp [figs]
  | cons c r =>
    show (if c = 45 then r else c :: r).length ≤ _
    split <;> simp
theorem asc_lit {cs : List Nat} (h : cs.all (fun c => decide (c < 1000)) = true) : Asc cs := fun c hc => by simpa using List.all_eq_true.mp h c hc
theorem mem_fig (c : Nat) : decide (c ∈ [48, 49, 50, 51, 52, 53, 54, 55, 56, 57]) = dig c := by
  rw [Bool.eq_iff_iff]
  simp only [dig, decide_eq_true_eq, List.mem_cons, List.not_mem_nil, or_false, Bool.and_eq_true]
  omega
theorem figs_stw (cs : List Nat) (hl : cs.length ≤ 100000) (ds : List Sl) (h : ds[0]? = some (.v (.str (txS cs)))) : ifV (testT (bin2 stwD (getW 0) (konst (.str (Str.ofString "-"))))) (slsS (getW 0) (soP (konst (.int 1))) noP) (getV 0) ds = some (.str (txS (figs cs))) := by
  have z : cs.length ≤ 16777216 := by omega
  have e1 := stw_txS cs 45
  have e2 : Txt.slice (txS cs) (some 1) none = txS (cs.drop 1) := slice_from cs 1
  rw [t_minus]
  cases cs with
  | nil => simp [h, stwD, e1, figs]
  | cons c r =>
    simp only [List.length_cons] at z
    by_cases hc : c = 45
    · subst hc
      simp [h, stwD, e1, slsS, z, e2, figs]
    · simp [h, stwD, e1, hc, figs]
theorem is_number_eq {cs : List Nat} (ha : Asc cs) (hl : cs.length ≤ 100000) : GP.is_number.f [.str (txS cs)] = some (.val (.bl (numL cs))) := by
  have hf := figs_stw cs hl [.v (.str (txS cs)), .no] rfl
  have fl := figs_len cs
  have fa := asc_figs ha
  have lf := len_tx (figs cs) (by omega)
  have comp : compG (viaA (getV 1) asS) [none] (nameG 0) (fun _ => some true) (bin2 inS (getW 0) (konst (.str (Str.ofString "0123456789")))) [.v (.str (txS cs)), .v (.str (txS (figs cs)))] = some (((figs cs).map dig).map D.bl) := by
    rw [t_figs]
    refine compG_ok (items := (figs cs).map fun c => D.str (txS [c])) (by simp; rfl) (by simp; omega) ?_
    rw [compL_map (fun c => D.str (txS [c])) (fun c => D.bl (dig c)) (figs cs), List.map_map]
    · rfl
    · intro c _
      have := in_one [48, 49, 50, 51, 52, 53, 54, 55, 56, 57] c
      rw [mem_fig] at this
      exact ⟨_, rfl, by simp [slotsD, this]⟩
  have al : allD [.lst (((figs cs).map dig).map D.bl)] = some (.bl ((figs cs).all dig)) := by rw [allD_bls, List.all_map]; rfl
  have eq0 := eq_tx ha (asc_lit (cs := [48]) rfl)
  refine run_rt ?_
  unfold GP.is_number.g
  have ar : args 2 [.str (txS cs)] = [.v (.str (txS cs)), .no] := by simp [args]
  rw [ar, seq_nx (ds' := [.v (.str (txS cs)), .no]) (by simp), seq_nx (ds' := [.v (.str (txS cs)), .v (.str (txS (figs cs)))]) (by rw [setG_eq, hf]; rfl)]
  unfold numL
  generalize hF : figs cs = F at *
  by_cases h1 : 1 ≤ F.length
  · have k1 : ¬ ((F.length : Int) < 1) := by omega
    by_cases h2 : F.length ≤ 60
    · have k2 : ¬ ((60 : Int) < (F.length : Int)) := by omega
      rw [seq_nx (ds' := [.v (.str (txS cs)), .v (.str (txS F))]) (by simp [lf, k1, k2])]
      cases h3 : F.all dig with
      | false =>
        rw [h3] at al
        refine seq_rt ?_
        simp only [ifG_eq, notT_eq, testT_eq, callB_eq, consA_eq, mkL_eq, comp, nilA_eq, Option.map_some, Option.bind_some, al, truD_bl]
        simp [h1, h2, h3]
      | true =>
        rw [h3] at al
        rw [seq_nx (ds' := [.v (.str (txS cs)), .v (.str (txS F))]) (by
          simp only [ifG_eq, notT_eq, testT_eq, callB_eq, consA_eq, mkL_eq, comp, nilA_eq, Option.map_some, Option.bind_some, al, truD_bl]
          simp)]
        cases F with
        | nil => simp at h1
        | cons c r =>
          have ix := ix_tx0 c r (by omega)
          have ne0 := ne_tx (a := [c]) (fun d hd => by rw [List.mem_singleton.mp hd]; exact fa c (.head _)) (asc_lit (cs := [48]) rfl)
          rw [t_zero]
          have h5 : r.length ≤ 59 := by simp at h2; omega
          by_cases h4 : c = 48
          · subst h4
            simp [ix, ne0, eq0, h1, h2, h3, h5]
          · simp [ix, ne0, eq0, h1, h2, h3, h4, h5]
    · have k2 : (60 : Int) < (F.length : Int) := by omega
      refine seq_rt ?_
      simp [lf, k1, k2, h1, h2]
  · have k1 : (F.length : Int) < 1 := by omega
    refine seq_rt ?_
    simp [lf, k1, h1]
theorem int_text {cs : List Nat} (h : numL cs = true) : cs.length ≤ 61 ∧ intText? (txS cs) = some (valT cs) := by
  unfold numL at h
  simp only [Bool.and_eq_true, decide_eq_true_eq] at h
  obtain ⟨h1, h2, h3, h4⟩ := h
  have hd : AllDigits (figs cs) := fun c hc => by
    have := List.all_eq_true.mp h3 c hc
    simpa [dig] using this
  cases cs with
  | nil => simp [figs] at h1
  | cons c r =>
    by_cases hc : c = 45
    · subst hc
      have e : figs (45 :: r) = r := by simp [figs]
      rw [e] at h1 h2 hd
      refine ⟨by simp; omega, ?_⟩
      have := intText_neg (x := txS (45 :: r)) (cs := r) rfl hd (by intro z; rw [z] at h1; simp at h1) (by simp; omega)
      rw [this]
      simp [valT]
    · have e : figs (c :: r) = c :: r := by simp [figs, hc]
      rw [e] at h1 h2 hd
      refine ⟨by simp at h2 ⊢; omega, ?_⟩
      have := intText_digits (x := txS (c :: r)) hd (by simp) (by simp at h2 ⊢; omega)
      rw [this]
      simp [valT, hc]
theorem read_number_eq {cs : List Nat} (ha : Asc cs) (hl : cs.length ≤ 100000) (h : numL cs = true) : GP.read_number.f [.str (txS cs)] = some (.val (.int (valT cs))) := by
  have e := is_number_eq ha hl
  rw [h] at e
  obtain ⟨i1, i2⟩ := int_text h
  have it : intTD [.str (txS cs)] = some (.int (valT cs)) := by
    simp only [intTD, len_txS]
    rw [if_pos (by omega), i2]
    rfl
  refine run_rt ?_
  unfold GP.read_number.g
  simp [args, e, it]
def readL (cs : List Nat) : Option Int := if numL cs = true then some (valT cs) else none
theorem law_read_eq {cs : List Nat} (ha : Asc cs) (hl : cs.length ≤ 100000) : GL.read.f [.str (txS cs)] = some (.val (oi (readL cs))) := by
  have z : cs.length ≤ 16777216 := by omega
  have fl := figs_len cs
  have fa := asc_figs ha
  have lf := len_tx (figs cs) (by omega)
  have eqe := eq_tx fa (asc_lit (cs := []) rfl)
  have ne0 := ne_tx ha (asc_lit (cs := [48]) rfl)
  refine run_rt ?_
  unfold GL.read.g
  have ar : args 3 [.str (txS cs)] = [.v (.str (txS cs)), .no, .no] := by simp [args]
  rw [ar, seq_nx (ds' := [.v (.str (txS cs)), .v (.str (txS cs)), .no]) (by simp), seq_nx (ds' := [.v (.str (txS cs)), .v (.str (txS (figs cs))), .no]) (by
    rw [t_minus]
    have e2 : Txt.slice (txS cs) (some 1) none = txS (cs.drop 1) := slice_from cs 1
    cases cs with
    | nil =>
      have e1 : Txt.slice (txS []) none (some 1) = txS [] := by decide
      have eq1 := eq_tx (a := []) (b := [45]) (asc_lit rfl) (asc_lit rfl)
      simp [slsS, e1, eq1, figs]
    | cons c r =>
      have e1 : Txt.slice (txS (c :: r)) none (some 1) = txS [c] := by
        have := slice_to (c :: r) (b := 1) (by simp)
        simpa using this
      have eq1 := eq_tx (a := [c]) (b := [45]) (fun d hd => by rw [List.mem_singleton.mp hd]; exact ha c (.head _)) (asc_lit rfl)
      simp only [List.length_cons] at z
      by_cases hc : c = 45
      · subst hc
        simp [slsS, z, e1, e2, eq1, figs]
      · simp [slsS, z, e1, eq1, hc, figs])]
  have lp : ∀ (f : List Nat) (a b : Sl) (x : Sl), ∃ y, loopG (nameG 2) GL.read.b1 (f.map fun c => D.str (txS [c])) [a, b, x] = if f.all dig = true then some (.nx [a, b, y]) else some (.rt (.val .non)) := by
    intro f
    induction f with
    | nil => intro a b x; exact ⟨x, by simp [loopG]⟩
    | cons c r ih =>
      intro a b x
      have := notin_one [48, 49, 50, 51, 52, 53, 54, 55, 56, 57] c
      rw [mem_fig, ← t_figs] at this
      cases hd : dig c with
      | false =>
        rw [hd] at this
        exact ⟨x, by simp [loopG, GL.read.b1, this, hd]⟩
      | true =>
        rw [hd] at this
        have t1 : GL.read.b1 [a, b, .v (.str (txS [c]))] = some (.nx [a, b, .v (.str (txS [c]))]) := by simp [GL.read.b1, this]
        obtain ⟨y, ih'⟩ := ih a b (.v (.str (txS [c])))
        refine ⟨y, ?_⟩
        simp only [List.map_cons, loopG, nameG, Option.bind_some, List.set_cons_succ, List.set_cons_zero, t1, ih']
        simp [hd]
  obtain ⟨Y, lpf⟩ := lp (figs cs) (.v (.str (txS cs))) (.v (.str (txS (figs cs)))) .no
  have sg : viaA (getV 1) asS [.v (.str (txS cs)), .v (.str (txS (figs cs))), .no] = some ((figs cs).map fun c => D.str (txS [c])) := by simp; rfl
  have tail : ∀ h3 : (figs cs).all dig = true, numL cs = true → seqG (forG (viaA (getV 1) asS) (nameG 2) GL.read.b1) (retG (callB intTD (consA (getW 0) nilA))) [.v (.str (txS cs)), .v (.str (txS (figs cs))), .no] = some (.rt (.val (.int (valT cs)))) := by
    intro h3 hn
    obtain ⟨i1, i2⟩ := int_text hn
    have it : intTD [.str (txS cs)] = some (.int (valT cs)) := by
      simp only [intTD, len_txS]
      rw [if_pos (by omega), i2]
      rfl
    rw [h3, if_pos rfl] at lpf
    rw [seq_nx (ds' := [.v (.str (txS cs)), .v (.str (txS (figs cs))), Y]) (by rw [forG_eq, sg]; exact lpf)]
    simp [it]
  rw [t_empty, t_zero]
  unfold readL
  have nl : numL cs = (decide (1 ≤ (figs cs).length) && (decide ((figs cs).length ≤ 60) && ((figs cs).all dig && (decide ((figs cs).head? ≠ some 48) || decide (cs = [48]))))) := rfl
  generalize hF : figs cs = F at *
  cases F with
  | nil =>
    rw [nl]
    refine seq_rt ?_
    simp [eqe]
  | cons c r =>
    have ix := ix_tx0 c r (by omega)
    have eq0 := eq_tx (a := [c]) (b := [48]) (fun d hd => by rw [List.mem_singleton.mp hd]; exact fa c (.head _)) (asc_lit rfl)
    simp only [List.length_cons] at lf nl
    by_cases h2 : r.length + 1 ≤ 60
    · have k2 : ¬ ((60 : Int) < (r.length : Int) + 1) := by omega
      by_cases h4 : c = 48 ∧ cs ≠ [48]
      · have : numL cs = false := by rw [nl]; simp [h4.1, h4.2]
        rw [this]
        obtain ⟨rfl, h5⟩ := h4
        refine seq_rt ?_
        simp [eqe, lf, k2, ix, eq0, ne0, h5]
      · have hh : (decide ((c :: r).head? ≠ some 48) || decide (cs = [48])) = true := by
          by_cases hc : c = 48
          · have : cs = [48] := Classical.byContradiction fun z => h4 ⟨hc, z⟩
            simp [this]
          · simp [hc]
        rw [seq_nx (ds' := [.v (.str (txS cs)), .v (.str (txS (c :: r))), .no]) (by
          by_cases hc : c = 48
          · have h5 : cs = [48] := Classical.byContradiction fun z => h4 ⟨hc, z⟩
            subst hc
            rw [show decide (cs = [48]) = true from by simp [h5]] at ne0
            simp [eqe, lf, k2, ix, eq0, ne0]
          · simp [eqe, lf, k2, ix, eq0, hc])]
        cases h3 : (c :: r).all dig with
        | true =>
          have : numL cs = true := by rw [nl, h3, hh]; simp [h2]
          rw [if_pos this]
          exact tail h3 this
        | false =>
          have : numL cs = false := by rw [nl, h3]; simp
          rw [this]
          rw [h3, if_neg (by simp)] at lpf
          refine seq_rt ?_
          rw [forG_eq, sg]
          exact lpf
    · have k2 : (60 : Int) < (r.length : Int) + 1 := by omega
      have : numL cs = false := by rw [nl]; simp [h2]
      rw [this]
      refine seq_rt ?_
      simp [eqe, lf, k2]
end FL
section
open PySem PyProof.Rows L2 FL
noncomputable def K91.X_span_1.x : List Sl → Bool := (seqX (setG 2 (methV 0 [7, 8, 9, 10] GP.M_low_88ddca (getV 0) nilA))
  (seqX (setG 3 (methV 0 [7, 8, 9, 10] GP.M_behind_f72aa6 (getV 1) nilA))
  (ifX (testT (callV 2 GP.ends_ahead.f (consA (getW 3) (consA (getW 2) nilA)))) alwaysX neverX)))
noncomputable def K91.X_span_1.f : List D → Bool := runX K91.X_span_1.x 4
noncomputable def K91.X_read_number_11.x : List Sl → Bool := (ifX (notT (testT (callV 1 GP.is_number.f (consA (getW 0) nilA)))) alwaysX neverX)
noncomputable def K91.X_read_number_11.f : List D → Bool := runX K91.X_read_number_11.x 1
noncomputable def K91.X_read_low_end_11.x : List Sl → Bool := (seqX (ifG (testB (bin2 eqD (getW 0) (konst (.str "(..")))) (retDG (konst (.ins 9 []))) nextG)
  (orX (ifX (testT (bin2 stwD (getW 0) (konst (.str "[")))) (callX 1 K91.X_read_number_11.f (consA (slsS (getW 0) (soP (konst (.int 1))) noP) nilA)) neverX)
  (seqX (ifG (testT (bin2 stwD (getW 0) (konst (.str "[")))) (retDG (makeG 7 1 GP.Shut___init__.f (consA (callV 1 GP.read_number.f (consA (slsS (getW 0) (soP (konst (.int 1))) noP) nilA)) nilA))) nextG)
  (orX (ifX (testT (bin2 stwD (getW 0) (konst (.str "(")))) (callX 1 K91.X_read_number_11.f (consA (slsS (getW 0) (soP (konst (.int 1))) noP) nilA)) neverX)
  (seqX (ifG (testT (bin2 stwD (getW 0) (konst (.str "(")))) (retDG (makeG 8 1 GP.Shut___init__.f (consA (callV 1 GP.read_number.f (consA (slsS (getW 0) (soP (konst (.int 1))) noP) nilA)) nilA))) nextG)
  alwaysX)))))
noncomputable def K91.X_read_low_end_11.f : List D → Bool := runX K91.X_read_low_end_11.x 1
noncomputable def K91.X_read_high_end_11.x : List Sl → Bool := (seqX (ifG (testB (bin2 eqD (getW 0) (konst (.str "..)")))) (retDG (konst (.ins 9 []))) nextG)
  (orX (ifX (testT (bin2 enwD (getW 0) (konst (.str "]")))) (callX 1 K91.X_read_number_11.f (consA (slsS (getW 0) noP (soP (un1 negD (konst (.int 1))))) nilA)) neverX)
  (seqX (ifG (testT (bin2 enwD (getW 0) (konst (.str "]")))) (retDG (makeG 7 1 GP.Shut___init__.f (consA (callV 1 GP.read_number.f (consA (slsS (getW 0) noP (soP (un1 negD (konst (.int 1))))) nilA)) nilA))) nextG)
  (orX (ifX (testT (bin2 enwD (getW 0) (konst (.str ")")))) (callX 1 K91.X_read_number_11.f (consA (slsS (getW 0) noP (soP (un1 negD (konst (.int 1))))) nilA)) neverX)
  (seqX (ifG (testT (bin2 enwD (getW 0) (konst (.str ")")))) (retDG (makeG 8 1 GP.Shut___init__.f (consA (callV 1 GP.read_number.f (consA (slsS (getW 0) noP (soP (un1 negD (konst (.int 1))))) nilA)) nilA))) nextG)
  alwaysX)))))
noncomputable def K91.X_read_high_end_11.f : List D → Bool := runX K91.X_read_high_end_11.x 1
noncomputable def K91.X_read_ends_11.x : List Sl → Bool := (orX (ifX (notT (testT (isiG "str" (getW 0)))) alwaysX neverX)
  (seqX (ifG (notT (testT (isiG "str" (getW 0)))) (fun _ => none) nextG)
  (seqX (setG 1 (mkL (splA (getW 0) (konst (.str ",")))))
  (orX (ifX (testB (bin2 neD (callB lenD (consA (getW 1) nilA)) (konst (.int 2)))) alwaysX neverX)
  (seqX (ifG (testB (bin2 neD (callB lenD (consA (getW 1) nilA)) (konst (.int 2)))) (fun _ => none) nextG)
  (orX (callX 1 K91.X_read_low_end_11.f (consA (bin2 ixD (getW 1) (konst (.int 0))) nilA)) (thenX (callV 1 GP.read_low_end.f (consA (bin2 ixD (getW 1) (konst (.int 0))) nilA)) (callX 1 K91.X_read_high_end_11.f (consA (bin2 ixD (getW 1) (konst (.int 1))) nilA)))))))))
noncomputable def K91.X_read_ends_11.f : List D → Bool := runX K91.X_read_ends_11.x 2
noncomputable def K91.X_read_span_1.x : List Sl → Bool := (seqX (setG 1 (callV 1 GP.read_ends.f (consA (getW 0) nilA)))
  (callX 2 K91.X_span_1.f (consA (bin2 ixD (getW 1) (konst (.int 0))) (consA (bin2 ixD (getW 1) (konst (.int 1))) nilA))))
noncomputable def K91.X_read_span_1.f : List D → Bool := runX K91.X_read_span_1.x 2
noncomputable def K91.X_read_span_11.x : List Sl → Bool := (callX 1 K91.X_read_ends_11.f (consA (getW 0) nilA))
noncomputable def K91.X_read_span_11.f : List D → Bool := runX K91.X_read_span_11.x 2
noncomputable def K91.L_number.g : FS := (seqG (ifG (testB (bin2 eqD (bin2 modD (getW 0) (konst (.int 3))) (konst (.int 0)))) (retG (bin2 subD (bin2 modD (bin2 mulD (bin2 fdivD (getW 0) (konst (.int 3))) (bin2 addD (bin2 powD (konst (.int 10)) (konst (.int 41))) (konst (.int 9)))) (bin2 addD (bin2 mulD (konst (.int 2)) (bin2 powD (konst (.int 10)) (konst (.int 59)))) (konst (.int 1)))) (bin2 powD (konst (.int 10)) (konst (.int 59))))) nextG)
  (retG (bin2 subD (bin2 modD (bin2 fdivD (getW 0) (konst (.int 3))) (konst (.int 41))) (konst (.int 20)))))
noncomputable def K91.L_number.f : List D → Option Ret := runG K91.L_number.g 1
noncomputable def K91.L_word.g : FS := (seqG (ifG (testB (bin2 eqD (bin2 modD (getW 0) (konst (.int 8))) (konst (.int 1)))) (retG (konst (.str ".."))) nextG)
  (seqG (ifG (testB (bin2 eqD (bin2 modD (getW 0) (konst (.int 8))) (konst (.int 2)))) (seqG (setG 2 (mkL (sized (consA (konst (.str "007")) (consA (konst (.str "-0")) (consA (konst (.str "+3")) (consA (konst (.str " 3")) (consA (konst (.str "3 ")) (consA (konst (.str "")) (consA (konst (.str "-")) (consA (bin2 addD (konst (.str "1")) (bin2 mulSD (konst (.str "0")) (konst (.int 60)))) (consA (bin2 addD (konst (.str "-1")) (bin2 mulSD (konst (.str "0")) (konst (.int 59)))) (consA (konst (.str "00")) (consA (konst (.str ".")) (consA (konst (.str "...")) (consA (konst (.str "-03")) (consA (konst (.str "1_0")) nilA)))))))))))))))))
  (retG (bin2 ixD (getW 2) (bin2 modD (bin2 fdivD (getW 0) (konst (.int 8))) (konst (.int 14)))))) nextG)
  (retG (callB strD (consA (getW 1) nilA)))))
noncomputable def K91.L_word.f : List D → Option Ret := runG K91.L_word.g 3
noncomputable def K91.L_spoilt.g : FS := (seqG (setG 2 (konst (.str "[](),.-0123 =;+a/\n~")))
  (seqG (setG 3 (bin2 ixD (getW 2) (bin2 modD (bin2 fdivD (getW 1) (konst (.int 12))) (callB lenD (consA (getW 2) nilA)))))
  (seqG (setG 4 (bin2 modD (bin2 fdivD (getW 1) (konst (.int 240))) (bin2 addD (callB lenD (consA (getW 0) nilA)) (konst (.int 1)))))
  (seqG (ifG (testB (bin2 eqD (bin2 modD (getW 1) (konst (.int 12))) (konst (.int 1)))) (retG (bin2 addD (bin2 addD (slsS (getW 0) noP (soP (getW 4))) (getW 3)) (slsS (getW 0) (soP (getW 4)) noP))) nextG)
  (seqG (ifG (testB (bin2 eqD (bin2 modD (getW 1) (konst (.int 12))) (konst (.int 2)))) (retG (bin2 addD (bin2 addD (slsS (getW 0) noP (soP (getW 4))) (getW 3)) (slsS (getW 0) (soP (bin2 addD (getW 4) (konst (.int 1)))) noP))) nextG)
  (seqG (ifG (orT (testB (bin2 eqD (bin2 modD (getW 1) (konst (.int 12))) (konst (.int 3)))) (testB (bin2 eqD (bin2 modD (getW 1) (konst (.int 12))) (konst (.int 4))))) (retG (bin2 addD (slsS (getW 0) noP (soP (getW 4))) (slsS (getW 0) (soP (bin2 addD (getW 4) (konst (.int 1)))) noP))) nextG)
  (retG (getW 0))))))))
noncomputable def K91.L_spoilt.f : List D → Option Ret := runG K91.L_spoilt.g 5
noncomputable def K91.L_due.g : FS := (seqG (ifG (orT (testB (bin2 ltD (callB lenD (consA (getW 0) nilA)) (konst (.int 2)))) (orT (testB (bin2 (inD true) (bin2 ixD (getW 0) (konst (.int 0))) (mkL (sized (consA (konst (.str "[")) (consA (konst (.str "(")) nilA)))))) (orT (testB (bin2 (inD true) (bin2 ixD (getW 0) (un1 negD (konst (.int 1)))) (mkL (sized (consA (konst (.str "]")) (consA (konst (.str ")")) nilA)))))) (testB (bin2 notS (konst (.str ",")) (getW 0)))))) (retG (konst (.str "NoText"))) nextG)
  (seqG (asgG (tupG 3 (tgCons (nameG 1) (tgCons (nameG 2) (tgCons (nameG 3) tgNil)))) (bin2 prtD (slsS (getW 0) (soP (konst (.int 1))) (soP (un1 negD (konst (.int 1))))) (konst (.str ","))))
  (seqG (setG 4 (callV 4 GL.end3.f (consA (bin2 ixD (getW 0) (konst (.int 0))) (consA (getW 1) (consA (konst (.str "[")) (consA (callB int1D (consA (bin2 eqD (bin2 ixD (getW 0) (konst (.int 0))) (konst (.str "("))) nilA)) nilA))))))
  (seqG (setG 5 (callV 4 GL.end3.f (consA (bin2 ixD (getW 0) (un1 negD (konst (.int 1)))) (consA (getW 3) (consA (konst (.str "]")) (consA (callB int1D (consA (bin2 eqD (bin2 ixD (getW 0) (un1 negD (konst (.int 1)))) (konst (.str "]"))) nilA)) nilA))))))
  (seqG (ifG (orT (testB (bin2 eqD (getW 4) (mkL (sized nilA)))) (testB (bin2 eqD (getW 5) (mkL (sized nilA))))) (retG (konst (.str "NoText"))) nextG)
  (seqG (ifG (andT (testB (bin2 notD (bin2 ixD (getW 4) (konst (.int 0))) (konst .non))) (andT (testB (bin2 notD (bin2 ixD (getW 5) (konst (.int 0))) (konst .non))) (testB (bin2 geD (bin2 ixD (getW 4) (konst (.int 0))) (bin2 ixD (getW 5) (konst (.int 0))))))) (retG (konst (.str "Empty"))) nextG)
  (retG (mkT (sized (consA (bin2 ixD (getW 4) (konst (.int 0))) (consA (bin2 ixD (getW 5) (konst (.int 0))) nilA)))))))))))
noncomputable def K91.L_due.f : List D → Option Ret := runG K91.L_due.g 6
noncomputable def K91.L_told.g : FS := (seqG (setG 2 (mkL (sized nilA)))
  (seqG (setG 3 (konst .non))
  (seqG (tryG2 4 1 11 (ifG (testT (getW 1)) (setG 3 (callV 1 GP.read_span.f (consA (getW 0) nilA))) (setG 3 (callV 1 GP.read_number.f (consA (getW 0) nilA)))) (ifX (testT (getW 1)) (callX 1 K91.X_read_span_1.f (consA (getW 0) nilA)) neverX) (ifX (testT (getW 1)) (callX 1 K91.X_read_span_11.f (consA (getW 0) nilA)) (callX 1 K91.X_read_number_11.f (consA (getW 0) nilA)))
  (setG 2 (mkL (sized (consA (isxG 4 [(1, false), (11, true)]) (consA (isxG 4 [(1, true), (11, false)]) (consA (isxG 4 [(1, true), (11, true)]) nilA)))))))
  (seqG (ifG (testB (bin2 eqD (getW 2) (mkL (sized (consA (konst (.bl true)) (consA (konst (.bl false)) (consA (konst (.bl true)) nilA))))))) (retG (konst (.str "NoText"))) nextG)
  (seqG (ifG (testB (bin2 eqD (getW 2) (mkL (sized (consA (konst (.bl false)) (consA (konst (.bl true)) (consA (konst (.bl true)) nilA))))))) (retG (konst (.str "Empty"))) nextG)
  (retG (getW 3)))))))
noncomputable def K91.L_told.f : List D → Option Ret := runG K91.L_told.g 5
noncomputable def K91.L_shown.g : FS := (seqG (setG 1 (konst (.str "(..")))
  (seqG (ifG (testB (bin2 notD (bin2 ixD (getW 0) (konst (.int 0))) (konst .non))) (setG 1 (bin2 addD (konst (.str "[")) (callB strD (consA (bin2 ixD (getW 0) (konst (.int 0))) nilA)))) nextG)
  (seqG (ifG (testB (bin2 isD (bin2 ixD (getW 0) (konst (.int 1))) (konst .non))) (retG (bin2 addD (getW 1) (konst (.str ",..)")))) nextG)
  (retG (bin2 addD (bin2 addD (bin2 addD (getW 1) (konst (.str ","))) (callB strD (consA (bin2 ixD (getW 0) (konst (.int 1))) nilA))) (konst (.str ")")))))))
noncomputable def K91.L_shown.f : List D → Option Ret := runG K91.L_shown.g 2
noncomputable def K91.law.b1 : FS := (seqG (setG 5 (callV 1 GL.read.f (consA (getW 4) nilA)))
  (seqG (setG 6 (callV 2 K91.L_told.f (consA (getW 4) (consA (konst (.bl false)) nilA))))
  (ifG (orT (andT (testB (bin2 isD (getW 5) (konst .non))) (testB (bin2 neD (getW 6) (konst (.str "NoText"))))) (andT (testB (bin2 notD (getW 5) (konst .non))) (orT (notT (testT (callV 1 GL.whole.f (consA (getW 6) nilA)))) (testB (bin2 neD (getW 6) (getW 5)))))) (retG (konst (.bl false))) nextG)))
noncomputable def K91.law.b2 : FS := (ifG (orT (andT (testB (bin2 isD (bin2 ixD (getW 5) (getW 9)) (konst .non))) (testB (bin2 notD (bin2 ixD (getW 6) (getW 9)) (konst .non)))) (andT (testB (bin2 notD (bin2 ixD (getW 5) (getW 9)) (konst .non))) (notT (testT (callV 1 GL.whole.f (consA (bin2 ixD (getW 6) (getW 9)) nilA)))))) (retG (konst (.bl false))) nextG)
noncomputable def K91.law.g : FS := (seqG (setG 1 (callV 1 K91.L_number.f (consA (callV 2 GL.cell_at.f (consA (getW 0) (consA (konst (.int 0)) nilA))) nilA)))
  (seqG (setG 2 (callV 1 K91.L_number.f (consA (callV 2 GL.cell_at.f (consA (getW 0) (consA (konst (.int 1)) nilA))) nilA)))
  (seqG (ifG (testB (bin2 eqD (bin2 modD (callV 2 GL.cell_at.f (consA (getW 0) (consA (konst (.int 2)) nilA))) (konst (.int 2))) (konst (.int 0)))) (setG 2 (bin2 subD (bin2 addD (getW 1) (bin2 modD (bin2 fdivD (callV 2 GL.cell_at.f (consA (getW 0) (consA (konst (.int 2)) nilA))) (konst (.int 2))) (konst (.int 19)))) (konst (.int 9)))) nextG)
  (seqG (setG 3 (mkL (sized (consA (callV 2 K91.L_word.f (consA (callV 2 GL.cell_at.f (consA (getW 0) (consA (konst (.int 3)) nilA))) (consA (getW 1) nilA))) (consA (callV 2 K91.L_word.f (consA (callV 2 GL.cell_at.f (consA (getW 0) (consA (konst (.int 4)) nilA))) (consA (getW 2) nilA))) nilA)))))
  (seqG (forG (viaA (getV 3) asLT) (nameG 4) K91.law.b1)
  (seqG (setG 7 (callV 2 GL.cell_at.f (consA (getW 0) (consA (konst (.int 5)) nilA))))
  (seqG (setG 8 (bin2 addD (bin2 addD (bin2 addD (bin2 addD (bin2 ixD (mkL (sized (consA (konst (.str "[")) (consA (konst (.str "(")) nilA)))) (bin2 modD (getW 7) (konst (.int 2)))) (bin2 ixD (getW 3) (konst (.int 0)))) (konst (.str ","))) (bin2 ixD (getW 3) (konst (.int 1)))) (bin2 ixD (mkL (sized (consA (konst (.str "]")) (consA (konst (.str ")")) nilA)))) (bin2 modD (bin2 fdivD (getW 7) (konst (.int 2))) (konst (.int 2))))))
  (seqG (setG 8 (callV 2 K91.L_spoilt.f (consA (getW 8) (consA (callV 2 GL.cell_at.f (consA (getW 0) (consA (konst (.int 6)) nilA))) nilA))))
  (seqG (ifG (testB (bin2 eqD (bin2 modD (bin2 fdivD (getW 7) (konst (.int 4))) (konst (.int 20))) (konst (.int 7)))) (retG (bin2 eqD (callV 2 K91.L_told.f (consA (bin2 ixD (mkL (sized (consA (konst .non) (consA (konst (.int 7)) (consA (mkL (sized (consA (konst (.str "[1,2)")) nilA))) nilA))))) (bin2 modD (bin2 fdivD (getW 7) (konst (.int 80))) (konst (.int 3)))) (consA (bin2 eqD (bin2 modD (bin2 fdivD (getW 7) (konst (.int 240))) (konst (.int 2))) (konst (.int 0))) nilA))) (konst (.str "NoText")))) nextG)
  (seqG (setG 5 (callV 1 K91.L_due.f (consA (getW 8) nilA)))
  (seqG (setG 6 (callV 2 K91.L_told.f (consA (getW 8) (consA (konst (.bl true)) nilA))))
  (seqG (ifG (orT (testT (isiG "str" (getW 5))) (testT (isiG "str" (getW 6)))) (retG (andV (isiG "str" (getW 5)) (andV (isiG "str" (getW 6)) (bin2 eqD (getW 6) (getW 5))))) nextG)
  (seqG (ifG (orT (notT (testT (isiG "tuple" (getW 6)))) (testB (bin2 neD (callB lenD (consA (getW 6) nilA)) (konst (.int 2))))) (retG (konst (.bl false))) nextG)
  (seqG (forG (rng1 (konst (.int 2))) (nameG 9) K91.law.b2)
  (seqG (setG 10 (callV 1 GP.show_span.f (consA (getW 6) nilA)))
  (seqG (ifG (orT (testB (bin2 neD (getW 6) (getW 5))) (orT (notT (testT (isiG "str" (getW 10)))) (testB (bin2 neD (getW 10) (callV 1 K91.L_shown.f (consA (getW 5) nilA)))))) (retG (konst (.bl false))) nextG)
  (seqG (ifG (testB (bin2 gtD (callB mxLD (consA (mkL (compG (viaA (getV 3) asLT) [none] (nameG 0) (fun _ => some true) (callB lenD (consA (getW 0) nilA)))) nilA)) (konst (.int 59)))) (retG (konst (.bl true))) nextG)
  (retG (bin2 eqD (callV 1 GP.read_span.f (consA (getW 10) nilA)) (getW 5))))))))))))))))))))
noncomputable def K91.law.f : List D → Option Ret := runG K91.law.g 11
end
namespace K91
open PySem PyProof.Rows L2 FL
def top (i : Nat) : Stmt := PySem.Challenge.pw_spanmap_k91_numbers_and_spans_read.main.body.getD i (.Pass ⟨0, 0, 0, 0⟩)
structure Glb (K : Frag) (mg : Str → Option Value) : Prop where
  b_ValueError : mg "ValueError" = none
  b_all : mg "all" = none
  b_bool : mg "bool" = none
  b_int : mg "int" = none
  b_isinstance : mg "isinstance" = none
  b_len : mg "len" = none
  b_max : mg "max" = none
  b_range : mg "range" = none
  b_str : mg "str" = none
  b_tuple : mg "tuple" = none
  c_FIGURES : ∃ t, mg "FIGURES" = some (.str "0123456789" t)
  c_MOST_FIGURES : ∃ t, mg "MOST_FIGURES" = some (.int 60 t)
  fl_place : FldOk K "place" [(7, 0), (8, 0)]
  isx_NoText_1_11 : ∃ D, mg "NoText" = some (.ref D) ∧ IsxOk K (.ref D) [(1, false), (11, true)]
  isx_Empty_1_11 : ∃ D, mg "Empty" = some (.ref D) ∧ IsxOk K (.ref D) [(1, true), (11, false)]
  isxB_ValueError_1_11 : IsxOk K (.type "ValueError") [(1, true), (11, true)]
section
variable {P : Program} {w : World} {K : Frag} {mg : Str → Option Value} {base : Heap}
theorem sc_End_low : FnScope ["self"] ["self"] (defScope (inClass (top 1) 0)) := ⟨rfl, rfl, rfl, by decide +kernel, rfl, by decide +kernel, by decide +kernel⟩
theorem body_End_low {f : Addr} (T : Glb K mg)  (cdv : Value) (A : Around) (outer : List Env) (s : Shared) (H : Hp) (E : XK) (hr : Room 0 (A.deeper (envOfC "End.low" (defScope (inClass (top 1) 0)) s.heap.objs.size f cdv))) :
    PSsv (cxOf CX0 P w K mg base ["self"] "End.low" (defScope (inClass (top 1) 0)) f cdv A outer s H E).nox (defBody (inClass (top 1) 0)) GP.Endless_low.g := by
  have nd : (["self"] : List Str).Nodup := sc_End_low.nd
  exact (pssv_one (psv_ret (PV.w pv_non)))
theorem fok_End_low {f : Addr} {fd : FuncData} (Fn : Fun K "low" "End.low" (inClass (top 1) 0) f fd) (T : Glb K mg)  : FnOk P w K mg base CX0 1 f fd ["self"] (spF K 1 GP.Endless_low.f) :=
  fun_ok (k := 0) (F := GP.Endless_low.f) (g := GP.Endless_low.g) Fn sc_End_low (fun cdv A outer s H E hr => body_End_low T  cdv A outer s H E hr) (fun ds r hl e => does_run e)
theorem sc_End_behind : FnScope ["self"] ["self"] (defScope (inClass (top 1) 1)) := ⟨rfl, rfl, rfl, by decide +kernel, rfl, by decide +kernel, by decide +kernel⟩
theorem body_End_behind {f : Addr} (T : Glb K mg)  (cdv : Value) (A : Around) (outer : List Env) (s : Shared) (H : Hp) (E : XK) (hr : Room 0 (A.deeper (envOfC "End.behind" (defScope (inClass (top 1) 1)) s.heap.objs.size f cdv))) :
    PSsv (cxOf CX0 P w K mg base ["self"] "End.behind" (defScope (inClass (top 1) 1)) f cdv A outer s H E).nox (defBody (inClass (top 1) 1)) GP.Endless_behind.g := by
  have nd : (["self"] : List Str).Nodup := sc_End_behind.nd
  exact (pssv_one (psv_ret (PV.w pv_non)))
theorem fok_End_behind {f : Addr} {fd : FuncData} (Fn : Fun K "behind" "End.behind" (inClass (top 1) 1) f fd) (T : Glb K mg)  : FnOk P w K mg base CX0 1 f fd ["self"] (spF K 1 GP.Endless_behind.f) :=
  fun_ok (k := 0) (F := GP.Endless_behind.f) (g := GP.Endless_behind.g) Fn sc_End_behind (fun cdv A outer s H E hr => body_End_behind T  cdv A outer s H E hr) (fun ds r hl e => does_run e)
theorem sc_Shut___init__ : FnScope ["self", "place"] ["self", "place"] (defScope (inClass (top 2) 0)) := ⟨rfl, rfl, rfl, by decide +kernel, rfl, by decide +kernel, by decide +kernel⟩
theorem body_Shut___init__ {f : Addr} (T : Glb K mg)  (cdv : Value) (A : Around) (outer : List Env) (s : Shared) (H : Hp) (E : XK) (hr : Room 0 (A.deeper (envOfC "Shut.__init__" (defScope (inClass (top 2) 0)) s.heap.objs.size f cdv))) :
    PIs (cxOf CX0 P w K mg base ["self", "place"] "Shut.__init__" (defScope (inClass (top 2) 0)) f cdv A outer s H E).nox (defBody (inClass (top 2) 0)) ["place"] GP.Shut___init__.i := by
  have nd : (["self", "place"] : List Str).Nodup := sc_Shut___init__.nd
  exact (pis_one (pi_fld (pv_var 1)))
theorem fok_Shut___init__ {f : Addr} {fd : FuncData} (Fn : Fun K "__init__" "Shut.__init__" (inClass (top 2) 0) f fd) (T : Glb K mg)  : FnOk P w K mg base CX0 1 f fd ["self", "place"] (spN K 1 ["place"] GP.Shut___init__.f) :=
  init_ok (k := 0) (n := 1) (m := 2) (g := GP.Shut___init__.i) Fn sc_Shut___init__ (fun cdv A outer s H E hr => body_Shut___init__ T  cdv A outer s H E hr) rfl (by decide) rfl
theorem sc_Shut_low : FnScope ["self"] ["self"] (defScope (inClass (top 2) 1)) := ⟨rfl, rfl, rfl, by decide +kernel, rfl, by decide +kernel, by decide +kernel⟩
theorem body_Shut_low {f : Addr} (T : Glb K mg)  (cdv : Value) (A : Around) (outer : List Env) (s : Shared) (H : Hp) (E : XK) (hr : Room 0 (A.deeper (envOfC "Shut.low" (defScope (inClass (top 2) 1)) s.heap.objs.size f cdv))) :
    PSsv (cxOf CX0 P w K mg base ["self"] "Shut.low" (defScope (inClass (top 2) 1)) f cdv A outer s H E).nox (defBody (inClass (top 2) 1)) GP.Shut_low.g := by
  have nd : (["self"] : List Str).Nodup := sc_Shut_low.nd
  exact (pssv_one (psv_ret (PV.w (pv_fld T.fl_place (pv_var 0)))))
theorem fok_Shut_low {f : Addr} {fd : FuncData} (Fn : Fun K "low" "Shut.low" (inClass (top 2) 1) f fd) (T : Glb K mg)  : FnOk P w K mg base CX0 1 f fd ["self"] (spF K 1 GP.Shut_low.f) :=
  fun_ok (k := 0) (F := GP.Shut_low.f) (g := GP.Shut_low.g) Fn sc_Shut_low (fun cdv A outer s H E hr => body_Shut_low T  cdv A outer s H E hr) (fun ds r hl e => does_run e)
theorem sc_Shut_behind : FnScope ["self"] ["self"] (defScope (inClass (top 2) 2)) := ⟨rfl, rfl, rfl, by decide +kernel, rfl, by decide +kernel, by decide +kernel⟩
theorem body_Shut_behind {f : Addr} (T : Glb K mg)  (cdv : Value) (A : Around) (outer : List Env) (s : Shared) (H : Hp) (E : XK) (hr : Room 0 (A.deeper (envOfC "Shut.behind" (defScope (inClass (top 2) 2)) s.heap.objs.size f cdv))) :
    PSsv (cxOf CX0 P w K mg base ["self"] "Shut.behind" (defScope (inClass (top 2) 2)) f cdv A outer s H E).nox (defBody (inClass (top 2) 2)) GP.Shut_behind.g := by
  have nd : (["self"] : List Str).Nodup := sc_Shut_behind.nd
  exact (pssv_one (psv_ret (PV.w (pv_addI (PV.w (pv_fld T.fl_place (pv_var 0))) (PV.w pv_int)))))
theorem fok_Shut_behind {f : Addr} {fd : FuncData} (Fn : Fun K "behind" "Shut.behind" (inClass (top 2) 2) f fd) (T : Glb K mg)  : FnOk P w K mg base CX0 1 f fd ["self"] (spF K 1 GP.Shut_behind.f) :=
  fun_ok (k := 0) (F := GP.Shut_behind.f) (g := GP.Shut_behind.g) Fn sc_Shut_behind (fun cdv A outer s H E hr => body_Shut_behind T  cdv A outer s H E hr) (fun ds r hl e => does_run e)
theorem sc_Open___init__ : FnScope ["self", "place"] ["self", "place"] (defScope (inClass (top 3) 0)) := ⟨rfl, rfl, rfl, by decide +kernel, rfl, by decide +kernel, by decide +kernel⟩
theorem body_Open___init__ {f : Addr} (T : Glb K mg)  (cdv : Value) (A : Around) (outer : List Env) (s : Shared) (H : Hp) (E : XK) (hr : Room 0 (A.deeper (envOfC "Open.__init__" (defScope (inClass (top 3) 0)) s.heap.objs.size f cdv))) :
    PIs (cxOf CX0 P w K mg base ["self", "place"] "Open.__init__" (defScope (inClass (top 3) 0)) f cdv A outer s H E).nox (defBody (inClass (top 3) 0)) ["place"] GP.Shut___init__.i := by
  have nd : (["self", "place"] : List Str).Nodup := sc_Open___init__.nd
  exact (pis_one (pi_fld (pv_var 1)))
theorem fok_Open___init__ {f : Addr} {fd : FuncData} (Fn : Fun K "__init__" "Open.__init__" (inClass (top 3) 0) f fd) (T : Glb K mg)  : FnOk P w K mg base CX0 1 f fd ["self", "place"] (spN K 1 ["place"] GP.Shut___init__.f) :=
  init_ok (k := 0) (n := 1) (m := 2) (g := GP.Shut___init__.i) Fn sc_Open___init__ (fun cdv A outer s H E hr => body_Open___init__ T  cdv A outer s H E hr) rfl (by decide) rfl
theorem sc_Open_low : FnScope ["self"] ["self"] (defScope (inClass (top 3) 1)) := ⟨rfl, rfl, rfl, by decide +kernel, rfl, by decide +kernel, by decide +kernel⟩
theorem body_Open_low {f : Addr} (T : Glb K mg)  (cdv : Value) (A : Around) (outer : List Env) (s : Shared) (H : Hp) (E : XK) (hr : Room 0 (A.deeper (envOfC "Open.low" (defScope (inClass (top 3) 1)) s.heap.objs.size f cdv))) :
    PSsv (cxOf CX0 P w K mg base ["self"] "Open.low" (defScope (inClass (top 3) 1)) f cdv A outer s H E).nox (defBody (inClass (top 3) 1)) GP.Open_low.g := by
  have nd : (["self"] : List Str).Nodup := sc_Open_low.nd
  exact (pssv_one (psv_ret (PV.w (pv_addI (PV.w (pv_fld T.fl_place (pv_var 0))) (PV.w pv_int)))))
theorem fok_Open_low {f : Addr} {fd : FuncData} (Fn : Fun K "low" "Open.low" (inClass (top 3) 1) f fd) (T : Glb K mg)  : FnOk P w K mg base CX0 1 f fd ["self"] (spF K 1 GP.Open_low.f) :=
  fun_ok (k := 0) (F := GP.Open_low.f) (g := GP.Open_low.g) Fn sc_Open_low (fun cdv A outer s H E hr => body_Open_low T  cdv A outer s H E hr) (fun ds r hl e => does_run e)
theorem sc_Open_behind : FnScope ["self"] ["self"] (defScope (inClass (top 3) 2)) := ⟨rfl, rfl, rfl, by decide +kernel, rfl, by decide +kernel, by decide +kernel⟩
theorem body_Open_behind {f : Addr} (T : Glb K mg)  (cdv : Value) (A : Around) (outer : List Env) (s : Shared) (H : Hp) (E : XK) (hr : Room 0 (A.deeper (envOfC "Open.behind" (defScope (inClass (top 3) 2)) s.heap.objs.size f cdv))) :
    PSsv (cxOf CX0 P w K mg base ["self"] "Open.behind" (defScope (inClass (top 3) 2)) f cdv A outer s H E).nox (defBody (inClass (top 3) 2)) GP.Open_behind.g := by
  have nd : (["self"] : List Str).Nodup := sc_Open_behind.nd
  exact (pssv_one (psv_ret (PV.w (pv_fld T.fl_place (pv_var 0)))))
theorem fok_Open_behind {f : Addr} {fd : FuncData} (Fn : Fun K "behind" "Open.behind" (inClass (top 3) 2) f fd) (T : Glb K mg)  : FnOk P w K mg base CX0 1 f fd ["self"] (spF K 1 GP.Open_behind.f) :=
  fun_ok (k := 0) (F := GP.Open_behind.f) (g := GP.Open_behind.g) Fn sc_Open_behind (fun cdv A outer s H E hr => body_Open_behind T  cdv A outer s H E hr) (fun ds r hl e => does_run e)
theorem sc_Endless_low : FnScope ["self"] ["self"] (defScope (inClass (top 4) 0)) := ⟨rfl, rfl, rfl, by decide +kernel, rfl, by decide +kernel, by decide +kernel⟩
theorem body_Endless_low {f : Addr} (T : Glb K mg)  (cdv : Value) (A : Around) (outer : List Env) (s : Shared) (H : Hp) (E : XK) (hr : Room 0 (A.deeper (envOfC "Endless.low" (defScope (inClass (top 4) 0)) s.heap.objs.size f cdv))) :
    PSsv (cxOf CX0 P w K mg base ["self"] "Endless.low" (defScope (inClass (top 4) 0)) f cdv A outer s H E).nox (defBody (inClass (top 4) 0)) GP.Endless_low.g := by
  have nd : (["self"] : List Str).Nodup := sc_Endless_low.nd
  exact (pssv_one (psv_ret (PV.w pv_non)))
theorem fok_Endless_low {f : Addr} {fd : FuncData} (Fn : Fun K "low" "Endless.low" (inClass (top 4) 0) f fd) (T : Glb K mg)  : FnOk P w K mg base CX0 1 f fd ["self"] (spF K 1 GP.Endless_low.f) :=
  fun_ok (k := 0) (F := GP.Endless_low.f) (g := GP.Endless_low.g) Fn sc_Endless_low (fun cdv A outer s H E hr => body_Endless_low T  cdv A outer s H E hr) (fun ds r hl e => does_run e)
theorem sc_Endless_behind : FnScope ["self"] ["self"] (defScope (inClass (top 4) 1)) := ⟨rfl, rfl, rfl, by decide +kernel, rfl, by decide +kernel, by decide +kernel⟩
theorem body_Endless_behind {f : Addr} (T : Glb K mg)  (cdv : Value) (A : Around) (outer : List Env) (s : Shared) (H : Hp) (E : XK) (hr : Room 0 (A.deeper (envOfC "Endless.behind" (defScope (inClass (top 4) 1)) s.heap.objs.size f cdv))) :
    PSsv (cxOf CX0 P w K mg base ["self"] "Endless.behind" (defScope (inClass (top 4) 1)) f cdv A outer s H E).nox (defBody (inClass (top 4) 1)) GP.Endless_behind.g := by
  have nd : (["self"] : List Str).Nodup := sc_Endless_behind.nd
  exact (pssv_one (psv_ret (PV.w pv_non)))
theorem fok_Endless_behind {f : Addr} {fd : FuncData} (Fn : Fun K "behind" "Endless.behind" (inClass (top 4) 1) f fd) (T : Glb K mg)  : FnOk P w K mg base CX0 1 f fd ["self"] (spF K 1 GP.Endless_behind.f) :=
  fun_ok (k := 0) (F := GP.Endless_behind.f) (g := GP.Endless_behind.g) Fn sc_Endless_behind (fun cdv A outer s H E hr => body_Endless_behind T  cdv A outer s H E hr) (fun ds r hl e => does_run e)
theorem sc_ends_ahead : FnScope ["behind", "low"] ["behind", "low"] (defScope (top 11)) := ⟨rfl, rfl, rfl, by decide +kernel, rfl, by decide +kernel, by decide +kernel⟩
theorem body_ends_ahead {f : Addr} (T : Glb K mg)  (cdv : Value) (A : Around) (outer : List Env) (s : Shared) (H : Hp) (E : XK) (hr : Room 0 (A.deeper (envOfC "ends_ahead" (defScope (top 11)) s.heap.objs.size f cdv))) :
    PSsv (cxOf CX0 P w K mg base ["behind", "low"] "ends_ahead" (defScope (top 11)) f cdv A outer s H E).nox (defBody (top 11)) GP.ends_ahead.g := by
  have nd : (["behind", "low"] : List Str).Nodup := sc_ends_ahead.nd
  exact (pssv_one (psv_ret (PV.w (pv_and (pv_isnot (PVw.n (pw_var 0)) (PV.n pv_non)) (pv_and (pv_isnot (PVw.n (pw_var 1)) (PV.n pv_non)) (pv_one (pv_le (pw_var 0) (pw_var 1))))))))
theorem fok_ends_ahead {f : Addr} {fd : FuncData} (Fn : Fun K "ends_ahead" "ends_ahead" (top 11) f fd) (T : Glb K mg)  : FnOk P w K mg base CX0 1 f fd ["behind", "low"] (spF K 2 GP.ends_ahead.f) :=
  fun_ok (k := 0) (F := GP.ends_ahead.f) (g := GP.ends_ahead.g) Fn sc_ends_ahead (fun cdv A outer s H E hr => body_ends_ahead T  cdv A outer s H E hr) (fun ds r hl e => does_run e)
theorem sc_span : FnScope ["low_end", "high_end", "low", "behind"] ["low_end", "high_end"] (defScope (top 10)) := ⟨rfl, rfl, rfl, by decide +kernel, rfl, by decide +kernel, by decide +kernel⟩
theorem body_span {f : Addr} (T : Glb K mg) (C_ends_ahead : Cal P w K mg base "ends_ahead" 1 2 GP.ends_ahead.f) (M_low : MCal P w K mg base "low" 1 0 [7, 8, 9, 10] GP.M_low_88ddca) (M_behind : MCal P w K mg base "behind" 1 0 [7, 8, 9, 10] GP.M_behind_f72aa6) (cdv : Value) (A : Around) (outer : List Env) (s : Shared) (H : Hp) (E : XK) (hr : Room 1 (A.deeper (envOfC "span" (defScope (top 10)) s.heap.objs.size f cdv))) :
    PSsv (cxOf CX0 P w K mg base ["low_end", "high_end", "low", "behind"] "span" (defScope (top 10)) f cdv A outer s H E).nox (defBody (top 10)) GP.span2.g := by
  have nd : (["low_end", "high_end", "low", "behind"] : List Str).Nodup := sc_span.nd
  exact (pssv_cons (psv_set (i := 2) nd (pv_meth0 M_low hr (pv_var 0) ))
    (pssv_cons (psv_set (i := 3) nd (pv_meth0 M_behind hr (pv_var 1) ))
    (pssv_cons (psv_if (PVn.t (PV.n (pv_callC C_ends_ahead hr (pan_cons (PVw.n (pw_var 3)) (pan_cons (PVw.n (pw_var 2)) pan_nil))))) (pssv_one psv_never) pssv_nil)
    (pssv_one (psv_ret (PV.w (pv_tup (pas_cons (pv_var 2) (pas_cons (pv_var 3) pas_nil)))))))))
theorem fok_span {f : Addr} {fd : FuncData} (Fn : Fun K "span" "span" (top 10) f fd) (T : Glb K mg) (C_ends_ahead : Cal P w K mg base "ends_ahead" 1 2 GP.ends_ahead.f) (M_low : MCal P w K mg base "low" 1 0 [7, 8, 9, 10] GP.M_low_88ddca) (M_behind : MCal P w K mg base "behind" 1 0 [7, 8, 9, 10] GP.M_behind_f72aa6) : FnOk P w K mg base CX0 2 f fd ["low_end", "high_end"] (spF K 2 GP.span2.f) :=
  fun_ok (k := 1) (F := GP.span2.f) (g := GP.span2.g) Fn sc_span (fun cdv A outer s H E hr => body_span T C_ends_ahead M_low M_behind cdv A outer s H E hr) (fun ds r hl e => does_run e)
theorem body_span_1 {f XC : Addr} (T : Glb K mg) (C_ends_ahead : Cal P w K mg base "ends_ahead" 1 2 GP.ends_ahead.f) (M_low : MCal P w K mg base "low" 1 0 [7, 8, 9, 10] GP.M_low_88ddca) (M_behind : MCal P w K mg base "behind" 1 0 [7, 8, 9, 10] GP.M_behind_f72aa6) (R : XR K mg 1 XC) (cdv : Value) (A : Around) (outer : List Env) (s : Shared) (H : Hp) (E : XK) (hr : Room 1 (A.deeper (envOfC "span" (defScope (top 10)) s.heap.objs.size f cdv))) :
    PSsy (cxOf (CXM P w) P w K mg base ["low_end", "high_end", "low", "behind"] "span" (defScope (top 10)) f cdv A outer s H E) E XC (defBody (top 10)) K91.X_span_1.x := by
  have nd : (["low_end", "high_end", "low", "behind"] : List Str).Nodup := sc_span.nd
  exact (pssy_tail (psv_set (i := 2) nd (pv_meth0 M_low hr (pv_var 0) ))
    (pssy_tail (psv_set (i := 3) nd (pv_meth0 M_behind hr (pv_var 1) ))
    (pssy_head (psy_if (PVn.t (PV.n (pv_callC C_ends_ahead hr (pan_cons (PVw.n (pw_var 3)) (pan_cons (PVw.n (pw_var 2)) pan_nil))))) (pssy_head (PSx.y (psx_raise R.cls R.gl))
    pss_any) (pssy_never pss_any))
    pss_any)))
theorem fokx_span_1 {f XC : Addr} {fd : FuncData} (Fn : Fun K "span" "span" (top 10) f fd) (T : Glb K mg) (C_ends_ahead : Cal P w K mg base "ends_ahead" 1 2 GP.ends_ahead.f) (M_low : MCal P w K mg base "low" 1 0 [7, 8, 9, 10] GP.M_low_88ddca) (M_behind : MCal P w K mg base "behind" 1 0 [7, 8, 9, 10] GP.M_behind_f72aa6) (R : XR K mg 1 XC) : FnOk P w K mg base (CXM P w) 2 f fd ["low_end", "high_end"] (spX K 2 K91.X_span_1.f XC) :=
  fun_okY (k := 1) (g := K91.X_span_1.x) Fn sc_span (fun cdv A outer s H E hr => body_span_1 T C_ends_ahead M_low M_behind R cdv A outer s H E hr) (fun ds hl e => e)
theorem sc_is_number : FnScope ["text", "figures"] ["text"] (defScope (top 18)) := ⟨rfl, rfl, rfl, by decide +kernel, rfl, by decide +kernel, by decide +kernel⟩
theorem body_is_number {f : Addr} (T : Glb K mg)  (cdv : Value) (A : Around) (outer : List Env) (s : Shared) (H : Hp) (E : XK) (hr : Room 0 (A.deeper (envOfC "is_number" (defScope (top 18)) s.heap.objs.size f cdv))) :
    PSsv (cxOf CX0 P w K mg base ["text", "figures"] "is_number" (defScope (top 18)) f cdv A outer s H E).nox (defBody (top 18)) GP.is_number.g := by
  have nd : (["text", "figures"] : List Str).Nodup := sc_is_number.nd
  have nI0 : (["sign"] : List Str).Nodup := by decide +kernel
  exact (pssv_cons (psv_if (ptv_not (PVn.t (PV.n (pv_isi T.b_isinstance T.b_str (by decide +kernel) (pw_var 0))))) (pssv_one (psv_ret (PV.w pv_bl))) pssv_nil)
    (pssv_cons (psv_set (i := 1) nd (pv_if (PVn.t (PV.n (pv_stw (pw_var 0) (PV.w pv_str)))) (pv_sls (pw_var 0) (pov_so (PV.w pv_int)) pov_no) (pv_var 0)))
    (pssv_cons (psv_if (PWv.t (pwv_or (pt_lt (PV.w (pv_len T.b_len (pav_cons (pw_var 1) pav_nil))) (PV.w pv_int)) (pwv_or1 (pt_gt (PV.w (pv_len T.b_len (pav_cons (pw_var 1) pav_nil))) (PV.w (pv_globI T.c_MOST_FIGURES)))))) (pssv_one (psv_ret (PV.w pv_bl))) pssv_nil)
    (pssv_cons (psv_if (ptv_not (PVn.t (PV.n (pv_all rfl T.b_all (pav_cons (PV.w (PVf.s (pvf_comp (NY := ["sign"]) (mp := [none]) (comp_scope (by kernel_rfl)) rfl (piv_str (pv_var 1)) (fun c => (pgv_name (i := 0) nI0)) (fun c => pfv_nil) (fun c => (pv_cmp op_in_str os_inS (pw_var 0) (PV.w (pv_globS T.c_FIGURES)) rfl))))) pav_nil))))) (pssv_one (psv_ret (PV.w pv_bl))) pssv_nil)
    (pssv_one (psv_ret (PV.w (pv_or (pv_ne hr (PV.n (pv_ix (pw_var 1) (PV.w pv_int))) (PV.n pv_str)) (pv_one (pv_eq hr (PVw.n (pw_var 0)) (PV.n pv_str)))))))))))
theorem fok_is_number {f : Addr} {fd : FuncData} (Fn : Fun K "is_number" "is_number" (top 18) f fd) (T : Glb K mg)  : FnOk P w K mg base CX0 1 f fd ["text"] (spF K 1 GP.is_number.f) :=
  fun_ok (k := 0) (F := GP.is_number.f) (g := GP.is_number.g) Fn sc_is_number (fun cdv A outer s H E hr => body_is_number T  cdv A outer s H E hr) (fun ds r hl e => does_run e)
theorem sc_read_number : FnScope ["text"] ["text"] (defScope (top 15)) := ⟨rfl, rfl, rfl, by decide +kernel, rfl, by decide +kernel, by decide +kernel⟩
theorem body_read_number {f : Addr} (T : Glb K mg) (C_is_number : Cal P w K mg base "is_number" 1 1 GP.is_number.f) (cdv : Value) (A : Around) (outer : List Env) (s : Shared) (H : Hp) (E : XK) (hr : Room 1 (A.deeper (envOfC "read_number" (defScope (top 15)) s.heap.objs.size f cdv))) :
    PSsv (cxOf CX0 P w K mg base ["text"] "read_number" (defScope (top 15)) f cdv A outer s H E).nox (defBody (top 15)) GP.read_number.g := by
  have nd : (["text"] : List Str).Nodup := sc_read_number.nd
  exact (pssv_cons (psv_if (ptv_not (PVn.t (PV.n (pv_callC C_is_number hr (pan_cons (PVw.n (pw_var 0)) pan_nil))))) (pssv_one psv_never) pssv_nil)
    (pssv_one (psv_ret (PV.w (pv_intT T.b_int (pav_cons (pw_var 0) pav_nil))))))
theorem fok_read_number {f : Addr} {fd : FuncData} (Fn : Fun K "read_number" "read_number" (top 15) f fd) (T : Glb K mg) (C_is_number : Cal P w K mg base "is_number" 1 1 GP.is_number.f) : FnOk P w K mg base CX0 2 f fd ["text"] (spF K 1 GP.read_number.f) :=
  fun_ok (k := 1) (F := GP.read_number.f) (g := GP.read_number.g) Fn sc_read_number (fun cdv A outer s H E hr => body_read_number T C_is_number cdv A outer s H E hr) (fun ds r hl e => does_run e)
theorem body_read_number_11 {f XC : Addr} (T : Glb K mg) (C_is_number : Cal P w K mg base "is_number" 1 1 GP.is_number.f) (R : XR K mg 11 XC) (cdv : Value) (A : Around) (outer : List Env) (s : Shared) (H : Hp) (E : XK) (hr : Room 1 (A.deeper (envOfC "read_number" (defScope (top 15)) s.heap.objs.size f cdv))) :
    PSsy (cxOf (CXM P w) P w K mg base ["text"] "read_number" (defScope (top 15)) f cdv A outer s H E) E XC (defBody (top 15)) K91.X_read_number_11.x := by
  have nd : (["text"] : List Str).Nodup := sc_read_number.nd
  exact (pssy_head (psy_if (ptv_not (PVn.t (PV.n (pv_callC C_is_number hr (pan_cons (PVw.n (pw_var 0)) pan_nil))))) (pssy_head (PSx.y (psx_raise R.cls R.gl))
    pss_any) (pssy_never pss_any))
    pss_any)
theorem fokx_read_number_11 {f XC : Addr} {fd : FuncData} (Fn : Fun K "read_number" "read_number" (top 15) f fd) (T : Glb K mg) (C_is_number : Cal P w K mg base "is_number" 1 1 GP.is_number.f) (R : XR K mg 11 XC) : FnOk P w K mg base (CXM P w) 2 f fd ["text"] (spX K 1 K91.X_read_number_11.f XC) :=
  fun_okY (k := 1) (g := K91.X_read_number_11.x) Fn sc_read_number (fun cdv A outer s H E hr => body_read_number_11 T C_is_number R cdv A outer s H E hr) (fun ds hl e => e)
theorem sc_read_low_end : FnScope ["text"] ["text"] (defScope (top 20)) := ⟨rfl, rfl, rfl, by decide +kernel, rfl, by decide +kernel, by decide +kernel⟩
theorem body_read_low_end {f : Addr} (T : Glb K mg) (C_read_number : Cal P w K mg base "read_number" 2 1 GP.read_number.f) (Mk_Endless : MkP K mg 9) (Mk_Shut : MkC P w K mg base 7 1 1 GP.Shut___init__.f) (Mk_Open : MkC P w K mg base 8 1 1 GP.Shut___init__.f) (cdv : Value) (A : Around) (outer : List Env) (s : Shared) (H : Hp) (E : XK) (hr : Room 2 (A.deeper (envOfC "read_low_end" (defScope (top 20)) s.heap.objs.size f cdv))) :
    PSsv (cxOf CX0 P w K mg base ["text"] "read_low_end" (defScope (top 20)) f cdv A outer s H E).nox (defBody (top 20)) GP.read_low_end.g := by
  have nd : (["text"] : List Str).Nodup := sc_read_low_end.nd
  exact (pssv_cons (psv_if (pt_eq hr (PVw.n (pw_var 0)) (PV.n pv_str)) (pssv_one (psv_retD (pvd_makeP Mk_Endless))) pssv_nil)
    (pssv_cons (psv_if (PVn.t (PV.n (pv_stw (pw_var 0) (PV.w pv_str)))) (pssv_one (psv_retD (pvd_make Mk_Shut hr (pan_cons (PV.n (pv_callC C_read_number hr (pan_cons (PV.n (pv_sls (pw_var 0) (pov_so (PV.w pv_int)) pov_no)) pan_nil))) pan_nil)))) pssv_nil)
    (pssv_cons (psv_if (PVn.t (PV.n (pv_stw (pw_var 0) (PV.w pv_str)))) (pssv_one (psv_retD (pvd_make Mk_Open hr (pan_cons (PV.n (pv_callC C_read_number hr (pan_cons (PV.n (pv_sls (pw_var 0) (pov_so (PV.w pv_int)) pov_no)) pan_nil))) pan_nil)))) pssv_nil)
    (pssv_one psv_never))))
theorem fok_read_low_end {f : Addr} {fd : FuncData} (Fn : Fun K "read_low_end" "read_low_end" (top 20) f fd) (T : Glb K mg) (C_read_number : Cal P w K mg base "read_number" 2 1 GP.read_number.f) (Mk_Endless : MkP K mg 9) (Mk_Shut : MkC P w K mg base 7 1 1 GP.Shut___init__.f) (Mk_Open : MkC P w K mg base 8 1 1 GP.Shut___init__.f) : FnOk P w K mg base CX0 3 f fd ["text"] (spF K 1 GP.read_low_end.f) :=
  fun_ok (k := 2) (F := GP.read_low_end.f) (g := GP.read_low_end.g) Fn sc_read_low_end (fun cdv A outer s H E hr => body_read_low_end T C_read_number Mk_Endless Mk_Shut Mk_Open cdv A outer s H E hr) (fun ds r hl e => does_run e)
theorem body_read_low_end_11 {f XC : Addr} (T : Glb K mg) (C_read_number : Cal P w K mg base "read_number" 2 1 GP.read_number.f) (Mk_Endless : MkP K mg 9) (Mk_Shut : MkC P w K mg base 7 1 1 GP.Shut___init__.f) (Mk_Open : MkC P w K mg base 8 1 1 GP.Shut___init__.f) (R : XR K mg 11 XC) (CX_read_number_11 : CalX P w K mg base "read_number" 2 1 K91.X_read_number_11.f XC) (cdv : Value) (A : Around) (outer : List Env) (s : Shared) (H : Hp) (E : XK) (hr : Room 2 (A.deeper (envOfC "read_low_end" (defScope (top 20)) s.heap.objs.size f cdv))) :
    PSsy (cxOf (CXM P w) P w K mg base ["text"] "read_low_end" (defScope (top 20)) f cdv A outer s H E) E XC (defBody (top 20)) K91.X_read_low_end_11.x := by
  have nd : (["text"] : List Str).Nodup := sc_read_low_end.nd
  exact (pssy_tail (psv_if (pt_eq hr (PVw.n (pw_var 0)) (PV.n pv_str)) (pssv_one (psv_retD (pvd_makeP Mk_Endless))) pssv_nil)
    (pssy_cons (psy_if (PVn.t (PV.n (pv_stw (pw_var 0) (PV.w pv_str)))) (pssy_head (psy_ret (pey_mkarg Mk_Shut hr (pey_call pass_on CX_read_number_11 hr (pan_cons (PV.n (pv_sls (pw_var 0) (pov_so (PV.w pv_int)) pov_no)) pan_nil))))
    pss_any) (pssy_never pss_any))
    (psv_if (PVn.t (PV.n (pv_stw (pw_var 0) (PV.w pv_str)))) (pssv_one (psv_retD (pvd_make Mk_Shut hr (pan_cons (PV.n (pv_callC C_read_number hr (pan_cons (PV.n (pv_sls (pw_var 0) (pov_so (PV.w pv_int)) pov_no)) pan_nil))) pan_nil)))) pssv_nil)
    (pssy_cons (psy_if (PVn.t (PV.n (pv_stw (pw_var 0) (PV.w pv_str)))) (pssy_head (psy_ret (pey_mkarg Mk_Open hr (pey_call pass_on CX_read_number_11 hr (pan_cons (PV.n (pv_sls (pw_var 0) (pov_so (PV.w pv_int)) pov_no)) pan_nil))))
    pss_any) (pssy_never pss_any))
    (psv_if (PVn.t (PV.n (pv_stw (pw_var 0) (PV.w pv_str)))) (pssv_one (psv_retD (pvd_make Mk_Open hr (pan_cons (PV.n (pv_callC C_read_number hr (pan_cons (PV.n (pv_sls (pw_var 0) (pov_so (PV.w pv_int)) pov_no)) pan_nil))) pan_nil)))) pssv_nil)
    (pssy_head (PSx.y (psx_raise R.cls R.gl))
    pss_any))))
theorem fokx_read_low_end_11 {f XC : Addr} {fd : FuncData} (Fn : Fun K "read_low_end" "read_low_end" (top 20) f fd) (T : Glb K mg) (C_read_number : Cal P w K mg base "read_number" 2 1 GP.read_number.f) (Mk_Endless : MkP K mg 9) (Mk_Shut : MkC P w K mg base 7 1 1 GP.Shut___init__.f) (Mk_Open : MkC P w K mg base 8 1 1 GP.Shut___init__.f) (R : XR K mg 11 XC) (CX_read_number_11 : CalX P w K mg base "read_number" 2 1 K91.X_read_number_11.f XC) : FnOk P w K mg base (CXM P w) 3 f fd ["text"] (spX K 1 K91.X_read_low_end_11.f XC) :=
  fun_okY (k := 2) (g := K91.X_read_low_end_11.x) Fn sc_read_low_end (fun cdv A outer s H E hr => body_read_low_end_11 T C_read_number Mk_Endless Mk_Shut Mk_Open R CX_read_number_11 cdv A outer s H E hr) (fun ds hl e => e)
theorem sc_read_high_end : FnScope ["text"] ["text"] (defScope (top 21)) := ⟨rfl, rfl, rfl, by decide +kernel, rfl, by decide +kernel, by decide +kernel⟩
theorem body_read_high_end {f : Addr} (T : Glb K mg) (C_read_number : Cal P w K mg base "read_number" 2 1 GP.read_number.f) (Mk_Endless : MkP K mg 9) (Mk_Shut : MkC P w K mg base 7 1 1 GP.Shut___init__.f) (Mk_Open : MkC P w K mg base 8 1 1 GP.Shut___init__.f) (cdv : Value) (A : Around) (outer : List Env) (s : Shared) (H : Hp) (E : XK) (hr : Room 2 (A.deeper (envOfC "read_high_end" (defScope (top 21)) s.heap.objs.size f cdv))) :
    PSsv (cxOf CX0 P w K mg base ["text"] "read_high_end" (defScope (top 21)) f cdv A outer s H E).nox (defBody (top 21)) GP.read_high_end.g := by
  have nd : (["text"] : List Str).Nodup := sc_read_high_end.nd
  exact (pssv_cons (psv_if (pt_eq hr (PVw.n (pw_var 0)) (PV.n pv_str)) (pssv_one (psv_retD (pvd_makeP Mk_Endless))) pssv_nil)
    (pssv_cons (psv_if (PVn.t (PV.n (pv_enw (pw_var 0) (PV.w pv_str)))) (pssv_one (psv_retD (pvd_make Mk_Shut hr (pan_cons (PV.n (pv_callC C_read_number hr (pan_cons (PV.n (pv_sls (pw_var 0) pov_no (pov_so (PV.w (pv_neg pv_int))))) pan_nil))) pan_nil)))) pssv_nil)
    (pssv_cons (psv_if (PVn.t (PV.n (pv_enw (pw_var 0) (PV.w pv_str)))) (pssv_one (psv_retD (pvd_make Mk_Open hr (pan_cons (PV.n (pv_callC C_read_number hr (pan_cons (PV.n (pv_sls (pw_var 0) pov_no (pov_so (PV.w (pv_neg pv_int))))) pan_nil))) pan_nil)))) pssv_nil)
    (pssv_one psv_never))))
theorem fok_read_high_end {f : Addr} {fd : FuncData} (Fn : Fun K "read_high_end" "read_high_end" (top 21) f fd) (T : Glb K mg) (C_read_number : Cal P w K mg base "read_number" 2 1 GP.read_number.f) (Mk_Endless : MkP K mg 9) (Mk_Shut : MkC P w K mg base 7 1 1 GP.Shut___init__.f) (Mk_Open : MkC P w K mg base 8 1 1 GP.Shut___init__.f) : FnOk P w K mg base CX0 3 f fd ["text"] (spF K 1 GP.read_high_end.f) :=
  fun_ok (k := 2) (F := GP.read_high_end.f) (g := GP.read_high_end.g) Fn sc_read_high_end (fun cdv A outer s H E hr => body_read_high_end T C_read_number Mk_Endless Mk_Shut Mk_Open cdv A outer s H E hr) (fun ds r hl e => does_run e)
theorem body_read_high_end_11 {f XC : Addr} (T : Glb K mg) (C_read_number : Cal P w K mg base "read_number" 2 1 GP.read_number.f) (Mk_Endless : MkP K mg 9) (Mk_Shut : MkC P w K mg base 7 1 1 GP.Shut___init__.f) (Mk_Open : MkC P w K mg base 8 1 1 GP.Shut___init__.f) (R : XR K mg 11 XC) (CX_read_number_11 : CalX P w K mg base "read_number" 2 1 K91.X_read_number_11.f XC) (cdv : Value) (A : Around) (outer : List Env) (s : Shared) (H : Hp) (E : XK) (hr : Room 2 (A.deeper (envOfC "read_high_end" (defScope (top 21)) s.heap.objs.size f cdv))) :
    PSsy (cxOf (CXM P w) P w K mg base ["text"] "read_high_end" (defScope (top 21)) f cdv A outer s H E) E XC (defBody (top 21)) K91.X_read_high_end_11.x := by
  have nd : (["text"] : List Str).Nodup := sc_read_high_end.nd
  exact (pssy_tail (psv_if (pt_eq hr (PVw.n (pw_var 0)) (PV.n pv_str)) (pssv_one (psv_retD (pvd_makeP Mk_Endless))) pssv_nil)
    (pssy_cons (psy_if (PVn.t (PV.n (pv_enw (pw_var 0) (PV.w pv_str)))) (pssy_head (psy_ret (pey_mkarg Mk_Shut hr (pey_call pass_on CX_read_number_11 hr (pan_cons (PV.n (pv_sls (pw_var 0) pov_no (pov_so (PV.w (pv_neg pv_int))))) pan_nil))))
    pss_any) (pssy_never pss_any))
    (psv_if (PVn.t (PV.n (pv_enw (pw_var 0) (PV.w pv_str)))) (pssv_one (psv_retD (pvd_make Mk_Shut hr (pan_cons (PV.n (pv_callC C_read_number hr (pan_cons (PV.n (pv_sls (pw_var 0) pov_no (pov_so (PV.w (pv_neg pv_int))))) pan_nil))) pan_nil)))) pssv_nil)
    (pssy_cons (psy_if (PVn.t (PV.n (pv_enw (pw_var 0) (PV.w pv_str)))) (pssy_head (psy_ret (pey_mkarg Mk_Open hr (pey_call pass_on CX_read_number_11 hr (pan_cons (PV.n (pv_sls (pw_var 0) pov_no (pov_so (PV.w (pv_neg pv_int))))) pan_nil))))
    pss_any) (pssy_never pss_any))
    (psv_if (PVn.t (PV.n (pv_enw (pw_var 0) (PV.w pv_str)))) (pssv_one (psv_retD (pvd_make Mk_Open hr (pan_cons (PV.n (pv_callC C_read_number hr (pan_cons (PV.n (pv_sls (pw_var 0) pov_no (pov_so (PV.w (pv_neg pv_int))))) pan_nil))) pan_nil)))) pssv_nil)
    (pssy_head (PSx.y (psx_raise R.cls R.gl))
    pss_any))))
theorem fokx_read_high_end_11 {f XC : Addr} {fd : FuncData} (Fn : Fun K "read_high_end" "read_high_end" (top 21) f fd) (T : Glb K mg) (C_read_number : Cal P w K mg base "read_number" 2 1 GP.read_number.f) (Mk_Endless : MkP K mg 9) (Mk_Shut : MkC P w K mg base 7 1 1 GP.Shut___init__.f) (Mk_Open : MkC P w K mg base 8 1 1 GP.Shut___init__.f) (R : XR K mg 11 XC) (CX_read_number_11 : CalX P w K mg base "read_number" 2 1 K91.X_read_number_11.f XC) : FnOk P w K mg base (CXM P w) 3 f fd ["text"] (spX K 1 K91.X_read_high_end_11.f XC) :=
  fun_okY (k := 2) (g := K91.X_read_high_end_11.x) Fn sc_read_high_end (fun cdv A outer s H E hr => body_read_high_end_11 T C_read_number Mk_Endless Mk_Shut Mk_Open R CX_read_number_11 cdv A outer s H E hr) (fun ds hl e => e)
theorem sc_read_ends : FnScope ["text", "sides"] ["text"] (defScope (top 19)) := ⟨rfl, rfl, rfl, by decide +kernel, rfl, by decide +kernel, by decide +kernel⟩
theorem body_read_ends {f : Addr} (T : Glb K mg) (C_read_low_end : Cal P w K mg base "read_low_end" 3 1 GP.read_low_end.f) (C_read_high_end : Cal P w K mg base "read_high_end" 3 1 GP.read_high_end.f) (cdv : Value) (A : Around) (outer : List Env) (s : Shared) (H : Hp) (E : XK) (hr : Room 3 (A.deeper (envOfC "read_ends" (defScope (top 19)) s.heap.objs.size f cdv))) :
    PSsv (cxOf CX0 P w K mg base ["text", "sides"] "read_ends" (defScope (top 19)) f cdv A outer s H E).nox (defBody (top 19)) GP.read_ends.g := by
  have nd : (["text", "sides"] : List Str).Nodup := sc_read_ends.nd
  exact (pssv_cons (psv_if (ptv_not (PVn.t (PV.n (pv_isi T.b_isinstance T.b_str (by decide +kernel) (pw_var 0))))) (pssv_one psv_never) pssv_nil)
    (pssv_cons (psv_set (i := 1) nd (PVf.s (pvf_split (pw_var 0) (PV.w pv_str))))
    (pssv_cons (psv_if (pt_ne hr (PV.n (pv_len T.b_len (pav_cons (pw_var 1) pav_nil))) (PV.n pv_int)) (pssv_one psv_never) pssv_nil)
    (pssv_one (psv_retE (pve_tup (pae_cons (PVd.e (pvd_callC C_read_low_end hr (pan_cons (PV.n (pv_ix (pw_var 1) (PV.w pv_int))) pan_nil))) (pae_cons (PVd.e (pvd_callC C_read_high_end hr (pan_cons (PV.n (pv_ix (pw_var 1) (PV.w pv_int))) pan_nil))) pae_nil))))))))
theorem fok_read_ends {f : Addr} {fd : FuncData} (Fn : Fun K "read_ends" "read_ends" (top 19) f fd) (T : Glb K mg) (C_read_low_end : Cal P w K mg base "read_low_end" 3 1 GP.read_low_end.f) (C_read_high_end : Cal P w K mg base "read_high_end" 3 1 GP.read_high_end.f) : FnOk P w K mg base CX0 4 f fd ["text"] (spF K 1 GP.read_ends.f) :=
  fun_ok (k := 3) (F := GP.read_ends.f) (g := GP.read_ends.g) Fn sc_read_ends (fun cdv A outer s H E hr => body_read_ends T C_read_low_end C_read_high_end cdv A outer s H E hr) (fun ds r hl e => does_run e)
theorem body_read_ends_11 {f XC : Addr} (T : Glb K mg) (C_read_low_end : Cal P w K mg base "read_low_end" 3 1 GP.read_low_end.f) (C_read_high_end : Cal P w K mg base "read_high_end" 3 1 GP.read_high_end.f) (R : XR K mg 11 XC) (CX_read_low_end_11 : CalX P w K mg base "read_low_end" 3 1 K91.X_read_low_end_11.f XC) (CX_read_high_end_11 : CalX P w K mg base "read_high_end" 3 1 K91.X_read_high_end_11.f XC) (cdv : Value) (A : Around) (outer : List Env) (s : Shared) (H : Hp) (E : XK) (hr : Room 3 (A.deeper (envOfC "read_ends" (defScope (top 19)) s.heap.objs.size f cdv))) :
    PSsy (cxOf (CXM P w) P w K mg base ["text", "sides"] "read_ends" (defScope (top 19)) f cdv A outer s H E) E XC (defBody (top 19)) K91.X_read_ends_11.x := by
  have nd : (["text", "sides"] : List Str).Nodup := sc_read_ends.nd
  exact (pssy_cons (psy_if (ptv_not (PVn.t (PV.n (pv_isi T.b_isinstance T.b_str (by decide +kernel) (pw_var 0))))) (pssy_head (PSx.y (psx_raise R.cls R.gl))
    pss_any) (pssy_never pss_any))
    (psv_if (ptv_not (PVn.t (PV.n (pv_isi T.b_isinstance T.b_str (by decide +kernel) (pw_var 0))))) (pssv_one psv_never) pssv_nil)
    (pssy_tail (psv_set (i := 1) nd (PVf.s (pvf_split (pw_var 0) (PV.w pv_str))))
    (pssy_cons (psy_if (pt_ne hr (PV.n (pv_len T.b_len (pav_cons (pw_var 1) pav_nil))) (PV.n pv_int)) (pssy_head (PSx.y (psx_raise R.cls R.gl))
    pss_any) (pssy_never pss_any))
    (psv_if (pt_ne hr (PV.n (pv_len T.b_len (pav_cons (pw_var 1) pav_nil))) (PV.n pv_int)) (pssv_one psv_never) pssv_nil)
    (pssy_head (psy_ret (pey_tup2 (pey_call pass_on CX_read_low_end_11 hr (pan_cons (PV.n (pv_ix (pw_var 1) (PV.w pv_int))) pan_nil)) (pv_callC C_read_low_end hr (pan_cons (PV.n (pv_ix (pw_var 1) (PV.w pv_int))) pan_nil)) (pey_call pass_on CX_read_high_end_11 hr (pan_cons (PV.n (pv_ix (pw_var 1) (PV.w pv_int))) pan_nil))))
    pss_any))))
theorem fokx_read_ends_11 {f XC : Addr} {fd : FuncData} (Fn : Fun K "read_ends" "read_ends" (top 19) f fd) (T : Glb K mg) (C_read_low_end : Cal P w K mg base "read_low_end" 3 1 GP.read_low_end.f) (C_read_high_end : Cal P w K mg base "read_high_end" 3 1 GP.read_high_end.f) (R : XR K mg 11 XC) (CX_read_low_end_11 : CalX P w K mg base "read_low_end" 3 1 K91.X_read_low_end_11.f XC) (CX_read_high_end_11 : CalX P w K mg base "read_high_end" 3 1 K91.X_read_high_end_11.f XC) : FnOk P w K mg base (CXM P w) 4 f fd ["text"] (spX K 1 K91.X_read_ends_11.f XC) :=
  fun_okY (k := 3) (g := K91.X_read_ends_11.x) Fn sc_read_ends (fun cdv A outer s H E hr => body_read_ends_11 T C_read_low_end C_read_high_end R CX_read_low_end_11 CX_read_high_end_11 cdv A outer s H E hr) (fun ds hl e => e)
theorem sc_read_span : FnScope ["text", "ends"] ["text"] (defScope (top 16)) := ⟨rfl, rfl, rfl, by decide +kernel, rfl, by decide +kernel, by decide +kernel⟩
theorem body_read_span {f : Addr} (T : Glb K mg) (C_read_ends : Cal P w K mg base "read_ends" 4 1 GP.read_ends.f) (C_span : Cal P w K mg base "span" 2 2 GP.span2.f) (cdv : Value) (A : Around) (outer : List Env) (s : Shared) (H : Hp) (E : XK) (hr : Room 4 (A.deeper (envOfC "read_span" (defScope (top 16)) s.heap.objs.size f cdv))) :
    PSsv (cxOf CX0 P w K mg base ["text", "ends"] "read_span" (defScope (top 16)) f cdv A outer s H E).nox (defBody (top 16)) GP.read_span.g := by
  have nd : (["text", "ends"] : List Str).Nodup := sc_read_span.nd
  exact (pssv_cons (psv_set (i := 1) nd (pv_callC C_read_ends hr (pan_cons (PVw.n (pw_var 0)) pan_nil)))
    (pssv_one (psv_ret (PV.w (pv_callC C_span hr (pan_cons (PV.n (pv_ix (pw_var 1) (PV.w pv_int))) (pan_cons (PV.n (pv_ix (pw_var 1) (PV.w pv_int))) pan_nil)))))))
theorem fok_read_span {f : Addr} {fd : FuncData} (Fn : Fun K "read_span" "read_span" (top 16) f fd) (T : Glb K mg) (C_read_ends : Cal P w K mg base "read_ends" 4 1 GP.read_ends.f) (C_span : Cal P w K mg base "span" 2 2 GP.span2.f) : FnOk P w K mg base CX0 5 f fd ["text"] (spF K 1 GP.read_span.f) :=
  fun_ok (k := 4) (F := GP.read_span.f) (g := GP.read_span.g) Fn sc_read_span (fun cdv A outer s H E hr => body_read_span T C_read_ends C_span cdv A outer s H E hr) (fun ds r hl e => does_run e)
theorem body_read_span_1 {f XC : Addr} (T : Glb K mg) (C_read_ends : Cal P w K mg base "read_ends" 4 1 GP.read_ends.f) (C_span : Cal P w K mg base "span" 2 2 GP.span2.f) (CX_span_1 : CalX P w K mg base "span" 2 2 K91.X_span_1.f XC) (cdv : Value) (A : Around) (outer : List Env) (s : Shared) (H : Hp) (E : XK) (hr : Room 4 (A.deeper (envOfC "read_span" (defScope (top 16)) s.heap.objs.size f cdv))) :
    PSsy (cxOf (CXM P w) P w K mg base ["text", "ends"] "read_span" (defScope (top 16)) f cdv A outer s H E) E XC (defBody (top 16)) K91.X_read_span_1.x := by
  have nd : (["text", "ends"] : List Str).Nodup := sc_read_span.nd
  exact (pssy_tail (psv_set (i := 1) nd (pv_callC C_read_ends hr (pan_cons (PVw.n (pw_var 0)) pan_nil)))
    (pssy_head (psy_ret (pey_call pass_on CX_span_1 hr (pan_cons (PV.n (pv_ix (pw_var 1) (PV.w pv_int))) (pan_cons (PV.n (pv_ix (pw_var 1) (PV.w pv_int))) pan_nil))))
    pss_any))
theorem fokx_read_span_1 {f XC : Addr} {fd : FuncData} (Fn : Fun K "read_span" "read_span" (top 16) f fd) (T : Glb K mg) (C_read_ends : Cal P w K mg base "read_ends" 4 1 GP.read_ends.f) (C_span : Cal P w K mg base "span" 2 2 GP.span2.f) (CX_span_1 : CalX P w K mg base "span" 2 2 K91.X_span_1.f XC) : FnOk P w K mg base (CXM P w) 5 f fd ["text"] (spX K 1 K91.X_read_span_1.f XC) :=
  fun_okY (k := 4) (g := K91.X_read_span_1.x) Fn sc_read_span (fun cdv A outer s H E hr => body_read_span_1 T C_read_ends C_span CX_span_1 cdv A outer s H E hr) (fun ds hl e => e)
theorem body_read_span_11 {f XC : Addr} (T : Glb K mg) (C_read_ends : Cal P w K mg base "read_ends" 4 1 GP.read_ends.f) (C_span : Cal P w K mg base "span" 2 2 GP.span2.f) (CX_read_ends_11 : CalX P w K mg base "read_ends" 4 1 K91.X_read_ends_11.f XC) (cdv : Value) (A : Around) (outer : List Env) (s : Shared) (H : Hp) (E : XK) (hr : Room 4 (A.deeper (envOfC "read_span" (defScope (top 16)) s.heap.objs.size f cdv))) :
    PSsy (cxOf (CXM P w) P w K mg base ["text", "ends"] "read_span" (defScope (top 16)) f cdv A outer s H E) E XC (defBody (top 16)) K91.X_read_span_11.x := by
  have nd : (["text", "ends"] : List Str).Nodup := sc_read_span.nd
  exact (pssy_head (psy_set (i := 1) nd (pey_call pass_on CX_read_ends_11 hr (pan_cons (PVw.n (pw_var 0)) pan_nil)))
    pss_any)
theorem fokx_read_span_11 {f XC : Addr} {fd : FuncData} (Fn : Fun K "read_span" "read_span" (top 16) f fd) (T : Glb K mg) (C_read_ends : Cal P w K mg base "read_ends" 4 1 GP.read_ends.f) (C_span : Cal P w K mg base "span" 2 2 GP.span2.f) (CX_read_ends_11 : CalX P w K mg base "read_ends" 4 1 K91.X_read_ends_11.f XC) : FnOk P w K mg base (CXM P w) 5 f fd ["text"] (spX K 1 K91.X_read_span_11.f XC) :=
  fun_okY (k := 4) (g := K91.X_read_span_11.x) Fn sc_read_span (fun cdv A outer s H E hr => body_read_span_11 T C_read_ends C_span CX_read_ends_11 cdv A outer s H E hr) (fun ds hl e => e)
theorem sc_show_span : FnScope ["one", "low", "behind"] ["one"] (defScope (top 17)) := ⟨rfl, rfl, rfl, by decide +kernel, rfl, by decide +kernel, by decide +kernel⟩
theorem body_show_span {f : Addr} (T : Glb K mg)  (cdv : Value) (A : Around) (outer : List Env) (s : Shared) (H : Hp) (E : XK) (hr : Room 0 (A.deeper (envOfC "show_span" (defScope (top 17)) s.heap.objs.size f cdv))) :
    PSsv (cxOf CX0 P w K mg base ["one", "low", "behind"] "show_span" (defScope (top 17)) f cdv A outer s H E).nox (defBody (top 17)) GP.show_span.g := by
  have nd : (["one", "low", "behind"] : List Str).Nodup := sc_show_span.nd
  exact (pssv_cons (psv_set (i := 1) nd (pv_if (pt_is (PV.n (pv_ix (pw_var 0) (PV.w pv_int))) (PV.n pv_non)) pv_str (pv_addI (PV.w pv_str) (PV.w (pv_strC T.b_str (pav_cons (PV.w (pv_ix (pw_var 0) (PV.w pv_int))) pav_nil))))))
    (pssv_cons (psv_set (i := 2) nd (pv_if (pt_is (PV.n (pv_ix (pw_var 0) (PV.w pv_int))) (PV.n pv_non)) pv_str (pv_addI (PV.w (pv_strC T.b_str (pav_cons (PV.w (pv_ix (pw_var 0) (PV.w pv_int))) pav_nil))) (PV.w pv_str))))
    (pssv_one (psv_ret (PV.w (pv_addI (PV.w (pv_addI (pw_var 1) (PV.w pv_str))) (pw_var 2)))))))
theorem fok_show_span {f : Addr} {fd : FuncData} (Fn : Fun K "show_span" "show_span" (top 17) f fd) (T : Glb K mg)  : FnOk P w K mg base CX0 1 f fd ["one"] (spF K 1 GP.show_span.f) :=
  fun_ok (k := 0) (F := GP.show_span.f) (g := GP.show_span.g) Fn sc_show_span (fun cdv A outer s H E hr => body_show_span T  cdv A outer s H E hr) (fun ds r hl e => does_run e)
theorem sc__law_cell_at : FnScope ["_law_script", "_law_k"] ["_law_script", "_law_k"] (defScope (top 23)) := ⟨rfl, rfl, rfl, by decide +kernel, rfl, by decide +kernel, by decide +kernel⟩
theorem body__law_cell_at {f : Addr} (T : Glb K mg)  (cdv : Value) (A : Around) (outer : List Env) (s : Shared) (H : Hp) (E : XK) (hr : Room 0 (A.deeper (envOfC "_law_cell_at" (defScope (top 23)) s.heap.objs.size f cdv))) :
    PSsv (cxOf CX0 P w K mg base ["_law_script", "_law_k"] "_law_cell_at" (defScope (top 23)) f cdv A outer s H E).nox (defBody (top 23)) GL.cell_at.g := by
  have nd : (["_law_script", "_law_k"] : List Str).Nodup := sc__law_cell_at.nd
  exact (pssv_cons (psv_if (pt_lt (pw_var 1) (PV.w (pv_len T.b_len (pav_cons (pw_var 0) pav_nil)))) (pssv_one (psv_ret (PV.w (pv_ix (pw_var 0) (pw_var 1))))) pssv_nil)
    (pssv_one (psv_ret (PV.w pv_int))))
theorem fok__law_cell_at {f : Addr} {fd : FuncData} (Fn : Fun K "_law_cell_at" "_law_cell_at" (top 23) f fd) (T : Glb K mg)  : FnOk P w K mg base CX0 1 f fd ["_law_script", "_law_k"] (spF K 2 GL.cell_at.f) :=
  fun_ok (k := 0) (F := GL.cell_at.f) (g := GL.cell_at.g) Fn sc__law_cell_at (fun cdv A outer s H E hr => body__law_cell_at T  cdv A outer s H E hr) (fun ds r hl e => does_run e)
theorem sc__law_number : FnScope ["_law_cell"] ["_law_cell"] (defScope (top 24)) := ⟨rfl, rfl, rfl, by decide +kernel, rfl, by decide +kernel, by decide +kernel⟩
theorem body__law_number {f : Addr} (T : Glb K mg)  (cdv : Value) (A : Around) (outer : List Env) (s : Shared) (H : Hp) (E : XK) (hr : Room 0 (A.deeper (envOfC "_law_number" (defScope (top 24)) s.heap.objs.size f cdv))) :
    PSsv (cxOf CX0 P w K mg base ["_law_cell"] "_law_number" (defScope (top 24)) f cdv A outer s H E).nox (defBody (top 24)) K91.L_number.g := by
  have nd : (["_law_cell"] : List Str).Nodup := sc__law_number.nd
  exact (pssv_cons (psv_if (pt_eq hr (PV.n (pv_modI (pw_var 0) (PV.w pv_int))) (PV.n pv_int)) (pssv_one (psv_ret (PV.w (pv_subI (PV.w (pv_modI (PV.w (pv_mulI (PV.w (pv_divI (pw_var 0) (PV.w pv_int))) (PV.w (pv_addI (PV.w (pv_powI (PV.w pv_int) (PV.w pv_int))) (PV.w pv_int))))) (PV.w (pv_addI (PV.w (pv_mulI (PV.w pv_int) (PV.w (pv_powI (PV.w pv_int) (PV.w pv_int))))) (PV.w pv_int))))) (PV.w (pv_powI (PV.w pv_int) (PV.w pv_int))))))) pssv_nil)
    (pssv_one (psv_ret (PV.w (pv_subI (PV.w (pv_modI (PV.w (pv_divI (pw_var 0) (PV.w pv_int))) (PV.w pv_int))) (PV.w pv_int))))))
theorem fok__law_number {f : Addr} {fd : FuncData} (Fn : Fun K "_law_number" "_law_number" (top 24) f fd) (T : Glb K mg)  : FnOk P w K mg base CX0 1 f fd ["_law_cell"] (spF K 1 K91.L_number.f) :=
  fun_ok (k := 0) (F := K91.L_number.f) (g := K91.L_number.g) Fn sc__law_number (fun cdv A outer s H E hr => body__law_number T  cdv A outer s H E hr) (fun ds r hl e => does_run e)
theorem sc__law_word : FnScope ["_law_cell", "_law_number_here", "_law_odd"] ["_law_cell", "_law_number_here"] (defScope (top 25)) := ⟨rfl, rfl, rfl, by decide +kernel, rfl, by decide +kernel, by decide +kernel⟩
theorem body__law_word {f : Addr} (T : Glb K mg)  (cdv : Value) (A : Around) (outer : List Env) (s : Shared) (H : Hp) (E : XK) (hr : Room 0 (A.deeper (envOfC "_law_word" (defScope (top 25)) s.heap.objs.size f cdv))) :
    PSsv (cxOf CX0 P w K mg base ["_law_cell", "_law_number_here", "_law_odd"] "_law_word" (defScope (top 25)) f cdv A outer s H E).nox (defBody (top 25)) K91.L_word.g := by
  have nd : (["_law_cell", "_law_number_here", "_law_odd"] : List Str).Nodup := sc__law_word.nd
  exact (pssv_cons (psv_if (pt_eq hr (PV.n (pv_modI (pw_var 0) (PV.w pv_int))) (PV.n pv_int)) (pssv_one (psv_ret (PV.w pv_str))) pssv_nil)
    (pssv_cons (psv_if (pt_eq hr (PV.n (pv_modI (pw_var 0) (PV.w pv_int))) (PV.n pv_int)) (pssv_cons (psv_set (i := 2) nd (PVf.s (pvf_lst (pas_cons pv_str (pas_cons pv_str (pas_cons pv_str (pas_cons pv_str (pas_cons pv_str (pas_cons pv_str (pas_cons pv_str (pas_cons (pv_addI (PV.w pv_str) (PV.w (pv_mulS (PV.w pv_str) (PV.w pv_int)))) (pas_cons (pv_addI (PV.w pv_str) (PV.w (pv_mulS (PV.w pv_str) (PV.w pv_int)))) (pas_cons pv_str (pas_cons pv_str (pas_cons pv_str (pas_cons pv_str (pas_cons pv_str pas_nil)))))))))))))))))
    (pssv_one (psv_ret (PV.w (pv_ix (pw_var 2) (PV.w (pv_modI (PV.w (pv_divI (pw_var 0) (PV.w pv_int))) (PV.w pv_int)))))))) pssv_nil)
    (pssv_one (psv_ret (PV.w (pv_strC T.b_str (pav_cons (pw_var 1) pav_nil)))))))
theorem fok__law_word {f : Addr} {fd : FuncData} (Fn : Fun K "_law_word" "_law_word" (top 25) f fd) (T : Glb K mg)  : FnOk P w K mg base CX0 1 f fd ["_law_cell", "_law_number_here"] (spF K 2 K91.L_word.f) :=
  fun_ok (k := 0) (F := K91.L_word.f) (g := K91.L_word.g) Fn sc__law_word (fun cdv A outer s H E hr => body__law_word T  cdv A outer s H E hr) (fun ds r hl e => does_run e)
theorem sc__law_spoilt : FnScope ["_law_text", "_law_cell", "_law_signs", "_law_sign", "_law_at"] ["_law_text", "_law_cell"] (defScope (top 26)) := ⟨rfl, rfl, rfl, by decide +kernel, rfl, by decide +kernel, by decide +kernel⟩
theorem body__law_spoilt {f : Addr} (T : Glb K mg)  (cdv : Value) (A : Around) (outer : List Env) (s : Shared) (H : Hp) (E : XK) (hr : Room 0 (A.deeper (envOfC "_law_spoilt" (defScope (top 26)) s.heap.objs.size f cdv))) :
    PSsv (cxOf CX0 P w K mg base ["_law_text", "_law_cell", "_law_signs", "_law_sign", "_law_at"] "_law_spoilt" (defScope (top 26)) f cdv A outer s H E).nox (defBody (top 26)) K91.L_spoilt.g := by
  have nd : (["_law_text", "_law_cell", "_law_signs", "_law_sign", "_law_at"] : List Str).Nodup := sc__law_spoilt.nd
  exact (pssv_cons (psv_set (i := 2) nd pv_str)
    (pssv_cons (psv_set (i := 3) nd (pv_ix (pw_var 2) (PV.w (pv_modI (PV.w (pv_divI (pw_var 1) (PV.w pv_int))) (PV.w (pv_len T.b_len (pav_cons (pw_var 2) pav_nil)))))))
    (pssv_cons (psv_set (i := 4) nd (pv_modI (PV.w (pv_divI (pw_var 1) (PV.w pv_int))) (PV.w (pv_addI (PV.w (pv_len T.b_len (pav_cons (pw_var 0) pav_nil))) (PV.w pv_int)))))
    (pssv_cons (psv_if (pt_eq hr (PV.n (pv_modI (pw_var 1) (PV.w pv_int))) (PV.n pv_int)) (pssv_one (psv_ret (PV.w (pv_addI (PV.w (pv_addI (PV.w (pv_sls (pw_var 0) pov_no (pov_so (pw_var 4)))) (pw_var 3))) (PV.w (pv_sls (pw_var 0) (pov_so (pw_var 4)) pov_no)))))) pssv_nil)
    (pssv_cons (psv_if (pt_eq hr (PV.n (pv_modI (pw_var 1) (PV.w pv_int))) (PV.n pv_int)) (pssv_one (psv_ret (PV.w (pv_addI (PV.w (pv_addI (PV.w (pv_sls (pw_var 0) pov_no (pov_so (pw_var 4)))) (pw_var 3))) (PV.w (pv_sls (pw_var 0) (pov_so (PV.w (pv_addI (pw_var 4) (PV.w pv_int)))) pov_no)))))) pssv_nil)
    (pssv_cons (psv_if (PWv.t (pwv_or (pt_eq hr (PV.n (pv_modI (pw_var 1) (PV.w pv_int))) (PV.n pv_int)) (pwv_or1 (pt_eq hr (PV.n (pv_modI (pw_var 1) (PV.w pv_int))) (PV.n pv_int))))) (pssv_one (psv_ret (PV.w (pv_addI (PV.w (pv_sls (pw_var 0) pov_no (pov_so (pw_var 4)))) (PV.w (pv_sls (pw_var 0) (pov_so (PV.w (pv_addI (pw_var 4) (PV.w pv_int)))) pov_no)))))) pssv_nil)
    (pssv_one (psv_ret (pw_var 0)))))))))
theorem fok__law_spoilt {f : Addr} {fd : FuncData} (Fn : Fun K "_law_spoilt" "_law_spoilt" (top 26) f fd) (T : Glb K mg)  : FnOk P w K mg base CX0 1 f fd ["_law_text", "_law_cell"] (spF K 2 K91.L_spoilt.f) :=
  fun_ok (k := 0) (F := K91.L_spoilt.f) (g := K91.L_spoilt.g) Fn sc__law_spoilt (fun cdv A outer s H E hr => body__law_spoilt T  cdv A outer s H E hr) (fun ds r hl e => does_run e)
theorem sc__law_read : FnScope ["_law_word_here", "_law_figures", "_law_sign"] ["_law_word_here"] (defScope (top 27)) := ⟨rfl, rfl, rfl, by decide +kernel, rfl, by decide +kernel, by decide +kernel⟩
theorem body__law_read {f : Addr} (T : Glb K mg)  (cdv : Value) (A : Around) (outer : List Env) (s : Shared) (H : Hp) (E : XK) (hr : Room 0 (A.deeper (envOfC "_law_read" (defScope (top 27)) s.heap.objs.size f cdv))) :
    PSsv (cxOf CX0 P w K mg base ["_law_word_here", "_law_figures", "_law_sign"] "_law_read" (defScope (top 27)) f cdv A outer s H E).nox (defBody (top 27)) GL.read.g := by
  have nd : (["_law_word_here", "_law_figures", "_law_sign"] : List Str).Nodup := sc__law_read.nd
  exact (pssv_cons (psv_set (i := 1) nd (pv_var 0))
    (pssv_cons (psv_if (pt_eq hr (PV.n (pv_sls (pw_var 0) pov_no (pov_so (PV.w pv_int)))) (PV.n pv_str)) (pssv_one (psv_set (i := 1) nd (pv_sls (pw_var 0) (pov_so (PV.w pv_int)) pov_no))) pssv_nil)
    (pssv_cons (psv_if (PWv.t (pwv_or (pt_eq hr (PVw.n (pw_var 1)) (PV.n pv_str)) (pwv_or (pt_gt (PV.w (pv_len T.b_len (pav_cons (pw_var 1) pav_nil))) (PV.w pv_int)) (pwv_or1 (PWv.t (pwv_and (pt_eq hr (PV.n (pv_ix (pw_var 1) (PV.w pv_int))) (PV.n pv_str)) (pwv_and1 (pt_ne hr (PVw.n (pw_var 0)) (PV.n pv_str))))))))) (pssv_one (psv_ret (PV.w pv_non))) pssv_nil)
    (pssv_cons (psv_for PassesOwn.never rfl (piv_str (pv_var 1)) (pgv_name (i := 2) nd) (pssv_one (psv_if (pt_cmpV op_notin_str os_notS (pw_var 2) (PV.w pv_str) rfl) (pssv_one (psv_ret (PV.w pv_non))) pssv_nil)))
    (pssv_one (psv_ret (PV.w (pv_intT T.b_int (pav_cons (pw_var 0) pav_nil)))))))))
theorem fok__law_read {f : Addr} {fd : FuncData} (Fn : Fun K "_law_read" "_law_read" (top 27) f fd) (T : Glb K mg)  : FnOk P w K mg base CX0 1 f fd ["_law_word_here"] (spF K 1 GL.read.f) :=
  fun_ok (k := 0) (F := GL.read.f) (g := GL.read.g) Fn sc__law_read (fun cdv A outer s H E hr => body__law_read T  cdv A outer s H E hr) (fun ds r hl e => does_run e)
theorem sc__law_end : FnScope ["_law_bracket", "_law_word_here", "_law_shut", "_law_more", "_law_place"] ["_law_bracket", "_law_word_here", "_law_shut", "_law_more"] (defScope (top 28)) := ⟨rfl, rfl, rfl, by decide +kernel, rfl, by decide +kernel, by decide +kernel⟩
theorem body__law_end {f : Addr} (T : Glb K mg) (C__law_read : Cal P w K mg base "_law_read" 1 1 GL.read.f) (cdv : Value) (A : Around) (outer : List Env) (s : Shared) (H : Hp) (E : XK) (hr : Room 1 (A.deeper (envOfC "_law_end" (defScope (top 28)) s.heap.objs.size f cdv))) :
    PSsv (cxOf CX0 P w K mg base ["_law_bracket", "_law_word_here", "_law_shut", "_law_more", "_law_place"] "_law_end" (defScope (top 28)) f cdv A outer s H E).nox (defBody (top 28)) GL.end3.g := by
  have nd : (["_law_bracket", "_law_word_here", "_law_shut", "_law_more", "_law_place"] : List Str).Nodup := sc__law_end.nd
  exact (pssv_cons (psv_if (PWv.t (pwv_and (pt_eq hr (PVw.n (pw_var 1)) (PV.n pv_str)) (pwv_and1 (pt_ne hr (PVw.n (pw_var 0)) (PVw.n (pw_var 2)))))) (pssv_one (psv_retF (pvf_lst (pas_cons pv_non pas_nil)))) pssv_nil)
    (pssv_cons (psv_set (i := 4) nd (pv_callC C__law_read hr (pan_cons (PVw.n (pw_var 1)) pan_nil)))
    (pssv_cons (psv_if (pt_is (PVw.n (pw_var 4)) (PV.n pv_non)) (pssv_one (psv_retF (pvf_lst pas_nil))) pssv_nil)
    (pssv_one (psv_retF (pvf_lst (pas_cons (pv_addI (pw_var 4) (pw_var 3)) pas_nil)))))))
theorem fok__law_end {f : Addr} {fd : FuncData} (Fn : Fun K "_law_end" "_law_end" (top 28) f fd) (T : Glb K mg) (C__law_read : Cal P w K mg base "_law_read" 1 1 GL.read.f) : FnOk P w K mg base CX0 2 f fd ["_law_bracket", "_law_word_here", "_law_shut", "_law_more"] (spF K 4 GL.end3.f) :=
  fun_ok (k := 1) (F := GL.end3.f) (g := GL.end3.g) Fn sc__law_end (fun cdv A outer s H E hr => body__law_end T C__law_read cdv A outer s H E hr) (fun ds r hl e => does_run e)
theorem sc__law_due : FnScope ["_law_text", "_law_left", "_law_comma", "_law_right", "_law_low", "_law_behind"] ["_law_text"] (defScope (top 29)) := ⟨rfl, rfl, rfl, by decide +kernel, rfl, by decide +kernel, by decide +kernel⟩
theorem body__law_due {f : Addr} (T : Glb K mg) (C__law_end : Cal P w K mg base "_law_end" 2 4 GL.end3.f) (cdv : Value) (A : Around) (outer : List Env) (s : Shared) (H : Hp) (E : XK) (hr : Room 2 (A.deeper (envOfC "_law_due" (defScope (top 29)) s.heap.objs.size f cdv))) :
    PSsv (cxOf CX0 P w K mg base ["_law_text", "_law_left", "_law_comma", "_law_right", "_law_low", "_law_behind"] "_law_due" (defScope (top 29)) f cdv A outer s H E).nox (defBody (top 29)) K91.L_due.g := by
  have nd : (["_law_text", "_law_left", "_law_comma", "_law_right", "_law_low", "_law_behind"] : List Str).Nodup := sc__law_due.nd
  exact (pssv_cons (psv_if (PWv.t (pwv_or (pt_lt (PV.w (pv_len T.b_len (pav_cons (pw_var 0) pav_nil))) (PV.w pv_int)) (pwv_or (pt_notin (PV.n (pv_ix (pw_var 0) (PV.w pv_int))) (PV.n (PVf.s (pvf_lst (pas_cons pv_str (pas_cons pv_str pas_nil)))))) (pwv_or (pt_notin (PV.n (pv_ix (pw_var 0) (PV.w (pv_neg pv_int)))) (PV.n (PVf.s (pvf_lst (pas_cons pv_str (pas_cons pv_str pas_nil)))))) (pwv_or1 (pt_cmpV op_notin_str os_notS (PV.w pv_str) (pw_var 0) rfl)))))) (pssv_one (psv_ret (PV.w pv_str))) pssv_nil)
    (pssv_cons (psv_asg (pv_part (PV.w (pv_sls (pw_var 0) (pov_so (PV.w pv_int)) (pov_so (PV.w (pv_neg pv_int))))) (PV.w pv_str)) (pgv_tup (n := 3) rfl (pgsv_cons (pgv_name (i := 1) nd) (pgsv_cons (pgv_name (i := 2) nd) (pgsv_cons (pgv_name (i := 3) nd) pgsv_nil)))))
    (pssv_cons (psv_set (i := 4) nd (pv_callC C__law_end hr (pan_cons (PV.n (pv_ix (pw_var 0) (PV.w pv_int))) (pan_cons (PVw.n (pw_var 1)) (pan_cons (PV.n pv_str) (pan_cons (PV.n (pv_int1 T.b_int (pav_cons (PV.w (pv_eq hr (PV.n (pv_ix (pw_var 0) (PV.w pv_int))) (PV.n pv_str))) pav_nil))) pan_nil))))))
    (pssv_cons (psv_set (i := 5) nd (pv_callC C__law_end hr (pan_cons (PV.n (pv_ix (pw_var 0) (PV.w (pv_neg pv_int)))) (pan_cons (PVw.n (pw_var 3)) (pan_cons (PV.n pv_str) (pan_cons (PV.n (pv_int1 T.b_int (pav_cons (PV.w (pv_eq hr (PV.n (pv_ix (pw_var 0) (PV.w (pv_neg pv_int)))) (PV.n pv_str))) pav_nil))) pan_nil))))))
    (pssv_cons (psv_if (PWv.t (pwv_or (pt_eq hr (PVw.n (pw_var 4)) (PV.n (PVf.s (pvf_lst pas_nil)))) (pwv_or1 (pt_eq hr (PVw.n (pw_var 5)) (PV.n (PVf.s (pvf_lst pas_nil))))))) (pssv_one (psv_ret (PV.w pv_str))) pssv_nil)
    (pssv_cons (psv_if (PWv.t (pwv_and (pt_isnot (PV.n (pv_ix (pw_var 4) (PV.w pv_int))) (PV.n pv_non)) (pwv_and (pt_isnot (PV.n (pv_ix (pw_var 5) (PV.w pv_int))) (PV.n pv_non)) (pwv_and1 (pt_ge (PV.w (pv_ix (pw_var 4) (PV.w pv_int))) (PV.w (pv_ix (pw_var 5) (PV.w pv_int)))))))) (pssv_one (psv_ret (PV.w pv_str))) pssv_nil)
    (pssv_one (psv_ret (PV.w (pv_tup (pas_cons (pv_ix (pw_var 4) (PV.w pv_int)) (pas_cons (pv_ix (pw_var 5) (PV.w pv_int)) pas_nil))))))))))))
theorem fok__law_due {f : Addr} {fd : FuncData} (Fn : Fun K "_law_due" "_law_due" (top 29) f fd) (T : Glb K mg) (C__law_end : Cal P w K mg base "_law_end" 2 4 GL.end3.f) : FnOk P w K mg base CX0 3 f fd ["_law_text"] (spF K 1 K91.L_due.f) :=
  fun_ok (k := 2) (F := K91.L_due.f) (g := K91.L_due.g) Fn sc__law_due (fun cdv A outer s H E hr => body__law_due T C__law_end cdv A outer s H E hr) (fun ds r hl e => does_run e)
theorem sc__law_told : FnScope ["_law_text", "_law_spans", "_law_classes", "_law_found", "e"] ["_law_text", "_law_spans"] (defScope (top 30)) := ⟨rfl, rfl, rfl, by decide +kernel, rfl, by decide +kernel, by decide +kernel⟩
theorem body__law_told {f : Addr} (T : Glb K mg) (C_read_span : Cal P w K mg base "read_span" 5 1 GP.read_span.f) (C_read_number : Cal P w K mg base "read_number" 2 1 GP.read_number.f) {XS0 : Addr} {XC1 : Addr} (XT_1 : XT K mg 1 "SpanError" XC1 XS0) (CX_read_span_1 : CalX P w K mg base "read_span" 5 1 K91.X_read_span_1.f XC1) {XC11 : Addr} (XT_11 : XT K mg 11 "SpanError" XC11 XS0) (CX_read_span_11 : CalX P w K mg base "read_span" 5 1 K91.X_read_span_11.f XC11) (CX_read_number_11 : CalX P w K mg base "read_number" 2 1 K91.X_read_number_11.f XC11) (cdv : Value) (A : Around) (outer : List Env) (s : Shared) (H : Hp) (E : XK) (hr : Room 5 (A.deeper (envOfC "_law_told" (defScope (top 30)) s.heap.objs.size f cdv))) :
    PSsv (cxOf CX0 P w K mg base ["_law_text", "_law_spans", "_law_classes", "_law_found", "e"] "_law_told" (defScope (top 30)) f cdv A outer s H E).nox (defBody (top 30)) K91.L_told.g := by
  have nd : (["_law_text", "_law_spans", "_law_classes", "_law_found", "e"] : List Str).Nodup := sc__law_told.nd
  exact (pssv_cons (psv_set (i := 2) nd (PVf.s (pvf_lst pas_nil)))
    (pssv_cons (psv_set (i := 3) nd pv_non)
    (pssv_cons (psv_try2 (i := 4) (t := 1) (u := 11) nd XT_1.gl XT_1.cat XT_11.cat XT_1.nm XT_11.nm (fun W => (psv_if (PVn.t (PVw.n (pw_var 1))) (pssv_one (psv_set (i := 3) nd (pv_callC C_read_span hr (pan_cons (PVw.n (pw_var 0)) pan_nil)))) (pssv_one (psv_set (i := 3) nd (pv_callC C_read_number hr (pan_cons (PVw.n (pw_var 0)) pan_nil))))))
    (fun W => thr_if (PVn.t (PVw.n (pw_var 1))) (throwss_one (thr_set CX_read_span_1 hr (pan_cons (PVw.n (pw_var 0)) pan_nil))) throwss_never)
    (fun W => thr_if (PVn.t (PVw.n (pw_var 1))) (throwss_one (thr_set CX_read_span_11 hr (pan_cons (PVw.n (pw_var 0)) pan_nil))) (throwss_one (thr_set CX_read_number_11 hr (pan_cons (PVw.n (pw_var 0)) pan_nil))))
    (fun ea xe => (pssv_one (psv_set (i := 2) nd (PVf.s (pvf_lst (pas_cons (pv_isx (i := 4) T.b_isinstance T.isx_NoText_1_11) (pas_cons (pv_isx (i := 4) T.b_isinstance T.isx_Empty_1_11) (pas_cons (pv_isxB (i := 4) T.b_isinstance T.b_ValueError T.isxB_ValueError_1_11) pas_nil)))))))))
    (pssv_cons (psv_if (pt_eq hr (PVw.n (pw_var 2)) (PV.n (PVf.s (pvf_lst (pas_cons pv_bl (pas_cons pv_bl (pas_cons pv_bl pas_nil))))))) (pssv_one (psv_ret (PV.w pv_str))) pssv_nil)
    (pssv_cons (psv_if (pt_eq hr (PVw.n (pw_var 2)) (PV.n (PVf.s (pvf_lst (pas_cons pv_bl (pas_cons pv_bl (pas_cons pv_bl pas_nil))))))) (pssv_one (psv_ret (PV.w pv_str))) pssv_nil)
    (pssv_one (psv_ret (pw_var 3))))))))
theorem fok__law_told {f : Addr} {fd : FuncData} (Fn : Fun K "_law_told" "_law_told" (top 30) f fd) (T : Glb K mg) (C_read_span : Cal P w K mg base "read_span" 5 1 GP.read_span.f) (C_read_number : Cal P w K mg base "read_number" 2 1 GP.read_number.f) {XS0 : Addr} {XC1 : Addr} (XT_1 : XT K mg 1 "SpanError" XC1 XS0) (CX_read_span_1 : CalX P w K mg base "read_span" 5 1 K91.X_read_span_1.f XC1) {XC11 : Addr} (XT_11 : XT K mg 11 "SpanError" XC11 XS0) (CX_read_span_11 : CalX P w K mg base "read_span" 5 1 K91.X_read_span_11.f XC11) (CX_read_number_11 : CalX P w K mg base "read_number" 2 1 K91.X_read_number_11.f XC11) : FnOk P w K mg base CX0 6 f fd ["_law_text", "_law_spans"] (spF K 2 K91.L_told.f) :=
  fun_ok (k := 5) (F := K91.L_told.f) (g := K91.L_told.g) Fn sc__law_told (fun cdv A outer s H E hr => body__law_told T C_read_span C_read_number XT_1 CX_read_span_1 XT_11 CX_read_span_11 CX_read_number_11 cdv A outer s H E hr) (fun ds r hl e => does_run e)
theorem sc__law_whole : FnScope ["_law_found"] ["_law_found"] (defScope (top 31)) := ⟨rfl, rfl, rfl, by decide +kernel, rfl, by decide +kernel, by decide +kernel⟩
theorem body__law_whole {f : Addr} (T : Glb K mg)  (cdv : Value) (A : Around) (outer : List Env) (s : Shared) (H : Hp) (E : XK) (hr : Room 0 (A.deeper (envOfC "_law_whole" (defScope (top 31)) s.heap.objs.size f cdv))) :
    PSsv (cxOf CX0 P w K mg base ["_law_found"] "_law_whole" (defScope (top 31)) f cdv A outer s H E).nox (defBody (top 31)) GL.whole.g := by
  have nd : (["_law_found"] : List Str).Nodup := sc__law_whole.nd
  exact (pssv_one (psv_ret (PV.w (pv_and (pv_isi T.b_isinstance T.b_int (by decide +kernel) (pw_var 0)) (pv_one (pv_not (pv_isi T.b_isinstance T.b_bool (by decide +kernel) (pw_var 0))))))))
theorem fok__law_whole {f : Addr} {fd : FuncData} (Fn : Fun K "_law_whole" "_law_whole" (top 31) f fd) (T : Glb K mg)  : FnOk P w K mg base CX0 1 f fd ["_law_found"] (spF K 1 GL.whole.f) :=
  fun_ok (k := 0) (F := GL.whole.f) (g := GL.whole.g) Fn sc__law_whole (fun cdv A outer s H E hr => body__law_whole T  cdv A outer s H E hr) (fun ds r hl e => does_run e)
theorem sc__law_shown : FnScope ["_law_one", "_law_left"] ["_law_one"] (defScope (top 32)) := ⟨rfl, rfl, rfl, by decide +kernel, rfl, by decide +kernel, by decide +kernel⟩
theorem body__law_shown {f : Addr} (T : Glb K mg)  (cdv : Value) (A : Around) (outer : List Env) (s : Shared) (H : Hp) (E : XK) (hr : Room 0 (A.deeper (envOfC "_law_shown" (defScope (top 32)) s.heap.objs.size f cdv))) :
    PSsv (cxOf CX0 P w K mg base ["_law_one", "_law_left"] "_law_shown" (defScope (top 32)) f cdv A outer s H E).nox (defBody (top 32)) K91.L_shown.g := by
  have nd : (["_law_one", "_law_left"] : List Str).Nodup := sc__law_shown.nd
  exact (pssv_cons (psv_set (i := 1) nd pv_str)
    (pssv_cons (psv_if (pt_isnot (PV.n (pv_ix (pw_var 0) (PV.w pv_int))) (PV.n pv_non)) (pssv_one (psv_set (i := 1) nd (pv_addI (PV.w pv_str) (PV.w (pv_strC T.b_str (pav_cons (PV.w (pv_ix (pw_var 0) (PV.w pv_int))) pav_nil)))))) pssv_nil)
    (pssv_cons (psv_if (pt_is (PV.n (pv_ix (pw_var 0) (PV.w pv_int))) (PV.n pv_non)) (pssv_one (psv_ret (PV.w (pv_addI (pw_var 1) (PV.w pv_str))))) pssv_nil)
    (pssv_one (psv_ret (PV.w (pv_addI (PV.w (pv_addI (PV.w (pv_addI (pw_var 1) (PV.w pv_str))) (PV.w (pv_strC T.b_str (pav_cons (PV.w (pv_ix (pw_var 0) (PV.w pv_int))) pav_nil))))) (PV.w pv_str))))))))
theorem fok__law_shown {f : Addr} {fd : FuncData} (Fn : Fun K "_law_shown" "_law_shown" (top 32) f fd) (T : Glb K mg)  : FnOk P w K mg base CX0 1 f fd ["_law_one"] (spF K 1 K91.L_shown.f) :=
  fun_ok (k := 0) (F := K91.L_shown.f) (g := K91.L_shown.g) Fn sc__law_shown (fun cdv A outer s H E hr => body__law_shown T  cdv A outer s H E hr) (fun ds r hl e => does_run e)
theorem sc_law : FnScope ["_law_script", "_law_first", "_law_second", "_law_words", "_law_word_here", "_law_due_here", "_law_told_here", "_law_way", "_law_text", "_law_k", "_law_again"] ["_law_script"] (defScope (top 33)) := ⟨rfl, rfl, rfl, by decide +kernel, rfl, by decide +kernel, by decide +kernel⟩
theorem body_law {f : Addr} (T : Glb K mg) (C__law_number : Cal P w K mg base "_law_number" 1 1 K91.L_number.f) (C__law_cell_at : Cal P w K mg base "_law_cell_at" 1 2 GL.cell_at.f) (C__law_spoilt : Cal P w K mg base "_law_spoilt" 1 2 K91.L_spoilt.f) (C__law_due : Cal P w K mg base "_law_due" 3 1 K91.L_due.f) (C__law_told : Cal P w K mg base "_law_told" 6 2 K91.L_told.f) (C_show_span : Cal P w K mg base "show_span" 1 1 GP.show_span.f) (C__law_word : Cal P w K mg base "_law_word" 1 2 K91.L_word.f) (C__law_read : Cal P w K mg base "_law_read" 1 1 GL.read.f) (C_read_span : Cal P w K mg base "read_span" 5 1 GP.read_span.f) (C__law_shown : Cal P w K mg base "_law_shown" 1 1 K91.L_shown.f) (C__law_whole : Cal P w K mg base "_law_whole" 1 1 GL.whole.f) (cdv : Value) (A : Around) (outer : List Env) (s : Shared) (H : Hp) (E : XK) (hr : Room 6 (A.deeper (envOfC "law" (defScope (top 33)) s.heap.objs.size f cdv))) :
    PSsv (cxOf CX0 P w K mg base ["_law_script", "_law_first", "_law_second", "_law_words", "_law_word_here", "_law_due_here", "_law_told_here", "_law_way", "_law_text", "_law_k", "_law_again"] "law" (defScope (top 33)) f cdv A outer s H E).nox (defBody (top 33)) K91.law.g := by
  have nd : (["_law_script", "_law_first", "_law_second", "_law_words", "_law_word_here", "_law_due_here", "_law_told_here", "_law_way", "_law_text", "_law_k", "_law_again"] : List Str).Nodup := sc_law.nd
  have nI0 : (["_law_word_here"] : List Str).Nodup := by decide +kernel
  exact (pssv_cons (psv_set (i := 1) nd (pv_callC C__law_number hr (pan_cons (PV.n (pv_callC C__law_cell_at hr (pan_cons (PVw.n (pw_var 0)) (pan_cons (PV.n pv_int) pan_nil)))) pan_nil)))
    (pssv_cons (psv_set (i := 2) nd (pv_callC C__law_number hr (pan_cons (PV.n (pv_callC C__law_cell_at hr (pan_cons (PVw.n (pw_var 0)) (pan_cons (PV.n pv_int) pan_nil)))) pan_nil)))
    (pssv_cons (psv_if (pt_eq hr (PV.n (pv_modI (PV.w (pv_callC C__law_cell_at hr (pan_cons (PVw.n (pw_var 0)) (pan_cons (PV.n pv_int) pan_nil)))) (PV.w pv_int))) (PV.n pv_int)) (pssv_one (psv_set (i := 2) nd (pv_subI (PV.w (pv_addI (pw_var 1) (PV.w (pv_modI (PV.w (pv_divI (PV.w (pv_callC C__law_cell_at hr (pan_cons (PVw.n (pw_var 0)) (pan_cons (PV.n pv_int) pan_nil)))) (PV.w pv_int))) (PV.w pv_int))))) (PV.w pv_int)))) pssv_nil)
    (pssv_cons (psv_set (i := 3) nd (PVf.s (pvf_lst (pas_cons (pv_callC C__law_word hr (pan_cons (PV.n (pv_callC C__law_cell_at hr (pan_cons (PVw.n (pw_var 0)) (pan_cons (PV.n pv_int) pan_nil)))) (pan_cons (PVw.n (pw_var 1)) pan_nil))) (pas_cons (pv_callC C__law_word hr (pan_cons (PV.n (pv_callC C__law_cell_at hr (pan_cons (PVw.n (pw_var 0)) (pan_cons (PV.n pv_int) pan_nil)))) (pan_cons (PVw.n (pw_var 2)) pan_nil))) pas_nil)))))
    (pssv_cons (psv_for PassesOwn.never rfl (piv_seq (pv_var 3)) (pgv_name (i := 4) nd) (pssv_cons (psv_set (i := 5) nd (pv_callC C__law_read hr (pan_cons (PVw.n (pw_var 4)) pan_nil)))
    (pssv_cons (psv_set (i := 6) nd (pv_callC C__law_told hr (pan_cons (PVw.n (pw_var 4)) (pan_cons (PV.n pv_bl) pan_nil))))
    (pssv_one (psv_if (PWv.t (pwv_or (PWv.t (pwv_and (pt_is (PVw.n (pw_var 5)) (PV.n pv_non)) (pwv_and1 (pt_ne hr (PVw.n (pw_var 6)) (PV.n pv_str))))) (pwv_or1 (PWv.t (pwv_and (pt_isnot (PVw.n (pw_var 5)) (PV.n pv_non)) (pwv_and1 (PWv.t (pwv_or (ptv_not (PVn.t (PV.n (pv_callC C__law_whole hr (pan_cons (PVw.n (pw_var 6)) pan_nil))))) (pwv_or1 (pt_ne hr (PVw.n (pw_var 6)) (PVw.n (pw_var 5)))))))))))) (pssv_one (psv_ret (PV.w pv_bl))) pssv_nil)))))
    (pssv_cons (psv_set (i := 7) nd (pv_callC C__law_cell_at hr (pan_cons (PVw.n (pw_var 0)) (pan_cons (PV.n pv_int) pan_nil))))
    (pssv_cons (psv_set (i := 8) nd (pv_addI (PV.w (pv_addI (PV.w (pv_addI (PV.w (pv_addI (PV.w (pv_ix (PV.w (PVf.s (pvf_lst (pas_cons pv_str (pas_cons pv_str pas_nil))))) (PV.w (pv_modI (pw_var 7) (PV.w pv_int))))) (PV.w (pv_ix (pw_var 3) (PV.w pv_int))))) (PV.w pv_str))) (PV.w (pv_ix (pw_var 3) (PV.w pv_int))))) (PV.w (pv_ix (PV.w (PVf.s (pvf_lst (pas_cons pv_str (pas_cons pv_str pas_nil))))) (PV.w (pv_modI (PV.w (pv_divI (pw_var 7) (PV.w pv_int))) (PV.w pv_int)))))))
    (pssv_cons (psv_set (i := 8) nd (pv_callC C__law_spoilt hr (pan_cons (PVw.n (pw_var 8)) (pan_cons (PV.n (pv_callC C__law_cell_at hr (pan_cons (PVw.n (pw_var 0)) (pan_cons (PV.n pv_int) pan_nil)))) pan_nil))))
    (pssv_cons (psv_if (pt_eq hr (PV.n (pv_modI (PV.w (pv_divI (pw_var 7) (PV.w pv_int))) (PV.w pv_int))) (PV.n pv_int)) (pssv_one (psv_ret (PV.w (pv_eq hr (PV.n (pv_callC C__law_told hr (pan_cons (PV.n (pv_ix (PV.w (PVf.s (pvf_lst (pas_cons pv_non (pas_cons pv_int (pas_cons (PVf.s (pvf_lst (pas_cons pv_str pas_nil))) pas_nil)))))) (PV.w (pv_modI (PV.w (pv_divI (pw_var 7) (PV.w pv_int))) (PV.w pv_int))))) (pan_cons (PV.n (pv_eq hr (PV.n (pv_modI (PV.w (pv_divI (pw_var 7) (PV.w pv_int))) (PV.w pv_int))) (PV.n pv_int))) pan_nil)))) (PV.n pv_str))))) pssv_nil)
    (pssv_cons (psv_set (i := 5) nd (pv_callC C__law_due hr (pan_cons (PVw.n (pw_var 8)) pan_nil)))
    (pssv_cons (psv_set (i := 6) nd (pv_callC C__law_told hr (pan_cons (PVw.n (pw_var 8)) (pan_cons (PV.n pv_bl) pan_nil))))
    (pssv_cons (psv_if (PWv.t (pwv_or (PVn.t (PV.n (pv_isi T.b_isinstance T.b_str (by decide +kernel) (pw_var 5)))) (pwv_or1 (PVn.t (PV.n (pv_isi T.b_isinstance T.b_str (by decide +kernel) (pw_var 6))))))) (pssv_one (psv_ret (PV.w (pv_and (pv_isi T.b_isinstance T.b_str (by decide +kernel) (pw_var 5)) (pv_and (pv_isi T.b_isinstance T.b_str (by decide +kernel) (pw_var 6)) (pv_one (pv_eq hr (PVw.n (pw_var 6)) (PVw.n (pw_var 5))))))))) pssv_nil)
    (pssv_cons (psv_if (PWv.t (pwv_or (ptv_not (PVn.t (PV.n (pv_isi T.b_isinstance T.b_tuple (by decide +kernel) (pw_var 6))))) (pwv_or1 (pt_ne hr (PV.n (pv_len T.b_len (pav_cons (pw_var 6) pav_nil))) (PV.n pv_int))))) (pssv_one (psv_ret (PV.w pv_bl))) pssv_nil)
    (pssv_cons (psv_for PassesOwn.never rfl (piv_range1 T.b_range pv_int) (pgv_name (i := 9) nd) (pssv_one (psv_if (PWv.t (pwv_or (PWv.t (pwv_and (pt_is (PV.n (pv_ix (pw_var 5) (pw_var 9))) (PV.n pv_non)) (pwv_and1 (pt_isnot (PV.n (pv_ix (pw_var 6) (pw_var 9))) (PV.n pv_non))))) (pwv_or1 (PWv.t (pwv_and (pt_isnot (PV.n (pv_ix (pw_var 5) (pw_var 9))) (PV.n pv_non)) (pwv_and1 (ptv_not (PVn.t (PV.n (pv_callC C__law_whole hr (pan_cons (PV.n (pv_ix (pw_var 6) (pw_var 9))) pan_nil))))))))))) (pssv_one (psv_ret (PV.w pv_bl))) pssv_nil)))
    (pssv_cons (psv_set (i := 10) nd (pv_callC C_show_span hr (pan_cons (PVw.n (pw_var 6)) pan_nil)))
    (pssv_cons (psv_if (PWv.t (pwv_or (pt_ne hr (PVw.n (pw_var 6)) (PVw.n (pw_var 5))) (pwv_or (ptv_not (PVn.t (PV.n (pv_isi T.b_isinstance T.b_str (by decide +kernel) (pw_var 10))))) (pwv_or1 (pt_ne hr (PVw.n (pw_var 10)) (PV.n (pv_callC C__law_shown hr (pan_cons (PVw.n (pw_var 5)) pan_nil)))))))) (pssv_one (psv_ret (PV.w pv_bl))) pssv_nil)
    (pssv_cons (psv_if (pt_gt (PV.w (pv_maxL rfl T.b_max (pav_cons (PV.w (PVf.s (pvf_comp (NY := ["_law_word_here"]) (mp := [none]) (comp_scope (by kernel_rfl)) rfl (piv_seq (pv_var 3)) (fun c => (pgv_name (i := 0) nI0)) (fun c => pfv_nil) (fun c => (pv_len T.b_len (pav_cons (pw_var 0) pav_nil)))))) pav_nil))) (PV.w pv_int)) (pssv_one (psv_ret (PV.w pv_bl))) pssv_nil)
    (pssv_one (psv_ret (PV.w (pv_eq hr (PV.n (pv_callC C_read_span hr (pan_cons (PVw.n (pw_var 10)) pan_nil))) (PVw.n (pw_var 5)))))))))))))))))))))))
theorem fok_law {f : Addr} {fd : FuncData} (Fn : Fun K "law" "law" (top 33) f fd) (T : Glb K mg) (C__law_number : Cal P w K mg base "_law_number" 1 1 K91.L_number.f) (C__law_cell_at : Cal P w K mg base "_law_cell_at" 1 2 GL.cell_at.f) (C__law_spoilt : Cal P w K mg base "_law_spoilt" 1 2 K91.L_spoilt.f) (C__law_due : Cal P w K mg base "_law_due" 3 1 K91.L_due.f) (C__law_told : Cal P w K mg base "_law_told" 6 2 K91.L_told.f) (C_show_span : Cal P w K mg base "show_span" 1 1 GP.show_span.f) (C__law_word : Cal P w K mg base "_law_word" 1 2 K91.L_word.f) (C__law_read : Cal P w K mg base "_law_read" 1 1 GL.read.f) (C_read_span : Cal P w K mg base "read_span" 5 1 GP.read_span.f) (C__law_shown : Cal P w K mg base "_law_shown" 1 1 K91.L_shown.f) (C__law_whole : Cal P w K mg base "_law_whole" 1 1 GL.whole.f) : FnOk P w K mg base CX0 7 f fd ["_law_script"] (spF K 1 K91.law.f) :=
  fun_ok (k := 6) (F := K91.law.f) (g := K91.law.g) Fn sc_law (fun cdv A outer s H E hr => body_law T C__law_number C__law_cell_at C__law_spoilt C__law_due C__law_told C_show_span C__law_word C__law_read C_read_span C__law_shown C__law_whole cdv A outer s H E hr) (fun ds r hl e => does_run e)
end
end K91
namespace K91
open PySem PyProof.Rows L2 FL NumText
open Builtin.Int (intBits)
/-! ### the ends -/
def endT (w : Nat) (p : Int) : D := if w = 0 then .ins 7 [.int p] else if w = 1 then .ins 8 [.int p] else .ins 9 []
def lowT (w : Nat) (p : Int) : Option Int := if w = 0 then some p else if w = 1 then some (p + 1) else none
def behT (w : Nat) (p : Int) : Option Int := if w = 0 then some (p + 1) else if w = 1 then some p else none
theorem lowT_eq (w : Nat) (p : Int) : methR 0 [7, 8, 9, 10] GP.M_low_88ddca (endT w p) [] = some (.val (oi (lowT w p))) := by
  unfold endT lowT
  by_cases h0 : w = 0
  · simp [h0, GP.M_low_88ddca, GP.Shut_low.f, runG, GP.Shut_low.g, args, List.lookup]
  · by_cases h1 : w = 1
    · simp [h1, GP.M_low_88ddca, GP.Open_low.f, runG, GP.Open_low.g, args, List.lookup]
    · simp [h0, h1, GP.M_low_88ddca, GP.Endless_low.f, runG, GP.Endless_low.g, args]
theorem behT_eq (w : Nat) (p : Int) : methR 0 [7, 8, 9, 10] GP.M_behind_f72aa6 (endT w p) [] = some (.val (oi (behT w p))) := by
  unfold endT behT
  by_cases h0 : w = 0
  · simp [h0, GP.M_behind_f72aa6, GP.Shut_behind.f, runG, GP.Shut_behind.g, args, List.lookup]
  · by_cases h1 : w = 1
    · simp [h1, GP.M_behind_f72aa6, GP.Open_behind.f, runG, GP.Open_behind.g, args, List.lookup]
    · simp [h0, h1, GP.M_behind_f72aa6, GP.Endless_behind.f, runG, GP.Endless_behind.g, args]
theorem spanX (w v : Nat) (p q : Int) : K91.X_span_1.f [endT w p, endT v q] = aheadE (behT v q) (lowT w p) ∧ GP.span2.f [endT w p, endT v q] = if aheadE (behT v q) (lowT w p) = true then none else some (.val (spD (lowT w p, behT v q))) := by
  have m1 := lowT_eq w p
  have m2 := behT_eq v q
  have a := aheadE_eq (behT v q) (lowT w p)
  have ar : args 4 [endT w p, endT v q] = [.v (endT w p), .v (endT v q), .no, .no] := by simp [args]
  unfold K91.X_span_1.f runX K91.X_span_1.x GP.span2.f runG GP.span2.g
  rw [ar]
  generalize endT w p = A at *
  generalize endT v q = B at *
  generalize lowT w p = L at *
  generalize behT v q = H at *
  have e1 : setG 2 (methV 0 [7, 8, 9, 10] GP.M_low_88ddca (getV 0) nilA) [.v A, .v B, .no, .no] = some (.nx [.v A, .v B, .v (oi L), .no]) := by simp [m1]
  have e2 : setG 3 (methV 0 [7, 8, 9, 10] GP.M_behind_f72aa6 (getV 1) nilA) [.v A, .v B, .v (oi L), .no] = some (.nx [.v A, .v B, .v (oi L), .v (oi H)]) := by simp [m2]
  have e3 : testT (callV 2 GP.ends_ahead.f (consA (getW 3) (consA (getW 2) nilA))) [.v A, .v B, .v (oi L), .v (oi H)] = some (aheadE H L) := by simp [a]
  constructor
  · simp only [seqX, e1, e2, ifX, e3]
    cases aheadE H L <;> rfl
  · rw [seq_nx e1, seq_nx e2]
    cases h : aheadE H L with
    | true => simp [a, h]
    | false => simp [a, h, spD]
theorem numX {r : List Nat} (ha : Asc r) (hl : r.length ≤ 100000) : GP.read_number.f [.str (txS r)] = (if numL r = true then some (.val (.int (valT r))) else none) ∧ K91.X_read_number_11.f [.str (txS r)] = !numL r := by
  have e := is_number_eq ha hl
  constructor
  · cases h : numL r with
    | true => rw [if_pos rfl]; exact read_number_eq ha hl h
    | false =>
      rw [h] at e
      unfold GP.read_number.f runG GP.read_number.g
      simp [args, e]
  · unfold K91.X_read_number_11.f runX K91.X_read_number_11.x ifX
    cases h : numL r with
    | true => rw [h] at e; simp [args, e, neverX]
    | false => rw [h] at e; simp [args, e, alwaysX]
theorem initX (p : Int) : GP.Shut___init__.f [.int p] = some [.int p] := by
  unfold GP.Shut___init__.f FL.runN GP.Shut___init__.i
  simp [fldN, argsN]
def lowP (A : List Nat) : Option (Nat × Int) := if A = [40, 46, 46] then some (2, 0) else if A[0]? = some 91 then (if numL (A.drop 1) = true then some (0, valT (A.drop 1)) else none) else if A[0]? = some 40 then (if numL (A.drop 1) = true then some (1, valT (A.drop 1)) else none) else none
def highP (B : List Nat) : Option (Nat × Int) := if B = [46, 46, 41] then some (2, 0) else if B.getLast? = some 93 then (if numL B.dropLast = true then some (0, valT B.dropLast) else none) else if B.getLast? = some 41 then (if numL B.dropLast = true then some (1, valT B.dropLast) else none) else none
theorem lowX {A : List Nat} (ha : Asc A) (hl : A.length ≤ 100000) : GP.read_low_end.f [.str (txS A)] = (lowP A).map (fun q => .val (endT q.1 q.2)) ∧ K91.X_read_low_end_11.f [.str (txS A)] = (lowP A).isNone := by
  have hd : Asc (A.drop 1) := fun c hc => ha c (List.mem_of_mem_drop hc)
  obtain ⟨n1, n2⟩ := numX hd (by simp; omega)
  have z : A.length ≤ 16777216 := by omega
  have eqA := eq_tx ha (asc_lit (cs := [40, 46, 46]) rfl)
  have s1 : stwD (.str (txS A)) (.str (txS [91])) = some (.bl (decide (A[0]? = some 91))) := by simp only [stwD, stw_txS]
  have s2 : stwD (.str (txS A)) (.str (txS [40])) = some (.bl (decide (A[0]? = some 40))) := by simp only [stwD, stw_txS]
  have sl : Txt.slice (txS A) (some 1) none = txS (A.drop 1) := slice_from A 1
  have ii := initX (valT (A.drop 1))
  have ss : slsS (getW 0) (soP (konst (.int 1))) noP [.v (.str (txS A))] = some (.str (txS (A.drop 1))) := by simp [slsS, z, sl]
  unfold GP.read_low_end.f runG GP.read_low_end.g K91.X_read_low_end_11.f runX K91.X_read_low_end_11.x
  have ar : args 1 [.str (txS A)] = [.v (.str (txS A))] := by simp [args]
  rw [ar, t_lend, t_lsh, t_lop]
  have lp : lowP A = if A = [40, 46, 46] then some (2, 0) else if A[0]? = some 91 then (if numL (A.drop 1) = true then some (0, valT (A.drop 1)) else none) else if A[0]? = some 40 then (if numL (A.drop 1) = true then some (1, valT (A.drop 1)) else none) else none := rfl
  rw [lp]
  clear lp sl ha hd hl z
  generalize txS (A.drop 1) = XR at *
  generalize numL (A.drop 1) = nb at *
  generalize valT (A.drop 1) = vv at *
  generalize txS A = XA at *
  by_cases h0 : A = [40, 46, 46]
  · rw [decide_eq_true h0] at eqA
    rw [if_pos h0]
    constructor
    · simp [eqA, retDG, endT]
    · simp [eqA, retDG, seqX]
  · rw [decide_eq_false h0] at eqA
    rw [if_neg h0]
    by_cases h1 : A[0]? = some 91
    · rw [decide_eq_true h1] at s1
      rw [if_pos h1]
      cases nb with
      | true =>
        rw [if_pos rfl] at n1 ⊢
        constructor
        · simp [eqA, s1, ss, n1, makeG, ii, retDG, endT]
        · simp [eqA, s1, ss, n1, n2, makeG, ii, retDG, seqX, orX, ifX, callX]
      | false =>
        rw [if_neg (by simp)] at n1 ⊢
        constructor
        · simp [eqA, s1, ss, n1, makeG, retDG]
        · simp [eqA, s1, ss, n1, n2, seqX, orX, ifX, callX]
    · rw [decide_eq_false h1] at s1
      rw [if_neg h1]
      by_cases h2 : A[0]? = some 40
      · rw [decide_eq_true h2] at s2
        rw [if_pos h2]
        cases nb with
        | true =>
          rw [if_pos rfl] at n1 ⊢
          constructor
          · simp [eqA, s1, s2, ss, n1, makeG, ii, retDG, endT]
          · simp [eqA, s1, s2, ss, n1, n2, makeG, ii, retDG, seqX, orX, ifX, callX, neverX]
        | false =>
          rw [if_neg (by simp)] at n1 ⊢
          constructor
          · simp [eqA, s1, s2, ss, n1, makeG, retDG]
          · simp [eqA, s1, s2, ss, n1, n2, seqX, orX, ifX, callX, neverX]
      · rw [decide_eq_false h2] at s2
        rw [if_neg h2]
        constructor
        · simp [eqA, s1, s2]
        · simp [eqA, s1, s2, seqX, orX, ifX, neverX, alwaysX]
theorem highX {A : List Nat} (ha : Asc A) (hl : A.length ≤ 100000) : GP.read_high_end.f [.str (txS A)] = (highP A).map (fun q => .val (endT q.1 q.2)) ∧ K91.X_read_high_end_11.f [.str (txS A)] = (highP A).isNone := by
  have hd : Asc A.dropLast := fun c hc => ha c ((List.dropLast_sublist A).subset hc)
  obtain ⟨n1, n2⟩ := numX hd (by simp; omega)
  have z : A.length ≤ 16777216 := by omega
  have eqA := eq_tx ha (asc_lit (cs := [46, 46, 41]) rfl)
  have s1 : enwD (.str (txS A)) (.str (txS [93])) = some (.bl (decide (A.getLast? = some 93))) := by simp only [enwD, enw_txS]
  have s2 : enwD (.str (txS A)) (.str (txS [41])) = some (.bl (decide (A.getLast? = some 41))) := by simp only [enwD, enw_txS]
  have ii := initX (valT A.dropLast)
  have ss : A.getLast? ≠ none → slsS (getW 0) noP (soP (un1 negD (konst (.int 1)))) [.v (.str (txS A))] = some (.str (txS A.dropLast)) := fun h => by
    have sl := slice_but A (fun e => h (by rw [e]; rfl))
    simp [slsS, z, sl]
  unfold GP.read_high_end.f runG GP.read_high_end.g K91.X_read_high_end_11.f runX K91.X_read_high_end_11.x
  have ar : args 1 [.str (txS A)] = [.v (.str (txS A))] := by simp [args]
  rw [ar, t_hend, t_hsh, t_hop]
  have lp : highP A = if A = [46, 46, 41] then some (2, 0) else if A.getLast? = some 93 then (if numL A.dropLast = true then some (0, valT A.dropLast) else none) else if A.getLast? = some 41 then (if numL A.dropLast = true then some (1, valT A.dropLast) else none) else none := rfl
  rw [lp]
  clear lp ha hd hl z
  generalize txS A.dropLast = XR at *
  generalize numL A.dropLast = nb at *
  generalize valT A.dropLast = vv at *
  generalize txS A = XA at *
  by_cases h0 : A = [46, 46, 41]
  · rw [decide_eq_true h0] at eqA
    rw [if_pos h0]
    constructor
    · simp [eqA, retDG, endT]
    · simp [eqA, retDG, seqX]
  · rw [decide_eq_false h0] at eqA
    rw [if_neg h0]
    by_cases h1 : A.getLast? = some 93
    · have ss := ss (by rw [h1]; simp)
      rw [decide_eq_true h1] at s1
      rw [if_pos h1]
      cases nb with
      | true =>
        rw [if_pos rfl] at n1 ⊢
        constructor
        · simp [eqA, s1, ss, n1, makeG, ii, retDG, endT]
        · simp [eqA, s1, ss, n1, n2, makeG, ii, retDG, seqX, orX, ifX, callX]
      | false =>
        rw [if_neg (by simp)] at n1 ⊢
        constructor
        · simp [eqA, s1, ss, n1, makeG, retDG]
        · simp [eqA, s1, ss, n1, n2, seqX, orX, ifX, callX]
    · rw [decide_eq_false h1] at s1
      rw [if_neg h1]
      by_cases h2 : A.getLast? = some 41
      · have ss := ss (by rw [h2]; simp)
        rw [decide_eq_true h2] at s2
        rw [if_pos h2]
        cases nb with
        | true =>
          rw [if_pos rfl] at n1 ⊢
          constructor
          · simp [eqA, s1, s2, ss, n1, makeG, ii, retDG, endT]
          · simp [eqA, s1, s2, ss, n1, n2, makeG, ii, retDG, seqX, orX, ifX, callX, neverX]
        | false =>
          rw [if_neg (by simp)] at n1 ⊢
          constructor
          · simp [eqA, s1, s2, ss, n1, makeG, retDG]
          · simp [eqA, s1, s2, ss, n1, n2, seqX, orX, ifX, callX, neverX]
      · rw [decide_eq_false h2] at s2
        rw [if_neg h2]
        constructor
        · simp [eqA, s1, s2]
        · simp [eqA, s1, s2, seqX, orX, ifX, neverX, alwaysX]
/-! ### both ends, the span -/
/-- what a text tells: none NoText, some none Empty -/
def resT (a b : Option (Nat × Int)) : Option (Option Spn) := match a, b with
  | some a, some b => if aheadE (behT b.1 b.2) (lowT a.1 a.2) = true then some none else some (some (lowT a.1 a.2, behT b.1 b.2))
  | _, _ => none
structure Tells (d : D) (r : Option (Option Spn)) : Prop where
  ok : GP.read_span.f [d] = (match r with | some (some s) => some (.val (spD s)) | _ => none)
  x1 : K91.X_read_span_1.f [d] = (match r with | some none => true | _ => false)
  x11 : K91.X_read_span_11.f [d] = r.isNone
theorem tells_no {d : D} (h1 : GP.read_ends.f [d] = none) (h2 : K91.X_read_ends_11.f [d] = true) : Tells d none := by
  refine ⟨?_, ?_, ?_⟩
  · unfold GP.read_span.f runG GP.read_span.g
    simp [args, h1]
  · unfold K91.X_read_span_1.f runX K91.X_read_span_1.x seqX
    simp [args, h1]
  · unfold K91.X_read_span_11.f runX K91.X_read_span_11.x callX
    simp [args, h2]
theorem tells_yes {d : D} {a b : Nat × Int} (h1 : GP.read_ends.f [d] = some (.val (.tup [endT a.1 a.2, endT b.1 b.2]))) (h2 : K91.X_read_ends_11.f [d] = false) : Tells d (resT (some a) (some b)) := by
  obtain ⟨s1, s2⟩ := spanX a.1 b.1 a.2 b.2
  have r : resT (some a) (some b) = if aheadE (behT b.1 b.2) (lowT a.1 a.2) = true then some none else some (some (lowT a.1 a.2, behT b.1 b.2)) := rfl
  rw [r]
  have fl : flat (spD (lowT a.1 a.2, behT b.1 b.2)) = true := by simp [spD]
  generalize endT a.1 a.2 = EA at *
  generalize endT b.1 b.2 = EB at *
  generalize hSD : spD (lowT a.1 a.2, behT b.1 b.2) = SD at *
  have fr := flatR_of fl
  cases h : aheadE (behT b.1 b.2) (lowT a.1 a.2) with
  | true =>
    rw [h] at s1 s2
    rw [if_pos rfl] at s2 ⊢
    refine ⟨?_, ?_, ?_⟩
    · unfold GP.read_span.f runG GP.read_span.g
      simp [args, h1, s2]
    · unfold K91.X_read_span_1.f runX K91.X_read_span_1.x seqX
      simp [args, h1, s1, callX]
    · unfold K91.X_read_span_11.f runX K91.X_read_span_11.x callX
      simp [args, h2]
  | false =>
    rw [h] at s1 s2
    rw [if_neg (by simp)] at s2 ⊢
    refine ⟨?_, ?_, ?_⟩
    · unfold GP.read_span.f runG GP.read_span.g
      simp [args, h1, s2, fr]
      exact hSD.symm
    · unfold K91.X_read_span_1.f runX K91.X_read_span_1.x seqX
      simp [args, h1, s1, callX]
    · unfold K91.X_read_span_11.f runX K91.X_read_span_11.x callX
      simp [args, h2]
theorem ends_no {cs : List Nat} (hl : cs.length ≤ 100000) (h : cs.count 44 ≠ 1) : GP.read_ends.f [.str (txS cs)] = none ∧ K91.X_read_ends_11.f [.str (txS cs)] = true := by
  have z : cs.length + 2 ≤ 16777216 := by omega
  have sc := split_count cs 44 (by decide)
  have hn : ((Txt.split (txS cs) (txS [44])).map D.str).length ≠ 2 := by rw [List.length_map, sc]; omega
  have sp : splA (getW 0) (konst (.str (Str.ofString ","))) [.v (.str (txS cs)), .no] = some ((Txt.split (txS cs) (txS [44])).map D.str) := by
    rw [t_comma]
    have z2 : cs.length ≤ 16777214 := by omega
    simp [splA, z, z2]
  unfold GP.read_ends.f runG GP.read_ends.g K91.X_read_ends_11.f runX K91.X_read_ends_11.x
  have ar : args 2 [.str (txS cs)] = [.v (.str (txS cs)), .no] := by simp [args]
  rw [ar]
  generalize (Txt.split (txS cs) (txS [44])).map D.str = L at *
  generalize txS cs = XA at *
  have hn' : ¬ ((L.length : Int) = 2) := by omega
  constructor
  · simp [sp, hn']
  · simp [sp, hn', orX, seqX, ifX, neverX, alwaysX]
theorem ends_two {A B : List Nat} (ha : Asc A) (hb : Asc B) (hl : A.length + B.length ≤ 90000) (h1 : 44 ∉ A) (h2 : 44 ∉ B) : Tells (.str (txS (A ++ 44 :: B))) (resT (lowP A) (highP B)) := by
  have hc : (A ++ 44 :: B).count 44 = 1 := by
    rw [List.count_append, List.count_cons, List.count_eq_zero.mpr h1, List.count_eq_zero.mpr h2]
    rfl
  obtain ⟨A', B', e, k1, k2, es⟩ := split_two (by decide) hc
  have eA : A = A' ∧ B = B' := by
    have q1 : (A ++ 44 :: B).takeWhile (· != 44) = A := by
      rw [List.takeWhile_append_of_pos (fun c hc => by simp; intro z; exact h1 (z ▸ hc))]
      simp
    have q2 : (A' ++ 44 :: B').takeWhile (· != 44) = A' := by
      rw [List.takeWhile_append_of_pos (fun c hc => by simp; intro z; exact k1 (z ▸ hc))]
      simp
    rw [e] at q1
    have : A = A' := q1.symm.trans q2
    subst this
    exact ⟨rfl, by simpa using e⟩
  obtain ⟨rfl, rfl⟩ := eA
  have z : (A ++ 44 :: B).length + 2 ≤ 16777216 := by simp; omega
  have sp : splA (getW 0) (konst (.str (Str.ofString ","))) [.v (.str (txS (A ++ 44 :: B))), .no] = some [.str (txS A), .str (txS B)] := by
    rw [t_comma]
    simp only [splA, getW_eq, konst_eq, List.getElem?_cons_zero, Option.bind_some, len_txS, szl]
    rw [if_pos ⟨rfl, z⟩, es]
    rfl
  obtain ⟨l1, l2⟩ := lowX ha (by omega)
  obtain ⟨g1, g2⟩ := highX hb (by omega)
  have ar : args 2 [.str (txS (A ++ 44 :: B))] = [.v (.str (txS (A ++ 44 :: B))), .no] := by simp [args]
  clear es e hc k1 k2
  generalize txS (A ++ 44 :: B) = XC at *
  generalize txS A = XA at *
  generalize txS B = XB at *
  have R1 : GP.read_ends.f [.str XC] = (match lowP A, highP B with | some a, some b => some (.val (.tup [endT a.1 a.2, endT b.1 b.2])) | _, _ => none) := by
    unfold GP.read_ends.f runG GP.read_ends.g
    rw [ar]
    cases h3 : lowP A with
    | none =>
      rw [h3] at l1
      simp [sp, l1, retDG]
    | some a =>
      rw [h3] at l1
      cases h4 : highP B with
      | none => rw [h4] at g1; simp [sp, l1, g1, retDG]
      | some b => rw [h4] at g1; simp [sp, l1, g1, retDG]
  have R2 : K91.X_read_ends_11.f [.str XC] = ((lowP A).isNone || (highP B).isNone) := by
    unfold K91.X_read_ends_11.f runX K91.X_read_ends_11.x
    rw [ar]
    cases h3 : lowP A with
    | none =>
      rw [h3] at l1 l2
      simp [sp, l1, l2, orX, seqX, ifX, neverX, callX]
    | some a =>
      rw [h3] at l1 l2
      simp [sp, l1, l2, g2, orX, seqX, ifX, neverX, callX, thenX]
  cases h3 : lowP A with
  | none =>
    rw [h3] at R1 R2
    exact tells_no R1 (by rw [R2]; rfl)
  | some a =>
    cases h4 : highP B with
    | none =>
      rw [h3, h4] at R1 R2
      exact tells_no R1 (by rw [R2]; rfl)
    | some b =>
      rw [h3, h4] at R1 R2
      exact tells_yes R1 (by rw [R2]; rfl)
/-! ### what the law is told -/
def resD : Option (Option Spn) → D
  | none => .str (Str.ofString "NoText")
  | some none => .str (Str.ofString "Empty")
  | some (some s) => spD s
theorem eqB3 (a b c d e f : Bool) : eqD (.lst [.bl a, .bl b, .bl c]) (.lst [.bl d, .bl e, .bl f]) = some (.bl (decide (a = d) && (decide (b = e) && decide (c = f)))) := by
  rw [eqD_ok (by simp) (by simp)]
  simp
theorem eqB0 (d e f : Bool) : eqD (.lst []) (.lst [.bl d, .bl e, .bl f]) = some (.bl false) := by
  rw [eqD_ok (by simp) (by simp)]
  simp
theorem told_tail {d x3 : D} {b : Bool} {cl : D} {o : D} (h : ∃ r, (cl = .lst [.bl true, .bl false, .bl true] ∧ o = .str (Str.ofString "NoText")) ∨ (cl = .lst [.bl false, .bl true, .bl true] ∧ o = .str (Str.ofString "Empty")) ∨ (cl = .lst [] ∧ o = x3 ∧ flat x3 = true ∧ r = true)) :
    (seqG (ifG (testB (bin2 eqD (getW 2) (mkL (sized (consA (konst (.bl true)) (consA (konst (.bl false)) (consA (konst (.bl true)) nilA))))))) (retG (konst (.str (Str.ofString "NoText")))) nextG)
  (seqG (ifG (testB (bin2 eqD (getW 2) (mkL (sized (consA (konst (.bl false)) (consA (konst (.bl true)) (consA (konst (.bl true)) nilA))))))) (retG (konst (.str (Str.ofString "Empty")))) nextG)
  (retG (getW 3)))) [.v d, .v (.bl b), .v cl, .v x3, .no] = some (.rt (.val o)) := by
  obtain ⟨r, ⟨rfl, rfl⟩ | ⟨rfl, rfl⟩ | ⟨rfl, rfl, hf, _⟩⟩ := h
  · exact seq_rt (by simp [eqB3])
  · rw [seq_nx (ds' := [.v d, .v (.bl b), .v (.lst [.bl false, .bl true, .bl true]), .v x3, .no]) (by simp [eqB3])]
    exact seq_rt (by simp [eqB3])
  · rw [seq_nx (ds' := [.v d, .v (.bl b), .v (.lst []), .v o, .no]) (by simp [eqB0]), seq_nx (ds' := [.v d, .v (.bl b), .v (.lst []), .v o, .no]) (by simp [eqB0])]
    simp [flatR_of hf]
theorem told_span {d : D} {r : Option (Option Spn)} (h : Tells d r) : K91.L_told.f [d, .bl true] = some (.val (resD r)) := by
  obtain ⟨h1, h2, h3⟩ := h
  refine run_rt ?_
  unfold K91.L_told.g
  have ar : args 5 [d, .bl true] = [.v d, .v (.bl true), .no, .no, .no] := by simp [args]
  rw [ar, seq_nx (ds' := [.v d, .v (.bl true), .v (.lst []), .no, .no]) (by simp), seq_nx (ds' := [.v d, .v (.bl true), .v (.lst []), .v .non, .no]) (by simp)]
  match r, h1, h2, h3 with
  | none, h1, h2, h3 =>
    rw [seq_nx (ds' := [.v d, .v (.bl true), .v (.lst [.bl true, .bl false, .bl true]), .v .non, .no]) (by
      unfold tryG2
      rw [if_neg (by simp [ifX, callX, h2]), if_pos (by simp [ifX, callX, h3])]
      simp [isxG, List.lookup, goneO])]
    exact told_tail ⟨true, .inl ⟨rfl, rfl⟩⟩
  | some none, h1, h2, h3 =>
    rw [seq_nx (ds' := [.v d, .v (.bl true), .v (.lst [.bl false, .bl true, .bl true]), .v .non, .no]) (by
      unfold tryG2
      rw [if_pos (by simp [ifX, callX, h2])]
      simp [isxG, List.lookup, goneO])]
    exact told_tail ⟨true, .inr (.inl ⟨rfl, rfl⟩)⟩
  | some (some s), h1, h2, h3 =>
    rw [seq_nx (ds' := [.v d, .v (.bl true), .v (.lst []), .v (spD s), .no]) (by
      unfold tryG2
      rw [if_neg (by simp [ifX, callX, h2]), if_neg (by simp [ifX, callX, h3])]
      simp [h1])]
    exact told_tail ⟨true, .inr (.inr ⟨rfl, rfl, by simp [spD], rfl⟩)⟩
def numD : Option Int → D
  | some n => .int n
  | none => .str (Str.ofString "NoText")
theorem told_num {d : D} {r : Option Int} (h1 : GP.read_number.f [d] = r.map (fun n => .val (.int n))) (h2 : K91.X_read_number_11.f [d] = r.isNone) : K91.L_told.f [d, .bl false] = some (.val (numD r)) := by
  refine run_rt ?_
  unfold K91.L_told.g
  have ar : args 5 [d, .bl false] = [.v d, .v (.bl false), .no, .no, .no] := by simp [args]
  rw [ar, seq_nx (ds' := [.v d, .v (.bl false), .v (.lst []), .no, .no]) (by simp), seq_nx (ds' := [.v d, .v (.bl false), .v (.lst []), .v .non, .no]) (by simp)]
  cases r with
  | none =>
    rw [seq_nx (ds' := [.v d, .v (.bl false), .v (.lst [.bl true, .bl false, .bl true]), .v .non, .no]) (by
      unfold tryG2
      rw [if_neg (by simp [ifX, neverX]), if_pos (by simp [ifX, callX, h2])]
      simp [isxG, List.lookup, goneO])]
    exact told_tail ⟨true, .inl ⟨rfl, rfl⟩⟩
  | some n =>
    rw [seq_nx (ds' := [.v d, .v (.bl false), .v (.lst []), .v (.int n), .no]) (by
      unfold tryG2
      rw [if_neg (by simp [ifX, neverX]), if_neg (by simp [ifX, callX, h2])]
      simp [h1])]
    exact told_tail ⟨true, .inr (.inr ⟨rfl, rfl, by simp, rfl⟩)⟩
theorem told_other {d : D} (hd : isiD "str" d = some (.bl false)) (b : Bool) : K91.L_told.f [d, .bl b] = some (.val (.str (Str.ofString "NoText"))) := by
  cases b with
  | true =>
    refine told_span (r := none) (tells_no ?_ ?_)
    · unfold GP.read_ends.f runG GP.read_ends.g
      simp [args, hd]
    · unfold K91.X_read_ends_11.f runX K91.X_read_ends_11.x
      simp [args, hd, orX, ifX, alwaysX]
  | false =>
    have e : GP.is_number.f [d] = some (.val (.bl false)) := by
      unfold GP.is_number.f runG GP.is_number.g
      simp [args, hd]
    refine told_num (r := none) ?_ ?_
    · unfold GP.read_number.f runG GP.read_number.g
      simp [args, e]
    · unfold K91.X_read_number_11.f runX K91.X_read_number_11.x ifX
      simp [args, e, alwaysX]
/-! ### what is due -/
theorem in2 (c a b : Nat) : inD true (.str (txS [c])) (.lst [.str (txS [a]), .str (txS [b])]) = some (.bl (!(decide (a = c) || decide (b = c)))) := by
  have e1 := eqv_tx [a] [c]
  have e2 := eqv_tx [b] [c]
  simp [inD, sclD, e1, e2]
def dueE (b sh : Nat) (W : List Nat) (m : Int) : Option (Option Int) := if W = [46, 46] ∧ b ≠ sh then some none else (readL W).map (fun n => some (n + m))
def listO : Option (Option Int) → List D
  | none => []
  | some o => [oi o]
theorem end3_eq {b sh : Nat} {W : List Nat} (m : Int) (hb : b < 1000) (hs : sh < 1000) (ha : Asc W) (hl : W.length ≤ 100000) : GL.end3.f [.str (txS [b]), .str (txS W), .str (txS [sh]), .int m] = some (.fresh (listO (dueE b sh W m))) := by
  have asc1 : ∀ {c : Nat}, c < 1000 → Asc [c] := fun h d hd => by rw [List.mem_singleton.mp hd]; exact h
  have e1 := eq_tx ha (asc_lit (cs := [46, 46]) rfl)
  have e2 := ne_tx (asc1 hb) (asc1 hs)
  have rd := law_read_eq ha hl
  refine run_rt ?_
  unfold GL.end3.g dueE
  have ar : args 5 [.str (txS [b]), .str (txS W), .str (txS [sh]), .int m] = [.v (.str (txS [b])), .v (.str (txS W)), .v (.str (txS [sh])), .v (.int m), .no] := by simp [args]
  rw [ar, t_dots]
  generalize readL W = R at *
  generalize txS W = XW at *
  generalize txS [46, 46] = X46 at *
  have e2' : neD (.str (txS [b])) (.str (txS [sh])) = some (.bl (!decide (b = sh))) := by rw [e2]; simp
  clear e2
  generalize txS [b] = XB at *
  generalize txS [sh] = XS at *
  by_cases h1 : W = [46, 46]
  · rw [decide_eq_true h1] at e1
    by_cases h2 : b = sh
    · rw [decide_eq_true h2] at e2'
      rw [if_neg (fun z => z.2 h2)]
      cases R with
      | none => simp [e1, e2', rd, listO]
      | some n => simp [e1, e2', rd, listO]
    · rw [decide_eq_false h2] at e2'
      rw [if_pos ⟨h1, h2⟩]
      simp [e1, e2', listO]
  · rw [decide_eq_false h1] at e1
    rw [if_neg (fun z => h1 z.1)]
    cases R with
    | none => simp [e1, rd, listO]
    | some n => simp [e1, rd, listO]
def dueR (l h : Option (Option Int)) : Option (Option Spn) := match l, h with
  | some l, some h => if aheadE h l = true then some none else some (some (l, h))
  | _, _ => none
theorem due_no {cs : List Nat} (ha : Asc cs) (hl : cs.length ≤ 100000) (h : ¬ (2 ≤ cs.length ∧ (cs[0]? = some 91 ∨ cs[0]? = some 40) ∧ (cs.getLast? = some 93 ∨ cs.getLast? = some 41) ∧ 44 ∈ cs)) : K91.L_due.f [.str (txS cs)] = some (.val (resD none)) := by
  refine run_rt ?_
  unfold K91.L_due.g
  have ar : args 6 [.str (txS cs)] = [.v (.str (txS cs)), .no, .no, .no, .no, .no] := by simp [args]
  have ln := len_tx cs (by omega)
  have nc := notin_one cs 44
  rw [ar, t_lsh, t_lop, t_hsh, t_hop, t_comma]
  refine seq_rt ?_
  refine (if_yes ?_).trans (by simp [resD])
  by_cases h1 : 2 ≤ cs.length
  · have k1 : ¬ ((cs.length : Int) < 2) := by omega
    obtain ⟨c, r, rfl⟩ : ∃ c r, cs = c :: r := by cases cs with | nil => simp at h1 | cons c r => exact ⟨c, r, rfl⟩
    have i0 := ix_tx0 c r (by omega)
    obtain ⟨r', c', e'⟩ : ∃ r' c', c :: r = r' ++ [c'] := ⟨_, _, (List.dropLast_concat_getLast (by simp : c :: r ≠ [])).symm⟩
    have iL : ixD (.str (txS (c :: r))) (.int (-1)) = some (.str (txS [c'])) := by rw [e']; exact ix_txL r' c' (by rw [← e']; omega)
    have gl : (c :: r).getLast? = some c' := by rw [e']; simp
    have j1 := in2 c 91 40
    have j2 := in2 c' 93 41
    rw [gl] at h
    simp only [List.getElem?_cons_zero, Option.some.injEq] at h
    generalize txS (c :: r) = XC at *
    by_cases h2 : c = 91 ∨ c = 40
    · by_cases h3 : c' = 93 ∨ c' = 41
      · have h4 : ¬ 44 ∈ c :: r := fun z => h ⟨h1, h2, h3, z⟩
        rw [decide_eq_false h4] at nc
        have q1 : (decide (91 = c) || decide (40 = c)) = true := by rcases h2 with rfl | rfl <;> simp
        have q2 : (decide (93 = c') || decide (41 = c')) = true := by rcases h3 with rfl | rfl <;> simp
        rw [q1] at j1
        rw [q2] at j2
        simp [ln, k1, i0, iL, j1, j2, nc]
      · have q1 : (decide (91 = c) || decide (40 = c)) = true := by rcases h2 with rfl | rfl <;> simp
        have q2 : (decide (93 = c') || decide (41 = c')) = false := by simp; omega
        rw [q1] at j1
        rw [q2] at j2
        simp [ln, k1, i0, iL, j1, j2]
    · have q1 : (decide (91 = c) || decide (40 = c)) = false := by simp; omega
      rw [q1] at j1
      simp [ln, k1, i0, j1]
  · have k1 : (cs.length : Int) < 2 := by omega
    simp [ln, k1]
theorem due_yes {b1 b2 : Nat} {A B : List Nat} (hb1 : b1 = 91 ∨ b1 = 40) (hb2 : b2 = 93 ∨ b2 = 41) (ha : Asc A) (hb : Asc B) (hl : A.length + B.length ≤ 90000) (h4 : 44 ∉ A) : K91.L_due.f [.str (txS (b1 :: (A ++ 44 :: B) ++ [b2]))] = some (.val (resD (dueR (dueE b1 91 A (if b1 = 40 then 1 else 0)) (dueE b2 93 B (if b2 = 93 then 1 else 0))))) := by
  have lt1 : b1 < 1000 := by omega
  have lt2 : b2 < 1000 := by omega
  have lc : (b1 :: (A ++ 44 :: B) ++ [b2]).length = A.length + B.length + 3 := by simp; omega
  have ln := len_tx (b1 :: (A ++ 44 :: B) ++ [b2]) (by omega)
  rw [lc] at ln
  have i0 : ixD (.str (txS (b1 :: (A ++ 44 :: B) ++ [b2]))) (.int 0) = some (.str (txS [b1])) := ix_tx0 b1 ((A ++ 44 :: B) ++ [b2]) (by simp; omega)
  have iL := ix_txL (b1 :: (A ++ 44 :: B)) b2 (by rw [lc]; omega)
  have j1 := in2 b1 91 40
  have j2 := in2 b2 93 41
  have q1 : (decide (91 = b1) || decide (40 = b1)) = true := by rcases hb1 with rfl | rfl <;> simp
  have q2 : (decide (93 = b2) || decide (41 = b2)) = true := by rcases hb2 with rfl | rfl <;> simp
  rw [q1] at j1
  rw [q2] at j2
  have nc := notin_one (b1 :: (A ++ 44 :: B) ++ [b2]) 44
  rw [decide_eq_true (by simp)] at nc
  have sm : Txt.slice (txS (b1 :: (A ++ 44 :: B) ++ [b2])) (some 1) (some (-1)) = txS (A ++ 44 :: B) := by
    rw [slice_mid _ (by rw [lc]; omega)]
    congr 1
    show ((A ++ 44 :: B) ++ [b2]).dropLast = _
    exact List.dropLast_concat
  have pf := part_first (B := B) h4
  have en1 := end3_eq (b := b1) (sh := 91) (if b1 = 40 then 1 else 0) lt1 (by decide) ha (by omega)
  have en2 := end3_eq (b := b2) (sh := 93) (if b2 = 93 then 1 else 0) lt2 (by decide) hb (by omega)
  have asc1 : ∀ {c : Nat}, c < 1000 → Asc [c] := fun h d hd => by rw [List.mem_singleton.mp hd]; exact h
  have e40 : eqD (.str (txS [b1])) (.str (txS [40])) = some (.bl (decide (b1 = 40))) := by rw [eq_tx (asc1 lt1) (asc1 (by decide))]; simp
  have e93 : eqD (.str (txS [b2])) (.str (txS [93])) = some (.bl (decide (b2 = 93))) := by rw [eq_tx (asc1 lt2) (asc1 (by decide))]; simp
  refine run_rt ?_
  unfold K91.L_due.g
  have ar : args 6 [.str (txS (b1 :: (A ++ 44 :: B) ++ [b2]))] = [.v (.str (txS (b1 :: (A ++ 44 :: B) ++ [b2]))), .no, .no, .no, .no, .no] := by simp [args]
  have sls : slsS (getW 0) (soP (konst (.int 1))) (soP (un1 negD (konst (.int 1)))) [.v (.str (txS (b1 :: (A ++ 44 :: B) ++ [b2]))), .no, .no, .no, .no, .no] = some (.str (txS (A ++ 44 :: B))) := by
    have z : A.length + B.length + 3 ≤ 16777216 := by omega
    simp only [slsS, getW_eq, soP_eq, konst_eq, un1_eq, negD_int, List.getElem?_cons_zero, Option.bind_some, len_txS, lc, szl, z, if_true, sm]
  have prt : prtD (.str (txS (A ++ 44 :: B))) (.str (txS [44])) = some (.tup [.str (txS A), .str (txS [44]), .str (txS B)]) := by
    simp only [prtD, pf]
    rw [if_pos ⟨rfl, by rw [len_txS, szl]; simp; omega⟩]
  rw [ar, t_lsh, t_lop, t_hsh, t_hop, t_comma]
  clear sm pf lc q1 q2
  generalize txS (b1 :: (A ++ 44 :: B) ++ [b2]) = XC at *
  generalize txS (A ++ 44 :: B) = XM at *
  have k1 : ¬ (((A.length + B.length + 3 : Nat) : Int) < 2) := by omega
  generalize ((A.length + B.length + 3 : Nat) : Int) = N at *
  rw [seq_nx (ds' := [.v (.str XC), .no, .no, .no, .no, .no]) (by simp [ln, k1, i0, iL, j1, j2, nc])]
  rw [seq_nx (ds' := [.v (.str XC), .v (.str (txS A)), .v (.str (txS [44])), .v (.str (txS B)), .no, .no]) (by
    simp only [asgG_eq, bin2_eq, sls, konst_eq, Option.bind_some, prt]
    simp)]
  generalize hD1 : dueE b1 91 A (if b1 = 40 then 1 else 0) = D1 at *
  generalize hD2 : dueE b2 93 B (if b2 = 93 then 1 else 0) = D2 at *
  clear hD1 hD2
  have in1 : int1D [.bl (decide (b1 = 40))] = some (.int (if b1 = 40 then 1 else 0)) := by simp
  have in2' : int1D [.bl (decide (b2 = 93))] = some (.int (if b2 = 93 then 1 else 0)) := by simp
  generalize (if b1 = 40 then (1 : Int) else 0) = M1 at *
  generalize (if b2 = 93 then (1 : Int) else 0) = M2 at *
  generalize txS A = XA at *
  generalize txS B = XB at *
  rw [seq_nx (ds' := [.v (.str XC), .v (.str XA), .v (.str (txS [44])), .v (.str XB), .v (.lst (listO D1)), .no]) (by
    simp only [setG_eq, callV_eq, consA_eq, bin2_eq, callB_eq, getW_eq, konst_eq, nilA_eq, List.getElem?_cons_zero, List.getElem?_cons_succ, Option.bind_some, Option.map_some, i0, e40, in1, en1, List.length_cons, List.length_nil, if_true, retV_fresh]
    simp)]
  rw [seq_nx (ds' := [.v (.str XC), .v (.str XA), .v (.str (txS [44])), .v (.str XB), .v (.lst (listO D1)), .v (.lst (listO D2))]) (by
    simp only [setG_eq, callV_eq, consA_eq, bin2_eq, callB_eq, un1_eq, negD_int, getW_eq, konst_eq, nilA_eq, List.getElem?_cons_zero, List.getElem?_cons_succ, Option.bind_some, Option.map_some, iL, e93, in2', en2, List.length_cons, List.length_nil, if_true, retV_fresh]
    simp)]
  have eqn : eqD (.lst []) (.lst []) = some (.bl true) := by rw [eqD_ok (by simp) (by simp)]; simp
  have eqo : ∀ o : Option Int, eqD (.lst [oi o]) (.lst []) = some (.bl false) := fun o => by rw [eqD_ok (by simp) (by simp)]; simp
  cases D1 with
  | none => exact seq_rt (by simp [eqn, dueR, resD, listO])
  | some l =>
    cases D2 with
    | none => exact seq_rt (by simp [eqn, eqo, dueR, resD, listO])
    | some h =>
      rw [seq_nx (ds' := [.v (.str XC), .v (.str XA), .v (.str (txS [44])), .v (.str XB), .v (.lst [oi l]), .v (.lst [oi h])]) (by simp [eqo, listO])]
      cases l with
      | none => simp [dueR, resD, aheadE, spD]
      | some x =>
        cases h with
        | none => simp [dueR, resD, aheadE, spD]
        | some y =>
          by_cases hyx : y ≤ x
          · exact seq_rt (by simp [dueR, resD, aheadE, hyx])
          · simp [dueR, resD, aheadE, hyx, spD]
/-! ### both sides -/
theorem low_same {b1 : Nat} (h : b1 = 91 ∨ b1 = 40) (A : List Nat) : (lowP (b1 :: A)).map (fun q => lowT q.1 q.2) = dueE b1 91 A (if b1 = 40 then 1 else 0) := by
  rcases h with rfl | rfl
  · simp only [lowP, dueE, readL, List.drop_one, List.tail_cons]
    cases numL A <;> simp [lowT]
  · by_cases hA : A = [46, 46]
    · subst hA
      simp [lowP, dueE, lowT]
    · simp only [lowP, dueE, readL, List.drop_one, List.tail_cons]
      cases numL A <;> simp [lowT, hA]
theorem high_same {b2 : Nat} (h : b2 = 93 ∨ b2 = 41) (B : List Nat) : (highP (B ++ [b2])).map (fun q => behT q.1 q.2) = dueE b2 93 B (if b2 = 93 then 1 else 0) := by
  have e : (B ++ [b2] = [46, 46, 41]) ↔ (B = [46, 46] ∧ b2 = 41) := by
    rw [show ([46, 46, 41] : List Nat) = [46, 46] ++ [41] from rfl]
    constructor
    · intro z
      obtain ⟨z1, z2⟩ := List.append_inj' z rfl
      exact ⟨z1, by simpa using z2⟩
    · rintro ⟨rfl, rfl⟩; rfl
  rcases h with rfl | rfl
  · have e' : ¬ (B ++ [93] = [46, 46, 41]) := fun z => by have := (e.mp z).2; simp at this
    simp only [highP, dueE, readL, if_neg e', List.getLast?_append, List.dropLast_concat]
    cases numL B <;> simp [behT]
  · by_cases hB : B = [46, 46]
    · subst hB
      simp [highP, dueE, behT]
    · have e' : ¬ (B ++ [41] = [46, 46, 41]) := fun z => hB (e.mp z).1
      simp only [highP, dueE, readL, if_neg e', List.getLast?_append, List.dropLast_concat]
      cases numL B <;> simp [behT, hB]
theorem res_same (a b : Option (Nat × Int)) : resT a b = dueR (a.map fun q => lowT q.1 q.2) (b.map fun q => behT q.1 q.2) := by
  cases a with
  | none => cases b <;> rfl
  | some a => cases b <;> rfl
def EndOf (W : List Nat) (o : Option Int) : Prop := o = none ∨ (numL W = true ∧ (o = some (valT W) ∨ o = some (valT W + 1)))
theorem endOf {b sh : Nat} {W : List Nat} {m : Int} {o : Option Int} (hm : m = 0 ∨ m = 1) (h : dueE b sh W m = some o) : EndOf W o := by
  unfold dueE at h
  split at h
  · cases h; exact .inl rfl
  · unfold readL at h
    split at h
    · rename_i hn
      cases h
      rcases hm with rfl | rfl
      · exact .inr ⟨hn, .inl (by simp)⟩
      · exact .inr ⟨hn, .inr rfl⟩
    · cases h
theorem num_no {B : List Nat} (h : 44 ∈ B) : numL B = false := by
  have : (figs B).all dig = false := by
    rw [List.all_eq_false]
    refine ⟨44, ?_, by decide⟩
    cases B with
    | nil => cases h
    | cons c r =>
      show 44 ∈ (if c = 45 then r else c :: r)
      by_cases hc : c = 45
      · rw [if_pos hc]
        rcases List.mem_cons.mp h with z | z
        · rw [← z] at hc; cases hc
        · exact z
      · rw [if_neg hc]; exact h
  simp [numL, this]
structure Fine (cs : List Nat) (s : Spn) : Prop where
  ex : ∃ (b1 b2 : Nat) (A B : List Nat), b1 ≠ 44 ∧ cs = b1 :: (A ++ 44 :: B) ++ [b2] ∧ 44 ∉ A ∧ 44 ∉ B ∧ b2 ≠ 44 ∧ EndOf A s.1 ∧ EndOf B s.2
  ord : aheadE s.2 s.1 = false
theorem both {cs : List Nat} (ha : Asc cs) (hl : cs.length ≤ 1000) : ∃ R, Tells (.str (txS cs)) R ∧ K91.L_due.f [.str (txS cs)] = some (.val (resD R)) ∧ ∀ s, R = some (some s) → Fine cs s := by
  by_cases hF : 2 ≤ cs.length ∧ (cs[0]? = some 91 ∨ cs[0]? = some 40) ∧ (cs.getLast? = some 93 ∨ cs.getLast? = some 41) ∧ 44 ∈ cs
  · obtain ⟨f1, f2, f3, f4⟩ := hF
    obtain ⟨b1, r, rfl⟩ : ∃ c r, cs = c :: r := by cases cs with | nil => simp at f1 | cons c r => exact ⟨c, r, rfl⟩
    have hr : r ≠ [] := fun z => by rw [z] at f1; simp at f1
    obtain ⟨r', b2, rfl⟩ : ∃ r' c', r = r' ++ [c'] := ⟨_, _, (List.dropLast_concat_getLast hr).symm⟩
    have hb1 : b1 = 91 ∨ b1 = 40 := by simpa using f2
    have hb2 : b2 = 93 ∨ b2 = 41 := by
      rw [show b1 :: (r' ++ [b2]) = (b1 :: r') ++ [b2] from rfl, List.getLast?_append] at f3
      simpa using f3
    have h44 : 44 ∈ r' := by
      rcases List.mem_cons.mp f4 with z | z
      · omega
      · rcases List.mem_append.mp z with z | z
        · exact z
        · have := List.mem_singleton.mp z; omega
    obtain ⟨A, B, rfl, hA⟩ := List.eq_append_cons_of_mem h44
    have aA : Asc A := fun c hc => ha c (by simp [hc])
    have aB : Asc B := fun c hc => ha c (by simp [hc])
    have lAB : A.length + B.length ≤ 1000 := by simp at hl; omega
    have due := due_yes hb1 hb2 aA aB (by omega) hA
    have ecs : b1 :: ((A ++ 44 :: B) ++ [b2]) = b1 :: (A ++ 44 :: B) ++ [b2] := rfl
    rw [ecs] at hl ⊢
    by_cases hB : 44 ∈ B
    · have d2 : dueE b2 93 B (if b2 = 93 then 1 else 0) = none := by
        unfold dueE
        rw [if_neg (fun z => by rw [z.1] at hB; simp at hB)]
        simp [readL, num_no hB]
      rw [d2] at due
      have dn : ∀ x, dueR x none = none := fun x => by cases x <;> rfl
      rw [dn] at due
      have cnt : (b1 :: (A ++ 44 :: B) ++ [b2]).count 44 ≠ 1 := by
        have : 0 < B.count 44 := List.count_pos_iff.mpr hB
        simp only [List.count_append, List.count_cons, List.cons_append, beq_self_eq_true, if_true]
        omega
      obtain ⟨e1, e2⟩ := ends_no (by omega) cnt
      exact ⟨none, tells_no e1 e2, due, fun s z => by cases z⟩
    · have hA' : 44 ∉ b1 :: A := fun z => by
        rcases List.mem_cons.mp z with z | z
        · omega
        · exact hA z
      have hB' : 44 ∉ B ++ [b2] := fun z => by
        rcases List.mem_append.mp z with z | z
        · exact hB z
        · have := List.mem_singleton.mp z
          omega
      have sA : Asc (b1 :: A) := fun c hc => by
        rcases List.mem_cons.mp hc with z | z
        · omega
        · exact aA c z
      have sB : Asc (B ++ [b2]) := fun c hc => by
        rcases List.mem_append.mp hc with z | z
        · exact aB c z
        · have := List.mem_singleton.mp z
          omega
      have tl := ends_two sA sB (by simp; omega) hA' hB'
      rw [res_same, low_same hb1, high_same hb2] at tl
      have e5 : (b1 :: A) ++ 44 :: (B ++ [b2]) = b1 :: (A ++ 44 :: B) ++ [b2] := by simp
      rw [e5] at tl
      refine ⟨_, tl, due, fun s z => ?_⟩
      have m1 : (if b1 = 40 then (1 : Int) else 0) = 0 ∨ (if b1 = 40 then (1 : Int) else 0) = 1 := by split <;> simp
      have m2 : (if b2 = 93 then (1 : Int) else 0) = 0 ∨ (if b2 = 93 then (1 : Int) else 0) = 1 := by split <;> simp
      cases h1 : dueE b1 91 A (if b1 = 40 then 1 else 0) with
      | none => rw [h1] at z; cases z
      | some l =>
        cases h2 : dueE b2 93 B (if b2 = 93 then 1 else 0) with
        | none => rw [h1, h2] at z; cases z
        | some h =>
          rw [h1, h2] at z
          unfold dueR at z
          simp only at z
          split at z
          · cases z
          · rename_i hn
            cases z
            exact ⟨⟨b1, b2, A, B, by omega, rfl, hA, hB, by omega, endOf m1 h1, endOf m2 h2⟩, by simpa using hn⟩
  · refine ⟨none, ?_, due_no ha (by omega) hF, fun s z => by cases z⟩
    by_cases hc : cs.count 44 = 1
    · obtain ⟨A, B, rfl, k1, k2, _⟩ := split_two (by decide) hc
      have tl := ends_two (fun c hc => ha c (by simp [hc])) (fun c hc => ha c (by simp [hc])) (by simp at hl; omega) k1 k2
      have : resT (lowP A) (highP B) = none := by
        cases h1 : lowP A with
        | none => cases highP B <;> rfl
        | some a =>
          cases h2 : highP B with
          | none => rfl
          | some b =>
            exfalso
            have q1 : A[0]? = some 91 ∨ A[0]? = some 40 := by
              unfold lowP at h1
              by_cases z0 : A = [40, 46, 46]
              · subst z0; exact .inr rfl
              · rw [if_neg z0] at h1
                by_cases z1 : A[0]? = some 91
                · exact .inl z1
                · rw [if_neg z1] at h1
                  by_cases z2 : A[0]? = some 40
                  · exact .inr z2
                  · rw [if_neg z2] at h1; cases h1
            have q2 : B.getLast? = some 93 ∨ B.getLast? = some 41 := by
              unfold highP at h2
              by_cases z0 : B = [46, 46, 41]
              · subst z0; exact .inr rfl
              · rw [if_neg z0] at h2
                by_cases z1 : B.getLast? = some 93
                · exact .inl z1
                · rw [if_neg z1] at h2
                  by_cases z2 : B.getLast? = some 41
                  · exact .inr z2
                  · rw [if_neg z2] at h2; cases h2
            cases A with
            | nil => simp at q1
            | cons c r =>
              refine hF ⟨by simp; omega, by simpa using q1, ?_, by simp⟩
              have : (c :: r ++ 44 :: B).getLast? = B.getLast? := by
                cases B with
                | nil => simp at q2
                | cons d B =>
                  have e : c :: r ++ 44 :: d :: B = (c :: r ++ [44]) ++ (d :: B) := by simp
                  rw [e, List.getLast?_append, List.getLast?_eq_some_getLast (by simp : d :: B ≠ [])]
                  rfl
              rw [this]; exact q2
      rw [this] at tl
      exact tl
    · obtain ⟨e1, e2⟩ := ends_no (by omega) hc
      exact tells_no e1 e2
/-! ### numbers as texts -/
theorem head_dig : ∀ m : Nat, 0 < m → (Nat.toDigits 10 m).head? ≠ some '0' := by
  intro m
  induction m using Nat.strongRecOn with
  | _ m ih =>
    intro h
    by_cases h10 : m < 10
    · rw [Nat.toDigits_of_lt_base h10]
      have : ∀ k : Nat, k < 10 → 0 < k → Nat.digitChar k ≠ '0' := by decide
      simpa using this m h10 h
    · have t := Nat.toDigits_append_toDigits (b := 10) (n := m / 10) (d := m % 10) (by decide) (by omega) (Nat.mod_lt m (by decide))
      rw [Nat.div_add_mod] at t
      rw [← t]
      have i2 := ih (m / 10) (by omega) (by omega)
      cases hd : Nat.toDigits 10 (m / 10) with
      | nil => have := PySem.W.KIN.val_back (m / 10); rw [hd] at this; simp [digitsVal] at this; omega
      | cons a r => rw [hd] at i2; simpa using i2
theorem dig_spec (m : Nat) (h : m < 10 ^ 61) : ∃ d : List Nat, d = (Nat.toDigits 10 m).map Char.toNat ∧ AllDigits d ∧ 1 ≤ d.length ∧ (d.length ≤ 61 ∧ (m < 10 ^ 60 → d.length ≤ 60)) ∧ digitsVal d = m ∧ (d.head? ≠ some 48 ∨ d = [48]) := by
  refine ⟨_, rfl, ?_, ?_, ?_, PySem.W.KIN.val_back m, ?_⟩
  · intro c hc
    obtain ⟨ch, hch, e⟩ := List.mem_map.mp hc
    have r := digit_range (Nat.isDigit_of_mem_toDigits (by decide) (by decide) hch)
    rw [← e]
    exact r
  · rw [List.length_map]
    cases hd : Nat.toDigits 10 m with
    | nil =>
      have := toDigits_len_ge 10 m
      rw [hd] at this
      exact absurd this (by decide)
    | cons a r => simp
  · have e := PySem.W.KIN.signs_num m
    have el : (Str.ofString (toString ((m : Nat) : Int))).length = ((Nat.toDigits 10 m).map Char.toNat).length := by rw [← e]; simp [Str.length]
    constructor
    · have hl := toString_length_le (v := (m : Int)) (by omega) (k := 61) (by decide) (by exact_mod_cast h)
      rw [el] at hl
      exact hl
    · intro h'
      have hl := toString_length_le (v := (m : Int)) (by omega) (k := 60) (by decide) (by exact_mod_cast h')
      rw [el] at hl
      exact hl
  · by_cases h0 : m = 0
    · subst h0; right; decide
    · left
      have := head_dig m (by omega)
      cases hd : Nat.toDigits 10 m with
      | nil => simp
      | cons a r =>
        rw [hd] at this
        intro z
        have z' : a.toNat = 48 := by simpa using z
        refine this ?_
        have : a = '0' := Char.ext (UInt32.toNat_inj.mp (by exact z'))
        rw [this]
        rfl
theorem str_spec (n : Int) (h : n.natAbs < 10 ^ 61) : ∃ w, strD [.int n] = some (.str (txS w)) ∧ Asc w ∧ 44 ∉ w ∧ w.length ≤ 62 ∧ (n.natAbs < 10 ^ 60 → numL w = true) ∧ valT w = n := by
  obtain ⟨d, hd, d1, d2, ⟨d3, d3'⟩, d4, d5⟩ := dig_spec n.natAbs h
  have lg : n.natAbs.log2 < 1920 := by
    by_cases h0 : n.natAbs = 0
    · rw [h0]; decide
    · exact (Nat.log2_lt (k := 1920) h0).mpr (Nat.lt_trans h (by decide))
  have dg : ∀ c ∈ d, dig c = true := fun c hc => by simpa [dig] using d1 c hc
  have all : d.all dig = true := List.all_eq_true.mpr dg
  have n44 : 44 ∉ d := fun z => by have := d1 44 z; omega
  have n45 : d.head? ≠ some 45 := by
    cases d with
    | nil => simp
    | cons c r => have := d1 c (.head _); simp; omega
  have hs : strD [.int n] = some (.str (Str.ofString (toString n))) := by simp [strD, lg]
  by_cases hn : 0 ≤ n
  · have en : ((n.natAbs : Nat) : Int) = n := by omega
    have e : Str.ofString (toString n) = txS d := by
      rw [← txS_list (Str.ofString (toString n)), ← en, PySem.W.KIN.signs_num, ← hd]
    have fg : figs d = d := by
      cases d with
      | nil => rfl
      | cons c r => exact if_neg (by simpa using n45)
    refine ⟨d, by rw [hs, e], fun c hc => by have := d1 c hc; omega, n44, by omega, ?_, ?_⟩
    · intro hb
      have d3 := d3' hb
      unfold numL
      rw [fg, all]
      rcases d5 with z | z
      · simp [d2, d3, z]
      · simp [z]
    · cases d with
      | nil => simp at d2
      | cons c r =>
        show (if c = 45 then _ else _) = _
        rw [if_neg (by simpa using n45), d4]
        omega
  · obtain ⟨k, rfl⟩ : ∃ k : Nat, n = Int.negSucc k := by
      cases n with
      | ofNat k => simp at hn
      | negSucc k => exact ⟨k, rfl⟩
    have hk : (Int.negSucc k).natAbs = k + 1 := rfl
    rw [hk] at hd d4 d3'
    rw [hk]
    have e : Str.ofString (toString (Int.negSucc k)) = txS (45 :: d) := by
      rw [← txS_list (Str.ofString (toString (Int.negSucc k))), signs_ofString]
      have e1 : toString (Int.negSucc k) = "-" ++ Nat.repr (k + 1) := rfl
      rw [e1, String.toList_append, Nat.toList_repr, List.map_append, ← hd]
      rfl
    have hne : d ≠ [48] := fun z => by rw [z] at d4; simp [digitsVal] at d4
    refine ⟨45 :: d, by rw [hs, e], fun c hc => ?_, fun z => ?_, by simp; omega, ?_, ?_⟩
    · rcases List.mem_cons.mp hc with z | z
      · omega
      · have := d1 c z; omega
    · rcases List.mem_cons.mp z with z | z
      · omega
      · exact n44 z
    · intro hb
      have d3 := d3' hb
      have fg : figs (45 :: d) = d := by simp [figs]
      unfold numL
      rw [fg, all]
      rcases d5 with z | z
      · simp [d2, d3, z]
      · exact (hne z).elim
    · simp only [valT, if_true, d4]
      omega
/-! ### the bound -/
theorem nine : ∀ (n : Nat) (f : List Nat), f.length = n → AllDigits f → digitsVal f + 1 ≤ 10 ^ n ∧ (digitsVal f + 1 = 10 ^ n → f.count 57 = n)
  | 0, f, h, _ => by
    have : f = [] := List.eq_nil_of_length_eq_zero h
    subst this
    simp [digitsVal]
  | n + 1, f, h, hd => by
    have hne : f ≠ [] := fun e => by rw [e] at h; simp at h
    have e := List.dropLast_concat_getLast hne
    generalize f.dropLast = g at e
    generalize f.getLast hne = c at e
    subst e
    have hc : 48 ≤ c ∧ c ≤ 57 := hd c (by simp)
    obtain ⟨i1, i2⟩ := nine n g (by simpa using h) fun x hx => hd x (by simp [hx])
    rw [digitsVal_snoc, Nat.pow_succ]
    refine ⟨by omega, fun z => ?_⟩
    have q1 : digitsVal g + 1 = 10 ^ n := by omega
    have q2 : c = 57 := by omega
    subst q2
    rw [List.count_append, i2 q1]
    rfl
theorem end_bound {A : List Nat} {o : Option Int} (h : EndOf A o) (hc : A.count 57 ≤ 59) : ∀ x, o = some x → x.natAbs < 10 ^ 60 := by
  intro x hx
  rcases h with h | ⟨hn, h⟩
  · rw [h] at hx; cases hx
  · unfold numL at hn
    simp only [Bool.and_eq_true, decide_eq_true_eq] at hn
    obtain ⟨h1, h2, h3, _⟩ := hn
    have hd : AllDigits (figs A) := fun c hc => by
      have := List.all_eq_true.mp h3 c hc
      simpa [dig] using this
    have cf : (figs A).count 57 ≤ 59 := by
      refine Nat.le_trans ?_ hc
      cases A with
      | nil => exact Nat.le_refl _
      | cons c r =>
        show (if c = 45 then r else c :: r).count 57 ≤ _
        split
        · exact List.count_le_count_cons
        · exact Nat.le_refl _
    obtain ⟨b1, b2⟩ := nine _ (figs A) rfl hd
    have bd : digitsVal (figs A) + 1 < 10 ^ 60 := by
      by_cases hl : (figs A).length = 60
      · rw [hl] at b1 b2
        by_cases z : digitsVal (figs A) + 1 = 10 ^ 60
        · have := b2 z; omega
        · omega
      · have : 10 ^ (figs A).length ≤ 10 ^ 59 := Nat.pow_le_pow_right (by decide) (by omega)
        have p : (10 : Nat) ^ 59 < 10 ^ 60 := by decide
        omega
    have vv : valT A = (digitsVal (figs A) : Int) ∨ valT A = -(digitsVal (figs A) : Int) := by
      cases A with
      | nil => left; rfl
      | cons c r =>
        by_cases hc : c = 45
        · right
          show (if c = 45 then _ else _) = -((digitsVal (if c = 45 then r else c :: r) : Nat) : Int)
          rw [if_pos hc, if_pos hc]
        · left
          show (if c = 45 then _ else _) = ((digitsVal (if c = 45 then r else c :: r) : Nat) : Int)
          rw [if_neg hc, if_neg hc]
    generalize digitsVal (figs A) = N at *
    generalize hP : (10 : Nat) ^ 60 = PW at *
    rcases h with h | h <;> rw [h] at hx <;> cases hx <;> rcases vv with v | v <;> rw [v] <;> omega
theorem end_weak {A : List Nat} {o : Option Int} (h : EndOf A o) : ∀ x, o = some x → x.natAbs < 10 ^ 61 := by
  intro x hx
  rcases h with h | ⟨hn, h⟩
  · rw [h] at hx; cases hx
  · unfold numL at hn
    simp only [Bool.and_eq_true, decide_eq_true_eq] at hn
    obtain ⟨h1, h2, h3, _⟩ := hn
    have hd : AllDigits (figs A) := fun c hc => by
      have := List.all_eq_true.mp h3 c hc
      simpa [dig] using this
    obtain ⟨b1, b2⟩ := nine _ (figs A) rfl hd
    have bd : digitsVal (figs A) + 1 < 10 ^ 61 := by
      have : 10 ^ (figs A).length ≤ 10 ^ 60 := Nat.pow_le_pow_right (by decide) (by omega)
      have p : (10 : Nat) ^ 60 < 10 ^ 61 := by decide
      omega
    have vv : valT A = (digitsVal (figs A) : Int) ∨ valT A = -(digitsVal (figs A) : Int) := by
      cases A with
      | nil => left; rfl
      | cons c r =>
        by_cases hc : c = 45
        · right
          show (if c = 45 then _ else _) = -((digitsVal (if c = 45 then r else c :: r) : Nat) : Int)
          rw [if_pos hc, if_pos hc]
        · left
          show (if c = 45 then _ else _) = ((digitsVal (if c = 45 then r else c :: r) : Nat) : Int)
          rw [if_neg hc, if_neg hc]
    generalize digitsVal (figs A) = N at *
    generalize hP : (10 : Nat) ^ 61 = PW at *
    rcases h with h | h <;> rw [h] at hx <;> cases hx <;> rcases vv with v | v <;> rw [v] <;> omega
/-! ### a spoiling never adds a nine -/
def Spo (T T' : List Nat) : Prop := ∃ X M M' Y : List Nat, T = X ++ (M ++ Y) ∧ T' = X ++ (M' ++ Y) ∧ M'.count 57 = 0
theorem uniq {P Q P' Q' : List Nat} (h : P ++ 44 :: Q = P' ++ 44 :: Q') (h1 : 44 ∉ P) (h2 : 44 ∉ P') : P = P' ∧ Q = Q' := by
  have tw : ∀ (P Q : List Nat), 44 ∉ P → (P ++ 44 :: Q).takeWhile (· != 44) = P := fun P Q h1 => by
    rw [List.takeWhile_append_of_pos (fun c hc => by simp; intro z; exact h1 (z ▸ hc))]
    simp
  have e : P = P' := by rw [← tw P Q h1, h, tw P' Q' h2]
  subst e
  exact ⟨rfl, by simpa using h⟩
theorem spo_count {T T' P Q P' Q' : List Nat} (h : Spo T T') (e : T = P ++ 44 :: Q) (e' : T' = P' ++ 44 :: Q') (h1 : 44 ∉ P) (h2 : 44 ∉ Q) (h3 : 44 ∉ P') (h4 : 44 ∉ Q') : P'.count 57 ≤ P.count 57 ∧ Q'.count 57 ≤ Q.count 57 := by
  obtain ⟨X, M, M', Y, eT, eT', hM⟩ := h
  rw [eT] at e
  rw [eT'] at e'
  by_cases hX : 44 ∈ X
  · obtain ⟨X1, X2, rfl, hX1⟩ := List.eq_append_cons_of_mem hX
    obtain ⟨rfl, rfl⟩ := uniq (P := X1) (Q := X2 ++ (M ++ Y)) (by simpa using e) hX1 h1
    obtain ⟨rfl, rfl⟩ := uniq (P := X1) (Q := X2 ++ (M' ++ Y)) (by simpa using e') hX1 h3
    simp only [List.count_append]
    omega
  · by_cases hY : 44 ∈ Y
    · obtain ⟨Y1, Y2, rfl, hY1⟩ := List.eq_append_cons_of_mem hY
      by_cases hM' : 44 ∈ M'
      · obtain ⟨m1, m2, rfl, hm1⟩ := List.eq_append_cons_of_mem hM'
        obtain ⟨_, e2⟩ := uniq (P := X ++ m1) (Q := m2 ++ (Y1 ++ 44 :: Y2)) (by simpa using e') (by simp [hX, hm1]) h3
        exact (h4 (by rw [← e2]; simp)).elim
      · by_cases hMM : 44 ∈ M
        · obtain ⟨m1, m2, rfl, hm1⟩ := List.eq_append_cons_of_mem hMM
          obtain ⟨_, e2⟩ := uniq (P := X ++ m1) (Q := m2 ++ (Y1 ++ 44 :: Y2)) (by simpa using e) (by simp [hX, hm1]) h1
          exact (h2 (by rw [← e2]; simp)).elim
        · obtain ⟨rfl, rfl⟩ := uniq (P := X ++ (M ++ Y1)) (Q := Y2) (by simpa using e) (by simp [hX, hMM, hY1]) h1
          obtain ⟨rfl, rfl⟩ := uniq (P := X ++ (M' ++ Y1)) (Q := Y2) (by simpa using e') (by simp [hX, hM', hY1]) h3
          simp only [List.count_append]
          omega
    · have k1 : 44 ∈ M := by
        have : 44 ∈ X ++ (M ++ Y) := by rw [e]; simp
        simpa [hX, hY] using this
      have k2 : 44 ∈ M' := by
        have : 44 ∈ X ++ (M' ++ Y) := by rw [e']; simp
        simpa [hX, hY] using this
      obtain ⟨m1, m2, rfl, hm1⟩ := List.eq_append_cons_of_mem k1
      obtain ⟨n1, n2, rfl, hn1⟩ := List.eq_append_cons_of_mem k2
      obtain ⟨rfl, rfl⟩ := uniq (P := X ++ m1) (Q := m2 ++ Y) (by simpa using e) (by simp [hX, hm1]) h1
      obtain ⟨rfl, rfl⟩ := uniq (P := X ++ n1) (Q := n2 ++ Y) (by simpa using e') (by simp [hX, hn1]) h3
      simp only [List.count_append, List.count_cons] at hM ⊢
      omega
/-! ### words -/
def oddL : List Str := [Str.ofString "007", Str.ofString "-0", Str.ofString "+3", Str.ofString " 3", Str.ofString "3 ", Str.ofString "", Str.ofString "-", txS (49 :: List.replicate 60 48), txS (45 :: 49 :: List.replicate 59 48), Str.ofString "00", Str.ofString ".", Str.ofString "...", Str.ofString "-03", Str.ofString "1_0"]
theorem odd_ok : ∀ x ∈ oddL, (x.cps.toList.all (fun c => decide (c < 1000)) && (!x.cps.toList.contains 44 && decide (x.cps.toList.length ≤ 100))) = true := by decide
theorem mul0 {n : Int} (h1 : 1 < n) (h2 : n < 1000) : mulSD (.str (Str.ofString "0")) (.int n) = some (.str (Txt.mul (Str.ofString "0") n)) := by
  have l1 : (Str.ofString "0").length = 1 := by decide
  have ok : MulOk (Str.ofString "0") n := by
    refine ⟨by simp; omega, fun _ _ => ?_, fun _ _ => ?_⟩
    · rw [l1]
      have : (1 : Int) ≤ (2 ^ 63 - 1) / n := by
        rw [Int.le_ediv_iff_mul_le (by omega)]
        omega
      omega
    · rw [l1]
      unfold Builtin.Str.tooLong
      rw [sizeLine_eq]
      simp
      omega
  simp [mulSD, ok]
theorem word_ex (c n : Int) (h : n.natAbs < 10 ^ 60) : ∃ w, Asc w ∧ 44 ∉ w ∧ w.length ≤ 100 ∧ K91.L_word.f [.int c, .int n] = some (.val (.str (txS w))) := by
  by_cases h1 : c % 8 = 1
  · refine ⟨[46, 46], asc_lit rfl, by decide, by decide, run_rt ?_⟩
    unfold K91.L_word.g
    rw [← t_dots]
    exact seq_rt (by simp [args, h1])
  · by_cases h2 : c % 8 = 2
    · have m60 : mulSD (.str (Str.ofString "0")) (.int 60) = some (.str (txS (List.replicate 60 48))) := by
        rw [mul0 (by decide) (by decide)]
        have : Txt.mul (Str.ofString "0") 60 = txS (List.replicate 60 48) := by decide
        rw [this]
      have m59 : mulSD (.str (Str.ofString "0")) (.int 59) = some (.str (txS (List.replicate 59 48))) := by
        rw [mul0 (by decide) (by decide)]
        have : Txt.mul (Str.ofString "0") 59 = txS (List.replicate 59 48) := by decide
        rw [this]
      have a60 : addD (.str (Str.ofString "1")) (.str (txS (List.replicate 60 48))) = some (.str (txS (49 :: List.replicate 60 48))) := by
        rw [show Str.ofString "1" = txS [49] from by decide, add_tx _ _ (by simp)]
        rfl
      have a59 : addD (.str (Str.ofString "-1")) (.str (txS (List.replicate 59 48))) = some (.str (txS (45 :: 49 :: List.replicate 59 48))) := by
        rw [show Str.ofString "-1" = txS [45, 49] from by decide, add_tx _ _ (by simp)]
        rfl
      have i0 : 0 ≤ c / 8 % 14 := by omega
      have i1 : c / 8 % 14 < 14 := by omega
      obtain ⟨x, hx, ex⟩ : ∃ x, x ∈ oddL ∧ ixD (.lst (oddL.map D.str)) (.int (c / 8 % 14)) = some (.str x) := by
        have hlt : (c / 8 % 14).toNat < oddL.length := by show (c / 8 % 14).toNat < 14; omega
        refine ⟨oddL[(c / 8 % 14).toNat], List.getElem_mem hlt, ?_⟩
        rw [ixL_pos _ i0 (by rw [List.length_map]; show c / 8 % 14 < ((14 : Nat) : Int); omega), List.getElem?_map, List.getElem?_eq_getElem hlt]
        rfl
      have ok := odd_ok x hx
      simp only [Bool.and_eq_true, decide_eq_true_eq, Bool.not_eq_true', List.contains_eq_mem, decide_eq_false_iff_not] at ok
      refine ⟨x.cps.toList, asc_lit ok.1, ok.2.1, ok.2.2, run_rt ?_⟩
      rw [txS_list]
      unfold K91.L_word.g
      have ar : args 3 [.int c, .int n] = [.v (.int c), .v (.int n), .no] := by simp [args]
      rw [ar, seq_nx (ds' := [.v (.int c), .v (.int n), .no]) (by simp [h1])]
      refine seq_rt ?_
      refine (if_yes (by simp [h2])).trans ?_
      rw [seq_nx (ds' := [.v (.int c), .v (.int n), .v (.lst (oddL.map D.str))]) (by simp [-List.reduceReplicate, m60, m59, a60, a59, oddL])]
      generalize oddL.map D.str = L at *
      simp [ex]
    · obtain ⟨w, e, a1, a2, a3, _, _⟩ := str_spec n (Nat.lt_trans h (by decide))
      refine ⟨w, a1, a2, by omega, run_rt ?_⟩
      unfold K91.L_word.g
      have ar : args 3 [.int c, .int n] = [.v (.int c), .v (.int n), .no] := by simp [args]
      rw [ar, seq_nx (ds' := [.v (.int c), .v (.int n), .no]) (by simp [h1]), seq_nx (ds' := [.v (.int c), .v (.int n), .no]) (by simp [h2])]
      simp [e]
/-! ### spoilt -/
def sgL : List Nat := [91, 93, 40, 41, 44, 46, 45, 48, 49, 50, 51, 32, 61, 59, 43, 97, 47, 10, 126]
theorem t_signs : Str.ofString "[](),.-0123 =;+a/\n~" = txS sgL := by decide
theorem sg_ok : ∀ s ∈ sgL, s < 1000 ∧ s ≠ 57 := by decide
theorem ix_txI {cs : List Nat} {i : Nat} (h : i < cs.length) (hl : cs.length ≤ 16777216) : ixD (.str (txS cs)) (.int (i : Int)) = some (.str (txS [cs[i]])) := by
  show (if (txS cs).length ≤ sizeLine then (atI cs (i : Int)).map fun c => D.str ⟨#[c]⟩ else none) = _
  rw [len_txS, if_pos (by simpa using hl)]
  unfold atI
  rw [ixN_pos (by omega) (by omega), Option.bind_some, Int.toNat_natCast, List.getElem?_eq_getElem h]
  rfl
theorem spoilt_ex {T : List Nat} (ha : Asc T) (hl : T.length ≤ 1000) (c : Int) : ∃ T', Spo T T' ∧ Asc T' ∧ T'.length ≤ T.length + 1 ∧ K91.L_spoilt.f [.str (txS T), .int c] = some (.val (.str (txS T'))) := by
  have ls := len_tx sgL (by decide)
  have lt := len_tx T (by omega)
  obtain ⟨j, hj⟩ : ∃ j : Nat, c / 12 % 19 = (j : Int) := ⟨(c / 12 % 19).toNat, by omega⟩
  have hj2 : j < sgL.length := by show j < 19; omega
  have ixs := ix_txI hj2 (by decide)
  have so := sg_ok sgL[j] (List.getElem_mem hj2)
  generalize sgL[j] = s at *
  have hp : (0 : Int) < (T.length : Int) + 1 := by omega
  have md := modD_pos (c / 240) hp
  obtain ⟨i, hi⟩ : ∃ i : Nat, c / 240 % ((T.length : Int) + 1) = (i : Int) := ⟨(c / 240 % ((T.length : Int) + 1)).toNat, by have := Int.emod_nonneg (c / 240) (show (T.length : Int) + 1 ≠ 0 by omega); omega⟩
  have hi2 : i ≤ T.length := by have := Int.emod_lt_of_pos (c / 240) hp; omega
  rw [hi] at md
  have s1 := slice_to T hi2
  have s2 := slice_from T i
  have s3 : Txt.slice (txS T) (some ((i : Int) + 1)) none = txS (T.drop (i + 1)) := slice_from T (i + 1)
  have z : T.length ≤ 16777216 := by omega
  have a1 := add_tx (T.take i) [s] (by simp; omega)
  have a2 := add_tx (T.take i ++ [s]) (T.drop i) (by simp; omega)
  have a3 := add_tx (T.take i ++ [s]) (T.drop (i + 1)) (by simp; omega)
  have a4 := add_tx (T.take i) (T.drop (i + 1)) (by simp; omega)
  have atk : Asc (T.take i) := fun x hx => ha x (List.mem_of_mem_take hx)
  have adr : ∀ k, Asc (T.drop k) := fun k x hx => ha x (List.mem_of_mem_drop hx)
  have ap : ∀ {a b : List Nat}, Asc a → Asc b → Asc (a ++ b) := fun h1 h2 x hx => (List.mem_append.mp hx).elim (h1 x) (h2 x)
  have as1 : Asc [s] := fun x hx => by rw [List.mem_singleton.mp hx]; exact so.1
  have hs57 : [s].count 57 = 0 := by rw [List.count_eq_zero]; intro q; exact so.2 (List.mem_singleton.mp q).symm
  have split1 : T = T.take i ++ ((T.drop i).take 1 ++ T.drop (i + 1)) := by
    rw [show T.drop (i + 1) = (T.drop i).drop 1 from by rw [List.drop_drop], List.take_append_drop, List.take_append_drop]
  suffices G : ∃ T', Spo T T' ∧ Asc T' ∧ T'.length ≤ T.length + 1 ∧ K91.L_spoilt.g [.v (.str (txS T)), .v (.int c), .no, .no, .no] = some (.rt (.val (.str (txS T')))) by
    obtain ⟨T', q1, q2, q3, q4⟩ := G
    have ar : args 5 [.str (txS T), .int c] = [.v (.str (txS T)), .v (.int c), .no, .no, .no] := by simp [args]
    exact ⟨T', q1, q2, q3, run_rt (by rw [ar]; exact q4)⟩
  unfold K91.L_spoilt.g
  rw [seq_nx (ds' := [.v (.str (txS T)), .v (.int c), .v (.str (txS sgL)), .no, .no]) (by simp [t_signs])]
  have e19 : ((sgL.length : Nat) : Int) = 19 := rfl
  rw [e19] at ls
  rw [seq_nx (ds' := [.v (.str (txS T)), .v (.int c), .v (.str (txS sgL)), .v (.str (txS [s])), .no]) (by simp [ls, hj, ixs])]
  rw [seq_nx (ds' := [.v (.str (txS T)), .v (.int c), .v (.str (txS sgL)), .v (.str (txS [s])), .v (.int (i : Int))]) (by simp [lt, md])]
  by_cases h1 : c % 12 = 1
  · refine ⟨T.take i ++ [s] ++ T.drop i, ⟨T.take i, [], [s], T.drop i, by simp, by simp, hs57⟩, ap (ap atk as1) (adr i), by simp; omega, seq_rt ?_⟩
    simp [h1, slsS, z, s1, s2, a1, a2]
  · rw [seq_nx (ds' := [.v (.str (txS T)), .v (.int c), .v (.str (txS sgL)), .v (.str (txS [s])), .v (.int (i : Int))]) (by simp [h1])]
    by_cases h2 : c % 12 = 2
    · refine ⟨T.take i ++ [s] ++ T.drop (i + 1), ⟨T.take i, (T.drop i).take 1, [s], T.drop (i + 1), split1, by simp, hs57⟩, ap (ap atk as1) (adr _), by simp; omega, seq_rt ?_⟩
      simp [h2, slsS, z, s1, s3, a1, a3]
    · rw [seq_nx (ds' := [.v (.str (txS T)), .v (.int c), .v (.str (txS sgL)), .v (.str (txS [s])), .v (.int (i : Int))]) (by simp [h2])]
      by_cases h3 : c % 12 = 3 ∨ c % 12 = 4
      · refine ⟨T.take i ++ T.drop (i + 1), ⟨T.take i, (T.drop i).take 1, [], T.drop (i + 1), split1, by simp, rfl⟩, ap atk (adr _), by simp; omega, seq_rt ?_⟩
        rcases h3 with h3 | h3 <;> simp [h3, slsS, z, s1, s3, a4]
      · refine ⟨T, ⟨T, [], [], [], by simp, by simp, rfl⟩, ha, by omega, ?_⟩
        have h4 : ¬ c % 12 = 3 := fun z => h3 (.inl z)
        have h5 : ¬ c % 12 = 4 := fun z => h3 (.inr z)
        rw [seq_nx (ds' := [.v (.str (txS T)), .v (.int c), .v (.str (txS sgL)), .v (.str (txS [s])), .v (.int (i : Int))]) (by simp [h4, h5])]
        simp
/-! ### shown and read again -/
theorem show_ex {s : Spn} (h1 : ∀ x, s.1 = some x → x.natAbs < 10 ^ 61) (h2 : ∀ x, s.2 = some x → x.natAbs < 10 ^ 61) (ho : aheadE s.2 s.1 = false) : ∃ C, Asc C ∧ GP.show_span.f [spD s] = some (.val (.str (txS C))) ∧ K91.L_shown.f [spD s] = some (.val (.str (txS C))) ∧ ((∀ x, s.1 = some x → x.natAbs < 10 ^ 60) → (∀ x, s.2 = some x → x.natAbs < 10 ^ 60) → Tells (.str (txS C)) (some (some s))) := by
  obtain ⟨a, b⟩ := s
  simp only at h1 h2 ho
  have lowF : ∃ L, Asc L ∧ 44 ∉ L ∧ L.length ≤ 63 ∧ ((∀ x, a = some x → x.natAbs < 10 ^ 60) → (lowP L).map (fun q => lowT q.1 q.2) = some a) ∧ ((a = none ∧ L = [40, 46, 46]) ∨ ∃ x w, a = some x ∧ L = 91 :: w ∧ w.length ≤ 62 ∧ strD [.int x] = some (.str (txS w))) := by
    cases a with
    | none => exact ⟨[40, 46, 46], asc_lit rfl, by decide, by decide, fun _ => rfl, .inl ⟨rfl, rfl⟩⟩
    | some x =>
      obtain ⟨w, e, a1, a2, a3, a4, a5⟩ := str_spec x (h1 x rfl)
      refine ⟨91 :: w, fun c hc => (List.mem_cons.mp hc).elim (fun z => by omega) (a1 c), fun z => (List.mem_cons.mp z).elim (fun z => by omega) a2, by simp; omega, ?_, .inr ⟨x, w, rfl, rfl, a3, e⟩⟩
      intro hb
      rw [low_same (.inl rfl)]
      simp [dueE, readL, a4 (hb x rfl), a5]
  have highF : ∃ H, Asc H ∧ 44 ∉ H ∧ H.length ≤ 63 ∧ ((∀ x, b = some x → x.natAbs < 10 ^ 60) → (highP H).map (fun q => behT q.1 q.2) = some b) ∧ ((b = none ∧ H = [46, 46, 41]) ∨ ∃ x w, b = some x ∧ H = w ++ [41] ∧ w.length ≤ 62 ∧ strD [.int x] = some (.str (txS w))) := by
    cases b with
    | none => exact ⟨[46, 46, 41], asc_lit rfl, by decide, by decide, fun _ => rfl, .inl ⟨rfl, rfl⟩⟩
    | some x =>
      obtain ⟨w, e, a1, a2, a3, a4, a5⟩ := str_spec x (h2 x rfl)
      refine ⟨w ++ [41], fun c hc => (List.mem_append.mp hc).elim (a1 c) (fun z => by have := List.mem_singleton.mp z; omega), fun z => (List.mem_append.mp z).elim a2 (fun z => by have := List.mem_singleton.mp z; omega), by simp; omega, ?_, .inr ⟨x, w, rfl, rfl, a3, e⟩⟩
      intro hb
      have a4 := a4 (hb x rfl)
      rw [high_same (.inr rfl)]
      have : w ≠ [46, 46] := fun z => by rw [z] at a4; revert a4; decide
      simp [dueE, readL, a4, a5, this]
  obtain ⟨L, l1, l2, l3, l4, l5⟩ := lowF
  obtain ⟨H, k1, k2, k3, k4, k5⟩ := highF
  have tl := ends_two l1 k1 (by omega) l2 k2
  rw [res_same] at tl
  have rr : dueR (some a) (some b) = some (some (a, b)) := by
    show (if aheadE b a = true then some none else some (some (a, b))) = _
    rw [ho]; rfl
  have tl : (∀ x, a = some x → x.natAbs < 10 ^ 60) → (∀ x, b = some x → x.natAbs < 10 ^ 60) → Tells (.str (txS (L ++ 44 :: H))) (some (some (a, b))) := fun q1 q2 => by
    rw [l4 q1, k4 q2, rr] at tl
    exact tl
  have ac1 := add_tx L [44] (by simp; omega)
  have ac2 := add_tx (L ++ [44]) H (by simp; omega)
  have eC : L ++ [44] ++ H = L ++ 44 :: H := by simp
  rw [eC] at ac2
  have j0 : ixD (spD (a, b)) (.int 0) = some (oi a) := by simp [spD]
  have j1 : ixD (spD (a, b)) (.int 1) = some (oi b) := by simp [spD]
  refine ⟨L ++ 44 :: H, fun c hc => (List.mem_append.mp hc).elim (l1 c) (fun z => (List.mem_cons.mp z).elim (fun z => by omega) (k1 c)), run_rt ?_, run_rt ?_, tl⟩
  · unfold GP.show_span.g
    have ar : args 3 [spD (a, b)] = [.v (spD (a, b)), .no, .no] := by simp [args]
    rw [ar]
    generalize spD (a, b) = SD at *
    rw [seq_nx (ds' := [.v SD, .v (.str (txS L)), .no]) (by
      rcases l5 with ⟨rfl, rfl⟩ | ⟨x, w, rfl, rfl, hw, e⟩
      · simp [j0, t_lend]
      · have q := add_tx [91] w (by simp; omega)
        simp [j0, e, t_lsh, q])]
    rw [seq_nx (ds' := [.v SD, .v (.str (txS L)), .v (.str (txS H))]) (by
      rcases k5 with ⟨rfl, rfl⟩ | ⟨x, w, rfl, rfl, hw, e⟩
      · simp [j1, t_hend]
      · have q := add_tx w [41] (by simp; omega)
        simp [j1, e, t_hop, q])]
    simp [t_comma, ac1, ac2]
  · unfold K91.L_shown.g
    have ar : args 2 [spD (a, b)] = [.v (spD (a, b)), .no] := by simp [args]
    rw [ar]
    generalize spD (a, b) = SD at *
    rw [seq_nx (ds' := [.v SD, .v (.str (txS [40, 46, 46]))]) (by simp [t_lend])]
    rw [seq_nx (ds' := [.v SD, .v (.str (txS L))]) (by
      rcases l5 with ⟨rfl, rfl⟩ | ⟨x, w, rfl, rfl, hw, e⟩
      · simp [j0]
      · have q := add_tx [91] w (by simp; omega)
        simp [j0, e, t_lsh, q])]
    rcases k5 with ⟨rfl, rfl⟩ | ⟨x, w, rfl, rfl, hw, e⟩
    · have q := add_tx L [44, 46, 46, 41] (by simp; omega)
      refine seq_rt ?_
      simp [j1, t_chend, q]
    · rw [seq_nx (ds' := [.v SD, .v (.str (txS L))]) (by simp [j1])]
      have q1 := add_tx (L ++ [44]) w (by simp; omega)
      have q2 := add_tx (L ++ [44] ++ w) [41] (by simp; omega)
      have q3 : L ++ [44] ++ w ++ [41] = L ++ 44 :: (w ++ [41]) := by simp
      rw [q3] at q2
      simp only [retG_eq, bin2_eq, getW_eq, konst_eq, callB_eq, consA_eq, nilA_eq, List.getElem?_cons_zero, List.getElem?_cons_succ, Option.bind_some, Option.map_some, j1, oi_some, e, t_comma, t_hop, ac1, q1, q2, flatR_str]
/-! ### the law -/
def Gd (g : FS) (ds : List Sl) (P : Ret → Prop) : Prop := ∃ r, g ds = some (.rt r) ∧ P r
theorem gd_ex {f g : FS} {ds : List Sl} {P : Ret → Prop} (Q : List Sl → Prop) (h1 : ∃ ds', f ds = some (.nx ds') ∧ Q ds') (h2 : ∀ ds', Q ds' → Gd g ds' P) : Gd (seqG f g) ds P := by
  obtain ⟨ds', e, q⟩ := h1
  obtain ⟨r, e2, p⟩ := h2 ds' q
  exact ⟨r, by rw [seq_nx e, e2], p⟩
theorem gd_st {f g : FS} {ds ds' : List Sl} {P : Ret → Prop} (h1 : f ds = some (.nx ds')) (h2 : Gd g ds' P) : Gd (seqG f g) ds P := gd_ex (· = ds') ⟨_, h1, rfl⟩ fun _ e => by rw [e]; exact h2
theorem gd_rt {f g : FS} {ds : List Sl} {P : Ret → Prop} (h : Gd f ds P) : Gd (seqG f g) ds P := by
  obtain ⟨r, e, p⟩ := h
  exact ⟨r, seq_rt e, p⟩
theorem num_ex (c : Int) (hc : intBits c ≤ 1048576) : ∃ n : Int, n.natAbs ≤ 10 ^ 59 ∧ K91.L_number.f [.int c] = some (.val (.int n)) := by
  have p41 : powD (.int 10) (.int 41) = some (.int (10 ^ 41)) := pow10 (by decide) (by decide)
  have p59 : powD (.int 10) (.int 59) = some (.int (10 ^ 59)) := pow10 (by decide) (by decide)
  have m1 : mulD (.int (c / 3)) (.int (10 ^ 41 + 9)) = some (.int (c / 3 * (10 ^ 41 + 9))) := mulD_ok (mulOk_of_bits (bits_ediv (by decide) hc) (bits_nat (m := 200) (by decide)) (by decide))
  have m2 : mulD (.int 2) (.int (10 ^ 59)) = some (.int (2 * 10 ^ 59)) := mulD_ok (.of_left (bits_nat (by decide)))
  have q : (0 : Int) < 2 * 10 ^ 59 + 1 := by decide
  by_cases h : c % 3 = 0
  · refine ⟨c / 3 * (10 ^ 41 + 9) % (2 * 10 ^ 59 + 1) - 10 ^ 59, ?_, run_rt ?_⟩
    · have h1 := Int.emod_nonneg (c / 3 * (10 ^ 41 + 9)) (show (2 * 10 ^ 59 + 1 : Int) ≠ 0 by decide)
      have h2 := Int.emod_lt_of_pos (c / 3 * (10 ^ 41 + 9)) q
      generalize c / 3 * (10 ^ 41 + 9) % (2 * 10 ^ 59 + 1) = v at *
      have e : ((10 ^ 59 : Nat) : Int) = 10 ^ 59 := by decide
      omega
    · unfold K91.L_number.g
      exact seq_rt (by simp [-Int.reducePow, -Nat.reducePow, args, h, p41, p59, m1, m2, q])
  · refine ⟨c / 3 % 41 - 20, ?_, run_rt ?_⟩
    · have : (20 : Nat) ≤ 10 ^ 59 := by decide
      omega
    · unfold K91.L_number.g
      have ar : args 1 [.int c] = [.v (.int c)] := by simp [args]
      rw [ar, seq_nx (ds' := [.v (.int c)]) (by simp [h])]
      simp
theorem t_NoText : ∃ w, Asc w ∧ Str.ofString "NoText" = txS w := ⟨(Str.ofString "NoText").cps.toList, asc_lit (by decide), (txS_list _).symm⟩
theorem t_Empty : ∃ w, Asc w ∧ Str.ofString "Empty" = txS w := ⟨(Str.ofString "Empty").cps.toList, asc_lit (by decide), (txS_list _).symm⟩
theorem eqNo : eqD (.str (Str.ofString "NoText")) (.str (Str.ofString "NoText")) = some (.bl true) ∧ neD (.str (Str.ofString "NoText")) (.str (Str.ofString "NoText")) = some (.bl false) := by
  obtain ⟨w, ha, e⟩ := t_NoText
  rw [e, eq_tx ha ha, ne_tx ha ha]
  simp
theorem eqEm : eqD (.str (Str.ofString "Empty")) (.str (Str.ofString "Empty")) = some (.bl true) := by
  obtain ⟨w, ha, e⟩ := t_Empty
  rw [e, eq_tx ha ha]
  simp
theorem eqSp (s : Spn) : eqD (spD s) (spD s) = some (.bl true) ∧ neD (spD s) (spD s) = some (.bl false) := by
  rw [eqD_ok (by simp [spD]) (by simp [spD]), neD_ok (by simp [spD]) (by simp [spD])]
  simp [spD]
theorem word_turn {w : List Nat} (ha : Asc w) (hl : w.length ≤ 1000) (S0 S1 S2 S3 x5 x6 : Sl) : ∃ y5 y6, K91.law.b1 [S0, S1, S2, S3, .v (.str (txS w)), x5, x6, .no, .no, .no, .no] = some (.nx [S0, S1, S2, S3, .v (.str (txS w)), y5, y6, .no, .no, .no, .no]) := by
  have rd := law_read_eq ha (by omega)
  obtain ⟨n1, n2⟩ := numX ha (by omega)
  have td := told_num (d := .str (txS w)) (r := readL w) (by rw [n1]; unfold readL; cases numL w <;> rfl) (by rw [n2]; unfold readL; cases numL w <;> rfl)
  have nn := eqNo.2
  unfold K91.law.b1
  generalize readL w = R at *
  generalize txS w = XW at *
  cases R with
  | none => exact ⟨.v .non, .v (.str (Str.ofString "NoText")), by simp [rd, td, nn, numD]⟩
  | some n => exact ⟨.v (.int n), .v (.int n), by simp [rd, td, whole_int, numD]⟩
theorem run_law (ns : List Int) (hl : ns.length ≤ 63) (hb : ∀ c ∈ ns, intBits c ≤ 1048576) : K91.law.f [.lst (ns.map D.int)] = some (.val (.bl true)) := by
  have c0 : GL.cell_at.f [.lst (ns.map D.int), .int 0] = some (.val (.int (cel ns 0))) := cell_eq ns 0
  have c1 : GL.cell_at.f [.lst (ns.map D.int), .int 1] = some (.val (.int (cel ns 1))) := cell_eq ns 1
  have c2 : GL.cell_at.f [.lst (ns.map D.int), .int 2] = some (.val (.int (cel ns 2))) := cell_eq ns 2
  have c3 : GL.cell_at.f [.lst (ns.map D.int), .int 3] = some (.val (.int (cel ns 3))) := cell_eq ns 3
  have c4 : GL.cell_at.f [.lst (ns.map D.int), .int 4] = some (.val (.int (cel ns 4))) := cell_eq ns 4
  have c5 : GL.cell_at.f [.lst (ns.map D.int), .int 5] = some (.val (.int (cel ns 5))) := cell_eq ns 5
  have c6 : GL.cell_at.f [.lst (ns.map D.int), .int 6] = some (.val (.int (cel ns 6))) := cell_eq ns 6
  obtain ⟨n1, b1, e1⟩ := num_ex (cel ns 0) (bits_cell hb _)
  obtain ⟨n2, b2, e2⟩ := num_ex (cel ns 1) (bits_cell hb _)
  suffices G : Gd K91.law.g (args 11 [.lst (ns.map D.int)]) (fun r => r = .val (.bl true)) by
    obtain ⟨r, e, rfl⟩ := G
    exact run_rt e
  have ar : args 11 [.lst (ns.map D.int)] = [.v (.lst (ns.map D.int)), .no, .no, .no, .no, .no, .no, .no, .no, .no, .no] := by simp [args]
  rw [ar]
  unfold K91.law.g
  generalize cel ns 0 = z0 at *
  generalize cel ns 1 = z1 at *
  generalize cel ns 2 = z2 at *
  generalize cel ns 3 = z3 at *
  generalize cel ns 4 = z4 at *
  generalize cel ns 5 = way at *
  generalize cel ns 6 = z6 at *
  generalize ns.map D.int = NS at *
  have P : (10 : Nat) ^ 59 + 20 < 10 ^ 60 := by decide
  generalize hP9 : (10 : Nat) ^ 59 = P9 at *
  refine gd_st (ds' := [.v (.lst NS), .v (.int n1), .no, .no, .no, .no, .no, .no, .no, .no, .no]) (by simp [c0, e1]) ?_
  refine gd_st (ds' := [.v (.lst NS), .v (.int n1), .v (.int n2), .no, .no, .no, .no, .no, .no, .no, .no]) (by simp [c1, e2]) ?_
  refine gd_ex (fun ds => ∃ m : Int, m.natAbs < 10 ^ 60 ∧ ds = [.v (.lst NS), .v (.int n1), .v (.int m), .no, .no, .no, .no, .no, .no, .no, .no]) ?_ ?_
  · by_cases h : z2 % 2 = 0
    · exact ⟨_, by simp [c2, h], n1 + z2 / 2 % 19 - 9, by omega, rfl⟩
    · exact ⟨_, by simp [c2, h], n2, by omega, rfl⟩
  rintro _ ⟨m, hm, rfl⟩
  obtain ⟨w1, u1, u2, u3, u4⟩ := word_ex z3 n1 (by omega)
  obtain ⟨w2, v1, v2, v3, v4⟩ := word_ex z4 m hm
  refine gd_st (ds' := [.v (.lst NS), .v (.int n1), .v (.int m), .v (.lst [.str (txS w1), .str (txS w2)]), .no, .no, .no, .no, .no, .no, .no]) (by simp [c3, c4, u4, v4]) ?_
  refine gd_ex (fun ds => ∃ y5 y6, ds = [.v (.lst NS), .v (.int n1), .v (.int m), .v (.lst [.str (txS w1), .str (txS w2)]), .v (.str (txS w2)), y5, y6, .no, .no, .no, .no]) ?_ ?_
  · obtain ⟨p5, p6, t1⟩ := word_turn u1 (by omega) (.v (.lst NS)) (.v (.int n1)) (.v (.int m)) (.v (.lst [.str (txS w1), .str (txS w2)])) .no .no
    obtain ⟨q5, q6, t2⟩ := word_turn v1 (by omega) (.v (.lst NS)) (.v (.int n1)) (.v (.int m)) (.v (.lst [.str (txS w1), .str (txS w2)])) p5 p6
    refine ⟨_, ?_, q5, q6, rfl⟩
    rw [forG_eq]
    simp only [viaA_eq, getV_eq, List.getElem?_cons_zero, List.getElem?_cons_succ, Option.bind_some, asLT_lst, loopG, nameG, List.set_cons_succ, List.set_cons_zero, t1, t2]
  rintro _ ⟨y5, y6, rfl⟩
  refine gd_st (ds' := [.v (.lst NS), .v (.int n1), .v (.int m), .v (.lst [.str (txS w1), .str (txS w2)]), .v (.str (txS w2)), y5, y6, .v (.int way), .no, .no, .no]) (by simp [c5]) ?_
  obtain ⟨p1, hp1, pe1⟩ : ∃ p1 : Nat, (p1 = 91 ∨ p1 = 40) ∧ ixD (.lst [.str (Str.ofString "["), .str (Str.ofString "(")]) (.int (way % 2)) = some (.str (txS [p1])) := by
    rw [t_lsh, t_lop]
    rcases (by omega : way % 2 = 0 ∨ way % 2 = 1) with h | h <;> rw [h]
    · exact ⟨91, .inl rfl, by simp⟩
    · exact ⟨40, .inr rfl, by simp⟩
  obtain ⟨p2, hp2, pe2⟩ : ∃ p2 : Nat, (p2 = 93 ∨ p2 = 41) ∧ ixD (.lst [.str (Str.ofString "]"), .str (Str.ofString ")")]) (.int (way / 2 % 2)) = some (.str (txS [p2])) := by
    rw [t_hsh, t_hop]
    rcases (by omega : way / 2 % 2 = 0 ∨ way / 2 % 2 = 1) with h | h <;> rw [h]
    · exact ⟨93, .inl rfl, by simp⟩
    · exact ⟨41, .inr rfl, by simp⟩
  have a1 := add_tx [p1] w1 (by simp; omega)
  have a2 := add_tx ([p1] ++ w1) [44] (by simp; omega)
  have a3 := add_tx ([p1] ++ w1 ++ [44]) w2 (by simp; omega)
  have a4 := add_tx ([p1] ++ w1 ++ [44] ++ w2) [p2] (by simp; omega)
  obtain ⟨T, hT⟩ : ∃ T, [p1] ++ w1 ++ [44] ++ w2 ++ [p2] = T := ⟨_, rfl⟩
  rw [hT] at a4
  have aT : Asc T := by
    rw [← hT]
    intro c hc
    simp only [List.mem_append, List.mem_singleton] at hc
    rcases hc with (((z | z) | z) | z) | z
    · omega
    · exact u1 c z
    · omega
    · exact v1 c z
    · omega
  have lT : T.length ≤ 300 := by rw [← hT]; simp; omega
  refine gd_st (ds' := [.v (.lst NS), .v (.int n1), .v (.int m), .v (.lst [.str (txS w1), .str (txS w2)]), .v (.str (txS w2)), y5, y6, .v (.int way), .v (.str (txS T)), .no, .no]) (by
    simp only [setG_eq, bin2_eq, mkL_eq, sized_eq, consA_eq, nilA_eq, getW_eq, konst_eq, List.getElem?_cons_zero, List.getElem?_cons_succ, Option.bind_some, Option.map_some, List.length_cons, List.length_nil, szl, fdivD_small way (show (0 : Int) < 2 by decide) (by decide), modD_pos way (show (0 : Int) < 2 by decide), modD_pos (way / 2) (show (0 : Int) < 2 by decide)]
    generalize txS ([p1] ++ w1 ++ [44] ++ w2) = X3 at *
    generalize txS ([p1] ++ w1 ++ [44]) = X2 at *
    generalize txS ([p1] ++ w1) = X1 at *
    simp [pe1, pe2, t_comma, a1, a2, a3, a4]) ?_
  obtain ⟨T', sp, aT', lT', eT'⟩ := spoilt_ex aT (by omega) z6
  refine gd_st (ds' := [.v (.lst NS), .v (.int n1), .v (.int m), .v (.lst [.str (txS w1), .str (txS w2)]), .v (.str (txS w2)), y5, y6, .v (.int way), .v (.str (txS T')), .no, .no]) (by simp [c6, eT']) ?_
  by_cases h7 : way / 4 % 20 = 7
  · refine gd_rt ⟨_, ?_, rfl⟩
    have eq := eqNo.1
    have hb : eqD (.int (way / 240 % 2)) (.int 0) = some (.bl (decide (way / 240 % 2 = 0))) := by simp
    rcases (by omega : way / 80 % 3 = 0 ∨ way / 80 % 3 = 1 ∨ way / 80 % 3 = 2) with h | h | h
    · have td := told_other (d := .non) (by simp) (decide (way / 240 % 2 = 0))
      simp [h7, h, td, eq]
    · have td := told_other (d := .int 7) (by simp) (decide (way / 240 % 2 = 0))
      simp [h7, h, td, eq]
    · have td := told_other (d := .lst [.str (Str.ofString "[1,2)")]) (by simp) (decide (way / 240 % 2 = 0))
      simp [h7, h, td, eq]
  refine gd_st (ds' := [.v (.lst NS), .v (.int n1), .v (.int m), .v (.lst [.str (txS w1), .str (txS w2)]), .v (.str (txS w2)), y5, y6, .v (.int way), .v (.str (txS T')), .no, .no]) (by simp [h7]) ?_
  obtain ⟨R, tells, due, fine⟩ := both aT' (by omega)
  have td := told_span tells
  refine gd_st (ds' := [.v (.lst NS), .v (.int n1), .v (.int m), .v (.lst [.str (txS w1), .str (txS w2)]), .v (.str (txS w2)), .v (resD R), y6, .v (.int way), .v (.str (txS T')), .no, .no]) (by simp [due]) ?_
  refine gd_st (ds' := [.v (.lst NS), .v (.int n1), .v (.int m), .v (.lst [.str (txS w1), .str (txS w2)]), .v (.str (txS w2)), .v (resD R), .v (resD R), .v (.int way), .v (.str (txS T')), .no, .no]) (by simp [td]) ?_
  match R, tells, due, fine, td with
  | none, _, _, _, _ => exact gd_rt ⟨_, by simp [resD, eqNo.1], rfl⟩
  | some none, _, _, _, _ => exact gd_rt ⟨_, by simp [resD, eqEm], rfl⟩
  | some (some s), tells, due, fine, td =>
    have fs := fine s rfl
    obtain ⟨eqs, nes⟩ := eqSp s
    have is1 : isiD "str" (spD s) = some (.bl false) := isi_str_tup _
    have is2 : isiD "tuple" (spD s) = some (.bl true) := isi_tup_tup _
    have ln2 : lenD [spD s] = some (.int 2) := rfl
    have j0 : ixD (spD s) (.int 0) = some (oi s.1) := by simp [spD]
    have j1 : ixD (spD s) (.int 1) = some (oi s.2) := by simp [spD]
    show Gd _ [.v (.lst NS), .v (.int n1), .v (.int m), .v (.lst [.str (txS w1), .str (txS w2)]), .v (.str (txS w2)), .v (spD s), .v (spD s), .v (.int way), .v (.str (txS T')), .no, .no] _
    have ty : ∀ o : Option Int, ∀ (S0 S1 S2 S3 S4 S7 S8 S10 : Sl) (k : Int), ixD (spD s) (.int k) = some (oi o) → K91.law.b2 [S0, S1, S2, S3, S4, .v (spD s), .v (spD s), S7, S8, .v (.int k), S10] = some (.nx [S0, S1, S2, S3, S4, .v (spD s), .v (spD s), S7, S8, .v (.int k), S10]) := by
      intro o S0 S1 S2 S3 S4 S7 S8 S10 k hk
      unfold K91.law.b2
      generalize spD s = SD at *
      cases o with
      | none => simp [hk]
      | some x => simp [hk, whole_int]
    have w2a := ty s.1
    have w2b := ty s.2
    refine gd_st (ds' := [.v (.lst NS), .v (.int n1), .v (.int m), .v (.lst [.str (txS w1), .str (txS w2)]), .v (.str (txS w2)), .v (spD s), .v (spD s), .v (.int way), .v (.str (txS T')), .no, .no]) (by
      generalize spD s = SD at *
      simp [is1]) ?_
    refine gd_st (ds' := [.v (.lst NS), .v (.int n1), .v (.int m), .v (.lst [.str (txS w1), .str (txS w2)]), .v (.str (txS w2)), .v (spD s), .v (spD s), .v (.int way), .v (.str (txS T')), .no, .no]) (by
      generalize spD s = SD at *
      simp [is2, ln2]) ?_
    refine gd_st (ds' := [.v (.lst NS), .v (.int n1), .v (.int m), .v (.lst [.str (txS w1), .str (txS w2)]), .v (.str (txS w2)), .v (spD s), .v (spD s), .v (.int way), .v (.str (txS T')), .v (.int 1), .no]) (by
      have ok : okR 2 := okR_small (by decide) (by decide)
      have rg : rangeD 0 (2 : Int).toNat = [.int 0, .int 1] := rfl
      rw [forG_eq]
      simp only [rng1_eq, konst_eq, Option.bind_some, ok, if_true, rg, loopG, nameG, List.set_cons_succ, List.set_cons_zero, w2a _ _ _ _ _ _ _ _ 0 j0, w2b _ _ _ _ _ _ _ _ 1 j1]) ?_
    have ml : ∀ ds : List Sl, ds[3]? = some (.v (.lst [.str (txS w1), .str (txS w2)])) → compG (viaA (getV 3) asLT) [none] (nameG 0) (fun _ => some true) (callB lenD (consA (getW 0) nilA)) ds = some ([(w1.length : Int), (w2.length : Int)].map D.int) := by
      intro ds h
      refine compG_ok (items := [w1, w2].map fun w => D.str (txS w)) (by simp [h]) (by simp) ?_
      rw [compL_map (fun w => D.str (txS w)) (fun w => D.int (w.length : Int)) [w1, w2]]
      · rfl
      · intro w hw
        have : w.length ≤ 16777216 := by
          simp only [List.mem_cons, List.not_mem_nil, or_false] at hw
          rcases hw with rfl | rfl <;> omega
        exact ⟨_, rfl, by simp [slotsD, len_tx w this]⟩
    have mx : mxLD [.lst ([(w1.length : Int), (w2.length : Int)].map D.int)] = some (.int (maxOf [(w1.length : Int), (w2.length : Int)])) := mxLD_ints _ (by simp)
    obtain ⟨⟨q1, q2, A, B, g1, gcs, gA, gB, g2, gE1, gE2⟩, ord⟩ := fs
    obtain ⟨C, aC, sh1, sh2, again⟩ := show_ex (end_weak gE1) (end_weak gE2) ord
    have neC := ne_tx aC aC
    rw [decide_eq_true rfl] at neC
    refine gd_st (ds' := [.v (.lst NS), .v (.int n1), .v (.int m), .v (.lst [.str (txS w1), .str (txS w2)]), .v (.str (txS w2)), .v (spD s), .v (spD s), .v (.int way), .v (.str (txS T')), .v (.int 1), .v (.str (txS C))]) (by
      generalize spD s = SD at *
      simp [sh1]) ?_
    refine gd_st (ds' := [.v (.lst NS), .v (.int n1), .v (.int m), .v (.lst [.str (txS w1), .str (txS w2)]), .v (.str (txS w2)), .v (spD s), .v (spD s), .v (.int way), .v (.str (txS T')), .v (.int 1), .v (.str (txS C))]) (by
      generalize spD s = SD at *
      simp [nes, sh2, neC]) ?_
    have mm : maxOf [(w1.length : Int), (w2.length : Int)] = max (w1.length : Int) (w2.length : Int) := rfl
    rw [mm] at mx
    have mlx := ml [.v (.lst NS), .v (.int n1), .v (.int m), .v (.lst [.str (txS w1), .str (txS w2)]), .v (.str (txS w2)), .v (spD s), .v (spD s), .v (.int way), .v (.str (txS T')), .v (.int 1), .v (.str (txS C))] rfl
    generalize [(w1.length : Int), (w2.length : Int)].map D.int = ML at *
    by_cases h59 : (59 : Int) < max (w1.length : Int) (w2.length : Int)
    · refine gd_rt ⟨_, ?_, rfl⟩
      refine (if_yes ?_).trans (by simp)
      simp only [testB_eq, bin2_eq, callB_eq, consA_eq, mkL_eq, mlx, nilA_eq, konst_eq, Option.map_some, Option.bind_some, mx, gtD_int, isB_bl, decide_eq_true h59]
    · refine gd_st (ds' := [.v (.lst NS), .v (.int n1), .v (.int m), .v (.lst [.str (txS w1), .str (txS w2)]), .v (.str (txS w2)), .v (spD s), .v (spD s), .v (.int way), .v (.str (txS T')), .v (.int 1), .v (.str (txS C))]) ((if_not (by
        simp only [testB_eq, bin2_eq, callB_eq, consA_eq, mkL_eq, mlx, nilA_eq, konst_eq, Option.map_some, Option.bind_some, mx, gtD_int, isB_bl, decide_eq_false h59])).trans rfl) ?_
      have lw : w1.length ≤ 59 ∧ w2.length ≤ 59 := by omega
      have eT : T = (p1 :: w1) ++ 44 :: (w2 ++ [p2]) := by rw [← hT]; simp
      have eT2 : T' = (q1 :: A) ++ 44 :: (B ++ [q2]) := by rw [gcs]; simp
      have no1 : 44 ∉ p1 :: w1 := fun z => (List.mem_cons.mp z).elim (fun z => by omega) u2
      have no2 : 44 ∉ w2 ++ [p2] := fun z => (List.mem_append.mp z).elim v2 (fun z => by have := List.mem_singleton.mp z; omega)
      have no3 : 44 ∉ q1 :: A := fun z => (List.mem_cons.mp z).elim (fun z => g1 z.symm) gA
      have no4 : 44 ∉ B ++ [q2] := fun z => (List.mem_append.mp z).elim gB (fun z => g2 (List.mem_singleton.mp z).symm)
      obtain ⟨k1, k2⟩ := spo_count sp eT eT2 no1 no2 no3 no4
      have f1 : (p1 :: w1).count 57 = w1.count 57 := by rw [List.count_cons, if_neg (by simp; omega)]; rfl
      have f2 : (w2 ++ [p2]).count 57 = w2.count 57 := by
        have : [p2].count 57 = 0 := by rw [List.count_eq_zero]; intro z; have := List.mem_singleton.mp z; omega
        rw [List.count_append, this, Nat.add_zero]
      have f3 : A.count 57 ≤ (q1 :: A).count 57 := List.count_le_count_cons
      have f4 : B.count 57 ≤ (B ++ [q2]).count 57 := by rw [List.count_append]; omega
      have f5 := List.count_le_length (a := 57) (l := w1)
      have f6 := List.count_le_length (a := 57) (l := w2)
      have ag := (again (end_bound gE1 (by omega)) (end_bound gE2 (by omega))).ok
      simp only at ag
      generalize spD s = SD at *
      exact ⟨_, by simp [ag, eqs], rfl⟩
end K91
namespace K91
open PySem PyProof.Rows L2 FL
set_option maxHeartbeats 0 in
theorem all_mk {l : PySem.W.OpenLaw} {w : World} {K : PySem.W.Frag} {h : Heap} {mg : Str → Option Value} {fa : Addr} (X : K.In h) (G : h.Ns mainGlobals mg) (hfa : mg "law" = some (.ref fa))
    {K7 : Addr}
    {K8 : Addr}
    {K9 : Addr}
    {K10 : Addr}
    {f0 : Addr} {od0 an0 : Option Addr} {sl0 : Array (Option Value)} {oc0 kV0 dc0 pm0 cd0 ct0 : Value}
    {f1 : Addr} {od1 an1 : Option Addr} {sl1 : Array (Option Value)} {oc1 kV1 dc1 pm1 cd1 ct1 : Value}
    {f2 : Addr} {od2 an2 : Option Addr} {sl2 : Array (Option Value)} {oc2 kV2 dc2 pm2 cd2 ct2 : Value}
    {f3 : Addr} {od3 an3 : Option Addr} {sl3 : Array (Option Value)} {oc3 kV3 dc3 pm3 cd3 ct3 : Value}
    {f4 : Addr} {od4 an4 : Option Addr} {sl4 : Array (Option Value)} {oc4 kV4 dc4 pm4 cd4 ct4 : Value}
    {f5 : Addr} {od5 an5 : Option Addr} {sl5 : Array (Option Value)} {oc5 kV5 dc5 pm5 cd5 ct5 : Value}
    {f6 : Addr} {od6 an6 : Option Addr} {sl6 : Array (Option Value)} {oc6 kV6 dc6 pm6 cd6 ct6 : Value}
    {f7 : Addr} {od7 an7 : Option Addr} {sl7 : Array (Option Value)} {oc7 kV7 dc7 pm7 cd7 ct7 : Value}
    {f8 : Addr} {od8 an8 : Option Addr} {sl8 : Array (Option Value)} {oc8 kV8 dc8 pm8 cd8 ct8 : Value}
    {f9 : Addr} {od9 an9 : Option Addr} {sl9 : Array (Option Value)} {oc9 kV9 dc9 pm9 cd9 ct9 : Value}
    {f10 : Addr} {od10 an10 : Option Addr} {sl10 : Array (Option Value)} {oc10 kV10 dc10 pm10 cd10 ct10 : Value}
    {f11 : Addr} {od11 an11 : Option Addr} {sl11 : Array (Option Value)} {oc11 kV11 dc11 pm11 cd11 ct11 : Value}
    {f12 : Addr} {od12 an12 : Option Addr} {sl12 : Array (Option Value)} {oc12 kV12 dc12 pm12 cd12 ct12 : Value}
    {f13 : Addr} {od13 an13 : Option Addr} {sl13 : Array (Option Value)} {oc13 kV13 dc13 pm13 cd13 ct13 : Value}
    {f14 : Addr} {od14 an14 : Option Addr} {sl14 : Array (Option Value)} {oc14 kV14 dc14 pm14 cd14 ct14 : Value}
    {f15 : Addr} {od15 an15 : Option Addr} {sl15 : Array (Option Value)} {oc15 kV15 dc15 pm15 cd15 ct15 : Value}
    {f16 : Addr} {od16 an16 : Option Addr} {sl16 : Array (Option Value)} {oc16 kV16 dc16 pm16 cd16 ct16 : Value}
    {f17 : Addr} {od17 an17 : Option Addr} {sl17 : Array (Option Value)} {oc17 kV17 dc17 pm17 cd17 ct17 : Value}
    {f18 : Addr} {od18 an18 : Option Addr} {sl18 : Array (Option Value)} {oc18 kV18 dc18 pm18 cd18 ct18 : Value}
    {f19 : Addr} {od19 an19 : Option Addr} {sl19 : Array (Option Value)} {oc19 kV19 dc19 pm19 cd19 ct19 : Value}
    {f20 : Addr} {od20 an20 : Option Addr} {sl20 : Array (Option Value)} {oc20 kV20 dc20 pm20 cd20 ct20 : Value}
    {f21 : Addr} {od21 an21 : Option Addr} {sl21 : Array (Option Value)} {oc21 kV21 dc21 pm21 cd21 ct21 : Value}
    {f22 : Addr} {od22 an22 : Option Addr} {sl22 : Array (Option Value)} {oc22 kV22 dc22 pm22 cd22 ct22 : Value}
    {f23 : Addr} {od23 an23 : Option Addr} {sl23 : Array (Option Value)} {oc23 kV23 dc23 pm23 cd23 ct23 : Value}
    {f24 : Addr} {od24 an24 : Option Addr} {sl24 : Array (Option Value)} {oc24 kV24 dc24 pm24 cd24 ct24 : Value}
    {f25 : Addr} {od25 an25 : Option Addr} {sl25 : Array (Option Value)} {oc25 kV25 dc25 pm25 cd25 ct25 : Value}
    {f26 : Addr} {od26 an26 : Option Addr} {sl26 : Array (Option Value)} {oc26 kV26 dc26 pm26 cd26 ct26 : Value}
    {f27 : Addr} {od27 an27 : Option Addr} {sl27 : Array (Option Value)} {oc27 kV27 dc27 pm27 cd27 ct27 : Value}
    {f28 : Addr} {od28 an28 : Option Addr} {sl28 : Array (Option Value)} {oc28 kV28 dc28 pm28 cd28 ct28 : Value}
    {f29 : Addr} {od29 an29 : Option Addr} {sl29 : Array (Option Value)} {oc29 kV29 dc29 pm29 cd29 ct29 : Value}
    {E0 : Addr}
    {E1 : Addr}
    {E11 : Addr}
    {t0 : Tok}
    {t1 : Tok}
    (n7 : PySem.W.nsIn K mainGlobals "Shut" = some (some (.ref K7))) (pg7 : PySem.W.plainGet K K7 Str.empty = true) (hd7 : PySem.W.hasDictIn K K7 = true) (po7 : PySem.W.plainOver K K7 = true) (sa7 : PySem.W.findIn K (.ref K7) "__setattr__" = some (some (.builtin "object.__setattr__")))
    (na7_place : PySem.W.findIn K (.ref K7) "place" = some none)
    (n8 : PySem.W.nsIn K mainGlobals "Open" = some (some (.ref K8))) (pg8 : PySem.W.plainGet K K8 Str.empty = true) (hd8 : PySem.W.hasDictIn K K8 = true) (po8 : PySem.W.plainOver K K8 = true) (sa8 : PySem.W.findIn K (.ref K8) "__setattr__" = some (some (.builtin "object.__setattr__")))
    (na8_place : PySem.W.findIn K (.ref K8) "place" = some none)
    (n9 : PySem.W.nsIn K mainGlobals "Endless" = some (some (.ref K9))) (pg9 : PySem.W.plainGet K K9 Str.empty = true) (hd9 : PySem.W.hasDictIn K K9 = true) (po9 : PySem.W.plainOver K K9 = true) (sa9 : PySem.W.findIn K (.ref K9) "__setattr__" = some (some (.builtin "object.__setattr__")))
    (n10 : PySem.W.nsIn K mainGlobals "End" = some (some (.ref K10))) (pg10 : PySem.W.plainGet K K10 Str.empty = true) (hd10 : PySem.W.hasDictIn K K10 = true) (po10 : PySem.W.plainOver K K10 = true) (sa10 : PySem.W.findIn K (.ref K10) "__setattr__" = some (some (.builtin "object.__setattr__")))
    (a0 : PySem.W.findIn K (.ref K10) "low" = some (some (.ref f0))) (l0 : K.lookup f0 = some ⟨oc0, od0, .func (PySem.W.fnOf "low" "End.low" (defArgs (inClass (top 1) 0)) (defBody (inClass (top 1) 0)) (defScope (inClass (top 1) 0)) .none kV0 dc0 pm0 an0 cd0 ct0), sl0⟩) (c0 : PySem.W.codeIn K cd0 "End.low" = true) (k0 : PySem.W.keepIn K (.ref f0) = true)
    (i0 : PySem.W.isFn K (.ref f0) = true)
    (a1 : PySem.W.findIn K (.ref K10) "behind" = some (some (.ref f1))) (l1 : K.lookup f1 = some ⟨oc1, od1, .func (PySem.W.fnOf "behind" "End.behind" (defArgs (inClass (top 1) 1)) (defBody (inClass (top 1) 1)) (defScope (inClass (top 1) 1)) .none kV1 dc1 pm1 an1 cd1 ct1), sl1⟩) (c1 : PySem.W.codeIn K cd1 "End.behind" = true) (k1 : PySem.W.keepIn K (.ref f1) = true)
    (i1 : PySem.W.isFn K (.ref f1) = true)
    (a2 : PySem.W.findIn K (.ref K7) "__init__" = some (some (.ref f2))) (l2 : K.lookup f2 = some ⟨oc2, od2, .func (PySem.W.fnOf "__init__" "Shut.__init__" (defArgs (inClass (top 2) 0)) (defBody (inClass (top 2) 0)) (defScope (inClass (top 2) 0)) .none kV2 dc2 pm2 an2 cd2 ct2), sl2⟩) (c2 : PySem.W.codeIn K cd2 "Shut.__init__" = true) (k2 : PySem.W.keepIn K (.ref f2) = true)
    (i2 : PySem.W.isFn K (.ref f2) = true)
    (a3 : PySem.W.findIn K (.ref K7) "low" = some (some (.ref f3))) (l3 : K.lookup f3 = some ⟨oc3, od3, .func (PySem.W.fnOf "low" "Shut.low" (defArgs (inClass (top 2) 1)) (defBody (inClass (top 2) 1)) (defScope (inClass (top 2) 1)) .none kV3 dc3 pm3 an3 cd3 ct3), sl3⟩) (c3 : PySem.W.codeIn K cd3 "Shut.low" = true) (k3 : PySem.W.keepIn K (.ref f3) = true)
    (i3 : PySem.W.isFn K (.ref f3) = true)
    (a4 : PySem.W.findIn K (.ref K7) "behind" = some (some (.ref f4))) (l4 : K.lookup f4 = some ⟨oc4, od4, .func (PySem.W.fnOf "behind" "Shut.behind" (defArgs (inClass (top 2) 2)) (defBody (inClass (top 2) 2)) (defScope (inClass (top 2) 2)) .none kV4 dc4 pm4 an4 cd4 ct4), sl4⟩) (c4 : PySem.W.codeIn K cd4 "Shut.behind" = true) (k4 : PySem.W.keepIn K (.ref f4) = true)
    (i4 : PySem.W.isFn K (.ref f4) = true)
    (a5 : PySem.W.findIn K (.ref K8) "__init__" = some (some (.ref f5))) (l5 : K.lookup f5 = some ⟨oc5, od5, .func (PySem.W.fnOf "__init__" "Open.__init__" (defArgs (inClass (top 3) 0)) (defBody (inClass (top 3) 0)) (defScope (inClass (top 3) 0)) .none kV5 dc5 pm5 an5 cd5 ct5), sl5⟩) (c5 : PySem.W.codeIn K cd5 "Open.__init__" = true) (k5 : PySem.W.keepIn K (.ref f5) = true)
    (i5 : PySem.W.isFn K (.ref f5) = true)
    (a6 : PySem.W.findIn K (.ref K8) "low" = some (some (.ref f6))) (l6 : K.lookup f6 = some ⟨oc6, od6, .func (PySem.W.fnOf "low" "Open.low" (defArgs (inClass (top 3) 1)) (defBody (inClass (top 3) 1)) (defScope (inClass (top 3) 1)) .none kV6 dc6 pm6 an6 cd6 ct6), sl6⟩) (c6 : PySem.W.codeIn K cd6 "Open.low" = true) (k6 : PySem.W.keepIn K (.ref f6) = true)
    (i6 : PySem.W.isFn K (.ref f6) = true)
    (a7 : PySem.W.findIn K (.ref K8) "behind" = some (some (.ref f7))) (l7 : K.lookup f7 = some ⟨oc7, od7, .func (PySem.W.fnOf "behind" "Open.behind" (defArgs (inClass (top 3) 2)) (defBody (inClass (top 3) 2)) (defScope (inClass (top 3) 2)) .none kV7 dc7 pm7 an7 cd7 ct7), sl7⟩) (c7 : PySem.W.codeIn K cd7 "Open.behind" = true) (k7 : PySem.W.keepIn K (.ref f7) = true)
    (i7 : PySem.W.isFn K (.ref f7) = true)
    (a8 : PySem.W.findIn K (.ref K9) "low" = some (some (.ref f8))) (l8 : K.lookup f8 = some ⟨oc8, od8, .func (PySem.W.fnOf "low" "Endless.low" (defArgs (inClass (top 4) 0)) (defBody (inClass (top 4) 0)) (defScope (inClass (top 4) 0)) .none kV8 dc8 pm8 an8 cd8 ct8), sl8⟩) (c8 : PySem.W.codeIn K cd8 "Endless.low" = true) (k8 : PySem.W.keepIn K (.ref f8) = true)
    (i8 : PySem.W.isFn K (.ref f8) = true)
    (a9 : PySem.W.findIn K (.ref K9) "behind" = some (some (.ref f9))) (l9 : K.lookup f9 = some ⟨oc9, od9, .func (PySem.W.fnOf "behind" "Endless.behind" (defArgs (inClass (top 4) 1)) (defBody (inClass (top 4) 1)) (defScope (inClass (top 4) 1)) .none kV9 dc9 pm9 an9 cd9 ct9), sl9⟩) (c9 : PySem.W.codeIn K cd9 "Endless.behind" = true) (k9 : PySem.W.keepIn K (.ref f9) = true)
    (i9 : PySem.W.isFn K (.ref f9) = true)
    (a10 : PySem.W.nsIn K mainGlobals "ends_ahead" = some (some (.ref f10))) (l10 : K.lookup f10 = some ⟨oc10, od10, .func (PySem.W.fnOf "ends_ahead" "ends_ahead" (defArgs (top 11)) (defBody (top 11)) (defScope (top 11)) .none kV10 dc10 pm10 an10 cd10 ct10), sl10⟩) (c10 : PySem.W.codeIn K cd10 "ends_ahead" = true) (k10 : PySem.W.keepIn K (.ref f10) = true)
    (a11 : PySem.W.nsIn K mainGlobals "span" = some (some (.ref f11))) (l11 : K.lookup f11 = some ⟨oc11, od11, .func (PySem.W.fnOf "span" "span" (defArgs (top 10)) (defBody (top 10)) (defScope (top 10)) .none kV11 dc11 pm11 an11 cd11 ct11), sl11⟩) (c11 : PySem.W.codeIn K cd11 "span" = true) (k11 : PySem.W.keepIn K (.ref f11) = true)
    (a12 : PySem.W.nsIn K mainGlobals "is_number" = some (some (.ref f12))) (l12 : K.lookup f12 = some ⟨oc12, od12, .func (PySem.W.fnOf "is_number" "is_number" (defArgs (top 18)) (defBody (top 18)) (defScope (top 18)) .none kV12 dc12 pm12 an12 cd12 ct12), sl12⟩) (c12 : PySem.W.codeIn K cd12 "is_number" = true) (k12 : PySem.W.keepIn K (.ref f12) = true)
    (a13 : PySem.W.nsIn K mainGlobals "read_number" = some (some (.ref f13))) (l13 : K.lookup f13 = some ⟨oc13, od13, .func (PySem.W.fnOf "read_number" "read_number" (defArgs (top 15)) (defBody (top 15)) (defScope (top 15)) .none kV13 dc13 pm13 an13 cd13 ct13), sl13⟩) (c13 : PySem.W.codeIn K cd13 "read_number" = true) (k13 : PySem.W.keepIn K (.ref f13) = true)
    (a14 : PySem.W.nsIn K mainGlobals "read_low_end" = some (some (.ref f14))) (l14 : K.lookup f14 = some ⟨oc14, od14, .func (PySem.W.fnOf "read_low_end" "read_low_end" (defArgs (top 20)) (defBody (top 20)) (defScope (top 20)) .none kV14 dc14 pm14 an14 cd14 ct14), sl14⟩) (c14 : PySem.W.codeIn K cd14 "read_low_end" = true) (k14 : PySem.W.keepIn K (.ref f14) = true)
    (a15 : PySem.W.nsIn K mainGlobals "read_high_end" = some (some (.ref f15))) (l15 : K.lookup f15 = some ⟨oc15, od15, .func (PySem.W.fnOf "read_high_end" "read_high_end" (defArgs (top 21)) (defBody (top 21)) (defScope (top 21)) .none kV15 dc15 pm15 an15 cd15 ct15), sl15⟩) (c15 : PySem.W.codeIn K cd15 "read_high_end" = true) (k15 : PySem.W.keepIn K (.ref f15) = true)
    (a16 : PySem.W.nsIn K mainGlobals "read_ends" = some (some (.ref f16))) (l16 : K.lookup f16 = some ⟨oc16, od16, .func (PySem.W.fnOf "read_ends" "read_ends" (defArgs (top 19)) (defBody (top 19)) (defScope (top 19)) .none kV16 dc16 pm16 an16 cd16 ct16), sl16⟩) (c16 : PySem.W.codeIn K cd16 "read_ends" = true) (k16 : PySem.W.keepIn K (.ref f16) = true)
    (a17 : PySem.W.nsIn K mainGlobals "read_span" = some (some (.ref f17))) (l17 : K.lookup f17 = some ⟨oc17, od17, .func (PySem.W.fnOf "read_span" "read_span" (defArgs (top 16)) (defBody (top 16)) (defScope (top 16)) .none kV17 dc17 pm17 an17 cd17 ct17), sl17⟩) (c17 : PySem.W.codeIn K cd17 "read_span" = true) (k17 : PySem.W.keepIn K (.ref f17) = true)
    (a18 : PySem.W.nsIn K mainGlobals "show_span" = some (some (.ref f18))) (l18 : K.lookup f18 = some ⟨oc18, od18, .func (PySem.W.fnOf "show_span" "show_span" (defArgs (top 17)) (defBody (top 17)) (defScope (top 17)) .none kV18 dc18 pm18 an18 cd18 ct18), sl18⟩) (c18 : PySem.W.codeIn K cd18 "show_span" = true) (k18 : PySem.W.keepIn K (.ref f18) = true)
    (a19 : PySem.W.nsIn K mainGlobals "_law_cell_at" = some (some (.ref f19))) (l19 : K.lookup f19 = some ⟨oc19, od19, .func (PySem.W.fnOf "_law_cell_at" "_law_cell_at" (defArgs (top 23)) (defBody (top 23)) (defScope (top 23)) .none kV19 dc19 pm19 an19 cd19 ct19), sl19⟩) (c19 : PySem.W.codeIn K cd19 "_law_cell_at" = true) (k19 : PySem.W.keepIn K (.ref f19) = true)
    (a20 : PySem.W.nsIn K mainGlobals "_law_number" = some (some (.ref f20))) (l20 : K.lookup f20 = some ⟨oc20, od20, .func (PySem.W.fnOf "_law_number" "_law_number" (defArgs (top 24)) (defBody (top 24)) (defScope (top 24)) .none kV20 dc20 pm20 an20 cd20 ct20), sl20⟩) (c20 : PySem.W.codeIn K cd20 "_law_number" = true) (k20 : PySem.W.keepIn K (.ref f20) = true)
    (a21 : PySem.W.nsIn K mainGlobals "_law_word" = some (some (.ref f21))) (l21 : K.lookup f21 = some ⟨oc21, od21, .func (PySem.W.fnOf "_law_word" "_law_word" (defArgs (top 25)) (defBody (top 25)) (defScope (top 25)) .none kV21 dc21 pm21 an21 cd21 ct21), sl21⟩) (c21 : PySem.W.codeIn K cd21 "_law_word" = true) (k21 : PySem.W.keepIn K (.ref f21) = true)
    (a22 : PySem.W.nsIn K mainGlobals "_law_spoilt" = some (some (.ref f22))) (l22 : K.lookup f22 = some ⟨oc22, od22, .func (PySem.W.fnOf "_law_spoilt" "_law_spoilt" (defArgs (top 26)) (defBody (top 26)) (defScope (top 26)) .none kV22 dc22 pm22 an22 cd22 ct22), sl22⟩) (c22 : PySem.W.codeIn K cd22 "_law_spoilt" = true) (k22 : PySem.W.keepIn K (.ref f22) = true)
    (a23 : PySem.W.nsIn K mainGlobals "_law_read" = some (some (.ref f23))) (l23 : K.lookup f23 = some ⟨oc23, od23, .func (PySem.W.fnOf "_law_read" "_law_read" (defArgs (top 27)) (defBody (top 27)) (defScope (top 27)) .none kV23 dc23 pm23 an23 cd23 ct23), sl23⟩) (c23 : PySem.W.codeIn K cd23 "_law_read" = true) (k23 : PySem.W.keepIn K (.ref f23) = true)
    (a24 : PySem.W.nsIn K mainGlobals "_law_end" = some (some (.ref f24))) (l24 : K.lookup f24 = some ⟨oc24, od24, .func (PySem.W.fnOf "_law_end" "_law_end" (defArgs (top 28)) (defBody (top 28)) (defScope (top 28)) .none kV24 dc24 pm24 an24 cd24 ct24), sl24⟩) (c24 : PySem.W.codeIn K cd24 "_law_end" = true) (k24 : PySem.W.keepIn K (.ref f24) = true)
    (a25 : PySem.W.nsIn K mainGlobals "_law_due" = some (some (.ref f25))) (l25 : K.lookup f25 = some ⟨oc25, od25, .func (PySem.W.fnOf "_law_due" "_law_due" (defArgs (top 29)) (defBody (top 29)) (defScope (top 29)) .none kV25 dc25 pm25 an25 cd25 ct25), sl25⟩) (c25 : PySem.W.codeIn K cd25 "_law_due" = true) (k25 : PySem.W.keepIn K (.ref f25) = true)
    (a26 : PySem.W.nsIn K mainGlobals "_law_told" = some (some (.ref f26))) (l26 : K.lookup f26 = some ⟨oc26, od26, .func (PySem.W.fnOf "_law_told" "_law_told" (defArgs (top 30)) (defBody (top 30)) (defScope (top 30)) .none kV26 dc26 pm26 an26 cd26 ct26), sl26⟩) (c26 : PySem.W.codeIn K cd26 "_law_told" = true) (k26 : PySem.W.keepIn K (.ref f26) = true)
    (a27 : PySem.W.nsIn K mainGlobals "_law_whole" = some (some (.ref f27))) (l27 : K.lookup f27 = some ⟨oc27, od27, .func (PySem.W.fnOf "_law_whole" "_law_whole" (defArgs (top 31)) (defBody (top 31)) (defScope (top 31)) .none kV27 dc27 pm27 an27 cd27 ct27), sl27⟩) (c27 : PySem.W.codeIn K cd27 "_law_whole" = true) (k27 : PySem.W.keepIn K (.ref f27) = true)
    (a28 : PySem.W.nsIn K mainGlobals "_law_shown" = some (some (.ref f28))) (l28 : K.lookup f28 = some ⟨oc28, od28, .func (PySem.W.fnOf "_law_shown" "_law_shown" (defArgs (top 32)) (defBody (top 32)) (defScope (top 32)) .none kV28 dc28 pm28 an28 cd28 ct28), sl28⟩) (c28 : PySem.W.codeIn K cd28 "_law_shown" = true) (k28 : PySem.W.keepIn K (.ref f28) = true)
    (a29 : PySem.W.nsIn K mainGlobals "law" = some (some (.ref f29))) (l29 : K.lookup f29 = some ⟨oc29, od29, .func (PySem.W.fnOf "law" "law" (defArgs (top 33)) (defBody (top 33)) (defScope (top 33)) .none kV29 dc29 pm29 an29 cd29 ct29), sl29⟩) (c29 : PySem.W.codeIn K cd29 "law" = true) (k29 : PySem.W.keepIn K (.ref f29) = true)
    (mk7 : PySem.W.makesIn K K7 = true) (kc7 : PySem.W.keepIn K (.ref K7) = true)
    (mk8 : PySem.W.makesIn K K8 = true) (kc8 : PySem.W.keepIn K (.ref K8) = true)
    (mk9 : PySem.W.makesIn K K9 = true) (kc9 : PySem.W.keepIn K (.ref K9) = true) (ai9 : PySem.W.findIn K (.ref K9) "__init__" = some (some (.builtin "object.__init__")))
    (xn0 : PySem.W.nsIn K mainGlobals "SpanError" = some (some (.ref E0)))
    (xn1 : PySem.W.nsIn K mainGlobals "Empty" = some (some (.ref E1)))
    (xn11 : PySem.W.nsIn K mainGlobals "NoText" = some (some (.ref E11)))
    (xe1 : PySem.W.excIn K E1 [.type "ValueError", .type "Exception", .type "BaseException", .type "object"] "ValueError.__new__" = true) (xg1 : PySem.W.findIn K (.ref E1) "__getattribute__" = some (some (.builtin "BaseException.__getattribute__"))) (xh1 : PySem.W.findIn K (.ref E1) "__getattr__" = some none) (xc1 : PySem.W.findIn K (.ref E1) "__class__" = some (some (.builtin "object.__class__"))) (xo1 : PySem.W.mroIn K E1 (.type "object") = some true)
    (xe11 : PySem.W.excIn K E11 [.type "ValueError", .type "Exception", .type "BaseException", .type "object"] "ValueError.__new__" = true) (xg11 : PySem.W.findIn K (.ref E11) "__getattribute__" = some (some (.builtin "BaseException.__getattribute__"))) (xh11 : PySem.W.findIn K (.ref E11) "__getattr__" = some none) (xc11 : PySem.W.findIn K (.ref E11) "__class__" = some (some (.builtin "object.__class__"))) (xo11 : PySem.W.mroIn K E11 (.type "object") = some true)
    (xb0 : PySem.W.mroIn K E0 (.type "BaseException") = some true)
    (xb1 : PySem.W.mroIn K E1 (.type "BaseException") = some true)
    (xb11 : PySem.W.mroIn K E11 (.type "BaseException") = some true)
    (xu0 : PySem.W.isClsIn K E0 = true) (xy0 : PySem.W.typeIn K (.ref E0) = some (.type "type"))
    (xu1 : PySem.W.isClsIn K E1 = true) (xy1 : PySem.W.typeIn K (.ref E1) = some (.type "type"))
    (xu11 : PySem.W.isClsIn K E11 = true) (xy11 : PySem.W.typeIn K (.ref E11) = some (.type "type"))
    (xs1_0 : PySem.W.subIn K (.ref E1) (.ref E0) = some true)
    (xs1_11 : PySem.W.subIn K (.ref E1) (.ref E11) = some false)
    (xq1_11 : (Value.ref E1 == Value.ref E11) = false)
    (xs11_0 : PySem.W.subIn K (.ref E11) (.ref E0) = some true)
    (xs11_1 : PySem.W.subIn K (.ref E11) (.ref E1) = some false)
    (xq11_1 : (Value.ref E11 == Value.ref E1) = false)
    (xs1_ValueError : PySem.W.subIn K (.ref E1) (.type "ValueError") = some true)
    (xs11_ValueError : PySem.W.subIn K (.ref E11) (.type "ValueError") = some true)
    (z0 : PySem.W.nsIn K mainGlobals "ValueError" = some none)
    (z1 : PySem.W.nsIn K mainGlobals "all" = some none)
    (z2 : PySem.W.nsIn K mainGlobals "bool" = some none)
    (z3 : PySem.W.nsIn K mainGlobals "int" = some none)
    (z4 : PySem.W.nsIn K mainGlobals "isinstance" = some none)
    (z5 : PySem.W.nsIn K mainGlobals "len" = some none)
    (z6 : PySem.W.nsIn K mainGlobals "max" = some none)
    (z7 : PySem.W.nsIn K mainGlobals "range" = some none)
    (z8 : PySem.W.nsIn K mainGlobals "str" = some none)
    (z9 : PySem.W.nsIn K mainGlobals "tuple" = some none)
    (v0 : PySem.W.nsIn K mainGlobals "FIGURES" = some (some (.str "0123456789" t0)))
    (v1 : PySem.W.nsIn K mainGlobals "MOST_FIGURES" = some (some (.int 60 t1))) :
    ∃ fd : FuncData, (∀ (s : Shared) (v : Value), BindsTo s fd ⟨[v], []⟩ [("_law_script", v)]) ∧ ∀ base : Heap, K.In base → base.Ns mainGlobals mg → FnOk l.prog w K mg base CX0 7 fa fd ["_law_script"] (spLawB K 63) := by
  have e := hfa.symm.trans (PySem.W.mg_of X G a29)
  cases e
  have cl7 : Cls K K7 := ⟨pg7, hd7, po7, sa7⟩
  have cl8 : Cls K K8 := ⟨pg8, hd8, po8, sa8⟩
  have cl9 : Cls K K9 := ⟨pg9, hd9, po9, sa9⟩
  have cl10 : Cls K K10 := ⟨pg10, hd10, po10, sa10⟩
  have T : Glb K mg := ⟨PySem.W.mg_none_of X G z0, PySem.W.mg_none_of X G z1, PySem.W.mg_none_of X G z2, PySem.W.mg_none_of X G z3, PySem.W.mg_none_of X G z4, PySem.W.mg_none_of X G z5, PySem.W.mg_none_of X G z6, PySem.W.mg_none_of X G z7, PySem.W.mg_none_of X G z8, PySem.W.mg_none_of X G z9, ⟨_, PySem.W.mg_of X G v0⟩, ⟨_, PySem.W.mg_of X G v1⟩, (fldOk_cons n7 cl7 na7_place rfl (by decide +kernel) (fldOk_cons n8 cl8 na8_place rfl (by decide +kernel) fldOk_nil)), ⟨E11, PySem.W.mg_of X G xn11, (isx_cons (t := 1) (by exact xn1) ⟨xg1, xh1, xc1, xo1, xb1⟩ (kit_no xu11 xy11 xs1_11 xq1_11) (isx_cons (t := 11) (by exact xn11) ⟨xg11, xh11, xc11, xo11, xb11⟩ (kit_self E11) isx_nil))⟩, ⟨E1, PySem.W.mg_of X G xn1, (isx_cons (t := 1) (by exact xn1) ⟨xg1, xh1, xc1, xo1, xb1⟩ (kit_self E1) (isx_cons (t := 11) (by exact xn11) ⟨xg11, xh11, xc11, xo11, xb11⟩ (kit_no xu1 xy1 xs11_1 xq11_1) isx_nil))⟩, (isx_cons (t := 1) (by exact xn1) ⟨xg1, xh1, xc1, xo1, xb1⟩ (kitB_yes (by decide +kernel) xs1_ValueError) (isx_cons (t := 11) (by exact xn11) ⟨xg11, xh11, xc11, xo11, xb11⟩ (kitB_yes (by decide +kernel) xs11_ValueError) isx_nil))⟩
  have XR_1 : XR K mg 1 E1 := ⟨by exact xn1, by exact PySem.W.mg_of X G xn1, ⟨xe1, ⟨xg1, xh1, xc1, xo1, xb1⟩⟩⟩
  have XR_11 : XR K mg 11 E11 := ⟨by exact xn11, by exact PySem.W.mg_of X G xn11, ⟨xe11, ⟨xg11, xh11, xc11, xo11, xb11⟩⟩⟩
  have XT_1 : XT K mg 1 "SpanError" E1 E0 := ⟨by exact xn1, PySem.W.mg_of X G xn0, ⟨kitCls_yes xu0 xy0 xs1_0, xb0⟩⟩
  have XT_11 : XT K mg 11 "SpanError" E11 E0 := ⟨by exact xn11, PySem.W.mg_of X G xn0, ⟨kitCls_yes xu0 xy0 xs11_0, xb0⟩⟩
  have F0 := fun_mk (st := (inClass (top 1) 0)) l0 c0 k0
  have b0 := F0.binds (ps := ["self"]) fun _ _ _ _ _ _ us hl => match us, hl with | [_], _ => rfl
  have F1 := fun_mk (st := (inClass (top 1) 1)) l1 c1 k1
  have b1 := F1.binds (ps := ["self"]) fun _ _ _ _ _ _ us hl => match us, hl with | [_], _ => rfl
  have F2 := fun_mk (st := (inClass (top 2) 0)) l2 c2 k2
  have b2 := F2.binds (ps := ["self", "place"]) fun _ _ _ _ _ _ us hl => match us, hl with | [_, _], _ => rfl
  have F3 := fun_mk (st := (inClass (top 2) 1)) l3 c3 k3
  have b3 := F3.binds (ps := ["self"]) fun _ _ _ _ _ _ us hl => match us, hl with | [_], _ => rfl
  have F4 := fun_mk (st := (inClass (top 2) 2)) l4 c4 k4
  have b4 := F4.binds (ps := ["self"]) fun _ _ _ _ _ _ us hl => match us, hl with | [_], _ => rfl
  have F5 := fun_mk (st := (inClass (top 3) 0)) l5 c5 k5
  have b5 := F5.binds (ps := ["self", "place"]) fun _ _ _ _ _ _ us hl => match us, hl with | [_, _], _ => rfl
  have F6 := fun_mk (st := (inClass (top 3) 1)) l6 c6 k6
  have b6 := F6.binds (ps := ["self"]) fun _ _ _ _ _ _ us hl => match us, hl with | [_], _ => rfl
  have F7 := fun_mk (st := (inClass (top 3) 2)) l7 c7 k7
  have b7 := F7.binds (ps := ["self"]) fun _ _ _ _ _ _ us hl => match us, hl with | [_], _ => rfl
  have F8 := fun_mk (st := (inClass (top 4) 0)) l8 c8 k8
  have b8 := F8.binds (ps := ["self"]) fun _ _ _ _ _ _ us hl => match us, hl with | [_], _ => rfl
  have F9 := fun_mk (st := (inClass (top 4) 1)) l9 c9 k9
  have b9 := F9.binds (ps := ["self"]) fun _ _ _ _ _ _ us hl => match us, hl with | [_], _ => rfl
  have F10 := fun_mk (st := (top 11)) l10 c10 k10
  have b10 := F10.binds (ps := ["behind", "low"]) fun _ _ _ _ _ _ us hl => match us, hl with | [_, _], _ => rfl
  have F11 := fun_mk (st := (top 10)) l11 c11 k11
  have b11 := F11.binds (ps := ["low_end", "high_end"]) fun _ _ _ _ _ _ us hl => match us, hl with | [_, _], _ => rfl
  have F12 := fun_mk (st := (top 18)) l12 c12 k12
  have b12 := F12.binds (ps := ["text"]) fun _ _ _ _ _ _ us hl => match us, hl with | [_], _ => rfl
  have F13 := fun_mk (st := (top 15)) l13 c13 k13
  have b13 := F13.binds (ps := ["text"]) fun _ _ _ _ _ _ us hl => match us, hl with | [_], _ => rfl
  have F14 := fun_mk (st := (top 20)) l14 c14 k14
  have b14 := F14.binds (ps := ["text"]) fun _ _ _ _ _ _ us hl => match us, hl with | [_], _ => rfl
  have F15 := fun_mk (st := (top 21)) l15 c15 k15
  have b15 := F15.binds (ps := ["text"]) fun _ _ _ _ _ _ us hl => match us, hl with | [_], _ => rfl
  have F16 := fun_mk (st := (top 19)) l16 c16 k16
  have b16 := F16.binds (ps := ["text"]) fun _ _ _ _ _ _ us hl => match us, hl with | [_], _ => rfl
  have F17 := fun_mk (st := (top 16)) l17 c17 k17
  have b17 := F17.binds (ps := ["text"]) fun _ _ _ _ _ _ us hl => match us, hl with | [_], _ => rfl
  have F18 := fun_mk (st := (top 17)) l18 c18 k18
  have b18 := F18.binds (ps := ["one"]) fun _ _ _ _ _ _ us hl => match us, hl with | [_], _ => rfl
  have F19 := fun_mk (st := (top 23)) l19 c19 k19
  have b19 := F19.binds (ps := ["_law_script", "_law_k"]) fun _ _ _ _ _ _ us hl => match us, hl with | [_, _], _ => rfl
  have F20 := fun_mk (st := (top 24)) l20 c20 k20
  have b20 := F20.binds (ps := ["_law_cell"]) fun _ _ _ _ _ _ us hl => match us, hl with | [_], _ => rfl
  have F21 := fun_mk (st := (top 25)) l21 c21 k21
  have b21 := F21.binds (ps := ["_law_cell", "_law_number_here"]) fun _ _ _ _ _ _ us hl => match us, hl with | [_, _], _ => rfl
  have F22 := fun_mk (st := (top 26)) l22 c22 k22
  have b22 := F22.binds (ps := ["_law_text", "_law_cell"]) fun _ _ _ _ _ _ us hl => match us, hl with | [_, _], _ => rfl
  have F23 := fun_mk (st := (top 27)) l23 c23 k23
  have b23 := F23.binds (ps := ["_law_word_here"]) fun _ _ _ _ _ _ us hl => match us, hl with | [_], _ => rfl
  have F24 := fun_mk (st := (top 28)) l24 c24 k24
  have b24 := F24.binds (ps := ["_law_bracket", "_law_word_here", "_law_shut", "_law_more"]) fun _ _ _ _ _ _ us hl => match us, hl with | [_, _, _, _], _ => rfl
  have F25 := fun_mk (st := (top 29)) l25 c25 k25
  have b25 := F25.binds (ps := ["_law_text"]) fun _ _ _ _ _ _ us hl => match us, hl with | [_], _ => rfl
  have F26 := fun_mk (st := (top 30)) l26 c26 k26
  have b26 := F26.binds (ps := ["_law_text", "_law_spans"]) fun _ _ _ _ _ _ us hl => match us, hl with | [_, _], _ => rfl
  have F27 := fun_mk (st := (top 31)) l27 c27 k27
  have b27 := F27.binds (ps := ["_law_found"]) fun _ _ _ _ _ _ us hl => match us, hl with | [_], _ => rfl
  have F28 := fun_mk (st := (top 32)) l28 c28 k28
  have b28 := F28.binds (ps := ["_law_one"]) fun _ _ _ _ _ _ us hl => match us, hl with | [_], _ => rfl
  have F29 := fun_mk (st := (top 33)) l29 c29 k29
  refine ⟨PySem.W.fnOf "law" "law" (defArgs (top 33)) (defBody (top 33)) (defScope (top 33)) .none kV29 dc29 pm29 an29 cd29 ct29, fun s v => .of_eq rfl, fun base _ _ => ?_⟩
  have G0 := fok_End_low (P := l.prog) (w := w) (base := base) F0 T
  have G1 := fok_End_behind (P := l.prog) (w := w) (base := base) F1 T
  have G2 := fok_Shut___init__ (P := l.prog) (w := w) (base := base) F2 T
  have G3 := fok_Shut_low (P := l.prog) (w := w) (base := base) F3 T
  have G4 := fok_Shut_behind (P := l.prog) (w := w) (base := base) F4 T
  have G5 := fok_Open___init__ (P := l.prog) (w := w) (base := base) F5 T
  have G6 := fok_Open_low (P := l.prog) (w := w) (base := base) F6 T
  have G7 := fok_Open_behind (P := l.prog) (w := w) (base := base) F7 T
  have G8 := fok_Endless_low (P := l.prog) (w := w) (base := base) F8 T
  have G9 := fok_Endless_behind (P := l.prog) (w := w) (base := base) F9 T
  have G10 := fok_ends_ahead (P := l.prog) (w := w) (base := base) F10 T
  have C_ends_ahead : Cal l.prog w K mg base "ends_ahead" 1 2 GP.ends_ahead.f := ⟨f10, _, _, G10, b10, k10, PySem.W.mg_of X G a10⟩
  have M_low : MCal l.prog w K mg base "low" 1 0 [7, 8, 9, 10] GP.M_low_88ddca := (mcal_cons n7 cl7 ⟨a3, i3, k3⟩ G3 (by decide) b3 (by decide +kernel) (mcal_cons n8 cl8 ⟨a6, i6, k6⟩ G6 (by decide) b6 (by decide +kernel) (mcal_cons n9 cl9 ⟨a8, i8, k8⟩ G8 (by decide) b8 (by decide +kernel) (mcal_cons n10 cl10 ⟨a0, i0, k0⟩ G0 (by decide) b0 (by decide +kernel) mcal_nil))))
  have M_behind : MCal l.prog w K mg base "behind" 1 0 [7, 8, 9, 10] GP.M_behind_f72aa6 := (mcal_cons n7 cl7 ⟨a4, i4, k4⟩ G4 (by decide) b4 (by decide +kernel) (mcal_cons n8 cl8 ⟨a7, i7, k7⟩ G7 (by decide) b7 (by decide +kernel) (mcal_cons n9 cl9 ⟨a9, i9, k9⟩ G9 (by decide) b9 (by decide +kernel) (mcal_cons n10 cl10 ⟨a1, i1, k1⟩ G1 (by decide) b1 (by decide +kernel) mcal_nil))))
  have GX11_1 := fokx_span_1 (P := l.prog) (w := w) (base := base) F11 T C_ends_ahead M_low M_behind XR_1
  have CX_span_1 : CalX l.prog w K mg base "span" 2 2 K91.X_span_1.f E1 := ⟨f11, _, _, GX11_1, b11, k11, PySem.W.mg_of X G a11⟩
  have G11 := fok_span (P := l.prog) (w := w) (base := base) F11 T C_ends_ahead M_low M_behind
  have C_span : Cal l.prog w K mg base "span" 2 2 GP.span2.f := ⟨f11, _, _, G11, b11, k11, PySem.W.mg_of X G a11⟩
  have G12 := fok_is_number (P := l.prog) (w := w) (base := base) F12 T
  have C_is_number : Cal l.prog w K mg base "is_number" 1 1 GP.is_number.f := ⟨f12, _, _, G12, b12, k12, PySem.W.mg_of X G a12⟩
  have GX13_11 := fokx_read_number_11 (P := l.prog) (w := w) (base := base) F13 T C_is_number XR_11
  have CX_read_number_11 : CalX l.prog w K mg base "read_number" 2 1 K91.X_read_number_11.f E11 := ⟨f13, _, _, GX13_11, b13, k13, PySem.W.mg_of X G a13⟩
  have G13 := fok_read_number (P := l.prog) (w := w) (base := base) F13 T C_is_number
  have C_read_number : Cal l.prog w K mg base "read_number" 2 1 GP.read_number.f := ⟨f13, _, _, G13, b13, k13, PySem.W.mg_of X G a13⟩
  have Mk_Endless : MkP K mg 9 := ⟨K9, n9, PySem.W.mg_of X G n9, mk9, ai9, kc9⟩
  have Mk_Shut : MkC l.prog w K mg base 7 1 1 GP.Shut___init__.f := ⟨K7, f2, _, _, n7, PySem.W.mg_of X G n7, ⟨mk7, a2, i2, kc7⟩, cl7, G2, b2, (noAll_mem (l := ["place"]) (noAll_cons na7_place noAll_nil))⟩
  have Mk_Open : MkC l.prog w K mg base 8 1 1 GP.Shut___init__.f := ⟨K8, f5, _, _, n8, PySem.W.mg_of X G n8, ⟨mk8, a5, i5, kc8⟩, cl8, G5, b5, (noAll_mem (l := ["place"]) (noAll_cons na8_place noAll_nil))⟩
  have GX14_11 := fokx_read_low_end_11 (P := l.prog) (w := w) (base := base) F14 T C_read_number Mk_Endless Mk_Shut Mk_Open XR_11 CX_read_number_11
  have CX_read_low_end_11 : CalX l.prog w K mg base "read_low_end" 3 1 K91.X_read_low_end_11.f E11 := ⟨f14, _, _, GX14_11, b14, k14, PySem.W.mg_of X G a14⟩
  have G14 := fok_read_low_end (P := l.prog) (w := w) (base := base) F14 T C_read_number Mk_Endless Mk_Shut Mk_Open
  have C_read_low_end : Cal l.prog w K mg base "read_low_end" 3 1 GP.read_low_end.f := ⟨f14, _, _, G14, b14, k14, PySem.W.mg_of X G a14⟩
  have GX15_11 := fokx_read_high_end_11 (P := l.prog) (w := w) (base := base) F15 T C_read_number Mk_Endless Mk_Shut Mk_Open XR_11 CX_read_number_11
  have CX_read_high_end_11 : CalX l.prog w K mg base "read_high_end" 3 1 K91.X_read_high_end_11.f E11 := ⟨f15, _, _, GX15_11, b15, k15, PySem.W.mg_of X G a15⟩
  have G15 := fok_read_high_end (P := l.prog) (w := w) (base := base) F15 T C_read_number Mk_Endless Mk_Shut Mk_Open
  have C_read_high_end : Cal l.prog w K mg base "read_high_end" 3 1 GP.read_high_end.f := ⟨f15, _, _, G15, b15, k15, PySem.W.mg_of X G a15⟩
  have GX16_11 := fokx_read_ends_11 (P := l.prog) (w := w) (base := base) F16 T C_read_low_end C_read_high_end XR_11 CX_read_low_end_11 CX_read_high_end_11
  have CX_read_ends_11 : CalX l.prog w K mg base "read_ends" 4 1 K91.X_read_ends_11.f E11 := ⟨f16, _, _, GX16_11, b16, k16, PySem.W.mg_of X G a16⟩
  have G16 := fok_read_ends (P := l.prog) (w := w) (base := base) F16 T C_read_low_end C_read_high_end
  have C_read_ends : Cal l.prog w K mg base "read_ends" 4 1 GP.read_ends.f := ⟨f16, _, _, G16, b16, k16, PySem.W.mg_of X G a16⟩
  have GX17_1 := fokx_read_span_1 (P := l.prog) (w := w) (base := base) F17 T C_read_ends C_span CX_span_1
  have CX_read_span_1 : CalX l.prog w K mg base "read_span" 5 1 K91.X_read_span_1.f E1 := ⟨f17, _, _, GX17_1, b17, k17, PySem.W.mg_of X G a17⟩
  have GX17_11 := fokx_read_span_11 (P := l.prog) (w := w) (base := base) F17 T C_read_ends C_span CX_read_ends_11
  have CX_read_span_11 : CalX l.prog w K mg base "read_span" 5 1 K91.X_read_span_11.f E11 := ⟨f17, _, _, GX17_11, b17, k17, PySem.W.mg_of X G a17⟩
  have G17 := fok_read_span (P := l.prog) (w := w) (base := base) F17 T C_read_ends C_span
  have C_read_span : Cal l.prog w K mg base "read_span" 5 1 GP.read_span.f := ⟨f17, _, _, G17, b17, k17, PySem.W.mg_of X G a17⟩
  have G18 := fok_show_span (P := l.prog) (w := w) (base := base) F18 T
  have C_show_span : Cal l.prog w K mg base "show_span" 1 1 GP.show_span.f := ⟨f18, _, _, G18, b18, k18, PySem.W.mg_of X G a18⟩
  have G19 := fok__law_cell_at (P := l.prog) (w := w) (base := base) F19 T
  have C__law_cell_at : Cal l.prog w K mg base "_law_cell_at" 1 2 GL.cell_at.f := ⟨f19, _, _, G19, b19, k19, PySem.W.mg_of X G a19⟩
  have G20 := fok__law_number (P := l.prog) (w := w) (base := base) F20 T
  have C__law_number : Cal l.prog w K mg base "_law_number" 1 1 K91.L_number.f := ⟨f20, _, _, G20, b20, k20, PySem.W.mg_of X G a20⟩
  have G21 := fok__law_word (P := l.prog) (w := w) (base := base) F21 T
  have C__law_word : Cal l.prog w K mg base "_law_word" 1 2 K91.L_word.f := ⟨f21, _, _, G21, b21, k21, PySem.W.mg_of X G a21⟩
  have G22 := fok__law_spoilt (P := l.prog) (w := w) (base := base) F22 T
  have C__law_spoilt : Cal l.prog w K mg base "_law_spoilt" 1 2 K91.L_spoilt.f := ⟨f22, _, _, G22, b22, k22, PySem.W.mg_of X G a22⟩
  have G23 := fok__law_read (P := l.prog) (w := w) (base := base) F23 T
  have C__law_read : Cal l.prog w K mg base "_law_read" 1 1 GL.read.f := ⟨f23, _, _, G23, b23, k23, PySem.W.mg_of X G a23⟩
  have G24 := fok__law_end (P := l.prog) (w := w) (base := base) F24 T C__law_read
  have C__law_end : Cal l.prog w K mg base "_law_end" 2 4 GL.end3.f := ⟨f24, _, _, G24, b24, k24, PySem.W.mg_of X G a24⟩
  have G25 := fok__law_due (P := l.prog) (w := w) (base := base) F25 T C__law_end
  have C__law_due : Cal l.prog w K mg base "_law_due" 3 1 K91.L_due.f := ⟨f25, _, _, G25, b25, k25, PySem.W.mg_of X G a25⟩
  have G26 := fok__law_told (P := l.prog) (w := w) (base := base) F26 T C_read_span C_read_number XT_1 CX_read_span_1 XT_11 CX_read_span_11 CX_read_number_11
  have C__law_told : Cal l.prog w K mg base "_law_told" 6 2 K91.L_told.f := ⟨f26, _, _, G26, b26, k26, PySem.W.mg_of X G a26⟩
  have G27 := fok__law_whole (P := l.prog) (w := w) (base := base) F27 T
  have C__law_whole : Cal l.prog w K mg base "_law_whole" 1 1 GL.whole.f := ⟨f27, _, _, G27, b27, k27, PySem.W.mg_of X G a27⟩
  have G28 := fok__law_shown (P := l.prog) (w := w) (base := base) F28 T
  have C__law_shown : Cal l.prog w K mg base "_law_shown" 1 1 K91.L_shown.f := ⟨f28, _, _, G28, b28, k28, PySem.W.mg_of X G a28⟩
  exact law_ofB (F := K91.law.f) (fok_law F29 T C__law_number C__law_cell_at C__law_spoilt C__law_due C__law_told C_show_span C__law_word C__law_read C_read_span C__law_shown C__law_whole) run_law
end K91
def PySem.W.Fast.tw8764000387903725945 : Unit := ()
def PySem.W.Fast.tw10933504814998580234 : Unit := ()
def PySem.W.Fast.tw2181922579460916984 : Unit := ()
def PySem.W.Fast.tw7199863096676235002 : Unit := ()
def PySem.W.Fast.tw18138564579011450524 : Unit := ()
def PySem.W.Fast.tw12079440845666691448 : Unit := ()
def PySem.W.Fast.tw11591225644127645862 : Unit := ()
def PySem.W.Fast.tw6234635569968703009 : Unit := ()
def PySem.W.Fast.tw18135277936880897668 : Unit := ()
def PySem.W.Fast.tw11841355322302603622 : Unit := ()
def PySem.W.Fast.tw722552012442262 : Unit := ()
def PySem.W.Fast.tw3654647171395394081 : Unit := ()
open PySem PySem.W PyProof.Rows
set_option maxRecDepth 100000 in
set_option maxHeartbeats 0 in
theorem PySem.Challenge.cw_spanmap_k91_numbers_and_spans_read_holds : PySem.Challenge.rw_spanmap_k91_numbers_and_spans_read.Holds := by
  w_on; o_law; k_head; (case hw => w_witness2)
  k_fill
  refine' FL.walkB (l := PySem.Challenge.rw_spanmap_k91_numbers_and_spans_read) (k := 7) rfl rfl ⟨rfl, by decide, by decide⟩ (fun w h Y => PySem.W.kIn_of Y) (fun w => by kernel_rfl) ?T ?F
  case T =>
    intro w
    dsimp only [L2.makers]
    repeat (first
      | exact FL.TabL.nil
      | (apply FL.tabL_no; k_is)
      | (apply FL.tabL_yes; k_is; k_is; exact rfl; k_is; exact rfl; kernel_rfl))
    all_goals decide
  case F =>
    intro w mg fa h KX G hmg
    refine' K91.all_mk KX G hmg ?n7 ?pg7 ?hd7 ?po7 ?sa7 ?na7_place ?n8 ?pg8 ?hd8 ?po8 ?sa8 ?na8_place ?n9 ?pg9 ?hd9 ?po9 ?sa9 ?n10 ?pg10 ?hd10 ?po10 ?sa10 ?a0 ?l0 ?c0 ?k0 ?i0 ?a1 ?l1 ?c1 ?k1 ?i1 ?a2 ?l2 ?c2 ?k2 ?i2 ?a3 ?l3 ?c3 ?k3 ?i3 ?a4 ?l4 ?c4 ?k4 ?i4 ?a5 ?l5 ?c5 ?k5 ?i5 ?a6 ?l6 ?c6 ?k6 ?i6 ?a7 ?l7 ?c7 ?k7 ?i7 ?a8 ?l8 ?c8 ?k8 ?i8 ?a9 ?l9 ?c9 ?k9 ?i9 ?a10 ?l10 ?c10 ?k10 ?a11 ?l11 ?c11 ?k11 ?a12 ?l12 ?c12 ?k12 ?a13 ?l13 ?c13 ?k13 ?a14 ?l14 ?c14 ?k14 ?a15 ?l15 ?c15 ?k15 ?a16 ?l16 ?c16 ?k16 ?a17 ?l17 ?c17 ?k17 ?a18 ?l18 ?c18 ?k18 ?a19 ?l19 ?c19 ?k19 ?a20 ?l20 ?c20 ?k20 ?a21 ?l21 ?c21 ?k21 ?a22 ?l22 ?c22 ?k22 ?a23 ?l23 ?c23 ?k23 ?a24 ?l24 ?c24 ?k24 ?a25 ?l25 ?c25 ?k25 ?a26 ?l26 ?c26 ?k26 ?a27 ?l27 ?c27 ?k27 ?a28 ?l28 ?c28 ?k28 ?a29 ?l29 ?c29 ?k29 ?mk7 ?kc7 ?mk8 ?kc8 ?mk9 ?kc9 ?ai9 ?xn0 ?xn1 ?xn11 ?xe1 ?xg1 ?xh1 ?xc1 ?xo1 ?xe11 ?xg11 ?xh11 ?xc11 ?xo11 ?xb0 ?xb1 ?xb11 ?xu0 ?xy0 ?xu1 ?xy1 ?xu11 ?xy11 ?xs1_0 ?xs1_11 ?xq1_11 ?xs11_0 ?xs11_1 ?xq11_1 ?xs1_ValueError ?xs11_ValueError ?z0 ?z1 ?z2 ?z3 ?z4 ?z5 ?z6 ?z7 ?z8 ?z9 ?v0 ?v1
    (case n7 => k_is)
    (case pg7 => k_is)
    (case hd7 => k_is)
    (case po7 => k_is)
    (case sa7 => k_is)
    (case na7_place => k_is)
    (case n8 => k_is)
    (case pg8 => k_is)
    (case hd8 => k_is)
    (case po8 => k_is)
    (case sa8 => k_is)
    (case na8_place => k_is)
    (case n9 => k_is)
    (case pg9 => k_is)
    (case hd9 => k_is)
    (case po9 => k_is)
    (case sa9 => k_is)
    (case n10 => k_is)
    (case pg10 => k_is)
    (case hd10 => k_is)
    (case po10 => k_is)
    (case sa10 => k_is)
    (case a0 => k_is)
    (case l0 => k_is)
    (case c0 => k_is)
    (case k0 => k_is)
    (case i0 => k_is)
    (case a1 => k_is)
    (case l1 => k_is)
    (case c1 => k_is)
    (case k1 => k_is)
    (case i1 => k_is)
    (case a2 => k_is)
    (case l2 => k_is)
    (case c2 => k_is)
    (case k2 => k_is)
    (case i2 => k_is)
    (case a3 => k_is)
    (case l3 => k_is)
    (case c3 => k_is)
    (case k3 => k_is)
    (case i3 => k_is)
    (case a4 => k_is)
    (case l4 => k_is)
    (case c4 => k_is)
    (case k4 => k_is)
    (case i4 => k_is)
    (case a5 => k_is)
    (case l5 => k_is)
    (case c5 => k_is)
    (case k5 => k_is)
    (case i5 => k_is)
    (case a6 => k_is)
    (case l6 => k_is)
    (case c6 => k_is)
    (case k6 => k_is)
    (case i6 => k_is)
    (case a7 => k_is)
    (case l7 => k_is)
    (case c7 => k_is)
    (case k7 => k_is)
    (case i7 => k_is)
    (case a8 => k_is)
    (case l8 => k_is)
    (case c8 => k_is)
    (case k8 => k_is)
    (case i8 => k_is)
    (case a9 => k_is)
    (case l9 => k_is)
    (case c9 => k_is)
    (case k9 => k_is)
    (case i9 => k_is)
    (case a10 => k_is)
    (case l10 => k_is)
    (case c10 => k_is)
    (case k10 => k_is)
    (case a11 => k_is)
    (case l11 => k_is)
    (case c11 => k_is)
    (case k11 => k_is)
    (case a12 => k_is)
    (case l12 => k_is)
    (case c12 => k_is)
    (case k12 => k_is)
    (case a13 => k_is)
    (case l13 => k_is)
    (case c13 => k_is)
    (case k13 => k_is)
    (case a14 => k_is)
    (case l14 => k_is)
    (case c14 => k_is)
    (case k14 => k_is)
    (case a15 => k_is)
    (case l15 => k_is)
    (case c15 => k_is)
    (case k15 => k_is)
    (case a16 => k_is)
    (case l16 => k_is)
    (case c16 => k_is)
    (case k16 => k_is)
    (case a17 => k_is)
    (case l17 => k_is)
    (case c17 => k_is)
    (case k17 => k_is)
    (case a18 => k_is)
    (case l18 => k_is)
    (case c18 => k_is)
    (case k18 => k_is)
    (case a19 => k_is)
    (case l19 => k_is)
    (case c19 => k_is)
    (case k19 => k_is)
    (case a20 => k_is)
    (case l20 => k_is)
    (case c20 => k_is)
    (case k20 => k_is)
    (case a21 => k_is)
    (case l21 => k_is)
    (case c21 => k_is)
    (case k21 => k_is)
    (case a22 => k_is)
    (case l22 => k_is)
    (case c22 => k_is)
    (case k22 => k_is)
    (case a23 => k_is)
    (case l23 => k_is)
    (case c23 => k_is)
    (case k23 => k_is)
    (case a24 => k_is)
    (case l24 => k_is)
    (case c24 => k_is)
    (case k24 => k_is)
    (case a25 => k_is)
    (case l25 => k_is)
    (case c25 => k_is)
    (case k25 => k_is)
    (case a26 => k_is)
    (case l26 => k_is)
    (case c26 => k_is)
    (case k26 => k_is)
    (case a27 => k_is)
    (case l27 => k_is)
    (case c27 => k_is)
    (case k27 => k_is)
    (case a28 => k_is)
    (case l28 => k_is)
    (case c28 => k_is)
    (case k28 => k_is)
    (case a29 => k_is)
    (case l29 => k_is)
    (case c29 => k_is)
    (case k29 => k_is)
    (case mk7 => k_is)
    (case kc7 => k_is)
    (case mk8 => k_is)
    (case kc8 => k_is)
    (case mk9 => k_is)
    (case kc9 => k_is)
    (case ai9 => k_is)
    (case xn0 => k_is)
    (case xn1 => k_is)
    (case xn11 => k_is)
    (case xe1 => k_exc)
    (case xg1 => k_is)
    (case xh1 => k_is)
    (case xc1 => k_is)
    (case xo1 => k_is)
    (case xe11 => k_exc)
    (case xg11 => k_is)
    (case xh11 => k_is)
    (case xc11 => k_is)
    (case xo11 => k_is)
    (case xb0 => k_is)
    (case xb1 => k_is)
    (case xb11 => k_is)
    (case xu0 => k_is)
    (case xy0 => k_is)
    (case xu1 => k_is)
    (case xy1 => k_is)
    (case xu11 => k_is)
    (case xy11 => k_is)
    (case xs1_0 => k_is)
    (case xs1_11 => k_is)
    (case xq1_11 => decide)
    (case xs11_0 => k_is)
    (case xs11_1 => k_is)
    (case xq11_1 => decide)
    (case xs1_ValueError => k_is)
    (case xs11_ValueError => k_is)
    (case z0 => k_is)
    (case z1 => k_is)
    (case z2 => k_is)
    (case z3 => k_is)
    (case z4 => k_is)
    (case z5 => k_is)
    (case z6 => k_is)
    (case z7 => k_is)
    (case z8 => k_is)
    (case z9 => k_is)
    (case v0 => k_is)
    (case v1 => k_is)
#print axioms PySem.Challenge.cw_spanmap_k91_numbers_and_spans_read_holds
