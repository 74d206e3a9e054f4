import PyProof.Rows.All
import Wide.All
import OpenK.AllK
import Wide.FinOn
import Lean
import PyProof.EqAt
import PyProof.EqKinds
import PyProof.TupleCall
import PyProof.ListRange
import PyProof.P3In
import PyProof.NeData
import PyProof.NsDelKeeps
import PySem.Challenge.RW_spanmap_k46_refused_deeds
set_option Elab.async false
set_option linter.all false
set_option maxRecDepth 100000
/-! ### values as trees, and the functions of the slots: nothing of heaps -/
namespace HT
def sIx (n d : Nat) : Option Int → Nat
  | none => d
  | some v => if v < 0 then (v + (n : Int)).toNat else min v.toNat n
end HT
namespace L2
open PySem
abbrev Key := Sum Int Str
def ixN (n : Nat) (i : Int) : Option Nat := if 0 ≤ i then (if i < n then some i.toNat else none) else if -(n : Int) ≤ i then some (i + n).toNat else none
def atI {α : Type} (xs : List α) (i : Int) : Option α := (ixN xs.length i).bind fun j => xs[j]?
end L2
namespace FL
open PySem PySem.Spec PyProof.Rows L2
def clsName : Nat → Str
  | 0 => "Put" | 1 => "Widen" | 2 => "Narrow" | 3 => "Move" | 4 => "Stretch" | 5 => "Mirror" | 6 => "Deed" | 7 => "Shut" | 8 => "Open" | 9 => "Endless" | 10 => "End" | _ => ""
def clsFlds : Nat → List Str
  | 0 => ["span", "fill"] | 1 => ["fill", "at", "many"] | 2 => ["fill", "at", "many"] | 3 => ["fill", "far"] | 4 => ["fill", "top", "bottom"] | 5 => ["fill"] | 6 => ["fill"] | 7 => ["place"] | 8 => ["place"] | _ => []
inductive D where
  | non | bl (b : Bool) | int (i : Int) | str (x : Str) | tup (ds : List D) | lst (ds : List D)
  | dct (ks : List Key) (ds : List D) | ins (t : Nat) (ds : List D)
mutual
def flat : D → Bool
  | .non | .bl _ | .int _ | .str _ => true
  | .tup ds => flats ds
  | _ => false
def flats : List D → Bool
  | [] => true
  | d :: r => flat d && flats r
end
def xName : Nat → Str
  | 0 => "SpanError" | 1 => "Empty" | 2 => "NoEnd" | 3 => "Clash" | 4 => "NoCount" | 5 => "NoShare" | 6 => "NoName" | 7 => "NoMark" | 8 => "NoDeed" | 9 => "NoRule" | 10 => "TooMuch" | 11 => "NoText" | _ => "NoRow"
inductive Sl where
  | no | v (d : D) | own (l : List D) | exc (t : Nat) | fr (l : List D)
abbrev FE := List Sl → Option D
abbrev FT := List Sl → Option Bool
abbrev FA := List Sl → Option (List D)
def mkL (f : FA) : FE := fun ds => (f ds).map D.lst
def getV (i : Nat) : FE := fun ds => match ds[i]? with | some (.v d) => some d | _ => none
def getW (i : Nat) : FE := fun ds => match ds[i]? with | some (.v d) => some d | some (.own l) => some (.lst l) | _ => none
def konst (d : D) : FE := fun _ => some d
def bin2 (op : D → D → Option D) (fa fb : FE) : FE := fun ds => (fa ds).bind fun x => (fb ds).bind fun y => op x y
def isB : D → Option Bool
  | .bl b => some b
  | _ => none
def testB (f : FE) : FT := fun ds => (f ds).bind isB
def addD : D → D → Option D
  | .int i, .int j => some (.int (i + j))
  | .str x, .str y => if x.length + y.length ≤ sizeLine then some (.str (x ++ y)) else none
  | _, _ => none
def subD : D → D → Option D
  | .int i, .int j => some (.int (i - j))
  | _, _ => none
def divOk (j : Int) : Prop := 0 < j ∧ j.natAbs.log2 < 9000
noncomputable instance divOkD (j : Int) : Decidable (divOk j) := Classical.propDecidable _
noncomputable def fdivD : D → D → Option D
  | .int i, .int j => if divOk j then some (.int (i / j)) else none
  | _, _ => none
def modD : D → D → Option D
  | .int i, .int j => if 0 < j then some (.int (i % j)) else none
  | _, _ => none
def cmpI (p : Int → Int → Bool) : D → D → Option D
  | .int i, .int j => some (.bl (p i j))
  | _, _ => none
def andT (c d : FT) : FT := fun ds => (c ds).bind fun b => if b = true then d ds else some false
def orT (c d : FT) : FT := fun ds => (c ds).bind fun b => if b = true then some true else d ds
def notT (c : FT) : FT := fun ds => (c ds).map not
def andV (f g : FE) : FE := fun ds => (f ds).bind fun d => match d with | .bl true => g ds | .bl false => some (.bl false) | _ => none
def orV (f g : FE) : FE := fun ds => (f ds).bind fun d => match d with | .bl true => some (.bl true) | .bl false => g ds | _ => none
def notV (f : FE) : FE := fun ds => (f ds).bind fun d => match d with | .bl b => some (.bl (!b)) | _ => none
def ifV (c : FT) (f g : FE) : FE := fun ds => (c ds).bind fun b => if b = true then f ds else g ds
def chain (op op' : D → D → Option D) (fa fb fc : FE) : FE := fun ds => (fa ds).bind fun x => (fb ds).bind fun y => (op x y).bind fun z => match z with
  | .bl true => (fc ds).bind fun w => op' y w
  | .bl false => some (.bl false)
  | _ => none
def consA (f : FE) (g : FA) : FA := fun ds => (f ds).bind fun x => (g ds).map fun r => x :: r
def nilA : FA := fun _ => some []
def sized (f : FA) : FA := fun ds => (f ds).bind fun l => if l.length ≤ sizeLine then some l else none
def mkT (f : FA) : FE := fun ds => (f ds).map D.tup
def ixD : D → D → Option D
  | .lst l, .int i => atI l i
  | .tup l, .int i => atI l i
  | .str x, .int i => if x.length ≤ sizeLine then (atI x.cps.toList i).map fun c => .str ⟨#[c]⟩ else none
  | _, _ => none
inductive Ret where
  | val (d : D) | fresh (l : List D) | any (d : D)
def retV : Ret → Option D
  | .val d => some d
  | .fresh l => some (.lst l)
  | .any _ => none
def retF : Ret → Option (List D)
  | .fresh l => some l
  | _ => none
def callV (n : Nat) (F : List D → Option Ret) (g : FA) : FE := fun ds => (g ds).bind fun l => if l.length = n then (F l).bind retV else none
def callF (n : Nat) (F : List D → Option Ret) (g : FA) : FA := fun ds => (g ds).bind fun l => if l.length = n then (F l).bind retF else none
def callB (F : List D → Option D) (g : FA) : FE := fun ds => (g ds).bind F
def lenD : List D → Option D
  | [.lst l] => some (.int l.length)
  | [.tup l] => some (.int l.length)
  | [.str x] => if x.length ≤ sizeLine then some (.int x.length) else none
  | _ => none
inductive Out where
  | nx (ds : List Sl) | rt (r : Ret) | bk (ds : List Sl) | ct (ds : List Sl)
abbrev FS := List Sl → Option Out
def nextG : FS := fun ds => some (.nx ds)
def seqG (f g : FS) : FS := fun ds => (f ds).bind fun o => match o with | .nx ds' => g ds' | o => some o
def ifG (c : FT) (f g : FS) : FS := fun ds => (c ds).bind fun b => if b = true then f ds else g ds
def setG (i : Nat) (f : FE) : FS := fun ds => (f ds).map fun d => .nx (ds.set i (.v d))
def setOG (i : Nat) (f : FA) : FS := fun ds => (f ds).map fun l => .nx (ds.set i (.own l))
def flatR (d : D) : Option Out := if flat d = true then some (.rt (.val d)) else none
def retG (f : FE) : FS := fun ds => (f ds).bind flatR
def flatF (l : List D) : Option Out := if flats l = true then some (.rt (.fresh l)) else none
def retOG (f : FA) : FS := fun ds => (f ds).bind flatF
def retXG (i : Nat) : FS := fun ds => match ds[i]? with | some (.own l) => flatF l | _ => none
def putG (i : Nat) (fk fe : FE) : FS := fun ds => match ds[i]? with
  | some (.own l) => (fe ds).bind fun d => (fk ds).bind fun k => match k with
    | .int n => (ixN l.length n).map fun j => .nx (ds.set i (.own (l.set j d)))
    | _ => none
  | _ => none
def appG (i : Nat) (fe : FE) : FS := fun ds => match ds[i]? with
  | some (.own l) => (fe ds).bind fun d => if l.length < sizeLine then some (.nx (ds.set i (.own (l ++ [d])))) else none
  | _ => none
def args (n : Nat) (ds : List D) : List Sl := ds.map Sl.v ++ List.replicate (n - ds.length) Sl.no
def sgns (x : Str) : List D := x.cps.toList.map fun c => D.str ⟨#[c]⟩
def viaA (f : FE) (k : D → Option (List D)) : FA := fun ds => (f ds).bind k
def rangeD (lo : Int) (n : Nat) : List D := (List.range n).map fun (k : Nat) => D.int (lo + (k : Int))
def okR (j : Int) : Prop := -(2 ^ 62) ≤ j ∧ j < 2 ^ 62
noncomputable instance okRD (j : Int) : Decidable (okR j) := Classical.propDecidable _
noncomputable def rng1 (f : FE) : FA := fun ds => (f ds).bind fun d => match d with | .int j => if okR j then some (rangeD 0 j.toNat) else none | _ => none
def nameG (i : Nat) : D → List Sl → Option (List Sl) := fun d ds => some (ds.set i (.v d))
def tgNil : List D → List Sl → Option (List Sl)
  | [], ds => some ds
  | _, _ => none
def tgCons (g : D → List Sl → Option (List Sl)) (h : List D → List Sl → Option (List Sl)) : List D → List Sl → Option (List Sl)
  | d :: r, ds => (g d ds).bind fun ds' => h r ds'
  | _, _ => none
def tupG (n : Nat) (h : List D → List Sl → Option (List Sl)) : D → List Sl → Option (List Sl)
  | .tup l, ds => if l.length = n then h l ds else none
  | _, _ => none
def loopG (ga : D → List Sl → Option (List Sl)) (body : FS) : List D → List Sl → Option Out
  | [], ds => some (.nx ds)
  | d :: r, ds => (ga d ds).bind fun ds1 => (body ds1).bind fun o => match o with
    | .nx ds2 => loopG ga body r ds2
    | .ct ds2 => loopG ga body r ds2
    | .bk ds2 => some (.nx ds2)
    | .rt r => some (.rt r)
def forG (fi : FA) (ga : D → List Sl → Option (List Sl)) (body : FS) : FS := fun ds => (fi ds).bind fun items => loopG ga body items ds
def compL (ga : D → List Sl → Option (List Sl)) (tt : FT) (fe : FE) (s0 : List Sl) : List D → Option (List D)
  | [] => some []
  | d :: r => (ga d s0).bind fun ds1 => (tt ds1).bind fun b => if b = true then (fe ds1).bind fun y => (compL ga tt fe s0 r).map fun ys => y :: ys else compL ga tt fe s0 r
def slotsD (mp : List (Option Nat)) (ds : List Sl) : List Sl := mp.map fun o => match o with
  | some j => (match ds[j]? with | some (.v d) => .v d | _ => .no)
  | none => .no
def compG (fi : FA) (mp : List (Option Nat)) (ga : D → List Sl → Option (List Sl)) (tt : FT) (fe : FE) : FA := fun ds => (fi ds).bind fun items => if items.length ≤ sizeLine then compL ga tt fe (slotsD mp ds) items else none
def tyD : D → Option String
  | .non => some "NoneType"
  | .bl _ => some "bool"
  | .int _ => some "int"
  | .str _ => some "str"
  | .tup _ => some "tuple"
  | .lst _ => some "list"
  | .dct _ _ => some "dict"
  | .ins _ _ => none
def kitN : List String := ["NoneType", "bool", "int", "str", "tuple", "list", "dict"]
def kitT : List String := ["bool", "int", "str", "tuple", "list", "dict"]
def kitF (t T : String) : Option Bool := if t ∈ kitN ∧ T ∈ kitT then some (t == T || (t == "bool" && T == "int")) else none
def isiD (T : String) (d : D) : Option D := (tyD d).bind fun t => (kitF t T).map D.bl
def isiG (T : String) (f : FE) : FE := fun ds => (f ds).bind (isiD T)
def blsD : List D → Option (List Bool)
  | [] => some []
  | .bl b :: r => (blsD r).map fun bs => b :: bs
  | _ => none
def allD : List D → Option D
  | [.lst l] => (blsD l).map fun bs => .bl (bs.all id)
  | _ => none
def negD : D → Option D
  | .int i => some (.int (-i))
  | _ => none
def un1 (op : D → Option D) (f : FE) : FE := fun ds => (f ds).bind op
def flV (f : FE) : FE := fun ds => (f ds).bind fun d => if flat d = true then some d else none
def retDG (f : FE) : FS := fun ds => (f ds).map fun d => .rt (.val d)
def runG (g : FS) (n : Nat) : List D → Option Ret := fun ds => match g (args n ds) with
  | some (.rt r) => some r
  | some (.nx _) => some (.val .non)
  | _ => none
def CPowB (i j : Int) : Prop := 0 ≤ j ∧ (Builtin.Int.intBits i : Int) * j ≤ 2 ^ 27
mutual
def toPy : D → PyData
  | .non => .none
  | .bl b => .bool b
  | .int i => .int i
  | .str x => .str x
  | .tup ds => .tuple (toPys ds)
  | .lst ds => .list (toPys ds)
  | .dct _ _ => .none
  | .ins _ _ => .none
def toPys : List D → List PyData
  | [] => []
  | d :: r => toPy d :: toPys r
end
mutual
def shal : Nat → D → Bool
  | _, .non => true
  | _, .bl _ => true
  | _, .int _ => true
  | _, .str x => PyData.strOk x
  | n, .tup ds => shals n ds
  | n, .lst ds => shals n ds
  | _, .dct _ _ => false
  | _, .ins _ _ => false
def shals : Nat → List D → Bool
  | _, [] => true
  | 0, _ :: _ => false
  | n + 1, d :: r => shal n d && shals (n + 1) r
end
def eqvD (x y : D) : Bool := PyData.eqv (toPy x) (toPy y)
def eqvs (x y : List D) : Bool := PyData.eqvAll (toPys x) (toPys y)
def eqD (x y : D) : Option D := if shal 40 x = true ∧ shal 40 y = true then some (.bl (eqvD x y)) else none
def neD (x y : D) : Option D := if shal 40 x = true ∧ shal 40 y = true then some (.bl (!eqvD x y)) else none
def isD : D → D → Option D
  | .non, .non => some (.bl true)
  | _, .non => some (.bl false)
  | _, _ => none
def notD : D → D → Option D
  | .non, .non => some (.bl false)
  | _, .non => some (.bl true)
  | _, _ => none
def asLT : D → Option (List D)
  | .lst l => some l
  | .tup l => some l
  | _ => none
noncomputable instance mulOkD (i j : Int) : Decidable (IntMulOk i j) := Classical.propDecidable _
noncomputable instance powOkD (i j : Int) : Decidable (CPowB i j) := Classical.propDecidable _
noncomputable def mulD : D → D → Option D
  | .int i, .int j => if IntMulOk i j then some (.int (i * j)) else none
  | _, _ => none
noncomputable def powD : D → D → Option D
  | .int i, .int j => if CPowB i j then some (.int (i ^ j.toNat)) else none
  | _, _ => none
def catA (fa fb : FE) : FA := fun ds => (fa ds).bind fun x => (fb ds).bind fun y => match x, y with
  | .lst a, .lst b => if a.length + b.length ≤ sizeLine then some (a ++ b) else none
  | _, _ => none
def noP : List Sl → Option (Option Int) := fun _ => some none
def soP (f : FE) : List Sl → Option (Option Int) := fun ds => (f ds).bind fun d => match d with | .int i => some (some i) | _ => none
def cutD (l : List D) (lo hi : Option Int) : List D := (l.drop (HT.sIx l.length 0 lo)).take (HT.sIx l.length l.length hi - HT.sIx l.length 0 lo)
def sliA (f : FE) (lo hi : List Sl → Option (Option Int)) : FA := fun ds => (f ds).bind fun d => (lo ds).bind fun a => (hi ds).bind fun b => match d with
  | .lst l => some (cutD l a b)
  | _ => none
def lisA (f : FE) : FA := fun ds => (f ds).bind asLT
def mxD : List D → Option D
  | [.int i, .int j] => some (.int (if j > i then j else i))
  | _ => none
def mnD : List D → Option D
  | [.int i, .int j] => some (.int (if j < i then j else i))
  | _ => none
def absD : List D → Option D
  | [.int i] => some (.int (if i < 0 then -i else i))
  | _ => none
def truD : D → Option Bool
  | .non => some false
  | .bl b => some b
  | .int i => some (i != 0)
  | .str x => if x.length ≤ sizeLine then some ((x.length : Int) != 0) else none
  | .tup l => some (!l.isEmpty)
  | .lst l => some (!l.isEmpty)
  | _ => none
def testT (f : FE) : FT := fun ds => (f ds).bind truD
def relS (i : Nat) (ds : List Sl) : List Sl := match ds[i]? with | some (.own l) => ds.set i (.v (.lst l)) | _ => ds
def asgG (ga : D → List Sl → Option (List Sl)) (f : FE) : FS := fun ds => (f ds).bind fun d => (ga d ds).map .nx
def extG (i : Nat) (fe : FA) : FS := fun ds => match ds[i]? with
  | some (.own l) => (fe ds).bind fun d => if l.length + d.length ≤ sizeLine then some (.nx (ds.set i (.own (l ++ d)))) else none
  | _ => none
def clrG (i : Nat) : FS := fun ds => match ds[i]? with
  | some (.own l) => some (.nx (ds.set i (.own [])))
  | _ => none
def anyD : List D → Option D
  | [.lst l] => (blsD l).map fun bs => .bl (bs.any id)
  | _ => none
def ltD : D → D → Option D := cmpI fun i j => decide (i < j)
def leD : D → D → Option D := cmpI fun i j => decide (i ≤ j)
def gtD : D → D → Option D := cmpI fun i j => decide (j < i)
def geD : D → D → Option D := cmpI fun i j => decide (j ≤ i)
noncomputable def rng2 (fa fb : FE) : FA := fun ds => (fa ds).bind fun x => (fb ds).bind fun y => match x, y with
  | .int i, .int j => if okR i ∧ okR j then some (rangeD i (j - i).toNat) else none
  | _, _ => none
def range3D (lo c : Int) (n : Nat) : List D := (List.range n).map fun (k : Nat) => D.int (lo + (k : Int) * c)
def steps3 (i j c : Int) : Nat := if i < j then ((j - i - 1) / c + 1).toNat else 0
def okR3 (i j c : Int) : Prop := -(2 ^ 61) ≤ i ∧ i < 2 ^ 61 ∧ -(2 ^ 61) ≤ j ∧ j < 2 ^ 61 ∧ 0 < c ∧ c < 1000000
noncomputable instance okR3D (i j c : Int) : Decidable (okR3 i j c) := Classical.propDecidable _
noncomputable def rng3 (fa fb fc : FE) : FA := fun ds => (fa ds).bind fun x => (fb ds).bind fun y => (fc ds).bind fun z => match x, y, z with
  | .int i, .int j, .int c => if okR3 i j c then some (range3D i c (steps3 i j c)) else none
  | _, _, _ => none
def revA (f : FE) : FA := fun ds => (f ds).bind fun d => match d with
  | .lst l => some l.reverse
  | _ => none
def augA (i : Nat) (f : FE) : FS := fun ds => (getV i ds).bind fun x => (f ds).bind fun y => match x, y with
  | .int a, .int b => some (.nx (ds.set i (.v (.int (a + b)))))
  | _, _ => none
def parG (i j : Nat) (f : FA) : FS := fun ds => (f ds).bind fun l => match l with
  | [a, b] => some (.nx ((ds.set i (.v a)).set j (.v b)))
  | _ => none
def int1D : List D → Option D
  | [.int i] => some (.int i)
  | [.bl b] => some (.int (if b then 1 else 0))
  | _ => none
end FL

namespace FL
open PySem PyProof.Rows L2
/-! more functions: pure -/
/-! x in a list, list.index: items by value -/
/-! x is True, x is not True (False too); a new list times an int -/
def repF (f : FA) (g : FE) : FA := fun ds => (f ds).bind fun l => (g ds).bind fun y => match y with
  | .int k => if 0 ≤ k ∧ k ≤ 1000 ∧ l.length * k.toNat ≤ sizeLine then some (List.replicate k.toNat l).flatten else none
  | _ => none
/-! min, sum of a list of ints -/
end FL
namespace FL
open PySem PyProof.Rows L2
/-! objects of own classes: a field, a method by the object's class, one that is made -/
def fldD (ix : List (Nat × Nat)) : D → Option D
  | .ins t ds => (ix.lookup t).bind fun i => ds[i]?
  | _ => none
def fldG (ix : List (Nat × Nat)) (f : FE) : FE := fun ds => (f ds).bind (fldD ix)
def methR (n : Nat) (cs : List Nat) (F : Nat → List D → Option Ret) (o : D) (l : List D) : Option Ret := match o with
  | .ins t es => if t ∈ cs ∧ l.length = n then F t (.ins t es :: l) else none
  | _ => none
def methV (n : Nat) (cs : List Nat) (F : Nat → List D → Option Ret) (fo : FE) (g : FA) : FE := fun ds => (fo ds).bind fun o => (g ds).bind fun l => (methR n cs F o l).bind retV
def methF (n : Nat) (cs : List Nat) (F : Nat → List D → Option Ret) (fo : FE) (g : FA) : FA := fun ds => (fo ds).bind fun o => (g ds).bind fun l => (methR n cs F o l).bind retF
def makeG (t n : Nat) (G : List D → Option (List D)) (g : FA) : FE := fun ds => (g ds).bind fun l => if l.length = n ∧ flats l = true then (G l).map (D.ins t) else none
/-! what an __init__ lays down -/
abbrev FN := List Sl → Option (List D)
def seqN (f g : FN) : FN := fun ds => (f ds).bind fun a => (g ds).map fun b => a ++ b
def fldN (f : FE) : FN := fun ds => (f ds).bind fun d => if flat d = true then some [d] else none
def dropN (f : FE) : FN := fun ds => (f ds).map fun _ => []
def supN (G : List D → Option (List D)) : FN := fun _ => G []
def argsN (n : Nat) (ds : List D) : List Sl := Sl.no :: (ds.map Sl.v ++ List.replicate (n - (ds.length + 1)) Sl.no)
def runN (g : FN) (n : Nat) : List D → Option (List D) := fun ds => (g (argsN n ds)).bind fun new => if flats new = true then some new else none
/-! isinstance of an object and an own class -/
def isoD (tb : List (Nat × Bool)) : D → Option D
  | .ins t _ => (tb.lookup t).map D.bl
  | _ => none
end FL
namespace FL
open PySem PyProof.Rows L2
end FL

/-! ### what raises, as functions of the slots -/
namespace FL
open PySem
def ifX (c : FT) (a b : List Sl → Bool) : List Sl → Bool := fun ds => match c ds with
  | some true => a ds
  | some false => b ds
  | none => false
def neverX : List Sl → Bool := fun _ => false
def alwaysX : List Sl → Bool := fun _ => true
def seqX (f : FS) (x : List Sl → Bool) : List Sl → Bool := fun ds => match f ds with
  | some (.nx ds') => x ds'
  | _ => false
def callX (n : Nat) (R : List D → Bool) (g : FA) : List Sl → Bool := fun ds => match g ds with
  | some l => decide (l.length = n) && R l
  | none => false
def runX (x : List Sl → Bool) (n : Nat) : List D → Bool := fun ds => x (args n ds)
def dropG (f : FE) : FS := fun ds => (f ds).map fun _ => .nx ds
def goneO (i : Nat) : Out → Out
  | .nx ds => .nx (ds.set i .no)
  | .bk ds => .bk (ds.set i .no)
  | .ct ds => .ct (ds.set i .no)
  | .rt r => .rt r
def isxG (i : Nat) (tb : List (Nat × Bool)) : FE := fun ds => match ds[i]? with
  | some (.exc t) => (tb.lookup t).map D.bl
  | _ => none
def keepS : Sl → Sl
  | .no => .no
  | .v d => if flat d = true then .v d else .no
  | .own l => if flats l = true then .own l else .no
  | .exc t => .exc t
  | .fr _ => .no
def orX (a b : List Sl → Bool) : List Sl → Bool := fun ds => a ds || b ds
def tryG2 (i t u : Nat) (g : FS) (x y : List Sl → Bool) (h : FS) : FS := fun ds => if x ds = true then (h (ds.set i (.exc t))).map (goneO i) else if y ds = true then (h (ds.set i (.exc u))).map (goneO i) else g ds
def runXN (x : List Sl → Bool) (n : Nat) : List D → Bool := fun ds => x (argsN n ds)
def argsE (n t : Nat) : List Sl := .exc t :: List.replicate (n - 1) .no
def runH (g : FS) (n : Nat) : Nat → Option Ret := fun t => match g (argsE n t) with
  | some (.rt r) => some r
  | _ => none
def callHF (i : Nat) (F : Nat → Option Ret) : List Sl → Option (List D) := fun ds => match ds[i]? with
  | some (.exc t) => (F t).bind retF
  | _ => none
end FL

/-! THE HAND LAYER, for ints, bools, texts, own classes, LISTS and tuples (index, slices, in, append, pop ..), calls, loops. Paste it whole ahead of your own text; what your proof does not reach may be deleted. -/
namespace L2
open PySem PySem.Spec PyProof.Rows

def keyIs : Key → Value → Bool
  | .inl k, v => Value.isInt k v
  | .inr x, v => Value.isStrOf x v
def keyH (w : World) : Key → Int
  | .inl k => hashInt k
  | .inr x => hashStr w x
theorem keyIs_shape : ∀ {k : Key} {v : Value}, keyIs k v = true → (∃ i t, k = Sum.inl i ∧ v = Value.int i t) ∨ (∃ x t, k = Sum.inr x ∧ v = Value.str x t)
  | .inl i, v, h => by
    obtain ⟨t, e⟩ := Value.isInt_shape (k := i) (v := v) h
    exact .inl ⟨i, t, rfl, e⟩
  | .inr x, v, h => by
    obtain ⟨t, e⟩ := Value.isStrOf_shape (x := x) (v := v) h
    exact .inr ⟨x, t, rfl, e⟩
theorem key_ll (a b : Int) : decide ((Sum.inl a : Key) = Sum.inl b) = (a == b) := by
  by_cases e : a = b
  · subst e; simp
  · have h : ¬ (Sum.inl a : Key) = Sum.inl b := fun q => e (Sum.inl.inj q)
    rw [decide_eq_false h]
    exact (beq_eq_false_iff_ne.mpr e).symm
theorem key_rr (a b : Str) : decide ((Sum.inr a : Key) = Sum.inr b) = decide (a = b) := by
  by_cases e : a = b
  · subst e; simp
  · have h : ¬ (Sum.inr a : Key) = Sum.inr b := fun q => e (Sum.inr.inj q)
    rw [decide_eq_false h, decide_eq_false e]
theorem key_lr (a : Int) (b : Str) : decide ((Sum.inl a : Key) = Sum.inr b) = false := decide_eq_false (fun q => nomatch q)
theorem key_rl (a : Str) (b : Int) : decide ((Sum.inr a : Key) = Sum.inl b) = false := decide_eq_false (fun q => nomatch q)

def mixKind (prog : Program) (w : World) : PySem.KeyKind prog w Key where
  is := keyIs
  hash := keyH w
  inj := fun v a b ha hb => by
    rcases keyIs_shape ha with ⟨i, t, rfl, rfl⟩ | ⟨x, t, rfl, rfl⟩
    · rcases keyIs_shape hb with ⟨j, u, rfl, e⟩ | ⟨y, u, rfl, e⟩
      · injection e with e1 _; rw [e1]
      · exact nomatch e
    · rcases keyIs_shape hb with ⟨j, u, rfl, e⟩ | ⟨y, u, rfl, e⟩
      · exact nomatch e
      · injection e with e1 _; rw [e1]
  byValue := fun k v h => by
    rcases keyIs_shape h with ⟨i, t, rfl, rfl⟩ | ⟨x, t, rfl, rfl⟩ <;> rfl
  pyHash := fun hv h => by
    rcases keyIs_shape hv with ⟨i, t, rfl, rfl⟩ | ⟨x, t, rfl, rfl⟩
    · exact wpAny_pyHash_int h
    · exact wpAny_pyHash_str h
  eqBool := fun hu hv h => by
    rcases keyIs_shape hu with ⟨i, t, rfl, rfl⟩ | ⟨x, t, rfl, rfl⟩
    · rcases keyIs_shape hv with ⟨j, u, rfl, rfl⟩ | ⟨y, u, rfl, rfl⟩
      · rw [key_ll] at h; exact wpAny_eqBool_int h
      · rw [key_lr] at h; exact SeqAt.EqAt.int_str i t y u _ _ _ _ h
    · rcases keyIs_shape hv with ⟨j, u, rfl, rfl⟩ | ⟨y, u, rfl, rfl⟩
      · rw [key_rl] at h; exact SeqAt.EqAt.str_int x t j u _ _ _ _ h
      · rw [key_rr] at h; exact wpAny_eqBool_str h
  «strs» := fun k x t v h => by
    rcases keyIs_shape h with ⟨i, u, rfl, e⟩ | ⟨y, u, rfl, e⟩
    · exact nomatch e
    · injection e with e1 _
      subst e1
      cases v <;> rfl

end L2

namespace L2
open PySem PySem.Spec PyProof.Rows

inductive V where
  | non | bl (b : Bool) | int (i : Int) | str (x : Str) | byt (b : Array UInt8) | flt (b : UInt64) | ref (a : Addr) | ty (n : String)
  deriving DecidableEq

def RelV : V → Value → Prop
  | .non, u => u = Value.none
  | .bl b, u => u = Value.bool b
  | .int i, u => ∃ t, u = Value.int i t
  | .str x, u => ∃ t, u = Value.str x t
  | .byt b, u => ∃ t, u = Value.bytes b t
  | .flt b, u => ∃ t, u = Value.float b t
  | .ref a, u => u = Value.ref a
  | .ty n, u => u = Value.type n

abbrev Vals : List V → List Value → Prop := Paired RelV
theorem Vals.length {xs : List V} {us : List Value} (r : Vals xs us) : xs.length = us.length := Paired.length r
theorem Vals.get : ∀ {xs : List V} {us : List Value} {i : Nat} {x : V}, Vals xs us → xs[i]? = some x → ∃ u, us[i]? = some u ∧ RelV x u
  | _, _, _, _, .nil, e => by simp at e
  | _, _, 0, _, .cons r _, e => by simp at e; subst e; exact ⟨_, rfl, r⟩
  | _, _, i + 1, x, .cons _ t, e => by
    obtain ⟨u, h1, h2⟩ := Vals.get (i := i) (x := x) t (by simpa using e)
    exact ⟨u, by simpa using h1, h2⟩
theorem Vals.set {x : V} {u : Value} (r : RelV x u) : ∀ {xs : List V} {us : List Value} (i : Nat), Vals xs us → Vals (xs.set i x) (us.set i u)
  | _, _, _, .nil => .nil
  | _, _, 0, .cons _ t => .cons r t
  | _, _, i + 1, .cons q t => .cons q (Vals.set r i t)
theorem Vals.append : ∀ {xs ys : List V} {us ws : List Value}, Vals xs us → Vals ys ws → Vals (xs ++ ys) (us ++ ws)
  | _, _, _, _, .nil, s => s
  | _, _, _, _, .cons r t, s => .cons r (Vals.append t s)
theorem Vals.take : ∀ {xs : List V} {us : List Value} (n : Nat), Vals xs us → Vals (xs.take n) (us.take n)
  | _, _, 0, _ => .nil
  | _, _, _ + 1, .nil => .nil
  | _, _, n + 1, .cons r t => .cons r (Vals.take n t)
theorem Vals.drop : ∀ {xs : List V} {us : List Value} (n : Nat), Vals xs us → Vals (xs.drop n) (us.drop n)
  | _, _, 0, r => r
  | _, _, _ + 1, .nil => .nil
  | _, _, n + 1, .cons _ t => Vals.drop n t
theorem Vals.none_of : ∀ {xs : List V} {us : List Value} {i : Nat}, Vals xs us → xs[i]? = none → us[i]? = none := fun {xs us i} r e => by
  have h1 := r.length
  have h2 : xs.length ≤ i := List.getElem?_eq_none_iff.mp e
  exact List.getElem?_eq_none_iff.mpr (by omega)

def RelO : Option V → Option Value → Prop
  | some v, some u => RelV v u
  | none, none => True
  | _, _ => False
def KV {κ : Type} : List (κ × V) → List (κ × Value) → Prop := Paired fun (p : κ × V) (q : κ × Value) => p.1 = q.1 ∧ RelV p.2 q.2

def kV : Key → V
  | .inl i => .int i
  | .inr x => .str x

inductive HO where
  /-- a list -/
  | lst (xs : List V)
  /-- a tuple (never changes) -/
  | tup (xs : List V)
  /-- a dict whose keys are ints and texts; one whose keys are tuples of ints and texts (the empty one is both) -/
  | dK (kvs : List (Key × V)) | dT (kvs : List (List Key × V))
  /-- a set of ints: its members, its size -/
  | set (S : Int → Bool) (n : Nat)
  /-- an instance of the class at C, its dict at dx, its attributes -/
  | ins (C dx : Addr) (fs : List (Str × V))
  /-- the dict of the instance at x -/
  | own (x : Addr)
  /-- the dict of an exception -/
  | xd (fs : List (Str × V))
  /-- a bound method, f of x -/
  | met (f x : Addr)
  /-- a range object lo, lo + 1, .. below hi -/
  | rng (lo hi : Int)
  /-- a thing that is known to the object (the script; a dict while a loop walks it): read, never written while it is so -/
  | frz (o : Obj) (u : HO)
  /-- a code object's table -/
  | tbl (ps : Array Value)
  /-- any other thing, by what is true of its one object (a def of one's own: SetO a S n := HO.ext fun h => ..) -/
  | ext (φ : Heap → Prop)

abbrev Hp := Addr → Option HO
def upd (H : Hp) (a : Addr) (o : HO) : Hp := fun b => if b = a then some o else H b
theorem upd_same {H : Hp} {a : Addr} {o : HO} : upd H a o a = some o := by unfold upd; rw [if_pos rfl]
theorem upd_ne {H : Hp} {a b : Addr} {o : HO} (h : b ≠ a) : upd H a o b = H b := by unfold upd; rw [if_neg h]
theorem ne_of_none {H : Hp} {a b : Addr} {o : HO} (h : H a = some o) (h' : H b = none) : a ≠ b := by
  intro e; subst e; rw [h] at h'; cases h'

section
variable (P : Program) (w : World)
def ObjOk (H : Hp) (h : Heap) (a : Addr) : HO → Prop
  | .lst xs => xs.length ≤ sizeLine ∧ ∃ (its : List Value) (n : Nat), Vals xs its ∧ h.get? a = some { cls := .type "list", data := .seq its.toArray n }
  | .tup xs => xs.length ≤ sizeLine ∧ ∃ its : List Value, Vals xs its ∧ IsTup h a its.toArray
  | .dK kvs => kvs.length ≤ sizeLine ∧ (a == sysModules) = false ∧ ∃ vs, KV kvs vs ∧ h.DictOf (mixKind P w) a vs
  | .dT kvs => kvs.length ≤ sizeLine ∧ (a == sysModules) = false ∧ ∃ xs : List (List Key × Addr × Value),
      Paired (fun (p : List Key × V) (q : List Key × Addr × Value) => p.1 = q.1 ∧ H q.2.1 = some (.tup (p.1.map kV)) ∧ RelV p.2 q.2.2) kvs xs ∧
      ∃ o es ep, h.get? a = some o ∧ o.ExactDict ∧ o.data = .dict es ep ∧ es.toList = xs.map (entryOfKey (tupleKind (mixKind P w))) ∧ (xs.map (·.1)).Nodup
  | .set S n => h.SetOf (intKind P w) a S n
  | .ins C dx fs => H dx = some (.own a) ∧ fs.length ≤ 1000 ∧ dx ≠ a ∧ h.get? a = some (PySem.W.instObj C dx) ∧
      ∃ mA, h.Ns1 dx mA ∧ (∀ f, RelO (fs.lookup f) (mA f)) ∧ PySem.Within mA (fs.map (·.1))
  | .own _ => ∃ o, h.get? a = some o
  | .xd fs => ∃ mA, h.Ns1 a mA ∧ ∀ f, RelO (fs.lookup f) (mA f)
  | .rng lo hi => ∃ t u v, h.get? a = some { cls := .type "range", data := .fields #[.int lo t, .int hi u, .int 1 v] }
  | .frz o u => h.get? a = some o ∧ ObjOk H h a u
  | .tbl ps => h.get? a = some { cls := .none, data := .fields ps }
  | .met f x => h.get? a = some (PySem.W.methodObj (.ref f) (.ref x))
  | .ext φ => φ h ∧ (∃ o, h.get? a = some o) ∧ ∀ h1 h2 : Heap, φ h1 → (∀ o, h1.get? a = some o → h2.get? a = some o) → φ h2
def HOk (H : Hp) (h : Heap) : Prop := ∀ a o, H a = some o → ObjOk P w H h a o
end

section
variable {P : Program} {w : World} {H H' : Hp} {h h' : Heap} {a : Addr} {o : HO}
theorem ObjOk.lt (x : ObjOk P w H h a o) : a < h.objs.size := by
  cases o with
  | lst xs => obtain ⟨_, _, _, _, e⟩ := x; exact Heap.lt_size e
  | tup xs => obtain ⟨_, _, _, p⟩ := x; exact p.lt
  | dK kvs => obtain ⟨_, _, _, _, o, _, _, e, _⟩ := x; exact Heap.lt_size e
  | dT kvs => obtain ⟨_, _, _, _, o, _, _, e, _⟩ := x; exact Heap.lt_size e
  | set S n => obtain ⟨o, _, _, _, e, _⟩ := x; exact Heap.lt_size e
  | ins C dx fs => obtain ⟨_, _, _, e, _⟩ := x; exact Heap.lt_size e
  | own y => obtain ⟨_, e⟩ := x; exact Heap.lt_size e
  | xd fs => obtain ⟨_, ⟨_, _, _, e, _⟩, _⟩ := x; exact Heap.lt_size e
  | rng lo hi => obtain ⟨_, _, _, e⟩ := x; exact Heap.lt_size e
  | frz ob u => obtain ⟨e, _⟩ := x; exact Heap.lt_size e
  | tbl ps => exact Heap.lt_size (show h.get? a = some _ from x)
  | met f y => exact Heap.lt_size (show h.get? a = some _ from x)
  | ext φ => obtain ⟨_, ⟨_, e⟩, _⟩ := x; exact Heap.lt_size e
theorem Paired.mapP {α β : Type} {F G : α → β → Prop} : ∀ {l₁ : List α} {l₂ : List β}, Paired F l₁ l₂ → (∀ a b, F a b → G a b) → Paired G l₁ l₂
  | _, _, .nil, _ => .nil
  | _, _, .cons r t, f => .cons (f _ _ r) (Paired.mapP t f)
theorem ObjOk.stay (x : ObjOk P w H h a o) (k : ∀ b u, (b = a ∨ H b = some (.own a)) → h.get? b = some u → h'.get? b = some u)
    (ho : ∀ b, H b = some (.own a) → H' b = some (.own a)) (ht : ∀ b xs, H b = some (.tup xs) → H' b = some (.tup xs)) : ObjOk P w H' h' a o := by
  induction o with
  | lst xs => obtain ⟨z, its, n, r, e⟩ := x; exact ⟨z, its, n, r, k _ _ (.inl rfl) e⟩
  | tup xs => obtain ⟨z, its, r, ob, e, c⟩ := x; exact ⟨z, its, r, ob, k _ _ (.inl rfl) e, c⟩
  | dK kvs => obtain ⟨z, y, vs, r, ob, es, ep, e, c⟩ := x; exact ⟨z, y, vs, r, ob, es, ep, k _ _ (.inl rfl) e, c⟩
  | dT kvs =>
    obtain ⟨z, y, xs, r, ob, es, ep, e, c⟩ := x
    exact ⟨z, y, xs, Paired.mapP r fun p q z => ⟨z.1, ht _ _ z.2.1, z.2.2⟩, ob, es, ep, k _ _ (.inl rfl) e, c⟩
  | set S n => obtain ⟨ob, es, ep, t, e, c⟩ := x; exact ⟨ob, es, ep, t, k _ _ (.inl rfl) e, c⟩
  | ins C dx fs =>
    obtain ⟨d, z, ne, e, mA, ⟨od, es, ep, e2, c⟩, r⟩ := x
    exact ⟨ho _ d, z, ne, k _ _ (.inl rfl) e, mA, ⟨od, es, ep, k _ _ (.inr d) e2, c⟩, r⟩
  | own y => obtain ⟨ob, e⟩ := x; exact ⟨ob, k _ _ (.inl rfl) e⟩
  | xd fs => obtain ⟨mA, ⟨od, es, ep, e, c⟩, r⟩ := x; exact ⟨mA, ⟨od, es, ep, k _ _ (.inl rfl) e, c⟩, r⟩
  | rng lo hi => obtain ⟨t, u, v, e⟩ := x; exact ⟨t, u, v, k _ _ (.inl rfl) e⟩
  | frz ob u ih => obtain ⟨e, q⟩ := x; exact ⟨k _ _ (.inl rfl) e, ih q⟩
  | tbl ps =>
    have e : h.get? a = some { cls := .none, data := .fields ps } := x
    show h'.get? a = some { cls := .none, data := .fields ps }
    exact k a _ (.inl rfl) e
  | met f y =>
    have e : h.get? a = some (PySem.W.methodObj (.ref f) (.ref y)) := x
    show h'.get? a = some (PySem.W.methodObj (.ref f) (.ref y))
    exact k a _ (.inl rfl) e
  | ext φ => obtain ⟨p, ⟨o, e⟩, st⟩ := x; exact ⟨st _ _ p fun o q => k _ _ (.inl rfl) q, ⟨o, k _ _ (.inl rfl) e⟩, st⟩
theorem HOk.lt (x : HOk P w H h) (e : H a = some o) : a < h.objs.size := (x a o e).lt
theorem HOk.fresh (x : HOk P w H h) (e : h.objs.size ≤ a) : H a = none := by
  cases q : H a with
  | none => rfl
  | some u => exact absurd (Nat.lt_of_lt_of_le (x.lt q) e) (Nat.lt_irrefl _)
theorem HOk.kept (x : HOk P w H h) (k : ∀ b u, h.get? b = some u → h'.get? b = some u) : HOk P w H h' := fun a o e =>
  (x a o e).stay (fun b u _ q => k b u q) (fun _ q => q) fun _ _ q => q
theorem HOk.laid (x : HOk P w H h) (k : ∀ b u, h.get? b = some u → h'.get? b = some u) (hp : h.objs.size ≤ a) (new : ObjOk P w (upd H a o) h' a o) : HOk P w (upd H a o) h' := fun b u e => by
  have hn := x.fresh hp
  by_cases hb : b = a
  · subst hb; rw [upd_same] at e; cases e; exact new
  · rw [upd_ne hb] at e
    exact (x b u e).stay (fun c v _ q => k c v q) (fun c q => by rw [upd_ne (ne_of_none q hn)]; exact q) fun c xs q => by rw [upd_ne (ne_of_none q hn)]; exact q
end

def Rd (H : Hp) (a : Addr) (u : HO) : Prop := H a = some u ∨ ∃ o, H a = some (.frz o u)
theorem Rd.of {H : Hp} {a : Addr} {u : HO} (h : H a = some u) : Rd H a u := .inl h
theorem Rd.ok {P : Program} {w : World} {H : Hp} {h : Heap} {a : Addr} {u : HO} (r : Rd H a u) (x : HOk P w H h) : ObjOk P w H h a u := by
  rcases r with r | ⟨o, r⟩
  · exact x a u r
  · obtain ⟨_, q⟩ := x a _ r
    exact q
def Mut : Option HO → Prop
  | some (.lst _) => True
  | some (.dK _) => True
  | some (.dT _) => True
  | some (.set _ _) => True
  | some (.ins _ _ _) => True
  | some (.ext _) => True
  | _ => False
section
variable {P : Program} {w : World} {H : Hp} {h h' : Heap} {x e : Addr} {o' : HO}
theorem HOk.write (ok : HOk P w H h) (mu : Mut (H x)) (he : e = x ∨ H e = some (.own x)) (k : ∀ b u, b ≠ e → h.get? b = some u → h'.get? b = some u) (heo : ∃ u, h'.get? e = some u)
    (new : ObjOk P w (upd H x o') h' x o') : HOk P w (upd H x o') h' := fun b u q => by
  have nown : ∀ c y, H c = some (.own y) → c ≠ x := fun c y r z => by subst z; rw [r] at mu; exact mu
  have ntup : ∀ c xs, H c = some (.tup xs) → c ≠ x := fun c xs r z => by subst z; rw [r] at mu; exact mu
  by_cases hb : b = x
  · subst hb; rw [upd_same] at q; cases q; exact new
  · rw [upd_ne hb] at q
    by_cases hbe : b = e
    · have q' : H b = some (.own x) := by
        rcases he with z | z
        · exact absurd (hbe.trans z) hb
        · rw [hbe]; exact z
      rw [q] at q'; cases q'
      obtain ⟨v, hv⟩ := heo
      exact ⟨v, by rw [hbe]; exact hv⟩
    · refine (ok b u q).stay (fun c v hc r => k c v ?_ r) (fun c r => by rw [upd_ne (nown c b r)]; exact r) fun c xs r => by rw [upd_ne (ntup c xs r)]; exact r
      rcases hc with rfl | hc
      · exact hbe
      · rintro rfl
        rcases he with z | z
        · exact nown c b hc z
        · rw [hc] at z; cases z; exact hb rfl
end

/-! ### kept unless tracked; of the frames at fs (the callers') the slots may change (an exception that passes writes there); of the records at ex (iterators) nothing is said -/
structure Un (fs ex : List Addr) (H H' : Hp) (h h' : Heap) : Prop where
  keep : ∀ b o, h.get? b = some o → H b = none → b ∉ fs → b ∉ ex → h'.get? b = some o
  slot : ∀ b o, h.get? b = some o → H b = none → b ∈ fs → b ∉ ex → ∃ sl, h'.get? b = some { o with slots := sl }
  free : ∀ b o, h.get? b = some o → H b = none → b ∉ ex → H' b = none
  there : ∀ b o, h.get? b = some o → b ∉ ex → ∃ o', h'.get? b = some o'
  tups : ∀ b xs, H b = some (.tup xs) → H' b = some (.tup xs)
  frzs : ∀ b o u, H b = some (.frz o u) → H' b = some (.frz o u)
  tbls : ∀ b ps, H b = some (.tbl ps) → ∃ more, H' b = some (.tbl (ps ++ more))
section
variable {fs fs' ex ex' : List Addr} {H H1 H2 : Hp} {h h1 h2 h' : Heap} {a x e : Addr} {o : HO}
theorem Un.any (u : Un fs ex H H1 h h1) {b : Addr} {ob : Obj} (q : h.get? b = some ob) (n : H b = none) (hx : b ∉ ex) : ∃ sl, h1.get? b = some { ob with slots := sl } := by
  by_cases hb : b ∈ fs
  · exact u.slot b ob q n hb hx
  · exact ⟨ob.slots, u.keep b ob q n hb hx⟩
theorem Un.trans (a : Un fs ex H H1 h h1) (b : Un fs ex H1 H2 h1 h2) : Un fs ex H H2 h h2 where
  keep := fun c ob q n hc hx => b.keep c ob (a.keep c ob q n hc hx) (a.free c ob q n hx) hc hx
  slot := fun c ob q n hc hx => by
    obtain ⟨sl, e1⟩ := a.slot c ob q n hc hx
    obtain ⟨sl', e2⟩ := b.slot c _ e1 (a.free c ob q n hx) hc hx
    exact ⟨sl', e2⟩
  free := fun c ob q n hx => by
    obtain ⟨o', e1⟩ := a.there c ob q hx
    exact b.free c o' e1 (a.free c ob q n hx) hx
  there := fun c ob q hx => by
    obtain ⟨o', e1⟩ := a.there c ob q hx
    exact b.there c o' e1 hx
  tups := fun c xs q => b.tups c xs (a.tups c xs q)
  frzs := fun c ob xs q => b.frzs c ob xs (a.frzs c ob xs q)
  tbls := fun c ps q => by
    obtain ⟨m1, e1⟩ := a.tbls c ps q
    obtain ⟨m2, e2⟩ := b.tbls c _ e1
    exact ⟨m1 ++ m2, by rw [e2, Array.append_assoc]⟩
theorem Un.kept (k : ∀ b u, h.get? b = some u → h'.get? b = some u) : Un fs ex H H h h' :=
  ⟨fun b ob q _ _ _ => k b ob q, fun b ob q _ _ _ => ⟨ob.slots, k b ob q⟩, fun _ _ _ n _ => n, fun b ob q _ => ⟨ob, k b ob q⟩, fun _ _ q => q, fun _ _ _ q => q, fun _ ps q => ⟨#[], by rw [q]; simp⟩⟩
theorem Un.refl : Un fs ex H H h h := Un.kept fun _ _ q => q
theorem Un.laid (k : ∀ b u, h.get? b = some u → h'.get? b = some u) (hp : h.objs.size ≤ a) (hn : H a = none) : Un fs ex H (upd H a o) h h' where
  keep := fun b u q _ _ _ => k b u q
  slot := fun b u q _ _ _ => ⟨u.slots, k b u q⟩
  free := fun b u q n _ => by rw [upd_ne (Nat.ne_of_lt (Nat.lt_of_lt_of_le (Heap.lt_size q) hp))]; exact n
  there := fun b u q _ => ⟨u, k b u q⟩
  tups := fun b xs q => by rw [upd_ne (ne_of_none q hn)]; exact q
  frzs := fun b u xs q => by rw [upd_ne (ne_of_none q hn)]; exact q
  tbls := fun b ps q => ⟨#[], by rw [upd_ne (ne_of_none q hn), q]; simp⟩
theorem Un.write (mu : Mut (H x)) (he : e = x ∨ H e = some (.own x)) (k : ∀ b u, b ≠ e → h.get? b = some u → h'.get? b = some u) (heo : ∃ u, h'.get? e = some u) : Un fs ex H (upd H x o) h h' := by
  have hx : ∀ b, H b = none → b ≠ x := fun b n z => by subst z; rw [n] at mu; exact mu
  have hb : ∀ b, H b = none → b ≠ e := fun b n z => by
    subst z
    rcases he with r | r
    · exact hx b n r
    · rw [n] at r; cases r
  have hm : ∀ b u, H b = some u → ¬ Mut (some u) → b ≠ x := fun b u q nm z => by subst z; rw [q] at mu; exact nm mu
  refine ⟨fun b u q n _ _ => k b u (hb b n) q, fun b u q n _ _ => ⟨u.slots, k b u (hb b n) q⟩, fun b u q n _ => by rw [upd_ne (hx b n)]; exact n, fun b u q _ => ?_,
    fun b xs q => by rw [upd_ne (hm b _ q fun z => z)]; exact q, fun b u xs q => by rw [upd_ne (hm b _ q fun z => z)]; exact q, fun b ps q => ⟨#[], by rw [upd_ne (hm b _ q fun z => z), q]; simp⟩⟩
  by_cases hbe : b = e
  · subst hbe; exact heo
  · exact ⟨u, k b u hbe q⟩
theorem Un.mono (u : Un fs ex H H1 h h1) (hs : ∀ b ∈ fs, b ∈ fs') (hx : ∀ b ∈ ex, b ∈ ex') : Un fs' ex' H H1 h h1 :=
  ⟨fun b ob q n hb he => u.keep b ob q n (fun z => hb (hs b z)) fun z => he (hx b z), fun _ _ q n _ he => u.any q n fun z => he (hx _ z), fun b ob q n he => u.free b ob q n fun z => he (hx b z), fun b ob q he => u.there b ob q fun z => he (hx b z), u.tups, u.frzs, u.tbls⟩
end

/-! ### the heap without what is tracked -/
def trk (h : Heap) (H : Hp) : List Addr := (List.range h.objs.size).filter fun a => (H a).isSome
def hidT (h : Heap) (H : Hp) : Heap := PySem.W.hideAll h (trk h H)
theorem hidT_size (h : Heap) (H : Hp) : (hidT h H).objs.size = h.objs.size := PySem.W.hideAll_size _ _
theorem hidT_get {h : Heap} {H : Hp} {b : Addr} {o : Obj} (e : h.get? b = some o) (n : H b = none) : (hidT h H).get? b = some o :=
  PySem.W.hideAll_get _ e fun hm => by
    have q : (H b).isSome = true := (List.mem_filter.mp hm).2
    rw [n] at q; simp at q
theorem of_hidT {h : Heap} {H : Hp} {b : Addr} {o : Obj} (e : (hidT h H).get? b = some o) : h.get? b = some o ∧ H b = none := by
  have e' : h.get? b = some o := PySem.W.of_hideAll (trk h H) e
  refine ⟨e', ?_⟩
  cases q : H b with
  | none => rfl
  | some x =>
    have hm : b ∈ trk h H := List.mem_filter.mpr ⟨List.mem_range.mpr (Heap.lt_size e'), by simp [q]⟩
    have z : (hidT h H).get? b = none := PySem.W.hideAll_none (trk h H) hm
    rw [z] at e; cases e

/-! ### OpenK's ledger, filled with every new object but one -/
def allNews (g h : Heap) (L : Addr) : List (Addr × Obj) := (List.range h.objs.size).filterMap fun a => if a = L ∨ (g.get? a).isSome = true then none else (h.get? a).map fun o => (a, o)
def rest (g h : Heap) (L d : Addr) : List (Addr × Obj) := (allNews g h L).filter fun p => decide (p.1 ≠ d)
end L2

namespace L2
open PySem PySem.Spec PyProof.Rows

structure Mod (K : PySem.W.Frag) (mg : Str → Option Value) (base : Heap) : Prop where
  kin : K.In base
  glob : base.Ns mainGlobals mg
  blt : ∃ mb, base.Ns builtinsNs mb ∧ ∀ x : Str, x ≠ "__name__" → mb x = bootBuiltins x
  nolimit : base.NoLimit

structure Cx where
  prog : Program
  w : World
  K : PySem.W.Frag
  mg : Str → Option Value
  base : Heap
  A : Around
  N : List Str
  s₀ : Shared
  H₀ : Hp
  env : Env
  outer : List Env
  stack : List Env
  ex : List Addr
  fn : Str → Bool
  calm : Bool
  pn : List (Addr × Obj)
  xe : Value → Shared → Prop
def frs (l : List Env) : List Addr := l.filterMap (·.frame)
abbrev Cx.fs (X : Cx) : List Addr := frs X.outer

def Vis (sc : Scope) (x : Str) : Prop := sc.names.lookup x = some .local ∨ sc.names.lookup x = some .cell ∨ sc.names.lookup x = some .free
def Loc (sc : Scope) (x : Str) : Prop := sc.names.lookup x = some .local ∨ sc.names.lookup x = some .cell
def Look (env : Env) (h : Heap) (m : Str → Option Value) (x : Str) (u : Value) : Prop :=
  (env.kindOf x = some .local ∧ m x = some u) ∨ ((env.kindOf x = some .cell ∨ env.kindOf x = some .free) ∧ ∃ c, env.cells.lookup x = some c ∧ h.IsCell c (some u))

structure Cx.Ok (X : Cx) : Prop where
  mod : Mod X.K X.mg X.base
  kind : X.env.scope.kind = .function
  glob : X.env.globals = mainGlobals
  blt : X.env.builtins = builtinsNs
  above : X.s₀.heap.objs.size ≤ X.env.locals
  inj : ∀ x y c, X.env.cells.lookup x = some c → X.env.cells.lookup y = some c → x = y
  has : ∀ x, (X.env.kindOf x = some .cell ∨ X.env.kindOf x = some .free) → ∃ c, X.env.cells.lookup x = some c
  cab : ∀ x c, X.fn x = true → X.env.cells.lookup x = some c → X.s₀.heap.objs.size ≤ c
  hd : X.calm = true → X.A.handled = none
  frames : X.A.frames = some X.stack
  stk : X.stack = X.outer ∨ (X.stack = X.env :: X.outer ∧ X.env.frame = some X.env.locals)
  exf : ∀ b ∈ X.ex, b ≠ X.env.locals ∧ ∀ x c, X.env.cells.lookup x = some c → c ≠ b
  bs : ∀ b o, X.base.get? b = some o → X.s₀.heap.get? b = some o ∧ X.H₀ b = none
  bsz : X.base.objs.size ≤ X.s₀.heap.objs.size
  noex : ∀ b o, X.base.get? b = some o → b ∉ X.ex
  exfs : ∀ b ∈ X.ex, b ∉ X.fs
  funs : X.s₀.heap.FunFrames X.base X.outer
  frf : ∀ b ∈ X.fs, X.H₀ b = none

structure Inv (X : Cx) (pins : List (Addr × Obj)) (σ : List (Option V)) (H : Hp) (s : Shared) : Prop where
  ok : X.Ok
  os : s.os = X.s₀.os
  bare : AllBare s.gens
  base : Un X.fs X.ex X.H₀ H X.s₀.heap s.heap
  loc : ∃ m, s.heap.Ns X.env.locals m ∧ ∀ (i : Nat) (x : Str) (v : V), X.N[i]? = some x → σ[i]? = some (some v) → Vis X.env.scope x → ∃ u, RelV v u ∧ Look X.env s.heap m x u
  cell : ∀ x c, X.env.cells.lookup x = some c → ∃ v, s.heap.IsCell c v
  free : H X.env.locals = none
  freeC : ∀ x c, X.env.cells.lookup x = some c → H c = none
  pin : ∀ p ∈ X.pn ++ pins, s.heap.get? p.1 = some p.2 ∧ H p.1 = none ∧ p.1 ≠ X.env.locals ∧ p.1 ∉ X.fs ∧ ∀ v, p.2.data ≠ .cell v
  hok : HOk X.prog X.w H s.heap
  len : σ.length = X.N.length

section
variable {X : Cx} {pins : List (Addr × Obj)} {σ : List (Option V)} {H H' : Hp} {s : Shared} {h' : Heap}

theorem Cx.Ok.nofr (ok : X.Ok) {b : Addr} {o : Obj} (e : X.base.get? b = some o) : b ∉ X.fs := fun hb => by
  have := (ok.funs.mem hb).1
  rw [e] at this; cases this
theorem Inv.bs (I : Inv X pins σ H s) : ∀ b o, X.base.get? b = some o → s.heap.get? b = some o ∧ H b = none := fun b o e =>
  ⟨I.base.keep b o (I.ok.bs b o e).1 (I.ok.bs b o e).2 (I.ok.nofr e) (I.ok.noex b o e), I.base.free b o (I.ok.bs b o e).1 (I.ok.bs b o e).2 (I.ok.noex b o e)⟩
theorem Inv.bk (I : Inv X pins σ H s) : ∀ b o, X.base.get? b = some o → s.heap.get? b = some o := fun b o e => (I.bs b o e).1
theorem Inv.mod (I : Inv X pins σ H s) : Mod X.K X.mg X.base := I.ok.mod
theorem Inv.kIn (I : Inv X pins σ H s) : X.K.In s.heap := I.ok.mod.kin.keeps I.bk
theorem Inv.nolimit (I : Inv X pins σ H s) : s.heap.NoLimit := I.ok.mod.nolimit.keeps I.bk
theorem Inv.fr (I : Inv X pins σ H s) : ∃ m, Fr X.base X.env.locals s.heap m :=
  let ⟨m, hn, _⟩ := I.loc
  ⟨m, hn, I.bk, Nat.le_trans I.ok.bsz I.ok.above⟩
theorem Inv.lt (I : Inv X pins σ H s) : X.env.locals < s.heap.objs.size := let ⟨_, hn, _⟩ := I.loc; hn.lt
theorem Inv.sz (I : Inv X pins σ H s) : X.s₀.heap.objs.size ≤ s.heap.objs.size := Nat.le_trans I.ok.above (Nat.le_of_lt I.lt)
theorem Inv.nofs (I : Inv X pins σ H s) {a : Addr} (h : s.heap.objs.size ≤ a) : a ∉ X.fs := fun hb => by
  obtain ⟨_, o, ho, _⟩ := I.ok.funs.mem hb
  exact absurd (Nat.lt_of_lt_of_le (Heap.lt_size ho) (Nat.le_trans I.sz h)) (Nat.lt_irrefl _)
theorem Inv.cne (I : Inv X pins σ H s) : ∀ x c, X.env.cells.lookup x = some c → c ≠ X.env.locals := fun x c e z => by
  obtain ⟨v, o, ho, hd⟩ := I.cell x c e
  obtain ⟨m, ⟨o', es, ep, ho', hd', _⟩, _⟩ := I.loc
  rw [z, ho'] at ho; cases ho; rw [hd'] at hd; cases hd
theorem Inv.funs (I : Inv X pins σ H s) : s.heap.FunFrames X.base X.outer := by
  have all : ∀ (l : List Env), (∀ b ∈ frs l, b ∈ X.fs) → X.s₀.heap.FunFrames X.base l → s.heap.FunFrames X.base l := by
    intro l
    induction l with
    | nil => intro _ _; trivial
    | cons env r ih =>
      intro hs hl
      obtain ⟨hk, ⟨L, o, hf, hn, ho, hd⟩, hr⟩ := hl
      have hL : L ∈ X.fs := hs L (by unfold frs; rw [List.filterMap_cons, hf]; exact List.mem_cons_self)
      obtain ⟨sl, e⟩ := I.base.slot L o ho (I.ok.frf L hL) hL fun z => I.ok.exfs L z hL
      exact ⟨hk, ⟨L, _, hf, hn, e, hd⟩, ih (fun b hb => hs b (by unfold frs; rw [List.filterMap_cons, hf]; exact List.mem_cons_of_mem _ hb)) hr⟩
  exact all X.outer (fun _ hb => hb) I.ok.funs

theorem Inv.stack (I : Inv X pins σ H s) : s.heap.FunFrames X.base X.stack := by
  rcases I.ok.stk with e | ⟨e, hf⟩
  · rw [e]; exact I.funs
  · rw [e]
    obtain ⟨m, hn, _⟩ := I.loc
    refine .cons (by rw [I.ok.kind]; decide) hf hn ?_ I.funs
    exact Heap.get?_none_of_le (Nat.le_trans I.ok.bsz I.ok.above)
theorem Inv.stkSub (I : Inv X pins σ H s) : ∀ b ∈ frs X.stack, b ∈ X.env.locals :: X.fs := fun b hb => by
  rcases I.ok.stk with e | ⟨e, hf⟩
  · rw [e] at hb; exact List.mem_cons_of_mem _ hb
  · rw [e] at hb
    unfold frs at hb
    rw [List.filterMap_cons, hf] at hb
    exact hb
theorem Inv.stkFree (I : Inv X pins σ H s) : ∀ b ∈ frs X.stack, H b = none := fun b hb => by
  rcases List.mem_cons.mp (I.stkSub b hb) with e | hb
  · rw [e]; exact I.free
  · obtain ⟨_, o, ho, _⟩ := I.ok.funs.mem hb
    exact I.base.free b o ho (I.ok.frf b hb) fun z => I.ok.exfs b z hb

theorem Inv.step {g' : Array GenState} {t' : Nat} {d' : Drawn} {ch : List Addr} (I : Inv X pins σ H s)
    (hch : ∀ b ∈ ch, (b ∈ X.ex ∨ X.s₀.heap.objs.size ≤ b) ∧ b ≠ X.env.locals ∧ (∀ x c, X.env.cells.lookup x = some c → c ≠ b) ∧ ∀ p ∈ X.pn ++ pins, p.1 ≠ b)
    (keep : ∀ b o, b ≠ X.env.locals → b ∉ X.fs → b ∉ ch → s.heap.get? b = some o → H b = none → h'.get? b = some o)
    (slot : ∀ b o, b ≠ X.env.locals → b ∈ X.fs → b ∉ ch → s.heap.get? b = some o → H b = none → ∃ sl, h'.get? b = some { o with slots := sl }) (free : ∀ b o, b ∉ ch → s.heap.get? b = some o → H b = none → H' b = none)
    (there : ∀ b o, b ∉ ch → s.heap.get? b = some o → ∃ o', h'.get? b = some o')
    (tups : ∀ b xs, H b = some (.tup xs) → H' b = some (.tup xs)) (frzs : ∀ b o u, H b = some (.frz o u) → H' b = some (.frz o u)) (tbls : ∀ b ps, H b = some (.tbl ps) → ∃ more, H' b = some (.tbl (ps ++ more)))
    (ns : ∀ m, s.heap.Ns X.env.locals m → h'.Ns X.env.locals m) (hok : HOk X.prog X.w H' h') (hg : AllBare g') :
    Inv X pins σ H' { s with heap := h', gens := g', drawn := d', toks := t' } := by
  have neL : ∀ b o, X.s₀.heap.get? b = some o → b ≠ X.env.locals := fun b o e => Nat.ne_of_lt (Nat.lt_of_lt_of_le (Heap.lt_size e) I.ok.above)
  have neC : ∀ b o, X.s₀.heap.get? b = some o → b ∉ X.ex → b ∉ ch := fun b o e hx hb => by
    rcases (hch b hb).1 with z | z
    · exact hx z
    · exact absurd (Nat.lt_of_lt_of_le (Heap.lt_size e) z) (Nat.lt_irrefl _)
  have cellK : ∀ x c, X.env.cells.lookup x = some c → ∀ v, s.heap.IsCell c v → h'.IsCell c v := fun x c e v ⟨o, ho, hd⟩ => by
    have nch : c ∉ ch := fun z => (hch c z).2.2.1 x c e rfl
    by_cases hc : c ∈ X.fs
    · obtain ⟨sl, q⟩ := slot c o (I.cne x c e) hc nch ho (I.freeC x c e)
      exact ⟨_, q, hd⟩
    · exact ⟨o, keep c o (I.cne x c e) hc nch ho (I.freeC x c e), hd⟩
  refine ⟨I.ok, I.os, hg, ⟨fun b o e n hb hx => ?_, fun b o e n hb hx => ?_, fun b o e n hx => ?_, fun b o e hx => ?_, fun b xs e => tups b xs (I.base.tups b xs e), fun b o xs e => frzs b o xs (I.base.frzs b o xs e), fun b ps e => ?_⟩, ?_, fun x c e => ?_, ?_, fun x c e => ?_, fun p hp => ?_, hok, I.len⟩
  · exact keep b o (neL b o e) hb (neC b o e hx) (I.base.keep b o e n hb hx) (I.base.free b o e n hx)
  · obtain ⟨sl, e1⟩ := I.base.slot b o e n hb hx
    obtain ⟨sl', e2⟩ := slot b _ (neL b o e) hb (neC b o e hx) e1 (I.base.free b o e n hx)
    exact ⟨sl', e2⟩
  · obtain ⟨o', e1⟩ := I.base.there b o e hx
    exact free b o' (neC b o e hx) e1 (I.base.free b o e n hx)
  · obtain ⟨o', e1⟩ := I.base.there b o e hx
    exact there b o' (neC b o e hx) e1
  · obtain ⟨m1, e1⟩ := I.base.tbls b ps e
    obtain ⟨m2, e2⟩ := tbls b _ e1
    exact ⟨m1 ++ m2, by rw [e2, Array.append_assoc]⟩
  · obtain ⟨m, hn, hl⟩ := I.loc
    refine ⟨m, ns m hn, fun i x v e1 e2 e3 => ?_⟩
    obtain ⟨u, r, l⟩ := hl i x v e1 e2 e3
    refine ⟨u, r, ?_⟩
    rcases l with l | ⟨k, c, e, z⟩
    · exact .inl l
    · exact .inr ⟨k, c, e, cellK x c e _ z⟩
  · obtain ⟨v, z⟩ := I.cell x c e
    exact ⟨v, cellK x c e v z⟩
  · obtain ⟨m, ⟨o, _, _, ho, _⟩, _⟩ := I.loc
    exact free _ o (fun z => (hch _ z).2.1 rfl) ho I.free
  · obtain ⟨v, o, ho, hd⟩ := I.cell x c e
    exact free c o (fun z => (hch c z).2.2.1 x c e rfl) ho (I.freeC x c e)
  · obtain ⟨e, n, ne, nf, d⟩ := I.pin p hp
    have nch : p.1 ∉ ch := fun z => (hch p.1 z).2.2.2 p hp rfl
    exact ⟨keep p.1 p.2 ne nf nch e n, free p.1 p.2 nch e n, ne, nf, d⟩
theorem Inv.un {t' : Nat} (I : Inv X pins σ H s) (u : Un X.fs [] H H' s.heap h') (hok : HOk X.prog X.w H' h') : Inv X pins σ H' { s with heap := h', toks := t' } := by
  obtain ⟨m, ⟨o, es, ep, ho, r⟩, _⟩ := id I.loc
  obtain ⟨sl, hL⟩ := u.any ho I.free (by simp)
  exact I.step (g' := s.gens) (d' := s.drawn) (ch := []) (fun _ z => nomatch z) (fun b o _ hb _ e n => u.keep b o e n hb (by simp)) (fun b o _ hb _ e n => u.slot b o e n hb (by simp)) (fun b o _ e n => u.free b o e n (by simp)) (fun b o _ e => u.there b o e (by simp)) u.tups u.frzs u.tbls (fun m' hm => by
    obtain ⟨o', es', ep', ho', r'⟩ := hm
    rw [ho] at ho'; cases ho'
    exact ⟨_, es', ep', hL, r'⟩) hok I.bare
theorem Inv.call {g' : Array GenState} {t' : Nat} {d' : Drawn} {ch : List Addr} (I : Inv X pins σ H s) (u : Un (frs X.stack) ch H H' s.heap h') (hok : HOk X.prog X.w H' h') (hg : AllBare g')
    (hch : ∀ b ∈ ch, (b ∈ X.ex ∨ X.s₀.heap.objs.size ≤ b) ∧ b ≠ X.env.locals ∧ (∀ x c, X.env.cells.lookup x = some c → c ≠ b) ∧ ∀ p ∈ X.pn ++ pins, p.1 ≠ b) :
    Inv X pins σ H' { s with heap := h', gens := g', drawn := d', toks := t' } := by
  obtain ⟨m, ⟨o, es, ep, ho, r⟩, _⟩ := id I.loc
  obtain ⟨sl, hL⟩ := u.any ho I.free fun z => (hch _ z).2.1 rfl
  exact I.step (ch := ch) hch (fun b o hL hb hc e n => u.keep b o e n (fun z => (List.mem_cons.mp (I.stkSub b z)).elim hL hb) hc) (fun b o _ _ hc e n => u.any e n hc) (fun b o hc e n => u.free b o e n hc) (fun b o hc e => u.there b o e hc) u.tups u.frzs u.tbls (fun m' hm => by
    obtain ⟨o', es', ep', ho', r'⟩ := hm
    rw [ho] at ho'; cases ho'
    exact ⟨_, es', ep', hL, r'⟩) hok hg
theorem Inv.turned {t' : Nat} {it : Addr} (I : Inv X pins σ H s) (k : ∀ b o, b ≠ it → s.heap.get? b = some o → h'.get? b = some o) (hn : H it = none) (hL : it ≠ X.env.locals)
    (h1 : it ∈ X.ex ∨ X.s₀.heap.objs.size ≤ it) (h2 : ∀ x c, X.env.cells.lookup x = some c → c ≠ it) (h3 : ∀ p ∈ X.pn ++ pins, p.1 ≠ it) : Inv X pins σ H { s with heap := h', toks := t' } := by
  have nit : ∀ b u, H b = some u → b ≠ it := fun b u e z => by rw [z, hn] at e; cases e
  refine I.step (g' := s.gens) (d' := s.drawn) (ch := [it]) (fun b hb => ?_) (fun b o _ _ hc e _ => k b o (fun z => hc (by simp [z])) e) (fun b o _ _ hc e _ => ⟨o.slots, k b o (fun z => hc (by simp [z])) e⟩) (fun _ _ _ _ n => n)
    (fun b o hc e => ⟨o, k b o (fun z => hc (by simp [z])) e⟩) (fun _ _ e => e) (fun _ _ _ e => e) (fun b ps e => ⟨#[], by rw [e]; simp⟩) (fun m hm => ?_) (fun b u e => ?_) I.bare
  · have e : b = it := by simpa using hb
    subst e
    exact ⟨h1, hL, h2, h3⟩
  · obtain ⟨o, es, ep, ho, r⟩ := hm
    exact ⟨o, es, ep, k _ o (Ne.symm hL) ho, r⟩
  · refine (I.hok b u e).stay (fun c v hc q => k c v ?_ q) (fun _ q => q) fun _ _ q => q
    rcases hc with z | z
    · rw [z]; exact nit b u e
    · exact nit c _ z
theorem Inv.tok (I : Inv X pins σ H s) (t : Nat) : Inv X pins σ H { s with toks := t } := I.un (h' := s.heap) (t' := t) Un.refl I.hok
theorem Inv.kept {t' : Nat} (I : Inv X pins σ H s) (k : ∀ b u, s.heap.get? b = some u → h'.get? b = some u) : Inv X pins σ H { s with heap := h', toks := t' } := I.un (Un.kept k) (I.hok.kept k)
theorem Inv.laid {a : Addr} {o : HO} {t' : Nat} (I : Inv X pins σ H s) (k : ∀ b u, s.heap.get? b = some u → h'.get? b = some u) (hp : s.heap.objs.size ≤ a) (new : ObjOk X.prog X.w (upd H a o) h' a o) :
    Inv X pins σ (upd H a o) { s with heap := h', toks := t' } := I.un (Un.laid k hp (I.hok.fresh hp)) (I.hok.laid k hp new)
theorem Inv.write {x e : Addr} {o : HO} {t' : Nat} (I : Inv X pins σ H s) (mu : Mut (H x)) (he : e = x ∨ H e = some (.own x)) (k : ∀ b u, b ≠ e → s.heap.get? b = some u → h'.get? b = some u) (heo : ∃ u, h'.get? e = some u)
    (new : ObjOk X.prog X.w (upd H x o) h' x o) : Inv X pins σ (upd H x o) { s with heap := h', toks := t' } := I.un (Un.write mu he k heo) (I.hok.write mu he k heo new)
theorem Inv.pins_of {pins' : List (Addr × Obj)} (I : Inv X pins σ H s) (h : ∀ p ∈ pins', s.heap.get? p.1 = some p.2 ∧ H p.1 = none ∧ p.1 ≠ X.env.locals ∧ p.1 ∉ X.fs ∧ ∀ v, p.2.data ≠ .cell v) : Inv X pins' σ H s :=
  ⟨I.ok, I.os, I.bare, I.base, I.loc, I.cell, I.free, I.freeC, fun p hp => (List.mem_append.mp hp).elim (fun z => I.pin p (List.mem_append_left _ z)) (h p), I.hok, I.len⟩

theorem nodup_ix {N : List Str} (hN : N.Nodup) {i j : Nat} {x : Str} (a : N[i]? = some x) (b : N[j]? = some x) : i = j := by
  obtain ⟨h1, e1⟩ := List.getElem?_eq_some_iff.mp a
  obtain ⟨h2, e2⟩ := List.getElem?_eq_some_iff.mp b
  exact (List.getElem_inj hN).mp (e1.trans e2.symm)

theorem store_ok2 {M : Model} {A : Around} {E : Value → Shared → Prop} {i : Nat} {x : Str} {v : V} {u : Value} {Q : Unit → Shared → Prop} (I : Inv X pins σ H s) (hN : X.N.Nodup) (hi : X.N[i]? = some x) (hx : Loc X.env.scope x) (r : RelV v u)
    (h : ∀ s', Inv X pins (σ.set i (some v)) H s' → (∃ a, Heap.SameBut a s.heap s'.heap ∧ (a = X.env.locals ∨ X.env.cells.lookup x = some a)) → Q () s') (hf : X.fn x = true ∨ X.env.scope.names.lookup x = some .local := by first | exact .inl rfl | exact .inr rfl | assumption) : wpAny M A (storeName X.env x u) Q E s := by
  obtain ⟨m, hn, hl⟩ := id I.loc
  have hcls : (X.env.scope.kind == .class || (X.env.scope.kind == .module && X.env.locals != X.env.globals)) = false := by rw [I.ok.kind]; rfl
  have hiσ : i < σ.length := by rw [I.len]; exact (List.getElem?_eq_some_iff.mp hi).1
  have cne := I.cne
  have tracked : ∀ {a : Addr} {h' : Heap}, (∃ o, s.heap.get? a = some o ∧ H a = none) → Heap.SameBut a s.heap h' → HOk X.prog X.w H h' := fun {a h'} ha hs b ob e => by
    obtain ⟨_, _, hfree⟩ := ha
    refine (I.hok b ob e).stay (fun c w' hc q => (hs.2 c ?_).trans q) (fun _ q => q) fun _ _ q => q
    rintro rfl
    rcases hc with rfl | hc
    · rw [hfree] at e; cases e
    · rw [hfree] at hc; cases hc
  rcases hx with hk | hk
  · refine wpAny_storeName_local hk hn (fun h' hn' hs => ?_) hcls
    obtain ⟨oL, _, _, hoL, _⟩ := id hn
    refine h _ ⟨I.ok, I.os, I.bare, ⟨fun b o e n hb hx => ?_, fun b o e n hb hx => ?_, I.base.free, fun b o e hx => ?_, I.base.tups, I.base.frzs, I.base.tbls⟩, ⟨_, hn', fun j y v' e1 e2 e3 => ?_⟩, fun y c e => ?_, I.free, I.freeC, fun p hp => ?_, tracked ⟨oL, hoL, I.free⟩ hs, by simpa using I.len⟩ ⟨_, hs, .inl rfl⟩
    · exact (hs.2 b (Nat.ne_of_lt (Nat.lt_of_lt_of_le (Heap.lt_size e) I.ok.above))).trans (I.base.keep b o e n hb hx)
    · obtain ⟨sl, e1⟩ := I.base.slot b o e n hb hx
      exact ⟨sl, (hs.2 b (Nat.ne_of_lt (Nat.lt_of_lt_of_le (Heap.lt_size e) I.ok.above))).trans e1⟩
    · obtain ⟨o', e1⟩ := I.base.there b o e hx
      exact ⟨o', (hs.2 b (Nat.ne_of_lt (Nat.lt_of_lt_of_le (Heap.lt_size e) I.ok.above))).trans e1⟩
    · by_cases hj : j = i
      · subst hj
        rw [hi] at e1; cases e1
        rw [List.getElem?_set_self hiσ] at e2
        cases e2
        exact ⟨u, r, .inl ⟨hk, by simp⟩⟩
      · rw [List.getElem?_set_ne (Ne.symm hj)] at e2
        obtain ⟨u', r', q⟩ := hl j y v' e1 e2 e3
        refine ⟨u', r', ?_⟩
        rcases q with ⟨k, e⟩ | ⟨k, c, e, z⟩
        · refine .inl ⟨k, ?_⟩
          have : y ≠ x := fun e => hj (nodup_ix hN e1 (e ▸ hi))
          simp [this, e]
        · exact .inr ⟨k, c, e, z.sameBut hs (cne y c e)⟩
    · obtain ⟨w', z⟩ := I.cell y c e
      exact ⟨w', z.sameBut hs (cne y c e)⟩
    · obtain ⟨e, n, ne, nf, d⟩ := I.pin p hp
      exact ⟨(hs.2 p.1 ne).trans e, n, ne, nf, d⟩
  · have hfn : X.fn x = true := by
      rcases hf with z | z
      · exact z
      · rw [z] at hk; cases hk
    obtain ⟨c, hc⟩ := I.ok.has x (.inl hk)
    obtain ⟨w', z⟩ := I.cell x c hc
    refine wpAny_storeName_cell I.ok.kind hk hc z (fun h' hc' hs => ?_)
    obtain ⟨oc, hoc, hocd⟩ := id z
    refine h { s with heap := h' } ⟨I.ok, I.os, I.bare, ⟨fun b o e n hb hx => ?_, fun b o e n hb hx => ?_, I.base.free, fun b o e hx => ?_, I.base.tups, I.base.frzs, I.base.tbls⟩, ⟨m, hn.sameBut hs (Ne.symm (cne x c hc)), fun j y v' e1 e2 e3 => ?_⟩, fun y c' e => ?_, I.free, I.freeC, fun p hp => ?_, tracked ⟨oc, hoc, I.freeC x c hc⟩ hs, by simpa using I.len⟩ ⟨c, hs, .inr hc⟩
    · exact (hs.2 b (Nat.ne_of_lt (Nat.lt_of_lt_of_le (Heap.lt_size e) (I.ok.cab x c hfn hc)))).trans (I.base.keep b o e n hb hx)
    · obtain ⟨sl, e1⟩ := I.base.slot b o e n hb hx
      exact ⟨sl, (hs.2 b (Nat.ne_of_lt (Nat.lt_of_lt_of_le (Heap.lt_size e) (I.ok.cab x c hfn hc)))).trans e1⟩
    · obtain ⟨o', e1⟩ := I.base.there b o e hx
      exact ⟨o', (hs.2 b (Nat.ne_of_lt (Nat.lt_of_lt_of_le (Heap.lt_size e) (I.ok.cab x c hfn hc)))).trans e1⟩
    · by_cases hj : j = i
      · subst hj
        rw [hi] at e1; cases e1
        rw [List.getElem?_set_self hiσ] at e2
        cases e2
        exact ⟨u, r, .inr ⟨.inl hk, c, hc, hc'⟩⟩
      · rw [List.getElem?_set_ne (Ne.symm hj)] at e2
        obtain ⟨u', r', q⟩ := hl j y v' e1 e2 e3
        refine ⟨u', r', ?_⟩
        rcases q with q | ⟨k, c', e, z'⟩
        · exact .inl q
        · refine .inr ⟨k, c', e, z'.sameBut hs ?_⟩
          rintro rfl
          exact hj (nodup_ix hN e1 (I.ok.inj _ _ _ e hc ▸ hi))
    · by_cases hcc : c' = c
      · subst hcc; exact ⟨_, hc'⟩
      · obtain ⟨w2, z2⟩ := I.cell y c' e
        exact ⟨w2, z2.sameBut hs hcc⟩
    · obtain ⟨e, n, ne, nf, d⟩ := I.pin p hp
      refine ⟨(hs.2 p.1 ?_).trans e, n, ne, nf, d⟩
      intro q
      rw [q, hoc] at e
      have q' : oc = p.2 := Option.some.inj e
      exact d w' (by rw [← q']; exact hocd)
theorem store_ok {M : Model} {A : Around} {E : Value → Shared → Prop} {i : Nat} {x : Str} {v : V} {u : Value} {Q : Unit → Shared → Prop} (I : Inv X pins σ H s) (hN : X.N.Nodup) (hi : X.N[i]? = some x) (hx : Loc X.env.scope x) (r : RelV v u)
    (h : ∀ s', Inv X pins (σ.set i (some v)) H s' → Q () s') (hf : X.fn x = true ∨ X.env.scope.names.lookup x = some .local := by first | exact .inl rfl | exact .inr rfl | assumption) : wpAny M A (storeName X.env x u) Q E s :=
  store_ok2 I hN hi hx r (fun s' I' _ => h s' I') hf
theorem Inv.call' {s' : Shared} {ch : List Addr} (I : Inv X pins σ H s) (ho : s'.os = s.os) (u : Un (frs X.stack) ch H H' s.heap s'.heap) (hok : HOk X.prog X.w H' s'.heap) (hg : AllBare s'.gens)
    (hch : ∀ b ∈ ch, (b ∈ X.ex ∨ X.s₀.heap.objs.size ≤ b) ∧ b ≠ X.env.locals ∧ (∀ x c, X.env.cells.lookup x = some c → c ≠ b) ∧ ∀ p ∈ X.pn ++ pins, p.1 ≠ b) : Inv X pins σ H' s' := by
  obtain ⟨h', g', d', t', o'⟩ := s'
  have e : o' = s.os := ho
  subst e
  exact I.call (g' := g') (t' := t') (d' := d') u hok hg hch
end

/-! ### the judgements -/
abbrev XK := Value → Option Addr → Hp → Prop
abbrev St := List (Option V)
abbrev VK := V → Hp → Prop
abbrev TE := St → Hp → VK → Prop
abbrev TT := St → Hp → (Bool → Hp → Prop) → Prop
abbrev TA := St → Hp → (List V → Hp → Prop) → Prop
structure Ends where
  nx : St → Hp → Prop
  rt : VK
  bk : St → Hp → Prop := fun _ _ => False
  ct : St → Hp → Prop := fun _ _ => False
abbrev TS := Ends → St → Hp → Prop

def EP (X : Cx) (pins : List (Addr × Obj)) (σ : St) (Q : VK) (u : Value) (s' : Shared) : Prop := ∃ v H', Inv X pins σ H' s' ∧ RelV v u ∧ Q v H'
def TP (X : Cx) (pins : List (Addr × Obj)) (σ : St) (Q : Bool → Hp → Prop) (b : Bool) (s' : Shared) : Prop := ∃ H', Inv X pins σ H' s' ∧ Q b H'
def AP (X : Cx) (pins : List (Addr × Obj)) (σ : St) (Q : List V → Hp → Prop) (us : List Value) (s' : Shared) : Prop := ∃ vs H', Inv X pins σ H' s' ∧ Vals vs us ∧ Q vs H'
def SP (X : Cx) (pins : List (Addr × Obj)) (D : Ends) (f : Flow) (s' : Shared) : Prop :=
  match f with
  | .next => ∃ σ' H', Inv X pins σ' H' s' ∧ D.nx σ' H'
  | .brk => ∃ σ' H', Inv X pins σ' H' s' ∧ D.bk σ' H'
  | .cont => ∃ σ' H', Inv X pins σ' H' s' ∧ D.ct σ' H'
  | .ret u => ∃ v σ' H', Inv X pins σ' H' s' ∧ RelV v u ∧ D.rt v H'

def PE (X : Cx) (e : Expr) (t : TE) : Prop :=
  ∀ (pins : List (Addr × Obj)) (s : Shared) (σ : St) (H : Hp) (Q : VK), Inv X pins σ H s → t σ H Q → wpAny (model X.prog X.w) X.A (eval e X.env) (EP X pins σ Q) X.xe s
def PT (X : Cx) (e : Expr) (t : TT) : Prop :=
  ∀ (pins : List (Addr × Obj)) (s : Shared) (σ : St) (H : Hp) (Q : Bool → Hp → Prop), Inv X pins σ H s → t σ H Q → wpAny (model X.prog X.w) X.A (isTrue e X.env (eval e X.env)) (TP X pins σ Q) X.xe s
def PW (X : Cx) (e : Expr) (t : TT) : Prop :=
  ∀ (whole : Sem Value) (pins : List (Addr × Obj)) (s : Shared) (σ : St) (H : Hp) (Q : Bool → Hp → Prop), Inv X pins σ H s → t σ H Q → wpAny (model X.prog X.w) X.A (isTrue e X.env whole) (TP X pins σ Q) X.xe s
theorem PW.pt {X : Cx} {e : Expr} {t : TT} (h : PW X e t) : PT X e t := h _
def PA (X : Cx) (es : List Expr) (t : TA) : Prop :=
  ∀ (pos : Pos) (pins : List (Addr × Obj)) (s : Shared) (σ : St) (H : Hp) (Q : List V → Hp → Prop), Inv X pins σ H s → t σ H Q → wpAny (model X.prog X.w) X.A (spliced (backTo pos (starEach es X.env))) (AP X pins σ Q) X.xe s
def PS (X : Cx) (st : Stmt) (t : TS) : Prop :=
  ∀ (pins : List (Addr × Obj)) (s : Shared) (σ : St) (H : Hp) (D : Ends), Inv X pins σ H s → t D σ H → wpAny (model X.prog X.w) X.A (exec st X.env) (SP X pins D) X.xe s
def PSs (X : Cx) (st : List Stmt) (t : TS) : Prop :=
  ∀ (pins : List (Addr × Obj)) (s : Shared) (σ : St) (H : Hp) (D : Ends), Inv X pins σ H s → t D σ H → wpAny (model X.prog X.w) X.A (execs st X.env) (SP X pins D) X.xe s
theorem thn {α : Type} {t : Sem α} {Q Q' : α → Shared → Prop} {M : Model} {A : Around} {E : Value → Shared → Prop} {s : Shared} (h : wpAny M A t Q E s) (hQ : ∀ a s, Q a s → Q' a s) : wpAny M A t Q' E s := wpAny_mono h hQ fun _ _ x => x
end L2

namespace L2
open PySem PySem.Spec PyProof.Rows
section
variable {X : Cx}

/-! ### names and constants -/
def tVar (i : Nat) : TE := fun σ H Q => ∃ v, σ[i]? = some (some v) ∧ Q v H
def tC (v : V) : TE := fun _ H Q => Q v H
theorem pe_var {i : Nat} {x : Str} {pos : Pos} (hN : X.N[i]? = some x) (hv : Vis X.env.scope x) (hd : (x == ("__debug__" : Str)) = false := by decide) (hcd : (x == ("__classdict__" : Str)) = false := by decide) : PE X (.Name x pos) (tVar i) := by
  intro pins s σ H Q I h
  obtain ⟨v, e, h⟩ := h
  obtain ⟨m, hn, hl⟩ := I.loc
  obtain ⟨u, r, l⟩ := hl i x v hN e hv
  have fin : EP X pins σ Q u s := ⟨v, H, I, r, h⟩
  rcases l with ⟨hk, hm⟩ | ⟨hk, c, hc, hcell⟩
  · exact wpAny_Name (wpAny_loadName_local I.ok.kind hk hn hm fin) hd
  · rcases hk with hk | hk
    · exact wpAny_Name (wpAny_loadName_cell I.ok.kind hk hc hcell fin) hd
    · exact wpAny_Name (wpAny_loadName_free I.ok.kind hk hc hcell fin hcd) hd
theorem pe_int {i j pos} : PE X (.Constant (.int i) j pos) (tC (.int i)) := fun _ _ _ H _ I h => wpAny_Constant_int ⟨.int i, H, I.tok _, ⟨_, rfl⟩, h⟩
theorem pe_bl {b j pos} : PE X (.Constant (.bool b) j pos) (tC (.bl b)) := fun _ _ _ H _ I h => Constant_bool ⟨.bl b, H, I, rfl, h⟩
theorem pe_non {j pos} : PE X (.Constant .none j pos) (tC .non) := fun _ _ _ H _ I h => Constant_none ⟨.non, H, I, rfl, h⟩
def Gl (X : Cx) (x : Str) : Prop := X.env.kindOf x = some .globalImplicit
theorem ld_glob {E : Value → Shared → Prop} {pins : List (Addr × Obj)} {s : Shared} {σ : St} {H : Hp} {x : Str} {u : Value} {pos : Pos} {Q : Value → Shared → Prop} (I : Inv X pins σ H s) (hg : Gl X x) (hm : X.mg x = some u) (h : Q u s)
    (hd : (x == ("__debug__" : Str)) = false := by decide) : wpAny (model X.prog X.w) X.A (eval (.Name x pos) X.env) Q E s :=
  Calls.Name_function_global I.ok.kind hg (Calls.loadGlobal_global (by rw [I.ok.glob]; exact I.mod.glob.keeps I.bk) hm h) hd
theorem ld_blt {E : Value → Shared → Prop} {pins : List (Addr × Obj)} {s : Shared} {σ : St} {H : Hp} {x : Str} {u : Value} {pos : Pos} {Q : Value → Shared → Prop} (I : Inv X pins σ H s) (hg : Gl X x) (hm : X.mg x = none) (hv : bootBuiltins x = some u) (h : Q u s)
    (hn : x ≠ "__name__" := by decide) (hd : (x == ("__debug__" : Str)) = false := by decide) : wpAny (model X.prog X.w) X.A (eval (.Name x pos) X.env) Q E s := by
  obtain ⟨mb, h1, h2⟩ := I.mod.blt
  exact Calls.Name_function_global I.ok.kind hg (Calls.loadGlobal_builtin (by rw [I.ok.glob]; exact I.mod.glob.keeps I.bk) hm (by rw [I.ok.blt]; exact h1.keeps I.bk) ((h2 x hn).trans hv) h) hd
theorem pe_glob {x : Str} {v : V} {u : Value} {pos : Pos} (hg : Gl X x) (hm : X.mg x = some u) (r : RelV v u) (hd : (x == ("__debug__" : Str)) = false := by decide) : PE X (.Name x pos) (tC v) :=
  fun _ _ _ H _ I h => ld_glob I hg hm ⟨v, H, I, r, h⟩ hd
theorem pe_bltn {x : Str} {v : V} {u : Value} {pos : Pos} (hg : Gl X x) (hm : X.mg x = none) (hv : bootBuiltins x = some u) (r : RelV v u) (hn : x ≠ "__name__" := by decide) (hd : (x == ("__debug__" : Str)) = false := by decide) : PE X (.Name x pos) (tC v) :=
  fun _ _ _ H _ I h => ld_blt I hg hm hv ⟨v, H, I, r, h⟩ hn hd

/-! ### arithmetic -/
variable {a b : Expr} {ta tb : TE} {pos : Pos}
/-! ### comparisons -/
def tB (t : TE) : TT := fun σ H Q => t σ H fun x H1 => ∃ c, x = .bl c ∧ Q c H1
theorem pt_val {e : Expr} {t : TE} (h : PE X e t) (he : ∀ whole, isTrue e X.env whole = (do let v ← whole; standAt e.pos; holding [v] (truthy v)) := by intro _; rfl) : PT X e (tB t) := by
  intro pins s σ H Q I hw
  refine isTrue_plain (thn (h pins s σ H _ I hw) fun v s1 ⟨x, H1, I1, r1, q1⟩ => ?_) (he _)
  obtain ⟨d, rfl, q⟩ := q1
  cases r1
  exact wpAny_truthy_bool ⟨H1, I1, q⟩

/-! ### and, or, not -/
variable {tA tB' : TT} {rest : List Expr}
def tAnd (t u : TT) : TT := fun σ H Q => t σ H fun c H1 => if c = true then u σ H1 Q else Q false H1
def tOr (t u : TT) : TT := fun σ H Q => t σ H fun c H1 => if c = true then Q true H1 else u σ H1 Q
def tNot (t : TT) : TT := fun σ H Q => t σ H fun c H1 => Q (!c) H1
theorem pw_and1 (ha : PT X a tA) : PW X (.BoolOp .And [a] pos) tA := by
  intro wh pins s σ H Q I h
  refine isTrue_and (thn (ha pins s σ H Q I h) fun c s1 e => ?_)
  cases c with
  | true => exact isTrue_and_nil e
  | false => exact e
theorem pw_or1 (ha : PT X a tA) : PW X (.BoolOp .Or [a] pos) tA := by
  intro wh pins s σ H Q I h
  refine isTrue_or (thn (ha pins s σ H Q I h) fun c s1 e => ?_)
  cases c with
  | false => exact isTrue_or_nil e
  | true => exact e
theorem pw_and (ha : PT X a tA) (hb : PW X (.BoolOp .And (b :: rest) pos) tB') : PW X (.BoolOp .And (a :: b :: rest) pos) (tAnd tA tB') := by
  intro wh pins s σ H Q I h
  refine isTrue_and (thn (ha pins s σ H _ I h) fun c s1 ⟨H1, I1, q1⟩ => ?_)
  cases c with
  | true => exact hb wh pins s1 σ H1 Q I1 q1
  | false => exact ⟨H1, I1, q1⟩
theorem pw_or (ha : PT X a tA) (hb : PW X (.BoolOp .Or (b :: rest) pos) tB') : PW X (.BoolOp .Or (a :: b :: rest) pos) (tOr tA tB') := by
  intro wh pins s σ H Q I h
  refine isTrue_or (thn (ha pins s σ H _ I h) fun c s1 ⟨H1, I1, q1⟩ => ?_)
  cases c with
  | true => exact ⟨H1, I1, q1⟩
  | false => exact hb wh pins s1 σ H1 Q I1 q1
theorem pt_not (ha : PT X a tA) : PT X (.UnaryOp .Not a pos) (tNot tA) := by
  intro pins s σ H Q I h
  exact isTrue_not (ha pins s σ H (fun c H1 => Q (!c) H1) I h)
def tIf (t : TT) (ta tb : TE) : TE := fun σ H Q => t σ H fun c H1 => if c = true then ta σ H1 Q else tb σ H1 Q
theorem pe_ifExp {c : Expr} (hc : PT X c tA) (ha : PE X a ta) (hb : PE X b tb) : PE X (.IfExp c a b pos) (tIf tA ta tb) := by
  intro pins s σ H Q I h
  refine wpAny_IfExp (thn (hc pins s σ H _ I h) fun d s1 ⟨H1, I1, q1⟩ => ?_)
  cases d with
  | true => exact ha pins s1 σ H1 Q I1 q1
  | false => exact hb pins s1 σ H1 Q I1 q1
end
end L2

namespace L2
open PySem PySem.Spec PyProof.Rows

/-! ### a list, a tuple that is read: tracked, frozen, or an object of the module -/
def SqL (K : PySem.W.Frag) (H : Hp) (a : Addr) (xs : List V) : Prop :=
  Rd H a (.lst xs) ∨
    ∃ (o : Obj) (its : Array Value) (n : Nat), K.lookup a = some o ∧ o.cls = .type "list" ∧ o.dict = none ∧ o.data = .seq its n ∧ its.size ≤ sizeLine ∧ Vals xs its.toList
def SqT (K : PySem.W.Frag) (H : Hp) (a : Addr) (xs : List V) : Prop :=
  Rd H a (.tup xs) ∨
    ∃ (o : Obj) (its : Array Value) (n : Nat), K.lookup a = some o ∧ o.cls = .type "tuple" ∧ o.data = .seq its n ∧ its.size ≤ sizeLine ∧ Vals xs its.toList
def absV : Value → Option V
  | .none => some .non
  | .bool b => some (.bl b)
  | .int i _ => some (.int i)
  | .str x _ => some (.str x)
  | .bytes b _ => some (.byt b)
  | .float b _ => some (.flt b)
  | .ref a => some (.ref a)
  | .type n => some (.ty n)
  | _ => none
theorem RelV.abs {x : V} {u : Value} (r : RelV x u) : absV u = some x := by
  cases x with
  | non => cases r; rfl
  | bl _ => cases r; rfl
  | int _ => obtain ⟨t, rfl⟩ := r; rfl
  | str _ => obtain ⟨t, rfl⟩ := r; rfl
  | byt _ => obtain ⟨t, rfl⟩ := r; rfl
  | flt _ => obtain ⟨t, rfl⟩ := r; rfl
  | ref _ => cases r; rfl
  | ty _ => cases r; rfl
theorem RelV.inj {x y : V} {u : Value} (r : RelV x u) (q : RelV y u) : x = y := Option.some.inj (r.abs.symm.trans q.abs)
theorem Vals.inj : ∀ {xs ys : List V} {us : List Value}, Vals xs us → Vals ys us → xs = ys
  | _, _, _, .nil, .nil => rfl
  | _, _, _, .cons r t, .cons r' t' => by rw [r.inj r', Vals.inj t t']
section
variable {X : Cx} {pins : List (Addr × Obj)} {σ : St} {H : Hp} {s : Shared} {a : Addr} {xs ys : List V}
theorem SqL.of {K : PySem.W.Frag} (h : H a = some (.lst xs)) : SqL K H a xs := .inl (.inl h)
theorem SqT.of {K : PySem.W.Frag} (h : H a = some (.tup xs)) : SqT K H a xs := .inl (.inl h)
theorem Inv.list (I : Inv X pins σ H s) (h : SqL X.K H a xs) : ∃ its : List Value, Vals xs its ∧ PlainL s.heap a its.toArray ∧ xs.length ≤ sizeLine := by
  rcases h with h | ⟨o, its, n, hk, hc, hd, hs, hz, r⟩
  · obtain ⟨z, its, n, r, e⟩ := h.ok I.hok
    exact ⟨its, r, ⟨_, n, e, rfl, rfl, rfl⟩, z⟩
  · refine ⟨its.toList, r, ⟨o, n, I.kIn a o hk, hc, hd, by simpa using hs⟩, ?_⟩
    have e := r.length
    simp only [Array.length_toList] at e
    omega
theorem Inv.tuple (I : Inv X pins σ H s) (h : SqT X.K H a xs) : ∃ its : List Value, Vals xs its ∧ IsTup s.heap a its.toArray ∧ xs.length ≤ sizeLine := by
  rcases h with h | ⟨o, its, n, hk, hc, hs, hz, r⟩
  · obtain ⟨z, its, r, p⟩ := h.ok I.hok
    exact ⟨its, r, p, z⟩
  · refine ⟨its.toList, r, ⟨o, I.kIn a o hk, hc, n, by simpa using hs⟩, ?_⟩
    have e := r.length
    simp only [Array.length_toList] at e
    omega
end

/-! ### another wish about exceptions -/
abbrev Cx.wish (X : Cx) (E : Value → Shared → Prop) : Cx := { X with xe := E }
abbrev Cx.nox (X : Cx) : Cx := X.wish fun _ _ => False
theorem Cx.Ok.wish {X : Cx} (ok : X.Ok) (E : Value → Shared → Prop) : (X.wish E).Ok :=
  ⟨ok.mod, ok.kind, ok.glob, ok.blt, ok.above, ok.inj, ok.has, ok.cab, ok.hd, ok.frames, ok.stk, ok.exf, ok.bs, ok.bsz, ok.noex, ok.exfs, ok.funs, ok.frf⟩
theorem Cx.Ok.unwish {X : Cx} {E : Value → Shared → Prop} (ok : (X.wish E).Ok) : X.Ok :=
  ⟨ok.mod, ok.kind, ok.glob, ok.blt, ok.above, ok.inj, ok.has, ok.cab, ok.hd, ok.frames, ok.stk, ok.exf, ok.bs, ok.bsz, ok.noex, ok.exfs, ok.funs, ok.frf⟩
section
variable {X : Cx} {pins : List (Addr × Obj)} {σ : St} {H : Hp} {s : Shared} {E : Value → Shared → Prop}
theorem Inv.wish (I : Inv X pins σ H s) (E : Value → Shared → Prop) : Inv (X.wish E) pins σ H s := ⟨I.ok.wish E, I.os, I.bare, I.base, I.loc, I.cell, I.free, I.freeC, I.pin, I.hok, I.len⟩
theorem Inv.unwish (I : Inv (X.wish E) pins σ H s) : Inv X pins σ H s := ⟨I.ok.unwish, I.os, I.bare, I.base, I.loc, I.cell, I.free, I.freeC, I.pin, I.hok, I.len⟩
theorem SP.unwish {D : Ends} {f : Flow} {s' : Shared} (h : SP (X.wish E) pins D f s') : SP X pins D f s' := by
  cases f with
  | next => obtain ⟨σ', H', I, q⟩ := h; exact ⟨σ', H', I.unwish, q⟩
  | brk => obtain ⟨σ', H', I, q⟩ := h; exact ⟨σ', H', I.unwish, q⟩
  | cont => obtain ⟨σ', H', I, q⟩ := h; exact ⟨σ', H', I.unwish, q⟩
  | ret u => obtain ⟨v, σ', H', I, r, q⟩ := h; exact ⟨v, σ', H', I.unwish, r, q⟩
theorem PE.nox {e : Expr} {t : TE} (h : PE X.nox e t) : PE X e t := fun pins s σ H Q I hw =>
  wpAny_mono (h pins s σ H Q (I.wish _) hw) (fun _ _ ⟨v, H', I', r, q⟩ => ⟨v, H', I'.unwish, r, q⟩) fun _ _ z => False.elim z
theorem PT.nox {e : Expr} {t : TT} (h : PT X.nox e t) : PT X e t := fun pins s σ H Q I hw =>
  wpAny_mono (h pins s σ H Q (I.wish _) hw) (fun _ _ ⟨H', I', q⟩ => ⟨H', I'.unwish, q⟩) fun _ _ z => False.elim z
theorem PSs.nox {st : List Stmt} {t : TS} (h : PSs X.nox st t) : PSs X st t := fun pins s σ H D I hw =>
  wpAny_mono (h pins s σ H D (I.wish _) hw) (fun _ _ q => q.unwish) fun _ _ z => False.elim z
end

/-! ### blocks and small statements -/
section
variable {X : Cx} {st : Stmt} {rest : List Stmt} {t u : TS} {e : Expr} {te : TE} {pos : Pos}
def tNext : TS := fun D σ H => D.nx σ H
def tSeq (t u : TS) : TS := fun D σ H => t { D with nx := u D } σ H
theorem pss_nil : PSs X [] tNext := fun _ _ σ H _ I h => wpAny_execs_nil ⟨σ, H, I, h⟩
theorem pss_cons (h1 : PS X st t) (h2 : PSs X rest u) : PSs X (st :: rest) (tSeq t u) := by
  intro pins s σ H D I h
  refine wpAny_execs_cons (thn (h1 pins s σ H { D with nx := u D } I h) fun f s1 q => ?_)
  cases f with
  | next =>
    obtain ⟨σ', H', I', q⟩ := q
    exact h2 pins s1 σ' H' D I' q
  | ret v => exact q
  | brk => exact q
  | cont => exact q
theorem pss_one (h1 : PS X st t) : PSs X [st] t := by
  intro pins s σ H D I h
  refine wpAny_execs_cons (thn (h1 pins s σ H D I h) fun f s1 q => ?_)
  cases f with
  | next => exact wpAny_execs_nil q
  | ret v => exact q
  | brk => exact q
  | cont => exact q
theorem Inv.quiet {pins : List (Addr × Obj)} {σ : St} {H : Hp} {s : Shared} (I : Inv X pins σ H s) : interactive X.env = false := by simp [interactive, I.ok.kind]
def tDrop (te : TE) : TS := fun D σ H => te σ H fun _ H1 => D.nx σ H1
theorem ps_expr (he : PE X e te) (hs : swapsWith e none pos.line X.env = pure false := by rfl) : PS X (.Expr e pos) (tDrop te) := by
  intro pins s σ H D I h
  exact wpAny_Expr_any (thn (he pins s σ H _ I h) fun v s1 ⟨x, H1, I1, r1, q1⟩ => ⟨σ, H1, I1, q1⟩) I.quiet hs
def tRet (te : TE) : TS := fun D σ H => te σ H D.rt
theorem ps_ret (he : PE X e te) : PS X (.Return (some e) pos) (tRet te) := by
  intro pins s σ H D I h
  exact wpAny_Return_some (thn (he pins s σ H _ I h) fun v s1 ⟨x, H1, I1, r1, q1⟩ => ⟨x, σ, H1, I1, r1, q1⟩)
def tIfS (c : TT) (t u : TS) : TS := fun D σ H => c σ H fun b H1 => if b = true then t D σ H1 else u D σ H1
theorem ps_if {c : Expr} {a b : List Stmt} {tc : TT} (hc : PT X c tc) (ha : PSs X a t) (hb : PSs X b u) : PS X (.If c a b pos) (tIfS tc t u) := by
  intro pins s σ H D I h
  refine wpAny_If (thn (hc pins s σ H _ I h) fun d s1 ⟨H1, I1, q1⟩ => ?_)
  cases d with
  | true => exact ha pins s1 σ H1 D I1 q1
  | false => exact hb pins s1 σ H1 D I1 q1
def tNever : TS := fun _ _ _ => False
theorem ps_never : PS X st tNever := fun _ _ _ _ _ _ h => h.elim
end

/-! ### targets -/
abbrev TG := V → St → Hp → (St → Hp → Prop) → Prop
def PG (X : Cx) (target : Expr) (t : TG) : Prop :=
  ∀ (pins : List (Addr × Obj)) (s : Shared) (σ : St) (H : Hp) (v : V) (u : Value) (Q : St → Hp → Prop), Inv X pins σ H s → RelV v u → t v σ H Q →
    wpAny (model X.prog X.w) X.A (assign target X.env u) (fun _ s' => ∃ σ' H', Inv X pins σ' H' s' ∧ Q σ' H') X.xe s
section
variable {X : Cx} {pos : Pos}
def gName (i : Nat) : TG := fun v σ H Q => Q (σ.set i (some v)) H
theorem pg_name {i : Nat} {x : Str} (hN : X.N.Nodup) (hi : X.N[i]? = some x) (hx : Loc X.env.scope x) (hf : X.fn x = true ∨ X.env.scope.names.lookup x = some .local := by first | exact .inl rfl | exact .inr rfl | assumption) : PG X (.Name x pos) (gName i) := by
  intro pins s σ H v u Q I r h
  exact wpAny_assign_Name (store_ok I hN hi hx r (fun s' I' => ⟨_, H, I', h⟩) hf)
def tAsg (te : TE) (g : TG) : TS := fun D σ H => te σ H fun x H1 => g x σ H1 D.nx
theorem ps_set {i : Nat} {x : Str} {e : Expr} {te : TE} {pos' : Pos} (hN : X.N.Nodup) (hi : X.N[i]? = some x) (hx : Loc X.env.scope x) (he : PE X e te) (hs : swapsWith e (some (.Name x pos')) pos.line X.env = pure false := by rfl) (hf : X.fn x = true ∨ X.env.scope.names.lookup x = some .local := by first | exact .inl rfl | exact .inr rfl | assumption) :
    PS X (.Assign [.Name x pos'] e pos) (tAsg te (gName i)) := by
  intro pins s σ H D I h
  refine wpAny_Assign_Name (thn (he pins s σ H _ I h) fun v s1 ⟨y, H1, I1, r1, q1⟩ => ?_) hs
  exact store_ok I1 hN hi hx r1 (fun s2 I2 => ⟨_, H1, I2, q1⟩) hf
end

/-! ### while -/
section
variable {X : Cx} {pos : Pos}
end

/-! ### what a loop or a comprehension walks -/
structure It where
  go : Nat → Hp → Prop
  yld : Nat → Hp → V → Hp → Prop
  stop : Nat → Hp → Prop
def FpOk (X : Cx) (pins : List (Addr × Obj)) (H : Hp) (b : Addr) : Prop :=
  H b = none ∧ b ≠ X.env.locals ∧ b ∉ X.fs ∧ (b ∈ X.ex ∨ X.s₀.heap.objs.size ≤ b) ∧ (∀ x c, X.env.cells.lookup x = some c → c ≠ b) ∧ ∀ p ∈ X.pn ++ pins, p.1 ≠ b
theorem Inv.fpOk {X : Cx} {pins : List (Addr × Obj)} {σ : St} {H H' : Hp} {s : Shared} {b : Addr} (I : Inv X pins σ H s) (hb : s.heap.objs.size ≤ b) (hn : H' b = none) : FpOk X pins H' b := by
  refine ⟨hn, Nat.ne_of_gt (Nat.lt_of_lt_of_le I.lt hb), I.nofs hb, .inr (Nat.le_trans I.sz hb), fun x c e z => ?_, fun p hp z => ?_⟩
  · obtain ⟨v, q⟩ := I.cell x c e
    exact absurd (Nat.lt_of_lt_of_le q.lt (by rw [z]; exact hb)) (Nat.lt_irrefl _)
  · exact absurd (Nat.lt_of_lt_of_le (Heap.lt_size (I.pin p hp).1) (by rw [z]; exact hb)) (Nat.lt_irrefl _)
structure Turn (P : Program) (w : World) (K : PySem.W.Frag) (tg : Expr) (J : It) (fp : List Addr) (it : Addr) (tn : Nat → Heap → Prop) : Prop where
  mem : it ∈ fp
  obj : ∀ i h, tn i h → ∀ b ∈ fp, ∃ o, h.get? b = some o ∧ ∀ v, o.data ≠ .cell v
  keep : ∀ i h h', tn i h → (∀ b ∈ fp, ∀ o, h.get? b = some o → h'.get? b = some o) → tn i h'
  item : ∀ (X : Cx), X.prog = P → X.w = w → X.K = K → X.calm = true → ∀ (i : Nat) (pins : List (Addr × Obj)) (s : Shared) (σ : St) (H : Hp) (E : Value → Shared → Prop), Inv X pins σ H s → (∀ b ∈ fp, FpOk X pins H b) → tn i s.heap → J.go i H →
    wpAny (model P w) X.A (pyNext (.ref it)) (fun r s1 => ∃ u, r = some u ∧
      wpAny (model P w) X.A (letOwnedTupleGo tg (.ref it) u) (fun _ s2 => ∃ x H', Inv X pins σ H' s2 ∧ RelV x u ∧ J.yld i H x H' ∧ tn (i + 1) s2.heap ∧ ∀ b ∈ fp, H' b = none) E s1) E s
  done : ∀ (X : Cx), X.prog = P → X.w = w → X.K = K → X.calm = true → ∀ (i : Nat) (pins : List (Addr × Obj)) (s : Shared) (σ : St) (H : Hp) (E : Value → Shared → Prop), Inv X pins σ H s → (∀ b ∈ fp, FpOk X pins H b) → tn i s.heap → J.stop i H →
    wpAny (model P w) X.A (pyNext (.ref it)) (fun r s1 => r = none ∧ Inv X pins σ H s1) E s
  self : ∀ (A : Around) (i : Nat) (s : Shared) (Q : Value → Shared → Prop) (E : Value → Shared → Prop), tn i s.heap → Q (.ref it) s → wpAny (model P w) A (pyIter (.ref it)) Q E s
abbrev TI := St → Hp → (It → Hp → Prop) → Prop
def PIE (X : Cx) (pins : List (Addr × Obj)) (σ : St) (tg : Expr) (R : It → Hp → Prop) (itv : Value) (s2 : Shared) : Prop :=
  ∃ (it : Addr) (fp : List Addr) (tn : Nat → Heap → Prop) (J : It) (H' : Hp), itv = .ref it ∧ Inv X pins σ H' s2 ∧ Turn X.prog X.w X.K tg J fp it tn ∧ tn 0 s2.heap ∧ (∀ b ∈ fp, FpOk X pins H' b) ∧ R J H'
def PI (X : Cx) (tg iter : Expr) (wi : TI) : Prop :=
  ∀ (pins : List (Addr × Obj)) (s : Shared) (σ : St) (H : Hp) (R : It → Hp → Prop), Inv X pins σ H s → wi σ H R →
    wpAny (model X.prog X.w) X.A (eval iter X.env) (fun v s1 => wpAny (model X.prog X.w) X.A (pyIter v) (PIE X pins σ tg R) X.xe s1) X.xe s

theorem go_of {M : Model} {A : Around} {E : Value → Shared → Prop} {s : Shared} {tg : Expr} {it : Addr} {u : Value} {o : Obj} {n : String} {vs : Array Value} {Q : Unit → Shared → Prop} (ho : s.heap.get? it = some o) (hc : o.cls = .type n) (hd : o.data = .fields vs)
    (hn : ["enumerate", "zip", "dict_itemiterator", "dict_reverseitemiterator", "odict_iterator", "itertools.zip_longest", "itertools.pairwise"].contains n = false) (hQ : Q () s) : wpAny M A (letOwnedTupleGo tg (.ref it) u) Q E s := by
  unfold letOwnedTupleGo
  cases tg <;> first
    | exact wpAny_pure hQ
    | (cases u <;> first
        | exact wpAny_pure hQ
        | (refine wpAny_bind (wpAny_load ho ?_)
           rw [hc, hd]
           show wpAny M A (if (["enumerate", "zip", "dict_itemiterator", "dict_reverseitemiterator", "odict_iterator", "itertools.zip_longest", "itertools.pairwise"].contains n && vs[0]? == some (rawInt _)) = true then _ else _) Q E s
           rw [if_neg (by intro h; rw [hn, Bool.false_and] at h; cases h)]
           exact wpAny_pure hQ))

def Itr (lo : Int) (n : Nat) : It := ⟨fun i _ => i < n, fun i H x H' => H' = H ∧ x = .int (lo + i), fun i _ => n ≤ i⟩
theorem turn_range {P : Program} {w : World} {K : PySem.W.Frag} {tg : Expr} (it : Addr) (lo : Int) (n : Nat) : Turn P w K tg (Itr lo n) [it] it (fun i h => IsRangeIter h it (lo + (i : Nat) * 1) ((n : Int) - (i : Nat)) 1) where
  mem := by simp
  obj := fun i h st b hb => by
    have e : b = it := by simpa using hb
    subst e
    exact ⟨_, st, fun v z => by
      have z' : Data.fields _ = Data.cell v := z
      cases z'⟩
  keep := fun i h h' st k => k it (by simp) _ st
  item := by
    intro X hP hw hK hc i pins s σ H E I hf st hg
    subst hP hw hK
    obtain ⟨f0, f1, f2, f3, f4, f5⟩ := hf it (by simp)
    have W := Walks.range (prog := X.prog) (w := X.w) (I.ok.hd hc) it lo 1 n
    refine W.item i s _ _ hg st fun v h' tk hv st' kk => ?_
    obtain ⟨t, rfl⟩ := hv
    have I1 : Inv X pins σ H { s with heap := h', toks := tk } := I.turned (fun b o hb e => kk b o (by simpa using hb) e) f0 f1 f3 f4 f5
    refine ⟨_, rfl, go_of (s := { s with heap := h', toks := tk }) (n := "range_iterator") st' rfl rfl (by decide) ⟨.int (lo + i), H, I1, ⟨t, ?_⟩, ⟨rfl, rfl⟩, st', fun b hb => (hf b hb).1⟩⟩
    rw [Int.mul_one]
  done := by
    intro X hP hw hK hc i pins s σ H E I hf st hg
    subst hP hw hK
    obtain ⟨f0, f1, f2, f3, f4, f5⟩ := hf it (by simp)
    exact wpAny_pyNext_range_end (I.ok.hd hc) st (by have : n ≤ i := hg; omega) fun h' eb => ⟨rfl, I.turned (t' := s.toks) (fun b o hb e => eb b o hb e) f0 f1 f3 f4 f5⟩
  self := fun _ _ _ _ _ st h => wpAny_pyIter_rangeiter st h
end L2

namespace L2
open PySem PySem.Spec PyProof.Rows
section
variable {X : Cx} {tg : Expr}
theorem range_it {pins : List (Addr × Obj)} {σ : St} {H : Hp} {s : Shared} {R : It → Hp → Prop} {E : Value → Shared → Prop} {lo hi : Int} {t u v : Tok} {tk : Nat} (I : Inv X pins σ H s) (h1 : -(2 ^ 62) ≤ lo) (h2 : lo < 2 ^ 62) (h3 : -(2 ^ 62) ≤ hi) (h4 : hi < 2 ^ 62)
    (q : R (Itr lo (hi - lo).toNat) H) : wpAny (model X.prog X.w) X.A (pyIter (.ref s.heap.objs.size)) (PIE X pins σ tg R) E { s with heap := s.heap.push { cls := .type "range", data := .fields #[.int lo t, .int hi u, .int 1 v] }, toks := tk } := by
  refine wpAny_pyIter_range (IsRange.new ..) (small_one h1 h2 h3 h4) ?_
  have I1 : Inv X pins σ H { s with heap := s.heap.push { cls := .type "range", data := .fields #[.int lo t, .int hi u, .int 1 v] }, toks := tk } := I.kept fun b o e => Heap.get?_push_of_some _ e
  refine ⟨(s.heap.push { cls := .type "range", data := .fields #[.int lo t, .int hi u, .int 1 v] }).objs.size, [(s.heap.push { cls := .type "range", data := .fields #[.int lo t, .int hi u, .int 1 v] }).objs.size], _, _, H, rfl,
    I1.kept (t' := tk) fun b o e => Heap.get?_push_of_some _ e, turn_range _ lo (hi - lo).toNat, ?_, fun b hb => ?_, q⟩
  · have e1 : lo + ((0 : Nat) : Int) * 1 = lo := by simp
    have e2 : (((hi - lo).toNat : Nat) : Int) - ((0 : Nat) : Int) = Builtin.Range.rangeSize lo hi 1 := by rw [rangeSize_one]; split <;> omega
    show IsRangeIter _ _ (lo + ((0 : Nat) : Int) * 1) ((((hi - lo).toNat : Nat) : Int) - ((0 : Nat) : Int)) 1
    rw [e1, e2]
    exact Heap.get?_push_size _ rfl
  · have e : b = (s.heap.push { cls := .type "range", data := .fields #[.int lo t, .int hi u, .int 1 v] }).objs.size := by simpa using hb
    subst e
    exact I1.fpOk (Nat.le_refl _) (I1.hok.fresh (Nat.le_refl _))
def iRng1 (ta : TA) : TI := fun σ H R => ta σ H fun vs H1 => ∃ j : Int, vs = [.int j] ∧ -(2 ^ 62) ≤ j ∧ j < 2 ^ 62 ∧ R (Itr 0 j.toNat) H1
theorem pi_range1 {a : Expr} {ta : TA} {p pos : Pos} (hg : Gl X "range") (hm : X.mg "range" = none) (ha : PA X [a] ta) (hs : starEach [a] X.env = [(false, eval a X.env)] := by rfl) : PI X tg (.Call (.Name "range" p) [a] [] pos) (iRng1 ta) := by
  intro pins s σ H R I h
  refine Call_ (ld_blt I hg hm boot_range (PyProof.Rows.callWith_type1 (thn (ha pos pins s σ H _ I h) fun us s1 ⟨vs, H1, I1, r1, q1⟩ => ?_) hs rfl))
  obtain ⟨j, e, q1, q2, q⟩ := q1
  subst e
  cases r1 with
  | cons r rr =>
    cases rr
    obtain ⟨t, rfl⟩ := r
    exact call_range_1 (range_it I1 (by omega) (by omega) q1 q2 (by simpa using q))
/-! ### for -/
def tFor (wi : TI) (g : TG) (tb : TS) : TS := fun D σ H => wi σ H fun J H1 => ∃ W : Nat → Nat → St → Hp → Prop, (∃ m, W 0 m σ H1) ∧ ∀ i m σ H, W i m σ H →
  (J.stop i H ∧ D.nx σ H) ∨ (J.go i H ∧ ∃ N : St → Hp → Prop, (∀ σ' H', N σ' H' → ∃ m', m' < m ∧ W (i + 1) m' σ' H') ∧ ∀ x H', J.yld i H x H' → g x σ H' fun σ2 H2 => tb { D with nx := N, ct := N, bk := D.nx } σ2 H2)
def pinsAt (fp : List Addr) (h : Heap) : List (Addr × Obj) := fp.filterMap fun b => (h.get? b).map fun o => (b, o)
theorem mem_pinsAt {fp : List Addr} {h : Heap} {b : Addr} {o : Obj} (hb : b ∈ fp) (e : h.get? b = some o) : (b, o) ∈ pinsAt fp h := List.mem_filterMap.mpr ⟨b, hb, by rw [e]; rfl⟩
theorem of_pinsAt {fp : List Addr} {h : Heap} {p : Addr × Obj} (hp : p ∈ pinsAt fp h) : p.1 ∈ fp ∧ h.get? p.1 = some p.2 := by
  obtain ⟨b, hb, e⟩ := List.mem_filterMap.mp hp
  cases q : h.get? b with
  | none => rw [q] at e; cases e
  | some o =>
    rw [q] at e
    have e' : (b, o) = p := Option.some.inj e
    subst e'
    exact ⟨hb, q⟩
theorem Inv.pinned {pins : List (Addr × Obj)} {σ : St} {H : Hp} {s : Shared} {fp : List Addr} (I : Inv X pins σ H s) (hf : ∀ b ∈ fp, FpOk X pins H b) (ho : ∀ b ∈ fp, ∃ o, s.heap.get? b = some o ∧ ∀ v, o.data ≠ .cell v) : Inv X (pins ++ pinsAt fp s.heap) σ H s :=
  I.pins_of fun p hp => (List.mem_append.mp hp).elim (fun z => I.pin p (List.mem_append_right _ z)) fun z => by
    obtain ⟨hb, e⟩ := of_pinsAt z
    obtain ⟨f0, f1, f2, _⟩ := hf p.1 hb
    obtain ⟨o, e', d⟩ := ho p.1 hb
    rw [e] at e'; cases e'
    exact ⟨e, f0, f1, f2, d⟩
theorem Inv.unpinned {pins pl : List (Addr × Obj)} {σ : St} {H : Hp} {s : Shared} (I : Inv X (pins ++ pl) σ H s) : Inv X pins σ H s := I.pins_of fun p hp => I.pin p (List.mem_append_right _ (List.mem_append_left _ hp))
theorem ps_for {iter : Expr} {body : List Stmt} {wi : TI} {g : TG} {tb : TS} {pos : Pos} (hp : PassesOwn (model X.prog X.w) X.A X.env X.xe) (hc : X.calm = true) (hi : PI X tg iter wi) (hg : PG X tg g) (hb : PSs X body tb)
    (hs : ∀ x, foldedSetIterable iter X.env x = pure x := by intro _; rfl) : PS X (.For tg iter body [] pos) (tFor wi g tb) := by
  intro pins s σ H D I h
  refine wpAny_For (thn (hi pins s σ H _ I h) fun v s1 h1 => thn h1 fun itv s2 h2 => ?_) hs
  obtain ⟨it, fp, tn, J, H2, e, I2, T, st2, f2, W, ⟨m0, w0⟩, turn⟩ := h2
  subst e
  -- what stays true of the iterator's objects through the loop
  have stat : ∀ {H' : Hp}, (∀ b ∈ fp, H' b = none) → ∀ b ∈ fp, FpOk X pins H' b := fun hn b hb => ⟨hn b hb, (f2 b hb).2⟩
  refine codeAny_forLoop_any (fun n s' => ∃ i σ' H', Inv X pins σ' H' s' ∧ tn i s'.heap ∧ (∀ b ∈ fp, H' b = none) ∧ W i n σ' H') ?_ m0 ⟨0, σ, H2, I2, st2, fun b hb => (f2 b hb).1, w0⟩
  rintro n s3 ⟨i, σ3, H3, I3, st3, fr3, w3⟩
  rcases turn i n σ3 H3 w3 with ⟨stop, qn⟩ | ⟨go, N, hN, step⟩
  · refine wpAny_passesOwn hp (thn (T.done X rfl rfl rfl hc i pins s3 σ3 H3 X.xe I3 (stat fr3) st3 stop) fun r s4 ⟨hr, I4⟩ => ?_)
    subst hr
    exact wpAny_execs_nil ⟨σ3, H3, I4, qn⟩
  · refine wpAny_passesOwn hp (thn (T.item X rfl rfl rfl hc i pins s3 σ3 H3 X.xe I3 (stat fr3) st3 go) fun r s4 ⟨u, hr, h4⟩ => ?_)
    subst hr
    refine wpAny_passesOwn hp (thn h4 fun _ s5 ⟨x, H5, I5, r5, y5, st5, fr5⟩ => ?_)
    have I5' := I5.pinned (stat fr5) (T.obj _ _ st5)
    refine wpAny_passesOwn hp (thn (hg _ s5 σ3 H5 x u _ I5' r5 (step x H5 y5)) fun _ s6 ⟨σ6, H6, I6, q6⟩ => ?_)
    refine wpAny_passesOwn hp (thn (hb _ s6 σ6 H6 _ I6 q6) fun f s7 q7 => ?_)
    have again : ∀ {σ7 : St} {H7 : Hp}, Inv X (pins ++ pinsAt fp s5.heap) σ7 H7 s7 → N σ7 H7 → ∃ m, m < n ∧ ∃ i σ' H', Inv X pins σ' H' s7 ∧ tn i s7.heap ∧ (∀ b ∈ fp, H' b = none) ∧ W i m σ' H' := fun {σ7 H7} I7 n7 => by
      obtain ⟨m', hm, w7⟩ := hN σ7 H7 n7
      refine ⟨m', hm, i + 1, σ7, H7, I7.unpinned, T.keep _ _ _ st5 fun b hb o e => (I7.pin (b, o) (List.mem_append_right _ (List.mem_append_right _ (mem_pinsAt hb e)))).1, fun b hb => ?_, w7⟩
      obtain ⟨o, e, d⟩ := T.obj _ _ st5 b hb
      exact (I7.pin (b, o) (List.mem_append_right _ (List.mem_append_right _ (mem_pinsAt hb e)))).2.1
    cases f with
    | next => obtain ⟨σ7, H7, I7, n7⟩ := q7; exact again I7 n7
    | cont => obtain ⟨σ7, H7, I7, n7⟩ := q7; exact again I7 n7
    | brk => obtain ⟨σ7, H7, I7, q7⟩ := q7; exact ⟨σ7, H7, I7.unpinned, q7⟩
    | ret v => obtain ⟨x7, σ7, H7, I7, r7, q7⟩ := q7; exact ⟨x7, σ7, H7, I7.unpinned, r7, q7⟩
end

/-! ### the forms one uses -/
end L2

namespace L2
open PySem PySem.Spec PyProof.Rows

abbrev R2 := V → V → Hp → VK → Prop
def OpR (X : Cx) (f : Value → Value → Sem Value) (r : R2) : Prop :=
  ∀ (pins : List (Addr × Obj)) (s : Shared) (σ : St) (H : Hp) (x y : V) (v u : Value) (Q : VK), Inv X pins σ H s → RelV x v → RelV y u → r x y H Q →
    wpAny (model X.prog X.w) X.A (f v u) (EP X pins σ Q) X.xe s
def UnR (X : Cx) (f : Value → Sem Value) (r : V → Hp → VK → Prop) : Prop :=
  ∀ (pins : List (Addr × Obj)) (s : Shared) (σ : St) (H : Hp) (x : V) (v : Value) (Q : VK), Inv X pins σ H s → RelV x v → r x H Q →
    wpAny (model X.prog X.w) X.A (f v) (EP X pins σ Q) X.xe s
def CallR (X : Cx) (f : Value) (r : List V → Hp → VK → Prop) : Prop :=
  ∀ (pins : List (Addr × Obj)) (s : Shared) (σ : St) (H : Hp) (xs : List V) (us : List Value) (Q : VK), Inv X pins σ H s → Vals xs us → r xs H Q →
    wpAny (model X.prog X.w) X.A (call f us) (EP X pins σ Q) X.xe s
def TruR (X : Cx) (r : V → Hp → (Bool → Hp → Prop) → Prop) : Prop :=
  ∀ (pins : List (Addr × Obj)) (s : Shared) (σ : St) (H : Hp) (x : V) (v : Value) (Q : Bool → Hp → Prop), Inv X pins σ H s → RelV x v → r x H Q →
    wpAny (model X.prog X.w) X.A (truthy v) (TP X pins σ Q) X.xe s

def tOp (r : R2) (ta tb : TE) : TE := fun σ H Q => ta σ H fun x H1 => tb σ H1 fun y H2 => r x y H2 Q
def tUn (r : V → Hp → VK → Prop) (ta : TE) : TE := fun σ H Q => ta σ H fun x H1 => r x H1 Q
def rI (C : Int → Int → Prop) (g : Int → Int → V) : R2 := fun x y H Q => ∃ i j, x = .int i ∧ y = .int j ∧ C i j ∧ Q (g i j) H
def rI0 (g : Int → Int → V) : R2 := fun x y H Q => ∃ i j, x = .int i ∧ y = .int j ∧ Q (g i j) H
def rU (g : Int → V) : V → Hp → VK → Prop := fun x H Q => ∃ i, x = .int i ∧ Q (g i) H

section
variable {X : Cx} {a b c : Expr} {ta tb tc : TE} {pos : Pos}

theorem binT (ha : PE X a ta) (hb : PE X b tb) {pins : List (Addr × Obj)} {s : Shared} {σ : St} {H : Hp} {R : V → V → Hp → Prop} (I : Inv X pins σ H s)
    (h : ta σ H fun x H1 => tb σ H1 fun y H2 => R x y H2) {Q : Value → Shared → Prop} {f : Value → Value → Sem Value}
    (hf : ∀ v u s2 x y H2, Inv X pins σ H2 s2 → RelV x v → RelV y u → R x y H2 → wpAny (model X.prog X.w) X.A (f v u) Q X.xe s2) :
    wpAny (model X.prog X.w) X.A (eval a X.env) (fun v s₁ => wpAny (model X.prog X.w) X.A (eval b X.env) (fun u s₂ => wpAny (model X.prog X.w) X.A (f v u) Q X.xe s₂) X.xe s₁) X.xe s := by
  refine thn (ha pins s σ H _ I h) fun v s1 ⟨x, H1, I1, r1, q1⟩ => ?_
  refine thn (hb pins s1 σ H1 _ I1 q1) fun u s2 ⟨y, H2, I2, r2, q2⟩ => ?_
  exact hf v u s2 x y H2 I2 r1 r2 q2

theorem pe_op {op : Operator} {r : R2} (ho : OpR X (binaryOp op) r) (ha : PE X a ta) (hb : PE X b tb) : PE X (.BinOp a op b pos) (tOp r ta tb) := by
  intro pins s σ H Q I h
  exact wpAny_BinOp (binT ha hb I h fun v u s2 x y H2 I2 rx ry q => ho pins s2 σ H2 x y v u Q I2 rx ry q)
theorem pe_un {op : UnaryOp} {r : V → Hp → VK → Prop} (ho : UnR X (unaryOp op) r) (ha : PE X a ta) : PE X (.UnaryOp op a pos) (tUn r ta) := by
  intro pins s σ H Q I h
  exact UnaryOp_ (thn (ha pins s σ H _ I h) fun v s1 ⟨x, H1, I1, r1, q1⟩ => ho pins s1 σ H1 x v Q I1 r1 q1)
/-! ### ints -/
theorem opI {f : Value → Value → Sem Value} {C : Int → Int → Prop} {g : Int → Int → Int}
    (rule : ∀ (i j : Int) (t u : Tok) (s : Shared) (Q : Value → Shared → Prop) (E : Value → Shared → Prop), C i j → Q (.int (g i j) s.toks) { s with toks := s.toks + 1 } → wpAny (model X.prog X.w) X.A (f (.int i t) (.int j u)) Q E s) :
    OpR X f (rI C fun i j => .int (g i j)) := by
  intro pins s σ H x y v u Q I rx ry h
  obtain ⟨i, j, rfl, rfl, hc, q⟩ := h
  obtain ⟨t, rfl⟩ := rx
  obtain ⟨t', rfl⟩ := ry
  exact rule i j t t' s _ _ hc ⟨.int (g i j), H, I.tok _, ⟨_, rfl⟩, q⟩
theorem opI0 {f : Value → Value → Sem Value} {g : Int → Int → Int}
    (rule : ∀ (i j : Int) (t u : Tok) (s : Shared) (Q : Value → Shared → Prop) (E : Value → Shared → Prop), Q (.int (g i j) s.toks) { s with toks := s.toks + 1 } → wpAny (model X.prog X.w) X.A (f (.int i t) (.int j u)) Q E s) :
    OpR X f (rI0 fun i j => .int (g i j)) := by
  intro pins s σ H x y v u Q I rx ry h
  obtain ⟨i, j, rfl, rfl, q⟩ := h
  obtain ⟨t, rfl⟩ := rx
  obtain ⟨t', rfl⟩ := ry
  exact rule i j t t' s _ _ ⟨.int (g i j), H, I.tok _, ⟨_, rfl⟩, q⟩
theorem opB0 {f : Value → Value → Sem Value} {g : Int → Int → Bool}
    (rule : ∀ (i j : Int) (t u : Tok) (s : Shared) (Q : Value → Shared → Prop) (E : Value → Shared → Prop), Q (.bool (g i j)) s → wpAny (model X.prog X.w) X.A (f (.int i t) (.int j u)) Q E s) :
    OpR X f (rI0 fun i j => .bl (g i j)) := by
  intro pins s σ H x y v u Q I rx ry h
  obtain ⟨i, j, rfl, rfl, q⟩ := h
  obtain ⟨t, rfl⟩ := rx
  obtain ⟨t', rfl⟩ := ry
  exact rule i j t t' s _ _ ⟨.bl (g i j), H, I, rfl, q⟩

def CMul (i j : Int) : Prop := (-(2 ^ 64) < i ∧ i < 2 ^ 64) ∨ (-(2 ^ 64) < j ∧ j < 2 ^ 64)
theorem CMul.ok {i j : Int} (h : CMul i j) : IntMulOk i j := by
  rcases h with ⟨h1, h2⟩ | ⟨h1, h2⟩
  · exact .of_left (intBits_le_64 h1 h2)
  · exact .of_right (intBits_le_64 h1 h2)
theorem op_add : OpR X (binaryOp .Add) (rI0 fun i j => .int (i + j)) := opI0 fun _ _ _ _ _ _ _ q => add_int q
theorem op_sub : OpR X (binaryOp .Sub) (rI0 fun i j => .int (i - j)) := opI0 fun _ _ _ _ _ _ _ q => sub_int q
theorem op_mod : OpR X (binaryOp .Mod) (rI (fun _ j => 0 < j) fun i j => .int (i % j)) := opI fun i j _ _ _ _ _ hc q => by
  have h1 : (0 : Int) < j := hc
  exact mod_int' (by omega) (by rw [Int.fmod_eq_emod_of_nonneg i (by omega)]; exact q)
theorem unI {f : Value → Sem Value} {g : Int → Int}
    (rule : ∀ (i : Int) (t : Tok) (s : Shared) (Q : Value → Shared → Prop) (E : Value → Shared → Prop), Q (.int (g i) s.toks) { s with toks := s.toks + 1 } → wpAny (model X.prog X.w) X.A (f (.int i t)) Q E s) :
    UnR X f (rU fun i => .int (g i)) := by
  intro pins s σ H x v Q I rx h
  obtain ⟨i, rfl, q⟩ := h
  obtain ⟨t, rfl⟩ := rx
  exact rule i t s _ _ ⟨.int (g i), H, I.tok _, ⟨_, rfl⟩, q⟩
theorem un_neg : UnR X (unaryOp .USub) (rU fun i => .int (-i)) := unI fun _ _ _ _ _ q => neg_int q
/-! ### bools among ints: n += (a < b) -/
end

/-! ### comparisons -/
section
variable {X : Cx} {a b c : Expr} {ta tb tc : TE} {pos : Pos}
theorem fin_bl {pins : List (Addr × Obj)} {σ : St} {H : Hp} {s : Shared} {Q : VK} {k k' : Bool} (I : Inv X pins σ H s) (q : Q (.bl k) H) (e : k = k') : EP X pins σ Q (.bool k') s := by
  subst e
  exact ⟨.bl k, H, I, rfl, q⟩
theorem op_lt : OpR X (compareOp .Lt) (rI0 fun i j => .bl (decide (i < j))) := opB0 fun _ _ _ _ _ _ _ q => lt_int q
theorem op_gt : OpR X (compareOp .Gt) (rI0 fun i j => .bl (decide (j < i))) := opB0 fun _ _ _ _ _ _ _ q => gt_int q
theorem op_notN : OpR X (compareOp .IsNot) (fun x y H Q => y = .non ∧ Q (.bl (!decide (x = .non))) H) := by
  intro pins s σ H x y v u Q I rx ry h
  obtain ⟨rfl, q⟩ := h
  cases ry
  refine isnot_none_gen (fin_bl I q ?_)
  cases x <;> first
    | (cases rx; rfl)
    | (obtain ⟨t, rfl⟩ := rx; rfl)

theorem OpR.or {f : Value → Value → Sem Value} {r r' : R2} (h : OpR X f r) (h' : OpR X f r') : OpR X f (fun x y H Q => r x y H Q ∨ r' x y H Q) := by
  intro pins s σ H x y v u Q I rx ry q
  rcases q with q | q
  · exact h pins s σ H x y v u Q I rx ry q
  · exact h' pins s σ H x y v u Q I rx ry q

theorem nomark (b : Expr) {op : CmpOp} (h : op ≠ .In := by decide) (h2 : op ≠ .NotIn := by decide) : behindInMarks op b = false := by
  have e1 : (op == CmpOp.In) = false := by cases op <;> first | rfl | exact absurd rfl h
  have e2 : (op == CmpOp.NotIn) = false := by cases op <;> first | rfl | exact absurd rfl h2
  cases b <;> simp [behindInMarks, e1, e2]
def tTest (t : TE) : TT := fun σ H Q => t σ H fun x H' => ∃ k, x = .bl k ∧ Q k H'
theorem pt_cmpR {op : CmpOp} {r : R2} (ho : OpR X (compareOp op) r) (ha : PE X a ta) (hb : PE X b tb) (hm : behindInMarks op b = false) : PT X (.Compare a [op] [b] pos) (tTest (tOp r ta tb)) := by
  intro pins s σ H Q I h
  refine wpAny_isTrue_Compare1 (thn (ha pins s σ H _ I h) fun v s1 ⟨x, H1, I1, r1, q1⟩ => thn (hb pins s1 σ H1 _ I1 q1) fun u s2 ⟨y, H2, I2, r2, q2⟩ =>
    thn (ho pins s2 σ H2 x y v u _ I2 r1 r2 q2) fun c s3 ⟨z, H3, I3, r3, k, e, q3⟩ => ?_) hm
  subst e
  cases r3
  exact wpAny_truthy_bool ⟨H3, I3, q3⟩
/-! ### truth -/
def TruV (K : PySem.W.Frag) (x : V) (H : Hp) (k : Bool) : Prop :=
  match x with
  | .non => k = false
  | .bl b => k = b
  | .int i => k = (i != 0)
  | .str y => y.length ≤ sizeLine ∧ k = ((y.length : Int) != 0)
  | .byt y => y.size ≤ sizeLine ∧ k = ((y.size : Int) != 0)
  | .ref p => (∃ xs, SqL K H p xs ∧ k = !xs.isEmpty) ∨ (∃ xs, SqT K H p xs ∧ k = !xs.isEmpty) ∨ ∃ kvs, H p = some (.dK kvs) ∧ k = !kvs.isEmpty
  | _ => False
theorem isEmpty_kv {κ : Type} {kvs : List (κ × V)} {vs : List (κ × Value)} (r : KV kvs vs) : (!vs.isEmpty) = !kvs.isEmpty := by
  cases r <;> rfl
theorem isEmpty_of {xs : List V} {its : List Value} (r : Vals xs its) : (!its.toArray.isEmpty) = !xs.isEmpty := by
  cases r <;> simp
theorem line63 : (sizeLine : Nat) < 2 ^ 63 := by rw [sizeLine_eq]; decide
theorem tru_ok : TruR X (fun x H Q => ∃ k, TruV X.K x H k ∧ Q k H) := by
  intro pins s σ H x v Q I rx h
  obtain ⟨k, e, q⟩ := h
  have hl := line63
  have hs : sizeLine = 16777216 := sizeLine_eq
  cases x with
  | non =>
    cases rx
    have e' : k = false := e
    subst e'
    exact truthy_none ⟨H, I, q⟩
  | bl b =>
    cases rx
    have e' : k = b := e
    subst e'
    exact wpAny_truthy_bool ⟨H, I, q⟩
  | int i =>
    obtain ⟨t, rfl⟩ := rx
    have e' : k = (i != 0) := e
    subst e'
    exact PySem.P.truthy_int ⟨H, I, q⟩
  | str y =>
    obtain ⟨t, rfl⟩ := rx
    obtain ⟨hy, e'⟩ : y.length ≤ sizeLine ∧ k = ((y.length : Int) != 0) := e
    subst e'
    exact PySem.P.truthy_str (by omega) ⟨H, I.tok _, q⟩
  | byt y =>
    obtain ⟨t, rfl⟩ := rx
    obtain ⟨hy, e'⟩ : y.size ≤ sizeLine ∧ k = ((y.size : Int) != 0) := e
    subst e'
    exact PySem.W.truthy_bytes (by omega) ⟨H, I.tok _, q⟩
  | ref p =>
    cases rx
    have e' : (∃ xs, SqL X.K H p xs ∧ k = !xs.isEmpty) ∨ (∃ xs, SqT X.K H p xs ∧ k = !xs.isEmpty) ∨ ∃ kvs, H p = some (.dK kvs) ∧ k = !kvs.isEmpty := e
    rcases e' with ⟨xs, hx, e'⟩ | ⟨xs, hx, e'⟩ | ⟨kvs, hx, e'⟩
    · subst e'
      obtain ⟨its, r, pl, hz⟩ := I.list hx
      have hlen := r.length
      exact wpAny_truthy_list pl.isList (by simp only [List.size_toArray]; omega) ⟨H, I.tok _, by rw [isEmpty_of r]; exact q⟩
    · subst e'
      obtain ⟨its, r, pl, hz⟩ := I.tuple hx
      have hlen := r.length
      exact truthy_tuple pl (by simp only [List.size_toArray]; omega) ⟨H, I.tok _, by rw [isEmpty_of r]; exact q⟩
    · subst e'
      obtain ⟨hz, hS, vs, r, m⟩ : kvs.length ≤ sizeLine ∧ (p == sysModules) = false ∧ ∃ vs, KV kvs vs ∧ s.heap.DictOf (mixKind X.prog X.w) p vs := I.hok p _ hx
      have hlen : kvs.length = vs.length := Paired.length r
      exact wpAny_truthy_dict hS m (by omega) ⟨H, I.tok _, by rw [isEmpty_kv r]; exact q⟩
  | _ => exact (show False from e).elim
theorem pt_truth (ha : PE X a ta) (he : ∀ whole, isTrue a X.env whole = (do let v ← whole; standAt a.pos; holding [v] (truthy v))) :
    PT X a (fun σ H Q => ta σ H fun x H' => ∃ k, TruV X.K x H' k ∧ Q k H') := by
  intro pins s σ H Q I h
  exact isTrue_plain (thn (ha pins s σ H _ I h) fun v s1 ⟨x, H1, I1, r1, q1⟩ => tru_ok pins s1 σ H1 x v Q I1 r1 q1) (he _)

/-! ### strs and bytes -/
theorem op_add_str : OpR X (binaryOp .Add) (fun x y H Q => ∃ i j, x = .str i ∧ y = .str j ∧ i.length + j.length ≤ sizeLine ∧ Q (.str (i ++ j)) H) := by
  intro pins s σ H x y v u Q I rx ry h
  obtain ⟨i, j, rfl, rfl, hz, q⟩ := h
  obtain ⟨t, rfl⟩ := rx
  obtain ⟨t', rfl⟩ := ry
  exact add_str (fun t' tk => ⟨.str (i ++ j), H, I.tok _, ⟨_, rfl⟩, q⟩) hz
/-! ### scalar builtins, by CallR -/
theorem vals2 {x y : V} {us : List Value} (r : Vals [x, y] us) : ∃ u w', us = [u, w'] ∧ RelV x u ∧ RelV y w' := by
  cases r with
  | cons r1 r2 =>
    cases r2 with
    | cons r3 r4 => cases r4; exact ⟨_, _, rfl, r1, r3⟩
theorem call_max2 (hc : X.calm = true) : CallR X (.builtin "max") (fun xs H Q => ∃ i j, xs = [.int i, .int j] ∧ Q (.int (if j > i then j else i)) H) := by
  intro pins s σ H xs us Q I r h
  obtain ⟨i, j, rfl, q⟩ := h
  obtain ⟨u, w', rfl, ⟨t, rfl⟩, ⟨t', rfl⟩⟩ := vals2 r
  refine max_two_ints (I.ok.hd hc) fun h' tk k => ⟨_, H, I.kept k, ?_, q⟩
  by_cases hj : j > i
  · rw [if_pos hj, if_pos hj]; exact ⟨_, rfl⟩
  · rw [if_neg hj, if_neg hj]; exact ⟨_, rfl⟩
theorem call_min2 (hc : X.calm = true) : CallR X (.builtin "min") (fun xs H Q => ∃ i j, xs = [.int i, .int j] ∧ Q (.int (if j < i then j else i)) H) := by
  intro pins s σ H xs us Q I r h
  obtain ⟨i, j, rfl, q⟩ := h
  obtain ⟨u, w', rfl, ⟨t, rfl⟩, ⟨t', rfl⟩⟩ := vals2 r
  refine min_two_ints (I.ok.hd hc) fun h' tk k => ⟨_, H, I.kept k, ?_, q⟩
  by_cases hj : j < i
  · rw [if_pos hj, if_pos hj]; exact ⟨_, rfl⟩
  · rw [if_neg hj, if_neg hj]; exact ⟨_, rfl⟩
end
end L2

namespace L2
open PySem PySem.Spec PyProof.Rows

/-! ### an instance, its attributes a map -/
structure ObjM (h : Heap) (x dx C : Addr) (mA : Str → Option Value) : Prop where
  obj : h.get? x = some (PySem.W.instObj C dx)
  ns : h.Ns1 dx mA
  ne : dx ≠ x

theorem lookIn_ns {h : Heap} {dx : Addr} {mA : Str → Option Value} (n : h.Ns1 dx mA) : ∃ od, h.get? dx = some od ∧ ∀ name, PySem.W.lookIn name od = some (mA name) := by
  obtain ⟨o, es, ep, ho, hd, hk, _, hm⟩ := n
  refine ⟨o, ho, fun name => ?_⟩
  have e := hm name
  unfold nsFind findBy at e
  rw [← Array.find?_toList] at e
  unfold PySem.W.lookIn
  rw [hd]
  dsimp only
  split
  · rename_i y q
    rw [q] at e
    exact congrArg some e
  · rename_i q
    rw [q] at e
    have a : es.toList.any (·.refKey) = false := by
      rw [List.any_eq_false]
      intro y hy
      obtain ⟨z, t, hkey⟩ := hk y (Array.mem_toList_iff.mp hy)
      simp [DictEntry.refKey, hkey]
    have a' : ¬ es.toList.any (·.refKey) = true := by rw [a]; exact Bool.false_ne_true
    rw [if_neg a']
    exact congrArg some e

theorem ObjM.look {h : Heap} {x dx C : Addr} {mA : Str → Option Value} (I : ObjM h x dx C mA) : ∃ od, PySem.W.InstAt h x (PySem.W.instObj C dx) C (some od) ∧ ∀ name, PySem.W.lookIn name od = some (mA name) :=
  let ⟨od, ho, hl⟩ := lookIn_ns I.ns
  ⟨od, ⟨I.obj, rfl, rfl, ho⟩, hl⟩

section
variable {prog : Program} {w : World} {A : Around} {E : Value → Shared → Prop} {s : Shared} {K : PySem.W.Frag} {x dx C f : Addr} {mA : Str → Option Value} {name : Str} {v : Value}

theorem get_map {expr : Bool} {Q : Value → Shared → Prop} (X : K.In s.heap) (I : ObjM s.heap x dx C mA) (hg : PySem.W.plainGet K C name = true) (hh : PySem.W.hasDictIn K C = true)
    (ha : PySem.W.findIn K (.ref C) name = some none) (hv : mA name = some v) (hv' : PySem.W.handedIn v = true) (h : Q v { s with toks := s.toks + 1 }) :
    wpAny (model prog w) A (getAttr (.ref x) name expr) Q E s := by
  obtain ⟨od, J, hl⟩ := I.look
  exact PySem.W.get_value X J (PySem.W.plainGet_of hg).1 (PySem.W.findObj_own hh ha rfl (by rw [hl, hv])) hv' h

theorem get_meth {pl : Sem Bool} {Q : Value × List Value → Shared → Prop} (X : K.In s.heap) (I : ObjM s.heap x dx C mA) (hg : PySem.W.plainGet K C name = true)
    (hf : PySem.W.findIn K (.ref C) name = some (some (.ref f))) (ht : PySem.W.isFn K (.ref f) = true) (hv : mA name = none) (h : Q (.ref f, [.ref x]) s) :
    wpAny (model prog w) A (getMethod (.ref x) name pl) Q E s := by
  obtain ⟨od, J, hl⟩ := I.look
  exact PySem.W.method_fn X J (PySem.W.plainGet_of hg).1 (PySem.W.plainGet_of hg).2 hf (beq_iff_eq.mp ht) (by show (PySem.W.lookIn name od).map (·.isSome) = some false; rw [hl, hv]; rfl) h

theorem set_map {ns : List Str} {Q : Unit → Shared → Prop} (X : K.In s.heap) (I : ObjM s.heap x dx C mA)
    (hs : PySem.W.findIn K (.ref C) "__setattr__" = some (some (.builtin "object.__setattr__"))) (hp : PySem.W.plainOver K C = true) (ht : PySem.W.takerIn K C name = some none) (hh : PySem.W.hasDictIn K C = true)
    (hw : PySem.Within mA ns) (hsz : ns.length ≤ sizeLine)
    (h : ∀ h', ObjM h' x dx C (fun y => if y = name then some v else mA y) → Heap.SameBut dx s.heap h' → Q () { s with heap := h', toks := s.toks + 2 }) :
    wpAny (model prog w) A (setAttr (.ref x) name v) Q E s := by
  obtain ⟨od, J, hl⟩ := I.look
  refine PySem.W.set_plain X J hs (PySem.W.osa_open (s := { s with toks := s.toks + 1 }) (r := none) X J hp ht fun b => ?_)
  obtain ⟨cd, hc, hd'⟩ := PySem.W.any_some hh
  have hx : s.heap.get? x = some ⟨.ref C, some dx, .plain, #[]⟩ := I.obj
  refine wpAny_bind (wpAny_pure (wpAny_bind (wpAny_bind (wpAny_loadPart hx (wpAny_bind (PySem.W.Looks.here (s := { s with toks := s.toks + 1 }) (PySem.W.looks_clsIn X hc) ?_))))))
  rw [hd']
  refine wpAny_pure (a := some dx) (wpAny_bind (wpAny_pure (wpAny_bind ?_)))
  refine wpAny_nsSet1 (s := { s with toks := s.toks + 1 }) I.ns fun h' hn2 hs2 => ?_
  obtain ⟨oD, esD, epD, hoD, hdD, hcD⟩ := hn2.count (PySem.Within.cons name v hw)
  refine wpAny_bind (wpAny_lookBehind hoD (by rw [hdD]; exact pastItsLine_dict (Nat.le_trans hcD (by rw [List.length_cons]; omega))) ?_)
  exact wpAny_pure (h _ ⟨(hs2.2 _ (Ne.symm I.ne)).trans I.obj, hn2, I.ne⟩ hs2)

theorem make_map {R : Result → Shared → Prop} {vs : List Value} {kw : List (Str × Value)} (X : K.In s.heap) (hm : PySem.W.makesIn K C = true)
    (hi : PySem.W.findIn K (.ref C) "__init__" = some (some (.ref f))) (hf : PySem.W.typeIn K (.ref f) = some (.type "function"))
    (h : codeAny (model prog w) (A.under (.builtin "type.__call__" ⟨.ref C :: vs, kw⟩)) (.call (.ref f) ⟨.ref (s.heap.objs.size + 1) :: vs, kw⟩) (PySem.W.InitBack (s.heap.objs.size + 1) R)
      { s with heap := (s.heap.push PySem.W.emptyDict).push (PySem.W.instObj C s.heap.objs.size) }) :
    codeAny (model prog w) A (.call (.ref C) ⟨vs, kw⟩) R s := by
  obtain ⟨hh, g, d, t, os⟩ := s
  exact PySem.W.make_core (PySem.W.makes_of X hm) (PySem.W.looks_findIn X hi) (fun self => PySem.W.bind_fn X self hf) (.inl rfl) h
end

/-! ### the attributes as a list of pairs -/
def putF (f : Str) (v : V) : List (Str × V) → List (Str × V)
  | [] => [(f, v)]
  | (g, x) :: r => if g = f then (g, v) :: r else (g, x) :: putF f v r
theorem lookup_putF (f g : Str) (v : V) : ∀ fs : List (Str × V), (putF f v fs).lookup g = if g = f then some v else fs.lookup g
  | [] => by
    show List.lookup g [(f, v)] = _
    by_cases h : g = f
    · have hb : (g == f) = true := beq_iff_eq.mpr h
      simp only [List.lookup, hb, if_pos h]
    · have hb : (g == f) = false := beq_eq_false_iff_ne.mpr h
      simp only [List.lookup, hb, if_neg h]
  | (k, x) :: r => by
    have ih := lookup_putF f g v r
    rw [show putF f v ((k, x) :: r) = (if k = f then (k, v) :: r else (k, x) :: putF f v r) from rfl]
    by_cases hk : k = f
    · rw [if_pos hk]
      by_cases h : g = k
      · have hb : (g == k) = true := beq_iff_eq.mpr h
        simp only [List.lookup, hb, if_pos (h.trans hk)]
      · have hb : (g == k) = false := beq_eq_false_iff_ne.mpr h
        simp only [List.lookup, hb, if_neg (fun e : g = f => h (e.trans hk.symm))]
    · rw [if_neg hk]
      by_cases h : g = k
      · have hb : (g == k) = true := beq_iff_eq.mpr h
        simp only [List.lookup, hb, if_neg (fun e : g = f => hk (h.symm.trans e))]
      · have hb : (g == k) = false := beq_eq_false_iff_ne.mpr h
        simp only [List.lookup, hb]
        exact ih
theorem keys_putF (f : Str) (v : V) : ∀ fs : List (Str × V), f ∈ (putF f v fs).map (·.1) ∧ ∀ g, g ∈ fs.map (·.1) → g ∈ (putF f v fs).map (·.1)
  | [] => ⟨by simp [putF], fun g h => by simp at h⟩
  | (k, x) :: r => by
    obtain ⟨i1, i2⟩ := keys_putF f v r
    rw [show putF f v ((k, x) :: r) = (if k = f then (k, v) :: r else (k, x) :: putF f v r) from rfl]
    by_cases hk : k = f
    · rw [if_pos hk]
      subst hk
      exact ⟨by simp, fun g h => by simpa using h⟩
    · rw [if_neg hk]
      refine ⟨?_, fun g h => ?_⟩
      · rw [List.map_cons]
        exact List.mem_cons_of_mem _ i1
      · rw [List.map_cons] at h ⊢
        rcases List.mem_cons.mp h with e | e
        · exact List.mem_cons.mpr (.inl e)
        · exact List.mem_cons_of_mem _ (i2 g e)
theorem length_putF (f : Str) (v : V) : ∀ fs : List (Str × V), (putF f v fs).length ≤ fs.length + 1
  | [] => by simp [putF]
  | (k, x) :: r => by
    have ih := length_putF f v r
    rw [show putF f v ((k, x) :: r) = (if k = f then (k, v) :: r else (k, x) :: putF f v r) from rfl]
    by_cases hk : k = f
    · rw [if_pos hk, List.length_cons, List.length_cons]; omega
    · rw [if_neg hk, List.length_cons, List.length_cons]; omega

theorem RelO.some_of {v : V} {o : Option Value} (r : RelO (some v) o) : ∃ u, o = some u ∧ RelV v u := by
  cases o with
  | none => exact (show False from r).elim
  | some u => exact ⟨u, rfl, r⟩
theorem RelO.none_of {o : Option Value} (r : RelO none o) : o = none := by
  cases o with
  | none => rfl
  | some u => exact (show False from r).elim
theorem handed_of {v : V} {u : Value} (r : RelV v u) : PySem.W.handedIn u = true := by
  cases v with
  | non => cases (show u = Value.none from r); rfl
  | bl b => cases (show u = Value.bool b from r); rfl
  | int i => obtain ⟨t, e⟩ := (show ∃ t, u = Value.int i t from r); cases e; rfl
  | str x => obtain ⟨t, e⟩ := (show ∃ t, u = Value.str x t from r); cases e; rfl
  | byt b => obtain ⟨t, e⟩ := (show ∃ t, u = Value.bytes b t from r); cases e; rfl
  | flt b => obtain ⟨t, e⟩ := (show ∃ t, u = Value.float b t from r); cases e; rfl
  | ref a => cases (show u = Value.ref a from r); rfl
  | ty n => cases (show u = Value.type n from r); rfl

section
variable {P : Program} {w : World} {H H' : Hp} {h h' : Heap} {a C dx : Addr} {fs fs' : List (Str × V)}
theorem ins_get (hok : HOk P w H h) (e : H a = some (.ins C dx fs)) : ∃ mA, ObjM h a dx C mA ∧ (∀ f, RelO (fs.lookup f) (mA f)) ∧ PySem.Within mA (fs.map (·.1)) ∧ fs.length ≤ 1000 ∧ H dx = some (.own a) := by
  obtain ⟨d, z, ne, ob, mA, n, r, q⟩ := (show ObjOk P w H h a (.ins C dx fs) from hok a _ e)
  exact ⟨mA, ⟨ob, n, ne⟩, r, q, z, d⟩
end

/-! ### what of the text a class must have -/
structure Cls (K : PySem.W.Frag) (C : Addr) : Prop where
  pg : PySem.W.plainGet K C Str.empty = true
  hd : PySem.W.hasDictIn K C = true
  po : PySem.W.plainOver K C = true
  sa : PySem.W.findIn K (.ref C) "__setattr__" = some (some (.builtin "object.__setattr__"))
theorem Cls.get {K : PySem.W.Frag} {C : Addr} (c : Cls K C) (f : Str) : PySem.W.plainGet K C f = true := c.pg
def NoAttr (K : PySem.W.Frag) (C : Addr) (f : Str) : Prop := PySem.W.findIn K (.ref C) f = some none
theorem NoAttr.taker {K : PySem.W.Frag} {C : Addr} {f : Str} (n : NoAttr K C f) : PySem.W.takerIn K C f = some none := by
  unfold PySem.W.takerIn
  rw [show PySem.W.findIn K (.ref C) f = some none from n]
  rfl
structure Con (K : PySem.W.Frag) (C : Addr) (f : Str) (v : V) (u : Value) : Prop where
  at_ : PySem.W.findIn K (.ref C) f = some (some u)
  rel : RelV v u
  get : PySem.W.specialIn K u "__get__" = some none
  cp : PySem.W.copiedNames.contains f = false
structure Meth (K : PySem.W.Frag) (C : Addr) (m : Str) (f : Addr) : Prop where
  at_ : PySem.W.findIn K (.ref C) m = some (some (.ref f))
  fn : PySem.W.isFn K (.ref f) = true
  kp : PySem.W.keepIn K (.ref f) = true

section
variable {X : Cx} {pins : List (Addr × Obj)} {σ : St} {H : Hp} {s : Shared} {a C dx : Addr} {fs : List (Str × V)} {f : Str} {v : V} {A : Around} {E : Value → Shared → Prop}

theorem getattr_ok {b : Bool} {Q : Value → Shared → Prop} (I : Inv X pins σ H s) (e : H a = some (.ins C dx fs)) (c : Cls X.K C) (n : NoAttr X.K C f) (l : fs.lookup f = some v)
    (h : ∀ u s', Inv X pins σ H s' → RelV v u → Q u s') : wpAny (model X.prog X.w) A (getAttr (.ref a) f b) Q E s := by
  obtain ⟨mA, O, r, _, _, _⟩ := ins_get I.hok e
  obtain ⟨u, hu, ru⟩ := RelO.some_of (v := v) (o := mA f) (by rw [← l]; exact r f)
  exact get_map I.kIn O (c.get f) c.hd n hu (handed_of ru) (h u _ (I.tok _) ru)

theorem getmeth_ok {m : Str} {g : Addr} {pl : Sem Bool} {Q : Value × List Value → Shared → Prop} (I : Inv X pins σ H s) (e : H a = some (.ins C dx fs)) (c : Cls X.K C) (k : Meth X.K C m g) (l : fs.lookup m = none)
    (h : Q (.ref g, [.ref a]) s) : wpAny (model X.prog X.w) A (getMethod (.ref a) m pl) Q E s := by
  obtain ⟨mA, O, r, _, _, _⟩ := ins_get I.hok e
  have hn : mA m = none := RelO.none_of (by rw [← l]; exact r m)
  exact get_meth I.kIn O (c.get m) k.at_ k.fn hn h

theorem setattr_ok {y : V} {u : Value} {Q : Unit → Shared → Prop} (I : Inv X pins σ H s) (e : H a = some (.ins C dx fs)) (c : Cls X.K C) (n : NoAttr X.K C f) (hl : fs.length < 1000) (ry : RelV y u)
    (h : ∀ s', Inv X pins σ (upd H a (.ins C dx (putF f y fs))) s' → Q () s') : wpAny (model X.prog X.w) A (setAttr (.ref a) f u) Q E s := by
  obtain ⟨mA, O, r, wi, _, ho⟩ := ins_get I.hok e
  have hz : (fs.map (·.1)).length ≤ sizeLine := by rw [List.length_map, sizeLine_eq]; omega
  refine set_map I.kIn O c.sa c.po n.taker c.hd wi hz fun h' O' sb => h _ ?_
  have hd : ∃ o, h'.get? dx = some o := let ⟨o, _, _, e', _⟩ := O'.ns; ⟨o, e'⟩
  refine I.write (x := a) (e := dx) (by rw [e]; exact True.intro) (.inr ho) (fun b q hb z => (sb.2 b hb).trans z) hd ?_
  refine ⟨by rw [upd_ne O.ne]; exact ho, ?_, O.ne, O'.obj, _, O'.ns, fun g => ?_, fun g hg => ?_⟩
  · have := length_putF f y fs; omega
  · show RelO ((putF f y fs).lookup g) (if g = f then some u else mA g)
    rw [lookup_putF]
    by_cases q : g = f
    · rw [if_pos q, if_pos q]; exact ry
    · rw [if_neg q, if_neg q]; exact r g
  · by_cases q : g = f
    · rw [q]; exact (keys_putF f y fs).1
    · refine (keys_putF f y fs).2 g (wi g fun z => hg ?_)
      show (if g = f then some u else mA g) = none
      rw [if_neg q]; exact z

theorem Inv.made (I : Inv X pins σ H s) : Inv X pins σ (upd (upd H s.heap.objs.size (.own (s.heap.objs.size + 1))) (s.heap.objs.size + 1) (.ins C s.heap.objs.size []))
    { s with heap := (s.heap.push PySem.W.emptyDict).push (PySem.W.instObj C s.heap.objs.size) } := by
  have e1 : (s.heap.push PySem.W.emptyDict).get? s.heap.objs.size = some PySem.W.emptyDict := Heap.get?_push_size s.heap rfl
  have e2 : ((s.heap.push PySem.W.emptyDict).push (PySem.W.instObj C s.heap.objs.size)).get? (s.heap.objs.size + 1) = some (PySem.W.instObj C s.heap.objs.size) := by
    have := Heap.get?_push_size (s.heap.push PySem.W.emptyDict) (o := PySem.W.instObj C s.heap.objs.size) rfl
    rwa [Heap.size_push] at this
  have e3 : (s.heap.push PySem.W.emptyDict).Ns s.heap.objs.size (fun _ => none) := ⟨PySem.W.emptyDict, #[], _, e1, rfl, (fun e he => absurd he (by simp)), fun _ => rfl⟩
  have I1 := I.laid (a := s.heap.objs.size) (o := .own (s.heap.objs.size + 1)) (h' := s.heap.push PySem.W.emptyDict) (t' := s.toks) (fun b u q => Heap.get?_push_of_some _ q) (Nat.le_refl _) ⟨_, e1⟩
  refine I1.laid (a := s.heap.objs.size + 1) (o := .ins C s.heap.objs.size []) (t' := s.toks) (fun b u q => Heap.get?_push_of_some _ q) (Nat.le_of_eq (Heap.size_push _ _)) ?_
  have ne : s.heap.objs.size ≠ s.heap.objs.size + 1 := Nat.ne_of_lt (Nat.lt_succ_self _)
  refine ⟨by rw [upd_ne ne, upd_same], Nat.zero_le _, ne, e2, fun _ => none, (Heap.Ns1.of_empty e3).at fun o q => Heap.get?_push_of_some _ q, fun _ => True.intro, fun y hy => absurd rfl hy⟩

theorem attr_of {prog : Program} {w : World} {env : Env} {e : Expr} {f : Str} {pos : Pos} {s : Shared} {Q : Value → Shared → Prop} (hb : attributeBase e f env (eval e env) = eval e env)
    (h : wpAny (model prog w) A (eval e env) (fun o s₁ => wpAny (model prog w) A (getAttr o f true) Q E s₁) E s) : wpAny (model prog w) A (eval (.Attribute e f pos) env) Q E s :=
  Attribute_any_ h (by rw [arm_eval_Attribute, hb])
end

/-! ### readings and rules -/
def tFld (K : PySem.W.Frag) (ta : TE) (f : Str) : TE := fun σ H Q => ta σ H fun x H1 => ∃ a C dx fs v, x = .ref a ∧ H1 a = some (.ins C dx fs) ∧ Cls K C ∧ NoAttr K C f ∧ fs.lookup f = some v ∧ Q v H1
def sFld (K : PySem.W.Frag) (ta tv : TE) (f : Str) : TS := fun D σ H => tv σ H fun y H1 => ta σ H1 fun x H2 => ∃ a C dx fs, x = .ref a ∧ H2 a = some (.ins C dx fs) ∧ Cls K C ∧ NoAttr K C f ∧ fs.length < 1000 ∧
  D.nx σ (upd H2 a (.ins C dx (putF f y fs)))
section
variable {X : Cx} {o e value : Expr} {f : Str} {pos pos' tpos : Pos} {ta tv : TE}
theorem pe_fld (he : PE X e ta) (hb : attributeBase e f X.env (eval e X.env) = eval e X.env) : PE X (.Attribute e f pos) (tFld X.K ta f) := by
  intro pins s σ H Q I h
  refine attr_of hb (thn (he pins s σ H _ I h) fun u s1 ⟨x, H1, I1, rx, a, C, dx, fs, v, ex, ea, c, n, l, q⟩ => ?_)
  subst ex
  obtain rfl : u = Value.ref a := rx
  exact getattr_ok I1 ea c n l fun u' s2 I2 ru => ⟨v, H1, I2, ru, q⟩
theorem ps_fld (ha : PE X o ta) (hv : PE X value tv) (hs : swapsWith value (some (.Attribute o f pos')) pos.line X.env = pure false) : PS X (.Assign [.Attribute o f pos'] value pos) (sFld X.K ta tv f) := by
  intro pins s σ H D I h
  refine plainObj_wpAny_Assign_Attribute (thn (hv pins s σ H _ I h) fun u s1 ⟨y, H1, I1, ry, q⟩ => thn (ha pins s1 σ H1 _ I1 q) fun ov s2 ⟨x, H2, I2, rx, a, C, dx, fs, ex, ea, c, n, l, q2⟩ => ?_) hs
  subst ex
  obtain rfl : ov = Value.ref a := rx
  exact setattr_ok I2 ea c n l ry fun s3 I3 => ⟨σ, _, I3, q2⟩
end

/-! ### isinstance -/
section
variable {X : Cx} {pins : List (Addr × Obj)} {σ : St} {H : Hp} {s : Shared} {A : Around} {E : Value → Shared → Prop} {Q : Value → Shared → Prop} {c : Value} {b : Bool}
inductive TyOf (K : PySem.W.Frag) (H : Hp) : V → Value → Prop where
  | non : TyOf K H .non (.type "NoneType")
  | bl (x : Bool) : TyOf K H (.bl x) (.type "bool")
  | int (i : Int) : TyOf K H (.int i) (.type "int")
  | str (x : Str) : TyOf K H (.str x) (.type "str")
  | flt (x : UInt64) : TyOf K H (.flt x) (.type "float")
  | lst {a : Addr} {xs : List V} (e : H a = some (.lst xs)) : TyOf K H (.ref a) (.type "list")
  | frz {a : Addr} {o : Obj} {xs : List V} (e : H a = some (.frz o (.lst xs))) : TyOf K H (.ref a) (.type "list")
  | tup {a : Addr} {xs : List V} (e : H a = some (.tup xs)) : TyOf K H (.ref a) (.type "tuple")
  | dK {a : Addr} {kvs : List (Key × V)} (e : H a = some (.dK kvs)) : TyOf K H (.ref a) (.type "dict")
  | dT {a : Addr} {kvs : List (List Key × V)} (e : H a = some (.dT kvs)) : TyOf K H (.ref a) (.type "dict")
  | ins {a C dx : Addr} {fs : List (Str × V)} (e : H a = some (.ins C dx fs)) (cl : Cls K C) (ha : PySem.W.findIn K (.ref C) "__class__" = some (some (.builtin "object.__class__")))
      (hn : PySem.W.specialIn K (.builtin "object.__class__") "__get__" = some (some (.builtin "getset_descriptor.__get__"))) (htk : PySem.W.takesIn K (.builtin "object.__class__") = some true)
      (hm : PySem.W.mroIn K C (.type "object") = some true) : TyOf K H (.ref a) (.ref C)
theorem isinst_ok {x : V} {u t : Value} (I : Inv X pins σ H s) (rx : RelV x u) (ty : TyOf X.K H x t) (e : PySem.W.kitOne X.K t c = some b) (h : ∀ tk, Q (.bool b) { s with toks := tk }) :
    wpAny (model X.prog X.w) A (call (.builtin "isinstance") [u, c]) Q E s := by
  cases ty with
  | non => cases (show u = Value.none from rx); exact PySem.W.kia_one PySem.W.kitx_none I.kIn True.intro e (fun z => nomatch z) h
  | bl y => cases (show u = Value.bool y from rx); exact PySem.W.kia_one PySem.W.kitx_bool I.kIn True.intro e (fun z => nomatch z) h
  | int i => obtain ⟨t, q⟩ := (show ∃ t, u = Value.int i t from rx); cases q; exact PySem.W.kia_one PySem.W.kitx_int I.kIn True.intro e (fun z => nomatch z) h
  | str y => obtain ⟨t, q⟩ := (show ∃ t, u = Value.str y t from rx); cases q; exact PySem.W.kia_one PySem.W.kitx_str I.kIn True.intro e (fun z => nomatch z) h
  | flt y => obtain ⟨t, q⟩ := (show ∃ t, u = Value.float y t from rx); cases q; exact PySem.W.kia_one PySem.W.kitx_float I.kIn True.intro e (fun z => nomatch z) h
  | @lst a xs ea =>
    cases (show u = Value.ref a from rx)
    obtain ⟨_, _, n, _, h1⟩ := (show ObjOk X.prog X.w H s.heap a (.lst xs) from I.hok a _ ea)
    exact PySem.W.kia_one PySem.W.kitx_list I.kIn ⟨_, h1, rfl⟩ e (fun z => nomatch z) h
  | @frz a ob xs ea =>
    cases (show u = Value.ref a from rx)
    obtain ⟨_, _, _, n, _, h1⟩ := (show ObjOk X.prog X.w H s.heap a (.frz ob (.lst xs)) from I.hok a _ ea)
    exact PySem.W.kia_one PySem.W.kitx_list I.kIn ⟨_, h1, rfl⟩ e (fun z => nomatch z) h
  | @tup a xs ea =>
    cases (show u = Value.ref a from rx)
    obtain ⟨_, _, _, p⟩ := (show ObjOk X.prog X.w H s.heap a (.tup xs) from I.hok a _ ea)
    obtain ⟨o, h1, h2, _⟩ := p
    exact PySem.W.kia_one PySem.W.kitx_tuple I.kIn ⟨o, h1, h2⟩ e (fun z => nomatch z) h
  | @dK a kvs ea =>
    cases (show u = Value.ref a from rx)
    obtain ⟨_, _, vs, _, p⟩ := (show ObjOk X.prog X.w H s.heap a (.dK kvs) from I.hok a _ ea)
    obtain ⟨o, es, ep, h1, h2, _⟩ := p
    exact PySem.W.kia_one PySem.W.kitx_dict I.kIn ⟨o, h1, h2.1⟩ e (fun z => nomatch z) h
  | @dT a kvs ea =>
    cases (show u = Value.ref a from rx)
    obtain ⟨_, _, xs, _, o, es, ep, h1, h2, _⟩ := (show ObjOk X.prog X.w H s.heap a (.dT kvs) from I.hok a _ ea)
    exact PySem.W.kia_one PySem.W.kitx_dict I.kIn ⟨o, h1, h2.1⟩ e (fun z => nomatch z) h
  | @ins a C dx fs ea cl ha hn htk hm =>
    cases (show u = Value.ref a from rx)
    obtain ⟨mA, O, _⟩ := ins_get I.hok ea
    obtain ⟨od, J, _⟩ := O.look
    exact PySem.W.kia_one (PySem.W.kitx_own (cl.get _) cl.hd ha hn htk hm) I.kIn J e (fun z => nomatch z) h
end
end L2

namespace L2
open PySem PySem.Spec PyProof.Rows

/-! ### room -/
structure Room (k : Nat) (A : Around) : Prop where
  hd : A.handled = none
  dp : A.depth + 3 * k + 5 < recursionLimit
  un : A.units + 16 * k + 200 < cLine
theorem Room.mono {j k : Nat} {A : Around} (r : Room k A) (h : j ≤ k) : Room j A := ⟨r.hd, by have := r.dp; omega, by have := r.un; omega⟩
theorem Room.deeper {k : Nat} {A : Around} (r : Room (k + 1) A) (env : Env) : Room k (A.deeper env) :=
  ⟨r.hd, by have := r.dp; show A.depth + 1 + 3 * k + 5 < _; omega, by have := r.un; show A.units + 3 + 16 * k + 200 < _; omega⟩
theorem make_depth {A : Around} {C : Addr} {us : List Value} {kw : List (Str × Value)} : (A.under (.builtin "type.__call__" ⟨.ref C :: us, kw⟩)).depth = A.depth + 1 := by
  first | rfl | simp [Around.under, Code.weight, Code.isCreation, Code.isGuard, Code.isCaller, Code.frames, Code.isFrame, guardIds]
theorem make_units {A : Around} {C : Addr} {us : List Value} {kw : List (Str × Value)} : (A.under (.builtin "type.__call__" ⟨.ref C :: us, kw⟩)).units = A.units + 1 := by
  first | rfl | simp [Around.under, Code.cUnits, Code.frames, Code.isFrame]
theorem Room.make {k : Nat} {A : Around} (r : Room (k + 1) A) (C : Addr) (us : List Value) (kw : List (Str × Value)) : Room k (A.under (.builtin "type.__call__" ⟨.ref C :: us, kw⟩)) :=
  ⟨r.hd, by have := r.dp; rw [make_depth]; omega, by have := r.un; rw [make_units]; omega⟩
theorem Room.depth {k : Nat} {A : Around} (r : Room k A) : A.depth < recursionLimit := by have := r.dp; omega
theorem Room.units {k : Nat} {A : Around} (r : Room k A) : A.units + 64 < cLine := by have := r.un; omega
/-! ### argument lists and displays -/
def tNil : TA := fun _ H Q => Q [] H
def tCons (ta : TE) (tr : TA) : TA := fun σ H Q => ta σ H fun x H1 => tr σ H1 fun xs H2 => Q (x :: xs) H2
section
variable {X : Cx} {e : Expr} {es : List Expr} {te : TE} {t : TA} {pos : Pos}
theorem pa_nil : PA X [] tNil := fun _ _ _ _ H Q I h => Calls.spliced_nil ⟨[], H, I, .nil, h⟩
theorem pa_cons (ha : PE X e te) (hr : PA X es t) (hs : starEach (e :: es) X.env = (false, eval e X.env) :: starEach es X.env := by rfl) : PA X (e :: es) (tCons te t) := by
  intro pos pins s σ H Q I h
  rw [hs]
  show wpAny _ _ (spliced ((false, eval e X.env) :: backTo pos (starEach es X.env))) _ _ s
  refine Calls.spliced_cons (thn (ha pins s σ H _ I h) fun u s1 ⟨x, H1, I1, r1, q1⟩ => ?_)
  exact thn (hr pos pins s1 σ H1 _ I1 q1) fun us s2 ⟨xs, H2, I2, r2, q2⟩ => ⟨x :: xs, H2, I2, .cons r1 r2, q2⟩

def tLst (t : TA) : TE := fun σ H Q => t σ H fun xs H1 => xs.length ≤ sizeLine ∧ ∀ p, H1 p = none → Q (.ref p) (upd H1 p (.lst xs))
theorem pe_lst (h : PA X es t) : PE X (.List es pos) (tLst t) := by
  intro pins s σ H Q I hq
  refine wpAny_List_spliced (thn (h pos pins s σ H _ I hq) fun us s1 ⟨xs, H1, I1, r, z, q⟩ => ⟨by rw [← r.length]; exact z, ?_⟩)
  have hf : H1 s1.heap.objs.size = none := I1.hok.fresh (Nat.le_refl _)
  refine ⟨.ref s1.heap.objs.size, upd H1 s1.heap.objs.size (.lst xs), I1.laid (t' := s1.toks) (fun b u e => Heap.get?_push_of_some _ e) (Nat.le_refl _) ?_, rfl, q _ hf⟩
  exact ⟨z, us, 0, r, Heap.get?_push_size _ rfl⟩
end

/-! ### what a def promises -/
abbrev Sp := List V → Hp → VK → XK → Prop
abbrev CXT := List Env → Hp → Shared → XK → Value → Shared → Prop

structure Env0 (P : Program) (w : World) (K : PySem.W.Frag) (mg : Str → Option Value) (base : Heap) (A : Around) (outer : List Env) (s : Shared) (H : Hp) : Prop where
  frames : A.frames = some outer
  mod : Mod K mg base
  bs : ∀ b o, base.get? b = some o → s.heap.get? b = some o ∧ H b = none
  bsz : base.objs.size ≤ s.heap.objs.size
  funs : s.heap.FunFrames base outer
  frf : ∀ b ∈ frs outer, H b = none
  hok : HOk P w H s.heap
  bare : AllBare s.gens
def CE (outer : List Env) (P : Program) (w : World) (H : Hp) (s : Shared) (Q : VK) (u : Value) (s' : Shared) : Prop :=
  ∃ v H', s'.os = s.os ∧ AllBare s'.gens ∧ Un (frs outer) [] H H' s.heap s'.heap ∧ HOk P w H' s'.heap ∧ RelV v u ∧ Q v H'
def CR (CX : CXT) (outer : List Env) (P : Program) (w : World) (H : Hp) (s : Shared) (Q : VK) (E : XK) (r : Result) (s' : Shared) : Prop :=
  match r with
  | .ok (.ret u) => CE outer P w H s Q u s'
  | .ok _ => False
  | .error e => CX outer H s E e s'
structure FnOk (P : Program) (w : World) (K : PySem.W.Frag) (mg : Str → Option Value) (base : Heap) (CX : CXT) (k : Nat) (f : Addr) (fd : FuncData) (ps : List Str) (sp : Sp) : Prop where
  len : ∀ vs H Q E, sp vs H Q E → vs.length = ps.length
  run : ∀ (A : Around) (outer : List Env) (s : Shared) (H : Hp) (args : Args) (us : List Value) (vs : List V) (Q : VK) (E : XK), Room k A → Env0 P w K mg base A outer s H → BindsTo s fd args (ps.zip us) → Vals vs us → sp vs H Q E →
    codeAny (model P w) A (.call (.ref f) args) (CR CX outer P w H s Q E) s
theorem FnOk.mono {P : Program} {w : World} {K : PySem.W.Frag} {mg : Str → Option Value} {base : Heap} {CX : CXT} {j k : Nat} {f : Addr} {fd : FuncData} {ps : List Str} {sp : Sp} (F : FnOk P w K mg base CX j f fd ps sp) (h : j ≤ k) :
    FnOk P w K mg base CX k f fd ps sp := ⟨F.len, fun A outer s H args us vs Q E hr => F.run A outer s H args us vs Q E (hr.mono h)⟩
theorem FnOk.imp {P : Program} {w : World} {K : PySem.W.Frag} {mg : Str → Option Value} {base : Heap} {CX : CXT} {k : Nat} {f : Addr} {fd : FuncData} {ps : List Str} {sp sp' : Sp} (F : FnOk P w K mg base CX k f fd ps sp)
    (h : ∀ vs H Q E, sp' vs H Q E → sp vs H Q E) : FnOk P w K mg base CX k f fd ps sp' :=
  ⟨fun vs H Q E q => F.len vs H Q E (h _ _ _ _ q), fun A outer s H args us vs Q E hr he hb hv hs => F.run A outer s H args us vs Q E hr he hb hv (h _ _ _ _ hs)⟩

theorem Env0.make {P : Program} {w : World} {K : PySem.W.Frag} {mg : Str → Option Value} {base : Heap} {A : Around} {outer : List Env} {s : Shared} {H : Hp} (e : Env0 P w K mg base A outer s H) (C : Addr) (us : List Value) (kw : List (Str × Value)) :
    Env0 P w K mg base (A.under (.builtin "type.__call__" ⟨.ref C :: us, kw⟩)) outer s H := ⟨by first | exact e.frames | (simpa [Around.under, Code.envs, Code.isFrame, pushEnvs] using e.frames), e.mod, e.bs, e.bsz, e.funs, e.frf, e.hok, e.bare⟩
section
variable {X : Cx} {pins : List (Addr × Obj)} {σ : St} {H : Hp} {s s' : Shared}
theorem Inv.env0 (I : Inv X pins σ H s) : Env0 X.prog X.w X.K X.mg X.base X.A X.stack s H :=
  ⟨I.ok.frames, I.ok.mod, I.bs, Nat.le_trans I.ok.bsz I.sz, I.stack, I.stkFree, I.hok, I.bare⟩
theorem Inv.after {Q : VK} {u : Value} (I : Inv X pins σ H s) (h : CE X.stack X.prog X.w H s Q u s') : EP X pins σ Q u s' := by
  obtain ⟨v, H', os, bare, un, hok, r, q⟩ := h
  obtain ⟨hh, g, d, t, os'⟩ := s'
  obtain rfl : os' = s.os := os
  exact ⟨v, H', I.call (h' := hh) (g' := g) (d' := d) (t' := t) (ch := []) un hok bare (fun b z => absurd z (by simp)), r, q⟩
end

/-! ### calls -/
def tCall (sp : Sp) (dvs : List V) (E : XK) (t : TA) : TE := fun σ H Q => t σ H fun vs H1 => sp (vs ++ dvs) H1 Q E
def tMake (C : Addr) (sp : Sp) (dvs : List V) (E : XK) (t : TA) : TE := fun σ H Q => t σ H fun vs H1 => ∀ x dx, H1 x = none → H1 dx = none → dx ≠ x →
  sp (.ref x :: (vs ++ dvs)) (upd (upd H1 dx (.own x)) x (.ins C dx [])) (fun v H2 => v = .non ∧ Q (.ref x) H2) E

def Binds (K : PySem.W.Frag) (fd : FuncData) (ps : List Str) (ds : List Value) : Prop :=
  ∀ (s : Shared) (us : List Value), K.In s.heap → (us ++ ds).length = ps.length → BindsTo s fd ⟨us, []⟩ (ps.zip (us ++ ds))
theorem Binds.all {K : PySem.W.Frag} {fd : FuncData} {ps : List Str} (h : ∀ us : List Value, us.length = ps.length → bindArgs fd ⟨us, []⟩ = pure (ps.zip us)) : Binds K fd ps [] := fun s us _ hl => by
  rw [List.append_nil] at hl ⊢
  exact .of_eq (h us hl)

def Passes (CX : CXT) (X : Cx) (E : XK) : Prop := ∀ (pins : List (Addr × Obj)) (σ : St) (H : Hp) (s : Shared) (e : Value) (s' : Shared), Inv X pins σ H s → CX X.stack H s E e s' → X.xe e s'

section
variable {X : Cx} {CX : CXT} {k : Nat} {f C : Addr} {fd : FuncData} {ps : List Str} {sp : Sp} {dvs : List V} {ds : List Value} {E : XK} {x m : Str} {p pos apos : Pos} {e o : Expr} {es : List Expr} {ta : TE} {t : TA}

theorem run_fn {pins : List (Addr × Obj)} {σ : St} {H : Hp} {s : Shared} {Q : VK} {us : List Value} {vs : List V} (F : FnOk X.prog X.w X.K X.mg X.base CX k f fd ps sp) (hr : Room k X.A) (hb : Binds X.K fd ps ds) (hd : Vals dvs ds) (hx : Passes CX X E)
    (I : Inv X pins σ H s) (r : Vals vs us) (h : sp (vs ++ dvs) H Q E) : wpAny (model X.prog X.w) X.A (call (.ref f) us) (EP X pins σ Q) X.xe s := by
  have r2 : Vals (vs ++ dvs) (us ++ ds) := r.append hd
  have hl : (us ++ ds).length = ps.length := by rw [← r2.length]; exact F.len _ _ _ _ h
  refine wpAny_call (codeAny_mono (F.run X.A X.stack s H ⟨us, []⟩ (us ++ ds) (vs ++ dvs) Q E hr I.env0 (hb s us I.kIn hl) r2 h) fun r s' hq => ?_)
  cases r with
  | error e => exact hx pins σ H s e s' I hq
  | ok fl =>
    cases fl with
    | ret u => exact I.after hq
    | next => exact False.elim hq
    | brk => exact False.elim hq
    | cont => exact False.elim hq

theorem pe_call (F : FnOk X.prog X.w X.K X.mg X.base CX k f fd ps sp) (hr : Room k X.A) (hg : Gl X x) (hm : X.mg x = some (.ref f)) (hk : PySem.W.keepIn X.K (.ref f) = true) (hb : Binds X.K fd ps ds) (hd : Vals dvs ds) (hx : Passes CX X E)
    (ha : PA X (e :: es) t) (hdb : (x == ("__debug__" : Str)) = false := by decide) (he : starEach (e :: es) X.env = (false, eval e X.env) :: starEach es X.env := by rfl) (hpl : (backTo pos (starEach es X.env)).any (·.1) = false := by rfl) :
    PE X (.Call (.Name x p) (e :: es) [] pos) (tCall sp dvs E t) := by
  intro pins s σ H Q I h
  refine wpAny_Call_Name_kw (ld_glob I hg hm ?_ hdb)
  refine PySem.W.callWith_K (h₀ := X.base) I.ok.mod.kin hk (thn (ha pos pins s σ H _ I h) fun us s1 ⟨vs, H1, I1, r, q⟩ => ⟨I1.kIn, ?_⟩) he hpl
  exact run_fn F hr hb hd hx I1 r q
structure Mk (K : PySem.W.Frag) (C f : Addr) : Prop where
  makes : PySem.W.makesIn K C = true
  init : PySem.W.findIn K (.ref C) "__init__" = some (some (.ref f))
  fn : PySem.W.isFn K (.ref f) = true
  kp : PySem.W.keepIn K (.ref C) = true

theorem run_make {pins : List (Addr × Obj)} {σ : St} {H : Hp} {s : Shared} {Q : VK} {us : List Value} {vs : List V} (M : Mk X.K C f) (F : FnOk X.prog X.w X.K X.mg X.base CX k f fd ps sp) (hr : Room (k + 1) X.A) (hb : Binds X.K fd ps ds) (hd : Vals dvs ds)
    (hx : Passes CX X E) (I : Inv X pins σ H s) (r : Vals vs us)
    (h : ∀ x dx, H x = none → H dx = none → dx ≠ x → sp (.ref x :: (vs ++ dvs)) (upd (upd H dx (.own x)) x (.ins C dx [])) (fun v H2 => v = .non ∧ Q (.ref x) H2) E) :
    wpAny (model X.prog X.w) X.A (call (.ref C) us) (EP X pins σ Q) X.xe s := by
  have hq := h (s.heap.objs.size + 1) s.heap.objs.size (I.hok.fresh (Nat.le_succ _)) (I.hok.fresh (Nat.le_refl _)) (Nat.ne_of_lt (Nat.lt_succ_self _))
  have I2 := Inv.made (C := C) I
  have r2 : Vals (V.ref (s.heap.objs.size + 1) :: (vs ++ dvs)) (Value.ref (s.heap.objs.size + 1) :: (us ++ ds)) := .cons rfl (r.append hd)
  have hl : (Value.ref (s.heap.objs.size + 1) :: us ++ ds).length = ps.length := by
    have e := r2.length
    rw [F.len _ _ _ _ hq] at e
    exact e.symm
  refine wpAny_call (make_map (f := f) I.kIn M.makes M.init (beq_iff_eq.mp M.fn) (codeAny_mono (F.run _ X.stack _ _ ⟨Value.ref (s.heap.objs.size + 1) :: us, []⟩ (Value.ref (s.heap.objs.size + 1) :: (us ++ ds)) _ _ E (hr.make C us [])
    (I2.env0.make C us []) (hb _ (Value.ref (s.heap.objs.size + 1) :: us) I2.kIn hl) r2 hq) fun r s' hq' => ?_))
  cases r with
  | error e => exact hx pins σ _ _ e s' I2 hq'
  | ok fl =>
    cases fl with
    | ret u =>
      obtain ⟨v, H', I3, rv, ev, q3⟩ := I2.after hq'
      subst ev
      exact ⟨rv, ⟨V.ref (s.heap.objs.size + 1), H', I3, rfl, q3⟩⟩
    | next => exact False.elim hq'
    | brk => exact False.elim hq'
    | cont => exact False.elim hq'
theorem pe_make (M : Mk X.K C f) (F : FnOk X.prog X.w X.K X.mg X.base CX k f fd ps sp) (hr : Room (k + 1) X.A) (hg : Gl X x) (hm : X.mg x = some (.ref C)) (hb : Binds X.K fd ps ds) (hd : Vals dvs ds) (hx : Passes CX X E)
    (ha : PA X (e :: es) t) (hdb : (x == ("__debug__" : Str)) = false := by decide) (he : starEach (e :: es) X.env = (false, eval e X.env) :: starEach es X.env := by rfl) (hpl : (backTo pos (starEach es X.env)).any (·.1) = false := by rfl) :
    PE X (.Call (.Name x p) (e :: es) [] pos) (tMake C sp dvs E t) := by
  intro pins s σ H Q I h
  refine wpAny_Call_Name_kw (ld_glob I hg hm ?_ hdb)
  refine PySem.W.callWith_K (h₀ := X.base) I.ok.mod.kin M.kp (thn (ha pos pins s σ H _ I h) fun us s1 ⟨vs, H1, I1, r, q⟩ => ⟨I1.kIn, ?_⟩) he hpl
  exact run_make M F hr hb hd hx I1 r q
end

/-! ### keywords -/
section
variable {X : Cx} {CX : CXT} {k : Nat} {f C : Addr} {fd : FuncData} {ps ks : List Str} {sp : Sp} {E : XK} {x m : Str} {p pos apos kpos : Pos} {e o : Expr} {es : List Expr} {kws : List Keyword} {te ta : TE} {t tk : TA} {nm : Option Str}
structure KBinds (K : PySem.W.Frag) (fd : FuncData) (ps ks : List Str) (g : List Value → List Value → List Value) (gV : List V → List V → List V) : Prop where
  to : ∀ (s : Shared) (us ws : List Value), K.In s.heap → (g us ws).length = ps.length → BindsTo s fd ⟨us, ks.zip ws⟩ (ps.zip (g us ws))
  rel : ∀ {vs : List V} {us : List Value} {zs : List V} {ws : List Value}, Vals vs us → Vals zs ws → Vals (gV vs zs) (g us ws)
variable {g : List Value → List Value → List Value} {gV : List V → List V → List V}
end

/-! ### a def's body keeps its promise -/
structure FnScope (N P : List Str) (sc : Scope) : Prop where
  kind : sc.kind = .function
  co : sc.isCoroutine = false
  gen : sc.isGenerator = false
  nd : N.Nodup
  pre : N.take P.length = P
  par : ∀ x ∈ P, sc.names.lookup x = some .local ∨ sc.names.lookup x = some .cell
  nofree : ∀ y ∈ sc.names, y.2 ≠ .free

theorem bindL_out {kindOf : Str → Option NameKind} {x : Str} : ∀ {binds : List (Str × Value)} {m : Str → Option Value}, (∀ v, (x, v) ∉ binds) → bindL kindOf binds m x = m x
  | [], _, _ => rfl
  | (n, v) :: r, m, h => by
    unfold bindL
    rw [bindL_out fun w hw => h w (List.mem_cons_of_mem _ hw)]
    split
    · have : x ≠ n := by rintro rfl; exact h v List.mem_cons_self
      simp [this]
    · rfl
theorem bindC_out {kindOf : Str → Option NameKind} {x : Str} : ∀ {binds : List (Str × Value)} {m : Str → Option Value}, (∀ v, (x, v) ∉ binds) → bindC kindOf binds m x = m x
  | [], _, _ => rfl
  | (n, v) :: r, m, h => by
    unfold bindC
    rw [bindC_out fun w hw => h w (List.mem_cons_of_mem _ hw)]
    split
    · rfl
    · have : x ≠ n := by rintro rfl; exact h v List.mem_cons_self
      simp [this]
theorem bindL_get {kindOf : Str → Option NameKind} {x : Str} {v : Value} : ∀ {P : List Str} {vs : List Value} {i : Nat} {m : Str → Option Value}, P.Nodup → P[i]? = some x → vs[i]? = some v → kindOf x = some .local →
    bindL kindOf (P.zip vs) m x = some v
  | [], _, _, _, _, h, _, _ => by simp at h
  | _ :: _, [], _, _, _, _, h, _ => by simp at h
  | p :: P, w :: vs, 0, m, nd, h1, h2, hk => by
    simp at h1 h2; subst h1; subst h2
    show bindL kindOf ((p, w) :: P.zip vs) m p = _
    unfold bindL
    rw [bindL_out fun v hv => (List.nodup_cons.mp nd).1 (List.of_mem_zip hv).1, if_pos hk]
    simp
  | p :: P, w :: vs, i + 1, m, nd, h1, h2, hk => by
    show bindL kindOf ((p, w) :: P.zip vs) m x = _
    unfold bindL
    exact bindL_get (i := i) (List.nodup_cons.mp nd).2 (by simpa using h1) (by simpa using h2) hk
theorem bindC_get {kindOf : Str → Option NameKind} {x : Str} {v : Value} : ∀ {P : List Str} {vs : List Value} {i : Nat} {m : Str → Option Value}, P.Nodup → P[i]? = some x → vs[i]? = some v → kindOf x ≠ some .local →
    bindC kindOf (P.zip vs) m x = some v
  | [], _, _, _, _, h, _, _ => by simp at h
  | _ :: _, [], _, _, _, _, h, _ => by simp at h
  | p :: P, w :: vs, 0, m, nd, h1, h2, hk => by
    simp at h1 h2; subst h1; subst h2
    show bindC kindOf ((p, w) :: P.zip vs) m p = _
    unfold bindC
    rw [bindC_out fun v hv => (List.nodup_cons.mp nd).1 (List.of_mem_zip hv).1, if_neg hk]
    simp
  | p :: P, w :: vs, i + 1, m, nd, h1, h2, hk => by
    show bindC kindOf ((p, w) :: P.zip vs) m x = _
    unfold bindC
    exact bindC_get (i := i) (List.nodup_cons.mp nd).2 (by simpa using h1) (by simpa using h2) hk

def start (N : List Str) (vs : List V) : St := vs.map some ++ List.replicate (N.length - vs.length) none

def cxOf (CX : CXT) (P : Program) (w : World) (K : PySem.W.Frag) (mg : Str → Option Value) (base : Heap) (N : List Str) (qual : Str) (scope : Scope) (f : Addr) (cd : Value) (A : Around) (outer : List Env) (s : Shared) (H : Hp) (E : XK) : Cx where
  prog := P
  w := w
  K := K
  mg := mg
  base := base
  A := A.deeper (envOfC qual scope s.heap.objs.size f cd)
  N := N
  s₀ := s
  H₀ := H
  env := envOfC qual scope s.heap.objs.size f cd
  outer := outer
  stack := envOfC qual scope s.heap.objs.size f cd :: outer
  ex := []
  calm := true
  fn := fun _ => true
  pn := []
  xe := fun e s' => wpAny (model P w) (A.deeper (envOfC qual scope s.heap.objs.size f cd)) (leaving (envOfC qual scope s.heap.objs.size f cd) e) (fun _ s'' => CX outer H s E e s'') (fun e' s'' => CX outer H s E e' s'') s'

theorem cell_has {sc : Scope} {n : Nat} {x : Str} (h : sc.names.lookup x = some .cell) : ∃ c, (cellsFrom n sc.names []).lookup x = some c := by
  have q := PySem.W.cellsFrom_some sc.names n [] (.inl h)
  exact Option.isSome_iff_exists.mp q

theorem inv_start {CX : CXT} {P : Program} {w : World} {K : PySem.W.Frag} {mg : Str → Option Value} {base : Heap} {N ps : List Str} {qual : Str} {scope : Scope} {f : Addr} {cd : Value} {A : Around} {outer : List Env} {s s1 : Shared} {H : Hp} {E : XK} {us : List Value} {vs : List V}
    (S : FnScope N ps scope) (hd : A.handled = none) (e0 : Env0 P w K mg base A outer s H) (hl : vs.length = ps.length) (r : Vals vs us)
    (x : InCallC s s.heap.objs.size (bindL (envOfC qual scope s.heap.objs.size f cd).kindOf (ps.zip us) fun _ => none) (cellsFrom (s.heap.objs.size + 1) scope.names []) (bindC (envOfC qual scope s.heap.objs.size f cd).kindOf (ps.zip us) fun _ => none) s1) :
    Inv (cxOf CX P w K mg base N qual scope f cd A outer s H E) [] (start N vs) H s1 := by
  have hpl : ps.length ≤ N.length := by have := congrArg List.length S.pre; rw [List.length_take] at this; omega
  obtain ⟨h1, tk, rfl, hk⟩ := x.done
  have noA : ∀ b : Addr, b ∉ (cxOf CX P w K mg base N qual scope f cd A outer s H E).ex := fun b z => absurd (show b ∈ ([] : List Addr) from z) (by simp)
  refine ⟨⟨e0.mod, S.kind, rfl, rfl, Nat.le_refl _, fun y z c h1 h2 => ?_, fun y hy => ?_, fun y c _ h => ?_, fun _ => hd, Around.frames_deeper e0.frames, .inr ⟨rfl, rfl⟩, fun b z => absurd z (noA b), e0.bs, e0.bsz, fun b _ _ => noA b, fun b z => absurd z (noA b), e0.funs, e0.frf⟩,
    rfl, e0.bare, Un.kept hk, ⟨_, x.toInCall.ns, fun i y v h1 h2 h3 => ?_⟩, fun y c h => ⟨_, x.cell y c h⟩, e0.hok.fresh (Nat.le_refl _), fun y c h => ?_, fun p hp => absurd (show p ∈ ([] : List (Addr × Obj)) from hp) (by simp), e0.hok.kept hk, ?_⟩
  · exact name_of_addr x.apart (PySem.mem_of_lookup h1) (PySem.mem_of_lookup h2)
  · have hy : scope.names.lookup y = some .cell ∨ scope.names.lookup y = some .free := hy
    rcases hy with hy | hy
    · exact cell_has hy
    · exact absurd rfl (S.nofree _ (PySem.mem_of_lookup hy))
  · exact Nat.le_of_lt (x.above y c (PySem.mem_of_lookup h))
  · have hi : i < vs.length := by
      unfold start at h2
      by_cases hi : i < vs.length
      · exact hi
      · rw [List.getElem?_append_right (by simpa using hi)] at h2
        rw [List.getElem?_replicate] at h2
        split at h2 <;> cases h2
    have ha : vs[i]? = some v := by
      unfold start at h2
      rw [List.getElem?_append_left (by simpa using hi), List.getElem?_map] at h2
      cases e : vs[i]? with
      | none => rw [e] at h2; cases h2
      | some a => rw [e] at h2; cases h2; rfl
    obtain ⟨u, hu, rv⟩ := r.get ha
    have hp : ps[i]? = some y := by
      rw [← S.pre, List.getElem?_take_of_lt (by omega)]; exact h1
    have ndP : ps.Nodup := by rw [← S.pre]; exact S.nd.sublist (List.take_sublist _ _)
    refine ⟨u, rv, ?_⟩
    rcases S.par y (List.mem_of_getElem? hp) with k | k
    · exact .inl ⟨k, bindL_get ndP hp hu k⟩
    · obtain ⟨c, e⟩ := cell_has (n := s.heap.objs.size + 1) k
      refine .inr ⟨.inl k, c, e, ?_⟩
      have q := x.cell y c e
      rw [bindC_get ndP hp hu (by show scope.names.lookup y ≠ _; rw [k]; decide)] at q
      exact q
  · exact e0.hok.fresh (Nat.le_of_lt (x.above y c (PySem.mem_of_lookup h)))
  · unfold start
    show _ = N.length
    rw [List.length_append, List.length_map, List.length_replicate]
    omega

theorem fn_of {CX : CXT} {P : Program} {w : World} {K : PySem.W.Frag} {mg : Str → Option Value} {base : Heap} {k : Nat} {f : Addr} {name qual : Str} {params : Arguments} {body : List Stmt} {scope : Scope} {dV kV doc pm cdv ct oc : Value} {an od : Option Addr}
    {osl : Array (Option Value)} {N ps : List Str} {sp : Sp} (lk : K.lookup f = some ⟨oc, od, .func (PySem.W.fnOf name qual params body scope dV kV doc pm an cdv ct), osl⟩) (hcd : PySem.W.codeIn K cdv qual = true) (S : FnScope N ps scope)
    (len : ∀ vs H Q E, sp vs H Q E → vs.length = ps.length)
    (hbody : ∀ (A : Around) (outer : List Env) (s : Shared) (H : Hp) (vs : List V) (Q : VK) (E : XK), Room k (A.deeper (envOfC qual scope s.heap.objs.size f cdv)) → sp vs H Q E →
      ∃ t, PSs (cxOf CX P w K mg base N qual scope f cdv A outer s H E) body t ∧ t { nx := fun _ H' => Q .non H', rt := Q } (start N vs) H) :
    FnOk P w K mg base CX (k + 1) f (PySem.W.fnOf name qual params body scope dV kV doc pm an cdv ct) ps sp := by
  refine ⟨len, fun A outer s H args us vs Q E hr e0 hb r hsp => ?_⟩
  have hl := len _ _ _ _ hsp
  have KX : K.In s.heap := e0.mod.kin.keeps fun b o e => (e0.bs b o e).1
  have lim : s.heap.NoLimit := e0.mod.nolimit.keeps fun b o e => (e0.bs b o e).1
  have hkind : ∀ y ∈ ps.zip us, scope.names.lookup y.1 = some .local ∨ (scope.names.lookup y.1 = some .cell ∧ ((cellsFrom (s.heap.objs.size + 1) scope.names []).lookup y.1).isSome = true) := fun ⟨n, v⟩ hy => by
    rcases S.par n (List.of_mem_zip hy).1 with q | q
    · exact .inl q
    · exact .inr ⟨q, PySem.W.cellsFrom_some _ _ _ (.inl q)⟩
  refine codeAny_call_function hr.depth (KX _ _ lk) rfl S.co S.gen rfl (PySem.W.codeRec_of KX hcd) (hb _ _ _ _ ?_)
  refine wpAny_newFunctionEnv_cells S.kind hkind fun env he s1 x => ?_
  subst he
  refine ⟨lim.keeps x.toInCall.keep, codeAny_func ?_⟩
  obtain ⟨t, ht, hq⟩ := hbody A outer s H vs Q E (hr.deeper _) hsp
  have I : Inv (cxOf CX P w K mg base N qual scope f cdv A outer s H E) [] (start N vs) H s1 := inv_start S hr.hd e0 hl r x
  refine wpAny_mono (ht [] s1 (start N vs) H _ I hq) (fun fl s' hs => ?_) fun e s' hs => hs
  have fin : ∀ {σ' : St} {H' : Hp} {v : V} {u : Value}, Inv (cxOf CX P w K mg base N qual scope f cdv A outer s H E) [] σ' H' s' → RelV v u → Q v H' → CE outer P w H s Q u s' :=
    fun {σ' H' v u} J rv q => ⟨v, H', J.os, J.bare, J.base, J.hok, rv, q⟩
  cases fl with
  | ret u =>
    obtain ⟨v, σ', H', J, rv, q⟩ := hs
    exact fin J rv q
  | next =>
    obtain ⟨σ', H', J, q⟩ := hs
    exact fin (v := V.non) (u := Value.none) J rfl q
  | brk =>
    obtain ⟨_, _, _, q⟩ := hs
    exact False.elim q
  | cont =>
    obtain ⟨_, _, _, q⟩ := hs
    exact False.elim q
end L2

namespace L2
open PySem PySem.Spec PyProof.Rows
section
variable {X : Cx} {x : Str} {p pos : Pos} {e : Expr} {es : List Expr} {t : TA} {id T : String} {r : List V → Hp → VK → Prop}

def tCB (r : List V → Hp → VK → Prop) (t : TA) : TE := fun σ H Q => t σ H fun vs H1 => r vs H1 Q
theorem pe_callB (hc : CallR X (.builtin id) r) (hg : Gl X x) (hm : X.mg x = none) (hv : bootBuiltins x = some (.builtin id)) (ha : PA X (e :: es) t) (hn : x ≠ "__name__" := by decide) (hdb : (x == ("__debug__" : Str)) = false := by decide)
    (he : starEach (e :: es) X.env = (false, eval e X.env) :: starEach es X.env := by rfl) (hpl : (backTo pos (starEach es X.env)).any (·.1) = false := by rfl) : PE X (.Call (.Name x p) (e :: es) [] pos) (tCB r t) := by
  intro pins s σ H Q I h
  refine wpAny_Call_Name_kw (ld_blt I hg hm hv ?_ hn hdb)
  exact PyProof.Rows.callWith_builtin1 (thn (ha pos pins s σ H _ I h) fun us s1 ⟨vs, H1, I1, r1, q1⟩ => hc pins s1 σ H1 vs us Q I1 r1 q1) he hpl
end
end L2

namespace HT
open PySem PyProof.Rows

section
open PySem.SeqAt
open PySem.AutoSeq1 (wpAny_loadPart')
open PySem.MeetsSeq PySem.MeetsSeq2 PySem.MeetsSeq3

end

section
variable {prog : Program} {w : World} {A : Around} {E : Value → Shared → Prop} {s : Shared}

/-! ### t[a:b], not the whole -/
end
end HT

namespace L2
open PySem PySem.Spec PyProof.Rows

/-! ### the parts of a slice -/
abbrev TO := St → Hp → (Option Int → Hp → Prop) → Prop
def PO (X : Cx) (e : Option Expr) (t : TO) : Prop :=
  ∀ (pins : List (Addr × Obj)) (s : Shared) (σ : St) (H : Hp) (Q : Option Int → Hp → Prop), Inv X pins σ H s → t σ H Q →
    wpAny (model X.prog X.w) X.A (evalPart e X.env) (fun u s' => ∃ o H', Inv X pins σ H' s' ∧ IsPart u o ∧ Q o H') X.xe s
def tPart (t : TE) : TO := fun σ H Q => t σ H fun x H1 => ∃ i, x = .int i ∧ Q (some i) H1

section
variable {X : Cx} {e : Expr} {te : TE} {lo hi : Option Expr} {tl th : TO} {pos p2 : Pos}

theorem po_some (h : PE X e te) : PO X (some e) (tPart te) := by
  intro pins s σ H Q I hw
  rw [evalPart_some]
  refine thn (h pins s σ H _ I hw) fun u s1 ⟨x, H1, I1, r1, q1⟩ => ?_
  obtain ⟨i, rfl, q⟩ := q1
  obtain ⟨t, rfl⟩ := r1
  exact ⟨some i, H1, I1, .int i t, q⟩

def SlR (X : Cx) (r : V → Option Int → Option Int → Hp → VK → Prop) : Prop :=
  ∀ (pins : List (Addr × Obj)) (s : Shared) (σ : St) (H : Hp) (x : V) (v vl vu : Value) (lo hi : Option Int) (sl : Addr) (Q : VK), Inv X pins σ H s → RelV x v → s.heap.IsSliceOf sl vl vu .none → IsPart vl lo → IsPart vu hi → r x lo hi H Q →
    ∃ T id, typeLookup (.type T) "__getitem__" = pure (some (.builtin id)) ∧ s.TypeIs v T ∧ wpAny (model X.prog X.w) X.A (getItem v (.ref sl)) (EP X pins σ Q) X.xe s
theorem SlR.or {r r' : V → Option Int → Option Int → Hp → VK → Prop} (h : SlR X r) (h' : SlR X r') : SlR X (fun x lo hi H Q => r x lo hi H Q ∨ r' x lo hi H Q) := by
  intro pins s σ H x v vl vu lo hi sl Q I rx hs pl pu q
  rcases q with q | q
  · exact h pins s σ H x v vl vu lo hi sl Q I rx hs pl pu q
  · exact h' pins s σ H x v vl vu lo hi sl Q I rx hs pl pu q
def tSl (r : V → Option Int → Option Int → Hp → VK → Prop) (te : TE) (tl th : TO) : TE := fun σ H Q => te σ H fun x H1 => tl σ H1 fun l H2 => th σ H2 fun u H3 => r x l u H3 Q
theorem pe_slice {r : V → Option Int → Option Int → Hp → VK → Prop} (hr : SlR X r) (he : PE X e te) (hl : PO X lo tl) (hu : PO X hi th) : PE X (.Subscript e (.Slice lo hi none p2) pos) (tSl r te tl th) := by
  intro pins s σ H Q I h
  refine Subscript_ (thn (he pins s σ H _ I h) fun v s1 ⟨x, H1, I1, r1, q1⟩ => ?_)
  refine wpAny_Slice (thn (hl pins s1 σ H1 _ I1 q1) fun vl s2 ⟨l, H2, I2, pl, q2⟩ => thn (hu pins s2 σ H2 _ I2 q2) fun vu s3 ⟨u, H3, I3, pu, q3⟩ => ?_)
  rw [evalPart_none]
  refine wpAny_pure ?_
  have I4 : Inv X pins σ H3 { s3 with heap := s3.heap.push { cls := .type "slice", data := .fields #[vl, vu, .none] } } := I3.kept (t' := s3.toks) fun b ob q => Heap.get?_push_of_some _ q
  obtain ⟨T, id, hT, ht, hg⟩ := hr pins { s3 with heap := s3.heap.push { cls := .type "slice", data := .fields #[vl, vu, .none] } } σ H3 x v vl vu l u s3.heap.objs.size Q I4 r1 (Heap.IsSliceOf.new ..) pl pu q3
  show wpAny (model X.prog X.w) X.A (subscriptTail e (.Slice lo hi none p2) v (.ref s3.heap.objs.size)) (EP X pins σ Q) X.xe { s3 with heap := s3.heap.push { cls := .type "slice", data := .fields #[vl, vu, .none] } }
  exact tail_any (ops := [.ref s3.heap.objs.size, v]) ht hT hg (by with_unfolding_all rfl)

def cutV (xs : List V) (lo hi : Option Int) : List V := (xs.drop (HT.sIx xs.length 0 lo)).take (HT.sIx xs.length xs.length hi - HT.sIx xs.length 0 lo)
theorem cutV_length (xs : List V) (lo hi : Option Int) : (cutV xs lo hi).length ≤ xs.length := by
  unfold cutV
  rw [List.length_take, List.length_drop]
  omega
/-! ### t < u, t + u -/
end
end L2

namespace L2
open PySem PySem.Spec PyProof.Rows

/-! ### places -/
theorem ixN_seq {n : Nat} {i : Int} {j : Nat} (h : ixN n i = some j) : seqIndex? i n = some j ∧ j < n ∧ -(n : Int) ≤ i ∧ i < n := by
  unfold ixN at h
  by_cases h0 : 0 ≤ i
  · rw [if_pos h0] at h
    by_cases h1 : i < n
    · rw [if_pos h1] at h
      have e : i.toNat = j := Option.some.inj h
      exact ⟨by rw [seqIndex_of h0 h1, e], by omega, by omega, h1⟩
    · rw [if_neg h1] at h; cases h
  · rw [if_neg h0] at h
    by_cases h1 : -(n : Int) ≤ i
    · rw [if_pos h1] at h
      have e : (i + n).toNat = j := Option.some.inj h
      exact ⟨by rw [seqIndex_neg (by omega) h1, e], by omega, h1, by omega⟩
    · rw [if_neg h1] at h; cases h
theorem atI_get {α : Type} {xs : List α} {i : Int} {v : α} (h : atI xs i = some v) : ∃ j, seqIndex? i xs.length = some j ∧ xs[j]? = some v ∧ j < xs.length ∧ -(xs.length : Int) ≤ i ∧ i < xs.length := by
  unfold atI at h
  cases e : ixN xs.length i with
  | none => rw [e] at h; cases h
  | some j =>
    rw [e] at h
    obtain ⟨h1, h2, h3, h4⟩ := ixN_seq e
    exact ⟨j, h1, h, h2, h3, h4⟩
/-! ### what may be subscripted -/
def PlainIx (b : Expr) : Prop := ∀ o i, subscripted b false o i = operate [o, i] (getItem o i)
def IxR (X : Cx) (r : R2) : Prop :=
  ∀ (value slice : Expr) (pins : List (Addr × Obj)) (s : Shared) (σ : St) (H : Hp) (x y : V) (v u : Value) (Q : VK), Inv X pins σ H s → RelV x v → RelV y u → r x y H Q →
    subscripted slice false v u = operate [v, u] (getItem v u) → wpAny (model X.prog X.w) X.A (subscriptTail value slice v u) (EP X pins σ Q) X.xe s
def MtR (X : Cx) (id : String) (r : V → List V → Hp → VK → Prop) : Prop :=
  ∀ (pins : List (Addr × Obj)) (s : Shared) (σ : St) (H : Hp) (x : V) (xs : List V) (v : Value) (us : List Value) (Q : VK), Inv X pins σ H s → RelV x v → Vals xs us → r x xs H Q →
    wpAny (model X.prog X.w) X.A (call (.builtin id) (v :: us)) (EP X pins σ Q) X.xe s
section
variable {X : Cx} {a b : Expr} {ta tb : TE} {pos : Pos}
theorem IxR.or {r r' : R2} (h : IxR X r) (h' : IxR X r') : IxR X (fun x y H Q => r x y H Q ∨ r' x y H Q) := by
  intro value slice pins s σ H x y v u Q I rx ry q hs
  rcases q with q | q
  · exact h value slice pins s σ H x y v u Q I rx ry q hs
  · exact h' value slice pins s σ H x y v u Q I rx ry q hs
theorem MtR.or {id : String} {r r' : V → List V → Hp → VK → Prop} (h : MtR X id r) (h' : MtR X id r') : MtR X id (fun x xs H Q => r x xs H Q ∨ r' x xs H Q) := by
  intro pins s σ H x xs v us Q I rx rs q
  rcases q with q | q
  · exact h pins s σ H x xs v us Q I rx rs q
  · exact h' pins s σ H x xs v us Q I rx rs q
theorem pe_ix {r : R2} (hr : IxR X r) (ha : PE X a ta) (hb : PE X b tb) (hs : PlainIx b) : PE X (.Subscript a b pos) (tOp r ta tb) := by
  intro pins s σ H Q I h
  exact Subscript_ (binT ha hb I h fun v u s2 x y H2 I2 rx ry q => hr a b pins s2 σ H2 x y v u Q I2 rx ry q (hs _ _))

def rIxL (K : PySem.W.Frag) : R2 := fun x y H Q => ∃ p xs i v, x = .ref p ∧ y = .int i ∧ SqL K H p xs ∧ atI xs i = some v ∧ Q v H
def rIxT (K : PySem.W.Frag) : R2 := fun x y H Q => ∃ p xs i v, x = .ref p ∧ y = .int i ∧ SqT K H p xs ∧ atI xs i = some v ∧ Q v H
def rIxS : R2 := fun x y H Q => ∃ z i c, x = .str z ∧ y = .int i ∧ z.length ≤ sizeLine ∧ atI z.cps.toList i = some c ∧ Q (.str ⟨#[c]⟩) H
theorem ix_list : IxR X (rIxL X.K) := by
  intro value slice pins s σ H x y v u Q I rx ry h hs
  obtain ⟨p, xs, i, z, rfl, rfl, hq, he, q⟩ := h
  cases rx
  obtain ⟨t, rfl⟩ := ry
  obtain ⟨its, r, pl, hz⟩ := I.list hq
  obtain ⟨j, h1, h2, h3, h4, h5⟩ := atI_get he
  obtain ⟨w, ew, rw'⟩ := r.get h2
  have hl := r.length
  have hn := line63
  have fin : EP X pins σ Q w s := ⟨z, H, I, rw', q⟩
  by_cases h0 : 0 ≤ i
  · have hj : i.toNat = j := by
      rw [seqIndex_of h0 h5] at h1
      exact Option.some.inj h1
    exact item_listR pl.isList h0 (by omega) (by rw [hj]; simpa using ew) fin hs
  · have hj : (i + (its.toArray.size : Int)).toNat = j := by
      rw [seqIndex_neg (by omega) h4] at h1
      rw [List.size_toArray, ← hl]
      exact Option.some.inj h1
    exact subscriptTail_builtinR (x := w) pl.isList.typeIs slot_list_getitem.lookup
      (wpAny_getItem_list_neg (Q := fun r s' => r = w ∧ EP X pins σ Q r s') pl.isList (by omega) (by rw [List.size_toArray] <;> omega) (by omega) (by rw [hj]; simpa using ew) ⟨rfl, fin⟩) hs
theorem ix_tup : IxR X (rIxT X.K) := by
  intro value slice pins s σ H x y v u Q I rx ry h hs
  obtain ⟨p, xs, i, z, rfl, rfl, hq, he, q⟩ := h
  cases rx
  obtain ⟨t, rfl⟩ := ry
  obtain ⟨its, r, pl, hz⟩ := I.tuple hq
  obtain ⟨j, h1, h2, h3, h4, h5⟩ := atI_get he
  obtain ⟨w, ew, rw'⟩ := r.get h2
  have hl := r.length
  have hn := line63
  have fin : EP X pins σ Q w s := ⟨z, H, I, rw', q⟩
  exact subscriptTail_builtinR (x := w) pl.typeIs slot_tuple_getitem.lookup
    (getItem_tuple (j := j) (Q := fun r s' => r = w ∧ EP X pins σ Q r s') pl (by omega) (by omega) (by rw [List.size_toArray, ← hl]; exact h1) (by simpa using ew) ⟨rfl, fin⟩) hs
theorem ix_str : IxR X rIxS := by
  intro value slice pins s σ H x y v u Q I rx ry h hs
  obtain ⟨z, i, c, rfl, rfl, hz, he, q⟩ := h
  obtain ⟨t, rfl⟩ := rx
  obtain ⟨t', rfl⟩ := ry
  obtain ⟨j, h1, h2, h3, h4, h5⟩ := atI_get he
  have hl : z.cps.toList.length = z.length := by simp [Str.length]
  rw [hl] at h1 h4 h5
  have hn := line63
  exact tail_any (typeIs_str s z t) slot_str_getitem.lookup (getItem_str (c := c) (by
    have e1 : decide (i < -(2 ^ 63 : Int)) = false := decide_eq_false (by omega)
    have e2 : decide (i ≥ 2 ^ 63) = false := decide_eq_false (by omega)
    rw [e1, e2, Bool.or_false]) (by rw [h1]; simpa using h2) ⟨.str ⟨#[c]⟩, H, I.tok _, ⟨_, rfl⟩, q⟩) hs
def rIx (K : PySem.W.Frag) : R2 := fun x y H Q => rIxL K x y H Q ∨ rIxT K x y H Q ∨ rIxS x y H Q
theorem ix_seq : IxR X (rIx X.K) := ix_list.or (ix_tup.or ix_str)

/-! ### xs[i] = v, any sign -/
theorem Inv.lst {pins : List (Addr × Obj)} {σ : St} {H : Hp} {s : Shared} {p : Addr} {xs : List V} (I : Inv X pins σ H s) (h : H p = some (.lst xs)) :
    ∃ (its : List Value) (n : Nat), Vals xs its ∧ s.heap.get? p = some { cls := .type "list", data := .seq its.toArray n } ∧ xs.length ≤ sizeLine := by
  obtain ⟨z, its, n, r, e⟩ := I.hok p _ h
  exact ⟨its, n, r, e, z⟩
/-! ### slices -/
theorem slice_bounds (lo hi : Option Int) (n : Nat) : (sliceBounds lo hi none n).1 = ((HT.sIx n 0 lo : Nat) : Int) ∧ (sliceBounds lo hi none n).2.1 = ((HT.sIx n n hi : Nat) : Int) ∧ (sliceBounds lo hi none n).2.2 = 1 := by
  refine ⟨?_, ?_, rfl⟩
  · cases lo with
    | none => simp [sliceBounds, HT.sIx]
    | some i =>
      simp only [sliceBounds, HT.sIx, Option.getD_none, show (1 : Int) > 0 by decide, if_true]
      by_cases h : i < 0
      · simp only [h, if_true] <;> omega
      · simp only [h, if_false] <;> omega
  · cases hi with
    | none => simp [sliceBounds, HT.sIx]
    | some i =>
      simp only [sliceBounds, HT.sIx, Option.getD_none, show (1 : Int) > 0 by decide, if_true]
      by_cases h : i < 0
      · simp only [h, if_true] <;> omega
      · simp only [h, if_false] <;> omega
theorem slicePick_cut (its : List Value) (lo hi : Option Int) : slicePick its.toArray lo hi none = ((its.drop (HT.sIx its.length 0 lo)).take (HT.sIx its.length its.length hi - HT.sIx its.length 0 lo)).toArray := by
  obtain ⟨h1, h2, h3⟩ := slice_bounds lo hi its.toArray.size
  unfold slicePick
  rw [h1, h2, h3]
  simp only [sliceRange_one, pick_run, List.size_toArray] <;> rfl
def rSlL (K : PySem.W.Frag) : V → Option Int → Option Int → Hp → VK → Prop := fun x lo hi H Q => ∃ a xs, x = .ref a ∧ SqL K H a xs ∧ ∀ p, H p = none → Q (.ref p) (upd H p (.lst (cutV xs lo hi)))
theorem sl_list : SlR X (rSlL X.K) := by
  intro pins s σ H x v vl vu lo hi sl Q I rx hs pl pu h
  obtain ⟨a, xs, rfl, hx, q⟩ := h
  cases rx
  obtain ⟨its, r, ht, hz⟩ := I.list hx
  have hlen := r.length
  refine ⟨"list", _, slot_list_getitem.lookup, ht.isList.typeIs, ?_⟩
  refine wpAny_getItem_list_slice ht.isList hs pl pu .none (by simp) ?_ (by rw [List.size_toArray] <;> omega)
  rw [slicePick_cut, ← hlen]
  refine ⟨.ref s.heap.objs.size, _, I.laid (t' := s.toks) (o := .lst (cutV xs lo hi)) (fun b ob q => Heap.get?_push_of_some _ q) (Nat.le_refl _) ?_, rfl, q _ (I.hok.fresh (Nat.le_refl _))⟩
  exact ⟨Nat.le_trans (cutV_length xs lo hi) hz, _, 0, (r.drop (HT.sIx xs.length 0 lo)).take (HT.sIx xs.length xs.length hi - HT.sIx xs.length 0 lo), Heap.get?_push_size _ rfl⟩

/-! ### in, not in: flat items -/
/-! ### len, list(x), tuple(x) of any list or tuple that is read -/
theorem CallR.or {f : Value} {r r' : List V → Hp → VK → Prop} (h : CallR X f r) (h' : CallR X f r') : CallR X f (fun xs H Q => r xs H Q ∨ r' xs H Q) := by
  intro pins s σ H xs us Q I rs q
  rcases q with q | q
  · exact h pins s σ H xs us Q I rs q
  · exact h' pins s σ H xs us Q I rs q
/-! ### the call of a builtin's method: o.m(..) -/
variable {o e : Expr} {es : List Expr} {to : TE} {t : TA} {name : Str} {apos cpos : Pos} {T id : String} {r : V → List V → Hp → VK → Prop}
/- xs.append(e), list.index on a module's tuple .. are MtR facts of 06m -/
end
end L2

namespace L2
open PySem PySem.Spec PyProof.Rows

/-! ### lists of values -/
theorem Vals.one : ∀ {x : V} {us : List Value}, Vals [x] us → ∃ u, us = [u] ∧ RelV x u
  | _, _, .cons r .nil => ⟨_, rfl, r⟩
theorem Vals.two : ∀ {x y : V} {us : List Value}, Vals [x, y] us → ∃ u v, us = [u, v] ∧ RelV x u ∧ RelV y v
  | _, _, _, .cons r (.cons q .nil) => ⟨_, _, rfl, r, q⟩
theorem Vals.zero : ∀ {us : List Value}, Vals [] us → us = []
  | _, .nil => rfl
theorem Vals.reverse {xs : List V} {us : List Value} (h : Vals xs us) : Vals xs.reverse us.reverse := by
  induction h with
  | nil => exact .nil
  | cons r t ih => rw [List.reverse_cons, List.reverse_cons]; exact Vals.append ih (.cons r .nil)
theorem Vals.rep {xs : List V} {us : List Value} (h : Vals xs us) : ∀ k : Nat, Vals (List.replicate k xs).flatten (List.replicate k us).flatten
  | 0 => .nil
  | k + 1 => by
    rw [List.replicate_succ, List.replicate_succ, List.flatten_cons, List.flatten_cons]
    exact Vals.append h (Vals.rep h k)
theorem foldl_rep (its : List Value) : ∀ (k : Nat) (acc : List Value),
    List.foldl (fun x1 x2 => x1 ++ x2) acc.toArray (List.replicate k its.toArray) = (acc ++ (List.replicate k its).flatten).toArray
  | 0, acc => by simp
  | k + 1, acc => by
    have e : acc.toArray ++ its.toArray = (acc ++ its).toArray := by simp
    have e2 : (acc ++ its) ++ (List.replicate k its).flatten = acc ++ (List.replicate (k + 1) its).flatten := by
      rw [List.replicate_succ, List.flatten_cons, List.append_assoc]
    rw [← e2, ← foldl_rep its k (acc ++ its), ← e, List.replicate_succ, List.foldl_cons]

section
variable {X : Cx} {pins : List (Addr × Obj)} {σ : St} {H : Hp} {s : Shared} {l b : Addr} {xs ys zs : List V}

/-! ### the two steps: a tracked list is rewritten, a new list is laid -/
theorem Inv.lnew {its : List Value} {t' : Nat} (I : Inv X pins σ H s) (hv : Vals ys its) (hz : ys.length ≤ sizeLine) :
    Inv X pins σ (upd H s.heap.objs.size (.lst ys)) { s with heap := s.heap.push { cls := .type "list", data := .seq its.toArray }, toks := t' } :=
  I.laid (fun _ _ q => Heap.get?_push_of_some _ q) (Nat.le_refl _) ⟨hz, its, 0, hv, Heap.get?_push_size _ rfl⟩
theorem Inv.fresh (I : Inv X pins σ H s) : H s.heap.objs.size = none := I.hok.fresh (Nat.le_refl _)
theorem Inv.lstM (I : Inv X pins σ H s) (hH : H l = some (.lst xs)) : xs.length ≤ sizeLine ∧ ∃ (its : List Value) (n : Nat), Vals xs its ∧ xs.length = its.length ∧ s.heap.get? l = some { cls := .type "list", data := .seq its.toArray n } := by
  obtain ⟨z, its, n, r, e⟩ := I.hok l _ hH
  exact ⟨z, its, n, r, r.length, e⟩

theorem notLongL {n : Nat} (h : n ≤ sizeLine) : Builtin.List.listTooLong n = false := by
  unfold Builtin.List.listTooLong
  exact decide_eq_false (by omega)
end

section
variable {X : Cx}

/-! ### methods -/
/-! ### list + list, list += list, list * int -/
def rRep : R2 := fun x y H Q => ∃ l k xs, x = .ref l ∧ y = .int k ∧ H l = some (.lst xs) ∧ -(2 ^ 63) ≤ k ∧ k < 2 ^ 63 ∧ xs.length * k.toNat ≤ sizeLine ∧
  ∀ p, H p = none → Q (.ref p) (upd H p (.lst (List.replicate k.toNat xs).flatten))
theorem len_rep {α : Type} (xs : List α) (k : Nat) : (List.replicate k xs).flatten.length = k * xs.length := by
  induction k with
  | zero => simp
  | succ k ih => rw [List.replicate_succ, List.flatten_cons, List.length_append, ih, Nat.succ_mul, Nat.add_comm]
theorem op_rep : OpR X (binaryOp .Mult) rRep := by
  intro pins s σ H x y v u Q I rx ry h
  obtain ⟨l, k, xs, rfl, rfl, hH, h1, h2, hz, q⟩ := h
  cases rx
  obtain ⟨t, rfl⟩ := ry
  obtain ⟨z, its, n, r, hl, e⟩ := I.lstM hH
  have hlen : its.toArray.size * k.toNat ≤ sizeLine := by rw [List.size_toArray, ← hl]; exact hz
  have hcap : ¬ its.toArray.size * k.toNat > (2 ^ 63 - 1) / 8 := by
    have : (sizeLine : Nat) ≤ (2 ^ 63 - 1) / 8 := by decide
    omega
  have hfit : ¬ (!Builtin.List.listFitsIndex k) = true := by
    rw [fitsIndex_both h1 h2]
    exact Bool.false_ne_true
  have hlong : ¬ Builtin.List.listTooLong (its.toArray.size * k.toNat) = true := by
    rw [notLongL hlen]
    exact Bool.false_ne_true
  have hnew : List.foldl (fun x1 x2 => x1 ++ x2) #[] (List.replicate (if its.toArray.isEmpty = true then 0 else k.toNat) its.toArray) = (List.replicate k.toNat its).flatten.toArray := by
    have f0 : ∀ m : Nat, List.foldl (fun x1 x2 => x1 ++ x2) #[] (List.replicate m its.toArray) = (List.replicate m its).flatten.toArray := fun m => by
      have := foldl_rep its m []
      rw [List.nil_append] at this
      exact this
    rw [f0]
    cases its with
    | nil => simp
    | cons a r' => rw [if_neg (by simp)]
  refine wpAny_binaryOp_repeat_ref (T := "list") (U := "int") (by decide) ⟨_, e, rfl⟩ (fun s' => typeIs_int s' k t) noFill_list_mul F.fills_int_mul F.slot_int_rmul repeat_list F.slot_int_index.lookup
    (call_meets F.slot_int_rmul (typeIs_int s k t) F.entry_int_rmul (F.args_int_rmul_2 _ _) (int___rmul___int_list k t l its.toArray n)
      ⟨e, rfl, ⟨_, e, rfl⟩, call_meets F.slot_list_mul ⟨_, e, rfl⟩ F.entry_list_mul (F.args_list_mul_2 _ _) (AutoListH.list___mul___list_int_3 l its.toArray n k t hfit hcap hlong) ⟨e, ?_⟩⟩)
  rw [hnew]
  exact ⟨.ref _, _, I.lnew (t' := s.toks) (r.rep k.toNat) (by rw [len_rep, Nat.mul_comm]; exact hz), rfl, q _ I.fresh⟩

/-! ### del xs[i] -/
end

/-! ### xs[a:b] = ys -/
section
variable {prog : Program} {w : World} {A : Around} {E : Value → Shared → Prop} {s : Shared}
end

section
variable {X : Cx}
end
end L2

namespace L2
open PySem PySem.Spec PyProof.Rows

/-! ### lists of pairs as tables -/
section
variable {κ : Type} [DecidableEq κ]
def valV (kvs : List (κ × V)) (k : κ) : Option V := (kvs.find? fun kv => decide (kv.1 = k)).map (·.2)
def putK (kvs : List (κ × V)) (k : κ) (v : V) : List (κ × V) :=
  if (kvs.any fun kv => decide (kv.1 = k)) = true then kvs.map (fun kv => if kv.1 = k then (kv.1, v) else kv) else kvs ++ [(k, v)]
def dropK (kvs : List (κ × V)) (k : κ) : List (κ × V) := kvs.filter fun kv => decide (kv.1 ≠ k)

theorem valV_pos {p : κ × V} {r : List (κ × V)} {k : κ} (e : p.1 = k) : valV (p :: r) k = some p.2 := by simp [valV, List.find?_cons, e]
theorem valV_neg {p : κ × V} {r : List (κ × V)} {k : κ} (e : ¬ p.1 = k) : valV (p :: r) k = valV r k := by simp [valV, List.find?_cons, e]
theorem valV_any (k : κ) : ∀ kvs : List (κ × V), (kvs.any fun kv => decide (kv.1 = k)) = (valV kvs k).isSome
  | [] => rfl
  | p :: r => by
    rw [List.any_cons]
    by_cases e : p.1 = k
    · simp only [valV_pos e, decide_eq_true e, Bool.true_or, Option.isSome_some]
    · rw [valV_neg e, decide_eq_false e, Bool.false_or]; exact valV_any k r
theorem RelO.isSome_eq {o : Option V} {u : Option Value} (r : RelO o u) : o.isSome = u.isSome := by
  cases o with
  | none => cases u with
    | none => rfl
    | some _ => exact (show False from r).elim
  | some _ => cases u with
    | none => exact (show False from r).elim
    | some _ => rfl
theorem RelO.getD {o : Option V} {u : Option Value} {d : V} {d' : Value} (r : RelO o u) (rd : RelV d d') : RelV (o.getD d) (u.getD d') := by
  cases o with
  | none => cases u with
    | none => exact rd
    | some _ => exact (show False from r).elim
  | some _ => cases u with
    | none => exact (show False from r).elim
    | some _ => exact r

theorem KV.val {kvs : List (κ × V)} {vs : List (κ × Value)} (r : KV kvs vs) (k : κ) : RelO (valV kvs k) (valueAt vs k) := by
  unfold KV at r
  induction r with
  | nil => exact True.intro
  | @cons p q ps qs h t ih =>
    obtain ⟨h1, h2⟩ := h
    by_cases e : p.1 = k
    · have e' : q.1 = k := h1.symm.trans e
      have b : valueAt (q :: qs) k = some q.2 := by simp [valueAt, List.find?_cons, e']
      rw [valV_pos e, b]; exact h2
    · have e' : ¬ q.1 = k := fun z => e (h1.trans z)
      have b : valueAt (q :: qs) k = valueAt qs k := by simp [valueAt, List.find?_cons, e']
      rw [valV_neg e, b]; exact ih
theorem KV.any {kvs : List (κ × V)} {vs : List (κ × Value)} (r : KV kvs vs) (k : κ) : (kvs.any fun kv => decide (kv.1 = k)) = vs.any fun kv => decide (kv.1 = k) := by
  unfold KV at r
  induction r with
  | nil => rfl
  | cons h t ih => rw [List.any_cons, List.any_cons, ih, h.1]
theorem KV.repl {kvs : List (κ × V)} {vs : List (κ × Value)} (r : KV kvs vs) (k : κ) {y : V} {u : Value} (ry : RelV y u) :
    KV (kvs.map fun kv => if kv.1 = k then (kv.1, y) else kv) (vs.map fun kv => if kv.1 = k then (kv.1, u) else kv) := by
  unfold KV at r ⊢
  induction r with
  | nil => exact .nil
  | @cons p q ps qs h t ih =>
    rw [List.map_cons, List.map_cons]
    refine .cons ?_ ih
    obtain ⟨h1, h2⟩ := h
    by_cases e : p.1 = k
    · rw [if_pos e, if_pos (h1.symm.trans e)]; exact ⟨h1, ry⟩
    · rw [if_neg e, if_neg (fun z => e (h1.trans z))]; exact ⟨h1, h2⟩
theorem KV.put {kvs : List (κ × V)} {vs : List (κ × Value)} (r : KV kvs vs) (k : κ) {y : V} {u : Value} (ry : RelV y u) : KV (putK kvs k y) (stored vs k u) := by
  unfold putK stored
  rw [r.any k]
  by_cases e : (vs.any fun kv => decide (kv.1 = k)) = true
  · rw [if_pos e, if_pos e]; exact r.repl k ry
  · rw [if_neg e, if_neg e]; exact Paired.snoc r ⟨rfl, ry⟩
theorem KV.drop {kvs : List (κ × V)} {vs : List (κ × Value)} (r : KV kvs vs) (k : κ) : KV (dropK kvs k) (without vs k) := by
  unfold KV at r ⊢
  unfold dropK without
  induction r with
  | nil => exact .nil
  | @cons p q ps qs h t ih =>
    obtain ⟨h1, h2⟩ := h
    rw [List.filter_cons, List.filter_cons]
    by_cases e : p.1 = k
    · have a : ¬ decide (p.1 ≠ k) = true := by simp [e]
      have b : ¬ decide (q.1 ≠ k) = true := by simp [h1.symm.trans e]
      rw [if_neg a, if_neg b]; exact ih
    · have e' : ¬ q.1 = k := fun z => e (h1.trans z)
      have a : decide (p.1 ≠ k) = true := by simp [e]
      have b : decide (q.1 ≠ k) = true := by simp [e']
      rw [if_pos a, if_pos b]; exact .cons ⟨h1, h2⟩ ih
theorem KV.keys {kvs : List (κ × V)} {vs : List (κ × Value)} (r : KV kvs vs) : kvs.map (·.1) = vs.map (·.1) := by
  unfold KV at r
  induction r with
  | nil => rfl
  | cons h t ih => rw [List.map_cons, List.map_cons, ih, h.1]
theorem KV.length {kvs : List (κ × V)} {vs : List (κ × Value)} (r : KV kvs vs) : kvs.length = vs.length := Paired.length r
end

/-! ### a tracked dict, its keys ints and texts or tuples of these -/
abbrev KT (H : Hp) : List (List Key × V) → List (List Key × Addr × Value) → Prop := Paired fun p q => p.1 = q.1 ∧ H q.2.1 = some (.tup (p.1.map kV)) ∧ RelV p.2 q.2.2
theorem KT.val {H : Hp} {kvs : List (List Key × V)} {xs : List (List Key × Addr × Value)} (r : KT H kvs xs) (k : List Key) : RelO (valV kvs k) ((atKey xs k).map (·.2)) := by
  induction r with
  | nil => exact True.intro
  | @cons p q ps qs h t ih =>
    obtain ⟨h1, _, h2⟩ := h
    by_cases e : p.1 = k
    · have e' : q.1 = k := h1.symm.trans e
      have b : atKey (q :: qs) k = some q.2 := by simp [atKey, List.find?_cons, e']
      rw [valV_pos e, b]; exact h2
    · have e' : ¬ q.1 = k := fun z => e (h1.trans z)
      have b : atKey (q :: qs) k = atKey qs k := by simp [atKey, List.find?_cons, e']
      rw [valV_neg e, b]; exact ih
theorem KT.repl {H : Hp} {kvs : List (List Key × V)} {xs : List (List Key × Addr × Value)} (r : KT H kvs xs) (k : List Key) {y : V} {u : Value} (ry : RelV y u) :
    KT H (kvs.map fun kv => if kv.1 = k then (kv.1, y) else kv) (xs.map (putAt k u)) := by
  induction r with
  | nil => exact .nil
  | @cons p q ps qs h t ih =>
    rw [List.map_cons, List.map_cons]
    refine .cons ?_ ih
    obtain ⟨h1, h2, h3⟩ := h
    unfold putAt
    by_cases e : p.1 = k
    · rw [if_pos e, if_pos (h1.symm.trans e)]; exact ⟨h1, h2, ry⟩
    · rw [if_neg e, if_neg (fun z => e (h1.trans z))]; exact ⟨h1, h2, h3⟩
theorem KT.put {H : Hp} {kvs : List (List Key × V)} {xs : List (List Key × Addr × Value)} (r : KT H kvs xs) (k : List Key) {b : Addr} {y : V} {u : Value} (hb : H b = some (.tup (k.map kV))) (ry : RelV y u) :
    KT H (putK kvs k y) (storedH xs k b u) := by
  have e : (kvs.any fun kv => decide (kv.1 = k)) = (atKey xs k).isSome := by
    rw [valV_any, (r.val k).isSome_eq, Option.isSome_map]
  unfold putK storedH
  rw [e]
  by_cases q : (atKey xs k).isSome = true
  · rw [if_pos q, if_pos q]; exact r.repl k ry
  · rw [if_neg q, if_neg q]; exact Paired.snoc r ⟨rfl, hb, ry⟩
theorem KT.keeps {H H' : Hp} {kvs : List (List Key × V)} {xs : List (List Key × Addr × Value)} (r : KT H kvs xs) (ht : ∀ b ys, H b = some (.tup ys) → H' b = some (.tup ys)) : KT H' kvs xs :=
  Paired.mapP r fun _ _ z => ⟨z.1, ht _ _ z.2.1, z.2.2⟩

section
variable {P : Program} {w : World} {H : Hp} {h : Heap} {a : Addr}
end

def DGet (H : Hp) (a : Addr) (y : V) (r : Option V) : Prop :=
  (∃ kvs k, Rd H a (.dK kvs) ∧ y = kV k ∧ r = valV kvs k) ∨ ∃ kvs k b, Rd H a (.dT kvs) ∧ y = .ref b ∧ H b = some (.tup (k.map kV)) ∧ r = valV kvs k
def DPut (H : Hp) (a : Addr) (y v : V) (H' : Hp) : Prop :=
  (∃ kvs k, H a = some (.dK kvs) ∧ y = kV k ∧ kvs.length < sizeLine ∧ H' = upd H a (.dK (putK kvs k v))) ∨
  ∃ kvs k b, H a = some (.dT kvs) ∧ y = .ref b ∧ H b = some (.tup (k.map kV)) ∧ kvs.length < sizeLine ∧ H' = upd H a (.dT (putK kvs k v))
theorem DGet.k {H : Hp} {a : Addr} {kvs : List (Key × V)} {k : Key} (e : H a = some (.dK kvs)) : DGet H a (kV k) (valV kvs k) := .inl ⟨kvs, k, .inl e, rfl, rfl⟩
theorem DGet.t {H : Hp} {a b : Addr} {kvs : List (List Key × V)} {k : List Key} (e : H a = some (.dT kvs)) (eb : H b = some (.tup (k.map kV))) : DGet H a (.ref b) (valV kvs k) := .inr ⟨kvs, k, b, .inl e, rfl, eb, rfl⟩
theorem DPut.k {H : Hp} {a : Addr} {kvs : List (Key × V)} {k : Key} {v : V} (e : H a = some (.dK kvs)) (hl : kvs.length < sizeLine) : DPut H a (kV k) v (upd H a (.dK (putK kvs k v))) := .inl ⟨kvs, k, e, rfl, hl, rfl⟩
theorem DPut.t {H : Hp} {a b : Addr} {kvs : List (List Key × V)} {k : List Key} {v : V} (e : H a = some (.dT kvs)) (eb : H b = some (.tup (k.map kV))) (hl : kvs.length < sizeLine) :
    DPut H a (.ref b) v (upd H a (.dT (putK kvs k v))) := .inr ⟨kvs, k, b, e, rfl, eb, hl, rfl⟩

section
variable {X : Cx} {pins : List (Addr × Obj)} {σ : St} {H : Hp} {s : Shared} {a : Addr} {y v : V} {u r : Value} {o : Option V} {A : Around} {E : Value → Shared → Prop}

end

section
variable {X : Cx} {pins : List (Addr × Obj)} {σ : St} {H : Hp} {s : Shared} {a : Addr} {kvs : List (Key × V)} {k : Key} {u : Value} {A : Around} {E : Value → Shared → Prop}
end

/-! ### readings and rules -/
section
variable {X : Cx} {o i e value : Expr} {pos pos' tpos : Pos} {td ty tv : TE}
end

/-! ### displays -/
section
variable {X : Cx} {pos : Pos}
end

/-! ### methods -/
structure M1 (X : Cx) (o : Expr) (m : Str) (apos : Pos) (e : Expr) (cpos : Pos) : Prop where
  base : attributeBase o m X.env (eval o X.env) = eval o X.env
  few : ((backTo cpos (starEach [e] X.env)).all (fun x => !x.1) && (backToKw cpos (keywordEach [] X.env)).all (fun x => x.1.isSome)
    && decide (([e] : List Expr).length + ([] : List Keyword).length + (if ([] : List Keyword).isEmpty then 0 else 1) < 30)) = true
  line : (apos.endLine == cpos.line) = true
  trees : backTo cpos (starEach [e] X.env) = [(false, eval e X.env)]
structure M2 (X : Cx) (o : Expr) (m : Str) (apos : Pos) (e f : Expr) (cpos : Pos) : Prop where
  base : attributeBase o m X.env (eval o X.env) = eval o X.env
  few : ((backTo cpos (starEach [e, f] X.env)).all (fun x => !x.1) && (backToKw cpos (keywordEach [] X.env)).all (fun x => x.1.isSome)
    && decide (([e, f] : List Expr).length + ([] : List Keyword).length + (if ([] : List Keyword).isEmpty then 0 else 1) < 30)) = true
  line : (apos.endLine == cpos.line) = true
  trees : backTo cpos (starEach [e, f] X.env) = [(false, eval e X.env), (false, eval f X.env)]

section
variable {X : Cx} {pins : List (Addr × Obj)} {σ : St} {H : Hp} {s : Shared} {a : Addr} {y d : V} {u r : Value} {o : Option V} {A : Around} {E : Value → Shared → Prop}
end

section
variable {X : Cx} {o e f : Expr} {apos cpos : Pos} {td ty tx : TE}
end

/-! ### dict(d): a copy -/
section
variable {X : Cx} {pins : List (Addr × Obj)} {σ : St} {H : Hp} {s : Shared} {a : Addr} {kvs : List (Key × V)} {A : Around} {E : Value → Shared → Prop}
end

section
variable {X : Cx} {pins : List (Addr × Obj)} {σ : St} {H : Hp} {s : Shared} {a : Addr} {y : V} {u : Value} {A : Around} {E : Value → Shared → Prop}
end
end L2

namespace Att
open PySem PySem.W PySem.Calls PyProof.Rows

/-! ### the script -/
theorem ints_of_wellAll {P : Params} {h : Heap} : ∀ (ns : List Int) (vs : List Value), WellAll P h vs (ns.map WData.int) → IntsAre vs ns := by
  intro ns
  induction ns with
  | nil =>
    intro vs w
    rw [List.map_nil] at w
    cases w
    exact .nil
  | cons n ns ih =>
    intro vs w
    rw [List.map_cons] at w
    cases w with
    | cons a b =>
      cases a
      exact .cons _ _ (ih _ b)

theorem script_of {l : OpenLaw} {n : Nat} (hn : l.most = some n) {P : Params} {h : Heap} {args : List WData} {vals : List Value}
    (hpre : l.row.toRowW.claim.pre args = true) (hwl : WellAll P h vals args) :
    ∃ a vs ns, vals = [Value.ref a] ∧ args = [WData.list (ns.map WData.int)] ∧ h.get? a = some { cls := .type "list", data := .seq vs.toArray } ∧ IntsAre vs ns ∧ ns.length ≤ n := by
  have hsh : WShape.hasAll [] args [.list .int] = true := (pre_splitW hpre).1
  have hc : l.pre.holds [] { args := args } = true := (pre_splitW hpre).2
  obtain ⟨d, r, rfl, h1, h2⟩ := hasAllW_cons hsh
  obtain rfl := hasAllW_nil h2
  obtain ⟨xs, rfl, h3⟩ := hasW_list h1
  obtain ⟨ns, rfl⟩ := items_int h3
  have hlen : ns.length ≤ n := by
    unfold OpenLaw.pre at hc
    have h4 : (WTm.not (.lt (.lit (.int (n : Int))) (.len (.arg 0)))).holds [] { args := [.list (ns.map .int)] } = true := by
      have h4 := (holds_andW hc).1
      rw [hn] at h4
      exact h4
    have h5 := condW_of h4 (w_not (w_lt w_lit (w_len_list (w_arg rfl))))
    rw [List.length_map] at h5
    refine Nat.le_of_not_lt fun q => ?_
    have q' : (n : Int) < ((ns.length : Nat) : Int) := by omega
    first
      | (rw [decide_eq_true q'] at h5; exact absurd h5 (by decide))
      | (simp at h5; omega)
  cases hwl with
  | cons w1 w2 =>
    cases w2
    cases w1 with
    | list ho hall => exact ⟨_, _, ns, rfl, rfl, ho, ints_of_wellAll ns _ hall, hlen⟩

theorem post_true (l : OpenLaw) (args : List WData) : l.row.toRowW.claim.post args (.bool true) args = true :=
  postW_of (r := l.row.toRowW) (X := (true == true))
    (show WShape.has [] (.bool true) .bool = true by first | rfl | decide | simp [WShape.has, WShape.arms, WShape.armsAll])
    (show (WTm.eq .res (.lit (.bool true))).value [] { args := args, res := some (.bool true), after := args } = some (.bool (true == true)) from w_eq_bool (w_res rfl) w_lit) rfl

/-! ### the attachment: holds_open's last premise (the goal 'hc' behind k_head) from a wpAny of the law's body -/
/-! ### rules over ANY heap (no ledger) from facts about the written part K: the library's own take a ledger (News) for what they write -/
section
variable {prog : Program} {w : World} {A : Around} {E : Value → Shared → Prop} {s : Shared} {K : Frag}

/-! the whole heap as the ledger: makes every rule that writes through a ledger a rule over any heap -/
def ledger (h : Heap) (L d : Addr) : List (Addr × Obj) := (List.range h.objs.size).filterMap fun a => if a = L ∨ a = d then none else (h.get? a).map fun o => (a, o)
end
end Att

namespace L2
open PySem PySem.Spec PyProof.Rows

theorem vals_ints : ∀ {vs : List Value} {ns : List Int}, IntsAre vs ns → Vals (ns.map V.int) vs
  | _, _, .nil => .nil
  | _, _, .cons n t h => .cons ⟨t, rfl⟩ (vals_ints h)

def Only (H : Hp) : Prop := ∀ b, H b = none ∨ ∃ o xs, H b = some (.frz o (.lst xs))

theorem law_call {P : Program} {w : World} {K : PySem.W.Frag} {mg mb : Str → Option Value} {CX : CXT} {k : Nat} {fa a : Addr} {fd : FuncData} {x : Str} {sp : Sp} {s₁ : Shared} {vs : List Value} {ns : List Int}
    (KX : K.In s₁.heap) (hns : s₁.heap.Ns mainGlobals mg) (hb : s₁.heap.Ns builtinsNs mb) (hbb : ∀ x : Str, x ≠ "__name__" → mb x = bootBuiltins x) (hlim : s₁.heap.NoLimit) (hg : s₁.gens = #[])
    (ha : s₁.heap.get? a = some { cls := .type "list", data := .seq vs.toArray }) (hi : IntsAre vs ns) (hl : ns.length ≤ sizeLine) (hr : Room k callerA)
    (F : ∀ base : Heap, K.In base → base.Ns mainGlobals mg → FnOk P w K mg base CX k fa fd [x] sp) (hbind : ∀ (s : Shared) (u : Value), BindsTo s fd ⟨[u], []⟩ [(x, u)])
    (hsp : ∀ H : Hp, Only H → SqL K H a (ns.map V.int) → sp [.ref a] H (fun v _ => v = .bl true) fun _ _ _ => False)
    (hCX : ∀ H e s', CX [] H s₁ (fun _ _ _ => False) e s' → False) :
    codeAny (model P w) callerA (.call (.ref fa) ⟨[.ref a], []⟩) (fun r s' => r = .ok (.ret (.bool true)) ∧ OldK s₁.heap s'.heap ∧ s'.os = s₁.os ∧ AllBare s'.gens) s₁ := by
  have rv := vals_ints hi
  have lenV := hi.length
  -- from an abstract heap in which nothing but the script may be tracked
  have core : ∀ H : Hp, Only H → SqL K H a (ns.map V.int) → HOk P w H s₁.heap → (∀ b, H b ≠ none → b = a) → (H a ≠ none → K.lookup a = none) →
      codeAny (model P w) callerA (.call (.ref fa) ⟨[.ref a], []⟩) (fun r s' => r = .ok (.ret (.bool true)) ∧ OldK s₁.heap s'.heap ∧ s'.os = s₁.os ∧ AllBare s'.gens) s₁ := by
    intro H hO hS hok hA hK
    have base_of : ∀ {b : Addr} {o : Obj}, s₁.heap.get? b = some o → H b = none → (hidT s₁.heap H).get? b = some o := fun e n => hidT_get e n
    have noA : ∀ {b : Addr} {o : Obj} {es : Array DictEntry} {ep : Nat}, s₁.heap.get? b = some o → o.data = .dict es ep → H b = none := fun {b o es ep} e d => by
      cases q : H b with
      | none => rfl
      | some u =>
        have e' : b = a := hA b (by rw [q]; simp)
        subst e'
        rw [ha] at e; cases e
        have d' : Data.seq vs.toArray _ = Data.dict es ep := d
        cases d'
    have nsK : ∀ {b : Addr} {m : Str → Option Value}, s₁.heap.Ns b m → (hidT s₁.heap H).Ns b m := fun {b m} ⟨o, es, ep, e, d, r⟩ => ⟨o, es, ep, base_of e (noA e d), d, r⟩
    have hKb : K.In (hidT s₁.heap H) := fun b o e => base_of (KX b o e) (by
      cases q : H b with
      | none => rfl
      | some u =>
        have e' : b = a := hA b (by rw [q]; simp)
        subst e'
        rw [hK (by rw [q]; simp)] at e; cases e)
    have hM : Mod K mg (hidT s₁.heap H) := ⟨hKb, nsK hns, ⟨mb, nsK hb, hbb⟩, let ⟨mc, h1, h2⟩ := hlim; ⟨mc, nsK h1, h2⟩⟩
    have e0 : Env0 P w K mg (hidT s₁.heap H) callerA [] s₁ H := ⟨rfl, hM, fun b o e => of_hidT e, Nat.le_of_eq (hidT_size _ _), trivial, fun b hb => absurd (show b ∈ ([] : List Addr) from hb) (by simp), hok, .of_eq hg⟩
    refine codeAny_mono ((F _ hKb (nsK hns)).run callerA [] s₁ H ⟨[.ref a], []⟩ [.ref a] [.ref a] _ _ hr e0 (hbind s₁ (.ref a)) (.cons rfl .nil) (hsp H hO hS)) fun r s' h => ?_
    cases r with
    | error e => exact (hCX H e s' h).elim
    | ok fl =>
      cases fl with
      | next => exact False.elim h
      | brk => exact False.elim h
      | cont => exact False.elim h
      | ret u =>
        obtain ⟨v, H', os, bare, un, hok', r', q⟩ := h
        have q' : v = .bl true := q
        subst q'
        obtain rfl : u = Value.bool true := r'
        refine ⟨rfl, OldK.of_keep fun b o e => ?_, os, bare⟩
        cases q : H b with
        | none => exact un.keep b o e q (by intro z; exact absurd (show b ∈ ([] : List Addr) from z) (by simp)) (by simp)
        | some u =>
          rcases hO b with z | ⟨ob, xs, z⟩
          · rw [q] at z; cases z
          · have z2 := un.frzs b ob _ z
            obtain ⟨e1, _⟩ := hok b _ z
            obtain ⟨e2, _⟩ := hok' b _ z2
            rw [e] at e1; cases e1
            exact e2
  cases hk : K.lookup a with
  | some o =>
    -- the script is one of the module's own objects
    have e := KX a o hk
    rw [ha] at e
    cases e
    refine core (fun _ => none) (fun _ => .inl rfl) (.inr ⟨_, vs.toArray, _, hk, rfl, rfl, rfl, by rw [List.size_toArray, lenV]; exact hl, by simpa using rv⟩) (fun b u z => by have z' : (none : Option HO) = some u := z; cases z') (fun b z => absurd rfl z) fun z => absurd rfl z
  | none =>
    refine core (fun b => if b = a then some (.frz { cls := .type "list", data := .seq vs.toArray } (.lst (ns.map V.int))) else none) (fun b => ?_) (.inl (.inr ⟨{ cls := .type "list", data := .seq vs.toArray }, if_pos rfl⟩)) (fun b u z => ?_) (fun b z => ?_) fun _ => hk
    · by_cases hb : b = a
      · exact .inr ⟨_, _, if_pos hb⟩
      · exact .inl (if_neg hb)
    · by_cases hb : b = a
      · have z' := (if_pos hb).symm.trans z
        cases z'
        subst hb
        exact ⟨ha, by rw [List.length_map]; exact hl, vs, _, rv, ha⟩
      · have z' := (if_neg hb).symm.trans z
        cases z'
    · by_cases hb : b = a
      · exact hb
      · exact absurd (if_neg hb) z
end L2

namespace L2
open PySem PySem.Spec PyProof.Rows

end L2

/- THE LAST THEOREM (shape; LID, My.* are yours):
   My.Adr: a structure of the addresses that your layer names (classes, functions); My.Txt K t: a structure (Prop) of the equations over K;
   My.txt_mk : {K} {implicit addresses ..} (e1 : nsIn K mainGlobals "law" = some (some (.ref f))) (e2 : K.lookup f = some ⟨oc, od, .func (fnOf "law" "law" params body scope dV kV doc pm an cdv ct), sl⟩) (e3 : codeIn K cdv "law" = true) .. : ∃ t, My.Txt K t

(the tactic k_is has no namespace: write k_is) -/

/-! SHORT WORDS over the layer: a def of the text, its body, what a loop and a test want. -/
namespace L2
open PySem PySem.Spec PyProof.Rows

/-! ### the text by places -/
def inClass (s : Stmt) (j : Nat) : Stmt := match s with
  | .ClassDef _ _ _ body _ _ _ _ _ _ _ => body.getD j (.Pass ⟨0, 0, 0, 0⟩)
  | _ => .Pass ⟨0, 0, 0, 0⟩
def defArgs (s : Stmt) : Arguments := match s with
  | .FunctionDef _ a _ _ _ _ _ _ _ _ => a
  | _ => { posonlyargs := [], args := [], vararg := none, kwonlyargs := [], kw_defaults := [], kwarg := none, defaults := [] }
def defBody (s : Stmt) : List Stmt := match s with
  | .FunctionDef _ _ b _ _ _ _ _ _ _ => b
  | _ => []
def defScope (s : Stmt) : Scope := match s with
  | .FunctionDef _ _ _ _ _ _ sc _ _ _ => sc
  | _ => { kind := .function, names := [], isGenerator := false, isCoroutine := false }

/-! ### no exception leaves a def -/
abbrev CX0 : CXT := fun _ _ _ _ _ _ => False
abbrev E0 : XK := fun _ _ _ => False
theorem pass0 {X : Cx} : Passes CX0 X E0 := fun _ _ _ _ _ _ _ h => h.elim

/-! ### a def (or method) of the text as it stands behind the top -/
structure Fun (K : PySem.W.Frag) (x qual : Str) (st : Stmt) (f : Addr) (fd : FuncData) : Prop where
  ex : ∃ (oc : Value) (od : Option Addr) (kV doc pm : Value) (an : Option Addr) (cdv ct : Value) (osl : Array (Option Value)),
    fd = PySem.W.fnOf x qual (defArgs st) (defBody st) (defScope st) .none kV doc pm an cdv ct ∧ K.lookup f = some ⟨oc, od, .func fd, osl⟩ ∧ PySem.W.codeIn K cdv qual = true
  kp : PySem.W.keepIn K (.ref f) = true
section
variable {P : Program} {w : World} {K : PySem.W.Frag} {mg : Str → Option Value} {base : Heap}
theorem Fun.ok {x qual : Str} {st : Stmt} {f : Addr} {fd : FuncData} {N ps : List Str} {k : Nat} {sp : Sp} (F : Fun K x qual st f fd) (S : FnScope N ps (defScope st)) (len : ∀ vs H Q E, sp vs H Q E → vs.length = ps.length)
    (hbody : ∀ (cdv : Value) (A : Around) (outer : List Env) (s : Shared) (H : Hp) (vs : List V) (Q : VK) (E : XK), Room k (A.deeper (envOfC qual (defScope st) s.heap.objs.size f cdv)) → sp vs H Q E →
      ∃ t, PSs (cxOf CX0 P w K mg base N qual (defScope st) f cdv A outer s H E).nox (defBody st) t ∧ t { nx := fun _ H' => Q .non H', rt := Q } (start N vs) H) : FnOk P w K mg base CX0 (k + 1) f fd ps sp := by
  obtain ⟨oc, od, kV, doc, pm, an, cdv, ct, osl, rfl, lk, hcd⟩ := F.ex
  refine fn_of lk hcd S len fun A outer s H vs Q E hr hsp => ?_
  obtain ⟨t, h, q⟩ := hbody cdv A outer s H vs Q E hr hsp
  exact ⟨t, h.nox, q⟩
theorem Fun.binds {x qual : Str} {st : Stmt} {f : Addr} {fd : FuncData} {ps : List Str} (F : Fun K x qual st f fd)
    (h : ∀ (kV doc pm : Value) (an : Option Addr) (cdv ct : Value) (us : List Value), us.length = ps.length → bindArgs (PySem.W.fnOf x qual (defArgs st) (defBody st) (defScope st) .none kV doc pm an cdv ct) ⟨us, []⟩ = pure (ps.zip us)) : Binds K fd ps [] := by
  obtain ⟨oc, od, kV, doc, pm, an, cdv, ct, osl, rfl, lk, hcd⟩ := F.ex
  exact .all (h kV doc pm an cdv ct)
theorem fun_mk {x qual : Str} {st : Stmt} {f : Addr} {oc : Value} {od an : Option Addr} {osl : Array (Option Value)} {kV doc pm cdv ct : Value} (l : K.lookup f = some ⟨oc, od, .func (PySem.W.fnOf x qual (defArgs st) (defBody st) (defScope st) .none kV doc pm an cdv ct), osl⟩)
    (c : PySem.W.codeIn K cdv qual = true) (k : PySem.W.keepIn K (.ref f) = true) : Fun K x qual st f (PySem.W.fnOf x qual (defArgs st) (defBody st) (defScope st) .none kV doc pm an cdv ct) := ⟨⟨oc, od, kV, doc, pm, an, cdv, ct, osl, rfl, l, c⟩, k⟩
end
/-! ### expressions in short: the name that stands in the i-th slot -/
section
variable {X : Cx}
end

/-! ### tests -/
theorem iteF {A B : Prop} (h : B) : if false = true then A else B := by
  rw [if_neg Bool.false_ne_true]
  exact h
theorem iteT {A B : Prop} (h : A) : if true = true then A else B := by
  rw [if_pos rfl]
  exact h
/-! ### heaps -/
def Same (H H' : Hp) : Prop := ∀ b o, H b = some o → H' b = some o
theorem Same.refl (H : Hp) : Same H H := fun _ _ h => h
theorem Same.trans {H H1 H2 : Hp} (a : Same H H1) (b : Same H1 H2) : Same H H2 := fun c o h => b c o (a c o h)
theorem Same.free {H H' : Hp} (e : Same H H') {l : Addr} (h : H' l = Option.none) : H l = Option.none := by
  cases q : H l with
  | none => rfl
  | some o =>
    rw [e l o q] at h
    cases h
theorem Same.seq {K : PySem.W.Frag} {H H' : Hp} {a : Addr} {xs : List V} (e : Same H H') (h : SqL K H a xs) : SqL K H' a xs := by
  rcases h with (h | ⟨o, h⟩) | h
  · exact .inl (.inl (e _ _ h))
  · exact .inl (.inr ⟨o, e _ _ h⟩)
  · exact .inr h

end L2
namespace L2
open PySem PySem.Spec PyProof.Rows
section
variable {X : Cx}
end
/-! ### a dict's pairs: keys that differ -/
section
variable {κ : Type} [DecidableEq κ]
end
end L2

namespace L2
open PySem PySem.Spec PyProof.Rows
/-! ### comprehensions: the block, its closure, its context -/
section
variable {X : Cx}
structure CI where
  C : Addr
  s : Shared
  H : Hp
  ex : List Addr
structure CompScope (X : Cx) (scope : Scope) (NY : List Str) (mp : List (Option Nat)) : Prop where
  kind : scope.kind = .function
  nocell : ∀ y ∈ scope.names, y.2 ≠ .cell
  names : ∀ y ∈ scope.names, y.2 = .local → scope.names.lookup y.1 = some .local
  free : ∀ y ∈ scope.names, y.2 = .free → (X.env.kindOf y.1 = some .cell ∨ X.env.kindOf y.1 = some .free)
  len : mp.length = NY.length
  map : ∀ (i : Nat) (x : Str) (j : Nat), NY[i]? = some x → mp[i]? = some (some j) → X.N[j]? = some x ∧ scope.names.lookup x = some .free

end
end L2

/-! ### values as trees, and how the heap bears them -/
namespace FL
open PySem PySem.Spec PyProof.Rows L2

abbrev Frag := PySem.W.Frag
def KLst (K : Frag) (a : Addr) (xs : List V) : Prop := ∃ (o : Obj) (its : Array Value) (n : Nat), K.lookup a = some o ∧ o.cls = .type "list" ∧ o.dict = none ∧ o.data = .seq its n ∧ its.size ≤ sizeLine ∧ Vals xs its.toList
def KTup (K : Frag) (a : Addr) (xs : List V) : Prop := ∃ (o : Obj) (its : Array Value) (n : Nat), K.lookup a = some o ∧ o.cls = .type "tuple" ∧ o.data = .seq its n ∧ its.size ≤ sizeLine ∧ Vals xs its.toList

mutual
inductive Rep (K : Frag) (H : Hp) (O : Addr → Prop) : V → D → Prop
  | non : Rep K H O .non .non
  | bl (b : Bool) : Rep K H O (.bl b) (.bl b)
  | int (i : Int) : Rep K H O (.int i) (.int i)
  | str (x : Str) : Rep K H O (.str x) (.str x)
  | tup {a : Addr} {xs : List V} {ds : List D} (n : ¬ O a) (h : Rd H a (.tup xs)) (r : Reps K H O xs ds) : Rep K H O (.ref a) (.tup ds)
  | tupK {a : Addr} {xs : List V} {ds : List D} (h : KTup K a xs) (r : Reps K H O xs ds) : Rep K H O (.ref a) (.tup ds)
  | lst {a : Addr} {xs : List V} {ds : List D} (n : ¬ O a) (h : Rd H a (.lst xs)) (r : Reps K H O xs ds) : Rep K H O (.ref a) (.lst ds)
  | lstK {a : Addr} {xs : List V} {ds : List D} (h : KLst K a xs) (r : Reps K H O xs ds) : Rep K H O (.ref a) (.lst ds)
  | dct {a : Addr} {kvs : List (Key × V)} {ks : List Key} {ds : List D} (n : ¬ O a) (h : H a = some (.dK kvs)) (e : kvs.map (·.1) = ks) (r : Reps K H O (kvs.map (·.2)) ds) : Rep K H O (.ref a) (.dct ks ds)
  | ins {a C dx : Addr} {t : Nat} {kvs : List (Str × V)} {ds : List D} (c : PySem.W.nsIn K mainGlobals (clsName t) = some (some (.ref C))) (n : ¬ O a) (h : H a = some (.ins C dx kvs)) (e : kvs.map (·.1) = clsFlds t) (r : Reps K H O (kvs.map (·.2)) ds) : Rep K H O (.ref a) (.ins t ds)
inductive Reps (K : Frag) (H : Hp) (O : Addr → Prop) : List V → List D → Prop
  | nil : Reps K H O [] []
  | cons {x : V} {d : D} {xs : List V} {ds : List D} (h : Rep K H O x d) (t : Reps K H O xs ds) : Reps K H O (x :: xs) (d :: ds)
end

section
variable {K : Frag} {H H' : Hp} {O O' : Addr → Prop}
def Keep (O : Addr → Prop) (H H' : Hp) : Prop := ∀ b o, ¬ O b → H b = some o → H' b = some o
theorem Keep.of_same (h : Same H H') : Keep O H H' := fun b o _ e => h b o e
theorem Keep.rd {a : Addr} {u : HO} (k : Keep O H H') (n : ¬ O a) (h : Rd H a u) : Rd H' a u := by
  rcases h with h | ⟨o, h⟩
  · exact .inl (k _ _ n h)
  · exact .inr ⟨o, k _ _ n h⟩
mutual
theorem Rep.keep (k : Keep O H H') : ∀ {v : V} {d : D}, Rep K H O v d → Rep K H' O v d
  | _, _, .non => .non
  | _, _, .bl b => .bl b
  | _, _, .int i => .int i
  | _, _, .str x => .str x
  | _, _, .tup n h r => .tup n (k.rd n h) (Reps.keep k r)
  | _, _, .tupK h r => .tupK h (Reps.keep k r)
  | _, _, .lst n h r => .lst n (k.rd n h) (Reps.keep k r)
  | _, _, .lstK h r => .lstK h (Reps.keep k r)
  | _, _, .dct n h e r => .dct n (k _ _ n h) e (Reps.keep k r)
  | _, _, .ins c n h e r => .ins c n (k _ _ n h) e (Reps.keep k r)
theorem Reps.keep (k : Keep O H H') : ∀ {vs : List V} {ds : List D}, Reps K H O vs ds → Reps K H' O vs ds
  | _, _, .nil => .nil
  | _, _, .cons h t => .cons (Rep.keep k h) (Reps.keep k t)
end
theorem Rep.mono (k : Same H H') {v : V} {d : D} (h : Rep K H O v d) : Rep K H' O v d := h.keep (.of_same k)
theorem Reps.mono (k : Same H H') {v : List V} {d : List D} (h : Reps K H O v d) : Reps K H' O v d := h.keep (.of_same k)
/-! fewer are owned -/
mutual
theorem Rep.less (k : ∀ a, O' a → O a) : ∀ {v : V} {d : D}, Rep K H O v d → Rep K H O' v d
  | _, _, .non => .non
  | _, _, .bl b => .bl b
  | _, _, .int i => .int i
  | _, _, .str x => .str x
  | _, _, .tup n h r => .tup (fun z => n (k _ z)) h (Reps.less k r)
  | _, _, .tupK h r => .tupK h (Reps.less k r)
  | _, _, .lst n h r => .lst (fun z => n (k _ z)) h (Reps.less k r)
  | _, _, .lstK h r => .lstK h (Reps.less k r)
  | _, _, .dct n h e r => .dct (fun z => n (k _ z)) h e (Reps.less k r)
  | _, _, .ins c n h e r => .ins c (fun z => n (k _ z)) h e (Reps.less k r)
theorem Reps.less (k : ∀ a, O' a → O a) : ∀ {vs : List V} {ds : List D}, Reps K H O vs ds → Reps K H O' vs ds
  | _, _, .nil => .nil
  | _, _, .cons h t => .cons (Rep.less k h) (Reps.less k t)
end
theorem Rd.some {a : Addr} {u : HO} (h : Rd H a u) : H a ≠ none := by
  rcases h with h | ⟨o, h⟩ <;> (rw [h]; simp)
def ins1 (p : Addr) (O : Addr → Prop) : Addr → Prop := fun b => b = p ∨ O b
mutual
theorem Rep.more {p : Addr} (hp : H p = none) : ∀ {v : V} {d : D}, Rep K H O v d → Rep K H (ins1 p O) v d
  | _, _, .non => .non
  | _, _, .bl b => .bl b
  | _, _, .int i => .int i
  | _, _, .str x => .str x
  | _, _, .tup n h r => .tup (fun z => z.elim (fun e => Rd.some h (e ▸ hp)) n) h (Reps.more hp r)
  | _, _, .tupK h r => .tupK h (Reps.more hp r)
  | _, _, .lst n h r => .lst (fun z => z.elim (fun e => Rd.some h (e ▸ hp)) n) h (Reps.more hp r)
  | _, _, .lstK h r => .lstK h (Reps.more hp r)
  | _, _, .dct n h e r => .dct (fun z => z.elim (fun e => by rw [e, hp] at h; cases h) n) h e (Reps.more hp r)
  | _, _, .ins c n h e r => .ins c (fun z => z.elim (fun e => by rw [e, hp] at h; cases h) n) h e (Reps.more hp r)
theorem Reps.more {p : Addr} (hp : H p = none) : ∀ {vs : List V} {ds : List D}, Reps K H O vs ds → Reps K H (ins1 p O) vs ds
  | _, _, .nil => .nil
  | _, _, .cons h t => .cons (Rep.more hp h) (Reps.more hp t)
end
def mutO : HO → Bool
  | .lst _ | .dK _ | .dT _ | .set _ _ | .ins _ _ _ => true
  | _ => false
def Old (H : Hp) : Addr → Prop := fun a => ∃ o, H a = some o ∧ mutO o = true
theorem Old.mono (k : Same H H') {a : Addr} (h : Old H a) : Old H' a := let ⟨o, e, m⟩ := h; ⟨o, k _ _ e, m⟩
def none0 : Addr → Prop := fun _ => False
/-! scalars and tuples of these: nobody can own a part of them -/

mutual
theorem Rep.flatten (ho : ∀ a, O a → Old H a) : ∀ {v : V} {d : D}, flat d = true → Rep K H O' v d → Rep K H O v d
  | _, _, _, .non => .non
  | _, _, _, .bl b => .bl b
  | _, _, _, .int i => .int i
  | _, _, _, .str x => .str x
  | _, _, f, .tup (a := a) n h r => .tup (fun z => by
      obtain ⟨u, e, m⟩ := ho a z
      rcases h with h | ⟨o, h⟩
      · rw [e] at h; cases h; cases m
      · rw [e] at h; cases h; cases m) h (Reps.flatten ho (by simpa [flat] using f) r)
  | _, _, f, .tupK h r => .tupK h (Reps.flatten ho (by simpa [flat] using f) r)
  | _, _, f, .lst _ _ _ => by simp [flat] at f
  | _, _, f, .lstK _ _ => by simp [flat] at f
  | _, _, f, .dct _ _ _ _ => by simp [flat] at f
  | _, _, f, .ins _ _ _ _ _ => by simp [flat] at f
theorem Reps.flatten (ho : ∀ a, O a → Old H a) : ∀ {vs : List V} {ds : List D}, flats ds = true → Reps K H O' vs ds → Reps K H O vs ds
  | _, _, _, .nil => .nil
  | _, _, f, .cons h t => by
    simp only [flats, Bool.and_eq_true] at f
    exact .cons (Rep.flatten ho f.1 h) (Reps.flatten ho f.2 t)
end
theorem Reps.length : ∀ {vs : List V} {ds : List D}, Reps K H O vs ds → vs.length = ds.length
  | _, _, .nil => rfl
  | _, _, .cons _ t => by simp [Reps.length t]
theorem Reps.get : ∀ {vs : List V} {ds : List D} {i : Nat} {d : D}, Reps K H O vs ds → ds[i]? = some d → ∃ v, vs[i]? = some v ∧ Rep K H O v d
  | _, _, _, _, .nil, e => by simp at e
  | _, _, 0, _, .cons h _, e => by simp at e; subst e; exact ⟨_, rfl, h⟩
  | _, _, i + 1, d, .cons _ t, e => by
    obtain ⟨v, h1, h2⟩ := Reps.get (i := i) (d := d) t (by simpa using e)
    exact ⟨v, by simpa using h1, h2⟩
theorem Reps.append : ∀ {xs ys : List V} {ds es : List D}, Reps K H O xs ds → Reps K H O ys es → Reps K H O (xs ++ ys) (ds ++ es)
  | _, _, _, _, .nil, s => s
  | _, _, _, _, .cons r t, s => .cons r (Reps.append t s)
theorem Reps.set {x : V} {d : D} (r : Rep K H O x d) : ∀ {xs : List V} {ds : List D} (i : Nat), Reps K H O xs ds → Reps K H O (xs.set i x) (ds.set i d)
  | _, _, _, .nil => .nil
  | _, _, 0, .cons _ t => .cons r t
  | _, _, i + 1, .cons q t => .cons q (Reps.set r i t)
theorem Reps.drop : ∀ {xs : List V} {ds : List D} (n : Nat), Reps K H O xs ds → Reps K H O (xs.drop n) (ds.drop n)
  | _, _, 0, r => r
  | _, _, _ + 1, .nil => .nil
  | _, _, n + 1, .cons _ t => Reps.drop n t
theorem Reps.take : ∀ {xs : List V} {ds : List D} (n : Nat), Reps K H O xs ds → Reps K H O (xs.take n) (ds.take n)
  | _, _, 0, _ => .nil
  | _, _, _ + 1, .nil => .nil
  | _, _, n + 1, .cons r t => .cons r (Reps.take n t)
theorem Reps.ints : ∀ (ns : List Int), Reps K H O (ns.map V.int) (ns.map D.int)
  | [] => .nil
  | n :: r => .cons (.int n) (Reps.ints r)

def WRep (K : Frag) (H : Hp) (O : Addr → Prop) (v : V) (d : D) : Prop := Rep K H O v d ∨ ∃ a xs l, v = .ref a ∧ d = .lst l ∧ O a ∧ H a = some (.lst xs) ∧ Reps K H O xs l
theorem WRep.mono (k : Same H H') {v : V} {d : D} (h : WRep K H O v d) : WRep K H' O v d := by
  rcases h with h | ⟨a, xs, l, e1, e2, ho, h, r⟩
  · exact .inl (h.mono k)
  · exact .inr ⟨a, xs, l, e1, e2, ho, k _ _ h, r.mono k⟩
theorem WRep.any {v : V} {d : D} (h : WRep K H O v d) : Rep K H none0 v d := by
  rcases h with h | ⟨a, xs, l, rfl, rfl, ho, h, r⟩
  · exact h.less (fun _ z => z.elim)
  · exact .lst (fun z => z.elim) (.inl h) (r.less fun _ z => z.elim)
theorem WRep.seqL {v : V} {l : List D} (h : WRep K H O v (.lst l)) : ∃ a xs, v = .ref a ∧ SqL K H a xs ∧ Reps K H O xs l := by
  rcases h with h | ⟨a, xs, l', rfl, e, ho, h, r⟩
  · cases h with
    | lst n h r => exact ⟨_, _, rfl, .inl h, r⟩
    | lstK h r => exact ⟨_, _, rfl, .inr h, r⟩
  · cases e; exact ⟨a, xs, rfl, .inl (.inl h), r⟩
theorem WRep.seqT {v : V} {l : List D} (h : WRep K H O v (.tup l)) : ∃ a xs, v = .ref a ∧ SqT K H a xs ∧ Reps K H O xs l := by
  rcases h with h | ⟨a, xs, l', rfl, e, ho, h, r⟩
  · cases h with
    | tup n h r => exact ⟨_, _, rfl, .inl h, r⟩
    | tupK h r => exact ⟨_, _, rfl, .inr h, r⟩
  · cases e
theorem WRep.int' {v : V} {i : Int} (h : WRep K H O v (.int i)) : v = .int i := by
  rcases h with h | ⟨a, xs, l', rfl, e, _⟩
  · cases h; rfl
  · cases e
theorem WRep.str' {v : V} {i : Str} (h : WRep K H O v (.str i)) : v = .str i := by
  rcases h with h | ⟨a, xs, l', rfl, e, _⟩
  · cases h; rfl
  · cases e
end

/-! ### the state: a slot holds nothing that is known, a value, or a list that it alone holds -/

def SlOk (K : Frag) (H₀ H : Hp) (O : Addr → Prop) : Option V → Sl → Prop
  | _, .no => True
  | some x, .v d => Rep K H O x d
  | some (.ref a), .own l => O a ∧ ∃ xs, H a = some (.lst xs) ∧ Reps K H O xs l
  | some (.ref a), .fr l => ¬ O a ∧ H₀ a = none ∧ ∃ xs, H a = some (.lst xs) ∧ Reps K H O xs l
  | some (.ref a), .exc t => ∃ C o u, PySem.W.nsIn K mainGlobals (xName t) = some (some (.ref C)) ∧ H a = some (.frz o u) ∧ o.cls = .ref C
  | _, _ => False
def IsOwn (ds : List Sl) (i : Nat) : Prop := ∃ l, ds[i]? = some (.own l)
inductive HI where
  | rep (v : V) (d : D) | base (B : Addr → Prop)
abbrev Hold := List HI
def HOk (K : Frag) (H₀ H : Hp) (O : Addr → Prop) : HI → Prop
  | .rep v d => Rep K H O v d
  | .base B => ∀ a, B a → O a ∧ H₀ a ≠ none
structure Ok (K : Frag) (H₀ H : Hp) (O : Addr → Prop) (σ : L2.St) (ds : List Sl) (hd : Hold) : Prop where
  same : Same H₀ H
  fresh : ∀ (i : Nat) (l : List D) (a : Addr), ds[i]? = some (.own l) → σ[i]? = some (some (.ref a)) → H₀ a = none
  dom : ∀ a, O a → ∃ xs, H a = some (.lst xs)
  len : σ.length = ds.length
  sl : ∀ (i : Nat) (s : Sl), ds[i]? = some s → SlOk K H₀ H O (σ[i]?.join) s
  apart : ∀ (i j : Nat) (a : Addr), i ≠ j → IsOwn ds i → IsOwn ds j → σ[i]? = some (some (.ref a)) → σ[j]? = some (some (.ref a)) → False
  hold : ∀ p ∈ hd, HOk K H₀ H O p
section
variable {K : Frag} {H₀ H H' : Hp} {O O' : Addr → Prop} {σ : L2.St} {ds : List Sl} {hd : Hold}
theorem HOk.mono (k : Same H H') : ∀ {p : HI}, HOk K H₀ H O p → HOk K H₀ H' O p
  | .rep _ _, h => Rep.mono k h
  | .base _, h => h
theorem HOk.keep (k : Keep O H H') : ∀ {p : HI}, HOk K H₀ H O p → HOk K H₀ H' O p
  | .rep _ _, h => Rep.keep k h
  | .base _, h => h
theorem SlOk.mono (k : Same H H') : ∀ {x : Option V} {s : Sl}, SlOk K H₀ H O x s → SlOk K H₀ H' O x s
  | none, .no, _ => trivial
  | some (.ref _), .no, _ => trivial
  | some _, .no, _ => by simp [SlOk]
  | some x, .v d, h => by
    have h : Rep K H O x d := by cases x <;> exact h
    show SlOk K H₀ H' O (some x) (.v d)
    have := h.mono k
    cases x <;> exact this
  | some (.ref a), .own l, ⟨ho, xs, h, r⟩ => ⟨ho, xs, k _ _ h, r.mono k⟩
  | some (.ref a), .fr l, ⟨ho, h0, xs, h, r⟩ => ⟨ho, h0, xs, k _ _ h, r.mono k⟩
  | some (.ref a), .exc t, ⟨C, o, u, h1, h2, h3⟩ => ⟨C, o, u, h1, k _ _ h2, h3⟩
theorem Ok.old (o : Ok K H₀ H O σ ds hd) {a : Addr} (h : O a) : Old H a := let ⟨xs, e⟩ := o.dom a h; ⟨_, e, rfl⟩
theorem Ok.mono (k : Same H H') (o : Ok K H₀ H O σ ds hd) : Ok K H₀ H' O σ ds hd :=
  ⟨o.same.trans k, o.fresh, fun a h => let ⟨xs, e⟩ := o.dom a h; ⟨xs, k _ _ e⟩, o.len, fun i s e => (o.sl i s e).mono k, o.apart, fun p hp => (o.hold p hp).mono k⟩
theorem Ok.free {p : Addr} (o : Ok K H₀ H O σ ds hd) (h : H p = none) : ¬ O p := fun z => by
  obtain ⟨xs, e⟩ := o.dom p z
  rw [h] at e; cases e
theorem Ok.read {i : Nat} {d : D} (o : Ok K H₀ H O σ ds hd) (e : ds[i]? = some (.v d)) : ∃ v, σ[i]? = some (some v) ∧ Rep K H O v d := by
  have h := o.sl i _ e
  cases q : σ[i]? with
  | none => rw [q] at h; exact h.elim
  | some x =>
    rw [q] at h
    cases x with
    | none => exact h.elim
    | some x => exact ⟨x, rfl, by cases x <;> exact h⟩
theorem Ok.readO {i : Nat} {l : List D} (o : Ok K H₀ H O σ ds hd) (e : ds[i]? = some (.own l)) : ∃ a xs, σ[i]? = some (some (.ref a)) ∧ O a ∧ H a = some (.lst xs) ∧ Reps K H O xs l := by
  have h := o.sl i _ e
  cases q : σ[i]? with
  | none => rw [q] at h; exact h.elim
  | some x =>
    rw [q] at h
    cases x with
    | none => exact h.elim
    | some x =>
      cases x with
      | ref a => obtain ⟨ho, xs, h1, h2⟩ := h; exact ⟨a, xs, rfl, ho, h1, h2⟩
      | _ => exact h.elim
theorem Ok.readX {i t : Nat} (o : Ok K H₀ H O σ ds hd) (e : ds[i]? = some (.exc t)) : ∃ a C ob u, σ[i]? = some (some (.ref a)) ∧ PySem.W.nsIn K mainGlobals (xName t) = some (some (.ref C)) ∧ H a = some (.frz ob u) ∧ ob.cls = .ref C := by
  have h := o.sl i _ e
  cases q : σ[i]? with
  | none => rw [q] at h; exact h.elim
  | some x =>
    rw [q] at h
    cases x with
    | none => exact h.elim
    | some x =>
      cases x with
      | ref a => obtain ⟨C, ob, u, h1, h2, h3⟩ := h; exact ⟨a, C, ob, u, rfl, h1, h2, h3⟩
      | _ => exact h.elim
theorem Ok.readF {i : Nat} {l : List D} (o : Ok K H₀ H O σ ds hd) (e : ds[i]? = some (.fr l)) : ∃ a xs, σ[i]? = some (some (.ref a)) ∧ ¬ O a ∧ H₀ a = none ∧ H a = some (.lst xs) ∧ Reps K H O xs l := by
  have h := o.sl i _ e
  cases q : σ[i]? with
  | none => rw [q] at h; exact h.elim
  | some x =>
    rw [q] at h
    cases x with
    | none => exact h.elim
    | some x =>
      cases x with
      | ref a => obtain ⟨ho, h0, xs, h1, h2⟩ := h; exact ⟨a, xs, rfl, ho, h0, h1, h2⟩
      | _ => exact h.elim
theorem slOk_no {x : Option V} : SlOk K H₀ H O x .no := by
  cases x with
  | none => trivial
  | some x => cases x <;> trivial
theorem slOk_v {x : V} {d : D} (h : Rep K H O x d) : SlOk K H₀ H O (some x) (.v d) := by
  cases x <;> exact h
theorem Ok.set {i : Nat} {v : V} {d : D} (o : Ok K H₀ H O σ ds hd) (r : Rep K H O v d) : Ok K H₀ H O (σ.set i (some v)) (ds.set i (.v d)) hd := by
  have own' : ∀ {j : Nat}, IsOwn (ds.set i (.v d)) j → j ≠ i ∧ IsOwn ds j := fun {j} ⟨l, e⟩ => by
    by_cases hj : j = i
    · subst hj
      by_cases hl : j < ds.length
      · rw [List.getElem?_set_self hl] at e; cases e
      · rw [List.getElem?_eq_none (by simpa using hl)] at e; cases e
    · rw [List.getElem?_set_ne (Ne.symm hj)] at e
      exact ⟨hj, l, e⟩
  refine ⟨o.same, fun j l a e1 e2 => ?_, o.dom, by simpa using o.len, fun j s e => ?_, fun j k a hjk hj hk e1 e2 => ?_, o.hold⟩
  · obtain ⟨n1, h1⟩ := own' ⟨l, e1⟩
    rw [List.getElem?_set_ne (Ne.symm n1)] at e1 e2
    exact o.fresh j l a e1 e2
  · by_cases hj : j = i
    · subst hj
      by_cases hl : j < ds.length
      · rw [List.getElem?_set_self hl] at e
        cases e
        rw [List.getElem?_set_self (by rw [o.len]; exact hl)]
        exact slOk_v r
      · rw [List.getElem?_eq_none (by simpa using hl)] at e; cases e
    · rw [List.getElem?_set_ne (Ne.symm hj)] at e
      rw [List.getElem?_set_ne (Ne.symm hj)]
      exact o.sl j s e
  · obtain ⟨n1, h1⟩ := own' hj
    obtain ⟨n2, h2⟩ := own' hk
    rw [List.getElem?_set_ne (Ne.symm n1)] at e1
    rw [List.getElem?_set_ne (Ne.symm n2)] at e2
    exact o.apart j k a hjk h1 h2 e1 e2
theorem Ok.setO {i : Nat} {a : Addr} {xs : List V} {l : List D} (o : Ok K H₀ H O σ ds hd) (k : Same H H') (hn : H a = none) (e : H' a = some (.lst xs)) (r : Reps K H' (ins1 a O) xs l) :
    Ok K H₀ H' (ins1 a O) (σ.set i (some (.ref a))) (ds.set i (.own l)) hd := by
  have up : ∀ {v : V} {d : D}, Rep K H O v d → Rep K H' (ins1 a O) v d := fun h => (h.more hn).mono k
  have ups : ∀ {v : List V} {d : List D}, Reps K H O v d → Reps K H' (ins1 a O) v d := fun h => (h.more hn).mono k
  have other : ∀ j : Nat, IsOwn ds j → σ[j]? = some (some (.ref a)) → False := fun j ⟨l', e'⟩ q => by
    obtain ⟨b, ys, h1, h2, h3, _⟩ := o.readO e'
    rw [q] at h1; cases h1
    rw [hn] at h3; cases h3
  have own' : ∀ {j : Nat}, j ≠ i → IsOwn (ds.set i (.own l)) j → IsOwn ds j := fun {j} hj ⟨l', e'⟩ => ⟨l', by rwa [List.getElem?_set_ne (Ne.symm hj)] at e'⟩
  refine ⟨o.same.trans k, fun j l' b e1 e2 => ?_, fun b hb => ?_, by simpa using o.len, fun j s es => ?_, fun j m b hjm hj hm e1 e2 => ?_, fun p hp => ?_⟩
  rotate_left 4
  · have := o.hold p hp
    cases p with
    | rep v d => exact up this
    | base B => exact fun b hb => ⟨.inr (this b hb).1, (this b hb).2⟩
  · by_cases hj : j = i
    · subst hj
      by_cases hl : j < σ.length
      · rw [List.getElem?_set_self hl] at e2
        cases e2
        exact o.same.free hn
      · rw [List.getElem?_eq_none (by simpa using hl)] at e2; cases e2
    · rw [List.getElem?_set_ne (Ne.symm hj)] at e1 e2
      exact o.fresh j l' b e1 e2
  · rcases hb with rfl | hb
    · exact ⟨xs, e⟩
    · obtain ⟨ys, q⟩ := o.dom b hb
      exact ⟨ys, k _ _ q⟩
  · by_cases hj : j = i
    · subst hj
      by_cases hl : j < ds.length
      · rw [List.getElem?_set_self hl] at es
        cases es
        rw [List.getElem?_set_self (by rw [o.len]; exact hl)]
        exact ⟨.inl rfl, xs, e, r⟩
      · rw [List.getElem?_eq_none (by simpa using hl)] at es; cases es
    · rw [List.getElem?_set_ne (Ne.symm hj)] at es
      rw [List.getElem?_set_ne (Ne.symm hj)]
      cases s with
      | no => exact slOk_no
      | exc t =>
        obtain ⟨a', C', ob', u', q1, q2, q3, q4⟩ := o.readX es
        rw [q1]
        exact ⟨C', ob', u', q2, k _ _ q3, q4⟩
      | fr l' =>
        obtain ⟨a', xs', q1, q2, q0, q3, q4⟩ := o.readF es
        rw [q1]
        exact ⟨fun z => z.elim (fun e' => by rw [e', hn] at q3; cases q3) q2, q0, xs', k _ _ q3, ups q4⟩
      | v d =>
        obtain ⟨v, h1, h2⟩ := o.read es
        rw [h1]
        exact slOk_v (up h2)
      | own l' =>
        obtain ⟨b, ys, h1, h2, h3, h4⟩ := o.readO es
        rw [h1]
        exact ⟨.inr h2, ys, k _ _ h3, ups h4⟩
  · have hs : ∀ {q : Nat}, q = i → (σ.set i (some (V.ref a)))[q]? = some (some (.ref b)) → b = a := fun {q} hq eq => by
      subst hq
      by_cases hl : q < σ.length
      · rw [List.getElem?_set_self hl] at eq
        cases eq; rfl
      · rw [List.getElem?_eq_none (by simpa using hl)] at eq; cases eq
    by_cases h1 : j = i
    · have hb := hs h1 e1
      have h2 : m ≠ i := fun z => hjm (h1.trans z.symm)
      rw [List.getElem?_set_ne (Ne.symm h2), hb] at e2
      exact other m (own' h2 hm) e2
    · by_cases h2 : m = i
      · have hb := hs h2 e2
        rw [List.getElem?_set_ne (Ne.symm h1), hb] at e1
        exact other j (own' h1 hj) e1
      · rw [List.getElem?_set_ne (Ne.symm h1)] at e1
        rw [List.getElem?_set_ne (Ne.symm h2)] at e2
        exact o.apart j m b hjm (own' h1 hj) (own' h2 hm) e1 e2
theorem Ok.holdMore {p : HI} (o : Ok K H₀ H O σ ds hd) (r : HOk K H₀ H O p) : Ok K H₀ H O σ ds (p :: hd) :=
  ⟨o.same, o.fresh, o.dom, o.len, o.sl, o.apart, fun q hq => (List.mem_cons.mp hq).elim (fun e => e ▸ r) (o.hold q)⟩
theorem Ok.holdLess {p : HI} (o : Ok K H₀ H O σ ds (p :: hd)) : Ok K H₀ H O σ ds hd :=
  ⟨o.same, o.fresh, o.dom, o.len, o.sl, o.apart, fun q hq => o.hold q (List.mem_cons_of_mem _ hq)⟩
end
end FL

/-! ### expressions, tests, statements as functions of the slots -/
namespace FL
open PySem PySem.Spec PyProof.Rows L2

section
variable (X : Cx)
def PV (e : Expr) (f : FE) : Prop := ∃ t, PE X e t ∧ ∀ H₀ H O σ ds hd d Q, Ok X.K H₀ H O σ ds hd → f ds = some d → (∀ v H', Same H H' → Rep X.K H' O v d → Q v H') → t σ H Q
def PVw (e : Expr) (f : FE) : Prop := ∃ t, PE X e t ∧ ∀ H₀ H O σ ds hd d Q, Ok X.K H₀ H O σ ds hd → f ds = some d → (∀ v H', Same H H' → WRep X.K H' O v d → Q v H') → t σ H Q
def PVf (e : Expr) (f : FA) : Prop := ∃ t, PE X e t ∧ ∀ H₀ H O σ ds hd l Q, Ok X.K H₀ H O σ ds hd → f ds = some l →
  (∀ a xs H', Same H H' → H a = none → H' a = some (.lst xs) → Reps X.K H' (ins1 a O) xs l → Q (.ref a) H') → t σ H Q
def PTv (e : Expr) (c : FT) : Prop := ∃ t, PT X e t ∧ ∀ H₀ H O σ ds hd b Q, Ok X.K H₀ H O σ ds hd → c ds = some b → (∀ H', Same H H' → Q b H') → t σ H Q
def PWv (e : Expr) (c : FT) : Prop := ∃ t, PW X e t ∧ ∀ H₀ H O σ ds hd b Q, Ok X.K H₀ H O σ ds hd → c ds = some b → (∀ H', Same H H' → Q b H') → t σ H Q
def PAv (es : List Expr) (f : FA) : Prop := ∃ t, PA X es t ∧ ∀ H₀ H O σ ds hd l Q, Ok X.K H₀ H O σ ds hd → f ds = some l → (∀ vs H', Same H H' → Paired (WRep X.K H' O) vs l → Q vs H') → t σ H Q
def PAs (es : List Expr) (f : FA) : Prop := ∃ t, PA X es t ∧ ∀ H₀ H O σ ds hd l Q, Ok X.K H₀ H O σ ds hd → f ds = some l → (∀ vs H', Same H H' → Reps X.K H' O vs l → Q vs H') → t σ H Q
end

section
variable {X : Cx}
theorem PV.w {e : Expr} {f : FE} (h : PV X e f) : PVw X e f := by
  obtain ⟨t, ht, hf⟩ := h
  exact ⟨t, ht, fun H₀ H O σ ds hd d Q o e q => hf H₀ H O σ ds hd d Q o e fun v H' s r => q v H' s (.inl r)⟩

theorem PVf.s {e : Expr} {f : FA} (h : PVf X e f) : PV X e (mkL f) := by
  obtain ⟨t, ht, hf⟩ := h
  refine ⟨t, ht, fun H₀ H O σ ds hd d Q o e q => ?_⟩
  unfold mkL at e
  cases hl : f ds with
  | none => rw [hl] at e; cases e
  | some l =>
    rw [hl] at e; cases e
    refine hf H₀ H O σ ds hd l Q o hl fun a xs H' s hn he r => q _ _ s ?_
    exact .lst (o.free hn) (.inl he) (r.less fun _ z => .inr z)

/-! names, constants -/

theorem pv_var (i : Nat) {x : Str} {pos : Pos} (hN : X.N[i]? = some x := by rfl) (hv : Vis X.env.scope x := by first | exact Or.inl rfl | exact Or.inr (Or.inl rfl) | exact Or.inr (Or.inr rfl)) (hd : (x == ("__debug__" : Str)) = false := by decide)
    (hcd : (x == ("__classdict__" : Str)) = false := by decide) : PV X (.Name x pos) (getV i) := by
  refine ⟨_, pe_var hN hv hd hcd, fun H₀ H O σ ds hd d Q o e q => ?_⟩
  unfold getV at e
  cases hs : ds[i]? with
  | none => rw [hs] at e; cases e
  | some s =>
    rw [hs] at e
    cases s with
    | v d' =>
      cases e
      obtain ⟨v, h1, h2⟩ := o.read hs
      exact ⟨v, h1, q v H (Same.refl _) h2⟩
    | no => cases e
    | exc _ => cases e
    | fr _ => cases e
    | own l => cases e
theorem pw_var (i : Nat) {x : Str} {pos : Pos} (hN : X.N[i]? = some x := by rfl) (hv : Vis X.env.scope x := by first | exact Or.inl rfl | exact Or.inr (Or.inl rfl) | exact Or.inr (Or.inr rfl)) (hd : (x == ("__debug__" : Str)) = false := by decide)
    (hcd : (x == ("__classdict__" : Str)) = false := by decide) : PVw X (.Name x pos) (getW i) := by
  refine ⟨_, pe_var hN hv hd hcd, fun H₀ H O σ ds hd d Q o e q => ?_⟩
  unfold getW at e
  cases hs : ds[i]? with
  | none => rw [hs] at e; cases e
  | some s =>
    rw [hs] at e
    cases s with
    | v d' =>
      cases e
      obtain ⟨v, h1, h2⟩ := o.read hs
      exact ⟨v, h1, q v H (Same.refl _) (.inl h2)⟩
    | no => cases e
    | exc _ => cases e
    | fr _ => cases e
    | own l =>
      cases e
      obtain ⟨a, xs, h1, h2, h3, h4⟩ := o.readO hs
      exact ⟨.ref a, h1, q _ H (Same.refl _) (.inr ⟨a, xs, l, rfl, rfl, h2, h3, h4⟩)⟩

theorem pv_int {i : Int} {j pos} : PV X (.Constant (.int i) j pos) (konst (.int i)) := ⟨_, pe_int, fun _ H _ _ _ _ _ _ _ e q => by cases e; exact q _ H (Same.refl _) (.int i)⟩
theorem pv_bl {b : Bool} {j pos} : PV X (.Constant (.bool b) j pos) (konst (.bl b)) := ⟨_, pe_bl, fun _ H _ _ _ _ _ _ _ e q => by cases e; exact q _ H (Same.refl _) (.bl b)⟩
theorem pv_non {j pos} : PV X (.Constant .none j pos) (konst .non) := ⟨_, pe_non, fun _ H _ _ _ _ _ _ _ e q => by cases e; exact q _ H (Same.refl _) .non⟩
theorem pv_glob {x : Str} {v : V} {u : Value} {d : D} {pos : Pos} (hg : Gl X x) (hm : X.mg x = some u) (r : RelV v u) (hr : ∀ H O, Rep X.K H O v d) (hd : (x == ("__debug__" : Str)) = false := by decide) : PV X (.Name x pos) (konst d) :=
  ⟨_, pe_glob hg hm r hd, fun _ H O _ _ _ _ _ _ e q => by cases e; exact q _ H (Same.refl _) (hr H O)⟩

/-! binary operations -/
def OpS (X : Cx) (r : R2) (op : D → D → Option D) : Prop := ∀ H O x y dx dy d Q, (∀ a, O a → ∃ xs, H a = some (.lst xs)) → WRep X.K H O x dx → WRep X.K H O y dy → op dx dy = some d → (∀ v H', Same H H' → Rep X.K H' O v d → Q v H') → r x y H Q

theorem pv_tOp {r : R2} {op : D → D → Option D} (hs : OpS X r op) {a b : Expr} {fa fb : FE} {ta tb : TE} (ha : ∀ H₀ H O σ ds hd d Q, Ok X.K H₀ H O σ ds hd → fa ds = some d → (∀ v H', Same H H' → WRep X.K H' O v d → Q v H') → ta σ H Q)
    (hb : ∀ H₀ H O σ ds hd d Q, Ok X.K H₀ H O σ ds hd → fb ds = some d → (∀ v H', Same H H' → WRep X.K H' O v d → Q v H') → tb σ H Q) :
    ∀ H₀ H O σ ds hd d Q, Ok X.K H₀ H O σ ds hd → bin2 op fa fb ds = some d → (∀ v H', Same H H' → Rep X.K H' O v d → Q v H') → tOp r ta tb σ H Q := by
  intro H₀ H O σ ds hd d Q o e q
  unfold bin2 at e
  cases h1 : fa ds with
  | none => rw [h1] at e; cases e
  | some dx =>
    cases h2 : fb ds with
    | none => rw [h1, h2] at e; cases e
    | some dy =>
      rw [h1, h2] at e
      refine ha H₀ H O σ ds hd dx _ o h1 fun x H1 s1 r1 => ?_
      refine hb H₀ H1 O σ ds hd dy _ (o.mono s1) h2 fun y H2 s2 r2 => ?_
      exact hs H2 O x y dx dy d Q ((o.mono s1).mono s2).dom (r1.mono s2) r2 e fun v H' s r => q v H' ((s1.trans s2).trans s) r
theorem pv_bin {op : Operator} {r : R2} {opD : D → D → Option D} {a b : Expr} {fa fb : FE} {pos : Pos} (ho : OpR X (binaryOp op) r) (hs : OpS X r opD) (ha : PVw X a fa) (hb : PVw X b fb) : PV X (.BinOp a op b pos) (bin2 opD fa fb) := by
  obtain ⟨ta, pa, ha⟩ := ha
  obtain ⟨tb, pb, hb⟩ := hb
  exact ⟨_, pe_op ho pa pb, pv_tOp hs (a := a) (b := b) ha hb⟩

theorem pt_cmpV {op : CmpOp} {r : R2} {opD : D → D → Option D} {a b : Expr} {fa fb : FE} {pos : Pos} (ho : OpR X (compareOp op) r) (hs : OpS X r opD) (ha : PVw X a fa) (hb : PVw X b fb) (hm : behindInMarks op b = false) : PTv X (.Compare a [op] [b] pos) (testB (bin2 opD fa fb)) := by
  obtain ⟨ta, pa, ha⟩ := ha
  obtain ⟨tb, pb, hb⟩ := hb
  refine ⟨_, pt_cmpR ho pa pb hm, fun H₀ H O σ ds hd k Q o e q => ?_⟩
  unfold testB at e
  cases h : bin2 opD fa fb ds with
  | none => rw [h] at e; cases e
  | some d =>
    rw [h] at e
    refine pv_tOp hs (a := a) (b := b) ha hb H₀ H O σ ds hd d _ o h fun v H' s r => ?_
    cases d with
    | bl c => cases e; cases r; exact ⟨_, rfl, q H' s⟩
    | _ => cases e

/-! the operations over trees -/

/-! bounds are decided by choice: nothing is to be reckoned there -/

theorem os_add : OpS X (fun x y H Q => rI0 (fun i j => .int (i + j)) x y H Q ∨ ∃ i j, x = .str i ∧ y = .str j ∧ i.length + j.length ≤ sizeLine ∧ Q (.str (i ++ j)) H) addD := by
  intro H O x y dx dy d Q ho rx ry e q
  cases dx <;> cases dy <;> first | (simp [addD] at e; done) | skip
  · cases e
    rw [rx.int', ry.int']
    exact .inl ⟨_, _, rfl, rfl, q _ H (Same.refl _) (.int _)⟩
  · rename_i x y
    simp only [addD] at e
    split at e
    · rename_i hl
      cases e
      rw [rx.str', ry.str']
      exact .inr ⟨_, _, rfl, rfl, hl, q _ H (Same.refl _) (.str _)⟩
    · cases e
theorem op_addU : OpR X (binaryOp .Add) (fun x y H Q => rI0 (fun i j => .int (i + j)) x y H Q ∨ ∃ i j, x = .str i ∧ y = .str j ∧ i.length + j.length ≤ sizeLine ∧ Q (.str (i ++ j)) H) := op_add.or op_add_str
theorem os_sub : OpS X (rI0 fun i j => .int (i - j)) subD := by
  intro H O x y dx dy d Q ho rx ry e q
  cases dx <;> cases dy <;> first | (simp [subD] at e; done) | skip
  cases e
  rw [rx.int', ry.int']
  exact ⟨_, _, rfl, rfl, q _ H (Same.refl _) (.int _)⟩
def CDivB (i j : Int) : Prop := divOk j
theorem op_fdivB : OpR X (binaryOp .FloorDiv) (rI CDivB fun i j => .int (i / j)) := opI fun i j _ _ _ _ _ hc q => by
  have e : i.fdiv j = i / j := Int.fdiv_eq_ediv_of_nonneg _ (Int.le_of_lt hc.1)
  refine floordiv_int (by have := hc.1; omega) ?_ (.inl (PyProof.noPylong_of_log2 hc.2))
  rw [e]; exact q
theorem os_fdiv : OpS X (rI CDivB fun i j => .int (i / j)) fdivD := by
  intro H O x y dx dy d Q ho rx ry e q
  cases dx <;> cases dy <;> first | (simp [fdivD] at e; done) | skip
  simp only [fdivD] at e
  split at e
  · rename_i hc
    cases e
    rw [rx.int', ry.int']
    exact ⟨_, _, rfl, rfl, hc, q _ H (Same.refl _) (.int _)⟩
  · cases e
theorem os_mod : OpS X (rI (fun _ j => 0 < j) fun i j => .int (i % j)) modD := by
  intro H O x y dx dy d Q ho rx ry e q
  cases dx <;> cases dy <;> first | (simp [modD] at e; done) | skip
  simp only [modD] at e
  split at e
  · rename_i hc
    cases e
    rw [rx.int', ry.int']
    exact ⟨_, _, rfl, rfl, hc, q _ H (Same.refl _) (.int _)⟩
  · cases e
theorem os_cmpI {p : Int → Int → Bool} : OpS X (rI0 fun i j => .bl (p i j)) (cmpI p) := by
  intro H O x y dx dy d Q ho rx ry e q
  cases dx <;> cases dy <;> first | (simp [cmpI] at e; done) | skip
  cases e
  rw [rx.int', ry.int']
  exact ⟨_, _, rfl, rfl, q _ H (Same.refl _) (.bl _)⟩

end
end FL

namespace FL
open PySem PySem.Spec PyProof.Rows L2
section
variable {X : Cx}
/-! ### truth, and, or, not -/
theorem PV.t {e : Expr} {f : FE} (h : PV X e f) (he : ∀ whole, isTrue e X.env whole = (do let v ← whole; standAt e.pos; holding [v] (truthy v)) := by intro _; rfl) : PTv X e (testB f) := by
  obtain ⟨t, ht, hf⟩ := h
  refine ⟨_, pt_val ht he, fun H₀ H O σ ds hd k Q o e q => ?_⟩
  unfold testB at e
  cases h : f ds with
  | none => rw [h] at e; cases e
  | some d =>
    rw [h] at e
    refine hf H₀ H O σ ds hd d _ o h fun v H' s r => ?_
    cases d with
    | bl c => cases e; cases r; exact ⟨_, rfl, q H' s⟩
    | _ => cases e

theorem pwv_and1 {a : Expr} {pos : Pos} {c : FT} (ha : PTv X a c) : PWv X (.BoolOp .And [a] pos) c := by
  obtain ⟨t, ht, hf⟩ := ha
  exact ⟨_, pw_and1 ht, hf⟩
theorem pwv_or1 {a : Expr} {pos : Pos} {c : FT} (ha : PTv X a c) : PWv X (.BoolOp .Or [a] pos) c := by
  obtain ⟨t, ht, hf⟩ := ha
  exact ⟨_, pw_or1 ht, hf⟩
theorem pwv_and {a b : Expr} {rest : List Expr} {pos : Pos} {c d : FT} (ha : PTv X a c) (hb : PWv X (.BoolOp .And (b :: rest) pos) d) : PWv X (.BoolOp .And (a :: b :: rest) pos) (andT c d) := by
  obtain ⟨t, ht, hf⟩ := ha
  obtain ⟨u, hu, hg⟩ := hb
  refine ⟨_, pw_and ht hu, fun H₀ H O σ ds hd k Q o e q => ?_⟩
  unfold andT at e
  cases h : c ds with
  | none => rw [h] at e; cases e
  | some b =>
    rw [h] at e
    refine hf H₀ H O σ ds hd b _ o h fun H' s => ?_
    cases b with
    | true => exact iteT (hg H₀ H' O σ ds hd k Q (o.mono s) (by simpa using e) fun H'' s' => q H'' (s.trans s'))
    | false =>
      have : false = k := by simpa using e
      subst this
      exact iteF (q H' s)
theorem pwv_or {a b : Expr} {rest : List Expr} {pos : Pos} {c d : FT} (ha : PTv X a c) (hb : PWv X (.BoolOp .Or (b :: rest) pos) d) : PWv X (.BoolOp .Or (a :: b :: rest) pos) (orT c d) := by
  obtain ⟨t, ht, hf⟩ := ha
  obtain ⟨u, hu, hg⟩ := hb
  refine ⟨_, pw_or ht hu, fun H₀ H O σ ds hd k Q o e q => ?_⟩
  unfold orT at e
  cases h : c ds with
  | none => rw [h] at e; cases e
  | some b =>
    rw [h] at e
    refine hf H₀ H O σ ds hd b _ o h fun H' s => ?_
    cases b with
    | false => exact iteF (hg H₀ H' O σ ds hd k Q (o.mono s) (by simpa using e) fun H'' s' => q H'' (s.trans s'))
    | true =>
      have : true = k := by simpa using e
      subst this
      exact iteT (q H' s)
theorem PWv.t {e : Expr} {c : FT} (h : PWv X e c) : PTv X e c := by
  obtain ⟨t, ht, hf⟩ := h
  exact ⟨t, ht.pt, hf⟩
theorem ptv_not {a : Expr} {pos : Pos} {c : FT} (ha : PTv X a c) : PTv X (.UnaryOp .Not a pos) (notT c) := by
  obtain ⟨t, ht, hf⟩ := ha
  refine ⟨_, pt_not ht, fun H₀ H O σ ds hd k Q o e q => ?_⟩
  unfold notT at e
  cases h : c ds with
  | none => rw [h] at e; cases e
  | some b =>
    rw [h] at e
    cases e
    exact hf H₀ H O σ ds hd b _ o h fun H' s => q H' s

/-! a if c else b -/

theorem pv_if {c a b : Expr} {pos : Pos} {fc : FT} {f g : FE} (hc : PTv X c fc) (ha : PV X a f) (hb : PV X b g) : PV X (.IfExp c a b pos) (ifV fc f g) := by
  obtain ⟨tc, pc, hc⟩ := hc
  obtain ⟨t, ht, hf⟩ := ha
  obtain ⟨u, hu, hg⟩ := hb
  refine ⟨_, pe_ifExp pc ht hu, fun H₀ H O σ ds hd d Q o e q => ?_⟩
  unfold ifV at e
  cases h : fc ds with
  | none => rw [h] at e; cases e
  | some k =>
    rw [h] at e
    refine hc H₀ H O σ ds hd k _ o h fun H' s => ?_
    cases k with
    | true => exact iteT (hf H₀ H' O σ ds hd d Q (o.mono s) (by simpa using e) fun v H'' s' => q v H'' (s.trans s'))
    | false => exact iteF (hg H₀ H' O σ ds hd d Q (o.mono s) (by simpa using e) fun v H'' s' => q v H'' (s.trans s'))
/-! a op b op' c -/

/-! ### argument lists -/

theorem pav_nil : PAv X [] nilA := ⟨_, pa_nil, fun _ H _ _ _ _ _ _ _ e q => by cases e; exact q _ H (Same.refl _) .nil⟩
theorem pas_nil : PAs X [] nilA := ⟨_, pa_nil, fun _ H _ _ _ _ _ _ _ e q => by cases e; exact q _ H (Same.refl _) .nil⟩
theorem pav_cons {e : Expr} {es : List Expr} {f : FE} {g : FA} (ha : PVw X e f) (hr : PAv X es g) (hs : starEach (e :: es) X.env = (false, eval e X.env) :: starEach es X.env := by rfl) : PAv X (e :: es) (consA f g) := by
  obtain ⟨t, ht, hf⟩ := ha
  obtain ⟨u, hu, hg⟩ := hr
  refine ⟨_, pa_cons ht hu hs, fun H₀ H O σ ds hd l Q o e q => ?_⟩
  unfold consA at e
  cases h : f ds with
  | none => rw [h] at e; cases e
  | some x =>
    cases h2 : g ds with
    | none => rw [h, h2] at e; cases e
    | some r =>
      rw [h, h2] at e
      cases e
      refine hf H₀ H O σ ds hd x _ o h fun v H1 s1 r1 => ?_
      refine hg H₀ H1 O σ ds hd r _ (o.mono s1) h2 fun vs H2 s2 r2 => ?_
      exact q _ H2 (s1.trans s2) (.cons (r1.mono s2) r2)
theorem pas_cons {e : Expr} {es : List Expr} {f : FE} {g : FA} (ha : PV X e f) (hr : PAs X es g) (hs : starEach (e :: es) X.env = (false, eval e X.env) :: starEach es X.env := by rfl) : PAs X (e :: es) (consA f g) := by
  obtain ⟨t, ht, hf⟩ := ha
  obtain ⟨u, hu, hg⟩ := hr
  refine ⟨_, pa_cons ht hu hs, fun H₀ H O σ ds hd l Q o e q => ?_⟩
  unfold consA at e
  cases h : f ds with
  | none => rw [h] at e; cases e
  | some x =>
    cases h2 : g ds with
    | none => rw [h, h2] at e; cases e
    | some r =>
      rw [h, h2] at e
      cases e
      refine hf H₀ H O σ ds hd x _ o h fun v H1 s1 r1 => ?_
      refine hg H₀ H1 O σ ds hd r _ (o.mono s1) h2 fun vs H2 s2 r2 => ?_
      exact q _ H2 (s1.trans s2) (.cons (r1.mono s2) r2)
/-! displays -/
theorem same_upd {H : Hp} {p : Addr} (h : H p = none) (o : HO) : Same H (upd H p o) := fun b u q => by rw [upd_ne (ne_of_none q h)]; exact q

theorem pvf_lst {es : List Expr} {pos : Pos} {g : FA} (h : PAs X es g) : PVf X (.List es pos) (sized g) := by
  obtain ⟨t, ht, hf⟩ := h
  refine ⟨_, pe_lst ht, fun H₀ H O σ ds hd l Q o e q => ?_⟩
  unfold sized at e
  cases h : g ds with
  | none => rw [h] at e; cases e
  | some l' =>
    rw [h] at e
    simp only [Option.bind_some] at e
    split at e
    · rename_i hl
      cases e
      refine hf H₀ H O σ ds hd l _ o h fun vs H1 s1 r1 => ⟨by rw [r1.length]; exact hl, fun p hp => ?_⟩
      refine q p vs _ (s1.trans (same_upd hp _)) (s1.free hp) upd_same ?_
      exact (r1.more hp).mono (same_upd hp _)
    · cases e

/-! xs[i] -/

theorem atI_rep {K : Frag} {H : Hp} {O : Addr → Prop} {xs : List V} {l : List D} {i : Int} {d : D} (r : Reps K H O xs l) (e : atI l i = some d) : ∃ v, atI xs i = some v ∧ Rep K H O v d := by
  unfold atI at e ⊢
  rw [r.length]
  cases h : ixN l.length i with
  | none => rw [h] at e; cases e
  | some j =>
    rw [h] at e
    exact r.get e
theorem ix_sem {K : Frag} {H : Hp} {O : Addr → Prop} {x y : V} {dx dy d : D} {Q : VK} (rx : WRep K H O x dx) (ry : WRep K H O y dy) (e : ixD dx dy = some d) (q : ∀ v H', Same H H' → Rep K H' O v d → Q v H') : rIx K x y H Q := by
  cases dx <;> cases dy <;> first | (simp [ixD] at e; done) | skip
  · simp only [ixD] at e
    split at e
    · rename_i hl
      rw [rx.str', ry.int']
      rename_i z i
      cases hc : atI z.cps.toList i with
      | none => rw [hc] at e; cases e
      | some c =>
        rw [hc] at e
        cases e
        exact .inr (.inr ⟨_, _, c, rfl, rfl, hl, hc, q _ H (Same.refl _) (.str _)⟩)
    · cases e
  · obtain ⟨a, xs, rfl, hs, r⟩ := rx.seqT
    rw [ry.int']
    obtain ⟨v, h1, h2⟩ := atI_rep r e
    exact .inr (.inl ⟨a, xs, _, v, rfl, rfl, hs, h1, q _ H (Same.refl _) h2⟩)
  · obtain ⟨a, xs, rfl, hs, r⟩ := rx.seqL
    rw [ry.int']
    obtain ⟨v, h1, h2⟩ := atI_rep r e
    exact .inl ⟨a, xs, _, v, rfl, rfl, hs, h1, q _ H (Same.refl _) h2⟩
theorem os_ix : OpS X (rIx X.K) ixD := fun H O x y dx dy d Q ho rx ry e q => ix_sem rx ry e q
theorem pv_ix {a b : Expr} {fa fb : FE} {pos : Pos} (ha : PVw X a fa) (hb : PVw X b fb) (hs : PlainIx b := by exact fun _ _ => rfl) : PV X (.Subscript a b pos) (bin2 ixD fa fb) := by
  obtain ⟨ta, pa, ha⟩ := ha
  obtain ⟨tb, pb, hb⟩ := hb
  exact ⟨_, pe_ix ix_seq pa pb hs, pv_tOp os_ix (a := a) (b := b) ha hb⟩
end
end FL

namespace FL
open PySem PySem.Spec PyProof.Rows L2
/-! ### what a def promises: a function of trees -/

def RetOk (K : Frag) (H H' : Hp) (v : V) : Ret → Prop
  | .val d => Rep K H' (Old H) v d
  | .fresh l => ∃ a xs, v = .ref a ∧ H a = none ∧ H' a = some (.lst xs) ∧ Reps K H' (ins1 a (Old H)) xs l
  | .any d => Rep K H' none0 v d
def RetB (K : Frag) (H : Hp) (hd : Hold) (v : V) : Ret → Prop
  | .any d => ∀ B, HI.base B ∈ hd → Rep K H B v d
  | _ => True
def spF (K : Frag) (n : Nat) (F : List D → Option Ret) : Sp := fun vs H Q _ => vs.length = n ∧ ∃ ds r, Reps K H none0 vs ds ∧ F ds = some r ∧ ∀ v H', Same H H' → RetOk K H H' v r → Q v H'

section
variable {X : Cx}
theorem retV_ok {K : Frag} {H H' : Hp} {O : Addr → Prop} {v : V} {r : Ret} {d : D} (h : RetOk K H H' v r) (e : retV r = some d) (ho : ∀ a, O a → Old H a) : Rep K H' O v d := by
  cases r with
  | any d' => cases e
  | val d' => cases e; exact h.less ho
  | fresh l =>
    cases e
    obtain ⟨a, xs, rfl, h1, h2, h3⟩ := h
    refine .lst (fun z => ?_) (.inl h2) (h3.less fun b z => .inr (ho b z))
    obtain ⟨o, e, _⟩ := ho a z
    rw [h1] at e; cases e
theorem retF_ok {K : Frag} {H H' : Hp} {O : Addr → Prop} {v : V} {r : Ret} {l : List D} (h : RetOk K H H' v r) (e : retF r = some l) (ho : ∀ a, O a → Old H a) : ∃ a xs, v = .ref a ∧ H a = none ∧ H' a = some (.lst xs) ∧ Reps K H' (ins1 a O) xs l := by
  cases r with
  | any d' => cases e
  | val d' => cases e
  | fresh l' =>
    cases e
    obtain ⟨a, xs, rfl, h1, h2, h3⟩ := h
    exact ⟨a, xs, rfl, h1, h2, h3.less fun b z => z.elim .inl fun z => .inr (ho b z)⟩
section
variable {k : Nat} {f : Addr} {fd : FuncData} {ps : List Str} {n : Nat} {F : List D → Option Ret} {x : Str} {p pos : Pos} {e : Expr} {es : List Expr} {g : FA}

end

/-! ### builtins of values: a rule by trees -/
def CallS (X : Cx) (r : List V → Hp → VK → Prop) (F : List D → Option D) : Prop := ∀ H O vs l d Q, (∀ a, O a → ∃ xs, H a = some (.lst xs)) → Paired (WRep X.K H O) vs l → F l = some d → (∀ v H', Same H H' → Rep X.K H' O v d → Q v H') → r vs H Q

theorem pv_callB {x : Str} {p pos : Pos} {e : Expr} {es : List Expr} {id : String} {r : List V → Hp → VK → Prop} {F : List D → Option D} {g : FA} (hc : CallR X (.builtin id) r) (hs : CallS X r F) (hm : X.mg x = none) (hv : bootBuiltins x = some (.builtin id)) (ha : PAv X (e :: es) g)
    (hg : Gl X x) (hn : x ≠ "__name__" := by decide) (hdb : (x == ("__debug__" : Str)) = false := by decide) (he : starEach (e :: es) X.env = (false, eval e X.env) :: starEach es X.env := by rfl) (hpl : (backTo pos (starEach es X.env)).any (·.1) = false := by rfl) :
    PV X (.Call (.Name x p) (e :: es) [] pos) (callB F g) := by
  obtain ⟨t, ht, hf⟩ := ha
  refine ⟨_, pe_callB hc hg hm hv ht hn hdb he hpl, fun H₀ H O σ ds hd d Q o e q => ?_⟩
  unfold callB at e
  cases h : g ds with
  | none => rw [h] at e; cases e
  | some l =>
    rw [h] at e
    refine hf H₀ H O σ ds hd l _ o h fun vs H1 s1 r1 => ?_
    exact hs H1 O vs l d Q (o.mono s1).dom r1 e fun v H' s' r => q v H' (s1.trans s') r

/-! ### statements -/

def After (X : Cx) (H₀ : Hp) (hd : Hold) (E : Ends) : Out → Prop
  | .nx ds => ∀ σ H O, Ok X.K H₀ H O σ ds hd → E.nx σ H
  | .bk ds => ∀ σ H O, Ok X.K H₀ H O σ ds hd → E.bk σ H
  | .ct ds => ∀ σ H O, Ok X.K H₀ H O σ ds hd → E.ct σ H
  | .rt r => ∀ v H, Same H₀ H → RetOk X.K H₀ H v r → RetB X.K H hd v r → E.rt v H
variable (X) in
def PSv (st : Stmt) (g : FS) : Prop := ∃ t, PS X st t ∧ ∀ H₀ H O σ ds hd out E, Ok X.K H₀ H O σ ds hd → g ds = some out → After X H₀ hd E out → t E σ H
variable (X) in
def PSsv (st : List Stmt) (g : FS) : Prop := ∃ t, PSs X st t ∧ ∀ H₀ H O σ ds hd out E, Ok X.K H₀ H O σ ds hd → g ds = some out → After X H₀ hd E out → t E σ H

theorem pssv_nil : PSsv X [] nextG := ⟨_, pss_nil, fun _ H O σ ds hd out E o e h => by cases e; exact h σ H O o⟩
theorem pssv_cons {st : Stmt} {rest : List Stmt} {f g : FS} (h1 : PSv X st f) (h2 : PSsv X rest g) : PSsv X (st :: rest) (seqG f g) := by
  obtain ⟨t, ht, hf⟩ := h1
  obtain ⟨u, hu, hg⟩ := h2
  refine ⟨_, pss_cons ht hu, fun H₀ H O σ ds hd out E o e h => ?_⟩
  unfold seqG at e
  cases h1 : f ds with
  | none => rw [h1] at e; cases e
  | some o1 =>
    rw [h1] at e
    refine hf H₀ H O σ ds hd o1 _ o h1 ?_
    cases o1 with
    | nx ds' => exact fun σ' H' O' o' => hg H₀ H' O' σ' ds' hd out E o' e h
    | rt r => cases e; exact h
    | bk ds' => cases e; exact h
    | ct ds' => cases e; exact h
theorem pssv_one {st : Stmt} {f : FS} (h1 : PSv X st f) : PSsv X [st] f := by
  obtain ⟨t, ht, hf⟩ := h1
  exact ⟨_, pss_one ht, hf⟩
theorem psv_if {c : Expr} {a b : List Stmt} {pos : Pos} {fc : FT} {f g : FS} (hc : PTv X c fc) (ha : PSsv X a f) (hb : PSsv X b g) : PSv X (.If c a b pos) (ifG fc f g) := by
  obtain ⟨tc, pc, hc⟩ := hc
  obtain ⟨t, ht, hf⟩ := ha
  obtain ⟨u, hu, hg⟩ := hb
  refine ⟨_, ps_if pc ht hu, fun H₀ H O σ ds hd out E o e h => ?_⟩
  unfold ifG at e
  cases h1 : fc ds with
  | none => rw [h1] at e; cases e
  | some k =>
    rw [h1] at e
    refine hc H₀ H O σ ds hd k _ o h1 fun H' s => ?_
    cases k with
    | true => exact iteT (hf H₀ H' O σ ds hd out E (o.mono s) (by simpa using e) h)
    | false => exact iteF (hg H₀ H' O σ ds hd out E (o.mono s) (by simpa using e) h)

theorem psv_set {i : Nat} {x : Str} {e : Expr} {pos pos' : Pos} {f : FE} (hN : X.N.Nodup) (he : PV X e f) (hi : X.N[i]? = some x := by rfl) (hx : Loc X.env.scope x := by first | exact Or.inl rfl | exact Or.inr rfl) (hs : swapsWith e (some (.Name x pos')) pos.line X.env = pure false := by rfl)
    (hf : X.fn x = true ∨ X.env.scope.names.lookup x = some .local := by first | exact .inl rfl | exact .inr rfl) : PSv X (.Assign [.Name x pos'] e pos) (setG i f) := by
  obtain ⟨t, ht, hg⟩ := he
  refine ⟨_, ps_set hN hi hx ht hs hf, fun H₀ H O σ ds hd out E o e h => ?_⟩
  unfold setG at e
  cases h1 : f ds with
  | none => rw [h1] at e; cases e
  | some d =>
    rw [h1] at e
    cases e
    exact hg H₀ H O σ ds hd d _ o h1 fun v H' s r => h _ _ _ ((o.mono s).set r)
theorem psv_setO {i : Nat} {x : Str} {e : Expr} {pos pos' : Pos} {f : FA} (hN : X.N.Nodup) (he : PVf X e f) (hi : X.N[i]? = some x := by rfl) (hx : Loc X.env.scope x := by first | exact Or.inl rfl | exact Or.inr rfl) (hs : swapsWith e (some (.Name x pos')) pos.line X.env = pure false := by rfl)
    (hf : X.fn x = true ∨ X.env.scope.names.lookup x = some .local := by first | exact .inl rfl | exact .inr rfl) : PSv X (.Assign [.Name x pos'] e pos) (setOG i f) := by
  obtain ⟨t, ht, hg⟩ := he
  refine ⟨_, ps_set hN hi hx ht hs hf, fun H₀ H O σ ds hd out E o e h => ?_⟩
  unfold setOG at e
  cases h1 : f ds with
  | none => rw [h1] at e; cases e
  | some l =>
    rw [h1] at e
    cases e
    exact hg H₀ H O σ ds hd l _ o h1 fun a xs H' s hn he r => h _ _ _ (o.setO s hn he r)

theorem psv_ret {e : Expr} {pos : Pos} {f : FE} (he : PVw X e f) : PSv X (.Return (some e) pos) (retG f) := by
  obtain ⟨t, ht, hg⟩ := he
  refine ⟨_, ps_ret ht, fun H₀ H O σ ds hd out E o e h => ?_⟩
  unfold retG at e
  cases h1 : f ds with
  | none => rw [h1] at e; cases e
  | some d =>
    rw [h1] at e
    simp only [Option.bind_some, flatR] at e
    split at e
    · rename_i hf
      cases e
      exact hg H₀ H O σ ds hd d _ o h1 fun v H' s r => h _ _ (o.same.trans s) (Rep.flatten (fun a z => Old.mono (o.same.trans s) z) hf r.any) True.intro
    · cases e
theorem psv_retF {e : Expr} {pos : Pos} {f : FA} (he : PVf X e f) : PSv X (.Return (some e) pos) (retOG f) := by
  obtain ⟨t, ht, hg⟩ := he
  refine ⟨_, ps_ret ht, fun H₀ H O σ ds hd out E o e h => ?_⟩
  unfold retOG at e
  cases h1 : f ds with
  | none => rw [h1] at e; cases e
  | some l =>
    rw [h1] at e
    simp only [Option.bind_some, flatF] at e
    split at e
    · rename_i hf
      cases e
      refine hg H₀ H O σ ds hd l _ o h1 fun a xs H' s hn he r => h _ _ (o.same.trans s) ⟨a, xs, rfl, o.same.free hn, he, Reps.flatten (fun b z => ?_) hf r⟩ True.intro
      rcases z with rfl | z
      · exact ⟨_, he, rfl⟩
      · exact Old.mono (o.same.trans s) z
    · cases e

theorem psv_retX (i : Nat) {x : Str} {pos pos' : Pos} (hN : X.N[i]? = some x := by rfl) (hv : Vis X.env.scope x := by first | exact Or.inl rfl | exact Or.inr (Or.inl rfl) | exact Or.inr (Or.inr rfl)) (hd : (x == ("__debug__" : Str)) = false := by decide)
    (hcd : (x == ("__classdict__" : Str)) = false := by decide) : PSv X (.Return (some (.Name x pos')) pos) (retXG i) := by
  refine ⟨_, ps_ret (pe_var hN hv hd hcd), fun H₀ H O σ ds hd out E o e h => ?_⟩
  unfold retXG at e
  cases hs : ds[i]? with
  | none => rw [hs] at e; cases e
  | some s =>
    rw [hs] at e
    cases s with
    | v d' => cases e
    | no => cases e
    | exc _ => cases e
    | fr _ => cases e
    | own l =>
      simp only [flatF] at e
      split at e
      · rename_i hf
        cases e
        obtain ⟨a, xs, h1, h2, h3, h4⟩ := o.readO hs
        refine ⟨.ref a, h1, h _ _ o.same ⟨a, xs, rfl, o.fresh i l a hs h1, h3, Reps.flatten (fun b z => ?_) hf h4⟩ True.intro⟩
        rcases z with rfl | z
        · exact ⟨_, h3, rfl⟩
        · exact Old.mono o.same z
      · cases e

/-! ### a def of the text by its function -/

theorem ok_start {K : Frag} {H : Hp} {N : List Str} {vs : List V} {ds : List D} (r : Reps K H none0 vs ds) : Ok K H H none0 (L2.start N vs) (args N.length ds) [] := by
  have hl := r.length
  have no : ∀ i, IsOwn (args N.length ds) i → False := fun i ⟨l, e⟩ => by
    unfold args at e
    by_cases hi : i < ds.length
    · rw [List.getElem?_append_left (by simpa using hi), List.getElem?_map] at e
      cases h : ds[i]? with
      | none => rw [h] at e; cases e
      | some d => rw [h] at e; cases e
    · rw [List.getElem?_append_right (by simpa using hi), List.getElem?_replicate] at e
      split at e <;> cases e
  refine ⟨Same.refl _, fun i l a e _ => (no i ⟨l, e⟩).elim, fun _ z => z.elim, by simp [L2.start, args, hl], fun i s e => ?_, fun i j a _ hi _ _ _ => no i hi, fun p hp => nomatch hp⟩
  unfold args at e
  unfold L2.start
  by_cases hi : i < ds.length
  · rw [List.getElem?_append_left (by simpa using hi), List.getElem?_map] at e
    rw [List.getElem?_append_left (by simpa [hl] using hi), List.getElem?_map]
    cases h : ds[i]? with
    | none => rw [h] at e; cases e
    | some d =>
      rw [h] at e
      cases e
      obtain ⟨v, h1, h2⟩ := r.get h
      rw [h1]
      exact slOk_v h2
  · rw [List.getElem?_append_right (by simpa using hi), List.getElem?_replicate] at e
    split at e
    · cases e; exact slOk_no
    · cases e
def Does (g : FS) (n : Nat) (ds : List D) (r : Ret) : Prop := g (args n ds) = some (.rt r) ∨ (r = .val .non ∧ ∃ ds', g (args n ds) = some (.nx ds'))
theorem fun_ok {P : Program} {w : World} {K : Frag} {mg : Str → Option Value} {base : Heap} {x qual : Str} {st : Stmt} {f : Addr} {fd : FuncData} {N ps : List Str} {k : Nat} {F : List D → Option Ret} (Fn : Fun K x qual st f fd) (S : FnScope N ps (defScope st))
    {g : FS} (hbody : ∀ (cdv : Value) (A : Around) (outer : List Env) (s : Shared) (H : Hp) (E : XK), Room k (A.deeper (envOfC qual (defScope st) s.heap.objs.size f cdv)) → PSsv (cxOf CX0 P w K mg base N qual (defScope st) f cdv A outer s H E).nox (defBody st) g)
    (hg : ∀ ds r, ds.length = ps.length → F ds = some r → Does g N.length ds r) : FnOk P w K mg base CX0 (k + 1) f fd ps (spF K ps.length F) := by
  refine Fn.ok S (fun vs H Q E h => h.1) (fun cdv A outer s H vs Q E hr h => ?_)
  obtain ⟨hl, ds, r, rv, e, q⟩ := h
  obtain ⟨t, ht, hf⟩ := hbody cdv A outer s H E hr
  refine ⟨t, ht, ?_⟩
  have o := ok_start (N := N) rv
  rcases hg ds r (by rw [← rv.length]; exact hl) e with e' | ⟨rfl, ds', e'⟩
  · exact hf H H none0 _ _ [] _ _ o e' (fun v H' s r _ => q v H' s r)
  · exact hf H H none0 _ _ [] _ _ o e' (fun σ H' O o' => q .non H' o'.same .non)
end
end FL

namespace L2
open PySem PySem.Spec PyProof.Rows
/-! ### the sgns of a text -/
section
variable {X : Cx} {tg : Expr}
end
end L2
namespace FL
open PySem PySem.Spec PyProof.Rows L2
/-! ### what is walked -/
def Wlk (K : Frag) (J : It) (p : V × D) (items : List D) : Prop := ∀ H O, (∀ a, O a → ∃ xs, H a = some (HO.lst xs)) → Rep K H O p.1 p.2 →
  (∀ i d, items[i]? = some d → J.go i H ∧ ∀ x H', J.yld i H x H' → Same H H' ∧ Rep K H' O x d) ∧ J.stop items.length H
section
variable {X : Cx}
variable (X) in
def PIv (tg iter : Expr) (fi : FA) : Prop := ∃ wi, PI X tg iter wi ∧ ∀ H₀ H O σ ds hd items R, Ok X.K H₀ H O σ ds hd → fi ds = some items →
  (∀ J p H', Same H H' → Rep X.K H' O p.1 p.2 → Wlk X.K J p items → R J H') → wi σ H R

theorem wlk_range {K : Frag} {lo : Int} {n : Nat} : Wlk K (Itr lo n) (.non, .non) (rangeD lo n) := by
  intro H O _ r
  have hl : (rangeD lo n).length = n := by simp [rangeD]
  refine ⟨fun i d hd => ?_, show n ≤ _ by rw [hl]; exact Nat.le_refl _⟩
  have hi : i < n := by
    have := (List.getElem?_eq_some_iff.mp hd).1
    rwa [hl] at this
  refine ⟨hi, fun x H' y => ?_⟩
  obtain ⟨rfl, rfl⟩ := y
  have : d = D.int (lo + (i : Int)) := by
    simp only [rangeD, List.getElem?_map, List.getElem?_range hi, Option.map_some] at hd
    exact (Option.some.inj hd).symm
  subst this
  exact ⟨Same.refl _, .int _⟩
/-! decided by choice: nothing is to be reckoned there -/

theorem piv_range1 {tg e : Expr} {p pos : Pos} {f : FE} (hm : X.mg "range" = none) (h : PV X e f) (hg : Gl X "range" := by rfl) (hs : starEach [e] X.env = [(false, eval e X.env)] := by rfl) : PIv X tg (.Call (.Name "range" p) [e] [] pos) (rng1 f) := by
  obtain ⟨t, ht, hf⟩ := h
  refine ⟨_, pi_range1 hg hm (pa_cons ht pa_nil hs) hs, fun H₀ H O σ ds hd items R o e q => ?_⟩
  unfold rng1 at e
  cases h1 : f ds with
  | none => rw [h1] at e; cases e
  | some d =>
    rw [h1] at e
    simp only [Option.bind_some] at e
    cases d with
    | int j =>
      simp only at e
      split at e
      · rename_i hj
        cases e
        refine hf H₀ H O σ ds hd _ _ o h1 fun v H' s r => ?_
        cases r
        exact ⟨j, rfl, hj.1, hj.2, q _ (.non, .non) H' s .non wlk_range⟩
      · cases e
    | _ => cases e
/-! ### targets -/
variable (X) in
def PGv (tg : Expr) (ga : D → List Sl → Option (List Sl)) : Prop := ∃ g, PG X tg g ∧ ∀ H₀ H O σ ds hd v d ds' Q, Ok X.K H₀ H O σ ds hd → Rep X.K H O v d → ga d ds = some ds' → (∀ σ', Ok X.K H₀ H O σ' ds' hd → Q σ' H) → g v σ H Q
theorem pgv_name {i : Nat} {x : Str} {pos : Pos} (hN : X.N.Nodup) (hi : X.N[i]? = some x := by rfl) (hx : Loc X.env.scope x := by first | exact Or.inl rfl | exact Or.inr rfl)
    (hf : X.fn x = true ∨ X.env.scope.names.lookup x = some .local := by first | exact .inl rfl | exact .inr rfl) : PGv X (.Name x pos) (nameG i) :=
  ⟨_, pg_name hN hi hx hf, fun H₀ H O σ ds hd v d ds' Q o r e q => by cases e; exact q _ (o.set r)⟩

/-! ### for -/

theorem retB_less {K : Frag} {H : Hp} {hd : Hold} {q : HI} {v : V} {r : Ret} (h : RetB K H (q :: hd) v r) : RetB K H hd v r := by
  cases r with
  | any d => exact fun B hB => h B (List.mem_cons_of_mem _ hB)
  | _ => exact True.intro
theorem psv_for {tg iter : Expr} {body : List Stmt} {pos : Pos} {fi : FA} {ga : D → List Sl → Option (List Sl)} {g : FS} (hp : PassesOwn (model X.prog X.w) X.A X.env X.xe) (hc : X.calm = true) (hi : PIv X tg iter fi) (hg : PGv X tg ga) (hb : PSsv X body g)
    (hs : ∀ x, foldedSetIterable iter X.env x = pure x := by intro _; rfl) : PSv X (.For tg iter body [] pos) (forG fi ga g) := by
  obtain ⟨wi, pi, hi⟩ := hi
  obtain ⟨tg', pg, hg⟩ := hg
  obtain ⟨tb, pb, hb⟩ := hb
  refine ⟨_, ps_for hp hc pi pg pb hs, fun H₀ H O σ ds hd out E o e h => ?_⟩
  unfold forG at e
  cases h1 : fi ds with
  | none => rw [h1] at e; cases e
  | some items =>
    rw [h1] at e
    simp only [Option.bind_some] at e
    refine hi H₀ H O σ ds hd items _ o h1 fun J p H' s r wk => ?_
    refine ⟨fun i m σ' H' => i ≤ items.length ∧ m = items.length - i ∧ ∃ O' ds', Ok X.K H₀ H' O' σ' ds' (HI.rep p.1 p.2 :: hd) ∧ loopG ga g (items.drop i) ds' = some out, ⟨items.length, Nat.zero_le _, rfl, O, ds, (o.mono s).holdMore (p := HI.rep p.1 p.2) r, by simpa using e⟩, ?_⟩
    rintro i m σ1 H1 ⟨hi1, rfl, O1, ds1, o1, e1⟩
    obtain ⟨go, stop⟩ := wk H1 O1 o1.dom (o1.hold (HI.rep p.1 p.2) List.mem_cons_self)
    by_cases hlt : i < items.length
    · right
      have hd0 : items[i]? = some items[i] := List.getElem?_eq_getElem hlt
      obtain ⟨hgo, hy⟩ := go i _ hd0
      rw [List.drop_eq_getElem_cons hlt, loopG] at e1
      refine ⟨hgo, fun σ' H' => i + 1 ≤ items.length ∧ ∃ O' ds', Ok X.K H₀ H' O' σ' ds' (HI.rep p.1 p.2 :: hd) ∧ loopG ga g (items.drop (i + 1)) ds' = some out, fun σ' H' ⟨q1, q2⟩ => ⟨items.length - (i + 1), by omega, q1, rfl, q2⟩, fun x H2 y => ?_⟩
      obtain ⟨s2, r2⟩ := hy x H2 y
      cases h2 : ga items[i] ds1 with
      | none => rw [h2] at e1; cases e1
      | some ds2 =>
        rw [h2] at e1
        simp only [Option.bind_some] at e1
        cases h3 : g ds2 with
        | none => rw [h3] at e1; cases e1
        | some o3 =>
          rw [h3] at e1
          simp only [Option.bind_some] at e1
          refine hg H₀ H2 O1 σ1 ds1 (HI.rep p.1 p.2 :: hd) x _ ds2 _ (o1.mono s2) r2 h2 fun σ' o' => ?_
          refine hb H₀ H2 O1 σ' ds2 (HI.rep p.1 p.2 :: hd) o3 _ o' h3 ?_
          cases o3 with
          | nx ds3 => exact fun σ3 H3 O3 ok3 => ⟨hlt, O3, ds3, ok3, e1⟩
          | ct ds3 => exact fun σ3 H3 O3 ok3 => ⟨hlt, O3, ds3, ok3, e1⟩
          | bk ds3 => cases e1; exact fun σ3 H3 O3 ok3 => h σ3 H3 O3 ok3.holdLess
          | rt rr => cases e1; exact fun v H s r b => h v H s r (retB_less b)
    · left
      have ei : i = items.length := by omega
      subst ei
      rw [List.drop_length, loopG] at e1
      cases e1
      exact ⟨stop, h σ1 H1 O1 o1.holdLess⟩
/-! ### comprehensions -/

section
variable {scope : Scope} {NY : List Str} {mp : List (Option Nat)} {tg iter elt : Expr} {ifs : List Expr} {pos : Pos} {fi : FA} {ga : D → List Sl → Option (List Sl)} {tt : FT} {fe : FE}
end
end
end FL

namespace L2
open PySem PySem.Spec PyProof.Rows
section
variable {X : Cx}
/-! ### isinstance, for a built-in class or an own one; also of the module's own tuples and lists -/
inductive TyV (K : PySem.W.Frag) (H : Hp) : V → Value → Prop where
  | of {x : V} {t : Value} (h : TyOf K H x t) : TyV K H x t
  | lstK {a : Addr} {o : Obj} (h : K.lookup a = some o) (c : o.cls = .type "list") : TyV K H (.ref a) (.type "list")
  | tupK {a : Addr} {o : Obj} (h : K.lookup a = some o) (c : o.cls = .type "tuple") : TyV K H (.ref a) (.type "tuple")
  | tupF {a : Addr} {o : Obj} {xs : List V} (h : H a = some (.frz o (.tup xs))) : TyV K H (.ref a) (.type "tuple")
def clsV : V → Value → Prop
  | .ty n, u => u = .type n
  | .ref a, u => u = .ref a
  | _, _ => False
theorem call_isi : CallR X (.builtin "isinstance") (fun xs H Q => ∃ x c cv t b, xs = [x, c] ∧ clsV c cv ∧ TyV X.K H x t ∧ PySem.W.kitOne X.K t cv = some b ∧ Q (.bl b) H) := by
  intro pins s σ H xs us Q I r h
  obtain ⟨x, c, cv, t, b, rfl, hc, ty, e, q⟩ := h
  obtain ⟨u, u2, rfl, ru, ru2⟩ := vals2 r
  have e2 : u2 = cv := by
    cases c with
    | ty n => cases (show cv = .type n from hc); cases (show u2 = .type n from ru2); rfl
    | ref a => cases (show cv = .ref a from hc); cases (show u2 = .ref a from ru2); rfl
    | _ => exact (show False from hc).elim
  subst e2
  have fin : ∀ tk, EP X pins σ Q (.bool b) { s with toks := tk } := fun tk => ⟨.bl b, H, I.tok tk, rfl, q⟩
  cases ty with
  | of h => exact isinst_ok I ru h e fin
  | @lstK a o h c =>
    cases (show u = Value.ref a from ru)
    exact PySem.W.kia_one PySem.W.kitx_list I.kIn ⟨o, I.kIn _ _ h, c⟩ e (fun z => nomatch z) fin
  | @tupK a o h c =>
    cases (show u = Value.ref a from ru)
    exact PySem.W.kia_one PySem.W.kitx_tuple I.kIn ⟨o, I.kIn _ _ h, c⟩ e (fun z => nomatch z) fin
  | @tupF a o xs ea =>
    cases (show u = Value.ref a from ru)
    obtain ⟨e0, _, _, _, p⟩ := (show ObjOk X.prog X.w H s.heap a (.frz o (.tup xs)) from I.hok a _ ea)
    obtain ⟨o', h1, h2, _⟩ := p
    exact PySem.W.kia_one PySem.W.kitx_tuple I.kIn ⟨o', h1, h2⟩ e (fun z => nomatch z) fin
/-! ### all, any of a list of truths -/
/-! ### sep.join(a list of texts) -/
end
end L2

namespace FL
open PySem PySem.Spec PyProof.Rows L2
section
variable {X : Cx}
/-! ### isinstance(e, T), T a built-in class -/

/-! ### all -/

/-! ### sep.join(e) -/

/-! ### a op b op' c; -e; s in t -/
theorem pv_neg {a : Expr} {pos : Pos} {f : FE} (ha : PV X a f) : PV X (.UnaryOp .USub a pos) (un1 negD f) := by
  obtain ⟨ta, pa, ha⟩ := ha
  refine ⟨_, pe_un un_neg pa, fun H₀ H O σ ds hd d Q o e q => ?_⟩
  unfold un1 at e
  cases h1 : f ds with
  | none => rw [h1] at e; cases e
  | some dx =>
    rw [h1] at e
    cases dx with
    | int i =>
      cases e
      refine ha H₀ H O σ ds hd _ _ o h1 fun x H1 s1 r1 => ?_
      cases r1
      exact ⟨i, rfl, q _ H1 s1 (.int _)⟩
    | _ => cases e

/-! ### values that are new in all their parts -/
variable (X) in
def PVd (e : Expr) (f : FE) : Prop := ∃ t, PE X e t ∧ ∀ H₀ H O σ ds hd d Q, Ok X.K H₀ H O σ ds hd → f ds = some d → (∀ v H', Same H H' → Rep X.K H' (Old H) v d → Q v H') → t σ H Q
theorem PV.d {e : Expr} {f : FE} (h : PV X e f) : PVd X e (flV f) := by
  obtain ⟨t, ht, hf⟩ := h
  refine ⟨t, ht, fun H₀ H O σ ds hd d Q o e q => ?_⟩
  unfold flV at e
  cases h1 : f ds with
  | none => rw [h1] at e; cases e
  | some dx =>
    rw [h1] at e
    simp only [Option.bind_some] at e
    split at e
    · rename_i hfl
      cases e
      exact hf H₀ H O σ ds hd _ _ o h1 fun v H' s r => q v H' s (Rep.flatten (fun a z => Old.mono s z) hfl r)
    · cases e
theorem not_old {H : Hp} {p : Addr} (h : H p = none) : ¬ Old H p := fun ⟨o, e, _⟩ => by rw [h] at e; cases e

theorem psv_retD {e : Expr} {pos : Pos} {f : FE} (he : PVd X e f) : PSv X (.Return (some e) pos) (retDG f) := by
  obtain ⟨t, ht, hg⟩ := he
  refine ⟨_, ps_ret ht, fun H₀ H O σ ds hd out E o e h => ?_⟩
  unfold retDG at e
  cases h1 : f ds with
  | none => rw [h1] at e; cases e
  | some d =>
    rw [h1] at e
    cases e
    exact hg H₀ H O σ ds hd d _ o h1 fun v H' s r => h _ _ (o.same.trans s) (r.less fun a z => Old.mono o.same z) True.intro
end
end FL

namespace FL
open PySem PySem.Spec PyProof.Rows L2
section
variable {X : Cx}
end

theorem does_run {g : FS} {n : Nat} {ds : List D} {r : Ret} (e : runG g n ds = some r) : Does g n ds r := by
  unfold runG at e
  cases h : g (args n ds) with
  | none => rw [h] at e; cases e
  | some o =>
    rw [h] at e
    cases o with
    | rt r' => cases e; exact .inl h
    | nx ds' => cases e; exact .inr ⟨rfl, ds', h⟩
    | bk ds' => cases e
    | ct ds' => cases e
end FL

namespace L2
open PySem PySem.Spec PyProof.Rows
section
variable {X : Cx}
theorem op_mulB : OpR X (binaryOp .Mult) (rI IntMulOk fun i j => .int (i * j)) := opI fun _ _ _ _ _ _ _ hc q => mul_int q hc

theorem op_powB : OpR X (binaryOp .Pow) (rI FL.CPowB fun i j => .int (i ^ j.toNat)) := opI fun _ _ _ _ _ _ _ hc q => pow_int hc.1 hc.2 q
def rCatS (K : PySem.W.Frag) : R2 := fun x y H Q => ∃ l b xs zs, x = .ref l ∧ y = .ref b ∧ SqL K H l xs ∧ SqL K H b zs ∧ xs.length + zs.length ≤ sizeLine ∧ ∀ p, H p = none → Q (.ref p) (upd H p (.lst (xs ++ zs)))
theorem op_catS : OpR X (binaryOp .Add) (rCatS X.K) := by
  intro pins s σ H x y v u Q I rx ry h
  obtain ⟨l, b, xs, zs, rfl, rfl, hH, hB, hz, q⟩ := h
  cases rx
  cases ry
  obtain ⟨its, r, pl, z⟩ := I.list hH
  obtain ⟨its2, r2, pl2, z2⟩ := I.list hB
  obtain ⟨⟨cls, dd, data, sl⟩, ho, hc, n, hd⟩ := pl.isList
  obtain ⟨⟨cls2, dd2, data2, sl2⟩, ho2, hc2, n2, hd2⟩ := pl2.isList
  simp only at hc hd hc2 hd2
  subst hc hd hc2 hd2
  have hl := r.length
  have hl2 := r2.length
  refine concat_meets ⟨_, ho, rfl⟩ ⟨_, ho2, rfl⟩ noFill_list_add seq_list_add PySem.F.slot_list_add PySem.F.entry_list_add (PySem.F.args_list_add_2 _ _) (list_addW l b its.toArray its2.toArray n n2 dd dd2 sl sl2 (by simp only [List.size_toArray]; omega)) ⟨ho, ho2, ?_⟩
  have ea : its.toArray ++ its2.toArray = (its ++ its2).toArray := by simp
  rw [ea]
  exact ⟨.ref _, _, I.lnew (t' := s.toks) (r.append r2) (by rw [List.length_append]; omega), rfl, q _ I.fresh⟩
end
end L2
namespace FL
open PySem PySem.Spec PyProof.Rows L2
section
variable {X : Cx}
/-! ### values that are read alone: a part may be a list that a slot owns -/
variable (X) in
def PVn (e : Expr) (f : FE) : Prop := ∃ t, PE X e t ∧ ∀ H₀ H O σ ds hd d Q, Ok X.K H₀ H O σ ds hd → f ds = some d → (∀ v H', Same H H' → Rep X.K H' none0 v d → Q v H') → t σ H Q
variable (X) in
def PAn (es : List Expr) (f : FA) : Prop := ∃ t, PA X es t ∧ ∀ H₀ H O σ ds hd l Q, Ok X.K H₀ H O σ ds hd → f ds = some l → (∀ vs H', Same H H' → Reps X.K H' none0 vs l → Q vs H') → t σ H Q
theorem PVw.n {e : Expr} {f : FE} (h : PVw X e f) : PVn X e f := by
  obtain ⟨t, ht, hf⟩ := h
  exact ⟨t, ht, fun H₀ H O σ ds hd d Q o e q => hf H₀ H O σ ds hd d Q o e fun v H' s r => q v H' s r.any⟩
theorem PV.n {e : Expr} {f : FE} (h : PV X e f) : PVn X e f := h.w.n
theorem pan_nil : PAn X [] nilA := ⟨_, pa_nil, fun _ H _ _ _ _ _ _ _ e q => by cases e; exact q _ H (Same.refl _) .nil⟩
theorem pan_cons {e : Expr} {es : List Expr} {f : FE} {g : FA} (ha : PVn X e f) (hr : PAn X es g) (hs : starEach (e :: es) X.env = (false, eval e X.env) :: starEach es X.env := by rfl) : PAn X (e :: es) (consA f g) := by
  obtain ⟨t, ht, hf⟩ := ha
  obtain ⟨u, hu, hg⟩ := hr
  refine ⟨_, pa_cons ht hu hs, fun H₀ H O σ ds hd l Q o e q => ?_⟩
  unfold consA at e
  cases h : f ds with
  | none => rw [h] at e; cases e
  | some x =>
    cases h2 : g ds with
    | none => rw [h, h2] at e; cases e
    | some r =>
      rw [h, h2] at e
      cases e
      refine hf H₀ H O σ ds hd x _ o h fun v H1 s1 r1 => ?_
      refine hg H₀ H1 O σ ds hd r _ (o.mono s1) h2 fun vs H2 s2 r2 => ?_
      exact q _ H2 (s1.trans s2) (.cons (r1.mono s2) r2)
section
variable {k : Nat} {f : Addr} {fd : FuncData} {ps : List Str} {n : Nat} {F : List D → Option Ret} {x : Str} {p pos : Pos} {e : Expr} {es : List Expr} {g : FA}
theorem pv_callN (Fn : FnOk X.prog X.w X.K X.mg X.base CX0 k f fd ps (spF X.K n F)) (hr : Room k X.A) (hm : X.mg x = some (.ref f)) (hk : PySem.W.keepIn X.K (.ref f) = true) (hb : Binds X.K fd ps []) (ha : PAn X (e :: es) g)
    (hg : Gl X x := by rfl) (hdb : (x == ("__debug__" : Str)) = false := by decide) (he : starEach (e :: es) X.env = (false, eval e X.env) :: starEach es X.env := by rfl) (hpl : (backTo pos (starEach es X.env)).any (·.1) = false := by rfl) :
    PV X (.Call (.Name x p) (e :: es) [] pos) (callV n F g) := by
  obtain ⟨t, ht, hf⟩ := ha
  refine ⟨_, pe_call (CX := CX0) (E := E0) Fn hr hg hm hk hb .nil pass0 ht hdb he hpl, fun H₀ H O σ ds hd d Q o e q => ?_⟩
  unfold callV at e
  cases h : g ds with
  | none => rw [h] at e; cases e
  | some l =>
    rw [h] at e
    simp only [Option.bind_some] at e
    split at e
    · rename_i hln
      cases h2 : F l with
      | none => rw [h2] at e; cases e
      | some r =>
        rw [h2] at e
        simp only [Option.bind_some] at e
        refine hf H₀ H O σ ds hd l _ o h fun vs H1 s1 r1 => ?_
        have hl := r1.length
        refine ⟨by simp only [List.append_nil]; omega, l, r, by simpa using r1, h2, fun v H' s' ro => q v H' (s1.trans s') ?_⟩
        exact retV_ok ro e fun a ha => (o.mono s1).old ha
    · cases e
end
/-! ### operations over what is read -/
def OpN (X : Cx) (r : R2) (op : D → D → Option D) : Prop := ∀ H O x y dx dy d Q, Rep X.K H none0 x dx → Rep X.K H none0 y dy → op dx dy = some d → (∀ v H', Same H H' → Rep X.K H' O v d → Q v H') → r x y H Q
theorem pvn_tOp {r : R2} {op : D → D → Option D} (hs : OpN X r op) {fa fb : FE} {ta tb : TE} (ha : ∀ H₀ H O σ ds hd d Q, Ok X.K H₀ H O σ ds hd → fa ds = some d → (∀ v H', Same H H' → Rep X.K H' none0 v d → Q v H') → ta σ H Q)
    (hb : ∀ H₀ H O σ ds hd d Q, Ok X.K H₀ H O σ ds hd → fb ds = some d → (∀ v H', Same H H' → Rep X.K H' none0 v d → Q v H') → tb σ H Q) :
    ∀ H₀ H O σ ds hd d Q, Ok X.K H₀ H O σ ds hd → bin2 op fa fb ds = some d → (∀ v H', Same H H' → Rep X.K H' O v d → Q v H') → tOp r ta tb σ H Q := by
  intro H₀ H O σ ds hd d Q o e q
  unfold bin2 at e
  cases h1 : fa ds with
  | none => rw [h1] at e; cases e
  | some dx =>
    cases h2 : fb ds with
    | none => rw [h1, h2] at e; cases e
    | some dy =>
      rw [h1, h2] at e
      refine ha H₀ H O σ ds hd dx _ o h1 fun x H1 s1 r1 => ?_
      refine hb H₀ H1 O σ ds hd dy _ (o.mono s1) h2 fun y H2 s2 r2 => ?_
      exact hs H2 O x y dx dy d Q (r1.mono s2) r2 e fun v H' s r => q v H' ((s1.trans s2).trans s) r
theorem pt_cmpN {op : CmpOp} {r : R2} {opD : D → D → Option D} {a b : Expr} {fa fb : FE} {pos : Pos} (ho : OpR X (compareOp op) r) (hs : OpN X r opD) (ha : PVn X a fa) (hb : PVn X b fb) (hm : behindInMarks op b = false) : PTv X (.Compare a [op] [b] pos) (testB (bin2 opD fa fb)) := by
  obtain ⟨ta, pa, ha⟩ := ha
  obtain ⟨tb, pb, hb⟩ := hb
  refine ⟨_, pt_cmpR ho pa pb hm, fun H₀ H O σ ds hd k Q o e q => ?_⟩
  unfold testB at e
  cases h : bin2 opD fa fb ds with
  | none => rw [h] at e; cases e
  | some d =>
    rw [h] at e
    refine pvn_tOp hs ha hb H₀ H O σ ds hd d _ o h fun v H' s r => ?_
    cases d with
    | bl c => cases e; cases r; exact ⟨_, rfl, q H' s⟩
    | _ => cases e
/-! ### == over trees -/

mutual
theorem Rep.reads {pins : List (Addr × Obj)} {σ : L2.St} {H : Hp} {s : Shared} {O : Addr → Prop} (I : Inv X pins σ H s) : ∀ {v : V} {d : D} {u : Value} {n : Nat}, Rep X.K H O v d → RelV v u → shal n d = true → ∃ as, Reads s.heap u (toPy d) as ∧ (toPy d).canLay0 = true ∧ (toPy d).depth ≤ n + 1
  | _, _, _, _, .non, r, _ => by cases r; exact ⟨[], .none, rfl, Nat.zero_le _⟩
  | _, _, _, _, .bl b, r, _ => by cases r; exact ⟨[], .bool b, rfl, Nat.zero_le _⟩
  | _, _, _, _, .int i, r, _ => by obtain ⟨t, rfl⟩ := r; exact ⟨[], .int i t, rfl, Nat.zero_le _⟩
  | _, _, _, _, .str x, r, h => by obtain ⟨t, rfl⟩ := r; exact ⟨[], .str x t, by simpa [toPy, PyData.canLay0, shal] using h, Nat.zero_le _⟩
  | _, _, _, n, .tup m h q, r, hs => by
    cases r
    obtain ⟨its, rv, ⟨o, ho, hc, k, hd⟩, hz⟩ := I.tuple (.inl h)
    obtain ⟨as, h1, h2, h3⟩ := Reps.reads I q rv (by simpa [shal] using hs)
    exact ⟨as, .tuple ho hc hd (by simpa using h1), by simpa [toPy, PyData.canLay0] using h2, by simpa [toPy, PyData.depth] using h3⟩
  | _, _, _, n, .tupK h q, r, hs => by
    cases r
    obtain ⟨its, rv, ⟨o, ho, hc, k, hd⟩, hz⟩ := I.tuple (.inr h)
    obtain ⟨as, h1, h2, h3⟩ := Reps.reads I q rv (by simpa [shal] using hs)
    exact ⟨as, .tuple ho hc hd (by simpa using h1), by simpa [toPy, PyData.canLay0] using h2, by simpa [toPy, PyData.depth] using h3⟩
  | _, _, _, n, .lst m h q, r, hs => by
    cases r
    obtain ⟨its, rv, pl, hz⟩ := I.list (.inl h)
    obtain ⟨o, ho, hc, k, hd⟩ := pl.isList
    obtain ⟨as, h1, h2, h3⟩ := Reps.reads I q rv (by simpa [shal] using hs)
    exact ⟨_, .list ho hc hd (by simpa using h1), by simpa [toPy, PyData.canLay0] using h2, by simpa [toPy, PyData.depth] using h3⟩
  | _, _, _, n, .lstK h q, r, hs => by
    cases r
    obtain ⟨its, rv, pl, hz⟩ := I.list (.inr h)
    obtain ⟨o, ho, hc, k, hd⟩ := pl.isList
    obtain ⟨as, h1, h2, h3⟩ := Reps.reads I q rv (by simpa [shal] using hs)
    exact ⟨_, .list ho hc hd (by simpa using h1), by simpa [toPy, PyData.canLay0] using h2, by simpa [toPy, PyData.depth] using h3⟩
  | _, _, _, _, .dct _ _ _ _, _, hs => by simp [shal] at hs
  | _, _, _, _, .ins _ _ _ _ _, _, hs => by simp [shal] at hs
theorem Reps.reads {pins : List (Addr × Obj)} {σ : L2.St} {H : Hp} {s : Shared} {O : Addr → Prop} (I : Inv X pins σ H s) : ∀ {vs : List V} {ds : List D} {us : List Value} {n : Nat}, Reps X.K H O vs ds → Vals vs us → shals n ds = true → ∃ as, ReadsAll s.heap us (toPys ds) as ∧ PyData.canLayAll0 (toPys ds) = true ∧ PyData.depthAll (toPys ds) ≤ n
  | _, _, _, _, .nil, r, _ => by cases r; exact ⟨[], .nil, rfl, Nat.zero_le _⟩
  | _, _, _, 0, .cons h t, _, hs => by simp [shals] at hs
  | _, _, _, n + 1, .cons h t, r, hs => by
    cases r with
    | cons r1 r2 =>
      simp only [shals, Bool.and_eq_true] at hs
      obtain ⟨as, h1, h2, h3⟩ := Rep.reads I h r1 hs.1
      obtain ⟨bs, k1, k2, k3⟩ := Reps.reads I t r2 hs.2
      exact ⟨_, .cons h1 k1, by simp [toPys, PyData.canLayAll0, h2, k2], by simp only [toPys, PyData.depthAll]; omega⟩
end

def rEqD (X : Cx) (neg : Bool) : R2 := fun x y H Q => ∃ dx dy, Rep X.K H none0 x dx ∧ Rep X.K H none0 y dy ∧ shal 40 dx = true ∧ shal 40 dy = true ∧ Q (.bl (if neg then !eqvD dx dy else eqvD dx dy)) H
theorem op_eqD (hu : X.A.units + 100 < cLine) : OpR X (compareOp .Eq) (rEqD X false) := by
  intro pins s σ H x y v u Q I rx ry h
  obtain ⟨dx, dy, r1, r2, s1, s2, q⟩ := h
  obtain ⟨as, a1, a2, a3⟩ := r1.reads I rx s1
  obtain ⟨bs, b1, b2, b3⟩ := r2.reads I ry s2
  exact SeqAt.compareEq_reads a1 b1 a2 b2 (by omega) ⟨.bl _, H, I, rfl, q⟩
theorem op_neD (hu : X.A.units + 100 < cLine) : OpR X (compareOp .NotEq) (rEqD X true) := by
  intro pins s σ H x y v u Q I rx ry h
  obtain ⟨dx, dy, r1, r2, s1, s2, q⟩ := h
  obtain ⟨as, a1, a2, a3⟩ := r1.reads I rx s1
  obtain ⟨bs, b1, b2, b3⟩ := r2.reads I ry s2
  exact SeqAt.compareNe_reads a1 b1 a2 b2 (by omega) ⟨.bl _, H, I, rfl, q⟩
theorem on_eqD : OpN X (rEqD X false) eqD := by
  intro H O x y dx dy d Q rx ry e q
  unfold eqD at e
  split at e
  · rename_i hs
    cases e
    exact ⟨dx, dy, rx, ry, hs.1, hs.2, q _ H (Same.refl _) (.bl _)⟩
  · cases e
theorem on_neD : OpN X (rEqD X true) neD := by
  intro H O x y dx dy d Q rx ry e q
  unfold neD at e
  split at e
  · rename_i hs
    cases e
    exact ⟨dx, dy, rx, ry, hs.1, hs.2, q _ H (Same.refl _) (.bl _)⟩
  · cases e
theorem hu100 {k : Nat} {A : Around} (hr : Room k A) : A.units + 100 < cLine := by have := hr.un; omega
theorem pt_eq {a b : Expr} {fa fb : FE} {pos : Pos} {k : Nat} (hr : Room k X.A) (ha : PVn X a fa) (hb : PVn X b fb) : PTv X (.Compare a [.Eq] [b] pos) (testB (bin2 eqD fa fb)) := pt_cmpN (op_eqD (hu100 hr)) on_eqD ha hb (nomark _)
theorem pt_ne {a b : Expr} {fa fb : FE} {pos : Pos} {k : Nat} (hr : Room k X.A) (ha : PVn X a fa) (hb : PVn X b fb) : PTv X (.Compare a [.NotEq] [b] pos) (testB (bin2 neD fa fb)) := pt_cmpN (op_neD (hu100 hr)) on_neD ha hb (nomark _)
/-! ### is None -/

theorem non_iff {K : Frag} {H : Hp} {O : Addr → Prop} {v : V} {d : D} (r : Rep K H O v d) : decide (v = .non) = (match d with | .non => true | _ => false) := by
  cases r <;> rfl
theorem on_not : OpN X (fun x y H Q => y = .non ∧ Q (.bl (!decide (x = .non))) H) notD := by
  intro H O x y dx dy d Q rx ry e q
  cases dy <;> first | (cases dx <;> simp [notD] at e; done) | skip
  cases ry
  refine ⟨rfl, ?_⟩
  rw [non_iff rx]
  cases dx <;> (simp only [notD, Option.some.injEq] at e; subst e; exact q _ H (Same.refl _) (.bl _))
theorem pt_isnot {a b : Expr} {fa fb : FE} {pos : Pos} (ha : PVn X a fa) (hb : PVn X b fb) : PTv X (.Compare a [.IsNot] [b] pos) (testB (bin2 notD fa fb)) := pt_cmpN op_notN on_not ha hb (nomark _)
/-! ### in, not in: flat items -/

/-! ### products, powers -/

theorem os_mul : OpS X (rI IntMulOk fun i j => .int (i * j)) mulD := by
  intro H O x y dx dy d Q ho rx ry e q
  cases dx <;> cases dy <;> first | (simp [mulD] at e; done) | skip
  simp only [mulD] at e
  split at e
  · rename_i hc
    cases e
    rw [rx.int', ry.int']
    exact ⟨_, _, rfl, rfl, hc, q _ H (Same.refl _) (.int _)⟩
  · cases e
theorem os_pow : OpS X (rI CPowB fun i j => .int (i ^ j.toNat)) powD := by
  intro H O x y dx dy d Q ho rx ry e q
  cases dx <;> cases dy <;> first | (simp [powD] at e; done) | skip
  simp only [powD] at e
  split at e
  · rename_i hc
    cases e
    rw [rx.int', ry.int']
    exact ⟨_, _, rfl, rfl, hc, q _ H (Same.refl _) (.int _)⟩
  · cases e
/-! ### xs + ys, xs[a:b], list(xs): new lists -/

theorem pvf_cat {a b : Expr} {fa fb : FE} {pos : Pos} (ha : PVw X a fa) (hb : PVw X b fb) : PVf X (.BinOp a .Add b pos) (catA fa fb) := by
  obtain ⟨ta, pa, ha⟩ := ha
  obtain ⟨tb, pb, hb⟩ := hb
  refine ⟨_, pe_op op_catS pa pb, fun H₀ H O σ ds hd l Q o e q => ?_⟩
  unfold catA at e
  cases h1 : fa ds with
  | none => rw [h1] at e; cases e
  | some dx =>
    cases h2 : fb ds with
    | none => rw [h1, h2] at e; cases e
    | some dy =>
      rw [h1, h2] at e
      simp only [Option.bind_some] at e
      cases dx <;> cases dy <;> first | (simp at e; done) | skip
      simp only at e
      split at e
      · rename_i hz
        cases e
        refine ha H₀ H O σ ds hd _ _ o h1 fun x H1 s1 r1 => ?_
        refine hb H₀ H1 O σ ds hd _ _ (o.mono s1) h2 fun y H2 s2 r2 => ?_
        obtain ⟨a1, xs, rfl, hq1, rs1⟩ := (r1.mono s2).seqL
        obtain ⟨a2, ys, rfl, hq2, rs2⟩ := r2.seqL
        refine ⟨a1, a2, xs, ys, rfl, rfl, hq1, hq2, by rw [rs1.length, rs2.length]; exact hz, fun p hp => ?_⟩
        refine q p _ _ ((s1.trans s2).trans (same_upd hp _)) ((s1.trans s2).free hp) upd_same ?_
        exact ((rs1.append rs2).more hp).mono (same_upd hp _)
      · cases e
variable (X) in
def POv (e : Option Expr) (f : List Sl → Option (Option Int)) : Prop := ∃ t, PO X e t ∧ ∀ H₀ H O σ ds hd i Q, Ok X.K H₀ H O σ ds hd → f ds = some i → (∀ H', Same H H' → Q i H') → t σ H Q

theorem pov_so {e : Expr} {f : FE} (h : PVw X e f) : POv X (some e) (soP f) := by
  obtain ⟨t, ht, hf⟩ := h
  refine ⟨_, po_some ht, fun H₀ H O σ ds hd i Q o e q => ?_⟩
  unfold soP at e
  cases h1 : f ds with
  | none => rw [h1] at e; cases e
  | some d =>
    rw [h1] at e
    simp only [Option.bind_some] at e
    cases d <;> first | (cases e; done) | skip
    cases e
    refine hf H₀ H O σ ds hd _ _ o h1 fun v H' s r => ?_
    rw [r.int']
    exact ⟨_, rfl, q H' s⟩

theorem cut_reps {K : Frag} {H : Hp} {O : Addr → Prop} {xs : List V} {l : List D} {a b : Option Int} (rs : Reps K H O xs l) : Reps K H O (cutV xs a b) (cutD l a b) := by
  unfold cutV cutD
  rw [rs.length]
  exact (rs.drop _).take _
theorem pvf_slice {e : Expr} {lo hi : Option Expr} {f : FE} {gl gh : List Sl → Option (Option Int)} {p2 pos : Pos} (he : PVw X e f) (hl : POv X lo gl) (hh : POv X hi gh) : PVf X (.Subscript e (.Slice lo hi none p2) pos) (sliA f gl gh) := by
  obtain ⟨te, pe, he⟩ := he
  obtain ⟨tl, pl, hl⟩ := hl
  obtain ⟨th, ph, hh⟩ := hh
  refine ⟨_, pe_slice sl_list pe pl ph, fun H₀ H O σ ds hd l Q o e q => ?_⟩
  unfold sliA at e
  cases h1 : f ds with
  | none => rw [h1] at e; cases e
  | some d =>
    cases h2 : gl ds with
    | none => rw [h1, h2] at e; cases e
    | some a =>
      cases h3 : gh ds with
      | none => rw [h1, h2, h3] at e; cases e
      | some b =>
        rw [h1, h2, h3] at e
        simp only [Option.bind_some] at e
        cases d <;> first | (cases e; done) | skip
        cases e
        refine he H₀ H O σ ds hd _ _ o h1 fun v H1 s1 r1 => ?_
        refine hl H₀ H1 O σ ds hd _ _ (o.mono s1) h2 fun H2 s2 => ?_
        refine hh H₀ H2 O σ ds hd _ _ ((o.mono s1).mono s2) h3 fun H3 s3 => ?_
        obtain ⟨a1, xs, rfl, hq, rs⟩ := ((r1.mono s2).mono s3).seqL
        refine ⟨a1, xs, rfl, hq, fun p hp => ?_⟩
        have ss := (s1.trans s2).trans s3
        refine q p _ _ (ss.trans (same_upd hp _)) (ss.free hp) upd_same ?_
        exact ((cut_reps rs).more hp).mono (same_upd hp _)

/-! ### min, max, abs, int -/

theorem cs_max : CallS X (fun xs H Q => ∃ i j, xs = [.int i, .int j] ∧ Q (.int (if j > i then j else i)) H) mxD := by
  intro H O vs l d Q ho r e q
  match l, r, e with
  | [.int i, .int j], .cons r1 (.cons r2 .nil), e =>
    cases e
    exact ⟨i, j, by rw [r1.int', r2.int'], q _ H (Same.refl _) (.int _)⟩
theorem cs_min : CallS X (fun xs H Q => ∃ i j, xs = [.int i, .int j] ∧ Q (.int (if j < i then j else i)) H) mnD := by
  intro H O vs l d Q ho r e q
  match l, r, e with
  | [.int i, .int j], .cons r1 (.cons r2 .nil), e =>
    cases e
    exact ⟨i, j, by rw [r1.int', r2.int'], q _ H (Same.refl _) (.int _)⟩
theorem pv_max2 {p pos : Pos} {a b : Expr} {g : FA} (hc : X.calm = true) (hm : X.mg "max" = none) (ha : PAv X [a, b] g) (hg : Gl X "max" := by rfl) (he : starEach [a, b] X.env = (false, eval a X.env) :: starEach [b] X.env := by rfl) (hpl : (backTo pos (starEach [b] X.env)).any (·.1) = false := by rfl) :
    PV X (.Call (.Name "max" p) [a, b] [] pos) (callB mxD g) := pv_callB (call_max2 hc) cs_max hm (by decide +kernel) ha hg (by decide) (by decide) he hpl
theorem pv_min2 {p pos : Pos} {a b : Expr} {g : FA} (hc : X.calm = true) (hm : X.mg "min" = none) (ha : PAv X [a, b] g) (hg : Gl X "min" := by rfl) (he : starEach [a, b] X.env = (false, eval a X.env) :: starEach [b] X.env := by rfl) (hpl : (backTo pos (starEach [b] X.env)).any (·.1) = false := by rfl) :
    PV X (.Call (.Name "min" p) [a, b] [] pos) (callB mnD g) := pv_callB (call_min2 hc) cs_min hm (by decide +kernel) ha hg (by decide) (by decide) he hpl
/-! ### truth of any value -/

theorem isEmpty_len {α β : Type} {xs : List α} {ys : List β} (h : xs.length = ys.length) : xs.isEmpty = ys.isEmpty := by
  cases xs <;> cases ys <;> simp_all
theorem PVn.t {e : Expr} {f : FE} (h : PVn X e f) (he : ∀ whole, isTrue e X.env whole = (do let v ← whole; standAt e.pos; holding [v] (truthy v)) := by intro _; rfl) : PTv X e (testT f) := by
  obtain ⟨t, ht, hf⟩ := h
  refine ⟨_, pt_truth ht he, fun H₀ H O σ ds hd k Q o e q => ?_⟩
  unfold testT at e
  cases h : f ds with
  | none => rw [h] at e; cases e
  | some d =>
    rw [h] at e
    simp only [Option.bind_some] at e
    refine hf H₀ H O σ ds hd d _ o h fun v H' s r => ⟨k, ?_, q H' s⟩
    cases d with
    | non => cases e; cases r; exact rfl
    | bl b => cases e; cases r; exact rfl
    | int i => cases e; cases r; exact rfl
    | str x =>
      simp only [truD] at e
      split at e
      · rename_i hz; cases e; cases r; exact ⟨hz, rfl⟩
      · cases e
    | tup l =>
      cases e
      obtain ⟨a, xs, rfl, hq, rs⟩ := WRep.seqT (.inl r)
      exact .inr (.inl ⟨xs, hq, by rw [isEmpty_len rs.length]⟩)
    | lst l =>
      cases e
      obtain ⟨a, xs, rfl, hq, rs⟩ := WRep.seqL (.inl r)
      exact .inl ⟨xs, hq, by rw [isEmpty_len rs.length]⟩
    | _ => cases e
/-! ### any -/
/-! ### statements: raise that is not reached, a slot given up, name op= e, while, tuples taken apart, methods of lists -/
theorem psv_never {st : Stmt} : PSv X st (fun _ => none) := ⟨_, ps_never, fun _ _ _ _ _ _ _ _ _ e _ => by cases e⟩

end
end FL

namespace L2
open PySem PySem.Spec PyProof.Rows
section
variable {X : Cx}
end
end L2
namespace Att
open PySem PySem.W PySem.Calls PyProof.Rows
theorem bits_script : ∀ {ns : List Int} {b : Nat}, WData.weightAll (ns.map WData.int) ≤ b → ∀ c ∈ ns, Builtin.Int.intBits c ≤ b
  | [], _, _ => fun c hc => by cases hc
  | n :: r, b, h => fun c hc => by
    simp only [List.map_cons, WData.weightAll, WData.weight] at h
    rcases List.mem_cons.mp hc with rfl | hc
    · unfold Builtin.Int.intBits
      omega
    · exact bits_script (ns := r) (b := b) (by omega) c hc
theorem attach_callB {l : OpenLaw} {n : Nat} {q : Program} {loose : List Str} {XP : (Str → Option Value) → Heap → Prop} {YP : World → Heap → Prop} {d : DefRec}
    (hn : l.most = some n) (hdf : d.params.defaults = [])
    (call : ∀ (w : World) (s₀ s₁ : Shared) (mg mb : Str → Option Value) (fa : Addr) (o : Obj) (pm cd doc : Value) (a : Addr) (vs : List Value) (ns : List Int),
      Ground q loose [] XP w s₀ mg mb s₁.heap → YP w s₁.heap →
      s₁.heap.get? fa = some o → o.data = .func (docDef d.name d.params d.body d.scope pm cd doc) → s₁.heap.CodeRec cd d.name → mg d.name = some (.ref fa) →
      s₁.heap.get? a = some { cls := .type "list", data := .seq vs.toArray } → IntsAre vs ns → ns.length ≤ n → (∀ c ∈ ns, Builtin.Int.intBits c ≤ 1048576) → s₁.gens = #[] →
      codeAny (model l.prog w) callerA (.call (.ref fa) ⟨[.ref a], []⟩) (fun r s' => r = .ok (.ret (.bool true)) ∧ OldK s₁.heap s'.heap ∧ s'.os = s₁.os ∧ AllBare s'.gens) s₁) :
    WalkO q loose XP YP l.row.toRowW d [] (fun f vs => PySem.call f vs) := by
  intro w s₀ s₁ mg mb G Y fa o pm cd doc dV kV ho hd hcd hD hmg hg args vals as hpre hlay hrd hwl hlo
  obtain rfl : dV = .none := Dflts.none hD hdf
  obtain rfl : kV = .none := Dflts.noKw hD
  obtain ⟨a, vs, ns, rfl, rfl, hobj, hints, hlen⟩ := script_of hn hpre hwl
  have hb : ∀ c ∈ ns, Builtin.Int.intBits c ≤ 1048576 := by
    have h1 := (layableW_iff.mp (layW_cons hlay).1).2.2
    simp only [WData.weight] at h1
    exact bits_script (Nat.le_trans h1 (by decide))
  refine enter_call (codeAny_mono (call w s₀ s₁ mg mb fa o pm cd doc a vs ns G Y ho (fd_plain hd) hcd hmg hobj hints hlen hb hg) fun r s' hq => ?_)
  obtain ⟨rfl, h2, h3, h4⟩ := hq
  exact ⟨.inl ⟨.bool true, .bool true, [], rfl, fun _ => rfl, .bool true, post_true l _, fun _ => ⟨List.Pairwise.nil, fun _ hm => (nomatch hm)⟩⟩, h2, h3, h4⟩
end Att
namespace FL
open PySem PySem.Spec PyProof.Rows L2
def spLawB (K : Frag) (n : Nat) : Sp := fun vs H Q _ => ∃ (a : Addr) (ns : List Int), vs = [.ref a] ∧ SqL K H a (ns.map V.int) ∧ ns.length ≤ n ∧ (∀ c ∈ ns, Builtin.Int.intBits c ≤ 1048576) ∧ ∀ H', Q (.bl true) H'
theorem law_ofB {P : Program} {w : World} {K : Frag} {mg : Str → Option Value} {base : Heap} {k : Nat} {f : Addr} {fd : FuncData} {x : Str} {n : Nat} {F : List D → Option Ret} (Fn : FnOk P w K mg base CX0 k f fd [x] (spF K 1 F))
    (h : ∀ ns : List Int, ns.length ≤ n → (∀ c ∈ ns, Builtin.Int.intBits c ≤ 1048576) → F [.lst (ns.map D.int)] = some (.val (.bl true))) : FnOk P w K mg base CX0 k f fd [x] (spLawB K n) := by
  refine Fn.imp fun vs H Q E hq => ?_
  obtain ⟨a, ns, rfl, hS, hl, hb, q⟩ := hq
  refine ⟨rfl, [.lst (ns.map D.int)], .val (.bl true), .cons ?_ .nil, h ns hl hb, fun v H' s r => ?_⟩
  · rcases hS with hS | hS
    · exact .lst (fun z => z.elim) hS (Reps.ints ns)
    · exact .lstK hS (Reps.ints ns)
  · cases r; exact q H'
theorem walkB {l : PySem.W.OpenLaw} {q : Program} {loose : List Str} {XP : (Str → Option Value) → Heap → Prop} {YP : World → Heap → Prop} {d : DefRec} {K : Params → PySem.W.Frag} {k : Nat} (hn : l.most = some 63) (hdf : d.params.defaults = []) (hr : Room k callerA)
    (hY : ∀ (w : World) (h : Heap), YP w h → (K w.params).In h)
    (F : ∀ (w : World) (mg : Str → Option Value) (fa : Addr) (h : Heap), (K w.params).In h → h.Ns mainGlobals mg → mg d.name = some (.ref fa) →
      ∃ fd : FuncData, (∀ (s : Shared) (u : Value), BindsTo s fd ⟨[u], []⟩ [("_law_script", u)]) ∧ ∀ base : Heap, (K w.params).In base → base.Ns mainGlobals mg → FnOk l.prog w (K w.params) mg base CX0 k fa fd ["_law_script"] (spLawB (K w.params) 63)) :
    PySem.W.WalkO q loose XP YP l.row.toRowW d [] (fun f vs => PySem.call f vs) := by
  refine Att.attach_callB hn hdf fun w s₀ s₁ mg mb fa o pm cd doc a vs ns G Y ho hd hcd hmg hobj hints hlen hb hg => ?_
  have KX := hY w _ Y
  obtain ⟨fd, hbd, hF⟩ := F w mg fa _ KX G.T.g hmg
  exact law_call KX G.T.g G.T.b G.T.builtins G.T.nolimit hg hobj hints (Nat.le_trans hlen (by decide)) hr hF hbd (fun H hO hS => ⟨a, ns, rfl, hS, hlen, hb, fun _ => rfl⟩) fun H e s' z => z
/-! ### a def that a body calls -/
structure Cal (P : Program) (w : World) (K : Frag) (mg : Str → Option Value) (base : Heap) (x : Str) (k n : Nat) (F : List D → Option Ret) : Prop where
  ex : ∃ (f : Addr) (fd : FuncData) (ps : List Str), FnOk P w K mg base CX0 k f fd ps (spF K n F) ∧ Binds K fd ps [] ∧ PySem.W.keepIn K (.ref f) = true ∧ mg x = some (.ref f)
section
variable {X : Cx}
section
variable {k j : Nat} {n : Nat} {F : List D → Option Ret} {x : Str} {p pos : Pos} {e : Expr} {es : List Expr} {g : FA}
theorem pv_callC (C : Cal X.prog X.w X.K X.mg X.base x k n F) (hr : Room j X.A) (ha : PAn X (e :: es) g) (hj : k ≤ j := by decide)
    (hg : Gl X x := by rfl) (hdb : (x == ("__debug__" : Str)) = false := by decide) (he : starEach (e :: es) X.env = (false, eval e X.env) :: starEach es X.env := by rfl) (hpl : (backTo pos (starEach es X.env)).any (·.1) = false := by rfl) :
    PV X (.Call (.Name x p) (e :: es) [] pos) (callV n F g) := by
  obtain ⟨f, fd, ps, Fn, hb, hk, hm⟩ := C.ex
  exact pv_callN Fn (hr.mono hj) hm hk hb ha hg hdb he hpl
end

end
/-! ### comparisons by name -/

section
variable {X : Cx} {a b : Expr} {fa fb : FE} {pos : Pos}
theorem pt_lt (ha : PVw X a fa) (hb : PVw X b fb) : PTv X (.Compare a [.Lt] [b] pos) (testB (bin2 ltD fa fb)) := pt_cmpV op_lt os_cmpI ha hb (nomark _)
theorem pt_gt (ha : PVw X a fa) (hb : PVw X b fb) : PTv X (.Compare a [.Gt] [b] pos) (testB (bin2 gtD fa fb)) := pt_cmpV op_gt os_cmpI ha hb (nomark _)
theorem pv_addI (ha : PVw X a fa) (hb : PVw X b fb) : PV X (.BinOp a .Add b pos) (bin2 addD fa fb) := pv_bin op_addU os_add ha hb
theorem pv_subI (ha : PVw X a fa) (hb : PVw X b fb) : PV X (.BinOp a .Sub b pos) (bin2 subD fa fb) := pv_bin op_sub os_sub ha hb
theorem pv_mulI (ha : PVw X a fa) (hb : PVw X b fb) : PV X (.BinOp a .Mult b pos) (bin2 mulD fa fb) := pv_bin op_mulB os_mul ha hb
theorem pv_powI (ha : PVw X a fa) (hb : PVw X b fb) : PV X (.BinOp a .Pow b pos) (bin2 powD fa fb) := pv_bin op_powB os_pow ha hb
theorem pv_modI (ha : PVw X a fa) (hb : PVw X b fb) : PV X (.BinOp a .Mod b pos) (bin2 modD fa fb) := pv_bin op_mod os_mod ha hb
theorem pv_divI (ha : PVw X a fa) (hb : PVw X b fb) : PV X (.BinOp a .FloorDiv b pos) (bin2 fdivD fa fb) := pv_bin op_fdivB os_fdiv ha hb
end
end FL
namespace L2
open PySem PySem.Spec PyProof.Rows
section
variable {X : Cx} {tg : Expr}
end
end L2
namespace FL
open PySem PySem.Spec PyProof.Rows L2
section
variable {X : Cx}
end
end FL

namespace L2
open PySem PySem.Spec PyProof.Rows
/-! ### range with a step -/
def Itr3 (lo c : Int) (n : Nat) : It := ⟨fun i _ => i < n, fun i H x H' => H' = H ∧ x = .int (lo + (i : Int) * c), fun i _ => n ≤ i⟩
theorem turn_range3 {P : Program} {w : World} {K : PySem.W.Frag} {tg : Expr} (it : Addr) (lo c : Int) (n : Nat) : Turn P w K tg (Itr3 lo c n) [it] it (fun i h => IsRangeIter h it (lo + (i : Nat) * c) ((n : Int) - (i : Nat)) c) where
  mem := by simp
  obj := fun i h st b hb => by
    have e : b = it := by simpa using hb
    subst e
    exact ⟨_, st, fun v z => by
      have z' : Data.fields _ = Data.cell v := z
      cases z'⟩
  keep := fun i h h' st k => k it (by simp) _ st
  item := by
    intro X hP hw hK hc i pins s σ H E I hf st hg
    subst hP hw hK
    obtain ⟨f0, f1, f2, f3, f4, f5⟩ := hf it (by simp)
    have W := Walks.range (prog := X.prog) (w := X.w) (I.ok.hd hc) it lo c n
    refine W.item i s _ _ hg st fun v h' tk hv st' kk => ?_
    obtain ⟨t, rfl⟩ := hv
    have I1 : Inv X pins σ H { s with heap := h', toks := tk } := I.turned (fun b o hb e => kk b o (by simpa using hb) e) f0 f1 f3 f4 f5
    exact ⟨_, rfl, go_of (s := { s with heap := h', toks := tk }) (n := "range_iterator") st' rfl rfl (by decide) ⟨.int (lo + (i : Int) * c), H, I1, ⟨t, rfl⟩, ⟨rfl, rfl⟩, st', fun b hb => (hf b hb).1⟩⟩
  done := by
    intro X hP hw hK hc i pins s σ H E I hf st hg
    subst hP hw hK
    obtain ⟨f0, f1, f2, f3, f4, f5⟩ := hf it (by simp)
    exact wpAny_pyNext_range_end (I.ok.hd hc) st (by have : n ≤ i := hg; omega) fun h' eb => ⟨rfl, I.turned (t' := s.toks) (fun b o hb e => eb b o hb e) f0 f1 f3 f4 f5⟩
  self := fun _ _ _ _ _ st h => wpAny_pyIter_rangeiter st h
theorem steps3_eq {i j c : Int} (hc : 0 < c) : ((FL.steps3 i j c : Nat) : Int) = Builtin.Range.rangeSize i j c := by
  unfold FL.steps3 Builtin.Range.rangeSize
  rw [if_pos (show c > 0 from hc)]
  by_cases h : i < j
  · rw [if_pos h, if_pos h]
    have := Int.ediv_nonneg (show 0 ≤ j - i - 1 by omega) (Int.le_of_lt hc)
    omega
  · rw [if_neg h, if_neg h]; rfl
theorem small_step {i j c : Int} (h : FL.okR3 i j c) : Builtin.Range.small i j c = true := by
  obtain ⟨h1, h2, h3, h4, h5, h6⟩ := h
  have e61 : (2 : Int) ^ 61 = 2305843009213693952 := by decide
  have hs : 0 ≤ Builtin.Range.rangeSize i j c ∧ Builtin.Range.rangeSize i j c ≤ 2 ^ 62 := by
    unfold Builtin.Range.rangeSize
    rw [if_pos (show c > 0 from h5)]
    have e62 : (2 : Int) ^ 62 = 4611686018427387904 := by decide
    split
    · have h7 := Int.ediv_nonneg (show 0 ≤ j - i - 1 by omega) (Int.le_of_lt h5)
      have h8 : (j - i - 1) / c ≤ j - i - 1 := Int.ediv_le_self _ (by omega)
      omega
    · omega
  have e62 : (2 : Int) ^ 62 = 4611686018427387904 := by decide
  unfold Builtin.Range.small
  simp only [Builtin.Range.rangeFitsLong, Bool.and_eq_true, Bool.or_eq_true, decide_eq_true_eq, beq_iff_eq, show c > 0 from h5, if_true]
  omega
section
variable {X : Cx} {tg : Expr}
def iRng3 (ta : TA) : TI := fun σ H R => ta σ H fun vs H1 => ∃ i j c : Int, vs = [.int i, .int j, .int c] ∧ FL.okR3 i j c ∧ R (Itr3 i c (FL.steps3 i j c)) H1
theorem pi_range3 {a b c : Expr} {ta : TA} {p pos : Pos} (hg : Gl X "range") (hm : X.mg "range" = none) (ha : PA X [a, b, c] ta) (hs : starEach [a, b, c] X.env = (false, eval a X.env) :: starEach [b, c] X.env := by rfl) (hs2 : (backTo pos (starEach [b, c] X.env)).any (·.1) = false := by rfl) :
    PI X tg (.Call (.Name "range" p) [a, b, c] [] pos) (iRng3 ta) := by
  intro pins s σ H R I h
  refine Call_ (ld_blt I hg hm boot_range (PyProof.Rows.callWith_type1 (thn (ha pos pins s σ H _ I h) fun us s1 ⟨vs, H1, I1, r1, q1⟩ => ?_) hs hs2))
  obtain ⟨i, j, c, e, hk, q⟩ := q1
  subst e
  cases r1 with
  | cons r rr =>
    cases rr with
    | cons r' rr =>
      cases rr with
      | cons r'' rr =>
        cases rr
        obtain ⟨t, rfl⟩ := r
        obtain ⟨t', rfl⟩ := r'
        obtain ⟨t'', rfl⟩ := r''
        have hc0 : 0 < c := hk.2.2.2.2.1
        refine call_range_3 (by omega) ?_ (.inl (PyProof.noPylong_small (by have := hk.2.2.2.2.2; omega)))
        refine wpAny_pyIter_range (IsRange.new ..) (small_step hk) ?_
        have I2 : Inv X pins σ H1 { s1 with heap := s1.heap.push { cls := .type "range", data := .fields #[.int i t, .int j t', .int c t''] }, toks := s1.toks } := I1.kept fun b o e => Heap.get?_push_of_some _ e
        refine ⟨(s1.heap.push { cls := .type "range", data := .fields #[.int i t, .int j t', .int c t''] }).objs.size, [(s1.heap.push { cls := .type "range", data := .fields #[.int i t, .int j t', .int c t''] }).objs.size], _, _, H1, rfl,
          I2.kept (t' := s1.toks) fun b o e => Heap.get?_push_of_some _ e, turn_range3 _ i c (FL.steps3 i j c), ?_, fun b hb => ?_, q⟩
        · have e1 : i + ((0 : Nat) : Int) * c = i := by simp
          have e2 : ((FL.steps3 i j c : Nat) : Int) - ((0 : Nat) : Int) = Builtin.Range.rangeSize i j c := by rw [steps3_eq hc0]; simp
          show IsRangeIter _ _ (i + ((0 : Nat) : Int) * c) (((FL.steps3 i j c : Nat) : Int) - ((0 : Nat) : Int)) c
          rw [e1, e2]
          exact Heap.get?_push_size _ rfl
        · have e : b = (s1.heap.push { cls := .type "range", data := .fields #[.int i t, .int j t', .int c t''] }).objs.size := by simpa using hb
          subst e
          exact I2.fpOk (Nat.le_refl _) (I2.hok.fresh (Nat.le_refl _))
/-! ### reversed(a list) -/
/-! ### max of a list of ints -/
end
end L2
namespace FL
open PySem PySem.Spec PyProof.Rows L2
section
variable {X : Cx}
theorem wlk_range3 {K : Frag} {lo c : Int} {n : Nat} : Wlk K (Itr3 lo c n) (.non, .non) (range3D lo c n) := by
  intro H O _ r
  have hl : (range3D lo c n).length = n := by simp [range3D]
  refine ⟨fun i d hd => ?_, show n ≤ _ by rw [hl]; exact Nat.le_refl _⟩
  have hi : i < n := by
    have := (List.getElem?_eq_some_iff.mp hd).1
    rwa [hl] at this
  refine ⟨hi, fun x H' y => ?_⟩
  obtain ⟨rfl, rfl⟩ := y
  have : d = D.int (lo + (i : Int) * c) := by
    simp only [range3D, List.getElem?_map, List.getElem?_range hi, Option.map_some] at hd
    exact (Option.some.inj hd).symm
  subst this
  exact ⟨Same.refl _, .int _⟩
theorem piv_range3 {tg a b c : Expr} {p pos : Pos} {fa fb fc : FE} (hm : X.mg "range" = none) (ha : PVw X a fa) (hb : PVw X b fb) (hc : PVw X c fc) (hg : Gl X "range" := by rfl)
    (hs : starEach [a, b, c] X.env = (false, eval a X.env) :: starEach [b, c] X.env := by rfl) (hs2 : starEach [b, c] X.env = (false, eval b X.env) :: starEach [c] X.env := by rfl) (hs3 : starEach [c] X.env = (false, eval c X.env) :: starEach [] X.env := by rfl) (hp : (backTo pos (starEach [b, c] X.env)).any (·.1) = false := by rfl) :
    PIv X tg (.Call (.Name "range" p) [a, b, c] [] pos) (rng3 fa fb fc) := by
  obtain ⟨t, ht, hf⟩ := pav_cons ha (pav_cons hb (pav_cons hc pav_nil hs3) hs2) hs
  refine ⟨_, pi_range3 hg hm ht hs hp, fun H₀ H O σ ds hd items R o e q => ?_⟩
  unfold rng3 at e
  cases h1 : fa ds with
  | none => rw [h1] at e; cases e
  | some dx =>
    cases h2 : fb ds with
    | none => rw [h1, h2] at e; cases e
    | some dy =>
      cases h3 : fc ds with
      | none => rw [h1, h2, h3] at e; cases e
      | some dz =>
        rw [h1, h2, h3] at e
        simp only [Option.bind_some] at e
        cases dx <;> first | (cases e; done) | skip
        cases dy <;> first | (cases e; done) | skip
        cases dz <;> first | (cases e; done) | skip
        simp only at e
        split at e
        · rename_i i j c hk
          cases e
          refine hf H₀ H O σ ds hd [.int i, .int j, .int c] _ o (by simp [consA, h1, h2, h3, nilA]) fun vs H' s r => ?_
          cases r with
          | cons r1 rr =>
            cases rr with
            | cons r2 rr =>
              cases rr with
              | cons r3 rr =>
                cases rr
                exact ⟨i, j, c, by rw [r1.int', r2.int', r3.int'], hk, q _ (.non, .non) H' s .non wlk_range3⟩
        · cases e
/-! ### int(e) of an int or a bool -/
/-! ### name += e; a, b = c, d; a <= b <= c as a test -/
end
end FL

namespace L2
open PySem PySem.Spec PyProof.Rows
/-! ### zip(a list, a list), the target a tuple -/
section
variable {X : Cx} {pins : List (Addr × Obj)} {σ : St} {H : Hp} {s : Shared} {h' : Heap}
end
section
variable {X : Cx}
end
end L2
namespace FL
open PySem PySem.Spec PyProof.Rows L2
section
variable {X : Cx}
/-! what a comprehension walks: more is known, for the heap only grows -/
section
variable {scope : Scope} {NY : List Str} {mp : List (Option Nat)} {tg iter elt : Expr} {ifs : List Expr} {pos : Pos} {fi : FA} {ga : D → List Sl → Option (List Sl)} {tt : FT} {fe : FE}
end
end
end FL

namespace L2
open PySem PySem.Spec PyProof.Rows
/-! ### list(range(a, b, c)) -/
section
variable {X : Cx}
end
end L2
namespace FL
open PySem PySem.Spec PyProof.Rows L2
section
variable {X : Cx}
end
end FL

namespace FL
open PySem PySem.Spec PyProof.Rows L2
section
variable {X : Cx}
/-! list.index -/
end
end FL

namespace FL
open PySem PySem.Spec PyProof.Rows L2
section
variable {X : Cx}
theorem Reps.rep {K : Frag} {H : Hp} {O : Addr → Prop} {xs : List V} {l : List D} (h : Reps K H O xs l) : ∀ k : Nat, Reps K H O (List.replicate k xs).flatten (List.replicate k l).flatten
  | 0 => by simpa using .nil
  | k + 1 => by
    rw [List.replicate_succ, List.flatten_cons, List.replicate_succ, List.flatten_cons]
    exact h.append (Reps.rep h k)
theorem pvf_repF {a b : Expr} {fa : FA} {fb : FE} {pos : Pos} (ha : PVf X a fa) (hb : PVw X b fb) : PVf X (.BinOp a .Mult b pos) (repF fa fb) := by
  obtain ⟨ta, pa, ha⟩ := ha
  obtain ⟨tb, pb, hb⟩ := hb
  refine ⟨_, pe_op op_rep pa pb, fun H₀ H O σ ds hd l Q o e q => ?_⟩
  unfold repF at e
  cases h1 : fa ds with
  | none => rw [h1] at e; cases e
  | some l0 =>
    cases h2 : fb ds with
    | none => rw [h1, h2] at e; cases e
    | some dy =>
      rw [h1, h2] at e
      simp only [Option.bind_some] at e
      cases dy <;> first | (cases e; done) | skip
      rename_i k
      simp only at e
      split at e
      · rename_i hk
        cases e
        refine ha H₀ H O σ ds hd l0 _ o h1 fun a1 xs H1 s1 n1 e1 r1 => ?_
        refine hb H₀ H1 O σ ds hd _ _ (o.mono s1) h2 fun v H2 s2 r2 => ?_
        have r2' := r2.int'
        subst r2'
        refine ⟨a1, k, xs, rfl, rfl, s2 _ _ e1, ?_, ?_, ?_, fun p hp => ?_⟩
        · have : (2 : Int) ^ 63 = 9223372036854775808 := by decide
          omega
        · have : (2 : Int) ^ 63 = 9223372036854775808 := by decide
          omega
        · rw [r1.length]; exact hk.2.2
        · have ss := s1.trans s2
          refine q p _ _ (ss.trans (same_upd hp _)) (ss.free hp) upd_same ?_
          have r3 : Reps X.K H2 O xs l0 := (r1.less fun _ z => .inr z).mono s2
          exact ((r3.rep k.toNat).more hp).mono (same_upd hp _)
      · cases e
end
end FL

namespace L2
open PySem PySem.Spec PyProof.Rows
section
variable {X : Cx}
end
end L2
namespace FL
open PySem PySem.Spec PyProof.Rows L2
section
variable {X : Cx}
end
end FL

namespace L2
open PySem PySem.Spec PyProof.Rows
section
variable {X : Cx}
def tMethD (X : Cx) (m : Str) (k : Nat) (ta : TE) (t : TA) : TE := fun σ H Q => ta σ H fun x H1 => ∃ (a C dx : Addr) (fs : List (Str × V)) (f : Addr) (fd : FuncData) (ps : List Str) (sp : Sp), x = .ref a ∧ H1 a = some (.ins C dx fs) ∧ fs.lookup m = none ∧
  Cls X.K C ∧ Meth X.K C m f ∧ FnOk X.prog X.w X.K X.mg X.base CX0 k f fd ps sp ∧ Binds X.K fd ps [] ∧ t σ H1 fun vs H2 => sp (x :: vs) H2 Q E0
theorem pe_methD {k : Nat} {m : Str} {e o : Expr} {es : List Expr} {apos pos : Pos} {ta : TE} {t : TA} {pl : Sem Bool} (he : PE X o ta) (hr : Room k X.A) (ha : PA X (e :: es) t)
    (hst : starEach (e :: es) X.env = (false, eval e X.env) :: starEach es X.env := by rfl) (hpl : (backTo pos (starEach es X.env)).any (·.1) = false := by rfl)
    (ht : eval (.Call (.Attribute o m apos) (e :: es) [] pos) X.env = (do
      let ov ← eval o X.env
      standAt apos.atName
      let (f, first) ← holding [ov] (getMethod ov m pl)
      callWith pos f first (backTo pos (starEach (e :: es) X.env)) (backToKw pos (keywordEach [] X.env))) := by rfl) :
    PE X (.Call (.Attribute o m apos) (e :: es) [] pos) (tMethD X m k ta t) := by
  intro pins s σ H Q I h
  refine PySem.W.methodCall_KW (pl := pl) (thn (he pins s σ H _ I h) fun u s1 ⟨x, H1, I1, rx, a, C, dx, fs, f, fd, ps, sp, ex, ea, l, c, hm, F, hb, q⟩ => ?_) ht
  subst ex
  obtain rfl : u = Value.ref a := rx
  refine getmeth_ok I1 ea c hm l ?_
  refine PySem.W.callWith_K (first := [.ref a]) (h₀ := X.base) I.ok.mod.kin hm.kp (thn (ha pos pins s1 σ H1 _ I1 q) fun us s2 ⟨vs, H2, I2, r, q2⟩ => ⟨I2.kIn, ?_⟩) hst hpl
  exact run_fn (us := .ref a :: us) (vs := .ref a :: vs) F hr hb .nil pass0 I2 (.cons rfl r) (by simpa using q2)
structure Sup (K : PySem.W.Frag) (C : Addr) (m : Str) (f : Addr) : Prop where
  ex : ∃ mc, PySem.W.specialIn K (.ref C) "__getattribute__" = some (some (.builtin "type.__getattribute__")) ∧ PySem.W.readsIn K C mc = true ∧ PySem.W.findCls K (.ref C) mc m = some (.val (.ref f)) ∧ PySem.W.keepIn K (.ref f) = true
theorem pe_sup {k : Nat} {x m : Str} {C f : Addr} {fd : FuncData} {ps : List Str} {sp : Sp} {e : Expr} {es : List Expr} {p apos pos : Pos} {t : TA} {pl : Sem Bool} (hg : Gl X x) (hmg : X.mg x = some (.ref C)) (hs : Sup X.K C m f)
    (F : FnOk X.prog X.w X.K X.mg X.base CX0 k f fd ps sp) (hr : Room k X.A) (hb : Binds X.K fd ps []) (ha : PA X (e :: es) t) (hdb : (x == ("__debug__" : Str)) = false := by decide)
    (hst : starEach (e :: es) X.env = (false, eval e X.env) :: starEach es X.env := by rfl) (hpl : (backTo pos (starEach es X.env)).any (·.1) = false := by rfl)
    (ht : eval (.Call (.Attribute (.Name x p) m apos) (e :: es) [] pos) X.env = (do
      let ov ← eval (.Name x p) X.env
      standAt apos.atName
      let (f, first) ← holding [ov] (getMethod ov m pl)
      callWith pos f first (backTo pos (starEach (e :: es) X.env)) (backToKw pos (keywordEach [] X.env))) := by rfl) :
    PE X (.Call (.Attribute (.Name x p) m apos) (e :: es) [] pos) (fun σ H Q => t σ H fun vs H2 => sp vs H2 Q E0) := by
  intro pins s σ H Q I h
  obtain ⟨mc, h1, h2, h3, h4⟩ := hs.ex
  refine PySem.W.methodCall_KW (pl := pl) (ld_glob I hg hmg ?_ hdb) ht
  refine PySem.W.method_cls I.kIn h1 (PySem.W.cls_value I.kIn h2 h3 rfl ?_)
  have I' := I.tok (s.toks + 1)
  refine PySem.W.callWith_K (first := []) (h₀ := X.base) I.ok.mod.kin h4 (thn (ha pos pins _ σ H _ I' h) fun us s2 ⟨vs, H2, I2, r, q2⟩ => ⟨I2.kIn, ?_⟩) hst hpl
  exact run_fn (us := us) (vs := vs) F hr hb .nil pass0 I2 r (by simpa using q2)
end
end L2
namespace FL
open PySem PySem.Spec PyProof.Rows L2
/-! ### fields and methods of an object -/
section
variable {X : Cx}
theorem PVd.v {e : Expr} {f : FE} (h : PVd X e f) : PV X e f := by
  obtain ⟨t, ht, hf⟩ := h
  exact ⟨t, ht, fun H₀ H O σ ds hd d Q o e q => hf H₀ H O σ ds hd d Q o e fun v H' s r => q v H' s (r.less fun a z => o.old z)⟩
def FldOk (K : Frag) (f : Str) (ix : List (Nat × Nat)) : Prop := ∀ t i, ix.lookup t = some i → (clsFlds t)[i]? = some f ∧ (∀ j, j < i → (clsFlds t)[j]? ≠ some f) ∧ ∀ C, PySem.W.nsIn K mainGlobals (clsName t) = some (some (.ref C)) → Cls K C ∧ NoAttr K C f
theorem fldOk_nil {K : Frag} {f : Str} : FldOk K f [] := fun t i h => by simp at h
theorem fldOk_cons {K : Frag} {f : Str} {t i : Nat} {C : Addr} {ix : List (Nat × Nat)} (a : PySem.W.nsIn K mainGlobals (clsName t) = some (some (.ref C))) (c : Cls K C) (n : NoAttr K C f) (h1 : (clsFlds t)[i]? = some f) (h2 : ∀ j, j < i → (clsFlds t)[j]? ≠ some f)
    (h : FldOk K f ix) : FldOk K f ((t, i) :: ix) := by
  intro t' i' e
  by_cases q : t' = t
  · subst q
    simp at e
    subst e
    refine ⟨h1, h2, fun C' e' => ?_⟩
    rw [a] at e'
    cases e'
    exact ⟨c, n⟩
  · have : (t' == t) = false := by simpa using q
    rw [List.lookup_cons, this] at e
    exact h t' i' e
theorem lookup_fld {f : Str} : ∀ {kvs : List (Str × V)} {i : Nat} {v : V}, (kvs.map (·.1))[i]? = some f → (∀ j, j < i → (kvs.map (·.1))[j]? ≠ some f) → (kvs.map (·.2))[i]? = some v → kvs.lookup f = some v
  | [], _, _, h, _, _ => by simp at h
  | (g, x) :: r, 0, v, h1, _, h3 => by
    simp at h1 h3
    subst h1 h3
    simp [List.lookup]
  | (g, x) :: r, i + 1, v, h1, h2, h3 => by
    have hg : g ≠ f := fun z => h2 0 (by omega) (by simp [z])
    have : (f == g) = false := by simpa using fun z => hg z.symm
    rw [List.lookup_cons, this]
    exact lookup_fld (i := i) (by simpa using h1) (fun j hj => by have := h2 (j + 1) (by omega); simpa using this) (by simpa using h3)
theorem pv_fld {e : Expr} {f : Str} {pos : Pos} {fe : FE} {ix : List (Nat × Nat)} (hF : FldOk X.K f ix) (he : PV X e fe) (hb : attributeBase e f X.env (eval e X.env) = eval e X.env := by rfl) : PV X (.Attribute e f pos) (fldG ix fe) := by
  obtain ⟨t, ht, hf⟩ := he
  refine ⟨_, pe_fld ht hb, fun H₀ H O σ ds hd d Q o e q => ?_⟩
  unfold fldG at e
  cases h : fe ds with
  | none => rw [h] at e; cases e
  | some x =>
    rw [h] at e
    simp only [Option.bind_some] at e
    refine hf H₀ H O σ ds hd x _ o h fun v H1 s1 r1 => ?_
    cases x with
    | ins t es =>
      simp only [fldD] at e
      cases hl : ix.lookup t with
      | none => rw [hl] at e; cases e
      | some i =>
        rw [hl] at e
        simp only [Option.bind_some] at e
        obtain ⟨h1, h2, h3⟩ := hF t i hl
        cases r1 with
        | @ins a C dx _ kvs _ c n ha ek rr =>
          obtain ⟨cl, na⟩ := h3 C c
          obtain ⟨w, hw, rw'⟩ := rr.get e
          refine ⟨a, C, dx, kvs, w, rfl, ha, cl, na, lookup_fld (i := i) (by rw [ek]; exact h1) (by rw [ek]; exact h2) hw, ?_⟩
          exact q w H1 s1 rw'
    | _ => simp [fldD] at e
structure MCal (P : Program) (w : World) (K : Frag) (mg : Str → Option Value) (base : Heap) (m : Str) (k n : Nat) (cs : List Nat) (F : Nat → List D → Option Ret) : Prop where
  no : ∀ t ∈ cs, m ∉ clsFlds t
  of : ∀ t ∈ cs, ∀ C, PySem.W.nsIn K mainGlobals (clsName t) = some (some (.ref C)) → ∃ (f : Addr) (fd : FuncData) (ps : List Str), Cls K C ∧ Meth K C m f ∧ FnOk P w K mg base CX0 k f fd ps (spF K (n + 1) (F t)) ∧ Binds K fd ps []
theorem mcal_nil {P : Program} {w : World} {K : Frag} {mg : Str → Option Value} {base : Heap} {m : Str} {k n : Nat} {F : Nat → List D → Option Ret} : MCal P w K mg base m k n [] F := ⟨fun _ h => (nomatch h), fun _ h => (nomatch h)⟩
theorem mcal_cons {P : Program} {w : World} {K : Frag} {mg : Str → Option Value} {base : Heap} {m : Str} {j k n t : Nat} {cs : List Nat} {F : Nat → List D → Option Ret} {C f : Addr} {fd : FuncData} {ps : List Str} (a : PySem.W.nsIn K mainGlobals (clsName t) = some (some (.ref C)))
    (c : Cls K C) (hm : Meth K C m f) (G : FnOk P w K mg base CX0 j f fd ps (spF K (n + 1) (F t))) (hj : j ≤ k) (b : Binds K fd ps []) (hn : m ∉ clsFlds t) (h : MCal P w K mg base m k n cs F) : MCal P w K mg base m k n (t :: cs) F := by
  refine ⟨fun t' ht => (List.mem_cons.mp ht).elim (fun e => e ▸ hn) (h.no t'), fun t' ht C' e => ?_⟩
  rcases List.mem_cons.mp ht with rfl | ht
  · rw [a] at e
    cases e
    exact ⟨f, fd, ps, c, hm, G.mono hj, b⟩
  · exact h.of t' ht C' e
theorem lookup_none_of {m : Str} : ∀ {kvs : List (Str × V)}, m ∉ kvs.map (·.1) → kvs.lookup m = none
  | [], _ => rfl
  | (g, x) :: r, h => by
    have hg : (m == g) = false := by simpa using fun z => h (by simp [z])
    rw [List.lookup_cons, hg]
    exact lookup_none_of fun z => h (by simp at z ⊢; exact .inr z)
theorem meth_sem {m : Str} {k n : Nat} {cs : List Nat} {F : Nat → List D → Option Ret} (M : MCal X.prog X.w X.K X.mg X.base m k n cs F) {ta : TE} {t : TA} {fo : FE} {g : FA}
    (hfo : ∀ H₀ H O σ ds hd d Q, Ok X.K H₀ H O σ ds hd → fo ds = some d → (∀ v H', Same H H' → Rep X.K H' O v d → Q v H') → ta σ H Q)
    (hfg : ∀ H₀ H O σ ds hd l Q, Ok X.K H₀ H O σ ds hd → g ds = some l → (∀ vs H', Same H H' → Reps X.K H' none0 vs l → Q vs H') → t σ H Q)
    {H₀ H : Hp} {O : Addr → Prop} {σ : L2.St} {ds : List Sl} {hd : Hold} {x : D} {l : List D} {r : Ret} {Q : VK} (o : Ok X.K H₀ H O σ ds hd) (h1 : fo ds = some x) (h2 : g ds = some l) (h3 : methR n cs F x l = some r)
    (q : ∀ v H1 H', Same H H1 → Same H1 H' → RetOk X.K H1 H' v r → Q v H') : tMethD X m k ta t σ H Q := by
  refine hfo H₀ H O σ ds hd x _ o h1 fun v H1 s1 r1 => ?_
  cases x with
  | ins c es =>
    simp only [methR] at h3
    split at h3
    · rename_i hc
      cases r1 with
      | @ins a C dx _ kvs _ cc nn ha ek rr =>
        obtain ⟨f, fd, ps, cl, hm, Fn, hb⟩ := M.of c hc.1 C cc
        refine ⟨a, C, dx, kvs, f, fd, ps, _, rfl, ha, lookup_none_of (by rw [ek]; exact M.no c hc.1), cl, hm, Fn, hb, ?_⟩
        refine hfg H₀ H1 O σ ds hd l _ (o.mono s1) h2 fun vs H2 s2 r2 => ?_
        have hl := r2.length
        have r1' : Rep X.K H2 none0 (.ref a) (.ins c es) := (Rep.ins cc (fun z => z.elim) (s2 _ _ ha) ek ((rr.mono s2).less fun _ z => z.elim))
        exact ⟨by simp only [List.length_cons]; omega, _, r, .cons r1' r2, h3, fun v H' s' ro => q v H2 H' (s1.trans s2) s' ro⟩
    · cases h3
  | _ => simp [methR] at h3
section
variable {m : Str} {k j n : Nat} {cs : List Nat} {F : Nat → List D → Option Ret} {o e : Expr} {es : List Expr} {apos pos : Pos} {fo : FE} {g : FA}
theorem pv_meth {pl : Sem Bool} (M : MCal X.prog X.w X.K X.mg X.base m k n cs F) (hr : Room j X.A) (ho : PV X o fo) (ha : PAn X (e :: es) g) (hj : k ≤ j := by decide)
    (hst : starEach (e :: es) X.env = (false, eval e X.env) :: starEach es X.env := by rfl) (hpl : (backTo pos (starEach es X.env)).any (·.1) = false := by rfl)
    (ht : eval (.Call (.Attribute o m apos) (e :: es) [] pos) X.env = (do
      let ov ← eval o X.env
      standAt apos.atName
      let (f, first) ← holding [ov] (getMethod ov m pl)
      callWith pos f first (backTo pos (starEach (e :: es) X.env)) (backToKw pos (keywordEach [] X.env))) := by rfl) : PV X (.Call (.Attribute o m apos) (e :: es) [] pos) (methV n cs F fo g) := by
  obtain ⟨ta, pa, hfo⟩ := ho
  obtain ⟨t, pt, hfg⟩ := ha
  refine ⟨_, pe_methD (pl := pl) (k := k) pa (hr.mono hj) pt hst hpl ht, fun H₀ H O σ ds hd d Q o e q => ?_⟩
  unfold methV at e
  cases h1 : fo ds with
  | none => rw [h1] at e; cases e
  | some x =>
    cases h2 : g ds with
    | none => rw [h1, h2] at e; cases e
    | some l =>
      rw [h1, h2] at e
      simp only [Option.bind_some] at e
      cases h3 : methR n cs F x l with
      | none => rw [h3] at e; cases e
      | some r =>
        rw [h3] at e
        refine meth_sem M hfo hfg o h1 h2 h3 fun v H1 H' s1 s' ro => q v H' (s1.trans s') ?_
        exact retV_ok ro e fun a ha => (o.mono s1).old ha
end
/-! ### isinstance of an object and an own class -/
def IsoOk (K : Frag) (C : Addr) (tb : List (Nat × Bool)) : Prop := ∀ t b, tb.lookup t = some b → ∀ C', PySem.W.nsIn K mainGlobals (clsName t) = some (some (.ref C')) → Cls K C' ∧ PySem.W.findIn K (.ref C') "__class__" = some (some (.builtin "object.__class__")) ∧
  PySem.W.specialIn K (.builtin "object.__class__") "__get__" = some (some (.builtin "getset_descriptor.__get__")) ∧ PySem.W.takesIn K (.builtin "object.__class__") = some true ∧ PySem.W.mroIn K C' (.type "object") = some true ∧ PySem.W.kitOne K (.ref C') (.ref C) = some b
theorem pv_iso {p pT pos : Pos} {e : Expr} {f : FE} {x : Str} {C : Addr} {tb : List (Nat × Bool)} (hm : X.mg "isinstance" = none) (hT : X.mg x = some (.ref C)) (hI : IsoOk X.K C tb) (he : PV X e f) (hg : Gl X "isinstance" := by rfl) (hgT : Gl X x := by rfl)
    (h1 : starEach [e, .Name x pT] X.env = (false, eval e X.env) :: starEach [.Name x pT] X.env := by rfl) (h2 : starEach [.Name x pT] X.env = (false, eval (.Name x pT) X.env) :: starEach [] X.env := by rfl) (h3 : (backTo pos (starEach [.Name x pT] X.env)).any (·.1) = false := by rfl)
    (hd : (x == ("__debug__" : Str)) = false := by decide) : PV X (.Call (.Name "isinstance" p) [e, .Name x pT] [] pos) (un1 (isoD tb) f) := by
  obtain ⟨t, ht, hf⟩ := he
  refine ⟨_, pe_callB call_isi hg hm (by decide +kernel) (pa_cons ht (pa_cons (pe_glob (v := .ref C) hgT hT rfl hd) pa_nil h2) h1) (by decide) (by decide) h1 h3, fun H₀ H O σ ds hd d Q o e q => ?_⟩
  unfold un1 at e
  cases hh : f ds with
  | none => rw [hh] at e; cases e
  | some dx =>
    rw [hh] at e
    simp only [Option.bind_some] at e
    cases dx with
    | ins c es =>
      simp only [isoD] at e
      cases hl : tb.lookup c with
      | none => rw [hl] at e; cases e
      | some b =>
        rw [hl] at e
        cases e
        refine hf H₀ H O σ ds hd _ _ o hh fun v H' s r => ?_
        cases r with
        | @ins a C' dx _ kvs _ cc nn ha ek rr =>
          obtain ⟨cl, c1, c2, c3, c4, c5⟩ := hI c b hl C' cc
          exact ⟨.ref a, .ref C, .ref C, .ref C', b, rfl, rfl, .of (.ins ha cl c1 c2 c3 c4), c5, q _ H' s (.bl b)⟩
    | _ => simp [isoD] at e
end
end FL

namespace FL
open PySem PySem.Spec PyProof.Rows L2
/-! ### __init__: the fields that it lays down -/
def eH : Hp := fun _ => none
def Keepx (x : Addr) (H H' : Hp) : Prop := ∀ b o, b ≠ x → H b = some o → H' b = some o
theorem Keepx.refl {x : Addr} {H : Hp} : Keepx x H H := fun _ _ _ e => e
theorem Keepx.trans {x : Addr} {H H1 H2 : Hp} (a : Keepx x H H1) (b : Keepx x H1 H2) : Keepx x H H2 := fun c o n e => b c o n (a c o n e)
theorem Keepx.of_same {x : Addr} {H H1 : Hp} (s : Same H H1) : Keepx x H H1 := fun c o _ e => s c o e
section
variable {K : Frag} {H H' : Hp} {O : Addr → Prop} {x : Addr}
theorem Keepx.rd {a C dx : Addr} {kvs : List (Str × V)} {xs : List V} (k : Keepx x H H') (hx : H x = some (.ins C dx kvs)) (h : Rd H a (.tup xs)) : Rd H' a (.tup xs) := by
  rcases h with h | ⟨o, h⟩
  · exact .inl (k _ _ (fun z => by rw [z, hx] at h; cases h) h)
  · exact .inr ⟨o, k _ _ (fun z => by rw [z, hx] at h; cases h) h⟩
mutual
theorem Rep.flatKeep {C dx : Addr} {kvs : List (Str × V)} (k : Keepx x H H') (hx : H x = some (.ins C dx kvs)) : ∀ {v : V} {d : D}, flat d = true → Rep K H O v d → Rep K H' O v d
  | _, _, _, .non => .non
  | _, _, _, .bl b => .bl b
  | _, _, _, .int i => .int i
  | _, _, _, .str y => .str y
  | _, _, f, .tup n h r => .tup n (k.rd hx h) (Reps.flatKeep k hx (by simpa [flat] using f) r)
  | _, _, f, .tupK h r => .tupK h (Reps.flatKeep k hx (by simpa [flat] using f) r)
  | _, _, f, .lst _ _ _ => by simp [flat] at f
  | _, _, f, .lstK _ _ => by simp [flat] at f
  | _, _, f, .dct _ _ _ _ => by simp [flat] at f
  | _, _, f, .ins _ _ _ _ _ => by simp [flat] at f
theorem Reps.flatKeep {C dx : Addr} {kvs : List (Str × V)} (k : Keepx x H H') (hx : H x = some (.ins C dx kvs)) : ∀ {vs : List V} {ds : List D}, flats ds = true → Reps K H O vs ds → Reps K H' O vs ds
  | _, _, _, .nil => .nil
  | _, _, f, .cons h t => by
    simp only [flats, Bool.and_eq_true] at f
    exact .cons (Rep.flatKeep k hx f.1 h) (Reps.flatKeep k hx f.2 t)
end
end
def FlatS (ds : List Sl) : Prop := ∀ i : Nat, ds[i]? = none ∨ ds[i]? = some Sl.no ∨ ∃ d, ds[i]? = some (Sl.v d) ∧ flat d = true
def putAll (kvs : List (Str × V)) (l : List (Str × V)) : List (Str × V) := l.foldl (fun k p => putF p.1 p.2 k) kvs
theorem putAll_append (kvs l m : List (Str × V)) : putAll kvs (l ++ m) = putAll (putAll kvs l) m := by simp [putAll]
theorem length_putAll : ∀ (l kvs : List (Str × V)), (putAll kvs l).length ≤ kvs.length + l.length
  | [], kvs => by simp [putAll]
  | p :: r, kvs => by
    have h1 := length_putAll r (putF p.1 p.2 kvs)
    have h2 := length_putF p.1 p.2 kvs
    simp only [putAll, List.foldl_cons, List.length_cons] at h1 ⊢
    omega
theorem putF_new {f : Str} {v : V} : ∀ {kvs : List (Str × V)}, f ∉ kvs.map (·.1) → putF f v kvs = kvs ++ [(f, v)]
  | [], _ => rfl
  | (g, x) :: r, h => by
    have hg : ¬ g = f := fun z => h (by simp [z])
    rw [show putF f v ((g, x) :: r) = (if g = f then (g, v) :: r else (g, x) :: putF f v r) from rfl, if_neg hg, putF_new fun z => h (by simp at z ⊢; exact .inr z)]
    rfl
theorem putAll_new : ∀ {l kvs : List (Str × V)}, (kvs.map (·.1) ++ l.map (·.1)).Nodup → putAll kvs l = kvs ++ l
  | [], kvs, _ => by simp [putAll]
  | p :: r, kvs, h => by
    have hp : p.1 ∉ kvs.map (·.1) := fun z => by
      rw [List.nodup_append] at h
      exact h.2.2 _ z _ (by simp) rfl
    have : putAll kvs (p :: r) = putAll (putF p.1 p.2 kvs) r := rfl
    rw [this, putF_new hp, putAll_new (by simpa [List.append_assoc] using h)]
    simp
theorem ok_flat {K : Frag} {H H' : Hp} {σ : L2.St} {ds : List Sl} {x C dx : Addr} {kvs : List (Str × V)} (o : Ok K eH H none0 σ ds []) (f : FlatS ds) (k : Keepx x H H') (hx : H x = some (.ins C dx kvs)) : Ok K eH H' none0 σ ds [] := by
  refine ⟨(fun b u e => by cases e), (fun i l a hi _ => by rcases f i with h | h | ⟨d, h, hf⟩ <;> rw [h] at hi <;> cases hi), fun _ z => z.elim, o.len, fun i s e => ?_, fun i j a _ ⟨l, hi⟩ _ _ _ => ?_, (fun p hp => by cases hp)⟩
  · rcases f i with h | h | ⟨d, h, hf⟩
    · rw [h] at e; cases e
    · rw [h] at e; cases e; exact slOk_no
    · rw [h] at e; cases e
      obtain ⟨v, h1, h2⟩ := o.read h
      rw [h1]
      exact slOk_v (h2.flatKeep k hx hf)
  · rcases f i with h | h | ⟨d, h, hf⟩ <;> rw [h] at hi <;> cases hi
def spN (K : Frag) (n : Nat) (ns : List Str) (G : List D → Option (List D)) : Sp := fun vs H Q _ => ∃ (x C dx : Addr) (kvs : List (Str × V)) (vs' : List V) (ds new : List D), vs = .ref x :: vs' ∧ vs'.length = n ∧ H x = some (.ins C dx kvs) ∧ Cls K C ∧
  Reps K H none0 vs' ds ∧ flats ds = true ∧ G ds = some new ∧ (∀ f ∈ ns, NoAttr K C f) ∧ kvs.length + ns.length < 1000 ∧
  ∀ ws H', Keepx x H H' → H' x = some (.ins C dx (putAll kvs (ns.zip ws))) → Reps K H' none0 ws new → new.length = ns.length → flats new = true → Q .non H'
section
variable {X : Cx}
variable (X) in
def PIs (st : List Stmt) (ns : List Str) (g : FN) : Prop := ∃ t, PSs X st t ∧ ∀ H σ ds x C dx kvs new E, Ok X.K eH H none0 σ ds [] → FlatS ds → σ[0]? = some (some (.ref x)) → H x = some (.ins C dx kvs) → Cls X.K C → g ds = some new → flats new = true →
  (∀ f ∈ ns, NoAttr X.K C f) → kvs.length + ns.length < 1000 → (∀ ws H', Keepx x H H' → H' x = some (.ins C dx (putAll kvs (ns.zip ws))) → Reps X.K H' none0 ws new → new.length = ns.length → E.nx σ H') → t E σ H
variable (X) in
def PI1 (st : Stmt) (ns : List Str) (g : FN) : Prop := ∃ t, PS X st t ∧ ∀ H σ ds x C dx kvs new E, Ok X.K eH H none0 σ ds [] → FlatS ds → σ[0]? = some (some (.ref x)) → H x = some (.ins C dx kvs) → Cls X.K C → g ds = some new → flats new = true →
  (∀ f ∈ ns, NoAttr X.K C f) → kvs.length + ns.length < 1000 → (∀ ws H', Keepx x H H' → H' x = some (.ins C dx (putAll kvs (ns.zip ws))) → Reps X.K H' none0 ws new → new.length = ns.length → E.nx σ H') → t E σ H
theorem pis_one {st : Stmt} {ns : List Str} {g : FN} (h : PI1 X st ns g) : PIs X [st] ns g := by
  obtain ⟨t, ht, hf⟩ := h
  exact ⟨_, pss_one ht, hf⟩
theorem flats_append : ∀ {a b : List D}, flats (a ++ b) = true → flats a = true ∧ flats b = true
  | [], b, h => ⟨rfl, h⟩
  | d :: r, b, h => by
    simp only [List.cons_append, flats, Bool.and_eq_true] at h ⊢
    have := flats_append h.2
    exact ⟨⟨h.1, this.1⟩, this.2⟩
theorem pis_cons {st : Stmt} {rest : List Stmt} {ns ms l : List Str} {f g : FN} (h1 : PI1 X st ns f) (h2 : PIs X rest ms g) (el : l = ns ++ ms := by rfl) : PIs X (st :: rest) l (seqN f g) := by
  subst el
  obtain ⟨t, ht, hf⟩ := h1
  obtain ⟨u, hu, hg⟩ := h2
  refine ⟨_, pss_cons ht hu, fun H σ ds x C dx kvs new E o fl h0 hx cl e hfl hn hk q => ?_⟩
  unfold seqN at e
  cases e1 : f ds with
  | none => rw [e1] at e; cases e
  | some a =>
    cases e2 : g ds with
    | none => rw [e1, e2] at e; cases e
    | some b =>
      rw [e1, e2] at e
      cases e
      obtain ⟨fa, fb⟩ := flats_append hfl
      simp only [List.length_append] at hk
      refine hf H σ ds x C dx kvs a _ o fl h0 hx cl e1 fa (fun f hf => hn f (by simp [hf])) (by omega) fun ws1 H1 k1 x1 r1 l1 => ?_
      have hz : (ns.zip ws1).length ≤ ns.length := by rw [List.length_zip]; omega
      have hkl := length_putAll (ns.zip ws1) kvs
      refine hg H1 σ ds x C dx _ b _ (ok_flat o fl k1 hx) fl h0 x1 cl e2 fb (fun f hf => hn f (by simp [hf])) (by omega) fun ws2 H2 k2 x2 r2 l2 => ?_
      refine q (ws1 ++ ws2) H2 (k1.trans k2) ?_ ((r1.flatKeep k2 x1 fa).append r2) (by simp; omega)
      have hl : ns.length = ws1.length := by rw [r1.length]; exact l1.symm
      rw [List.zip_append hl, putAll_append]
      exact x2
theorem pi_fld {y f : Str} {e : Expr} {p pos pos' : Pos} {fe : FE} (he : PV X e fe) (hN : X.N[0]? = some y := by rfl) (hv : Vis X.env.scope y := by first | exact Or.inl rfl | exact Or.inr (Or.inl rfl) | exact Or.inr (Or.inr rfl)) (hd : (y == ("__debug__" : Str)) = false := by decide)
    (hcd : (y == ("__classdict__" : Str)) = false := by decide) (hs : swapsWith e (some (.Attribute (.Name y p) f pos')) pos.line X.env = pure false := by rfl) : PI1 X (.Assign [.Attribute (.Name y p) f pos'] e pos) [f] (fldN fe) := by
  obtain ⟨t, ht, hf⟩ := he
  refine ⟨_, ps_fld (pe_var hN hv hd hcd) ht hs, fun H σ ds x C dx kvs new E o fl h0 hx cl e hfl hn hk q => ?_⟩
  unfold fldN at e
  cases e1 : fe ds with
  | none => rw [e1] at e; cases e
  | some d =>
    rw [e1] at e
    simp only [Option.bind_some] at e
    split at e
    · rename_i hd1
      cases e
      simp only [List.length_cons, List.length_nil] at hk
      refine hf eH H none0 σ ds [] d _ o e1 fun v H1 s1 r1 => ?_
      refine ⟨.ref x, h0, x, C, dx, kvs, rfl, s1 _ _ hx, cl, hn f (by simp), by omega, ?_⟩
      have k2 : Keepx x H1 (upd H1 x (.ins C dx (putF f v kvs))) := fun b u hb e => by rw [upd_ne hb]; exact e
      exact q [v] _ ((Keepx.of_same s1).trans k2) upd_same (.cons (r1.flatKeep k2 (s1 _ _ hx) hd1) .nil) rfl
    · cases e
theorem pi_call {e : Expr} {pos : Pos} {fe : FE} (he : PV X e fe) (hs : swapsWith e none pos.line X.env = pure false := by rfl) : PI1 X (.Expr e pos) [] (dropN fe) := by
  obtain ⟨t, ht, hf⟩ := he
  refine ⟨_, ps_expr ht hs, fun H σ ds x C dx kvs new E o fl h0 hx cl e hfl hn hk q => ?_⟩
  unfold dropN at e
  cases e1 : fe ds with
  | none => rw [e1] at e; cases e
  | some d =>
    rw [e1] at e
    cases e
    exact hf eH H none0 σ ds [] d _ o e1 fun v H1 s1 r1 => q [] H1 (.of_same s1) (s1 _ _ hx) .nil rfl
structure SCal (P : Program) (w : World) (K : Frag) (mg : Str → Option Value) (base : Heap) (x : Str) (k : Nat) (ns : List Str) (G : List D → Option (List D)) : Prop where
  ex : ∃ (C f : Addr) (fd : FuncData) (ps : List Str), mg x = some (.ref C) ∧ Sup K C "__init__" f ∧ FnOk P w K mg base CX0 k f fd ps (spN K 0 ns G) ∧ Binds K fd ps []
theorem pi_sup {x y : Str} {k j : Nat} {ns : List Str} {G : List D → Option (List D)} {p p1 apos pos pos' : Pos} (S : SCal X.prog X.w X.K X.mg X.base x k ns G) (hr : Room j X.A) (hj : k ≤ j := by decide) (hg : Gl X x := by rfl) (hN : X.N[0]? = some y := by rfl)
    (hv : Vis X.env.scope y := by first | exact Or.inl rfl | exact Or.inr (Or.inl rfl) | exact Or.inr (Or.inr rfl)) (hd : (y == ("__debug__" : Str)) = false := by decide) (hcd : (y == ("__classdict__" : Str)) = false := by decide) (hdb : (x == ("__debug__" : Str)) = false := by decide)
    (h1 : starEach [.Name y p1] X.env = (false, eval (.Name y p1) X.env) :: starEach [] X.env := by rfl) (hpl : (backTo pos (starEach [] X.env)).any (·.1) = false := by rfl)
    (hs : swapsWith (.Call (.Attribute (.Name x p) "__init__" apos) [.Name y p1] [] pos) none pos'.line X.env = pure false := by rfl) {pl : Sem Bool}
    (ht : eval (.Call (.Attribute (.Name x p) "__init__" apos) [.Name y p1] [] pos) X.env = (do
      let ov ← eval (.Name x p) X.env
      standAt apos.atName
      let (f, first) ← holding [ov] (getMethod ov "__init__" pl)
      callWith pos f first (backTo pos (starEach [.Name y p1] X.env)) (backToKw pos (keywordEach [] X.env))) := by rfl) :
    PI1 X (.Expr (.Call (.Attribute (.Name x p) "__init__" apos) [.Name y p1] [] pos) pos') ns (supN G) := by
  obtain ⟨C0, f0, fd, ps, hmg, hsu, Fn, hb⟩ := S.ex
  refine ⟨_, ps_expr (pe_sup (pl := pl) hg hmg hsu Fn (hr.mono hj) hb (pa_cons (pe_var hN hv hd hcd) pa_nil h1) hdb h1 hpl ht) hs, fun H σ ds x C dx kvs new E o fl h0 hx cl e hfl hn hk q => ?_⟩
  refine ⟨.ref x, h0, x, C, dx, kvs, [], [], new, rfl, rfl, hx, cl, .nil, rfl, e, hn, hk, fun ws H' k' x' r' l' _ => q ws H' k' x' r' l'⟩
end
/-! ### an __init__ of the text by its function -/
theorem flats_mem : ∀ {ds : List D} {i : Nat} {d : D}, flats ds = true → ds[i]? = some d → flat d = true
  | [], _, _, _, e => by simp at e
  | c :: r, 0, d, h, e => by
    simp only [flats, Bool.and_eq_true] at h
    simp at e; subst e; exact h.1
  | c :: r, i + 1, d, h, e => by
    simp only [flats, Bool.and_eq_true] at h
    exact flats_mem h.2 (by simpa using e)
theorem argsN_get {n : Nat} {ds : List D} {i : Nat} {s : Sl} (e : (argsN n ds)[i]? = some s) : s = .no ∨ ∃ j d, i = j + 1 ∧ ds[j]? = some d ∧ s = .v d := by
  unfold argsN at e
  cases i with
  | zero => simp at e; exact .inl e.symm
  | succ j =>
    rw [List.getElem?_cons_succ] at e
    by_cases hj : j < ds.length
    · rw [List.getElem?_append_left (by simpa using hj), List.getElem?_map] at e
      cases h : ds[j]? with
      | none => rw [h] at e; cases e
      | some d => rw [h] at e; cases e; exact .inr ⟨j, d, rfl, h, rfl⟩
    · rw [List.getElem?_append_right (by simpa using hj), List.getElem?_replicate] at e
      split at e
      · cases e; exact .inl rfl
      · cases e
theorem init_ok {P : Program} {w : World} {K : Frag} {mg : Str → Option Value} {base : Heap} {x qual : Str} {st : Stmt} {f : Addr} {fd : FuncData} {N ps : List Str} {k n m : Nat} {ns : List Str} {g : FN} (Fn : Fun K x qual st f fd) (S : FnScope N ps (defScope st))
    (hbody : ∀ (cdv : Value) (A : Around) (outer : List Env) (s : Shared) (H : Hp) (E : XK), Room k (A.deeper (envOfC qual (defScope st) s.heap.objs.size f cdv)) → PIs (cxOf CX0 P w K mg base N qual (defScope st) f cdv A outer s H E).nox (defBody st) ns g)
    (hn : ps.length = n + 1) (hN : n + 1 ≤ m) (hm : N.length = m) : FnOk P w K mg base CX0 (k + 1) f fd ps (spN K n ns (runN g m)) := by
  subst hm
  refine Fn.ok S (fun vs H Q E h => ?_) (fun cdv A outer s H vs Q E hr h => ?_)
  · obtain ⟨x, C, dx, kvs, vs', ds, new, rfl, hl, _⟩ := h
    simp [hl, hn]
  · obtain ⟨x, C, dx, kvs, vs', ds, new, rfl, hl, hx, cl, rv, hfl, e, hna, hk, q⟩ := h
    obtain ⟨t, ht, hf⟩ := hbody cdv A outer s H E hr
    refine ⟨t, ht, ?_⟩
    have hld : ds.length = n := by rw [← rv.length]; exact hl
    unfold runN at e
    cases e1 : g (argsN N.length ds) with
    | none => rw [e1] at e; cases e
    | some new' =>
      rw [e1] at e
      simp only [Option.bind_some] at e
      split at e
      · rename_i hfn
        cases e
        have o : Ok K eH H none0 (L2.start N (.ref x :: vs')) (argsN N.length ds) [] := by
          refine ⟨(fun b u e => by cases e), (fun i l a hi _ => by rcases argsN_get hi with h | ⟨j, d, _, _, h⟩ <;> cases h), fun _ z => z.elim, by simp [L2.start, argsN, hl, hld], fun i s e => ?_, fun i j a _ ⟨l, hi⟩ _ _ _ => ?_, (fun p hp => by cases hp)⟩
          · rcases argsN_get e with rfl | ⟨j, d, rfl, hj, rfl⟩
            · exact slOk_no
            · obtain ⟨v, h1, h2⟩ := rv.get hj
              have hjl : j < vs'.length := (List.getElem?_eq_some_iff.mp h1).1
              have : (L2.start N (.ref x :: vs'))[j + 1]? = some (some v) := by
                unfold L2.start
                rw [List.getElem?_append_left (by simpa using hjl)]
                simp [h1]
              rw [this]
              exact slOk_v h2
          · rcases argsN_get hi with h | ⟨j, d, _, _, h⟩ <;> cases h
        have fl : FlatS (argsN N.length ds) := fun i => by
          cases e : (argsN N.length ds)[i]? with
          | none => exact .inl rfl
          | some s =>
            rcases argsN_get e with rfl | ⟨j, d, rfl, hj, rfl⟩
            · exact .inr (.inl rfl)
            · exact .inr (.inr ⟨d, rfl, flats_mem hfl hj⟩)
        exact hf H _ _ x C dx kvs new _ o fl (by simp [L2.start]) hx cl e1 hfn hna hk fun ws H' k' x' r' l' => q ws H' k' x' r' l' hfn
      · cases e
/-! ### C(..) -/
structure MkC (P : Program) (w : World) (K : Frag) (mg : Str → Option Value) (base : Heap) (t k n : Nat) (G : List D → Option (List D)) : Prop where
  ex : ∃ (C f : Addr) (fd : FuncData) (ps : List Str), PySem.W.nsIn K mainGlobals (clsName t) = some (some (.ref C)) ∧ mg (clsName t) = some (.ref C) ∧ Mk K C f ∧ Cls K C ∧ FnOk P w K mg base CX0 k f fd ps (spN K n (clsFlds t) G) ∧ Binds K fd ps [] ∧ (∀ f ∈ clsFlds t, NoAttr K C f)
section
variable {X : Cx} {t k j n : Nat} {G : List D → Option (List D)} {x : Str} {p pos : Pos} {e : Expr} {es : List Expr} {g : FA}
theorem make_sem {C : Addr} {ta : TA} {l : List D} {new : List D} {H₀ H : Hp} {O : Addr → Prop} {σ : L2.St} {ds : List Sl} {hd : Hold} {Q : VK} (hc : PySem.W.nsIn X.K mainGlobals (clsName t) = some (some (.ref C))) (hcl : Cls X.K C) (hna : ∀ f ∈ clsFlds t, NoAttr X.K C f) (hnd : (clsFlds t).Nodup) (hln : (clsFlds t).length < 900)
    (hfa : ∀ H₀ H O σ ds hd l Q, Ok X.K H₀ H O σ ds hd → g ds = some l → (∀ vs H', Same H H' → Reps X.K H' none0 vs l → Q vs H') → ta σ H Q) (o : Ok X.K H₀ H O σ ds hd) (h1 : g ds = some l) (hl : l.length = n ∧ flats l = true) (h2 : G l = some new)
    (q : ∀ v H', Same H H' → Rep X.K H' (Old H) v (.ins t new) → Q v H') : tMake C (spN X.K n (clsFlds t) G) [] E0 ta σ H Q := by
  refine hfa H₀ H O σ ds hd l _ o h1 fun vs H1 s1 r1 => ?_
  intro x dx nx ndx nex
  have s2 : Same H1 (upd (upd H1 dx (.own x)) x (.ins C dx [])) := fun b o e => by
    rw [upd_ne (ne_of_none e nx), upd_ne (ne_of_none e ndx)]
    exact e
  refine ⟨x, C, dx, [], vs, l, new, by simp, by rw [r1.length]; exact hl.1, upd_same, hcl, r1.mono s2, hl.2, h2, hna, by simp; omega, fun ws H' k' x' r' l' f' => ⟨rfl, ?_⟩⟩
  have s3 : Same H1 H' := fun b o e => k' b o (ne_of_none e nx) (s2 b o e)
  have hlw : (clsFlds t).length = ws.length := by rw [r'.length]; exact l'.symm
  have ek : putAll [] ((clsFlds t).zip ws) = (clsFlds t).zip ws := by
    rw [putAll_new (by simpa [List.map_fst_zip (Nat.le_of_eq hlw)] using hnd)]
    simp
  rw [ek] at x'
  have nx0 : H x = none := s1.free nx
  refine q (.ref x) H' (s1.trans s3) (.ins hc (not_old nx0) x' (List.map_fst_zip (Nat.le_of_eq hlw)) ?_)
  rw [List.map_snd_zip (Nat.le_of_eq hlw.symm)]
  exact Reps.flatten (fun a z => Old.mono (s1.trans s3) z) f' r'
theorem pvd_make (M : MkC X.prog X.w X.K X.mg X.base t k n G) (hr : Room j X.A) (ha : PAn X (e :: es) g) (hj : k + 1 ≤ j := by decide) (hx : clsName t = x := by rfl) (hnd : (clsFlds t).Nodup := by decide +kernel) (hln : (clsFlds t).length < 900 := by decide)
    (hg : Gl X x := by rfl) (hdb : (x == ("__debug__" : Str)) = false := by decide) (he : starEach (e :: es) X.env = (false, eval e X.env) :: starEach es X.env := by rfl) (hpl : (backTo pos (starEach es X.env)).any (·.1) = false := by rfl) :
    PVd X (.Call (.Name x p) (e :: es) [] pos) (makeG t n G g) := by
  obtain ⟨C, f, fd, ps, hc, hm, mk, cl, Fn, hb, hna⟩ := M.ex
  obtain ⟨ta, pa, hfa⟩ := ha
  subst hx
  refine ⟨_, pe_make (CX := CX0) (E := E0) mk Fn (hr.mono hj) hg hm hb .nil pass0 pa hdb he hpl, fun H₀ H O σ ds hd d Q o e q => ?_⟩
  unfold makeG at e
  cases h1 : g ds with
  | none => rw [h1] at e; cases e
  | some l =>
    rw [h1] at e
    simp only [Option.bind_some] at e
    split at e
    · rename_i hl
      cases h2 : G l with
      | none => rw [h2] at e; cases e
      | some new =>
        rw [h2] at e
        cases e
        exact make_sem hc cl hna hnd hln hfa o h1 hl h2 q
    · cases e
end
/-! ### isinstance: the classes of the text -/
theorem kit_self {K : Frag} (C : Addr) : PySem.W.kitOne K (.ref C) (.ref C) = some true := by unfold PySem.W.kitOne; rw [if_pos (by simp)]
theorem kit_yes {K : Frag} {C C' : Addr} (u : PySem.W.isClsIn K C = true) (y : PySem.W.typeIn K (.ref C) = some (.type "type")) (s : PySem.W.subIn K (.ref C') (.ref C) = some true) : PySem.W.kitOne K (.ref C') (.ref C) = some true := by
  unfold PySem.W.kitOne
  split
  · rfl
  · unfold PySem.W.kitCls
    simp only
    rw [show (PySem.W.clsIn K C).isSome = true from u, y, if_pos (by simp), s]
theorem kit_no {K : Frag} {C C' : Addr} (u : PySem.W.isClsIn K C = true) (y : PySem.W.typeIn K (.ref C) = some (.type "type")) (s : PySem.W.subIn K (.ref C') (.ref C) = some false) (n : (Value.ref C' == Value.ref C) = false) : PySem.W.kitOne K (.ref C') (.ref C) = some false := by
  unfold PySem.W.kitOne
  rw [n, if_neg (by decide)]
  unfold PySem.W.kitCls
  simp only
  rw [show (PySem.W.clsIn K C).isSome = true from u, y, if_pos (by simp), s]
theorem isoOk_nil {K : Frag} {C : Addr} : IsoOk K C [] := fun t b h => by simp at h
theorem isoOk_cons {K : Frag} {C C' : Addr} {t : Nat} {b : Bool} {tb : List (Nat × Bool)} (a : PySem.W.nsIn K mainGlobals (clsName t) = some (some (.ref C'))) (c : Cls K C') (h1 : PySem.W.findIn K (.ref C') "__class__" = some (some (.builtin "object.__class__")))
    (h2 : PySem.W.specialIn K (.builtin "object.__class__") "__get__" = some (some (.builtin "getset_descriptor.__get__"))) (h3 : PySem.W.takesIn K (.builtin "object.__class__") = some true) (h4 : PySem.W.mroIn K C' (.type "object") = some true) (h5 : PySem.W.kitOne K (.ref C') (.ref C) = some b)
    (h : IsoOk K C tb) : IsoOk K C ((t, b) :: tb) := by
  intro t' b' e
  by_cases q : t' = t
  · subst q
    simp at e
    subst e
    intro C2 e'
    rw [a] at e'
    cases e'
    exact ⟨c, h1, h2, h3, h4, h5⟩
  · have : (t' == t) = false := by simpa using q
    rw [List.lookup_cons, this] at e
    exact h t' b' e
section
variable {X : Cx}
theorem pv_isoE {p pT pos : Pos} {e : Expr} {f : FE} {x : Str} {tb : List (Nat × Bool)} (hm : X.mg "isinstance" = none) (hI : ∃ C, X.mg x = some (.ref C) ∧ IsoOk X.K C tb) (he : PV X e f) (hg : Gl X "isinstance" := by rfl) (hgT : Gl X x := by rfl)
    (h1 : starEach [e, .Name x pT] X.env = (false, eval e X.env) :: starEach [.Name x pT] X.env := by rfl) (h2 : starEach [.Name x pT] X.env = (false, eval (.Name x pT) X.env) :: starEach [] X.env := by rfl) (h3 : (backTo pos (starEach [.Name x pT] X.env)).any (·.1) = false := by rfl)
    (hd : (x == ("__debug__" : Str)) = false := by decide) : PV X (.Call (.Name "isinstance" p) [e, .Name x pT] [] pos) (un1 (isoD tb) f) :=
  let ⟨_, hT, h⟩ := hI
  pv_iso hm hT h he hg hgT h1 h2 h3 hd
end
section
variable {X : Cx}
theorem pv_globI {x : Str} {i : Int} {pos : Pos} (hm : ∃ t, X.mg x = some (.int i t)) (hg : Gl X x := by rfl) (hd : (x == ("__debug__" : Str)) = false := by decide) : PV X (.Name x pos) (konst (.int i)) :=
  let ⟨t, h⟩ := hm
  pv_glob (v := .int i) hg h ⟨t, rfl⟩ (fun _ _ => .int i) hd
end
/-! names that no class of it has -/
inductive NoAll (K : Frag) (C : Addr) : List Str → Prop
  | nil : NoAll K C []
  | cons {f : Str} {l : List Str} (h : NoAttr K C f) (t : NoAll K C l) : NoAll K C (f :: l)
theorem noAll_nil {K : Frag} {C : Addr} : NoAll K C [] := .nil
theorem noAll_cons {K : Frag} {C : Addr} {f : Str} {l : List Str} (h : NoAttr K C f) (t : NoAll K C l) : NoAll K C (f :: l) := .cons h t
theorem noAll_mem {K : Frag} {C : Addr} : ∀ {l : List Str}, NoAll K C l → ∀ f ∈ l, NoAttr K C f
  | _, .nil, f, h => (nomatch h)
  | _, .cons q t, f, h => (List.mem_cons.mp h).elim (fun e => e ▸ q) (noAll_mem t f)
end FL

namespace FL
open PySem PySem.Spec PyProof.Rows L2
/-! ### a def that may tell what it was handed -/
def spA (K : Frag) (n : Nat) (F : List D → Option Ret) : Sp := fun vs H Q _ => vs.length = n ∧ ∃ (B : Addr → Prop) (ds : List D) (d : D), (∀ a, B a → ∃ xs, H a = some (.lst xs)) ∧ Reps K H B vs ds ∧ F ds = some (.any d) ∧ ∀ v H', Same H H' → Rep K H' B v d → Q v H'
section
variable {X : Cx}
end
structure CalA (P : Program) (w : World) (K : Frag) (mg : Str → Option Value) (base : Heap) (x : Str) (k n : Nat) (F : List D → Option Ret) : Prop where
  ex : ∃ (f : Addr) (fd : FuncData) (ps : List Str), FnOk P w K mg base CX0 k f fd ps (spA K n F) ∧ Binds K fd ps [] ∧ PySem.W.keepIn K (.ref f) = true ∧ mg x = some (.ref f)
section
variable {X : Cx} {k j n : Nat} {F : List D → Option Ret} {x : Str} {p pos : Pos} {e : Expr} {es : List Expr} {g : FA}
end
end FL

namespace PySem
open Sem (wp)
section
variable {prog : Program} {w : World} {A : Around} {R : Result → Shared → Prop} {I : Addr} {fp wr : List Addr} {n : Nat} {P : Nat → Value → Prop} {St : Nat → Heap → Prop} {kw : List (Str × Value)}
end
section
variable {prog : Program} {w : World} {A : Around} {E : Value → Shared → Prop} {s : Shared}
end
end PySem
namespace FL
open PySem PySem.Spec PyProof.Rows L2
section
variable {X : Cx}
end
end FL

/-! ### exceptions of the program's own: what isinstance tells of one -/
namespace FL
open PySem PySem.Spec PyProof.Rows L2
open PySem.Calls PySem.Builtin PySem.Builtin.ObjectAttr PySem.Builtin.Getset_descriptor
open PySem.W (Looks looks_findIn looks_mroIn findIn mroIn specialIn takesIn KitX)
structure XIn (K : Frag) (C : Addr) : Prop where
  ga : findIn K (.ref C) "__getattribute__" = some (some (.builtin "BaseException.__getattribute__"))
  gt : findIn K (.ref C) "__getattr__" = some none
  cl : findIn K (.ref C) "__class__" = some (some (.builtin "object.__class__"))
  ob : mroIn K C (.type "object") = some true
  be : mroIn K C (.type "BaseException") = some true
section
variable {prog : Program} {w : World} {A : Around} {E : Value → Shared → Prop} {h : Heap} {g : Array GenState} {d : Drawn} {t : Nat} {os : OsState} {a C : Addr} {o : Obj} {K : Frag}
theorem x_type {M : Model} (hx : h.get? a = some o) (hc : o.cls = .ref C) : Looks M h (typeOf (.ref a)) (.ref C) := hc ▸ (PySem.W.Looks.ld hx).andThen .now
theorem x_class_get {R : Result → Shared → Prop} {tp : Value} (X : K.In h) (hx : h.get? a = some o) (hc : o.cls = .ref C) (I : XIn K C) (hq : R (.ok (.ret (.ref C))) ⟨h, g, d, t, os⟩) :
    codeAny (model prog w) A (.call (.builtin "getset_descriptor.__get__") ⟨[.builtin "object.__class__", .ref a, tp], []⟩) R ⟨h, g, d, t, os⟩ := by
  have L0 := x_type (M := model prog w) hx hc
  have L1 := looks_mroIn (M := model prog w) X I.ob
  refine codeAny_call_builtin PySem.W.KF.slot_gs.plain PySem.W.KF.entry_gs (PySem.W.KF.slot_gs.check _ _ _ _ _ _ _ _ PySem.W.KF.type_class (PySem.W.KF.args_gs _ _ _) ?_)
  unfold Builtin.«getset_descriptor.__get__» descrGet
  rw [PySem.W.dga_obj]
  refine wpAny_bind (wpAny_pure ?_)
  unfold descrGetter descrCheckInstance descrNameAndClass isInstance
  simp only [PySem.W.KF.owner_class]
  repeat lk
  refine ⟨Code.quiet_builtin _ (by decide +kernel), codeAny_builtin PySem.W.KF.entry_class ?_⟩
  unfold Builtin.«object.__class__» shownTypeOf
  repeat lk
  exact hq
theorem x_check_ga {M : Model} {nameV : Value} {Q : Unit → Shared → Prop} (X : K.In h) (hx : h.get? a = some o) (hc : o.cls = .ref C) (I : XIn K C) (hq : Q () ⟨h, g, d, t, os⟩) :
    wpAny M A (checkBuiltinCall "BaseException.__getattribute__" ⟨[.ref a, nameV], []⟩) Q E ⟨h, g, d, t, os⟩ := by
  have hk : builtinKind "BaseException.__getattribute__" = some .slot := by decide +kernel
  have hsplit : splitId "BaseException.__getattribute__" = some ("BaseException", "__getattribute__") := by decide +kernel
  have L0 := x_type (M := M) hx hc
  have L1 := looks_mroIn (M := M) X I.be
  have ha := F.args_bexc_ga (.ref a) nameV
  simp only [checkBuiltinCall, hk, hsplit]
  refine wpAny_bind ?_
  · unfold isInstance
    repeat (first | with_reducible refine L0.at ?_ | with_reducible refine L1.at ?_ | wp_step)
    exact hq
theorem x_entry {tk : Tok} {Q : Fin → Shared → Prop} (X : K.In h) (hx : h.get? a = some o) (hc : o.cls = .ref C) (I : XIn K C) (hq : Q (.done (.ret (.ref C))) ⟨h, g, d, t, os⟩) :
    wpAny (model prog w) A (Builtin.«object.__getattribute__» ⟨[.ref a, .str "__class__" tk], []⟩) Q E ⟨h, g, d, t, os⟩ := by
  have L0 := x_type (M := model prog w) hx hc
  have L1 := looks_findIn (M := model prog w) X I.cl
  have hT5 : (⟨h, g, d, t, os⟩ : Shared).TypeIs (.builtin "object.__class__") "getset_descriptor" := F.typeOf_object_class
  have f5 := F.typeOf_object_class
  have f6 := F.slot_gs_get.lookup
  have f7 := F.slot_gs_set.lookup
  repeat (any_goals (first | assumption | with_reducible refine L0.at ?_ | with_reducible refine L1.at ?_ | wp_step))
  refine x_class_get X hx hc I ?_
  repeat (any_goals (first | assumption | wp_step))
theorem x_call {tk : Tok} {R : Result → Shared → Prop} (X : K.In h) (hx : h.get? a = some o) (hc : o.cls = .ref C) (I : XIn K C) (hq : R (.ok (.ret (.ref C))) ⟨h, g, d, t, os⟩) :
    codeAny (model prog w) A (.call (.builtin "BaseException.__getattribute__") ⟨[.ref a, .str "__class__" tk], []⟩) R ⟨h, g, d, t, os⟩ :=
  codeAny_call_builtin F.attr_ValueError.ga.plain F.entry_bexc_ga (x_check_ga X hx hc I (x_entry X hx hc I hq))
theorem x_by {tk : Tok} {fill expr : Bool} {Q : Value → Shared → Prop} (X : K.In h) (hx : h.get? a = some o) (hc : o.cls = .ref C) (I : XIn K C) (hq : Q (.ref C) ⟨h, g, d, t, os⟩) :
    wpAny (model prog w) A (getAttrBy (.ref a) (.str "__class__" tk) fill expr) Q E ⟨h, g, d, t, os⟩ := by
  have L0 := x_type (M := model prog w) hx hc
  have L1 := looks_findIn (M := model prog w) X I.ga
  have L2 := looks_findIn (M := model prog w) X I.gt
  have f3 := F.attr_ValueError.ga.bind (.ref a)
  have hx0 : (expr && onTheHeap (Value.builtin "BaseException.__getattribute__")) = false := by cases expr <;> rfl
  have hx2 : (Value.builtin "BaseException.__getattribute__" == Value.builtin "object.__getattribute__") = false := by decide +kernel
  have hx1 : (onTheHeap (Value.ref C) && Value.builtin "BaseException.__getattribute__" == Value.builtin "object.__getattribute__") = false := by rw [hx2]; rfl
  repeat (any_goals (first | assumption | with_reducible refine L0.at ?_ | with_reducible refine L1.at ?_ | with_reducible refine L2.at ?_ | wp_step))
  refine x_call X hx hc I ?_
  repeat (any_goals (first | assumption | wp_step))
theorem x_attr {Q : Option Value → Shared → Prop} (X : K.In h) (hx : h.get? a = some o) (hc : o.cls = .ref C) (I : XIn K C) (hq : Q (some (.ref C)) ⟨h, g, d, t + 1, os⟩) :
    wpAny (model prog w) A (getAttr? (.ref a) "__class__") Q E ⟨h, g, d, t, os⟩ := by
  unfold getAttr? getAttrBy?
  repeat (any_goals (first | assumption | with_reducible apply x_by X hx hc I | wp_step))
def IsX (a C : Addr) (h : Heap) : Prop := ∃ o, h.get? a = some o ∧ o.cls = .ref C
theorem kitx_exc (I : XIn K C) : KitX K (.ref a) (.ref C) (IsX a C) where
  ty := fun _ _ _ ⟨o, h1, h2⟩ => x_type h1 h2
  it := fun _ _ X _ => by
    have hm := I.ob
    unfold mroIn at hm
    cases hcD : PySem.W.clsIn K C with
    | none => rw [hcD] at hm; cases hm
    | some cd =>
      unfold PySem.W.clsIn at hcD
      split at hcD
      · rename_i c' d' cd' sl' ho
        intro A' Q' E' s' k q
        unfold isType loadHead
        exact wpAny_bind (wpAny_loadPart (k _ _ (X _ _ ho)) (wpAny_pure q))
      · cases hcD
  ne := fun h tp dd its n sl X htp => by
    have hm := I.ob
    unfold mroIn at hm
    cases hcD : PySem.W.clsIn K C with
    | none => rw [hcD] at hm; cases hm
    | some cd =>
      refine Bool.eq_false_iff.mpr fun q => ?_
      have e : C = tp := Value.ref.inj (beq_iff_eq.mp q)
      subst e
      unfold PySem.W.clsIn at hcD
      split at hcD
      · rename_i c' d' cd' sl' ho
        have z := (X _ _ ho).symm.trans htp
        cases z
      · cases hcD
  ca := fun {prog w A E Q s} X p k => by
    obtain ⟨o, h1, h2⟩ := p
    obtain ⟨h, g, d, t, os⟩ := s
    exact x_attr X h1 h2 I k
end
end FL

/-! ### a def that raises -/
namespace FL
open PySem PySem.Spec PyProof.Rows L2
open PySem.W (hideAll hideAll_get of_hideAll hideAll_none funFrames_hide excIn tail_of_in nsMap_none_of_in isNs_of_in)

theorem obj_get {P : Program} {w : World} {H : Hp} {h : Heap} {a : Addr} {o : HO} (x : ObjOk P w H h a o) : ∃ u, h.get? a = some u := by
  cases o with
  | lst xs => obtain ⟨_, _, _, _, e⟩ := x; exact ⟨_, e⟩
  | tup xs => obtain ⟨_, _, _, _, e, _⟩ := x; exact ⟨_, e⟩
  | dK kvs => obtain ⟨_, _, _, _, o, _, _, e, _⟩ := x; exact ⟨_, e⟩
  | dT kvs => obtain ⟨_, _, _, _, o, _, _, e, _⟩ := x; exact ⟨_, e⟩
  | set S n => obtain ⟨o, _, _, _, e, _⟩ := x; exact ⟨_, e⟩
  | ins C dx fs => obtain ⟨_, _, _, e, _⟩ := x; exact ⟨_, e⟩
  | own y => obtain ⟨_, e⟩ := x; exact ⟨_, e⟩
  | xd fs => obtain ⟨_, ⟨_, _, _, e, _⟩, _⟩ := x; exact ⟨_, e⟩
  | rng lo hi => obtain ⟨_, _, _, e⟩ := x; exact ⟨_, e⟩
  | frz ob u => obtain ⟨e, _⟩ := x; exact ⟨_, e⟩
  | tbl ps => exact ⟨_, (show h.get? a = some _ from x)⟩
  | met f y => exact ⟨_, (show h.get? a = some _ from x)⟩
  | ext φ => obtain ⟨_, ⟨_, e⟩, _⟩ := x; exact ⟨_, e⟩
structure Thrown (P : Program) (w : World) (outer : List Env) (H : Hp) (s : Shared) (cls : Value) (ea : Addr) (a0 : Value) (B : Heap) (H' : Hp) (h : Heap) : Prop where
  fly : Heap.FlyingW B outer ea cls a0 h
  keep : ∀ b o, s.heap.get? b = some o → H b = none → b ∉ frs outer → B.get? b = some o
  there : ∀ b o, s.heap.get? b = some o → b ∉ frs outer → ∃ o', B.get? b = some o'
  slot : ∀ b o, s.heap.get? b = some o → b ∈ frs outer → ∃ sl, h.get? b = some { o with slots := sl }
  free : ∀ b o, s.heap.get? b = some o → H b = none → H' b = none
  tups : ∀ b xs, H b = some (.tup xs) → H' b = some (.tup xs)
  frzs : ∀ b o u, H b = some (.frz o u) → H' b = some (.frz o u)
  tbls : ∀ b ps, H b = some (.tbl ps) → ∃ more, H' b = some (.tbl (ps ++ more))
  hok : L2.HOk P w H' B
section
variable {P : Program} {w : World} {outer : List Env} {H H' : Hp} {s : Shared} {cls a0 : Value} {ea : Addr} {B h h' : Heap}
theorem Thrown.un (t : Thrown P w outer H s cls ea a0 B H' h) : Un (frs outer) [] H H' s.heap h where
  keep := fun b o e n hb _ => t.fly.1 b o (t.keep b o e n hb)
  slot := fun b o e n hb _ => t.slot b o e hb
  free := fun b o e n _ => t.free b o e n
  there := fun b o e _ => by
    by_cases hb : b ∈ frs outer
    · obtain ⟨sl, q⟩ := t.slot b o e hb; exact ⟨_, q⟩
    · obtain ⟨o', q⟩ := t.there b o e hb; exact ⟨o', t.fly.1 b o' q⟩
  tups := t.tups
  frzs := t.frzs
  tbls := t.tbls
theorem Thrown.hokh (t : Thrown P w outer H s cls ea a0 B H' h) : L2.HOk P w H' h := t.hok.kept t.fly.1
theorem Thrown.on (t : Thrown P w outer H s cls ea a0 B H' h) (f : Heap.FlyingW B outer ea cls a0 h') (u : h.UpToSlots h') : Thrown P w outer H s cls ea a0 B H' h' where
  fly := f
  keep := t.keep
  there := t.there
  slot := fun b o e hb => by
    obtain ⟨sl, q⟩ := t.slot b o e hb
    obtain ⟨_, ob, ho, hd⟩ := t.fly.2.2.1.mem hb
    rw [q] at ho
    cases ho
    obtain ⟨sl', q'⟩ := u b _ q hd
    exact ⟨sl', q'⟩
  free := t.free
  tups := t.tups
  frzs := t.frzs
  tbls := t.tbls
  hok := t.hok
theorem Thrown.no (t : Thrown P w outer H s cls ea a0 B H' h) : H' ea = none := by
  cases q : H' ea with
  | none => rfl
  | some u =>
    obtain ⟨o, e⟩ := obj_get (t.hok _ _ q)
    rw [t.fly.2.1] at e; cases e
end
theorem hok_hidden {P : Program} {w : World} {H : Hp} {h : Heap} (x : L2.HOk P w H h) (l : List Addr) (hl : ∀ b ∈ l, H b = none) : L2.HOk P w H (hideAll h l) := fun a o e =>
  (x a o e).stay (fun b u hb q => hideAll_get _ q fun z => by
    rcases hb with rfl | hb
    · rw [hl _ z] at e; cases e
    · rw [hl _ z] at hb; cases hb) (fun _ q => q) fun _ _ q => q
def CXM (P : Program) (w : World) : CXT := fun outer H s E e s' => ∃ ea cls a0 B H', e = .ref ea ∧ s'.os = s.os ∧ AllBare s'.gens ∧ Thrown P w outer H s cls ea a0 B H' s'.heap ∧ E cls none H'
def XeOk (X : Cx) (C : Addr) (σ : L2.St) (H : Hp) : Prop := ∀ (pins : List (Addr × Obj)) (s : Shared) (h' : Heap) (e : Addr) (as : List Value), Inv X pins σ H s → Heap.MadeExcOf s.heap h' e (.ref C) as → X.xe (.ref e) { s with heap := h' }
theorem xe_raise {P : Program} {w : World} {K : Frag} {mg : Str → Option Value} {base : Heap} {N : List Str} {qual : Str} {scope : Scope} {f C : Addr} {cd : Value} {A : Around} {outer : List Env} {s : Shared} {H H' : Hp} {E : XK} {σ : L2.St}
    (hE : E (.ref C) none H') : XeOk (cxOf (CXM P w) P w K mg base N qual scope f cd A outer s H E) C σ H' := by
  intro pins s1 h1 e as I hx
  have hfr : frs (envOfC qual scope s.heap.objs.size f cd :: outer) = s.heap.objs.size :: frs outer := rfl
  have nm : ∀ b o, s.heap.get? b = some o → b ∉ frs outer → b ∉ frs (envOfC qual scope s.heap.objs.size f cd :: outer) := fun b o q n z => by
    rw [hfr] at z
    rcases List.mem_cons.mp z with z | z
    · exact absurd (Heap.lt_size q) (by rw [z]; exact Nat.lt_irrefl _)
    · exact n z
  show wpAny _ _ (leaving _ _) _ _ _
  refine wpAny_leaves_madeW (base := hideAll s1.heap (frs (envOfC qual scope s.heap.objs.size f cd :: outer))) (h := s1.heap) I.ok.frames rfl (fun b o q => of_hideAll _ q) (funFrames_hide I.stack fun env he b hb => List.mem_filterMap.mpr ⟨env, he, hb⟩) hx fun h' t x1 x2 x3 x4 => ?_
  refine ⟨e, .ref C, .ref t, _, H', rfl, I.os, I.bare, ⟨x1, fun b o q n hb => ?_, fun b o q hb => ?_, fun b o q hb => ?_, fun b o q n => I.base.free b o q n (by intro z; cases z), I.base.tups, I.base.frzs, I.base.tbls, ?_⟩, hE⟩
  · exact hideAll_get _ (I.base.keep b o q n hb (by intro z; cases z)) (nm b o q hb)
  · obtain ⟨o', q'⟩ := I.base.there b o q (by intro z; cases z)
    exact ⟨o', hideAll_get _ q' (nm b o q hb)⟩
  · obtain ⟨sl, q'⟩ := I.base.slot b o q (I.ok.frf b hb) hb (by intro z; cases z)
    obtain ⟨_, ob, ho, hd⟩ := I.ok.funs.mem hb
    have ho' : s.heap.get? b = some ob := ho
    rw [q] at ho'
    cases ho'
    obtain ⟨sl', q''⟩ := x4 b _ (hx.keeps _ _ q') hd
    exact ⟨sl', q''⟩
  · exact hok_hidden I.hok _ I.stkFree

/-! ### the classes -/
abbrev bmVE : List Value := [.type "ValueError", .type "Exception", .type "BaseException", .type "object"]
structure XCls (K : Frag) (C : Addr) : Prop where
  exc : excIn K C bmVE "ValueError.__new__" = true
  xin : XIn K C
theorem xcls_at {K : Frag} {h : Heap} {C : Addr} {bmB : List Value} {newId : String} (X : K.In h) (q : excIn K C bmB newId = true) : ∃ bm N nm qn bs hdct sn sub ab col dd k0 k1 k2 k3 k5 mN, h.get? C = some (excClassObj nm qn C N bs bm hdct sn sub ab col dd k0 k1 k2 k3 k5 newId) ∧ h.Ns N mN ∧ mN "__init__" = none ∧ OwnTail h bmB bm := by
  unfold excIn at q
  split at q
  · rename_i dd cd sl ho
    split at q
    · rename_i C' bm k0 k1 k2 k3 n k5 hm hs
      simp only [Bool.and_eq_true, beq_iff_eq, Bool.not_eq_true'] at q
      obtain ⟨⟨⟨⟨⟨rfl, rfl⟩, hdel⟩, ht⟩, hok⟩, hni⟩ := q
      obtain ⟨nm, bs, mro, ns, qn, hd, sn, sub, ab, col, del⟩ := cd
      dsimp only at hm hdel hok hni
      subst hm hdel
      have hsl : sl = #[k0, k1, k2, k3, some (.builtin n), k5] := by
        obtain ⟨l⟩ := sl
        simp only at hs
        rw [hs]
      subst hsl
      exact ⟨bm, ns, nm, qn, bs, hd, sn, sub, ab, col, dd, k0, k1, k2, k3, k5, _, X _ _ ho, .of_isNs (isNs_of_in X hok), nsMap_none_of_in X hok hni, tail_of_in X ht⟩
    · cases q
  · cases q
def tRaise (X : Cx) (C : Addr) : TS := fun _ σ H => XeOk X C σ H
theorem ps_raise {X : Cx} {C : Addr} {x txt : Str} {j : Nat} {np cp cpos pos : Pos} (hC : XCls X.K C) (hm : X.mg x = some (.ref C)) (hcalm : X.calm = true) (hg : Gl X x := by rfl) (hdb : (x == ("__debug__" : Str)) = false := by decide)
    (he : starEach [.Constant (.str txt) j cp] X.env = [(false, eval (.Constant (.str txt) j cp) X.env)] := by rfl) : PS X (.Raise (some (.Call (.Name x np) [.Constant (.str txt) j cp] [] cpos)) none pos) (tRaise X C) := by
  intro pins s σ H D I h
  obtain ⟨bm, N, nm, qn, bs, hdct, sn, sub, ab, col, dd, k0, k1, k2, k3, k5, mN, h1, h2, h3, h4⟩ := xcls_at I.kIn hC.exc
  have hbase : bm.contains (.type "BaseException") = true := h4.hasType (by decide +kernel)
  refine wpAny_Raise_call_subU (C := C) (mN := mN) (N := N) (nm := nm) (q := qn) (bs := bs) (bm := bm) (hdct := hdct) (sn := sn) (sub := sub) (ab := ab) (col := col) (dd := dd) (k0 := k0) (k1 := k1) (k2 := k2) (k3 := k3) (k5 := k5) F.excBase_ValueError (by decide +kernel) F.excBase_ValueError hbase (I.ok.hd hcalm) (by rw [he]; rfl) h3 (ld_glob I hg hm ⟨rfl, ?_⟩ hdb)
  rw [he]
  show wpAny _ _ (evalArgs _ true ((false, eval (.Constant (.str txt) j cp) X.env) :: []) []) _ _ s
  refine Calls.evalArgs_plain (Calls.spliced_cons ?_)
  refine Calls.Constant_str (k := j) (pos := cp) (Calls.spliced_nil ?_)
  have I2 := I.tok (s.toks + 1)
  refine ⟨rfl, by show 1 ≤ sizeLine; decide, h1, h2, h4, fun h' e hx => ?_⟩
  exact h pins _ h' e _ I2 hx
/-! ### statements that raise -/
section
variable (X : Cx) (C : Addr)
def PSx (st : Stmt) (x : List Sl → Bool) : Prop := ∃ t, PS X st t ∧ ∀ H₀ H O σ ds hd E, Ok X.K H₀ H O σ ds hd → x ds = true → (∀ σ' H', Same H₀ H' → XeOk X C σ' H') → t E σ H
end
section
variable {X : Cx} {C : Addr}
theorem psx_raise {x txt : Str} {j : Nat} {np cp cpos pos : Pos} (hC : XCls X.K C) (hm : X.mg x = some (.ref C)) (hcalm : X.calm = true := by rfl) (hg : Gl X x := by rfl) (hdb : (x == ("__debug__" : Str)) = false := by decide)
    (he : starEach [.Constant (.str txt) j cp] X.env = [(false, eval (.Constant (.str txt) j cp) X.env)] := by rfl) : PSx X C (.Raise (some (.Call (.Name x np) [.Constant (.str txt) j cp] [] cpos)) none pos) alwaysX :=
  ⟨_, ps_raise hC hm hcalm hg hdb he, fun H₀ H O σ ds hd E o _ h => h σ H o.same⟩
end
def spX (K : Frag) (n : Nat) (R : List D → Bool) (C : Addr) : Sp := fun vs H _ E => vs.length = n ∧ ∃ ds, Reps K H none0 vs ds ∧ R ds = true ∧ ∀ H', Same H H' → E (.ref C) none H'
structure CalX (P : Program) (w : World) (K : Frag) (mg : Str → Option Value) (base : Heap) (x : Str) (k n : Nat) (R : List D → Bool) (C : Addr) : Prop where
  ex : ∃ (f : Addr) (fd : FuncData) (ps : List Str), FnOk P w K mg base (CXM P w) k f fd ps (spX K n R C) ∧ Binds K fd ps [] ∧ PySem.W.keepIn K (.ref f) = true ∧ mg x = some (.ref f)
end FL

/-! ### try, except C as e -/
namespace FL
open PySem PySem.Spec PyProof.Rows L2
open PySem.W (Looks looks_mroIn mroIn)

abbrev suiteCx (X : Cx) (ea : Addr) (xe : Value → Shared → Prop) : Cx := { X with A := X.A.mark (some (.ref ea)), calm := false, xe := xe }
section
variable {X : Cx} {pins : List (Addr × Obj)} {σ : L2.St} {H : Hp} {s : Shared} {ea : Addr} {oe : Obj} {xe : Value → Shared → Prop}
theorem inv_suite (I : Inv X pins σ H s) : Inv (suiteCx X ea xe) pins σ H s := by
  have ok := I.ok
  exact ⟨⟨ok.mod, ok.kind, ok.glob, ok.blt, ok.above, ok.inj, ok.has, ok.cab, (fun z => by cases z), ok.frames, ok.stk, ok.exf, ok.bs, ok.bsz, ok.noex, ok.exfs, ok.funs, ok.frf⟩, I.os, I.bare, I.base, I.loc, I.cell, I.free, I.freeC, I.pin, I.hok, I.len⟩
theorem inv_unsuite (I : Inv (suiteCx X ea xe) pins σ H s) (hd : X.calm = true → X.A.handled = none) : Inv X pins σ H s := by
  have ok := I.ok
  exact ⟨⟨ok.mod, ok.kind, ok.glob, ok.blt, ok.above, ok.inj, ok.has, ok.cab, hd, ok.frames, ok.stk, ok.exf, ok.bs, ok.bsz, ok.noex, ok.exfs, ok.funs, ok.frf⟩, I.os, I.bare, I.base, I.loc, I.cell, I.free, I.freeC, I.pin, I.hok, I.len⟩
theorem inv_track (I : Inv X pins σ H s) (hn : H ea = none) (h1 : s.heap.get? ea = some oe) (h3 : ea ≠ X.env.locals) (h0 : X.s₀.heap.get? ea = none) (hc : ∀ v, oe.data ≠ .cell v) (hp : ∀ p ∈ X.pn ++ pins, p.1 ≠ ea) :
    Inv X pins σ (upd H ea (.frz oe (.own ea))) s := by
  have nz : ∀ b u, H b = some u → b ≠ ea := fun b u e z => by rw [z, hn] at e; cases e
  have n0 : ∀ b o, X.s₀.heap.get? b = some o → b ≠ ea := fun b o e z => by rw [z, h0] at e; cases e
  refine ⟨I.ok, I.os, I.bare, ⟨I.base.keep, I.base.slot, fun b o e n hx => ?_, I.base.there, fun b xs e => ?_, fun b o u e => ?_, fun b ps e => ?_⟩, I.loc, I.cell, ?_, fun x c e => ?_, fun p hpp => ?_, fun b u e => ?_, I.len⟩
  · rw [upd_ne (n0 b o e)]; exact I.base.free b o e n hx
  · have := I.base.tups b xs e; rw [upd_ne (nz b _ this)]; exact this
  · have := I.base.frzs b o u e; rw [upd_ne (nz b _ this)]; exact this
  · obtain ⟨m, this⟩ := I.base.tbls b ps e; exact ⟨m, by rw [upd_ne (nz b _ this)]; exact this⟩
  · rw [upd_ne (Ne.symm h3)]; exact I.free
  · rw [upd_ne]
    · exact I.freeC x c e
    · intro z
      obtain ⟨v, o, ho, hd⟩ := I.cell x c e
      rw [z, h1] at ho
      cases ho
      exact hc v hd
  · obtain ⟨q1, q2, q3, q4, q5⟩ := I.pin p hpp
    exact ⟨q1, by rw [upd_ne (hp p hpp)]; exact q2, q3, q4, q5⟩
  · by_cases hb : b = ea
    · subst hb
      rw [upd_same] at e
      cases e
      exact ⟨h1, oe, h1⟩
    · rw [upd_ne hb] at e
      exact (I.hok b u e).stay (fun _ _ _ q => q) (fun c q => by rw [upd_ne (nz c _ q)]; exact q) fun c xs q => by rw [upd_ne (nz c _ q)]; exact q
theorem inv_gone {i : Nat} {x : Str} {m : Str → Option Value} {h' : Heap} {v : Option Value} {t' : Nat} (I : Inv X pins σ H s) (hN : X.N.Nodup) (hi : X.N[i]? = some x) (hn : s.heap.Ns X.env.locals m)
    (hl : ∀ (i : Nat) (x : Str) (v : V), X.N[i]? = some x → σ[i]? = some (some v) → Vis X.env.scope x → ∃ u, RelV v u ∧ Look X.env s.heap m x u)
    (hn' : h'.Ns X.env.locals (fun y => if y = x then v else m y)) (hs : Heap.SameBut X.env.locals s.heap h') : Inv X pins (σ.set i none) H { s with heap := h', toks := t' } := by
  have cne := I.cne
  obtain ⟨oL, _, _, hoL, _⟩ := id hn
  refine ⟨I.ok, I.os, I.bare, ⟨fun b o e n hb hx => ?_, fun b o e n hb hx => ?_, I.base.free, fun b o e hx => ?_, I.base.tups, I.base.frzs, I.base.tbls⟩, ⟨_, hn', fun j y v' e1 e2 e3 => ?_⟩, fun y c e => ?_, I.free, I.freeC, fun p hp => ?_, fun b ob e => ?_, by simpa using I.len⟩
  · exact (hs.2 b (Nat.ne_of_lt (Nat.lt_of_lt_of_le (Heap.lt_size e) I.ok.above))).trans (I.base.keep b o e n hb hx)
  · obtain ⟨sl, e1⟩ := I.base.slot b o e n hb hx
    exact ⟨sl, (hs.2 b (Nat.ne_of_lt (Nat.lt_of_lt_of_le (Heap.lt_size e) I.ok.above))).trans e1⟩
  · obtain ⟨o', e1⟩ := I.base.there b o e hx
    exact ⟨o', (hs.2 b (Nat.ne_of_lt (Nat.lt_of_lt_of_le (Heap.lt_size e) I.ok.above))).trans e1⟩
  · by_cases hj : j = i
    · subst hj
      have hiσ : j < σ.length := by rw [I.len]; exact (List.getElem?_eq_some_iff.mp hi).1
      rw [List.getElem?_set_self hiσ] at e2
      cases e2
    · rw [List.getElem?_set_ne (Ne.symm hj)] at e2
      obtain ⟨u', r', q⟩ := hl j y v' e1 e2 e3
      refine ⟨u', r', ?_⟩
      rcases q with ⟨k, e⟩ | ⟨k, c, e, z⟩
      · refine .inl ⟨k, ?_⟩
        have : y ≠ x := fun e => hj (nodup_ix hN e1 (e ▸ hi))
        simp [this, e]
      · exact .inr ⟨k, c, e, z.sameBut hs (cne y c e)⟩
  · obtain ⟨w', z⟩ := I.cell y c e
    exact ⟨w', z.sameBut hs (cne y c e)⟩
  · obtain ⟨e, n, ne, nf, d⟩ := I.pin p hp
    exact ⟨(hs.2 p.1 ne).trans e, n, ne, nf, d⟩
  · refine (I.hok b ob e).stay (fun c w' hc q => (hs.2 c ?_).trans q) (fun _ q => q) fun _ _ q => q
    rintro rfl
    have hfree := I.free
    rcases hc with rfl | hc
    · rw [hfree] at e; cases e
    · rw [hfree] at hc; cases hc
end
theorem Ok.setNo {K : Frag} {H₀ H : Hp} {O : Addr → Prop} {σ : L2.St} {ds : List Sl} {hd : Hold} (o : Ok K H₀ H O σ ds hd) (i : Nat) (v : Option V) : Ok K H₀ H O (σ.set i v) (ds.set i .no) hd := by
  have own' : ∀ {j : Nat}, IsOwn (ds.set i .no) j → j ≠ i ∧ IsOwn ds j := fun {j} ⟨l, e⟩ => by
    by_cases hj : j = i
    · subst hj
      by_cases hl : j < ds.length
      · rw [List.getElem?_set_self hl] at e; cases e
      · rw [List.getElem?_eq_none (by simpa using hl)] at e; cases e
    · rw [List.getElem?_set_ne (Ne.symm hj)] at e
      exact ⟨hj, l, e⟩
  refine ⟨o.same, fun j l a e1 e2 => ?_, o.dom, by simpa using o.len, fun j s e => ?_, fun j k a hjk hj hk e1 e2 => ?_, o.hold⟩
  · obtain ⟨n1, h1⟩ := own' ⟨l, e1⟩
    rw [List.getElem?_set_ne (Ne.symm n1)] at e1 e2
    exact o.fresh j l a e1 e2
  · by_cases hj : j = i
    · subst hj
      by_cases hl : j < ds.length
      · rw [List.getElem?_set_self hl] at e
        cases e
        exact slOk_no
      · rw [List.getElem?_eq_none (by simpa using hl)] at e; cases e
    · rw [List.getElem?_set_ne (Ne.symm hj)] at e
      rw [List.getElem?_set_ne (Ne.symm hj)]
      exact o.sl j s e
  · obtain ⟨n1, h1⟩ := own' hj
    obtain ⟨n2, h2⟩ := own' hk
    rw [List.getElem?_set_ne (Ne.symm n1)] at e1
    rw [List.getElem?_set_ne (Ne.symm n2)] at e2
    exact o.apart j k a hjk h1 h2 e1 e2
theorem Ok.setX {K : Frag} {H₀ H : Hp} {O : Addr → Prop} {σ : L2.St} {ds : List Sl} {hd : Hold} (o : Ok K H₀ H O σ ds hd) {i t : Nat} {a C : Addr} {ob : Obj} {u : HO} (h1 : PySem.W.nsIn K mainGlobals (xName t) = some (some (.ref C))) (h2 : H a = some (.frz ob u)) (h3 : ob.cls = .ref C) :
    Ok K H₀ H O (σ.set i (some (.ref a))) (ds.set i (.exc t)) hd := by
  have own' : ∀ {j : Nat}, IsOwn (ds.set i (.exc t)) j → j ≠ i ∧ IsOwn ds j := fun {j} ⟨l, e⟩ => by
    by_cases hj : j = i
    · subst hj
      by_cases hl : j < ds.length
      · rw [List.getElem?_set_self hl] at e; cases e
      · rw [List.getElem?_eq_none (by simpa using hl)] at e; cases e
    · rw [List.getElem?_set_ne (Ne.symm hj)] at e
      exact ⟨hj, l, e⟩
  refine ⟨o.same, fun j l a e1 e2 => ?_, o.dom, by simpa using o.len, fun j s e => ?_, fun j k a hjk hj hk e1 e2 => ?_, o.hold⟩
  · obtain ⟨n1, h1⟩ := own' ⟨l, e1⟩
    rw [List.getElem?_set_ne (Ne.symm n1)] at e1 e2
    exact o.fresh j l a e1 e2
  · by_cases hj : j = i
    · subst hj
      by_cases hl : j < ds.length
      · rw [List.getElem?_set_self hl] at e
        cases e
        rw [List.getElem?_set_self (by rw [o.len]; exact hl)]
        exact ⟨C, ob, u, h1, h2, h3⟩
      · rw [List.getElem?_eq_none (by simpa using hl)] at e; cases e
    · rw [List.getElem?_set_ne (Ne.symm hj)] at e
      rw [List.getElem?_set_ne (Ne.symm hj)]
      exact o.sl j s e
  · obtain ⟨n1, h1⟩ := own' hj
    obtain ⟨n2, h2⟩ := own' hk
    rw [List.getElem?_set_ne (Ne.symm n1)] at e1
    rw [List.getElem?_set_ne (Ne.symm n2)] at e2
    exact o.apart j k a hjk h1 h2 e1 e2
def Throws (X : Cx) (C : Addr) (st : Stmt) (x : List Sl → Bool) : Prop := ∀ (pins : List (Addr × Obj)) (s : Shared) (σ : L2.St) (H H₀ : Hp) (O : Addr → Prop) (ds : List Sl) (hd : Hold), Inv X pins σ H s → Ok X.K H₀ H O σ ds hd → x ds = true →
  (∀ ea a0 B H1 H' s1 s', Inv X pins σ H1 s1 → Same H H1 → Same H1 H' → Thrown X.prog X.w X.stack H1 s1 (.ref C) ea a0 B H' s'.heap → s'.os = s1.os → AllBare s'.gens → X.xe (.ref ea) s') → wpAny (model X.prog X.w) X.A (exec st X.env) (fun _ _ => False) X.xe s
section
variable {X : Cx} {k j n : Nat} {R : List D → Bool} {C : Addr} {x : Str} {p pos : Pos} {e : Expr} {es : List Expr} {g : FA}
theorem call_thrown (CX : CalX X.prog X.w X.K X.mg X.base x k n R C) (hr : Room j X.A) (ha : PAn X (e :: es) g) (hj : k ≤ j) (hg : Gl X x) (hdb : (x == ("__debug__" : Str)) = false)
    (he : starEach (e :: es) X.env = (false, eval e X.env) :: starEach es X.env) (hpl : (backTo pos (starEach es X.env)).any (·.1) = false)
    {pins : List (Addr × Obj)} {s : Shared} {σ : L2.St} {H H₀ : Hp} {O : Addr → Prop} {ds : List Sl} {hd : Hold} {Q : Value → Shared → Prop} (I : Inv X pins σ H s) (o : Ok X.K H₀ H O σ ds hd) (ex : callX n R g ds = true)
    (W : ∀ ea a0 B H1 H' s1 s', Inv X pins σ H1 s1 → Same H H1 → Same H1 H' → Thrown X.prog X.w X.stack H1 s1 (.ref C) ea a0 B H' s'.heap → s'.os = s1.os → AllBare s'.gens → X.xe (.ref ea) s') :
    wpAny (model X.prog X.w) X.A (eval (.Call (.Name x p) (e :: es) [] pos) X.env) Q X.xe s := by
  obtain ⟨f, fd, ps, Fn, hb, hk, hm⟩ := CX.ex
  obtain ⟨t, ht, hf⟩ := ha
  unfold callX at ex
  cases hl : g ds with
  | none => rw [hl] at ex; cases ex
  | some l =>
    rw [hl] at ex
    simp only [Bool.and_eq_true, decide_eq_true_eq] at ex
    refine wpAny_Call_Name_kw (ld_glob I hg hm ?_ hdb)
    refine PySem.W.callWith_K (h₀ := X.base) I.ok.mod.kin hk (thn (ht pos pins s σ H (fun vs H1 => Same H H1 ∧ Reps X.K H1 none0 vs l) I (hf H₀ H O σ ds hd l _ o hl fun vs H1 s1 r => ⟨s1, r⟩)) fun us s1 ⟨vs, H1, I1, r, q1, q2⟩ => ⟨I1.kIn, ?_⟩) he hpl
    have sp : spX X.K n R C vs H1 (fun _ _ => False) (fun cl _ H' => cl = .ref C ∧ Same H1 H') := ⟨by rw [q2.length]; exact ex.1, l, q2, ex.2, fun H' s' => ⟨rfl, s'⟩⟩
    have hl2 : us.length = ps.length := by rw [← r.length]; exact Fn.len _ _ _ _ sp
    have bd := hb s1 us I1.kIn (by rw [List.append_nil]; exact hl2)
    rw [List.append_nil] at bd
    refine wpAny_call (codeAny_mono (Fn.run X.A X.stack s1 H1 ⟨us, []⟩ us vs (fun _ _ => False) (fun cl _ H' => cl = .ref C ∧ Same H1 H') (hr.mono hj) I1.env0 bd r sp) fun r s' hq => ?_)
    cases r with
    | error e' =>
      obtain ⟨ea, cls, a0, B, H', rfl, os, bare, T, rfl, sm⟩ := hq
      exact W ea a0 B H1 H' s1 s' I1 q1 sm T os bare
    | ok fl =>
      cases fl with
      | ret u => obtain ⟨v, H', _, _, _, _, _, z⟩ := hq; exact z.elim
      | next => exact False.elim hq
      | brk => exact False.elim hq
      | cont => exact False.elim hq
theorem thr_set {y : Str} {py pos' : Pos} (CX : CalX X.prog X.w X.K X.mg X.base x k n R C) (hr : Room j X.A) (ha : PAn X (e :: es) g) (hj : k ≤ j := by decide) (hg : Gl X x := by rfl) (hdb : (x == ("__debug__" : Str)) = false := by decide)
    (he : starEach (e :: es) X.env = (false, eval e X.env) :: starEach es X.env := by rfl) (hpl : (backTo pos (starEach es X.env)).any (·.1) = false := by rfl) (hs : swapsWith (.Call (.Name x p) (e :: es) [] pos) (some (.Name y py)) pos'.line X.env = pure false := by rfl) :
    Throws X C (.Assign [.Name y py] (.Call (.Name x p) (e :: es) [] pos) pos') (callX n R g) := by
  intro pins s σ H H₀ O ds hd I o ex W
  exact wpAny_Assign_Name (call_thrown CX hr ha hj hg hdb he hpl I o ex W) hs
theorem psv_drop {f : FE} {e : Expr} (h : PV X e f) (hs : swapsWith e none pos.line X.env = pure false := by rfl) : PSv X (.Expr e pos) (dropG f) := by
  obtain ⟨t, ht, hf⟩ := h
  refine ⟨_, ps_expr ht hs, fun H₀ H O σ ds hd out E o e' h => ?_⟩
  unfold dropG at e'
  cases hh : f ds with
  | none => rw [hh] at e'; cases e'
  | some d =>
    rw [hh] at e'
    cases e'
    exact hf H₀ H O σ ds hd d _ o hh fun v H' s r => h σ H' O (o.mono s)
end
end FL

/-! ### try, except C as e: the rule -/
namespace FL
open PySem PySem.Spec PyProof.Rows L2
open PySem.W (Looks looks_mroIn mroIn clsIn)
structure XCatch (K : Frag) (C S : Addr) : Prop where
  kit : PySem.W.kitCls K (.ref C) (.ref S) = some true
  be : mroIn K S (.type "BaseException") = some true
section
variable {prog : Program} {w : World} {A : Around} {E : Value → Shared → Prop} {h : Heap} {g : Array GenState} {d : Drawn} {t : Nat} {os : OsState} {a C S : Addr} {o : Obj} {K : Frag}
theorem x_matches {M : Model} {Q : Bool → Shared → Prop} (X : K.In h) (hx : h.get? a = some o) (hc : o.cls = .ref C) (hS : XCatch K C S) (hq : Q true ⟨h, g, d, t, os⟩) :
    wpAny M A (excMatches (.ref a) (.ref S)) Q E ⟨h, g, d, t, os⟩ := by
  have L0 := x_type (M := M) hx hc
  have L1 := looks_mroIn (M := M) X hS.be
  obtain ⟨L3, L4, L2⟩ := PySem.W.kit_cls (M := M) X hS.kit
  have f := tc_notTuple
  unfold excMatches
  repeat (first | with_reducible refine L0.at ?_ | with_reducible refine L1.at ?_ | with_reducible refine L2.at ?_ | with_reducible refine L3.at ?_ | with_reducible refine L4.at ?_ | with_reducible refine wpAny_loadPart_at hx ?_ | wp_step)
  exact hq
end
section
variable {X : Cx}
theorem run_suite {ea : Addr} {xe0 : Value → Shared → Prop} {sts : List Stmt} {h : FS} {pins : List (Addr × Obj)} {σ : L2.St} {H H₀ : Hp} {O : Addr → Prop} {ds : List Sl} {hd : Hold} {out : Out} {D : Ends} {s : Shared}
    (hs : ∀ xe, PSsv (suiteCx X ea xe) sts h) (I : Inv (suiteCx X ea xe0) pins σ H s) (o : Ok X.K H₀ H O σ ds hd) (e : h ds = some out) (af : After X H₀ hd D out) {EXC : Value → Shared → Prop} {POST : Flow → Shared → Prop}
    (hp : ∀ f s', SP (suiteCx X ea EXC) pins D f s' → POST f s') : wpAny (model X.prog X.w) (X.A.mark (some (.ref ea))) (execs sts X.env) POST EXC s := by
  obtain ⟨t, ht, hf⟩ := hs EXC
  exact wpAny_mono (ht pins s σ H D (I.wish EXC) (hf H₀ H O σ ds hd out D o e af)) hp (fun _ _ z => z)
theorem after_gone {H₀ : Hp} {hd : Hold} {D : Ends} {i : Nat} {out : Out} (af : After X H₀ hd D (goneO i out)) :
    After X H₀ hd { nx := fun σ H => D.nx (σ.set i none) H, rt := D.rt, bk := fun σ H => D.bk (σ.set i none) H, ct := fun σ H => D.ct (σ.set i none) H } out := by
  cases out with
  | nx ds => exact fun σ H O o => af _ _ O (o.setNo i none)
  | bk ds => exact fun σ H O o => af _ _ O (o.setNo i none)
  | ct ds => exact fun σ H O o => af _ _ O (o.setNo i none)
  | rt r => exact af
theorem fly_apart {B h : Heap} {l : List Env} {e : Addr} {cls a0 : Value} (f : Heap.FlyingW B l e cls a0 h) : e ∉ frs l ∧ ∃ oe, h.get? e = some oe ∧ oe.cls = cls ∧ ∀ v, oe.data ≠ .cell v := by
  obtain ⟨_, _, f3, oe, vs, T, oT, ts, he, hc, hd, _⟩ := f
  refine ⟨fun z => ?_, oe, he, hc.1, fun v q => by rw [hd] at q; cases q⟩
  obtain ⟨_, o, ho, hn⟩ := f3.mem z
  rw [he] at ho
  cases ho
  exact hn vs hd
def tryE (X : Cx) (pins : List (Addr × Obj)) (D : Ends) (hs : List ExceptHandler) : Value → Shared → Prop := fun e s₁ => wpAny (model X.prog X.w) X.A (noteFrame e X.env) (fun _ s₂ => wpAny (model X.prog X.w) X.A (setFlight e none) (fun _ s₃ => wpAny (model X.prog X.w) X.A (handleBy e X.env hs) (SP X pins D) X.xe s₃) X.xe s₂) X.xe s₁
end
end FL

/-! ### isinstance of an exception -/
namespace FL
open PySem PySem.Spec PyProof.Rows L2
def IsxOk (K : Frag) (cv : Value) (tb : List (Nat × Bool)) : Prop := ∀ t b, tb.lookup t = some b → ∀ C, PySem.W.nsIn K mainGlobals (xName t) = some (some (.ref C)) → XIn K C ∧ PySem.W.kitOne K (.ref C) cv = some b
section
variable {X : Cx}
theorem call_isx : CallR X (.builtin "isinstance") (fun xs H Q => ∃ a o u C c cv b, xs = [.ref a, c] ∧ clsV c cv ∧ H a = some (.frz o u) ∧ o.cls = .ref C ∧ XIn X.K C ∧ PySem.W.kitOne X.K (.ref C) cv = some b ∧ Q (.bl b) H) := by
  intro pins s σ H xs us Q I r h
  obtain ⟨a, o, v, C, c, cv, b, rfl, hc, ha, ho, hx, e, q⟩ := h
  obtain ⟨u, u2, rfl, ru, ru2⟩ := vals2 r
  have e2 : u2 = cv := by
    cases c with
    | ty n => cases (show cv = .type n from hc); cases (show u2 = .type n from ru2); rfl
    | ref a => cases (show cv = .ref a from hc); cases (show u2 = .ref a from ru2); rfl
    | _ => exact (show False from hc).elim
  subst e2
  cases (show u = Value.ref a from ru)
  have hg : s.heap.get? a = some o := (show s.heap.get? a = some o ∧ ObjOk X.prog X.w H s.heap a v from I.hok a _ ha).1
  exact PySem.W.kia_one (kitx_exc hx) I.kIn ⟨o, hg, ho⟩ e (fun z => nomatch z) fun tk => ⟨.bl b, H, I.tok tk, rfl, q⟩
section
variable {en : Str} {i : Nat} {p pe pT pos : Pos} {tb : List (Nat × Bool)}
theorem isx_read {σ : L2.St} {H₀ H : Hp} {O : Addr → Prop} {ds : List Sl} {hd : Hold} {d : D} (o : Ok X.K H₀ H O σ ds hd) (e : isxG i tb ds = some d) : ∃ t b, ds[i]? = some (.exc t) ∧ tb.lookup t = some b ∧ d = .bl b := by
  unfold isxG at e
  cases hs : ds[i]? with
  | none => rw [hs] at e; cases e
  | some s =>
    rw [hs] at e
    cases s with
    | exc t =>
      simp only at e
      cases hl : tb.lookup t with
      | none => rw [hl] at e; cases e
      | some b => rw [hl] at e; cases e; exact ⟨t, b, rfl, hl, rfl⟩
    | no => cases e
    | v d => cases e
    | own l => cases e
    | fr l => cases e
theorem pv_isx {x : Str} (hm : X.mg "isinstance" = none) (hI : ∃ D, X.mg x = some (.ref D) ∧ IsxOk X.K (.ref D) tb) (hN : X.N[i]? = some en := by rfl) (hv : Vis X.env.scope en := by exact Or.inl rfl) (hde : (en == ("__debug__" : Str)) = false := by decide)
    (hcd : (en == ("__classdict__" : Str)) = false := by decide) (hg : Gl X "isinstance" := by rfl) (hgT : Gl X x := by rfl)
    (h1 : starEach [.Name en pe, .Name x pT] X.env = (false, eval (.Name en pe) X.env) :: starEach [.Name x pT] X.env := by rfl) (h2 : starEach [.Name x pT] X.env = (false, eval (.Name x pT) X.env) :: starEach [] X.env := by rfl) (h3 : (backTo pos (starEach [.Name x pT] X.env)).any (·.1) = false := by rfl)
    (hd : (x == ("__debug__" : Str)) = false := by decide) : PV X (.Call (.Name "isinstance" p) [.Name en pe, .Name x pT] [] pos) (isxG i tb) := by
  obtain ⟨D, hT, hI⟩ := hI
  refine ⟨_, pe_callB call_isx hg hm (by decide +kernel) (pa_cons (pe_var hN hv hde hcd) (pa_cons (pe_glob (v := .ref D) hgT hT rfl hd) pa_nil h2) h1) (by decide) (by decide) h1 h3, fun H₀ H O σ ds hd d Q o e q => ?_⟩
  obtain ⟨t, b, hs, hl, rfl⟩ := isx_read o e
  obtain ⟨a, C, ob, u, q1, q2, q3, q4⟩ := o.readX hs
  obtain ⟨x1, x2⟩ := hI t b hl C q2
  exact ⟨.ref a, q1, a, ob, u, C, .ref D, .ref D, b, rfl, rfl, q3, q4, x1, x2, q _ H (Same.refl _) (.bl b)⟩
theorem pv_isxB {x : Str} {T : String} (hm : X.mg "isinstance" = none) (hx : X.mg x = none) (hI : IsxOk X.K (.type T) tb) (hb : bootBuiltins x = some (.type T) := by decide +kernel) (hN : X.N[i]? = some en := by rfl) (hv : Vis X.env.scope en := by exact Or.inl rfl) (hde : (en == ("__debug__" : Str)) = false := by decide)
    (hcd : (en == ("__classdict__" : Str)) = false := by decide) (hg : Gl X "isinstance" := by rfl) (hgT : Gl X x := by rfl)
    (h1 : starEach [.Name en pe, .Name x pT] X.env = (false, eval (.Name en pe) X.env) :: starEach [.Name x pT] X.env := by rfl) (h2 : starEach [.Name x pT] X.env = (false, eval (.Name x pT) X.env) :: starEach [] X.env := by rfl) (h3 : (backTo pos (starEach [.Name x pT] X.env)).any (·.1) = false := by rfl)
    (hn : x ≠ "__name__" := by decide) (hd : (x == ("__debug__" : Str)) = false := by decide) : PV X (.Call (.Name "isinstance" p) [.Name en pe, .Name x pT] [] pos) (isxG i tb) := by
  refine ⟨_, pe_callB call_isx hg hm (by decide +kernel) (pa_cons (pe_var hN hv hde hcd) (pa_cons (pe_bltn (v := .ty T) hgT hx hb rfl hn hd) pa_nil h2) h1) (by decide) (by decide) h1 h3, fun H₀ H O σ ds hd d Q o e q => ?_⟩
  obtain ⟨t, b, hs, hl, rfl⟩ := isx_read o e
  obtain ⟨a, C, ob, u, q1, q2, q3, q4⟩ := o.readX hs
  obtain ⟨x1, x2⟩ := hI t b hl C q2
  exact ⟨.ref a, q1, a, ob, u, C, .ty T, .type T, b, rfl, rfl, q3, q4, x1, x2, q _ H (Same.refl _) (.bl b)⟩
end
end
structure XR (K : Frag) (mg : Str → Option Value) (t : Nat) (C : Addr) : Prop where
  nm : PySem.W.nsIn K mainGlobals (xName t) = some (some (.ref C))
  gl : mg (xName t) = some (.ref C)
  cls : XCls K C
structure XT (K : Frag) (mg : Str → Option Value) (t : Nat) (x : Str) (C S : Addr) : Prop where
  nm : PySem.W.nsIn K mainGlobals (xName t) = some (some (.ref C))
  gl : mg x = some (.ref S)
  cat : XCatch K C S
end FL

/-! ### a method without arguments; a class without an __init__ -/
namespace FL
open PySem PySem.Spec PyProof.Rows L2
section
variable {X : Cx} {m : Str} {k j : Nat} {cs : List Nat} {F : Nat → List D → Option Ret} {o : Expr} {apos pos : Pos} {fo : FE}
end
section
variable {X : Cx} {C : Addr} {x : Str} {p pos : Pos}
structure MkP (K : Frag) (mg : Str → Option Value) (t : Nat) : Prop where
  ex : ∃ C, PySem.W.nsIn K mainGlobals (clsName t) = some (some (.ref C)) ∧ mg (clsName t) = some (.ref C) ∧ PySem.W.makesIn K C = true ∧ PySem.W.findIn K (.ref C) "__init__" = some (some (.builtin "object.__init__")) ∧ PySem.W.keepIn K (.ref C) = true
end
theorem kitCls_yes {K : Frag} {C C' : Addr} (u : PySem.W.isClsIn K C = true) (y : PySem.W.typeIn K (.ref C) = some (.type "type")) (s : PySem.W.subIn K (.ref C') (.ref C) = some true) : PySem.W.kitCls K (.ref C') (.ref C) = some true := by
  unfold PySem.W.kitCls
  simp only
  rw [show (PySem.W.clsIn K C).isSome = true from u, y, if_pos (by simp), s]
theorem kitB_yes {K : Frag} {C' : Addr} {T : String} (u : PySem.W.kitMeta T = true) (s : PySem.W.subIn K (.ref C') (.type T) = some true) : PySem.W.kitOne K (.ref C') (.type T) = some true := by
  unfold PySem.W.kitOne
  split
  · rfl
  · unfold PySem.W.kitCls
    simp only
    rw [u, if_pos rfl, s]
end FL

/-! ### a new list that is looked at as a value, and emptied at last -/
namespace FL
open PySem PySem.Spec PyProof.Rows L2
section
variable {K : Frag} {H : Hp} {O : Addr → Prop} {a : Addr} {xs ys : List V}
theorem rd_wipe {b : Addr} {zs : List V} (hx : H a = some (HO.lst xs)) (h : Rd H b (HO.tup zs)) : Rd (upd H a (HO.lst ys)) b (HO.tup zs) := by
  rcases h with h | ⟨o, h⟩
  · exact .inl (by rw [upd_ne (fun z => by rw [z, hx] at h; cases h)]; exact h)
  · exact .inr ⟨o, by rw [upd_ne (fun z => by rw [z, hx] at h; cases h)]; exact h⟩
mutual
theorem Rep.wipe (hx : H a = some (HO.lst xs)) : ∀ {v : V} {d : D}, flat d = true → Rep K H O v d → Rep K (upd H a (HO.lst ys)) O v d
  | _, _, _, .non => .non
  | _, _, _, .bl b => .bl b
  | _, _, _, .int i => .int i
  | _, _, _, .str x => .str x
  | _, _, f, .tup n h r => .tup n (rd_wipe hx h) (Reps.wipe hx (by simpa [flat] using f) r)
  | _, _, f, .tupK h r => .tupK h (Reps.wipe hx (by simpa [flat] using f) r)
  | _, _, f, .lst n h r => by simp [flat] at f
  | _, _, f, .lstK h r => by simp [flat] at f
  | _, _, f, .dct n h e r => by simp [flat] at f
  | _, _, f, .ins c n h e r => by simp [flat] at f
theorem Reps.wipe (hx : H a = some (HO.lst xs)) : ∀ {vs : List V} {ds : List D}, flats ds = true → Reps K H O vs ds → Reps K (upd H a (HO.lst ys)) O vs ds
  | _, _, _, .nil => .nil
  | _, _, f, .cons h t => by
    simp only [flats, Bool.and_eq_true] at f
    exact .cons (Rep.wipe hx f.1 h) (Reps.wipe hx f.2 t)
end
end
theorem keepS_own {s : Sl} {l : List D} (h : keepS s = .own l) : s = .own l ∧ flats l = true := by
  cases s with
  | no => simp [keepS] at h
  | v d => simp only [keepS] at h; split at h <;> cases h
  | own l' =>
    simp only [keepS] at h
    split at h
    · rename_i hf; cases h; exact ⟨rfl, hf⟩
    · cases h
  | exc t => simp [keepS] at h
  | fr l' => simp [keepS] at h
theorem Ok.wipe {K : Frag} {H₀ H : Hp} {O : Addr → Prop} {σ : L2.St} {ds : List Sl} {a : Addr} {xs : List V} (o : Ok K H₀ H O σ ds []) (ha : ¬ O a) (h0 : H₀ a = none) (hx : H a = some (HO.lst xs)) : Ok K H₀ (upd H a (HO.lst [])) O σ (ds.map keepS) [] := by
  have back : ∀ {j : Nat} {s' : Sl}, (ds.map keepS)[j]? = some s' → ∃ s, ds[j]? = some s ∧ keepS s = s' := fun {j s'} e => by
    rw [List.getElem?_map] at e
    cases hs : ds[j]? with
    | none => rw [hs] at e; cases e
    | some s => rw [hs] at e; exact ⟨s, rfl, by simpa using e⟩
  have own' : ∀ {j : Nat}, IsOwn (ds.map keepS) j → IsOwn ds j := fun {j} ⟨l, e⟩ => by
    obtain ⟨s, h1, h2⟩ := back e
    exact ⟨l, by rw [h1, (keepS_own h2).1]⟩
  refine ⟨fun b u e => ?_, fun j l b e1 e2 => ?_, fun b hb => ?_, by simpa using o.len, fun j s' e => ?_, fun j k b hjk hj hk e1 e2 => o.apart j k b hjk (own' hj) (own' hk) e1 e2, fun p hp => by cases hp⟩
  · rw [upd_ne (fun z => by rw [z, h0] at e; cases e)]; exact o.same b u e
  · obtain ⟨s, h1, h2⟩ := back e1
    exact o.fresh j l b (by rw [h1, (keepS_own h2).1]) e2
  · obtain ⟨ys, e⟩ := o.dom b hb
    exact ⟨ys, by rw [upd_ne (fun z => ha (by rw [← z]; exact hb))]; exact e⟩
  · obtain ⟨s, h1, h2⟩ := back e
    cases s with
    | no => simp only [keepS] at h2; subst h2; exact slOk_no
    | v d =>
      simp only [keepS] at h2
      split at h2
      · rename_i hf
        subst h2
        obtain ⟨v, q1, q2⟩ := o.read h1
        rw [q1]
        exact slOk_v (q2.wipe hx hf)
      · subst h2; exact slOk_no
    | own l =>
      simp only [keepS] at h2
      split at h2
      · rename_i hf
        subst h2
        obtain ⟨b, zs, q1, q2, q3, q4⟩ := o.readO h1
        rw [q1]
        exact ⟨q2, zs, by rw [upd_ne (fun z => ha (by rw [← z]; exact q2))]; exact q3, q4.wipe hx hf⟩
      · subst h2; exact slOk_no
    | exc t =>
      simp only [keepS] at h2
      subst h2
      obtain ⟨b, C, ob, u, q1, q2, q3, q4⟩ := o.readX h1
      rw [q1]
      exact ⟨C, ob, u, q2, by rw [upd_ne (fun z => by rw [z, hx] at q3; cases q3)]; exact q3, q4⟩
    | fr l => simp only [keepS] at h2; subst h2; exact slOk_no
section
variable {X : Cx}
/-! at the outermost of a def -/
variable (X) in
def PSv0 (st : Stmt) (g : FS) : Prop := ∃ t, PS X st t ∧ ∀ H₀ H O σ ds out E, Ok X.K H₀ H O σ ds [] → g ds = some out → After X H₀ [] E out → t E σ H
variable (X) in
def PSsv0 (st : List Stmt) (g : FS) : Prop := ∃ t, PSs X st t ∧ ∀ H₀ H O σ ds out E, Ok X.K H₀ H O σ ds [] → g ds = some out → After X H₀ [] E out → t E σ H
theorem PSv.z {st : Stmt} {g : FS} (h : PSv X st g) : PSv0 X st g := by
  obtain ⟨t, ht, hf⟩ := h
  exact ⟨t, ht, fun H₀ H O σ ds out E o e a => hf H₀ H O σ ds [] out E o e a⟩
theorem PSsv.z {st : List Stmt} {g : FS} (h : PSsv X st g) : PSsv0 X st g := by
  obtain ⟨t, ht, hf⟩ := h
  exact ⟨t, ht, fun H₀ H O σ ds out E o e a => hf H₀ H O σ ds [] out E o e a⟩
end
end FL

/-! ### a raise that passes through a call; two classes in one try -/
namespace FL
open PySem PySem.Spec PyProof.Rows L2
theorem pass_on {P : Program} {w : World} {K : Frag} {mg : Str → Option Value} {base : Heap} {N : List Str} {qual : Str} {scope : Scope} {f : Addr} {cd : Value} {A : Around} {outer : List Env} {s : Shared} {H : Hp} {E : XK} :
    Passes (CXM P w) (cxOf (CXM P w) P w K mg base N qual scope f cd A outer s H E) E := by
  intro pins σ H1 s1 e s' I h
  obtain ⟨ea, cls, a0, B, H', rfl, os, bare, T, hE⟩ := h
  have hfr : frs (envOfC qual scope s.heap.objs.size f cd :: outer) = s.heap.objs.size :: frs outer := rfl
  have nm : ∀ b o, s.heap.get? b = some o → b ∉ frs outer → b ∉ frs (envOfC qual scope s.heap.objs.size f cd :: outer) := fun b o q n z => by
    rw [hfr] at z
    rcases List.mem_cons.mp z with z | z
    · exact absurd (Heap.lt_size q) (by rw [z]; exact Nat.lt_irrefl _)
    · exact n z
  show wpAny _ _ (leaving _ _) _ _ _
  refine wpAny_leaves_onW I.ok.frames rfl T.fly fun h' x1 x4 => ?_
  refine ⟨ea, cls, a0, B, H', rfl, os.trans I.os, bare, ⟨x1, fun b o q n hb => ?_, fun b o q hb => ?_, fun b o q hb => ?_, fun b o q n => ?_, fun b xs q => T.tups b xs (I.base.tups b xs q), fun b o u q => T.frzs b o u (I.base.frzs b o u q), fun b ps q => ?_, T.hok⟩, hE⟩
  · exact T.keep b o (I.base.keep b o q n hb (by intro z; cases z)) (I.base.free b o q n (by intro z; cases z)) (nm b o q hb)
  · obtain ⟨o', q'⟩ := I.base.there b o q (by intro z; cases z)
    exact T.there b o' q' (nm b o q hb)
  · obtain ⟨sl, q'⟩ := I.base.slot b o q (I.ok.frf b hb) hb (by intro z; cases z)
    obtain ⟨sl2, q2⟩ := T.slot b _ q' (List.mem_cons_of_mem _ hb)
    obtain ⟨_, ob, ho, hd⟩ := I.ok.funs.mem hb
    have ho' : s.heap.get? b = some ob := ho
    rw [q] at ho'
    cases ho'
    obtain ⟨sl', q''⟩ := x4 b _ q2 hd
    exact ⟨sl', q''⟩
  · obtain ⟨o', q'⟩ := I.base.there b o q (by intro z; cases z)
    exact T.free b o' q' (I.base.free b o q n (by intro z; cases z))
  · obtain ⟨m1, q1⟩ := I.base.tbls b ps q
    obtain ⟨m2, q2⟩ := T.tbls b _ q1
    exact ⟨m1 ++ m2, by rw [q2, Array.append_assoc]⟩
section
variable (X : Cx) (E : XK) (C : Addr)
def PSy (st : Stmt) (x : List Sl → Bool) : Prop := ∃ t, PS X st t ∧ ∀ H₀ H O σ ds hd D, Ok X.K H₀ H O σ ds hd → x ds = true → (∀ σ' H', Same H₀ H' → XeOk X C σ' H') → (∀ H', Same H₀ H' → E (.ref C) none H') → t D σ H
def PSsy (st : List Stmt) (x : List Sl → Bool) : Prop := ∃ t, PSs X st t ∧ ∀ H₀ H O σ ds hd D, Ok X.K H₀ H O σ ds hd → x ds = true → (∀ σ' H', Same H₀ H' → XeOk X C σ' H') → (∀ H', Same H₀ H' → E (.ref C) none H') → t D σ H
def PEy (e : Expr) (x : List Sl → Bool) : Prop := ∃ t, PE X e t ∧ ∀ H₀ H O σ ds hd Q, Ok X.K H₀ H O σ ds hd → x ds = true → (∀ H', Same H₀ H' → E (.ref C) none H') → t σ H Q
def PSsAny (st : List Stmt) : Prop := ∃ t, PSs X st t
end
section
variable {X : Cx} {E : XK} {C : Addr}
theorem PSx.y {st : Stmt} {x : List Sl → Bool} (h : PSx X C st x) : PSy X E C st x := by
  obtain ⟨t, ht, hf⟩ := h
  exact ⟨t, ht, fun H₀ H O σ ds hd D o e q _ => hf H₀ H O σ ds hd D o e q⟩
theorem PSsv.any {st : List Stmt} {g : FS} (h : PSsv X st g) : PSsAny X st := let ⟨t, ht, _⟩ := h; ⟨t, ht⟩
theorem PIs.any {st : List Stmt} {ns : List Str} {g : FN} (h : PIs X st ns g) : PSsAny X st := let ⟨t, ht, _⟩ := h; ⟨t, ht⟩
theorem pssy_never {st : List Stmt} (h : PSsAny X st) : PSsy X E C st neverX := by
  obtain ⟨t, ht⟩ := h
  exact ⟨t, ht, fun _ _ _ _ _ _ _ _ e _ _ => by cases e⟩
theorem pssy_head {st : Stmt} {rest : List Stmt} {x : List Sl → Bool} (h1 : PSy X E C st x) (h2 : PSsAny X rest) : PSsy X E C (st :: rest) x := by
  obtain ⟨t, ht, hf⟩ := h1
  obtain ⟨u, hu⟩ := h2
  exact ⟨_, pss_cons ht hu, fun H₀ H O σ ds hd D o e q p => hf H₀ H O σ ds hd _ o e q p⟩
theorem pssy_tail {st : Stmt} {rest : List Stmt} {f : FS} {x : List Sl → Bool} (h1 : PSv X st f) (h2 : PSsy X E C rest x) : PSsy X E C (st :: rest) (seqX f x) := by
  obtain ⟨t, ht, hf⟩ := h1
  obtain ⟨u, hu, hg⟩ := h2
  refine ⟨_, pss_cons ht hu, fun H₀ H O σ ds hd D o e q p => ?_⟩
  unfold seqX at e
  cases h1 : f ds with
  | none => rw [h1] at e; cases e
  | some o1 =>
    rw [h1] at e
    cases o1 with
    | nx ds' => exact hf H₀ H O σ ds hd _ _ o h1 (fun σ' H' O' o' => hg H₀ H' O' σ' ds' hd D o' e q p)
    | _ => cases e
theorem ps_or {st : Stmt} {t u : TS} (h1 : PS X st t) (h2 : PS X st u) : PS X st (fun D σ H => t D σ H ∨ u D σ H) := fun pins s σ H D I h => h.elim (h1 pins s σ H D I) (h2 pins s σ H D I)
theorem pssy_cons {st : Stmt} {rest : List Stmt} {f : FS} {x y : List Sl → Bool} (h0 : PSy X E C st x) (h1 : PSv X st f) (h2 : PSsy X E C rest y) : PSsy X E C (st :: rest) (orX x (seqX f y)) := by
  obtain ⟨t0, ht0, hf0⟩ := h0
  obtain ⟨t, ht, hf⟩ := h1
  obtain ⟨u, hu, hg⟩ := h2
  refine ⟨_, pss_cons (ps_or ht0 ht) hu, fun H₀ H O σ ds hd D o e q p => ?_⟩
  unfold orX at e
  rcases Bool.or_eq_true_iff.mp e with e | e
  · exact .inl (hf0 H₀ H O σ ds hd _ o e q p)
  · refine .inr ?_
    unfold seqX at e
    cases h1 : f ds with
    | none => rw [h1] at e; cases e
    | some o1 =>
      rw [h1] at e
      cases o1 with
      | nx ds' => exact hf H₀ H O σ ds hd _ _ o h1 (fun σ' H' O' o' => hg H₀ H' O' σ' ds' hd D o' e q p)
      | _ => cases e
theorem psy_if {c : Expr} {a b : List Stmt} {pos : Pos} {fc : FT} {xa xb : List Sl → Bool} (hc : PTv X c fc) (ha : PSsy X E C a xa) (hb : PSsy X E C b xb) : PSy X E C (.If c a b pos) (ifX fc xa xb) := by
  obtain ⟨tc, hc, hcf⟩ := hc
  obtain ⟨ta, ha, haf⟩ := ha
  obtain ⟨tb, hb, hbf⟩ := hb
  refine ⟨_, ps_if hc ha hb, fun H₀ H O σ ds hd D o e q p => ?_⟩
  unfold ifX at e
  cases hh : fc ds with
  | none => rw [hh] at e; cases e
  | some k =>
    rw [hh] at e
    refine hcf H₀ H O σ ds hd k _ o hh fun H' s => ?_
    cases k with
    | true => exact haf H₀ H' O σ ds hd D (o.mono s) e q p
    | false => exact hbf H₀ H' O σ ds hd D (o.mono s) e q p
theorem psy_ret {e : Expr} {pos : Pos} {x : List Sl → Bool} (h : PEy X E C e x) : PSy X E C (.Return (some e) pos) x := by
  obtain ⟨t, ht, hf⟩ := h
  exact ⟨_, ps_ret ht, fun H₀ H O σ ds hd D o e _ p => hf H₀ H O σ ds hd _ o e p⟩
theorem psy_expr {e : Expr} {pos : Pos} {x : List Sl → Bool} (h : PEy X E C e x) (hs : swapsWith e none pos.line X.env = pure false := by rfl) : PSy X E C (.Expr e pos) x := by
  obtain ⟨t, ht, hf⟩ := h
  exact ⟨_, ps_expr ht hs, fun H₀ H O σ ds hd D o e _ p => hf H₀ H O σ ds hd _ o e p⟩
section
variable {k j n : Nat} {R : List D → Bool} {x : Str} {p pos : Pos} {e : Expr} {es : List Expr} {g : FA}
theorem pey_call (hp : Passes (CXM X.prog X.w) X E) (CX : CalX X.prog X.w X.K X.mg X.base x k n R C) (hr : Room j X.A) (ha : PAn X (e :: es) g) (hj : k ≤ j := by decide) (hg : Gl X x := by rfl) (hdb : (x == ("__debug__" : Str)) = false := by decide)
    (he : starEach (e :: es) X.env = (false, eval e X.env) :: starEach es X.env := by rfl) (hpl : (backTo pos (starEach es X.env)).any (·.1) = false := by rfl) : PEy X E C (.Call (.Name x p) (e :: es) [] pos) (callX n R g) := by
  obtain ⟨f, fd, ps, Fn, hb, hk, hm⟩ := CX.ex
  obtain ⟨t, ht, hf⟩ := ha
  refine ⟨_, pe_call (E := E) Fn (hr.mono hj) hg hm hk hb .nil hp ht hdb he hpl, fun H₀ H O σ ds hd Q o ex q => ?_⟩
  unfold callX at ex
  cases hl : g ds with
  | none => rw [hl] at ex; cases ex
  | some l =>
    rw [hl] at ex
    simp only [Bool.and_eq_true, decide_eq_true_eq] at ex
    refine hf H₀ H O σ ds hd l _ o hl fun vs H1 s1 r1 => ?_
    have hl' := r1.length
    exact ⟨by simp only [List.append_nil]; rw [hl']; exact ex.1, l, by simpa using r1, ex.2, fun H' s' => q H' (o.same.trans (s1.trans s'))⟩
end
end
theorem fun_okY {P : Program} {w : World} {K : Frag} {mg : Str → Option Value} {base : Heap} {x qual : Str} {st : Stmt} {f C : Addr} {fd : FuncData} {N ps : List Str} {k : Nat} {R : List D → Bool} (Fn : Fun K x qual st f fd) (S : FnScope N ps (defScope st))
    {g : List Sl → Bool} (hbody : ∀ (cdv : Value) (A : Around) (outer : List Env) (s : Shared) (H : Hp) (E : XK), Room k (A.deeper (envOfC qual (defScope st) s.heap.objs.size f cdv)) → PSsy (cxOf (CXM P w) P w K mg base N qual (defScope st) f cdv A outer s H E) E C (defBody st) g)
    (hg : ∀ ds, ds.length = ps.length → R ds = true → g (args N.length ds) = true) : FnOk P w K mg base (CXM P w) (k + 1) f fd ps (spX K ps.length R C) := by
  obtain ⟨oc, od, kV, doc, pm, an, cdv, ct, osl, rfl, lk, hcd⟩ := Fn.ex
  refine fn_of lk hcd S (fun vs H Q E h => h.1) fun A outer s H vs Q E hr h => ?_
  obtain ⟨hl, ds, rv, e, q⟩ := h
  obtain ⟨t, ht, hf⟩ := hbody cdv A outer s H E hr
  exact ⟨t, ht, hf H H none0 _ _ [] _ (ok_start (N := N) rv) (hg ds (by rw [← rv.length]; exact hl) e) (fun σ' H' s' => xe_raise (q H' s')) q⟩
def spXN (K : Frag) (n : Nat) (R : List D → Bool) (C : Addr) : Sp := fun vs H _ E => ∃ x vs' ds, vs = .ref x :: vs' ∧ vs'.length = n ∧ Reps K H none0 vs' ds ∧ R ds = true ∧ ∀ H', Same H H' → E (.ref C) none H'
theorem ok_startN {K : Frag} {H : Hp} {N : List Str} {x : Addr} {vs' : List V} {ds : List D} (rv : Reps K H none0 vs' ds) : Ok K H H none0 (L2.start N (.ref x :: vs')) (argsN N.length ds) [] := by
  have hl := rv.length
  refine ⟨Same.refl _, (fun i l a hi _ => by rcases argsN_get hi with h | ⟨j, d, _, _, h⟩ <;> cases h), fun _ z => z.elim, by simp [L2.start, argsN, hl], fun i s e => ?_, fun i j a _ ⟨l, hi⟩ _ _ _ => ?_, (fun p hp => by cases hp)⟩
  · rcases argsN_get e with rfl | ⟨j, d, rfl, hj, rfl⟩
    · exact slOk_no
    · obtain ⟨v, h1, h2⟩ := rv.get hj
      have hjl : j < vs'.length := (List.getElem?_eq_some_iff.mp h1).1
      have : (L2.start N (.ref x :: vs'))[j + 1]? = some (some v) := by
        unfold L2.start
        rw [List.getElem?_append_left (by simpa using hjl)]
        simp [h1]
      rw [this]
      exact slOk_v h2
  · rcases argsN_get hi with h | ⟨j, d, _, _, h⟩ <;> cases h
theorem init_okY {P : Program} {w : World} {K : Frag} {mg : Str → Option Value} {base : Heap} {x qual : Str} {st : Stmt} {f C : Addr} {fd : FuncData} {N ps : List Str} {k n : Nat} (Fn : Fun K x qual st f fd) (S : FnScope N ps (defScope st))
    {g : List Sl → Bool} (hbody : ∀ (cdv : Value) (A : Around) (outer : List Env) (s : Shared) (H : Hp) (E : XK), Room k (A.deeper (envOfC qual (defScope st) s.heap.objs.size f cdv)) → PSsy (cxOf (CXM P w) P w K mg base N qual (defScope st) f cdv A outer s H E) E C (defBody st) g)
    (hn : ps.length = n + 1) : FnOk P w K mg base (CXM P w) (k + 1) f fd ps (spXN K n (runXN g N.length) C) := by
  obtain ⟨oc, od, kV, doc, pm, an, cdv, ct, osl, rfl, lk, hcd⟩ := Fn.ex
  refine fn_of lk hcd S (fun vs H Q E h => ?_) fun A outer s H vs Q E hr h => ?_
  · obtain ⟨x, vs', ds, rfl, hl, _⟩ := h
    simp [hl, hn]
  · obtain ⟨x, vs', ds, rfl, hl, rv, e, q⟩ := h
    obtain ⟨t, ht, hf⟩ := hbody cdv A outer s H E hr
    exact ⟨t, ht, hf H H none0 _ _ [] _ (ok_startN (N := N) rv) e (fun σ' H' s' => xe_raise (q H' s')) q⟩
structure MkX (P : Program) (w : World) (K : Frag) (mg : Str → Option Value) (base : Heap) (t k n : Nat) (R : List D → Bool) (C : Addr) : Prop where
  ex : ∃ (D f : Addr) (fd : FuncData) (ps : List Str), mg (clsName t) = some (.ref D) ∧ Mk K D f ∧ FnOk P w K mg base (CXM P w) k f fd ps (spXN K n R C) ∧ Binds K fd ps []
section
variable {X : Cx} {E : XK} {C : Addr} {t k j n : Nat} {R : List D → Bool} {x : Str} {p pos : Pos} {e : Expr} {es : List Expr} {g : FA}
theorem pey_make (hp : Passes (CXM X.prog X.w) X E) (M : MkX X.prog X.w X.K X.mg X.base t k n R C) (hr : Room j X.A) (ha : PAn X (e :: es) g) (hj : k + 1 ≤ j := by decide) (hx : clsName t = x := by rfl)
    (hg : Gl X x := by rfl) (hdb : (x == ("__debug__" : Str)) = false := by decide) (he : starEach (e :: es) X.env = (false, eval e X.env) :: starEach es X.env := by rfl) (hpl : (backTo pos (starEach es X.env)).any (·.1) = false := by rfl) :
    PEy X E C (.Call (.Name x p) (e :: es) [] pos) (callX n R g) := by
  obtain ⟨D, f, fd, ps, hm, mk, Fn, hb⟩ := M.ex
  obtain ⟨ta, pa, hfa⟩ := ha
  subst hx
  refine ⟨_, pe_make (E := E) mk Fn (hr.mono hj) hg hm hb .nil hp pa hdb he hpl, fun H₀ H O σ ds hd Q o ex q => ?_⟩
  unfold callX at ex
  cases hl : g ds with
  | none => rw [hl] at ex; cases ex
  | some l =>
    rw [hl] at ex
    simp only [Bool.and_eq_true, decide_eq_true_eq] at ex
    refine hfa H₀ H O σ ds hd l _ o hl fun vs H1 s1 r1 => ?_
    intro x dx nx ndx nex
    have hl' := r1.length
    have s2 : Same H1 (upd (upd H1 dx (.own x)) x (.ins D dx [])) := fun b o e => by
      rw [upd_ne (ne_of_none e nx), upd_ne (ne_of_none e ndx)]
      exact e
    exact ⟨x, vs, l, by simp, by rw [hl']; exact ex.1, r1.mono s2, ex.2, fun H' s' => q H' (o.same.trans (s1.trans (s2.trans s')))⟩
end
section
variable {X : Cx}
theorem try_lands {st b₀ : Stmt} {suite : List Stmt} {sx en : Str} {hp hpos : Pos} {i t : Nat} {C S : Addr} {h : FS} {x : List Sl → Bool}
    (hN : X.N.Nodup) (hm : X.mg sx = some (.ref S)) (hS : XCatch X.K C S) (hC : PySem.W.nsIn X.K mainGlobals (xName t) = some (some (.ref C)))
    (hx : ∀ W, Throws (X.wish W) C st x) (hs : ∀ ea xe, PSsv (suiteCx X ea xe) (b₀ :: suite) h)
    (hi : X.N[i]? = some en) (hlo : X.env.kindOf en = some .local) (hst : X.stack = X.env :: X.outer) (hfr : X.env.frame = some X.env.locals) (hex : X.ex = [])
    (hgS : Gl X sx) (hdb : (sx == ("__debug__" : Str)) = false)
    {pins : List (Addr × Obj)} {s : Shared} {σ : L2.St} {H H₀ : Hp} {O : Addr → Prop} {ds : List Sl} {hd : Hold} {D : Ends} {out' : Out} (I : Inv X pins σ H s) (o : Ok X.K H₀ H O σ ds hd) (hxd : x ds = true) (hh : h (ds.set i (.exc t)) = some out') (af : After X H₀ hd D (goneO i out')) :
    wpAny (model X.prog X.w) X.A (exec st X.env) (fun _ _ => False) (tryE X pins D [.ExceptHandler (some (.Name sx hp)) (some en) (b₀ :: suite) hpos]) s := by
  have hLoc : Loc X.env.scope en := .inl hlo
  have hsub : ∀ b, b ∈ X.env.locals :: X.fs → b ∈ frs X.stack := fun b hb => by
    rw [hst]; unfold frs; rw [List.filterMap_cons, hfr]; exact hb
  refine hx (tryE X pins D [.ExceptHandler (some (.Name sx hp)) (some en) (b₀ :: suite) hpos]) pins s σ H H₀ O ds hd (I.wish _) o hxd ?_
  intro ea a0 B H1 H' s1 s' I1 m1 m2 T os bare
  have I1' : Inv X pins σ H1 s1 := I1.unwish
  have T : Thrown X.prog X.w X.stack H1 s1 (.ref C) ea a0 B H' s'.heap := T
  show wpAny _ _ (noteFrame _ _) _ _ _
  have hA : X.A.frames = some (X.env :: X.outer) := by rw [← hst]; exact I.ok.frames
  refine wpAny_looks_onW hA hfr (by rw [← hst]; exact T.fly) fun h₄ held₄ sm₄ => ?_
  refine wpAny_landsW held₄ fun h₅ fly₅ sm₅ => ?_
  have T5 := T.on (h' := h₅) (by rw [hst]; exact fly₅) (sm₄.trans sm₅)
  have I5 : Inv X pins σ H' { s' with heap := h₅ } := I1'.call' (ch := []) os T5.un T5.hokh bare (fun b z => by cases z)
  obtain ⟨ap5, ob, hob, hobc, hobd⟩ := fly_apart T5.fly
  refine wpAny_handleBy_cons (codeAny_handlers_test ?_) (by intro q; cases q)
  refine ld_glob (X := suiteCx X ea X.xe) (inv_suite I5) hgS hm ?_ hdb
  refine x_matches (K := X.K) I5.kIn hob hobc hS ?_
  refine codeAny_handlers_suite_as ?_
  refine lands_againW (s := { s' with heap := h₅ }) fly₅ fun h₆ fly₆ sm₆ => ?_
  have T6 := T5.on (h' := h₆) (by rw [hst]; exact fly₆) sm₆
  have I6 : Inv X pins σ H' { s' with heap := h₆ } := I1'.call' (ch := []) os T6.un T6.hokh bare (fun b z => by cases z)
  obtain ⟨ap6, oe, hoe, hoec, hoed⟩ := fly_apart T6.fly
  have nb : ∀ b o, s1.heap.get? b = some o → b ≠ ea := fun b o e z => by
    subst z
    obtain ⟨o', q⟩ := T6.there b o e ap6
    rw [T6.fly.2.1] at q; cases q
  have h0 : X.s₀.heap.get? ea = none := by
    cases q : X.s₀.heap.get? ea with
    | none => rfl
    | some o' =>
      obtain ⟨o'', q'⟩ := I1'.base.there ea o' q (by rw [hex]; intro z; cases z)
      exact (nb ea o'' q' rfl).elim
  have It := inv_track I6 T6.no hoe (fun z => ap6 (hsub _ (by rw [z]; exact List.mem_cons_self))) h0 hoed fun p hpp => nb p.1 p.2 (I1'.pin p hpp).1
  have sm : Same H' (upd H' ea (.frz oe (.own ea))) := fun b u e => by rw [upd_ne (fun z => by rw [z, T6.no] at e; cases e)]; exact e
  refine store_ok (X := suiteCx X ea X.xe) (i := i) (v := .ref ea) (inv_suite It) hN hi hLoc rfl (fun s7 I7 => ?_) (.inr hlo)
  refine run_suite (fun xe => hs ea xe) I7 ((o.mono ((m1.trans m2).trans sm)).setX hC upd_same hoec) hh (after_gone af) fun f s8 h8 => ?_
  have hcls : (X.env.scope.kind == .class || (X.env.scope.kind == .module && X.env.locals != X.env.globals)) = false := by rw [I.ok.kind]; rfl
  have gone : ∀ xe σ' H8, Inv (suiteCx X ea xe) pins σ' H8 s8 → ∀ Q : Unit → Shared → Prop, (∀ s9, Inv X pins (σ'.set i none) H8 s9 → Q () s9) → wpAny (model X.prog X.w) X.A (do bindName X.env en .none; unbindBehindTheSuite X.env en hpos) Q X.xe s8 := fun xe σ' H8 I8 Q k => by
    have I8' := inv_unsuite I8 I.ok.hd
    obtain ⟨m, hn, hl⟩ := id I8'.loc
    exact wpAny_nameGoes_keeps hlo hn hcls fun h' v hn' hs' => k _ (inv_gone I8' hN hi hn hl hn' hs')
  cases f with
  | next => obtain ⟨σ', H8, I8, q⟩ := h8; exact gone _ σ' H8 I8 _ fun s9 I9 => ⟨_, H8, I9, q⟩
  | brk => obtain ⟨σ', H8, I8, q⟩ := h8; exact gone _ σ' H8 I8 _ fun s9 I9 => ⟨_, H8, I9, q⟩
  | cont => obtain ⟨σ', H8, I8, q⟩ := h8; exact gone _ σ' H8 I8 _ fun s9 I9 => ⟨_, H8, I9, q⟩
  | ret u => obtain ⟨v, σ', H8, I8, r, q⟩ := h8; exact gone _ σ' H8 I8 _ fun s9 I9 => ⟨v, _, H8, I9, r, q⟩
theorem psv_try2 {st b₀ : Stmt} {suite : List Stmt} {sx en : Str} {hp hpos pos : Pos} {i t u : Nat} {C C' S : Addr} {g h : FS} {x y : List Sl → Bool}
    (hN : X.N.Nodup) (hm : X.mg sx = some (.ref S)) (hS : XCatch X.K C S) (hS' : XCatch X.K C' S) (hC : PySem.W.nsIn X.K mainGlobals (xName t) = some (some (.ref C))) (hC' : PySem.W.nsIn X.K mainGlobals (xName u) = some (some (.ref C')))
    (hg : ∀ W, PSv (X.wish W) st g) (hx : ∀ W, Throws (X.wish W) C st x) (hy : ∀ W, Throws (X.wish W) C' st y) (hs : ∀ ea xe, PSsv (suiteCx X ea xe) (b₀ :: suite) h)
    (hi : X.N[i]? = some en := by rfl) (hlo : X.env.kindOf en = some .local := by rfl) (hst : X.stack = X.env :: X.outer := by rfl) (hfr : X.env.frame = some X.env.locals := by rfl) (hex : X.ex = [] := by rfl)
    (hgS : Gl X sx := by rfl) (hdb : (sx == ("__debug__" : Str)) = false := by decide) :
    PSv X (.Try [st] [.ExceptHandler (some (.Name sx hp)) (some en) (b₀ :: suite) hpos] [] [] pos) (tryG2 i t u g x y h) := by
  refine ⟨fun D σ H => ∀ pins s, Inv X pins σ H s → wpAny (model X.prog X.w) X.A (exec (.Try [st] [.ExceptHandler (some (.Name sx hp)) (some en) (b₀ :: suite) hpos] [] [] pos) X.env) (SP X pins D) X.xe s,
    fun pins s σ H D I h => h pins s I, fun H₀ H O σ ds hd out D o e af pins s I => ?_⟩
  refine wpAny_Try_except (wpAny_execs_cons ?_)
  show wpAny _ _ _ _ (tryE X pins D [.ExceptHandler (some (.Name sx hp)) (some en) (b₀ :: suite) hpos]) s
  unfold tryG2 at e
  by_cases hxd : x ds = true
  · rw [if_pos hxd] at e
    cases hh : h (ds.set i (.exc t)) with
    | none => rw [hh] at e; cases e
    | some out' =>
      rw [hh] at e
      cases e
      exact wpAny_mono (try_lands hN hm hS hC hx hs hi hlo hst hfr hex hgS hdb I o hxd hh af) (fun _ _ z => z.elim) (fun _ _ z => z)
  rw [if_neg hxd] at e
  by_cases hyd : y ds = true
  · rw [if_pos hyd] at e
    cases hh : h (ds.set i (.exc u)) with
    | none => rw [hh] at e; cases e
    | some out' =>
      rw [hh] at e
      cases e
      exact wpAny_mono (try_lands hN hm hS' hC' hy hs hi hlo hst hfr hex hgS hdb I o hyd hh af) (fun _ _ z => z.elim) (fun _ _ z => z)
  · rw [if_neg hyd] at e
    obtain ⟨t, ht, hf⟩ := hg (tryE X pins D [.ExceptHandler (some (.Name sx hp)) (some en) (b₀ :: suite) hpos])
    refine wpAny_mono (ht pins s σ H D (I.wish _) (hf H₀ H O σ ds hd out D o e af)) (fun f s1 q => ?_) (fun _ _ z => z)
    have q' := q.unwish
    cases f with
    | next => exact wpAny_execs_nil (wpAny_execs_nil q')
    | brk => exact q'
    | cont => exact q'
    | ret u => exact q'
end
end FL

/-! ### a call in an except suite: the def is handed the exception -/
namespace FL
open PySem PySem.Spec PyProof.Rows L2
structure RoomH (k : Nat) (A : Around) : Prop where
  dp : A.depth + 3 * k + 5 < recursionLimit
  un : A.units + 16 * k + 200 < cLine
theorem RoomH.of {k : Nat} {A : Around} {v : Option Value} (r : Room k A) : RoomH k (A.mark v) := ⟨r.dp, r.un⟩
theorem RoomH.mono {j k : Nat} {A : Around} (r : RoomH k A) (h : j ≤ k) : RoomH j A := ⟨by have := r.dp; omega, by have := r.un; omega⟩
theorem RoomH.depth {k : Nat} {A : Around} (r : RoomH k A) : A.depth < recursionLimit := by have := r.dp; omega
abbrev uncalm (X : Cx) : Cx := { X with calm := false, xe := fun _ _ => False }
structure FnOkH (P : Program) (w : World) (K : Frag) (mg : Str → Option Value) (base : Heap) (k : Nat) (f : Addr) (fd : FuncData) (ps : List Str) (sp : Sp) : Prop where
  len : ∀ vs H Q E, sp vs H Q E → vs.length = ps.length
  run : ∀ (A : Around) (outer : List Env) (s : Shared) (H : Hp) (args : Args) (us : List Value) (vs : List V) (Q : VK) (E : XK), RoomH k A → Env0 P w K mg base A outer s H → BindsTo s fd args (ps.zip us) → Vals vs us → sp vs H Q E →
    codeAny (model P w) A (.call (.ref f) args) (CR CX0 outer P w H s Q E) s
theorem inv_calm {X : Cx} {A' : Around} {xe : Value → Shared → Prop} {pins : List (Addr × Obj)} {σ : L2.St} {H : Hp} {s : Shared} (I : Inv X pins σ H s) (hA : A'.frames = X.A.frames) : Inv { X with A := A', calm := false, xe := xe } pins σ H s := by
  have ok := I.ok
  exact ⟨⟨ok.mod, ok.kind, ok.glob, ok.blt, ok.above, ok.inj, ok.has, ok.cab, (fun z => by cases z), hA.trans ok.frames, ok.stk, ok.exf, ok.bs, ok.bsz, ok.noex, ok.exfs, ok.funs, ok.frf⟩, I.os, I.bare, I.base, I.loc, I.cell, I.free, I.freeC, I.pin, I.hok, I.len⟩
theorem fnH_of {P : Program} {w : World} {K : Frag} {mg : Str → Option Value} {base : Heap} {k : Nat} {x qual : Str} {st : Stmt} {f : Addr} {fd : FuncData} {N ps : List Str} {sp : Sp} (Fn : Fun K x qual st f fd) (S : FnScope N ps (defScope st))
    (len : ∀ vs H Q E, sp vs H Q E → vs.length = ps.length)
    (hbody : ∀ (cdv : Value) (A : Around) (outer : List Env) (s : Shared) (H : Hp) (vs : List V) (Q : VK) (E : XK), sp vs H Q E →
      ∃ t, PSs (uncalm (cxOf CX0 P w K mg base N qual (defScope st) f cdv A outer s H E)) (defBody st) t ∧ t { nx := fun _ H' => Q .non H', rt := Q } (L2.start N vs) H) :
    FnOkH P w K mg base (k + 1) f fd ps sp := by
  obtain ⟨oc, od, kV, doc, pm, an, cdv, ct, osl, rfl, lk, hcd⟩ := Fn.ex
  refine ⟨len, fun A outer s H args us vs Q E hr e0 hb r hsp => ?_⟩
  have hl := len _ _ _ _ hsp
  have KX : K.In s.heap := e0.mod.kin.keeps fun b o e => (e0.bs b o e).1
  have lim : s.heap.NoLimit := e0.mod.nolimit.keeps fun b o e => (e0.bs b o e).1
  have hkind : ∀ y ∈ ps.zip us, (defScope st).names.lookup y.1 = some .local ∨ ((defScope st).names.lookup y.1 = some .cell ∧ ((cellsFrom (s.heap.objs.size + 1) (defScope st).names []).lookup y.1).isSome = true) := fun ⟨n, v⟩ hy => by
    rcases S.par n (List.of_mem_zip hy).1 with q | q
    · exact .inl q
    · exact .inr ⟨q, PySem.W.cellsFrom_some _ _ _ (.inl q)⟩
  refine codeAny_call_function hr.depth (KX _ _ lk) rfl S.co S.gen rfl (PySem.W.codeRec_of KX hcd) (hb _ _ _ _ ?_)
  refine wpAny_newFunctionEnv_cells S.kind hkind fun env he s1 x => ?_
  subst he
  refine ⟨lim.keeps x.toInCall.keep, codeAny_func ?_⟩
  obtain ⟨t, ht, hq⟩ := hbody cdv A outer s H vs Q E hsp
  have e1 : Env0 P w K mg base { A with handled := none } outer s H := ⟨e0.frames, e0.mod, e0.bs, e0.bsz, e0.funs, e0.frf, e0.hok, e0.bare⟩
  have I0 : Inv (cxOf CX0 P w K mg base N qual (defScope st) f cdv { A with handled := none } outer s H E) [] (L2.start N vs) H s1 := inv_start S rfl e1 hl r x
  have I : Inv (uncalm (cxOf CX0 P w K mg base N qual (defScope st) f cdv A outer s H E)) [] (L2.start N vs) H s1 := inv_calm (X := cxOf CX0 P w K mg base N qual (defScope st) f cdv { A with handled := none } outer s H E) (A' := A.deeper (envOfC qual (defScope st) s.heap.objs.size f cdv)) (xe := fun _ _ => False) I0 rfl
  refine wpAny_mono (ht [] s1 (L2.start N vs) H _ I hq) (fun fl s' hs => ?_) fun e s' hs => hs.elim
  have fin : ∀ {σ' : L2.St} {H' : Hp} {v : V} {u : Value}, Inv (uncalm (cxOf CX0 P w K mg base N qual (defScope st) f cdv A outer s H E)) [] σ' H' s' → RelV v u → Q v H' → CE outer P w H s Q u s' :=
    fun {σ' H' v u} J rv q => ⟨v, H', J.os, J.bare, J.base, J.hok, rv, q⟩
  cases fl with
  | ret u =>
    obtain ⟨v, σ', H', J, rv, q⟩ := hs
    exact fin J rv q
  | next =>
    obtain ⟨σ', H', J, q⟩ := hs
    exact fin (v := V.non) (u := Value.none) J rfl q
  | brk =>
    obtain ⟨_, _, _, q⟩ := hs
    exact False.elim q
  | cont =>
    obtain ⟨_, _, _, q⟩ := hs
    exact False.elim q
def spH (K : Frag) (F : Nat → Option Ret) : Sp := fun vs H Q _ => ∃ a t C ob u r, vs = [.ref a] ∧ PySem.W.nsIn K mainGlobals (xName t) = some (some (.ref C)) ∧ H a = some (.frz ob u) ∧ ob.cls = .ref C ∧ F t = some r ∧ ∀ v H', Same H H' → RetOk K H H' v r → Q v H'
theorem argsE_get {n t i : Nat} {s : Sl} (e : (argsE n t)[i]? = some s) : (i = 0 ∧ s = .exc t) ∨ s = .no := by
  cases i with
  | zero => exact .inl ⟨rfl, by simpa [argsE] using e.symm⟩
  | succ i =>
    refine .inr ?_
    simp only [argsE, List.getElem?_cons_succ, List.getElem?_replicate] at e
    split at e
    · cases e; rfl
    · cases e
theorem ok_startE {K : Frag} {H : Hp} {N : List Str} {a C : Addr} {t : Nat} {ob : Obj} {u : HO} (h1 : PySem.W.nsIn K mainGlobals (xName t) = some (some (.ref C))) (h2 : H a = some (.frz ob u)) (h3 : ob.cls = .ref C) :
    Ok K H H none0 (L2.start N [.ref a]) (argsE N.length t) [] := by
  refine ⟨Same.refl _, (fun i l a hi _ => by rcases argsE_get hi with ⟨_, h⟩ | h <;> cases h), fun _ z => z.elim, by simp [L2.start, argsE], fun i s e => ?_, fun i j a _ ⟨l, hi⟩ _ _ _ => ?_, (fun p hp => by cases hp)⟩
  · rcases argsE_get e with ⟨rfl, rfl⟩ | rfl
    · exact ⟨C, ob, u, h1, h2, h3⟩
    · exact slOk_no
  · rcases argsE_get hi with ⟨_, h⟩ | h <;> cases h
theorem fun_okH {P : Program} {w : World} {K : Frag} {mg : Str → Option Value} {base : Heap} {x qual y : Str} {st : Stmt} {f : Addr} {fd : FuncData} {N : List Str} {k : Nat} {g : FS} (Fn : Fun K x qual st f fd) (S : FnScope N [y] (defScope st))
    (hbody : ∀ (cdv : Value) (A : Around) (outer : List Env) (s : Shared) (H : Hp) (E : XK), PSsv (uncalm (cxOf CX0 P w K mg base N qual (defScope st) f cdv A outer s H E)) (defBody st) g) :
    FnOkH P w K mg base (k + 1) f fd [y] (spH K (runH g N.length)) := by
  refine fnH_of Fn S (fun vs H Q E h => ?_) fun cdv A outer s H vs Q E h => ?_
  · obtain ⟨a, t, C, ob, u, r, rfl, _⟩ := h; rfl
  · obtain ⟨a, t, C, ob, u, r, rfl, h1, h2, h3, e, q⟩ := h
    obtain ⟨tt, ht, hf⟩ := hbody cdv A outer s H E
    refine ⟨tt, ht, ?_⟩
    unfold runH at e
    cases hg : g (argsE N.length t) with
    | none => rw [hg] at e; cases e
    | some o1 =>
      rw [hg] at e
      cases o1 with
      | rt r' =>
        cases e
        exact hf H H none0 _ _ [] _ _ (ok_startE (N := N) h1 h2 h3) hg (fun v H' s r _ => q v H' s r)
      | nx ds => cases e
      | bk ds => cases e
      | ct ds => cases e
structure CalH (P : Program) (w : World) (K : Frag) (mg : Str → Option Value) (base : Heap) (x : Str) (k : Nat) (F : Nat → Option Ret) : Prop where
  ex : ∃ (f : Addr) (fd : FuncData) (ps : List Str), FnOkH P w K mg base k f fd ps (spH K F) ∧ Binds K fd ps [] ∧ PySem.W.keepIn K (.ref f) = true ∧ mg x = some (.ref f)
section
variable {X : Cx} {k j i : Nat} {F : Nat → Option Ret} {x en : Str} {p pe pos : Pos}
theorem pe_callH {f : Addr} {fd : FuncData} {ps : List Str} {sp : Sp} {e : Expr} {es : List Expr} {t : TA} (Fn : FnOkH X.prog X.w X.K X.mg X.base k f fd ps sp) (hr : RoomH k X.A) (hg : Gl X x) (hm : X.mg x = some (.ref f)) (hk : PySem.W.keepIn X.K (.ref f) = true) (hb : Binds X.K fd ps [])
    (ha : PA X (e :: es) t) (hdb : (x == ("__debug__" : Str)) = false) (he : starEach (e :: es) X.env = (false, eval e X.env) :: starEach es X.env) (hpl : (backTo pos (starEach es X.env)).any (·.1) = false) :
    PE X (.Call (.Name x p) (e :: es) [] pos) (fun σ H Q => t σ H fun vs H1 => sp vs H1 Q E0) := by
  intro pins s σ H Q I h
  refine wpAny_Call_Name_kw (ld_glob I hg hm ?_ hdb)
  refine PySem.W.callWith_K (h₀ := X.base) I.ok.mod.kin hk (thn (ha pos pins s σ H _ I h) fun us s1 ⟨vs, H1, I1, r, q⟩ => ⟨I1.kIn, ?_⟩) he hpl
  have hl : us.length = ps.length := by rw [← r.length]; exact Fn.len _ _ _ _ q
  have bd := hb s1 us I1.kIn (by rw [List.append_nil]; exact hl)
  rw [List.append_nil] at bd
  refine wpAny_call (codeAny_mono (Fn.run X.A X.stack s1 H1 ⟨us, []⟩ us vs Q E0 hr I1.env0 bd r q) fun r s' hq => ?_)
  cases r with
  | error e => exact hq.elim
  | ok fl =>
    cases fl with
    | ret u => exact I1.after hq
    | next => exact False.elim hq
    | brk => exact False.elim hq
    | cont => exact False.elim hq
theorem pvf_callH (CH : CalH X.prog X.w X.K X.mg X.base x k F) (hr : RoomH j X.A) (hj : k ≤ j := by decide) (hN : X.N[i]? = some en := by rfl) (hv : Vis X.env.scope en := by exact Or.inl rfl) (hde : (en == ("__debug__" : Str)) = false := by decide)
    (hcd : (en == ("__classdict__" : Str)) = false := by decide) (hg : Gl X x := by rfl) (hdb : (x == ("__debug__" : Str)) = false := by decide) (he : starEach [.Name en pe] X.env = (false, eval (.Name en pe) X.env) :: starEach [] X.env := by rfl) :
    PVf X (.Call (.Name x p) [.Name en pe] [] pos) (callHF i F) := by
  obtain ⟨f, fd, ps, Fn, hb, hk, hm⟩ := CH.ex
  refine ⟨_, pe_callH Fn (hr.mono hj) hg hm hk hb (pa_cons (pe_var hN hv hde hcd) pa_nil he) hdb he rfl, fun H₀ H O σ ds hd d Q o e q => ?_⟩
  unfold callHF at e
  cases hs : ds[i]? with
  | none => rw [hs] at e; cases e
  | some sl =>
    rw [hs] at e
    cases sl with
    | exc t =>
      simp only at e
      cases h2 : F t with
      | none => rw [h2] at e; cases e
      | some r =>
        rw [h2] at e
        simp only [Option.bind_some] at e
        obtain ⟨a, C, ob, u, q1, q2, q3, q4⟩ := o.readX hs
        refine ⟨.ref a, q1, a, t, C, ob, u, r, rfl, q2, q3, q4, h2, fun v H' s' ro => ?_⟩
        obtain ⟨a, xs, rfl, h3, h4, h5⟩ := retF_ok ro e fun a ha => o.old ha
        exact q a xs H' s' h3 h4 h5
    | no => cases e
    | v d => cases e
    | own l => cases e
    | fr l => cases e
end
theorem isx_nil {K : Frag} {cv : Value} : IsxOk K cv [] := fun t b e => by cases e
theorem isx_cons {K : Frag} {cv : Value} {t : Nat} {b : Bool} {C : Addr} {tb : List (Nat × Bool)} (n : PySem.W.nsIn K mainGlobals (xName t) = some (some (.ref C))) (x : XIn K C) (k : PySem.W.kitOne K (.ref C) cv = some b) (r : IsxOk K cv tb) : IsxOk K cv ((t, b) :: tb) := fun t' b' e C' n' => by
  by_cases h : t' = t
  · subst h
    simp [List.lookup] at e
    subst e
    rw [n] at n'
    cases n'
    exact ⟨x, k⟩
  · have hf : (t' == t) = false := beq_eq_false_iff_ne.mpr h
    simp only [List.lookup, hf] at e
    exact r t' b' e C' n'
end FL

/-! ### the functions of the slots, made to be reckoned by simp -/
namespace FL
open PySem PySem.Spec PyProof.Rows L2
def oi : Option Int → D
  | none => .non
  | some i => .int i
@[simp] theorem oi_none : oi none = .non := rfl
@[simp] theorem oi_some (i : Int) : oi (some i) = .int i := rfl
def andK (r : Option D) : D → Option D := fun d => match d with | .bl true => r | .bl false => some (.bl false) | _ => none
def orK (r : Option D) : D → Option D := fun d => match d with | .bl true => some (.bl true) | .bl false => r | _ => none
@[simp] theorem andK_bl (r : Option D) (b : Bool) : andK r (.bl b) = if b = true then r else some (.bl false) := by cases b <;> rfl
@[simp] theorem orK_bl (r : Option D) (b : Bool) : orK r (.bl b) = if b = true then some (.bl true) else r := by cases b <;> rfl
@[simp] theorem ite_andD (b c : Bool) : (if b = true then some (D.bl c) else some (D.bl false)) = some (.bl (b && c)) := by cases b <;> rfl
@[simp] theorem ite_orD (b c : Bool) : (if b = true then some (D.bl true) else some (D.bl c)) = some (.bl (b || c)) := by cases b <;> rfl
@[simp] theorem ite_andB (b c : Bool) : (if b = true then some c else some false) = some (b && c) := by cases b <;> rfl
@[simp] theorem ite_orB (b c : Bool) : (if b = true then some true else some c) = some (b || c) := by cases b <;> rfl
@[simp] theorem ite_andD' (p : Prop) [Decidable p] (c : Bool) : (if p then some (D.bl c) else some (D.bl false)) = some (.bl (decide p && c)) := by by_cases h : p <;> simp [h]
@[simp] theorem ite_orD' (p : Prop) [Decidable p] (c : Bool) : (if p then some (D.bl true) else some (D.bl c)) = some (.bl (decide p || c)) := by by_cases h : p <;> simp [h]
@[simp] theorem ite_andB' (p : Prop) [Decidable p] (c : Bool) : (if p then some c else some false) = some (decide p && c) := by by_cases h : p <;> simp [h]
@[simp] theorem ite_orB' (p : Prop) [Decidable p] (c : Bool) : (if p then some true else some c) = some (decide p || c) := by by_cases h : p <;> simp [h]
@[simp] theorem szl : sizeLine = 16777216 := sizeLine_eq
section
variable (ds : List Sl)
@[simp] theorem getV_eq (i : Nat) : getV i ds = match ds[i]? with | some (.v d) => some d | _ => none := rfl
@[simp] theorem getW_eq (i : Nat) : getW i ds = match ds[i]? with | some (.v d) => some d | some (.own l) => some (.lst l) | _ => none := rfl
@[simp] theorem konst_eq (d : D) : konst d ds = some d := rfl
@[simp] theorem bin2_eq (op : D → D → Option D) (fa fb : FE) : bin2 op fa fb ds = (fa ds).bind fun x => (fb ds).bind fun y => op x y := rfl
@[simp] theorem un1_eq (op : D → Option D) (f : FE) : un1 op f ds = (f ds).bind op := rfl
@[simp] theorem callB_eq (F : List D → Option D) (g : FA) : callB F g ds = (g ds).bind F := rfl
@[simp] theorem callV_eq (n : Nat) (F : List D → Option Ret) (g : FA) : callV n F g ds = (g ds).bind fun l => if l.length = n then (F l).bind retV else none := rfl
@[simp] theorem callF_eq (n : Nat) (F : List D → Option Ret) (g : FA) : callF n F g ds = (g ds).bind fun l => if l.length = n then (F l).bind retF else none := rfl
@[simp] theorem retV_val (d : D) : retV (.val d) = some d := rfl
@[simp] theorem retV_fresh (l : List D) : retV (.fresh l) = some (.lst l) := rfl
@[simp] theorem retF_val (d : D) : retF (.val d) = none := rfl
@[simp] theorem retF_fresh (l : List D) : retF (.fresh l) = some l := rfl
@[simp] theorem consA_eq (f : FE) (g : FA) : consA f g ds = (f ds).bind fun x => (g ds).map fun r => x :: r := rfl
@[simp] theorem nilA_eq : nilA ds = some [] := rfl
@[simp] theorem sized_eq (f : FA) : sized f ds = (f ds).bind fun l => if l.length ≤ sizeLine then some l else none := rfl
@[simp] theorem mkL_eq (f : FA) : mkL f ds = (f ds).map D.lst := rfl
@[simp] theorem mkT_eq (f : FA) : mkT f ds = (f ds).map D.tup := rfl
@[simp] theorem testB_eq (f : FE) : testB f ds = (f ds).bind isB := rfl
@[simp] theorem testT_eq (f : FE) : testT f ds = (f ds).bind truD := rfl
@[simp] theorem isB_bl (b : Bool) : isB (.bl b) = some b := rfl
@[simp] theorem andT_eq (c d : FT) : andT c d ds = (c ds).bind fun b => if b = true then d ds else some false := rfl
@[simp] theorem orT_eq (c d : FT) : orT c d ds = (c ds).bind fun b => if b = true then some true else d ds := rfl
@[simp] theorem notT_eq (c : FT) : notT c ds = (c ds).map not := rfl
@[simp] theorem andV_eq (f g : FE) : andV f g ds = (f ds).bind (andK (g ds)) := rfl
@[simp] theorem orV_eq (f g : FE) : orV f g ds = (f ds).bind (orK (g ds)) := rfl
@[simp] theorem notV_eq (f : FE) : notV f ds = (f ds).bind fun d => match d with | .bl b => some (.bl (!b)) | _ => none := rfl
@[simp] theorem ifV_eq (c : FT) (f g : FE) : ifV c f g ds = (c ds).bind fun b => if b = true then f ds else g ds := rfl
@[simp] theorem seqG_eq (f g : FS) : seqG f g ds = (f ds).bind fun o => match o with | .nx ds' => g ds' | o => some o := rfl
@[simp] theorem ifG_eq (c : FT) (f g : FS) : ifG c f g ds = (c ds).bind fun b => if b = true then f ds else g ds := rfl
@[simp] theorem setG_eq (i : Nat) (f : FE) : setG i f ds = (f ds).map fun d => .nx (ds.set i (.v d)) := rfl
@[simp] theorem setOG_eq (i : Nat) (f : FA) : setOG i f ds = (f ds).map fun l => .nx (ds.set i (.own l)) := rfl
@[simp] theorem retG_eq (f : FE) : retG f ds = (f ds).bind flatR := rfl
@[simp] theorem retOG_eq (f : FA) : retOG f ds = (f ds).bind flatF := rfl
@[simp] theorem retXG_eq (i : Nat) : retXG i ds = match ds[i]? with | some (.own l) => flatF l | _ => none := rfl
@[simp] theorem nextG_eq : nextG ds = some (.nx ds) := rfl
@[simp] theorem appG_eq (i : Nat) (fe : FE) : appG i fe ds = match ds[i]? with
  | some (.own l) => (fe ds).bind fun d => if l.length < sizeLine then some (.nx (ds.set i (.own (l ++ [d])))) else none
  | _ => none := rfl
@[simp] theorem extG_eq (i : Nat) (fe : FA) : extG i fe ds = match ds[i]? with
  | some (.own l) => (fe ds).bind fun d => if l.length + d.length ≤ sizeLine then some (.nx (ds.set i (.own (l ++ d)))) else none
  | _ => none := rfl
@[simp] theorem putG_eq (i : Nat) (fk fe : FE) : putG i fk fe ds = match ds[i]? with
  | some (.own l) => (fe ds).bind fun d => (fk ds).bind fun k => match k with
    | .int n => (ixN l.length n).map fun j => .nx (ds.set i (.own (l.set j d)))
    | _ => none
  | _ => none := rfl
@[simp] theorem clrG_eq (i : Nat) : clrG i ds = match ds[i]? with
  | some (.own l) => some (.nx (ds.set i (.own [])))
  | _ => none := rfl
@[simp] theorem asgG_eq (ga : D → List Sl → Option (List Sl)) (f : FE) : asgG ga f ds = (f ds).bind fun d => (ga d ds).map .nx := rfl
@[simp] theorem relS_eq (i : Nat) : relS i ds = match ds[i]? with | some (.own l) => ds.set i (.v (.lst l)) | _ => ds := rfl
@[simp] theorem viaA_eq (f : FE) (k : D → Option (List D)) : viaA f k ds = (f ds).bind k := rfl
@[simp] theorem asLT_lst (l : List D) : asLT (.lst l) = some l := rfl
@[simp] theorem asLT_tup (l : List D) : asLT (.tup l) = some l := rfl
@[simp] theorem catA_eq (fa fb : FE) : catA fa fb ds = (fa ds).bind fun x => (fb ds).bind fun y => match x, y with
  | .lst a, .lst b => if a.length + b.length ≤ sizeLine then some (a ++ b) else none
  | _, _ => none := rfl
@[simp] theorem sliA_eq (f : FE) (lo hi : List Sl → Option (Option Int)) : sliA f lo hi ds = (f ds).bind fun d => (lo ds).bind fun a => (hi ds).bind fun b => match d with
  | .lst l => some (cutD l a b)
  | _ => none := rfl
@[simp] theorem lisA_eq (f : FE) : lisA f ds = (f ds).bind asLT := rfl
@[simp] theorem noP_eq : noP ds = some none := rfl
@[simp] theorem soP_eq (f : FE) : soP f ds = (f ds).bind fun d => match d with | .int i => some (some i) | _ => none := rfl
@[simp] theorem forG_eq (fi : FA) (ga : D → List Sl → Option (List Sl)) (body : FS) : forG fi ga body ds = (fi ds).bind fun items => loopG ga body items ds := rfl
@[simp] theorem nameG_eq (i : Nat) (d : D) : nameG i d ds = some (ds.set i (.v d)) := rfl
@[simp] theorem tupG_eq (n : Nat) (h : List D → List Sl → Option (List Sl)) (l : List D) : tupG n h (.tup l) ds = if l.length = n then h l ds else none := rfl
@[simp] theorem tgCons_eq (g : D → List Sl → Option (List Sl)) (h : List D → List Sl → Option (List Sl)) (d : D) (r : List D) : tgCons g h (d :: r) ds = (g d ds).bind fun ds' => h r ds' := rfl
@[simp] theorem tgNil_eq : tgNil [] ds = some ds := rfl
@[simp] theorem isiG_eq (T : String) (f : FE) : isiG T f ds = (f ds).bind (isiD T) := rfl
@[simp] theorem chain_eq (op op' : D → D → Option D) (fa fb fc : FE) : chain op op' fa fb fc ds = (fa ds).bind fun x => (fb ds).bind fun y => (op x y).bind fun z => match z with
  | .bl true => (fc ds).bind fun w => op' y w
  | .bl false => some (.bl false)
  | _ => none := rfl
end
/-! the operations -/
@[simp] theorem addD_int (i j : Int) : addD (.int i) (.int j) = some (.int (i + j)) := rfl
@[simp] theorem subD_int (i j : Int) : subD (.int i) (.int j) = some (.int (i - j)) := rfl
@[simp] theorem negD_int (i : Int) : negD (.int i) = some (.int (-i)) := rfl
@[simp] theorem ltD_int (i j : Int) : ltD (.int i) (.int j) = some (.bl (decide (i < j))) := rfl
@[simp] theorem leD_int (i j : Int) : leD (.int i) (.int j) = some (.bl (decide (i ≤ j))) := rfl
@[simp] theorem gtD_int (i j : Int) : gtD (.int i) (.int j) = some (.bl (decide (j < i))) := rfl
@[simp] theorem geD_int (i j : Int) : geD (.int i) (.int j) = some (.bl (decide (j ≤ i))) := rfl
@[simp] theorem modD_pos {j : Int} (i : Int) (h : 0 < j) : modD (.int i) (.int j) = some (.int (i % j)) := if_pos h
theorem divOk_small {j : Int} (h : 0 < j) (h2 : j < 1000000000) : divOk j := ⟨h, by
  have h3 : j.natAbs < 2 ^ 30 := by
    have : (2 : Nat) ^ 30 = 1073741824 := by decide
    omega
  have h4 : j.natAbs ≠ 0 := by omega
  have := (Nat.log2_lt h4).mpr h3
  omega⟩
@[simp] theorem fdivD_small {j : Int} (i : Int) (h : 0 < j) (h2 : j < 1000000000) : fdivD (.int i) (.int j) = some (.int (i / j)) := if_pos (divOk_small h h2)
theorem powD_ok {i j : Int} (h : CPowB i j) : powD (.int i) (.int j) = some (.int (i ^ j.toNat)) := if_pos h
theorem cpow_of {i j : Int} {n m : Nat} (h : i.natAbs < 2 ^ n) (h0 : 0 ≤ j) (h1 : j ≤ m) (h2 : n * m ≤ 134217728) : CPowB i j := by
  refine ⟨h0, ?_⟩
  have hb : Builtin.Int.intBits i ≤ n := intBits_le_iff.mpr h
  have h3 : (Builtin.Int.intBits i : Int) * j ≤ (n : Int) * (m : Int) := Int.mul_le_mul (by omega) h1 h0 (by omega)
  have h4 : ((n * m : Nat) : Int) ≤ 134217728 := by omega
  have e : ((n * m : Nat) : Int) = (n : Int) * (m : Int) := Int.natCast_mul n m
  have e2 : (2 : Int) ^ 27 = 134217728 := by decide
  rw [e2]
  omega
@[simp] theorem pow10 {j : Int} (h0 : 0 ≤ j) (h1 : j ≤ 1000) : powD (.int 10) (.int j) = some (.int (10 ^ j.toNat)) := powD_ok (cpow_of (n := 4) (m := 1000) (by decide) h0 h1 (by decide))
@[simp] theorem mxD_int (i j : Int) : mxD [.int i, .int j] = some (.int (max i j)) := by
  show some (D.int (if j > i then j else i)) = _
  congr 2
  split <;> omega
@[simp] theorem mnD_int (i j : Int) : mnD [.int i, .int j] = some (.int (min i j)) := by
  show some (D.int (if j < i then j else i)) = _
  congr 2
  split <;> omega
@[simp] theorem lenD_lst (l : List D) : lenD [.lst l] = some (.int l.length) := rfl
@[simp] theorem lenD_tup (l : List D) : lenD [.tup l] = some (.int l.length) := rfl
@[simp] theorem isD_non : isD .non .non = some (.bl true) := rfl
@[simp] theorem isD_int (i : Int) : isD (.int i) .non = some (.bl false) := rfl
@[simp] theorem isD_bl (i : Bool) : isD (.bl i) .non = some (.bl false) := rfl
@[simp] theorem isD_tup (i : List D) : isD (.tup i) .non = some (.bl false) := rfl
@[simp] theorem isD_lst (i : List D) : isD (.lst i) .non = some (.bl false) := rfl
@[simp] theorem isD_oi (o : Option Int) : isD (oi o) .non = some (.bl o.isNone) := by cases o <;> rfl
@[simp] theorem notD_non : notD .non .non = some (.bl false) := rfl
@[simp] theorem notD_int (i : Int) : notD (.int i) .non = some (.bl true) := rfl
@[simp] theorem notD_bl (i : Bool) : notD (.bl i) .non = some (.bl true) := rfl
@[simp] theorem notD_tup (i : List D) : notD (.tup i) .non = some (.bl true) := rfl
@[simp] theorem notD_lst (i : List D) : notD (.lst i) .non = some (.bl true) := rfl
@[simp] theorem notD_oi (o : Option Int) : notD (oi o) .non = some (.bl o.isSome) := by cases o <;> rfl
@[simp] theorem truD_bl (b : Bool) : truD (.bl b) = some b := rfl
@[simp] theorem truD_non : truD .non = some false := rfl
@[simp] theorem truD_lst (l : List D) : truD (.lst l) = some (!l.isEmpty) := rfl
@[simp] theorem truD_tup (l : List D) : truD (.tup l) = some (!l.isEmpty) := rfl
theorem ixN_pos {n : Nat} {i : Int} (h : 0 ≤ i) (h2 : i < n) : ixN n i = some i.toNat := by
  unfold ixN
  rw [if_pos h, if_pos h2]
theorem ixL_pos (l : List D) {i : Int} (h : 0 ≤ i) (h2 : i < l.length) : ixD (.lst l) (.int i) = l[i.toNat]? := by
  show atI l i = _
  unfold atI
  rw [ixN_pos h h2]
  rfl
theorem ixT_pos (l : List D) {i : Int} (h : 0 ≤ i) (h2 : i < l.length) : ixD (.tup l) (.int i) = l[i.toNat]? := by
  show atI l i = _
  unfold atI
  rw [ixN_pos h h2]
  rfl
@[simp] theorem ixT0 (a : D) (l : List D) : ixD (.tup (a :: l)) (.int 0) = some a := by
  rw [ixT_pos _ (by decide) (by rw [List.length_cons]; omega)]
  rfl
@[simp] theorem ixT1 (a b : D) (l : List D) : ixD (.tup (a :: b :: l)) (.int 1) = some b := by
  rw [ixT_pos _ (by decide) (by rw [List.length_cons, List.length_cons]; omega)]
  rfl
@[simp] theorem ixT2 (a b c : D) (l : List D) : ixD (.tup (a :: b :: c :: l)) (.int 2) = some c := by
  rw [ixT_pos _ (by decide) (by rw [List.length_cons, List.length_cons, List.length_cons]; omega)]
  rfl
@[simp] theorem ixL0 (a : D) (l : List D) : ixD (.lst (a :: l)) (.int 0) = some a := by
  rw [ixL_pos _ (by decide) (by rw [List.length_cons]; omega)]
  rfl
@[simp] theorem ixL1 (a b : D) (l : List D) : ixD (.lst (a :: b :: l)) (.int 1) = some b := by
  rw [ixL_pos _ (by decide) (by rw [List.length_cons, List.length_cons]; omega)]
  rfl
@[simp] theorem flat_non : flat .non = true := by simp [flat]
@[simp] theorem flat_bl (b : Bool) : flat (.bl b) = true := by simp [flat]
@[simp] theorem flat_int (i : Int) : flat (.int i) = true := by simp [flat]
@[simp] theorem flat_str (i : Str) : flat (.str i) = true := by simp [flat]
@[simp] theorem flat_tup (l : List D) : flat (.tup l) = flats l := by simp [flat]
@[simp] theorem flats_nil : flats [] = true := by simp [flats]
@[simp] theorem flats_cons (d : D) (l : List D) : flats (d :: l) = (flat d && flats l) := by simp [flats]
@[simp] theorem flat_oi (o : Option Int) : flat (oi o) = true := by cases o <;> simp
theorem flatR_of {d : D} (h : flat d = true) : flatR d = some (.rt (.val d)) := if_pos h
@[simp] theorem flatR_non : flatR .non = some (.rt (.val .non)) := flatR_of (by simp)
@[simp] theorem flatR_bl (b : Bool) : flatR (.bl b) = some (.rt (.val (.bl b))) := flatR_of (by simp)
@[simp] theorem flatR_int (i : Int) : flatR (.int i) = some (.rt (.val (.int i))) := flatR_of (by simp)
@[simp] theorem flatR_str (i : Str) : flatR (.str i) = some (.rt (.val (.str i))) := flatR_of (by simp)
@[simp] theorem flatR_oi (o : Option Int) : flatR (oi o) = some (.rt (.val (oi o))) := flatR_of (by simp)
@[simp] theorem flatR_tup (l : List D) (h : flats l = true) : flatR (.tup l) = some (.rt (.val (.tup l))) := flatR_of (by simpa using h)
@[simp] theorem flatF_of (l : List D) (h : flats l = true) : flatF l = some (.rt (.fresh l)) := if_pos h
/-! == -/
@[simp] theorem shal_int (n : Nat) (i : Int) : shal n (.int i) = true := by simp [shal]
@[simp] theorem shal_non (n : Nat) : shal n .non = true := by simp [shal]
@[simp] theorem shal_bl (n : Nat) (b : Bool) : shal n (.bl b) = true := by simp [shal]
@[simp] theorem shal_oi (n : Nat) (o : Option Int) : shal n (oi o) = true := by cases o <;> simp
@[simp] theorem shal_tup (n : Nat) (l : List D) : shal n (.tup l) = shals n l := by simp [shal]
@[simp] theorem shal_lst (n : Nat) (l : List D) : shal n (.lst l) = shals n l := by simp [shal]
@[simp] theorem shals_nil (n : Nat) : shals n [] = true := by cases n <;> simp [shals]
@[simp] theorem shals_cons (n : Nat) (d : D) (l : List D) : shals (n + 1) (d :: l) = (shal n d && shals (n + 1) l) := by simp [shals]
theorem eqD_ok {x y : D} (h : shal 40 x = true) (h2 : shal 40 y = true) : eqD x y = some (.bl (eqvD x y)) := if_pos ⟨h, h2⟩
theorem neD_ok {x y : D} (h : shal 40 x = true) (h2 : shal 40 y = true) : neD x y = some (.bl (!eqvD x y)) := if_pos ⟨h, h2⟩
@[simp] theorem eqvD_int (i j : Int) : eqvD (.int i) (.int j) = decide (i = j) := by
  show (i == j) = _
  rw [Bool.eq_iff_iff]; simp
@[simp] theorem eqvD_bl (i j : Bool) : eqvD (.bl i) (.bl j) = decide (i = j) := by
  show (i == j) = _
  rw [Bool.eq_iff_iff]; simp
@[simp] theorem eqvD_non : eqvD .non .non = true := rfl
@[simp] theorem eqvD_non_int (j : Int) : eqvD .non (.int j) = false := rfl
@[simp] theorem eqvD_int_non (j : Int) : eqvD (.int j) .non = false := rfl
@[simp] theorem eqvD_oi (o p : Option Int) : eqvD (oi o) (oi p) = decide (o = p) := by cases o <;> cases p <;> simp
@[simp] theorem eqvD_tup (a b : List D) : eqvD (.tup a) (.tup b) = eqvs a b := by simp [eqvD, eqvs, toPy, PyData.eqv]
@[simp] theorem eqvD_lst (a b : List D) : eqvD (.lst a) (.lst b) = eqvs a b := by simp [eqvD, eqvs, toPy, PyData.eqv]
@[simp] theorem eqvs_nil : eqvs [] [] = true := by simp [eqvs, toPys, PyData.eqvAll]
@[simp] theorem eqvs_cons (x y : D) (a b : List D) : eqvs (x :: a) (y :: b) = (eqvD x y && eqvs a b) := by simp [eqvs, eqvD, toPys, PyData.eqvAll]
@[simp] theorem eqvs_nil_cons (y : D) (b : List D) : eqvs [] (y :: b) = false := by simp [eqvs, toPys, PyData.eqvAll]
@[simp] theorem eqvs_cons_nil (y : D) (b : List D) : eqvs (y :: b) [] = false := by simp [eqvs, toPys, PyData.eqvAll]
@[simp] theorem eqD_int (i j : Int) : eqD (.int i) (.int j) = some (.bl (decide (i = j))) := by rw [eqD_ok (by simp) (by simp)]; simp
@[simp] theorem neD_int (i j : Int) : neD (.int i) (.int j) = some (.bl (!decide (i = j))) := by rw [neD_ok (by simp) (by simp)]; simp
@[simp] theorem eqD_bl (i j : Bool) : eqD (.bl i) (.bl j) = some (.bl (decide (i = j))) := by rw [eqD_ok (by simp) (by simp)]; simp
@[simp] theorem neD_bl (i j : Bool) : neD (.bl i) (.bl j) = some (.bl (!decide (i = j))) := by rw [neD_ok (by simp) (by simp)]; simp
@[simp] theorem eqD_oi (i j : Option Int) : eqD (oi i) (oi j) = some (.bl (decide (i = j))) := by rw [eqD_ok (by simp) (by simp)]; simp
@[simp] theorem neD_oi (i j : Option Int) : neD (oi i) (oi j) = some (.bl (!decide (i = j))) := by rw [neD_ok (by simp) (by simp)]; simp
theorem ix_ints (l : List Int) {i : Int} (h : 0 ≤ i) (h2 : i < l.length) : ∃ v, v ∈ l ∧ ixD (.lst (l.map D.int)) (.int i) = some (.int v) := by
  have h3 : i.toNat < l.length := by omega
  refine ⟨l[i.toNat], List.getElem_mem h3, ?_⟩
  rw [ixL_pos _ h (by simpa using h2)]
  simp [h3]
/-! kinds -/
theorem kits : kitF "int" "int" = some true ∧ kitF "NoneType" "int" = some false ∧ kitF "bool" "int" = some true ∧ kitF "tuple" "int" = some false ∧ kitF "list" "int" = some false ∧ kitF "str" "int" = some false ∧
    kitF "bool" "bool" = some true ∧ kitF "int" "bool" = some false ∧ kitF "NoneType" "bool" = some false ∧ kitF "tuple" "tuple" = some true ∧ kitF "list" "tuple" = some false ∧ kitF "NoneType" "tuple" = some false ∧
    kitF "list" "list" = some true ∧ kitF "tuple" "list" = some false ∧ kitF "NoneType" "list" = some false := by
  refine ⟨?_, ?_, ?_, ?_, ?_, ?_, ?_, ?_, ?_, ?_, ?_, ?_, ?_, ?_, ?_⟩ <;> decide +kernel
@[simp] theorem isi_int_int (i : Int) : isiD "int" (.int i) = some (.bl true) := by simp [isiD, tyD, kits.1]
@[simp] theorem isi_int_non : isiD "int" .non = some (.bl false) := by simp [isiD, tyD, kits.2.1]
@[simp] theorem isi_int_bl (b : Bool) : isiD "int" (.bl b) = some (.bl true) := by simp [isiD, tyD, kits.2.2.1]
@[simp] theorem isi_bool_bl (b : Bool) : isiD "bool" (.bl b) = some (.bl true) := by simp [isiD, tyD, kits.2.2.2.2.2.2.1]
@[simp] theorem isi_bool_int (i : Int) : isiD "bool" (.int i) = some (.bl false) := by simp [isiD, tyD, kits.2.2.2.2.2.2.2.1]
@[simp] theorem isi_bool_non : isiD "bool" .non = some (.bl false) := by simp [isiD, tyD, kits.2.2.2.2.2.2.2.2.1]
@[simp] theorem isi_tup_tup (l : List D) : isiD "tuple" (.tup l) = some (.bl true) := by simp [isiD, tyD, kits.2.2.2.2.2.2.2.2.2.1]
@[simp] theorem isi_lst_lst (l : List D) : isiD "list" (.lst l) = some (.bl true) := by simp [isiD, tyD, kits.2.2.2.2.2.2.2.2.2.2.2.2.1]
/-! ways that meet again -/
@[simp] theorem bind_ite {α β : Type} {c : Prop} [Decidable c] (a b : Option α) (f : α → Option β) : (if c then a else b).bind f = if c then a.bind f else b.bind f := by split <;> rfl
@[simp] theorem map_ite {α β : Type} {c : Prop} [Decidable c] (a b : Option α) (f : α → β) : (if c then a else b).map f = if c then a.map f else b.map f := by split <;> rfl
/-! loops -/
theorem blsD_map : ∀ bs : List Bool, blsD (bs.map D.bl) = some bs
  | [] => rfl
  | b :: r => by simp [blsD, blsD_map r]
@[simp] theorem allD_bls (bs : List Bool) : allD [.lst (bs.map D.bl)] = some (.bl (bs.all id)) := by simp [allD, blsD_map]
@[simp] theorem anyD_bls (bs : List Bool) : anyD [.lst (bs.map D.bl)] = some (.bl (bs.any id)) := by simp [anyD, blsD_map]
@[simp] theorem ixL2 (a b c : D) (l : List D) : ixD (.lst (a :: b :: c :: l)) (.int 2) = some c := by
  rw [ixL_pos _ (by decide) (by rw [List.length_cons, List.length_cons, List.length_cons]; omega)]
  rfl
@[simp] theorem ixL3 (a b c d : D) (l : List D) : ixD (.lst (a :: b :: c :: d :: l)) (.int 3) = some d := by
  rw [ixL_pos _ (by decide) (by rw [List.length_cons, List.length_cons, List.length_cons, List.length_cons]; omega)]
  rfl
@[simp] theorem rng3_eq (fa fb fc : FE) (ds : List Sl) : rng3 fa fb fc ds = (fa ds).bind fun x => (fb ds).bind fun y => (fc ds).bind fun z => match x, y, z with
  | .int i, .int j, .int c => if okR3 i j c then some (range3D i c (steps3 i j c)) else none
  | _, _, _ => none := rfl
@[simp] theorem rng2_eq (fa fb : FE) (ds : List Sl) : rng2 fa fb ds = (fa ds).bind fun x => (fb ds).bind fun y => match x, y with
  | .int i, .int j => if okR i ∧ okR j then some (rangeD i (j - i).toNat) else none
  | _, _ => none := rfl
@[simp] theorem rng1_eq (f : FE) (ds : List Sl) : rng1 f ds = (f ds).bind fun d => match d with | .int j => if okR j then some (rangeD 0 j.toNat) else none | _ => none := rfl
theorem okR_small {j : Int} (h : -1000000000 ≤ j) (h2 : j ≤ 1000000000) : okR j := ⟨Int.le_trans (by decide) h, Int.lt_of_le_of_lt h2 (by decide)⟩
theorem okR3_small {i j c : Int} (h : -1000000000 ≤ i) (h2 : i ≤ 1000000000) (h3 : -1000000000 ≤ j) (h4 : j ≤ 1000000000) (h5 : 0 < c) (h6 : c < 1000000) : okR3 i j c :=
  ⟨Int.le_trans (by decide) h, Int.lt_of_le_of_lt h2 (by decide), Int.le_trans (by decide) h3, Int.lt_of_le_of_lt h4 (by decide), h5, h6⟩
@[simp] theorem absD_int (i : Int) : absD [.int i] = some (.int (if i < 0 then -i else i)) := rfl
@[simp] theorem int1D_int (i : Int) : int1D [.int i] = some (.int i) := rfl
@[simp] theorem int1D_bl (b : Bool) : int1D [.bl b] = some (.int (if b then 1 else 0)) := rfl
@[simp] theorem augA_eq (i : Nat) (f : FE) (ds : List Sl) : augA i f ds = (getV i ds).bind fun x => (f ds).bind fun y => match x, y with
  | .int a, .int b => some (.nx (ds.set i (.v (.int (a + b)))))
  | _, _ => none := rfl
@[simp] theorem parG_eq (i j : Nat) (f : FA) (ds : List Sl) : parG i j f ds = (f ds).bind fun l => match l with
  | [a, b] => some (.nx ((ds.set i (.v a)).set j (.v b)))
  | _ => none := rfl
@[simp] theorem revA_eq (f : FE) (ds : List Sl) : revA f ds = (f ds).bind fun d => match d with
  | .lst l => some l.reverse
  | _ => none := rfl
end FL

section
open PySem PyProof.Rows L2 FL
noncomputable def GP.ends_ahead.g : FS := (retG (andV (bin2 notD (getW 0) (konst .non)) (andV (bin2 notD (getW 1) (konst .non)) (bin2 leD (getW 0) (getW 1)))))
noncomputable def GP.ends_ahead.f : List D → Option Ret := runG GP.ends_ahead.g 2

noncomputable def GP.has.g : FS := (retG (andV (orV (bin2 isD (bin2 ixD (getW 0) (konst (.int 0))) (konst .non)) (bin2 leD (bin2 ixD (getW 0) (konst (.int 0))) (getW 1))) (orV (bin2 isD (bin2 ixD (getW 0) (konst (.int 1))) (konst .non)) (bin2 ltD (getW 1) (bin2 ixD (getW 0) (konst (.int 1)))))))
noncomputable def GP.has.f : List D → Option Ret := runG GP.has.g 2

noncomputable def GP.length.g : FS := (seqG (ifG (orT (testB (bin2 isD (bin2 ixD (getW 0) (konst (.int 0))) (konst .non))) (testB (bin2 isD (bin2 ixD (getW 0) (konst (.int 1))) (konst .non)))) (retG (konst .non)) nextG)
  (retG (bin2 subD (bin2 ixD (getW 0) (konst (.int 1))) (bin2 ixD (getW 0) (konst (.int 0))))))
noncomputable def GP.length.f : List D → Option Ret := runG GP.length.g 1

noncomputable def GP.later_low.g : FS := (seqG (ifG (testB (bin2 isD (getW 0) (konst .non))) (retG (getW 1)) nextG)
  (seqG (ifG (testB (bin2 isD (getW 1) (konst .non))) (retG (getW 0)) nextG)
  (retG (callB mxD (consA (getW 0) (consA (getW 1) nilA))))))
noncomputable def GP.later_low.f : List D → Option Ret := runG GP.later_low.g 2

noncomputable def GP.earlier_behind.g : FS := (seqG (ifG (testB (bin2 isD (getW 0) (konst .non))) (retG (getW 1)) nextG)
  (seqG (ifG (testB (bin2 isD (getW 1) (konst .non))) (retG (getW 0)) nextG)
  (retG (callB mnD (consA (getW 0) (consA (getW 1) nilA))))))
noncomputable def GP.earlier_behind.f : List D → Option Ret := runG GP.earlier_behind.g 2

noncomputable def GP.meet.g : FS := (seqG (setG 2 (callV 2 GP.later_low.f (consA (bin2 ixD (getW 0) (konst (.int 0))) (consA (bin2 ixD (getW 1) (konst (.int 0))) nilA))))
  (seqG (setG 3 (callV 2 GP.earlier_behind.f (consA (bin2 ixD (getW 0) (konst (.int 1))) (consA (bin2 ixD (getW 1) (konst (.int 1))) nilA))))
  (seqG (ifG (testT (callV 2 GP.ends_ahead.f (consA (getW 3) (consA (getW 2) nilA)))) (retG (konst .non)) nextG)
  (retG (mkT (sized (consA (getV 2) (consA (getV 3) nilA))))))))
noncomputable def GP.meet.f : List D → Option Ret := runG GP.meet.g 4

noncomputable def GP.less.g : FS := (seqG (setOG 2 (sized nilA))
  (seqG (ifG (testB (bin2 notD (bin2 ixD (getW 1) (konst (.int 0))) (konst .non))) (appG 2 (callV 2 GP.meet.f (consA (getW 0) (consA (mkT (sized (consA (konst .non) (consA (bin2 ixD (getW 1) (konst (.int 0))) nilA)))) nilA)))) nextG)
  (seqG (ifG (testB (bin2 notD (bin2 ixD (getW 1) (konst (.int 1))) (konst .non))) (appG 2 (callV 2 GP.meet.f (consA (getW 0) (consA (mkT (sized (consA (bin2 ixD (getW 1) (konst (.int 1))) (consA (konst .non) nilA)))) nilA)))) nextG)
  (fun ds => (retOG (compG (viaA (getV 2) asLT) [none] (nameG 0) (testB (bin2 notD (getW 0) (konst .non))) (getV 0))) (relS 2 ds)))))
noncomputable def GP.less.f : List D → Option Ret := runG GP.less.g 3

noncomputable def GP.parted.g : FS := (retG (andV (bin2 notD (bin2 ixD (getW 0) (konst (.int 1))) (konst .non)) (andV (bin2 notD (bin2 ixD (getW 1) (konst (.int 0))) (konst .non)) (bin2 ltD (bin2 ixD (getW 0) (konst (.int 1))) (bin2 ixD (getW 1) (konst (.int 0)))))))
noncomputable def GP.parted.f : List D → Option Ret := runG GP.parted.g 2

noncomputable def GP.near.g : FS := (retG (andV (notV (callV 2 GP.parted.f (consA (getW 0) (consA (getW 1) nilA)))) (notV (callV 2 GP.parted.f (consA (getW 1) (consA (getW 0) nilA))))))
noncomputable def GP.near.f : List D → Option Ret := runG GP.near.g 2

noncomputable def GP.earlier_low.g : FS := (seqG (ifG (orT (testB (bin2 isD (getW 0) (konst .non))) (testB (bin2 isD (getW 1) (konst .non)))) (retG (konst .non)) nextG)
  (retG (callB mnD (consA (getW 0) (consA (getW 1) nilA)))))
noncomputable def GP.earlier_low.f : List D → Option Ret := runG GP.earlier_low.g 2

noncomputable def GP.later_behind.g : FS := (seqG (ifG (orT (testB (bin2 isD (getW 0) (konst .non))) (testB (bin2 isD (getW 1) (konst .non)))) (retG (konst .non)) nextG)
  (retG (callB mxD (consA (getW 0) (consA (getW 1) nilA)))))
noncomputable def GP.later_behind.f : List D → Option Ret := runG GP.later_behind.g 2

noncomputable def GP.hull.g : FS := (retG (mkT (sized (consA (callV 2 GP.earlier_low.f (consA (bin2 ixD (getW 0) (konst (.int 0))) (consA (bin2 ixD (getW 1) (konst (.int 0))) nilA))) (consA (callV 2 GP.later_behind.f (consA (bin2 ixD (getW 0) (konst (.int 1))) (consA (bin2 ixD (getW 1) (konst (.int 1))) nilA))) nilA)))))
noncomputable def GP.hull.f : List D → Option Ret := runG GP.hull.g 2

noncomputable def GP.knit.b1 : FS := (seqG (ifG (testB (bin2 isD (getW 4) (konst .non))) (fun ds => some (.ct ds)) nextG)
  (ifG (andT (testT (getW 1)) (andT (testB (bin2 eqD (bin2 ixD (bin2 ixD (getW 1) (un1 negD (konst (.int 1)))) (konst (.int 1))) (getW 2))) (testB (bin2 eqD (bin2 ixD (bin2 ixD (getW 1) (un1 negD (konst (.int 1)))) (konst (.int 2))) (getW 4))))) (putG 1 (un1 negD (konst (.int 1))) (mkT (sized (consA (bin2 ixD (bin2 ixD (getW 1) (un1 negD (konst (.int 1)))) (konst (.int 0))) (consA (getV 3) (consA (getV 4) nilA)))))) (appG 1 (mkT (sized (consA (getV 2) (consA (getV 3) (consA (getV 4) nilA))))))))
noncomputable def GP.knit.g : FS := (seqG (setOG 1 (sized nilA))
  (seqG (forG (viaA (getV 0) asLT) (tupG 3 (tgCons (nameG 2) (tgCons (nameG 3) (tgCons (nameG 4) tgNil)))) GP.knit.b1)
  (retXG 1)))
noncomputable def GP.knit.f : List D → Option Ret := runG GP.knit.g 5

noncomputable def GP.Deed___init__.i : FN := (fldN (konst .non))
noncomputable def GP.Deed___init__.f : List D → Option (List D) := runN GP.Deed___init__.i 1

noncomputable def GP.Put___init__.i : FN := (seqN (fldN (mkT (sized (consA (bin2 ixD (getW 1) (konst (.int 0))) (consA (bin2 ixD (getW 1) (konst (.int 1))) nilA)))))
  (fldN (getV 2)))
noncomputable def GP.Put___init__.f : List D → Option (List D) := runN GP.Put___init__.i 3

noncomputable def GP.Put_came.g : FS := (retG (ifV (testT (callV 2 GP.has.f (consA (fldG [(0, 0)] (getV 0)) (consA (getW 1) nilA)))) (konst .non) (getV 1)))
noncomputable def GP.Put_came.f : List D → Option Ret := runG GP.Put_came.g 2

noncomputable def GP.Put_went.g : FS := (retG (getW 1))
noncomputable def GP.Put_went.f : List D → Option Ret := runG GP.Put_went.g 2

noncomputable def GP.check_many.g : FS := (ifG (testB (bin2 ltD (getW 0) (konst (.int 0)))) (fun _ => none) nextG)
noncomputable def GP.check_many.f : List D → Option Ret := runG GP.check_many.g 1

noncomputable def GP.Widen___init__.i : FN := (seqN (dropN (callV 1 GP.check_many.f (consA (getW 2) nilA)))
  (seqN (supN GP.Deed___init__.f)
  (seqN (fldN (getV 1))
  (fldN (getV 2)))))
noncomputable def GP.Widen___init__.f : List D → Option (List D) := runN GP.Widen___init__.i 3

noncomputable def GP.taken_out.g : FS := (seqG (ifG (testB (bin2 ltD (getW 0) (getW 1))) (retG (getW 0)) nextG)
  (retG (ifV (testB (bin2 ltD (getW 0) (bin2 addD (getW 1) (getW 2)))) (konst .non) (bin2 subD (getW 0) (getW 2)))))
noncomputable def GP.taken_out.f : List D → Option Ret := runG GP.taken_out.g 3

noncomputable def GP.Widen_came.g : FS := (retG (callV 3 GP.taken_out.f (consA (getW 1) (consA (fldG [(1, 1), (2, 1)] (getV 0)) (consA (fldG [(1, 2), (2, 2)] (getV 0)) nilA)))))
noncomputable def GP.Widen_came.f : List D → Option Ret := runG GP.Widen_came.g 2

noncomputable def GP.opened.g : FS := (retG (ifV (testB (bin2 ltD (getW 0) (getW 1))) (getV 0) (bin2 addD (getW 0) (getW 2))))
noncomputable def GP.opened.f : List D → Option Ret := runG GP.opened.g 3

noncomputable def GP.Widen_went.g : FS := (retG (callV 3 GP.opened.f (consA (getW 1) (consA (fldG [(1, 1), (2, 1)] (getV 0)) (consA (fldG [(1, 2), (2, 2)] (getV 0)) nilA)))))
noncomputable def GP.Widen_went.f : List D → Option Ret := runG GP.Widen_went.g 2

noncomputable def GP.Narrow_came.g : FS := (retG (callV 3 GP.opened.f (consA (getW 1) (consA (fldG [(1, 1), (2, 1)] (getV 0)) (consA (fldG [(1, 2), (2, 2)] (getV 0)) nilA)))))
noncomputable def GP.Narrow_came.f : List D → Option Ret := runG GP.Narrow_came.g 2

noncomputable def GP.Narrow_went.g : FS := (retG (callV 3 GP.taken_out.f (consA (getW 1) (consA (fldG [(1, 1), (2, 1)] (getV 0)) (consA (fldG [(1, 2), (2, 2)] (getV 0)) nilA)))))
noncomputable def GP.Narrow_went.f : List D → Option Ret := runG GP.Narrow_went.g 2

noncomputable def GP.Move___init__.i : FN := (seqN (supN GP.Deed___init__.f)
  (fldN (getV 1)))
noncomputable def GP.Move___init__.f : List D → Option (List D) := runN GP.Move___init__.i 2

noncomputable def GP.Move_came.g : FS := (retG (bin2 subD (getW 1) (fldG [(3, 1)] (getV 0))))
noncomputable def GP.Move_came.f : List D → Option Ret := runG GP.Move_came.g 2

noncomputable def GP.Move_went.g : FS := (retG (bin2 addD (getW 1) (fldG [(3, 1)] (getV 0))))
noncomputable def GP.Move_went.f : List D → Option Ret := runG GP.Move_went.g 2

noncomputable def GP.check_share.g : FS := (ifG (orT (testB (bin2 ltD (getW 0) (konst (.int 1)))) (testB (bin2 gtD (getW 0) (konst (.int 1000))))) (fun _ => none) nextG)
noncomputable def GP.check_share.f : List D → Option Ret := runG GP.check_share.g 1

noncomputable def GP.Stretch___init__.i : FN := (seqN (dropN (callV 1 GP.check_share.f (consA (getW 1) nilA)))
  (seqN (dropN (callV 1 GP.check_share.f (consA (getW 2) nilA)))
  (seqN (supN GP.Deed___init__.f)
  (seqN (fldN (getV 1))
  (fldN (getV 2))))))
noncomputable def GP.Stretch___init__.f : List D → Option (List D) := runN GP.Stretch___init__.i 3

noncomputable def GP.Stretch_came.g : FS := (retG (bin2 fdivD (bin2 mulD (getW 1) (fldG [(4, 2)] (getV 0))) (fldG [(4, 1)] (getV 0))))
noncomputable def GP.Stretch_came.f : List D → Option Ret := runG GP.Stretch_came.g 2

noncomputable def GP.Stretch_least_from.g : FS := (retG (ifV (testB (bin2 isD (getW 1) (konst .non))) (konst .non) (un1 negD (bin2 fdivD (bin2 mulD (un1 negD (getV 1)) (fldG [(4, 1)] (getV 0))) (fldG [(4, 2)] (getV 0))))))
noncomputable def GP.Stretch_least_from.f : List D → Option Ret := runG GP.Stretch_least_from.g 2

noncomputable def GP.Mirror_came.g : FS := (retG (un1 negD (getV 1)))
noncomputable def GP.Mirror_came.f : List D → Option Ret := runG GP.Mirror_came.g 2

noncomputable def GP.M_least_from_cfafed : Nat → List D → Option Ret
  | 4 => GP.Stretch_least_from.f
  | _ => fun _ => none

noncomputable def GP.M_came_4e9d29 : Nat → List D → Option Ret
  | 0 => GP.Put_came.f
  | 1 => GP.Widen_came.f
  | 2 => GP.Narrow_came.f
  | 3 => GP.Move_came.f
  | 4 => GP.Stretch_came.f
  | 5 => GP.Mirror_came.f
  | _ => fun _ => none

noncomputable def GP.Stretch_went.g : FS := (seqG (setG 2 (methV 1 [4] GP.M_least_from_cfafed (getV 0) (consA (getW 1) nilA)))
  (retG (ifV (testB (bin2 eqD (methV 1 [0, 1, 2, 3, 4, 5] GP.M_came_4e9d29 (getV 0) (consA (getW 2) nilA)) (getW 1))) (getV 2) (konst .non))))
noncomputable def GP.Stretch_went.f : List D → Option Ret := runG GP.Stretch_went.g 3

noncomputable def GP.Mirror_went.g : FS := (retG (un1 negD (getV 1)))
noncomputable def GP.Mirror_went.f : List D → Option Ret := runG GP.Mirror_went.g 2

noncomputable def GP.Deed___init__2.i : FN := (fldN (konst .non))
noncomputable def GP.Deed___init__2.f : List D → Option (List D) := runN GP.Deed___init__2.i 1

noncomputable def GP.Widen___init__2.i : FN := (seqN (dropN (callV 1 GP.check_many.f (consA (getW 2) nilA)))
  (seqN (supN GP.Deed___init__2.f)
  (seqN (fldN (getV 1))
  (fldN (getV 2)))))
noncomputable def GP.Widen___init__2.f : List D → Option (List D) := runN GP.Widen___init__2.i 3

noncomputable def GP.Stretch___init__2.i : FN := (seqN (dropN (callV 1 GP.check_share.f (consA (getW 1) nilA)))
  (seqN (dropN (callV 1 GP.check_share.f (consA (getW 2) nilA)))
  (seqN (supN GP.Deed___init__2.f)
  (seqN (fldN (getV 1))
  (fldN (getV 2))))))
noncomputable def GP.Stretch___init__2.f : List D → Option (List D) := runN GP.Stretch___init__2.i 3

noncomputable def GP.M_came_9db0f5 : Nat → List D → Option Ret
  | 1 => GP.Widen_came.f
  | 2 => GP.Narrow_came.f
  | 4 => GP.Stretch_came.f
  | _ => fun _ => none

noncomputable def GL.cell_at.g : FS := (seqG (ifG (testB (bin2 ltD (getW 1) (callB lenD (consA (getW 0) nilA)))) (retG (bin2 ixD (getW 0) (getW 1))) nextG)
  (retG (konst (.int 0))))
noncomputable def GL.cell_at.f : List D → Option Ret := runG GL.cell_at.g 2

noncomputable def GL.place.g : FS := (seqG (setG 1 (bin2 powD (konst (.int 10)) (konst (.int 59))))
  (seqG (ifG (testB (bin2 eqD (bin2 modD (getW 0) (konst (.int 9))) (konst (.int 3)))) (setG 1 (bin2 powD (bin2 powD (konst (.int 10)) (konst (.int 60))) (konst (.int 8)))) nextG)
  (seqG (ifG (testB (bin2 eqD (bin2 modD (getW 0) (konst (.int 3))) (konst (.int 0)))) (retG (bin2 subD (bin2 modD (bin2 mulD (bin2 mulD (bin2 fdivD (getW 0) (konst (.int 9))) (bin2 addD (bin2 powD (konst (.int 10)) (konst (.int 41))) (konst (.int 9)))) (bin2 addD (getW 1) (konst (.int 3)))) (bin2 addD (bin2 mulD (konst (.int 2)) (getW 1)) (konst (.int 1)))) (getW 1))) nextG)
  (retG (bin2 subD (bin2 modD (bin2 fdivD (getW 0) (konst (.int 3))) (konst (.int 41))) (konst (.int 20)))))))
noncomputable def GL.place.f : List D → Option Ret := runG GL.place.g 2

noncomputable def GL.alike.g : FS := (seqG (ifG (testB (bin2 isD (getW 1) (konst .non))) (retG (bin2 isD (getW 0) (konst .non))) nextG)
  (retG (andV (isiG "int" (getW 0)) (andV (notV (isiG "bool" (getW 0))) (bin2 eqD (getW 0) (getW 1))))))
noncomputable def GL.alike.f : List D → Option Ret := runG GL.alike.g 2

noncomputable def GL.span.g : FS := (seqG (setG 2 (callV 1 GL.place.f (consA (bin2 fdivD (getW 0) (konst (.int 6))) nilA)))
  (seqG (setG 3 (bin2 addD (bin2 addD (getW 2) (konst (.int 1))) (bin2 modD (bin2 fdivD (getW 1) (konst (.int 6))) (konst (.int 9)))))
  (seqG (ifG (testB (bin2 eqD (bin2 modD (bin2 fdivD (getW 1) (konst (.int 54))) (konst (.int 3))) (konst (.int 1)))) (setG 3 (bin2 addD (bin2 addD (getW 2) (konst (.int 1))) (bin2 modD (bin2 mulD (bin2 fdivD (getW 1) (konst (.int 6))) (bin2 addD (bin2 powD (konst (.int 10)) (konst (.int 37))) (konst (.int 3)))) (bin2 powD (konst (.int 10)) (konst (.int 60)))))) nextG)
  (seqG (ifG (testB (bin2 eqD (bin2 modD (getW 0) (konst (.int 6))) (konst (.int 5)))) (setG 2 (konst .non)) nextG)
  (seqG (ifG (testB (bin2 eqD (bin2 modD (getW 1) (konst (.int 6))) (konst (.int 5)))) (setG 3 (konst .non)) nextG)
  (retG (mkT (sized (consA (getV 2) (consA (getV 3) nilA))))))))))
noncomputable def GL.span.f : List D → Option Ret := runG GL.span.g 4

noncomputable def GL.within.g : FS := (seqG (ifG (andT (testB (bin2 notD (bin2 ixD (getW 0) (konst (.int 0))) (konst .non))) (testB (bin2 ltD (getW 1) (bin2 ixD (getW 0) (konst (.int 0)))))) (retG (konst (.bl false))) nextG)
  (retG (orV (bin2 isD (bin2 ixD (getW 0) (konst (.int 1))) (konst .non)) (bin2 ltD (getW 1) (bin2 ixD (getW 0) (konst (.int 1)))))))
noncomputable def GL.within.f : List D → Option Ret := runG GL.within.g 2

noncomputable def GL.beside.g : FS := (seqG (setG 4 (mkL (compG (viaA (getV 0) asLT) [none] (nameG 0) (testB (bin2 notD (getW 0) (konst .non))) (getV 0))))
  (seqG (setG 5 (callV 2 GL.span.f (consA (getW 1) (consA (getW 2) nilA))))
  (seqG (ifG (orT (testB (bin2 eqD (bin2 modD (getW 3) (konst (.int 3))) (konst (.int 0)))) (testB (bin2 eqD (getW 4) (mkL (sized nilA))))) (retG (getW 5)) nextG)
  (seqG (ifG (testB (bin2 eqD (bin2 modD (bin2 fdivD (getW 3) (konst (.int 3))) (konst (.int 12))) (konst (.int 0)))) (retG (getW 0)) nextG)
  (seqG (setG 6 (bin2 subD (bin2 addD (bin2 ixD (getW 4) (bin2 modD (bin2 fdivD (getW 3) (konst (.int 36))) (callB lenD (consA (getW 4) nilA)))) (bin2 modD (bin2 fdivD (getW 3) (konst (.int 3))) (konst (.int 5)))) (konst (.int 2))))
  (seqG (ifG (testB (bin2 eqD (bin2 modD (getW 3) (konst (.int 3))) (konst (.int 1)))) (seqG (ifG (andT (testB (bin2 notD (bin2 ixD (getW 5) (konst (.int 1))) (konst .non))) (testB (bin2 leD (bin2 ixD (getW 5) (konst (.int 1))) (getW 6)))) (retG (mkT (sized (consA (getV 6) (consA (bin2 addD (bin2 addD (getW 6) (konst (.int 1))) (bin2 modD (getW 2) (konst (.int 9)))) nilA))))) nextG)
  (retG (mkT (sized (consA (getV 6) (consA (bin2 ixD (getW 5) (konst (.int 1))) nilA)))))) nextG)
  (seqG (ifG (andT (testB (bin2 notD (bin2 ixD (getW 5) (konst (.int 0))) (konst .non))) (testB (bin2 geD (bin2 ixD (getW 5) (konst (.int 0))) (getW 6)))) (retG (mkT (sized (consA (bin2 subD (bin2 subD (getW 6) (konst (.int 1))) (bin2 modD (getW 2) (konst (.int 9)))) (consA (getV 6) nilA))))) nextG)
  (retG (mkT (sized (consA (bin2 ixD (getW 5) (konst (.int 0))) (consA (getV 6) nilA))))))))))))
noncomputable def GL.beside.f : List D → Option Ret := runG GL.beside.g 7

noncomputable def GL.end.g : FS := (retG (orV (bin2 isD (getW 0) (konst .non)) (andV (isiG "int" (getW 0)) (notV (isiG "bool" (getW 0))))))
noncomputable def GL.end.f : List D → Option Ret := runG GL.end.g 1

noncomputable def GL.piece.g : FS := (seqG (setG 3 (bin2 addD (getW 0) (bin2 modD (getW 1) (konst (.int 3)))))
  (seqG (setG 4 (bin2 addD (bin2 addD (getW 3) (konst (.int 1))) (bin2 modD (bin2 fdivD (getW 1) (konst (.int 3))) (konst (.int 9)))))
  (seqG (ifG (testB (bin2 eqD (bin2 modD (bin2 fdivD (getW 1) (konst (.int 27))) (konst (.int 9))) (konst (.int 4)))) (setG 4 (bin2 addD (bin2 addD (getW 3) (konst (.int 1))) (bin2 modD (bin2 mulD (bin2 fdivD (getW 1) (konst (.int 27))) (bin2 addD (bin2 powD (konst (.int 10)) (konst (.int 37))) (konst (.int 3)))) (bin2 powD (konst (.int 10)) (konst (.int 60)))))) nextG)
  (retG (mkT (sized (consA (getV 3) (consA (getV 4) (consA (bin2 ixD (mkL (sized (consA (konst (.int 0)) (consA (un1 negD (konst (.int 3))) (consA (bin2 subD (bin2 modD (bin2 mulD (bin2 fdivD (getW 2) (konst (.int 3))) (bin2 addD (bin2 powD (konst (.int 10)) (konst (.int 43))) (konst (.int 7)))) (bin2 addD (bin2 mulD (konst (.int 2)) (bin2 powD (konst (.int 10)) (konst (.int 60)))) (konst (.int 1)))) (bin2 powD (konst (.int 10)) (konst (.int 60)))) nilA))))) (bin2 modD (getW 2) (konst (.int 3)))) nilA)))))))))
noncomputable def GL.piece.f : List D → Option Ret := runG GL.piece.g 5

noncomputable def GL.whole.g : FS := (retG (andV (isiG "int" (getW 0)) (notV (isiG "bool" (getW 0)))))
noncomputable def GL.whole.f : List D → Option Ret := runG GL.whole.g 1

noncomputable def GL.nth.g : FS := (seqG (setG 2 (mkL (catA (mkL (sliA (getW 0) (soP (getW 1)) (soP (bin2 addD (getW 1) (konst (.int 1)))))) (mkL (sized (consA (konst (.int 0)) nilA))))))
  (retG (bin2 ixD (getW 2) (konst (.int 0)))))
noncomputable def GL.nth.f : List D → Option Ret := runG GL.nth.g 3

noncomputable def GL.near.g : FS := (seqG (setG 2 (bin2 fdivD (getW 0) (konst (.int 4))))
  (seqG (ifG (testB (bin2 eqD (bin2 modD (getW 0) (konst (.int 4))) (konst (.int 3)))) (seqG (setG 3 (bin2 ixD (mkL (sized (consA (bin2 powD (konst (.int 10)) (konst (.int 60))) (consA (bin2 powD (konst (.int 10)) (konst (.int 60))) (consA (bin2 powD (bin2 powD (konst (.int 10)) (konst (.int 60))) (konst (.int 6))) nilA))))) (bin2 modD (getW 2) (konst (.int 3)))))
  (retG (bin2 subD (bin2 modD (bin2 mulD (bin2 mulD (bin2 fdivD (getW 2) (konst (.int 3))) (bin2 addD (bin2 powD (konst (.int 10)) (konst (.int 41))) (konst (.int 9)))) (bin2 addD (getW 3) (konst (.int 3)))) (bin2 addD (bin2 mulD (konst (.int 2)) (getW 3)) (konst (.int 1)))) (getW 3)))) nextG)
  (seqG (ifG (orT (testB (bin2 eqD (bin2 modD (getW 0) (konst (.int 4))) (konst (.int 2)))) (testB (bin2 eqD (getW 1) (mkL (sized nilA))))) (retG (bin2 subD (bin2 modD (getW 2) (konst (.int 41))) (konst (.int 20)))) nextG)
  (retG (bin2 subD (bin2 addD (bin2 ixD (getW 1) (bin2 modD (getW 2) (callB lenD (consA (getW 1) nilA)))) (bin2 modD (bin2 fdivD (getW 2) (callB lenD (consA (getW 1) nilA))) (konst (.int 3)))) (konst (.int 1)))))))
noncomputable def GL.near.f : List D → Option Ret := runG GL.near.g 4

noncomputable def GL.span2.g : FS := (seqG (setG 3 (callV 2 GL.near.f (consA (getW 0) (consA (getW 2) nilA))))
  (seqG (setG 4 (bin2 fdivD (getW 1) (konst (.int 8))))
  (seqG (setG 5 (callV 2 GL.near.f (consA (getW 4) (consA (getW 2) nilA))))
  (seqG (ifG (testB (bin2 eqD (bin2 modD (getW 1) (konst (.int 8))) (konst (.int 0)))) (retG (bin2 ixD (mkL (sized (consA (mkT (sized (consA (konst .non) (consA (getV 3) nilA)))) (consA (mkT (sized (consA (getV 3) (consA (konst .non) nilA)))) (consA (mkT (sized (consA (konst .non) (consA (konst .non) nilA)))) (consA (mkT (sized (consA (getV 3) (consA (bin2 addD (getW 3) (konst (.int 1))) nilA)))) nilA)))))) (bin2 modD (getW 4) (konst (.int 4))))) nextG)
  (seqG (ifG (andT (testB (bin2 ltD (bin2 modD (getW 1) (konst (.int 8))) (konst (.int 4)))) (testB (bin2 neD (getW 5) (getW 3)))) (retG (mkT (sized (consA (callB mnD (consA (getW 3) (consA (getW 5) nilA))) (consA (callB mxD (consA (getW 3) (consA (getW 5) nilA))) nilA))))) nextG)
  (seqG (ifG (testB (bin2 eqD (bin2 modD (getW 1) (konst (.int 8))) (konst (.int 7)))) (retG (mkT (sized (consA (getV 3) (consA (bin2 addD (bin2 addD (getW 3) (konst (.int 1))) (bin2 modD (getW 4) (bin2 powD (konst (.int 10)) (konst (.int 60))))) nilA))))) nextG)
  (retG (mkT (sized (consA (getV 3) (consA (bin2 addD (bin2 addD (getW 3) (konst (.int 1))) (bin2 modD (getW 4) (konst (.int 5)))) nilA)))))))))))
noncomputable def GL.span2.f : List D → Option Ret := runG GL.span2.g 6

noncomputable def GL.value.g : FS := (seqG (ifG (testB (bin2 eqD (bin2 modD (getW 0) (konst (.int 2))) (konst (.int 1)))) (retG (bin2 subD (bin2 modD (bin2 fdivD (getW 0) (konst (.int 2))) (bin2 addD (bin2 mulD (konst (.int 2)) (bin2 powD (konst (.int 10)) (konst (.int 60)))) (konst (.int 1)))) (bin2 powD (konst (.int 10)) (konst (.int 60))))) nextG)
  (retG (bin2 subD (bin2 modD (bin2 fdivD (getW 0) (konst (.int 2))) (konst (.int 3))) (konst (.int 1)))))
noncomputable def GL.value.f : List D → Option Ret := runG GL.value.g 1

noncomputable def GL.deed_by.g : FS := (seqG (setG 4 (bin2 fdivD (getW 0) (konst (.int 7))))
  (seqG (ifG (testB (bin2 ltD (bin2 modD (getW 0) (konst (.int 7))) (konst (.int 2)))) (retG (mkT (sized (consA (konst (.str "put")) (consA (callV 3 GL.span2.f (consA (getW 1) (consA (getW 2) (consA (getW 3) nilA)))) (consA (bin2 ixD (mkL (sized (consA (callV 1 GL.value.f (consA (getW 4) nilA)) (consA (konst .non) nilA)))) (bin2 modD (getW 0) (konst (.int 7)))) nilA)))))) nextG)
  (seqG (ifG (testB (bin2 ltD (bin2 modD (getW 0) (konst (.int 7))) (konst (.int 4)))) (seqG (setG 5 (callV 2 GL.near.f (consA (getW 1) (consA (getW 3) nilA))))
  (seqG (setG 6 (bin2 ixD (mkL (sized (consA (bin2 modD (bin2 fdivD (getW 2) (konst (.int 4))) (konst (.int 4))) (consA (bin2 modD (bin2 fdivD (getW 2) (konst (.int 4))) (bin2 powD (konst (.int 10)) (konst (.int 60)))) (consA (callB absD (consA (bin2 subD (callV 2 GL.near.f (consA (bin2 fdivD (getW 2) (konst (.int 4))) (consA (getW 3) nilA))) (getW 5)) nilA)) (consA (konst (.int 1)) nilA)))))) (bin2 modD (getW 2) (konst (.int 4)))))
  (retG (mkT (sized (consA (bin2 ixD (mkL (sized (consA (konst (.str "widen")) (consA (konst (.str "narrow")) nilA)))) (bin2 modD (getW 0) (konst (.int 2)))) (consA (getV 5) (consA (getV 6) nilA)))))))) nextG)
  (seqG (ifG (testB (bin2 eqD (bin2 modD (getW 0) (konst (.int 7))) (konst (.int 4)))) (seqG (setG 7 (bin2 ixD (mkL (sized (consA (bin2 subD (bin2 modD (bin2 fdivD (getW 2) (konst (.int 3))) (konst (.int 7))) (konst (.int 3))) (consA (bin2 subD (bin2 modD (bin2 fdivD (getW 2) (konst (.int 3))) (bin2 addD (bin2 mulD (konst (.int 2)) (bin2 powD (konst (.int 10)) (konst (.int 60)))) (konst (.int 1)))) (bin2 powD (konst (.int 10)) (konst (.int 60)))) (consA (un1 negD (callV 2 GL.near.f (consA (getW 1) (consA (getW 3) nilA)))) nilA))))) (bin2 modD (getW 2) (konst (.int 3)))))
  (retG (mkT (sized (consA (konst (.str "move")) (consA (getV 7) nilA)))))) nextG)
  (seqG (ifG (testB (bin2 eqD (bin2 modD (getW 0) (konst (.int 7))) (konst (.int 5)))) (retG (mkT (sized (consA (konst (.str "stretch")) (consA (bin2 addD (konst (.int 1)) (bin2 modD (getW 1) (bin2 ixD (mkL (sized (consA (konst (.int 5)) (consA (konst (.int 1000)) nilA)))) (bin2 modD (getW 4) (konst (.int 2)))))) (consA (bin2 addD (konst (.int 1)) (bin2 modD (getW 2) (bin2 ixD (mkL (sized (consA (konst (.int 5)) (consA (konst (.int 1000)) nilA)))) (bin2 modD (bin2 fdivD (getW 4) (konst (.int 2))) (konst (.int 2)))))) nilA)))))) nextG)
  (retG (mkT (sized (consA (konst (.str "mirror")) nilA)))))))))
noncomputable def GL.deed_by.f : List D → Option Ret := runG GL.deed_by.g 8

noncomputable def GL.made3.g : FS := (seqG (ifG (testB (bin2 eqD (bin2 ixD (getW 0) (konst (.int 0))) (konst (.str "put")))) (retDG (makeG 0 2 GP.Put___init__.f (consA (bin2 ixD (getW 0) (konst (.int 1))) (consA (bin2 ixD (getW 0) (konst (.int 2))) nilA)))) nextG)
  (seqG (ifG (testB (bin2 eqD (bin2 ixD (getW 0) (konst (.int 0))) (konst (.str "widen")))) (retDG (makeG 1 2 GP.Widen___init__.f (consA (bin2 ixD (getW 0) (konst (.int 1))) (consA (bin2 ixD (getW 0) (konst (.int 2))) nilA)))) nextG)
  (seqG (ifG (testB (bin2 eqD (bin2 ixD (getW 0) (konst (.int 0))) (konst (.str "narrow")))) (retDG (makeG 2 2 GP.Widen___init__.f (consA (bin2 ixD (getW 0) (konst (.int 1))) (consA (bin2 ixD (getW 0) (konst (.int 2))) nilA)))) nextG)
  (seqG (ifG (testB (bin2 eqD (bin2 ixD (getW 0) (konst (.int 0))) (konst (.str "move")))) (retDG (makeG 3 1 GP.Move___init__.f (consA (bin2 ixD (getW 0) (konst (.int 1))) nilA))) nextG)
  (seqG (ifG (testB (bin2 eqD (bin2 ixD (getW 0) (konst (.int 0))) (konst (.str "stretch")))) (retDG (makeG 4 2 GP.Stretch___init__.f (consA (bin2 ixD (getW 0) (konst (.int 1))) (consA (bin2 ixD (getW 0) (konst (.int 2))) nilA)))) nextG)
  (retDG (makeG 5 0 GP.Deed___init__.f nilA)))))))
noncomputable def GL.made3.f : List D → Option Ret := runG GL.made3.g 1

noncomputable def GL.has.g : FS := (retG (andV (orV (bin2 isD (bin2 ixD (getW 0) (konst (.int 0))) (konst .non)) (bin2 leD (bin2 ixD (getW 0) (konst (.int 0))) (getW 1))) (orV (bin2 isD (bin2 ixD (getW 0) (konst (.int 1))) (konst .non)) (bin2 ltD (getW 1) (bin2 ixD (getW 0) (konst (.int 1)))))))
noncomputable def GL.has.f : List D → Option Ret := runG GL.has.g 2

noncomputable def GL.own.g : FS := (seqG (ifG (testB (bin2 eqD (bin2 ixD (getW 0) (konst (.int 0))) (konst (.str "put")))) (retOG (compG (viaA (bin2 ixD (getW 0) (konst (.int 1))) asLT) [none] (nameG 0) (testB (bin2 notD (getW 0) (konst .non))) (getV 0))) nextG)
  (seqG (ifG (orT (testB (bin2 eqD (bin2 ixD (getW 0) (konst (.int 0))) (konst (.str "widen")))) (testB (bin2 eqD (bin2 ixD (getW 0) (konst (.int 0))) (konst (.str "narrow"))))) (retOG (sized (consA (bin2 ixD (getW 0) (konst (.int 1))) (consA (bin2 addD (bin2 ixD (getW 0) (konst (.int 1))) (bin2 ixD (getW 0) (konst (.int 2)))) nilA)))) nextG)
  (retOG (sized (consA (konst (.int 0)) nilA)))))
noncomputable def GL.own.f : List D → Option Ret := runG GL.own.g 1

end
/-! ### spans -/
namespace FL
open PySem PySem.Spec PyProof.Rows L2
abbrev Spn := Option Int × Option Int
def spD (s : Spn) : D := .tup [oi s.1, oi s.2]
def oS : Option Spn → D
  | none => .non
  | some s => spD s
def okS (s : Spn) : Prop := ∀ a b, s.1 = some a → s.2 = some b → a < b
@[simp] theorem spD_0 (s : Spn) : ixD (spD s) (.int 0) = some (oi s.1) := ixT0 _ _
@[simp] theorem spD_1 (s : Spn) : ixD (spD s) (.int 1) = some (oi s.2) := ixT1 _ _ _
@[simp] theorem spD_flat (s : Spn) : flat (spD s) = true := by simp [spD]
@[simp] theorem spD_flatR (s : Spn) : flatR (spD s) = some (.rt (.val (spD s))) := flatR_of (by simp)
@[simp] theorem spD_shal (s : Spn) (n : Nat) : shal (n + 1) (spD s) = true := by simp [spD]
@[simp] theorem spD_isi (s : Spn) : isiD "tuple" (spD s) = some (.bl true) := by simp [spD]
@[simp] theorem spD_len (s : Spn) : lenD [spD s] = some (.int 2) := by simp [spD]
@[simp] theorem spD_isD (s : Spn) : isD (spD s) .non = some (.bl false) := rfl
@[simp] theorem spD_notD (s : Spn) : notD (spD s) .non = some (.bl true) := rfl
@[simp] theorem spD_asLT (s : Spn) : asLT (spD s) = some [oi s.1, oi s.2] := rfl
@[simp] theorem spD_eqv (s t : Spn) : eqvD (spD s) (spD t) = decide (s = t) := by
  rw [Bool.eq_iff_iff]
  simp [spD, Prod.ext_iff]
@[simp] theorem oS_isD (o : Option Spn) : isD (oS o) .non = some (.bl o.isNone) := by cases o <;> rfl
@[simp] theorem oS_notD (o : Option Spn) : notD (oS o) .non = some (.bl o.isSome) := by cases o <;> rfl
@[simp] theorem oS_flatR (o : Option Spn) : flatR (oS o) = some (.rt (.val (oS o))) := by cases o <;> simp [oS]
/-! less -/
/-! near, hull -/
end FL

/-! ### the laws' helpers: what a cell, a place, a span is -/
namespace FL
open PySem PySem.Spec PyProof.Rows L2
open Builtin.Int (intBits)
def cel (ns : List Int) (k : Nat) : Int := ns.getD k 0
theorem end_eq (o : Option Int) : GL.end.f [oi o] = some (.val (.bl true)) := by
  unfold GL.end.f runG GL.end.g
  cases o <;> simp [args]
@[simp] theorem end_int (i : Int) : GL.end.f [.int i] = some (.val (.bl true)) := end_eq (some i)
@[simp] theorem end_non : GL.end.f [.non] = some (.val (.bl true)) := end_eq none
end FL

/-! ### deeds: what is told of one, the object made of it, where a place came from and went to -/
namespace FL
open PySem PySem.Spec PyProof.Rows L2
open Builtin.Int (intBits)
inductive Dd where
  | put (s : Spn) (v : Option Int) | widen (a m : Int) | narrow (a m : Int) | move (f : Int) | stretch (t b : Int) | mirror
@[simp] theorem eqS_put_put : eqD (.str "put") (.str "put") = some (.bl true) := by kernel_rfl
@[simp] theorem neS_put_put : neD (.str "put") (.str "put") = some (.bl false) := by kernel_rfl
@[simp] theorem eqS_put_widen : eqD (.str "put") (.str "widen") = some (.bl false) := by kernel_rfl
@[simp] theorem neS_put_widen : neD (.str "put") (.str "widen") = some (.bl true) := by kernel_rfl
@[simp] theorem eqS_put_narrow : eqD (.str "put") (.str "narrow") = some (.bl false) := by kernel_rfl
@[simp] theorem neS_put_narrow : neD (.str "put") (.str "narrow") = some (.bl true) := by kernel_rfl
@[simp] theorem eqS_put_move : eqD (.str "put") (.str "move") = some (.bl false) := by kernel_rfl
@[simp] theorem neS_put_move : neD (.str "put") (.str "move") = some (.bl true) := by kernel_rfl
@[simp] theorem eqS_put_stretch : eqD (.str "put") (.str "stretch") = some (.bl false) := by kernel_rfl
@[simp] theorem neS_put_stretch : neD (.str "put") (.str "stretch") = some (.bl true) := by kernel_rfl
@[simp] theorem eqS_put_mirror : eqD (.str "put") (.str "mirror") = some (.bl false) := by kernel_rfl
@[simp] theorem neS_put_mirror : neD (.str "put") (.str "mirror") = some (.bl true) := by kernel_rfl
@[simp] theorem eqS_widen_put : eqD (.str "widen") (.str "put") = some (.bl false) := by kernel_rfl
@[simp] theorem neS_widen_put : neD (.str "widen") (.str "put") = some (.bl true) := by kernel_rfl
@[simp] theorem eqS_widen_widen : eqD (.str "widen") (.str "widen") = some (.bl true) := by kernel_rfl
@[simp] theorem neS_widen_widen : neD (.str "widen") (.str "widen") = some (.bl false) := by kernel_rfl
@[simp] theorem eqS_widen_narrow : eqD (.str "widen") (.str "narrow") = some (.bl false) := by kernel_rfl
@[simp] theorem neS_widen_narrow : neD (.str "widen") (.str "narrow") = some (.bl true) := by kernel_rfl
@[simp] theorem eqS_widen_move : eqD (.str "widen") (.str "move") = some (.bl false) := by kernel_rfl
@[simp] theorem neS_widen_move : neD (.str "widen") (.str "move") = some (.bl true) := by kernel_rfl
@[simp] theorem eqS_widen_stretch : eqD (.str "widen") (.str "stretch") = some (.bl false) := by kernel_rfl
@[simp] theorem neS_widen_stretch : neD (.str "widen") (.str "stretch") = some (.bl true) := by kernel_rfl
@[simp] theorem eqS_widen_mirror : eqD (.str "widen") (.str "mirror") = some (.bl false) := by kernel_rfl
@[simp] theorem neS_widen_mirror : neD (.str "widen") (.str "mirror") = some (.bl true) := by kernel_rfl
@[simp] theorem eqS_narrow_put : eqD (.str "narrow") (.str "put") = some (.bl false) := by kernel_rfl
@[simp] theorem neS_narrow_put : neD (.str "narrow") (.str "put") = some (.bl true) := by kernel_rfl
@[simp] theorem eqS_narrow_widen : eqD (.str "narrow") (.str "widen") = some (.bl false) := by kernel_rfl
@[simp] theorem neS_narrow_widen : neD (.str "narrow") (.str "widen") = some (.bl true) := by kernel_rfl
@[simp] theorem eqS_narrow_narrow : eqD (.str "narrow") (.str "narrow") = some (.bl true) := by kernel_rfl
@[simp] theorem neS_narrow_narrow : neD (.str "narrow") (.str "narrow") = some (.bl false) := by kernel_rfl
@[simp] theorem eqS_narrow_move : eqD (.str "narrow") (.str "move") = some (.bl false) := by kernel_rfl
@[simp] theorem neS_narrow_move : neD (.str "narrow") (.str "move") = some (.bl true) := by kernel_rfl
@[simp] theorem eqS_narrow_stretch : eqD (.str "narrow") (.str "stretch") = some (.bl false) := by kernel_rfl
@[simp] theorem neS_narrow_stretch : neD (.str "narrow") (.str "stretch") = some (.bl true) := by kernel_rfl
@[simp] theorem eqS_narrow_mirror : eqD (.str "narrow") (.str "mirror") = some (.bl false) := by kernel_rfl
@[simp] theorem neS_narrow_mirror : neD (.str "narrow") (.str "mirror") = some (.bl true) := by kernel_rfl
@[simp] theorem eqS_move_put : eqD (.str "move") (.str "put") = some (.bl false) := by kernel_rfl
@[simp] theorem neS_move_put : neD (.str "move") (.str "put") = some (.bl true) := by kernel_rfl
@[simp] theorem eqS_move_widen : eqD (.str "move") (.str "widen") = some (.bl false) := by kernel_rfl
@[simp] theorem neS_move_widen : neD (.str "move") (.str "widen") = some (.bl true) := by kernel_rfl
@[simp] theorem eqS_move_narrow : eqD (.str "move") (.str "narrow") = some (.bl false) := by kernel_rfl
@[simp] theorem neS_move_narrow : neD (.str "move") (.str "narrow") = some (.bl true) := by kernel_rfl
@[simp] theorem eqS_move_move : eqD (.str "move") (.str "move") = some (.bl true) := by kernel_rfl
@[simp] theorem neS_move_move : neD (.str "move") (.str "move") = some (.bl false) := by kernel_rfl
@[simp] theorem eqS_move_stretch : eqD (.str "move") (.str "stretch") = some (.bl false) := by kernel_rfl
@[simp] theorem neS_move_stretch : neD (.str "move") (.str "stretch") = some (.bl true) := by kernel_rfl
@[simp] theorem eqS_move_mirror : eqD (.str "move") (.str "mirror") = some (.bl false) := by kernel_rfl
@[simp] theorem neS_move_mirror : neD (.str "move") (.str "mirror") = some (.bl true) := by kernel_rfl
@[simp] theorem eqS_stretch_put : eqD (.str "stretch") (.str "put") = some (.bl false) := by kernel_rfl
@[simp] theorem neS_stretch_put : neD (.str "stretch") (.str "put") = some (.bl true) := by kernel_rfl
@[simp] theorem eqS_stretch_widen : eqD (.str "stretch") (.str "widen") = some (.bl false) := by kernel_rfl
@[simp] theorem neS_stretch_widen : neD (.str "stretch") (.str "widen") = some (.bl true) := by kernel_rfl
@[simp] theorem eqS_stretch_narrow : eqD (.str "stretch") (.str "narrow") = some (.bl false) := by kernel_rfl
@[simp] theorem neS_stretch_narrow : neD (.str "stretch") (.str "narrow") = some (.bl true) := by kernel_rfl
@[simp] theorem eqS_stretch_move : eqD (.str "stretch") (.str "move") = some (.bl false) := by kernel_rfl
@[simp] theorem neS_stretch_move : neD (.str "stretch") (.str "move") = some (.bl true) := by kernel_rfl
@[simp] theorem eqS_stretch_stretch : eqD (.str "stretch") (.str "stretch") = some (.bl true) := by kernel_rfl
@[simp] theorem neS_stretch_stretch : neD (.str "stretch") (.str "stretch") = some (.bl false) := by kernel_rfl
@[simp] theorem eqS_stretch_mirror : eqD (.str "stretch") (.str "mirror") = some (.bl false) := by kernel_rfl
@[simp] theorem neS_stretch_mirror : neD (.str "stretch") (.str "mirror") = some (.bl true) := by kernel_rfl
@[simp] theorem eqS_mirror_put : eqD (.str "mirror") (.str "put") = some (.bl false) := by kernel_rfl
@[simp] theorem neS_mirror_put : neD (.str "mirror") (.str "put") = some (.bl true) := by kernel_rfl
@[simp] theorem eqS_mirror_widen : eqD (.str "mirror") (.str "widen") = some (.bl false) := by kernel_rfl
@[simp] theorem neS_mirror_widen : neD (.str "mirror") (.str "widen") = some (.bl true) := by kernel_rfl
@[simp] theorem eqS_mirror_narrow : eqD (.str "mirror") (.str "narrow") = some (.bl false) := by kernel_rfl
@[simp] theorem neS_mirror_narrow : neD (.str "mirror") (.str "narrow") = some (.bl true) := by kernel_rfl
@[simp] theorem eqS_mirror_move : eqD (.str "mirror") (.str "move") = some (.bl false) := by kernel_rfl
@[simp] theorem neS_mirror_move : neD (.str "mirror") (.str "move") = some (.bl true) := by kernel_rfl
@[simp] theorem eqS_mirror_stretch : eqD (.str "mirror") (.str "stretch") = some (.bl false) := by kernel_rfl
@[simp] theorem neS_mirror_stretch : neD (.str "mirror") (.str "stretch") = some (.bl true) := by kernel_rfl
@[simp] theorem eqS_mirror_mirror : eqD (.str "mirror") (.str "mirror") = some (.bl true) := by kernel_rfl
@[simp] theorem neS_mirror_mirror : neD (.str "mirror") (.str "mirror") = some (.bl false) := by kernel_rfl
@[simp] theorem fldG_eq (ix : List (Nat × Nat)) (f : FE) (ds : List Sl) : fldG ix f ds = (f ds).bind (fldD ix) := rfl
@[simp] theorem fldD_ins (ix : List (Nat × Nat)) (t : Nat) (es : List D) : fldD ix (.ins t es) = (ix.lookup t).bind fun i => es[i]? := rfl
@[simp] theorem methV_eq (n : Nat) (cs : List Nat) (F : Nat → List D → Option Ret) (fo : FE) (g : FA) (ds : List Sl) : methV n cs F fo g ds = (fo ds).bind fun o => (g ds).bind fun l => (methR n cs F o l).bind retV := rfl
@[simp] theorem methF_eq (n : Nat) (cs : List Nat) (F : Nat → List D → Option Ret) (fo : FE) (g : FA) (ds : List Sl) : methF n cs F fo g ds = (fo ds).bind fun o => (g ds).bind fun l => (methR n cs F o l).bind retF := rfl
@[simp] theorem makeG_eq (t n : Nat) (G : List D → Option (List D)) (g : FA) (ds : List Sl) : makeG t n G g ds = (g ds).bind fun l => if l.length = n ∧ flats l = true then (G l).map (D.ins t) else none := rfl
@[simp] theorem retDG_eq (f : FE) (ds : List Sl) : retDG f ds = (f ds).map fun d => .rt (.val d) := rfl
/-! the objects -/
theorem chk_many {m : Int} (h : 0 ≤ m) : GP.check_many.f [.int m] = some (.val .non) := by
  unfold GP.check_many.f runG GP.check_many.g
  have : ¬ m < 0 := by omega
  simp [args, this]
theorem chk_share {m : Int} (h : 1 ≤ m) (h2 : m ≤ 1000) : GP.check_share.f [.int m] = some (.val .non) := by
  unfold GP.check_share.f runG GP.check_share.g
  have h1 : ¬ m < 1 := by omega
  have h3 : ¬ 1000 < m := by omega
  simp [args, h1, h3]
end FL

/-! ### rows and maps -/
namespace FL
open PySem PySem.Spec PyProof.Rows L2
abbrev Rw := Option Int × Option Int × Option Int
def rwD (r : Rw) : D := .tup [oi r.1, oi r.2.1, oi r.2.2]
def ok3 (r : Rw) : Prop := okS (r.1, r.2.1)
@[simp] theorem rwD_0 (r : Rw) : ixD (rwD r) (.int 0) = some (oi r.1) := ixT0 _ _
@[simp] theorem rwD_1 (r : Rw) : ixD (rwD r) (.int 1) = some (oi r.2.1) := ixT1 _ _ _
@[simp] theorem rwD_2 (r : Rw) : ixD (rwD r) (.int 2) = some (oi r.2.2) := ixT2 _ _ _ _
@[simp] theorem rwD_flat (r : Rw) : flat (rwD r) = true := by simp [rwD]
@[simp] theorem rwD_flatR (r : Rw) : flatR (rwD r) = some (.rt (.val (rwD r))) := flatR_of (by simp)
@[simp] theorem rwD_shal (r : Rw) (n : Nat) : shal (n + 1) (rwD r) = true := by simp [rwD]
@[simp] theorem rwD_isi (r : Rw) : isiD "tuple" (rwD r) = some (.bl true) := by simp [rwD]
@[simp] theorem rwD_len (r : Rw) : lenD [rwD r] = some (.int 3) := by simp [rwD]
@[simp] theorem rwD_tupG (h : List D → List Sl → Option (List Sl)) (r : Rw) (ds : List Sl) : tupG 3 h (rwD r) ds = h [oi r.1, oi r.2.1, oi r.2.2] ds := by simp [rwD]
@[simp] theorem rwD_eqv (r t : Rw) : eqvD (rwD r) (rwD t) = decide (r = t) := by
  obtain ⟨a, b, c⟩ := r
  obtain ⟨x, y, z⟩ := t
  rw [Bool.eq_iff_iff]
  simp [rwD]
def ahead (a b : Rw) : Prop := ∃ x y, a.2.1 = some x ∧ b.1 = some y ∧ x ≤ y
structure Ord (rows : List Rw) : Prop where
  ok : ∀ r ∈ rows, ok3 r
  pw : rows.Pairwise ahead
/-! knit -/
/-! what knit makes of rows in their order: the one form, telling the same -/
def adjOk : List Rw → Prop
  | b :: a :: t => ¬ (a.2.1 = b.1 ∧ a.2.2 = b.2.2) ∧ adjOk (a :: t)
  | _ => True
structure KI (acc : List Rw) : Prop where
  ok : ∀ r ∈ acc, ok3 r
  pw : acc.Pairwise fun b a => ahead a b
  val : ∀ r ∈ acc, r.2.2 ≠ none
  adj : adjOk acc
theorem KI.nil : KI [] := ⟨(fun _ h => nomatch h), List.Pairwise.nil, (fun _ h => nomatch h), trivial⟩
structure MapF (ps : List Rw) : Prop where
  ord : Ord ps
  val : ∀ r ∈ ps, r.2.2 ≠ none
  adj : ∀ (i : Nat) (a b : Rw), ps[i]? = some a → ps[i + 1]? = some b → ¬ (a.2.1 = b.1 ∧ a.2.2 = b.2.2)
theorem adjOk_get : ∀ {l : List Rw}, adjOk l → ∀ (i : Nat) (b a : Rw), l[i]? = some b → l[i + 1]? = some a → ¬ (a.2.1 = b.1 ∧ a.2.2 = b.2.2)
  | [], _, i, b, a, e, _ => by simp at e
  | [x], _, i, b, a, e, e2 => by simp at e2
  | x :: y :: t, h, 0, b, a, e, e2 => by
    simp at e e2
    subst e e2
    exact h.1
  | x :: y :: t, h, i + 1, b, a, e, e2 => adjOk_get h.2 i b a (by simpa using e) (by simpa using e2)
theorem KI.map {acc : List Rw} (k : KI acc) : MapF acc.reverse := by
  refine ⟨⟨fun r hr => k.ok r (List.mem_reverse.mp hr), List.pairwise_reverse.mpr k.pw⟩, fun r hr => k.val r (List.mem_reverse.mp hr), fun i a b h1 h2 => ?_⟩
  have l2 := (List.getElem?_eq_some_iff.mp h2).1
  rw [List.length_reverse] at l2
  rw [List.getElem?_reverse (by omega)] at h1 h2
  refine adjOk_get k.adj (acc.length - 1 - (i + 1)) b a h2 ?_
  rw [← h1]
  congr 1
  omega
/-! the value at a place -/
end FL

/-! ### how laws draw rows and maps -/
namespace FL
open PySem PySem.Spec PyProof.Rows L2
open Builtin.Int (intBits)
structure Drawn (rows : List Rw) (s : Int) : Prop where
  ord : Ord rows
  fin : ∀ r ∈ rows, ∃ lo bh, r.1 = some lo ∧ r.2.1 = some bh ∧ bh ≤ s
theorem Drawn.snoc {rows : List Rw} {s lo bh : Int} {v : Option Int} (h : Drawn rows s) (h1 : s ≤ lo) (h2 : lo < bh) : Drawn (rows ++ [(some lo, some bh, v)]) bh := by
  refine ⟨⟨fun r hr => ?_, ?_⟩, fun r hr => ?_⟩
  · rcases List.mem_append.mp hr with hr | hr
    · exact h.ord.ok r hr
    · have : r = (some lo, some bh, v) := by simpa using hr
      subst this
      intro a b e1 e2
      cases e1; cases e2; exact h2
  · refine List.pairwise_append.mpr ⟨h.ord.pw, List.pairwise_singleton _ _, fun a ha b hb => ?_⟩
    have : b = (some lo, some bh, v) := by simpa using hb
    subst this
    obtain ⟨x, y, e1, e2, e3⟩ := h.fin a ha
    exact ⟨y, lo, e2, rfl, by omega⟩
  · rcases List.mem_append.mp hr with hr | hr
    · obtain ⟨x, y, e1, e2, e3⟩ := h.fin r hr
      exact ⟨x, y, e1, e2, by omega⟩
    · have : r = (some lo, some bh, v) := by simpa using hr
      subst this
      exact ⟨lo, bh, rfl, rfl, Int.le_refl _⟩
end FL

/-! ### deeds: where a place came from, where it went -/
namespace FL
open PySem PySem.Spec PyProof.Rows L2
open Builtin.Int (intBits)
@[simp] theorem methR_ins (n : Nat) (cs : List Nat) (F : Nat → List D → Option Ret) (t : Nat) (es l : List D) : methR n cs F (.ins t es) l = if t ∈ cs ∧ l.length = n then F t (.ins t es :: l) else none := rfl
theorem taken_eq (p a m : Int) : GP.taken_out.f [.int p, .int a, .int m] = some (.val (oi (if p < a then some p else if p < a + m then none else some (p - m)))) := by
  unfold GP.taken_out.f runG GP.taken_out.g
  by_cases h : p < a
  · simp [args, h]
  · by_cases h2 : p < a + m <;> simp [args, h, h2]
theorem opened_eq (p a m : Int) : GP.opened.f [.int p, .int a, .int m] = some (.val (.int (if p < a then p else p + m))) := by
  unfold GP.opened.f runG GP.opened.g
  by_cases h : p < a <;> simp [args, h]
/-! point 16 -/
end FL

/-! ### deeds drawn: near, span, deed_by, own; the laws' own came and went -/
namespace FL
open PySem PySem.Spec PyProof.Rows L2
open Builtin.Int (intBits)
theorem nth_eq (ns : List Int) (k : Nat) : GL.nth.f [.lst (ns.map D.int), .int (k : Int)] = some (.val (.int (cel ns k))) := by
  unfold GL.nth.f runG GL.nth.g
  have e : cutD (ns.map D.int) (some (k : Int)) (some ((k : Int) + 1)) = (if k < ns.length then [D.int (cel ns k)] else []) := by
    unfold cutD HT.sIx
    have h1 : ¬ (k : Int) < 0 := by omega
    have h2 : ¬ (k : Int) + 1 < 0 := by omega
    simp only [h1, h2, if_false, List.length_map]
    by_cases h : k < ns.length
    · have e1 : min (k : Int).toNat ns.length = k := by omega
      have e2 : min ((k : Int) + 1).toNat ns.length = k + 1 := by omega
      rw [e1, e2, List.drop_eq_getElem_cons (show k < (ns.map D.int).length by simpa using h), show k + 1 - k = 1 by omega]
      simp [cel, List.getD, h]
    · have e1 : min (k : Int).toNat ns.length = ns.length := by omega
      rw [e1]
      simp [h]
  by_cases h : k < ns.length
  · rw [if_pos h] at e
    simp [args, e]
  · rw [if_neg h] at e
    have hz : cel ns k = 0 := by simp [cel, List.getD, List.getElem?_eq_none (Nat.le_of_not_lt h)]
    simp [args, e, hz]
end FL

section
open PySem PyProof.Rows L2 FL
noncomputable def K46.X_check_many_4.x : List Sl → Bool := (ifX (testB (bin2 ltD (getW 0) (konst (.int 0)))) alwaysX neverX)
noncomputable def K46.X_check_many_4.f : List D → Bool := runX K46.X_check_many_4.x 1

noncomputable def K46.X_Widen___init___4.x : List Sl → Bool := (callX 1 K46.X_check_many_4.f (consA (getW 2) nilA))
noncomputable def K46.X_Widen___init___4.f : List D → Bool := runXN K46.X_Widen___init___4.x 3

noncomputable def K46.X_Narrow___init___4.x : List Sl → Bool := (callX 1 K46.X_check_many_4.f (consA (getW 2) nilA))
noncomputable def K46.X_Narrow___init___4.f : List D → Bool := runXN K46.X_Narrow___init___4.x 3

noncomputable def K46.X_check_share_5.x : List Sl → Bool := (ifX (orT (testB (bin2 ltD (getW 0) (konst (.int 1)))) (testB (bin2 gtD (getW 0) (konst (.int 1000))))) alwaysX neverX)
noncomputable def K46.X_check_share_5.f : List D → Bool := runX K46.X_check_share_5.x 1

noncomputable def K46.X_Stretch___init___5.x : List Sl → Bool := (orX (callX 1 K46.X_check_share_5.f (consA (getW 1) nilA))
  (seqX (dropG (callV 1 GP.check_share.f (consA (getW 1) nilA)))
  (callX 1 K46.X_check_share_5.f (consA (getW 2) nilA))))
noncomputable def K46.X_Stretch___init___5.f : List D → Bool := runXN K46.X_Stretch___init___5.x 3

noncomputable def K46.L_many.g : FS := (seqG (setG 1 (bin2 ixD (mkL (sized (consA (konst (.int 0)) (consA (konst (.int 1)) (consA (bin2 modD (bin2 fdivD (getW 0) (konst (.int 8))) (bin2 powD (konst (.int 10)) (konst (.int 60)))) (consA (bin2 addD (konst (.int 1)) (bin2 modD (bin2 fdivD (getW 0) (konst (.int 8))) (konst (.int 3)))) nilA)))))) (bin2 modD (bin2 fdivD (getW 0) (konst (.int 2))) (konst (.int 4)))))
  (retG (bin2 ixD (mkL (sized (consA (getV 1) (consA (bin2 subD (un1 negD (konst (.int 1))) (getW 1)) nilA)))) (bin2 modD (getW 0) (konst (.int 2))))))
noncomputable def K46.L_many.f : List D → Option Ret := runG K46.L_many.g 2

noncomputable def K46.L_part.g : FS := (seqG (setG 1 (bin2 modD (bin2 fdivD (getW 0) (konst (.int 8))) (bin2 powD (konst (.int 10)) (konst (.int 60)))))
  (retG (bin2 ixD (mkL (sized (consA (bin2 addD (konst (.int 1)) (bin2 modD (getW 1) (konst (.int 1000)))) (consA (konst (.int 1)) (consA (konst (.int 1000)) (consA (bin2 addD (konst (.int 1)) (bin2 modD (getW 1) (konst (.int 10)))) (consA (konst (.int 0)) (consA (konst (.int 1001)) (consA (un1 negD (getV 1)) (consA (bin2 addD (konst (.int 1001)) (getW 1)) nilA)))))))))) (bin2 modD (getW 0) (konst (.int 8))))))
noncomputable def K46.L_part.f : List D → Option Ret := runG K46.L_part.g 2

noncomputable def K46.H__law_classes.g : FS := (seqG (setG 1 (mkL (sized (consA (isxG 0 [(4, true), (5, false)]) (consA (isxG 0 [(4, false), (5, true)]) (consA (isxG 0 [(4, false), (5, false)]) (consA (isxG 0 [(4, false), (5, false)]) nilA)))))))
  (seqG (setG 1 (mkL (catA (getW 1) (mkL (sized (consA (isxG 0 [(4, false), (5, false)]) (consA (isxG 0 [(4, false), (5, false)]) (consA (isxG 0 [(4, false), (5, false)]) (consA (isxG 0 [(4, false), (5, false)]) nilA)))))))))
  (seqG (setG 1 (mkL (catA (getW 1) (mkL (sized (consA (isxG 0 [(4, false), (5, false)]) (consA (isxG 0 [(4, false), (5, false)]) (consA (isxG 0 [(4, false), (5, false)]) (consA (isxG 0 [(4, false), (5, false)]) nilA)))))))))
  (retOG (catA (getW 1) (mkL (sized (consA (isxG 0 [(4, true), (5, true)]) nilA))))))))
noncomputable def K46.H__law_classes.h : Nat → Option Ret := runH K46.H__law_classes.g 2

noncomputable def K46.L_made.g : FS := (seqG (ifG (testB (bin2 eqD (getW 0) (konst (.int 0)))) (retDG (makeG 1 2 GP.Widen___init__2.f (consA (getW 1) (consA (getW 2) nilA)))) nextG)
  (seqG (ifG (testB (bin2 eqD (getW 0) (konst (.int 1)))) (retDG (makeG 2 2 GP.Widen___init__2.f (consA (getW 1) (consA (getW 2) nilA)))) nextG)
  (retDG (makeG 4 2 GP.Stretch___init__2.f (consA (getW 1) (consA (getW 2) nilA))))))
noncomputable def K46.L_made.f : List D → Option Ret := runG K46.L_made.g 3

noncomputable def K46.X__law_made_4.x : List Sl → Bool := (orX (ifX (testB (bin2 eqD (getW 0) (konst (.int 0)))) (callX 2 K46.X_Widen___init___4.f (consA (getW 1) (consA (getW 2) nilA))) neverX)
  (seqX (ifG (testB (bin2 eqD (getW 0) (konst (.int 0)))) (retDG (makeG 1 2 GP.Widen___init__2.f (consA (getW 1) (consA (getW 2) nilA)))) nextG)
  (ifX (testB (bin2 eqD (getW 0) (konst (.int 1)))) (callX 2 K46.X_Narrow___init___4.f (consA (getW 1) (consA (getW 2) nilA))) neverX)))
noncomputable def K46.X__law_made_4.f : List D → Bool := runX K46.X__law_made_4.x 3

noncomputable def K46.X__law_made_5.x : List Sl → Bool := (seqX (ifG (testB (bin2 eqD (getW 0) (konst (.int 0)))) (retDG (makeG 1 2 GP.Widen___init__2.f (consA (getW 1) (consA (getW 2) nilA)))) nextG)
  (seqX (ifG (testB (bin2 eqD (getW 0) (konst (.int 1)))) (retDG (makeG 2 2 GP.Widen___init__2.f (consA (getW 1) (consA (getW 2) nilA)))) nextG)
  (callX 2 K46.X_Stretch___init___5.f (consA (getW 1) (consA (getW 2) nilA)))))
noncomputable def K46.X__law_made_5.f : List D → Bool := runX K46.X__law_made_5.x 3

noncomputable def K46.L_told.g : FS := (seqG (setOG 3 (sized nilA))
  (seqG (setG 4 (konst .non))
  (seqG (tryG2 5 4 5 (setG 4 (callV 3 K46.L_made.f (consA (getW 0) (consA (getW 1) (consA (getW 2) nilA))))) (callX 3 K46.X__law_made_4.f (consA (getW 0) (consA (getW 1) (consA (getW 2) nilA)))) (callX 3 K46.X__law_made_5.f (consA (getW 0) (consA (getW 1) (consA (getW 2) nilA))))
  (setOG 3 (callHF 5 K46.H__law_classes.h)))
  (seqG (ifG (andT (testB (bin2 notD (getW 4) (konst .non))) (notT (testT (un1 (isoD [(1, true), (2, true), (4, true), (6, true)]) (getV 4))))) (retG (konst .non)) nextG)
  (seqG (ifG (andT (testB (bin2 notD (getW 4) (konst .non))) (andT (testB (bin2 ltD (getW 0) (konst (.int 2)))) (andT (testB (bin2 eqD (getW 2) (konst (.int 0)))) (testB (bin2 neD (methV 1 [1, 2, 4] GP.M_came_9db0f5 (getV 4) (consA (getW 1) nilA)) (getW 1)))))) (retG (konst .non)) nextG)
  (retXG 3))))))
noncomputable def K46.L_told.f : List D → Option Ret := runG K46.L_told.g 6

noncomputable def K46.law.b1 : FS := (seqG (setG 3 (callV 1 K46.L_many.f (consA (callV 2 GL.nth.f (consA (getW 0) (consA (bin2 addD (konst (.int 1)) (getW 2)) nilA))) nilA)))
  (seqG (setG 4 (mkL (sized nilA)))
  (seqG (ifG (testB (bin2 ltD (getW 3) (konst (.int 0)))) (setG 4 (mkL (catA (mkL (catA (mkL (sized (consA (konst (.bl true)) nilA))) (mkL (repF (sized (consA (konst (.bl false)) nilA)) (konst (.int 11)))))) (mkL (sized (consA (konst (.bl true)) nilA)))))) nextG)
  (ifG (testB (bin2 neD (callV 3 K46.L_told.f (consA (getW 2) (consA (getW 1) (consA (getW 3) nilA)))) (getW 4))) (retG (konst (.bl false))) nextG))))
noncomputable def K46.law.b2 : FS := (seqG (setG 5 (callV 1 K46.L_part.f (consA (callV 2 GL.nth.f (consA (getW 0) (consA (getW 2) nilA))) nilA)))
  (seqG (setG 6 (callV 1 K46.L_part.f (consA (callV 2 GL.nth.f (consA (getW 0) (consA (bin2 addD (getW 2) (konst (.int 1))) nilA))) nilA)))
  (seqG (setG 4 (mkL (sized nilA)))
  (seqG (ifG (orT (testB (bin2 ltD (callB mnD (consA (getW 5) (consA (getW 6) nilA))) (konst (.int 1)))) (testB (bin2 gtD (callB mxD (consA (getW 5) (consA (getW 6) nilA))) (konst (.int 1000))))) (setG 4 (mkL (catA (mkL (catA (mkL (sized (consA (konst (.bl false)) (consA (konst (.bl true)) nilA)))) (mkL (repF (sized (consA (konst (.bl false)) nilA)) (konst (.int 10)))))) (mkL (sized (consA (konst (.bl true)) nilA)))))) nextG)
  (ifG (testB (bin2 neD (callV 3 K46.L_told.f (consA (konst (.int 2)) (consA (getW 5) (consA (getW 6) nilA)))) (getW 4))) (retG (konst (.bl false))) nextG)))))
noncomputable def K46.law.g : FS := (seqG (setG 1 (bin2 subD (bin2 modD (bin2 fdivD (callV 2 GL.nth.f (consA (getW 0) (consA (konst (.int 0)) nilA))) (konst (.int 2))) (bin2 ixD (mkL (sized (consA (konst (.int 41)) (consA (bin2 powD (konst (.int 10)) (konst (.int 60))) nilA)))) (bin2 modD (callV 2 GL.nth.f (consA (getW 0) (consA (konst (.int 0)) nilA))) (konst (.int 2))))) (konst (.int 20))))
  (seqG (forG (rng1 (konst (.int 2))) (nameG 2) K46.law.b1)
  (seqG (forG (rng3 (konst (.int 3)) (konst (.int 7)) (konst (.int 2))) (nameG 2) K46.law.b2)
  (retG (konst (.bl true))))))
noncomputable def K46.law.f : List D → Option Ret := runG K46.law.g 7

end

namespace K46
open PySem PyProof.Rows L2 FL
def top (i : Nat) : Stmt := PySem.Challenge.pw_spanmap_k46_refused_deeds.main.body.getD i (.Pass ⟨0, 0, 0, 0⟩)
structure Glb (K : Frag) (mg : Str → Option Value) : Prop where
  b_ValueError : mg "ValueError" = none
  b_isinstance : mg "isinstance" = none
  b_max : mg "max" = none
  b_min : mg "min" = none
  b_range : mg "range" = none
  c_MOST_SHARE : ∃ t, mg "MOST_SHARE" = some (.int 1000 t)
  fl_at : FldOk K "at" [(1, 1), (2, 1)]
  fl_bottom : FldOk K "bottom" [(4, 2)]
  fl_many : FldOk K "many" [(1, 2), (2, 2)]
  fl_top : FldOk K "top" [(4, 1)]
  iso_Deed : ∃ C, mg "Deed" = some (.ref C) ∧ IsoOk K C [(1, true), (2, true), (4, true), (6, true)]
  isx_Empty_4_5 : ∃ D, mg "Empty" = some (.ref D) ∧ IsxOk K (.ref D) [(4, false), (5, false)]
  isx_NoEnd_4_5 : ∃ D, mg "NoEnd" = some (.ref D) ∧ IsxOk K (.ref D) [(4, false), (5, false)]
  isx_Clash_4_5 : ∃ D, mg "Clash" = some (.ref D) ∧ IsxOk K (.ref D) [(4, false), (5, false)]
  isx_NoName_4_5 : ∃ D, mg "NoName" = some (.ref D) ∧ IsxOk K (.ref D) [(4, false), (5, false)]
  isx_NoMark_4_5 : ∃ D, mg "NoMark" = some (.ref D) ∧ IsxOk K (.ref D) [(4, false), (5, false)]
  isx_NoDeed_4_5 : ∃ D, mg "NoDeed" = some (.ref D) ∧ IsxOk K (.ref D) [(4, false), (5, false)]
  isx_NoRule_4_5 : ∃ D, mg "NoRule" = some (.ref D) ∧ IsxOk K (.ref D) [(4, false), (5, false)]
  isx_TooMuch_4_5 : ∃ D, mg "TooMuch" = some (.ref D) ∧ IsxOk K (.ref D) [(4, false), (5, false)]
  isx_NoText_4_5 : ∃ D, mg "NoText" = some (.ref D) ∧ IsxOk K (.ref D) [(4, false), (5, false)]
  isx_NoRow_4_5 : ∃ D, mg "NoRow" = some (.ref D) ∧ IsxOk K (.ref D) [(4, false), (5, false)]
  isx_NoShare_4_5 : ∃ D, mg "NoShare" = some (.ref D) ∧ IsxOk K (.ref D) [(4, false), (5, true)]
  isx_NoCount_4_5 : ∃ D, mg "NoCount" = some (.ref D) ∧ IsxOk K (.ref D) [(4, true), (5, false)]
  isxB_ValueError_4_5 : IsxOk K (.type "ValueError") [(4, true), (5, true)]
section
variable {P : Program} {w : World} {K : Frag} {mg : Str → Option Value} {base : Heap}
theorem sc_Deed___init__ : FnScope ["self"] ["self"] (defScope (inClass (top 17) 0)) := ⟨rfl, rfl, rfl, by decide +kernel, rfl, by decide +kernel, by decide +kernel⟩
theorem body_Deed___init__ {f : Addr} (T : Glb K mg)  (cdv : Value) (A : Around) (outer : List Env) (s : Shared) (H : Hp) (E : XK) (hr : Room 0 (A.deeper (envOfC "Deed.__init__" (defScope (inClass (top 17) 0)) s.heap.objs.size f cdv))) :
    PIs (cxOf CX0 P w K mg base ["self"] "Deed.__init__" (defScope (inClass (top 17) 0)) f cdv A outer s H E).nox (defBody (inClass (top 17) 0)) ["fill"] GP.Deed___init__2.i := by
  have nd : (["self"] : List Str).Nodup := sc_Deed___init__.nd
  exact (pis_one (pi_fld pv_non))
theorem fok_Deed___init__ {f : Addr} {fd : FuncData} (Fn : Fun K "__init__" "Deed.__init__" (inClass (top 17) 0) f fd) (T : Glb K mg)  : FnOk P w K mg base CX0 1 f fd ["self"] (spN K 0 ["fill"] GP.Deed___init__2.f) :=
  init_ok (k := 0) (n := 0) (m := 1) (g := GP.Deed___init__2.i) Fn sc_Deed___init__ (fun cdv A outer s H E hr => body_Deed___init__ T  cdv A outer s H E hr) rfl (by decide) rfl

theorem sc_check_many : FnScope ["many"] ["many"] (defScope (top 21)) := ⟨rfl, rfl, rfl, by decide +kernel, rfl, by decide +kernel, by decide +kernel⟩
theorem body_check_many {f : Addr} (T : Glb K mg)  (cdv : Value) (A : Around) (outer : List Env) (s : Shared) (H : Hp) (E : XK) (hr : Room 0 (A.deeper (envOfC "check_many" (defScope (top 21)) s.heap.objs.size f cdv))) :
    PSsv (cxOf CX0 P w K mg base ["many"] "check_many" (defScope (top 21)) f cdv A outer s H E).nox (defBody (top 21)) GP.check_many.g := by
  have nd : (["many"] : List Str).Nodup := sc_check_many.nd
  exact (pssv_one (psv_if (pt_lt (pw_var 0) (PV.w pv_int)) (pssv_one psv_never) pssv_nil))
theorem fok_check_many {f : Addr} {fd : FuncData} (Fn : Fun K "check_many" "check_many" (top 21) f fd) (T : Glb K mg)  : FnOk P w K mg base CX0 1 f fd ["many"] (spF K 1 GP.check_many.f) :=
  fun_ok (k := 0) (F := GP.check_many.f) (g := GP.check_many.g) Fn sc_check_many (fun cdv A outer s H E hr => body_check_many T  cdv A outer s H E hr) (fun ds r hl e => does_run e)

theorem body_check_many_4 {f XC : Addr} (T : Glb K mg)  (R : XR K mg 4 XC) (cdv : Value) (A : Around) (outer : List Env) (s : Shared) (H : Hp) (E : XK) (hr : Room 0 (A.deeper (envOfC "check_many" (defScope (top 21)) s.heap.objs.size f cdv))) :
    PSsy (cxOf (CXM P w) P w K mg base ["many"] "check_many" (defScope (top 21)) f cdv A outer s H E) E XC (defBody (top 21)) K46.X_check_many_4.x := by
  have nd : (["many"] : List Str).Nodup := sc_check_many.nd
  exact (pssy_head (psy_if (pt_lt (pw_var 0) (PV.w pv_int)) (pssy_head (PSx.y (psx_raise R.cls R.gl))
    (PSsv.any pssv_nil)) (pssy_never (PSsv.any pssv_nil)))
    (PSsv.any pssv_nil))
theorem fokx_check_many_4 {f XC : Addr} {fd : FuncData} (Fn : Fun K "check_many" "check_many" (top 21) f fd) (T : Glb K mg)  (R : XR K mg 4 XC) : FnOk P w K mg base (CXM P w) 1 f fd ["many"] (spX K 1 K46.X_check_many_4.f XC) :=
  fun_okY (k := 0) (g := K46.X_check_many_4.x) Fn sc_check_many (fun cdv A outer s H E hr => body_check_many_4 T  R cdv A outer s H E hr) (fun ds hl e => e)

theorem sc_Widen___init__ : FnScope ["self", "at", "many"] ["self", "at", "many"] (defScope (inClass (top 18) 0)) := ⟨rfl, rfl, rfl, by decide +kernel, rfl, by decide +kernel, by decide +kernel⟩
theorem body_Widen___init__ {f : Addr} (T : Glb K mg) (C_check_many : Cal P w K mg base "check_many" 1 1 GP.check_many.f) (S_Deed : SCal P w K mg base "Deed" 1 ["fill"] GP.Deed___init__2.f) (cdv : Value) (A : Around) (outer : List Env) (s : Shared) (H : Hp) (E : XK) (hr : Room 1 (A.deeper (envOfC "Widen.__init__" (defScope (inClass (top 18) 0)) s.heap.objs.size f cdv))) :
    PIs (cxOf CX0 P w K mg base ["self", "at", "many"] "Widen.__init__" (defScope (inClass (top 18) 0)) f cdv A outer s H E).nox (defBody (inClass (top 18) 0)) ["fill", "at", "many"] GP.Widen___init__2.i := by
  have nd : (["self", "at", "many"] : List Str).Nodup := sc_Widen___init__.nd
  exact (pis_cons (ns := []) (ms := ["fill", "at", "many"]) (pi_call (pv_callC C_check_many hr (pan_cons (PVw.n (pw_var 2)) pan_nil)))
    (pis_cons (ns := ["fill"]) (ms := ["at", "many"]) (pi_sup S_Deed hr)
    (pis_cons (ns := ["at"]) (ms := ["many"]) (pi_fld (pv_var 1))
    (pis_one (pi_fld (pv_var 2))))))
theorem fok_Widen___init__ {f : Addr} {fd : FuncData} (Fn : Fun K "__init__" "Widen.__init__" (inClass (top 18) 0) f fd) (T : Glb K mg) (C_check_many : Cal P w K mg base "check_many" 1 1 GP.check_many.f) (S_Deed : SCal P w K mg base "Deed" 1 ["fill"] GP.Deed___init__2.f) : FnOk P w K mg base CX0 2 f fd ["self", "at", "many"] (spN K 2 ["fill", "at", "many"] GP.Widen___init__2.f) :=
  init_ok (k := 1) (n := 2) (m := 3) (g := GP.Widen___init__2.i) Fn sc_Widen___init__ (fun cdv A outer s H E hr => body_Widen___init__ T C_check_many S_Deed cdv A outer s H E hr) rfl (by decide) rfl

theorem body_Widen___init___4 {f XC : Addr} (T : Glb K mg) (C_check_many : Cal P w K mg base "check_many" 1 1 GP.check_many.f) (S_Deed : SCal P w K mg base "Deed" 1 ["fill"] GP.Deed___init__2.f) (CX_check_many_4 : CalX P w K mg base "check_many" 1 1 K46.X_check_many_4.f XC) (cdv : Value) (A : Around) (outer : List Env) (s : Shared) (H : Hp) (E : XK) (hr : Room 1 (A.deeper (envOfC "Widen.__init__" (defScope (inClass (top 18) 0)) s.heap.objs.size f cdv))) :
    PSsy (cxOf (CXM P w) P w K mg base ["self", "at", "many"] "Widen.__init__" (defScope (inClass (top 18) 0)) f cdv A outer s H E) E XC (defBody (inClass (top 18) 0)) K46.X_Widen___init___4.x := by
  have nd : (["self", "at", "many"] : List Str).Nodup := sc_Widen___init__.nd
  exact (pssy_head (psy_expr (pey_call pass_on CX_check_many_4 hr (pan_cons (PVw.n (pw_var 2)) pan_nil)))
    (PIs.any (ns := ["fill", "at", "many"]) (pis_cons (ns := ["fill"]) (ms := ["at", "many"]) (pi_sup S_Deed hr)
    (pis_cons (ns := ["at"]) (ms := ["many"]) (pi_fld (pv_var 1))
    (pis_one (pi_fld (pv_var 2)))))))
theorem fokx_Widen___init___4 {f XC : Addr} {fd : FuncData} (Fn : Fun K "__init__" "Widen.__init__" (inClass (top 18) 0) f fd) (T : Glb K mg) (C_check_many : Cal P w K mg base "check_many" 1 1 GP.check_many.f) (S_Deed : SCal P w K mg base "Deed" 1 ["fill"] GP.Deed___init__2.f) (CX_check_many_4 : CalX P w K mg base "check_many" 1 1 K46.X_check_many_4.f XC) : FnOk P w K mg base (CXM P w) 2 f fd ["self", "at", "many"] (spXN K 2 K46.X_Widen___init___4.f XC) :=
  init_okY (k := 1) (n := 2) (g := K46.X_Widen___init___4.x) Fn sc_Widen___init__ (fun cdv A outer s H E hr => body_Widen___init___4 T C_check_many S_Deed CX_check_many_4 cdv A outer s H E hr) rfl

theorem sc_taken_out : FnScope ["place", "at", "many"] ["place", "at", "many"] (defScope (top 24)) := ⟨rfl, rfl, rfl, by decide +kernel, rfl, by decide +kernel, by decide +kernel⟩
theorem body_taken_out {f : Addr} (T : Glb K mg)  (cdv : Value) (A : Around) (outer : List Env) (s : Shared) (H : Hp) (E : XK) (hr : Room 0 (A.deeper (envOfC "taken_out" (defScope (top 24)) s.heap.objs.size f cdv))) :
    PSsv (cxOf CX0 P w K mg base ["place", "at", "many"] "taken_out" (defScope (top 24)) f cdv A outer s H E).nox (defBody (top 24)) GP.taken_out.g := by
  have nd : (["place", "at", "many"] : List Str).Nodup := sc_taken_out.nd
  exact (pssv_cons (psv_if (pt_lt (pw_var 0) (pw_var 1)) (pssv_one (psv_ret (pw_var 0))) pssv_nil)
    (pssv_one (psv_ret (PV.w (pv_if (pt_lt (pw_var 0) (PV.w (pv_addI (pw_var 1) (pw_var 2)))) pv_non (pv_subI (pw_var 0) (pw_var 2)))))))
theorem fok_taken_out {f : Addr} {fd : FuncData} (Fn : Fun K "taken_out" "taken_out" (top 24) f fd) (T : Glb K mg)  : FnOk P w K mg base CX0 1 f fd ["place", "at", "many"] (spF K 3 GP.taken_out.f) :=
  fun_ok (k := 0) (F := GP.taken_out.f) (g := GP.taken_out.g) Fn sc_taken_out (fun cdv A outer s H E hr => body_taken_out T  cdv A outer s H E hr) (fun ds r hl e => does_run e)

theorem sc_Widen_came : FnScope ["self", "place"] ["self", "place"] (defScope (inClass (top 18) 1)) := ⟨rfl, rfl, rfl, by decide +kernel, rfl, by decide +kernel, by decide +kernel⟩
theorem body_Widen_came {f : Addr} (T : Glb K mg) (C_taken_out : Cal P w K mg base "taken_out" 1 3 GP.taken_out.f) (cdv : Value) (A : Around) (outer : List Env) (s : Shared) (H : Hp) (E : XK) (hr : Room 1 (A.deeper (envOfC "Widen.came" (defScope (inClass (top 18) 1)) s.heap.objs.size f cdv))) :
    PSsv (cxOf CX0 P w K mg base ["self", "place"] "Widen.came" (defScope (inClass (top 18) 1)) f cdv A outer s H E).nox (defBody (inClass (top 18) 1)) GP.Widen_came.g := by
  have nd : (["self", "place"] : List Str).Nodup := sc_Widen_came.nd
  exact (pssv_one (psv_ret (PV.w (pv_callC C_taken_out hr (pan_cons (PVw.n (pw_var 1)) (pan_cons (PV.n (pv_fld T.fl_at (pv_var 0))) (pan_cons (PV.n (pv_fld T.fl_many (pv_var 0))) pan_nil)))))))
theorem fok_Widen_came {f : Addr} {fd : FuncData} (Fn : Fun K "came" "Widen.came" (inClass (top 18) 1) f fd) (T : Glb K mg) (C_taken_out : Cal P w K mg base "taken_out" 1 3 GP.taken_out.f) : FnOk P w K mg base CX0 2 f fd ["self", "place"] (spF K 2 GP.Widen_came.f) :=
  fun_ok (k := 1) (F := GP.Widen_came.f) (g := GP.Widen_came.g) Fn sc_Widen_came (fun cdv A outer s H E hr => body_Widen_came T C_taken_out cdv A outer s H E hr) (fun ds r hl e => does_run e)

theorem sc_Narrow___init__ : FnScope ["self", "at", "many"] ["self", "at", "many"] (defScope (inClass (top 19) 0)) := ⟨rfl, rfl, rfl, by decide +kernel, rfl, by decide +kernel, by decide +kernel⟩
theorem body_Narrow___init__ {f : Addr} (T : Glb K mg) (C_check_many : Cal P w K mg base "check_many" 1 1 GP.check_many.f) (S_Deed : SCal P w K mg base "Deed" 1 ["fill"] GP.Deed___init__2.f) (cdv : Value) (A : Around) (outer : List Env) (s : Shared) (H : Hp) (E : XK) (hr : Room 1 (A.deeper (envOfC "Narrow.__init__" (defScope (inClass (top 19) 0)) s.heap.objs.size f cdv))) :
    PIs (cxOf CX0 P w K mg base ["self", "at", "many"] "Narrow.__init__" (defScope (inClass (top 19) 0)) f cdv A outer s H E).nox (defBody (inClass (top 19) 0)) ["fill", "at", "many"] GP.Widen___init__2.i := by
  have nd : (["self", "at", "many"] : List Str).Nodup := sc_Narrow___init__.nd
  exact (pis_cons (ns := []) (ms := ["fill", "at", "many"]) (pi_call (pv_callC C_check_many hr (pan_cons (PVw.n (pw_var 2)) pan_nil)))
    (pis_cons (ns := ["fill"]) (ms := ["at", "many"]) (pi_sup S_Deed hr)
    (pis_cons (ns := ["at"]) (ms := ["many"]) (pi_fld (pv_var 1))
    (pis_one (pi_fld (pv_var 2))))))
theorem fok_Narrow___init__ {f : Addr} {fd : FuncData} (Fn : Fun K "__init__" "Narrow.__init__" (inClass (top 19) 0) f fd) (T : Glb K mg) (C_check_many : Cal P w K mg base "check_many" 1 1 GP.check_many.f) (S_Deed : SCal P w K mg base "Deed" 1 ["fill"] GP.Deed___init__2.f) : FnOk P w K mg base CX0 2 f fd ["self", "at", "many"] (spN K 2 ["fill", "at", "many"] GP.Widen___init__2.f) :=
  init_ok (k := 1) (n := 2) (m := 3) (g := GP.Widen___init__2.i) Fn sc_Narrow___init__ (fun cdv A outer s H E hr => body_Narrow___init__ T C_check_many S_Deed cdv A outer s H E hr) rfl (by decide) rfl

theorem body_Narrow___init___4 {f XC : Addr} (T : Glb K mg) (C_check_many : Cal P w K mg base "check_many" 1 1 GP.check_many.f) (S_Deed : SCal P w K mg base "Deed" 1 ["fill"] GP.Deed___init__2.f) (CX_check_many_4 : CalX P w K mg base "check_many" 1 1 K46.X_check_many_4.f XC) (cdv : Value) (A : Around) (outer : List Env) (s : Shared) (H : Hp) (E : XK) (hr : Room 1 (A.deeper (envOfC "Narrow.__init__" (defScope (inClass (top 19) 0)) s.heap.objs.size f cdv))) :
    PSsy (cxOf (CXM P w) P w K mg base ["self", "at", "many"] "Narrow.__init__" (defScope (inClass (top 19) 0)) f cdv A outer s H E) E XC (defBody (inClass (top 19) 0)) K46.X_Narrow___init___4.x := by
  have nd : (["self", "at", "many"] : List Str).Nodup := sc_Narrow___init__.nd
  exact (pssy_head (psy_expr (pey_call pass_on CX_check_many_4 hr (pan_cons (PVw.n (pw_var 2)) pan_nil)))
    (PIs.any (ns := ["fill", "at", "many"]) (pis_cons (ns := ["fill"]) (ms := ["at", "many"]) (pi_sup S_Deed hr)
    (pis_cons (ns := ["at"]) (ms := ["many"]) (pi_fld (pv_var 1))
    (pis_one (pi_fld (pv_var 2)))))))
theorem fokx_Narrow___init___4 {f XC : Addr} {fd : FuncData} (Fn : Fun K "__init__" "Narrow.__init__" (inClass (top 19) 0) f fd) (T : Glb K mg) (C_check_many : Cal P w K mg base "check_many" 1 1 GP.check_many.f) (S_Deed : SCal P w K mg base "Deed" 1 ["fill"] GP.Deed___init__2.f) (CX_check_many_4 : CalX P w K mg base "check_many" 1 1 K46.X_check_many_4.f XC) : FnOk P w K mg base (CXM P w) 2 f fd ["self", "at", "many"] (spXN K 2 K46.X_Narrow___init___4.f XC) :=
  init_okY (k := 1) (n := 2) (g := K46.X_Narrow___init___4.x) Fn sc_Narrow___init__ (fun cdv A outer s H E hr => body_Narrow___init___4 T C_check_many S_Deed CX_check_many_4 cdv A outer s H E hr) rfl

theorem sc_opened : FnScope ["place", "at", "many"] ["place", "at", "many"] (defScope (top 23)) := ⟨rfl, rfl, rfl, by decide +kernel, rfl, by decide +kernel, by decide +kernel⟩
theorem body_opened {f : Addr} (T : Glb K mg)  (cdv : Value) (A : Around) (outer : List Env) (s : Shared) (H : Hp) (E : XK) (hr : Room 0 (A.deeper (envOfC "opened" (defScope (top 23)) s.heap.objs.size f cdv))) :
    PSsv (cxOf CX0 P w K mg base ["place", "at", "many"] "opened" (defScope (top 23)) f cdv A outer s H E).nox (defBody (top 23)) GP.opened.g := by
  have nd : (["place", "at", "many"] : List Str).Nodup := sc_opened.nd
  exact (pssv_one (psv_ret (PV.w (pv_if (pt_lt (pw_var 0) (pw_var 1)) (pv_var 0) (pv_addI (pw_var 0) (pw_var 2))))))
theorem fok_opened {f : Addr} {fd : FuncData} (Fn : Fun K "opened" "opened" (top 23) f fd) (T : Glb K mg)  : FnOk P w K mg base CX0 1 f fd ["place", "at", "many"] (spF K 3 GP.opened.f) :=
  fun_ok (k := 0) (F := GP.opened.f) (g := GP.opened.g) Fn sc_opened (fun cdv A outer s H E hr => body_opened T  cdv A outer s H E hr) (fun ds r hl e => does_run e)

theorem sc_Narrow_came : FnScope ["self", "place"] ["self", "place"] (defScope (inClass (top 19) 1)) := ⟨rfl, rfl, rfl, by decide +kernel, rfl, by decide +kernel, by decide +kernel⟩
theorem body_Narrow_came {f : Addr} (T : Glb K mg) (C_opened : Cal P w K mg base "opened" 1 3 GP.opened.f) (cdv : Value) (A : Around) (outer : List Env) (s : Shared) (H : Hp) (E : XK) (hr : Room 1 (A.deeper (envOfC "Narrow.came" (defScope (inClass (top 19) 1)) s.heap.objs.size f cdv))) :
    PSsv (cxOf CX0 P w K mg base ["self", "place"] "Narrow.came" (defScope (inClass (top 19) 1)) f cdv A outer s H E).nox (defBody (inClass (top 19) 1)) GP.Narrow_came.g := by
  have nd : (["self", "place"] : List Str).Nodup := sc_Narrow_came.nd
  exact (pssv_one (psv_ret (PV.w (pv_callC C_opened hr (pan_cons (PVw.n (pw_var 1)) (pan_cons (PV.n (pv_fld T.fl_at (pv_var 0))) (pan_cons (PV.n (pv_fld T.fl_many (pv_var 0))) pan_nil)))))))
theorem fok_Narrow_came {f : Addr} {fd : FuncData} (Fn : Fun K "came" "Narrow.came" (inClass (top 19) 1) f fd) (T : Glb K mg) (C_opened : Cal P w K mg base "opened" 1 3 GP.opened.f) : FnOk P w K mg base CX0 2 f fd ["self", "place"] (spF K 2 GP.Narrow_came.f) :=
  fun_ok (k := 1) (F := GP.Narrow_came.f) (g := GP.Narrow_came.g) Fn sc_Narrow_came (fun cdv A outer s H E hr => body_Narrow_came T C_opened cdv A outer s H E hr) (fun ds r hl e => does_run e)

theorem sc_check_share : FnScope ["number"] ["number"] (defScope (top 22)) := ⟨rfl, rfl, rfl, by decide +kernel, rfl, by decide +kernel, by decide +kernel⟩
theorem body_check_share {f : Addr} (T : Glb K mg)  (cdv : Value) (A : Around) (outer : List Env) (s : Shared) (H : Hp) (E : XK) (hr : Room 0 (A.deeper (envOfC "check_share" (defScope (top 22)) s.heap.objs.size f cdv))) :
    PSsv (cxOf CX0 P w K mg base ["number"] "check_share" (defScope (top 22)) f cdv A outer s H E).nox (defBody (top 22)) GP.check_share.g := by
  have nd : (["number"] : List Str).Nodup := sc_check_share.nd
  exact (pssv_one (psv_if (PWv.t (pwv_or (pt_lt (pw_var 0) (PV.w pv_int)) (pwv_or1 (pt_gt (pw_var 0) (PV.w (pv_globI T.c_MOST_SHARE)))))) (pssv_one psv_never) pssv_nil))
theorem fok_check_share {f : Addr} {fd : FuncData} (Fn : Fun K "check_share" "check_share" (top 22) f fd) (T : Glb K mg)  : FnOk P w K mg base CX0 1 f fd ["number"] (spF K 1 GP.check_share.f) :=
  fun_ok (k := 0) (F := GP.check_share.f) (g := GP.check_share.g) Fn sc_check_share (fun cdv A outer s H E hr => body_check_share T  cdv A outer s H E hr) (fun ds r hl e => does_run e)

theorem body_check_share_5 {f XC : Addr} (T : Glb K mg)  (R : XR K mg 5 XC) (cdv : Value) (A : Around) (outer : List Env) (s : Shared) (H : Hp) (E : XK) (hr : Room 0 (A.deeper (envOfC "check_share" (defScope (top 22)) s.heap.objs.size f cdv))) :
    PSsy (cxOf (CXM P w) P w K mg base ["number"] "check_share" (defScope (top 22)) f cdv A outer s H E) E XC (defBody (top 22)) K46.X_check_share_5.x := by
  have nd : (["number"] : List Str).Nodup := sc_check_share.nd
  exact (pssy_head (psy_if (PWv.t (pwv_or (pt_lt (pw_var 0) (PV.w pv_int)) (pwv_or1 (pt_gt (pw_var 0) (PV.w (pv_globI T.c_MOST_SHARE)))))) (pssy_head (PSx.y (psx_raise R.cls R.gl))
    (PSsv.any pssv_nil)) (pssy_never (PSsv.any pssv_nil)))
    (PSsv.any pssv_nil))
theorem fokx_check_share_5 {f XC : Addr} {fd : FuncData} (Fn : Fun K "check_share" "check_share" (top 22) f fd) (T : Glb K mg)  (R : XR K mg 5 XC) : FnOk P w K mg base (CXM P w) 1 f fd ["number"] (spX K 1 K46.X_check_share_5.f XC) :=
  fun_okY (k := 0) (g := K46.X_check_share_5.x) Fn sc_check_share (fun cdv A outer s H E hr => body_check_share_5 T  R cdv A outer s H E hr) (fun ds hl e => e)

theorem sc_Stretch___init__ : FnScope ["self", "top", "bottom"] ["self", "top", "bottom"] (defScope (inClass (top 20) 0)) := ⟨rfl, rfl, rfl, by decide +kernel, rfl, by decide +kernel, by decide +kernel⟩
theorem body_Stretch___init__ {f : Addr} (T : Glb K mg) (C_check_share : Cal P w K mg base "check_share" 1 1 GP.check_share.f) (S_Deed : SCal P w K mg base "Deed" 1 ["fill"] GP.Deed___init__2.f) (cdv : Value) (A : Around) (outer : List Env) (s : Shared) (H : Hp) (E : XK) (hr : Room 1 (A.deeper (envOfC "Stretch.__init__" (defScope (inClass (top 20) 0)) s.heap.objs.size f cdv))) :
    PIs (cxOf CX0 P w K mg base ["self", "top", "bottom"] "Stretch.__init__" (defScope (inClass (top 20) 0)) f cdv A outer s H E).nox (defBody (inClass (top 20) 0)) ["fill", "top", "bottom"] GP.Stretch___init__2.i := by
  have nd : (["self", "top", "bottom"] : List Str).Nodup := sc_Stretch___init__.nd
  exact (pis_cons (ns := []) (ms := ["fill", "top", "bottom"]) (pi_call (pv_callC C_check_share hr (pan_cons (PVw.n (pw_var 1)) pan_nil)))
    (pis_cons (ns := []) (ms := ["fill", "top", "bottom"]) (pi_call (pv_callC C_check_share hr (pan_cons (PVw.n (pw_var 2)) pan_nil)))
    (pis_cons (ns := ["fill"]) (ms := ["top", "bottom"]) (pi_sup S_Deed hr)
    (pis_cons (ns := ["top"]) (ms := ["bottom"]) (pi_fld (pv_var 1))
    (pis_one (pi_fld (pv_var 2)))))))
theorem fok_Stretch___init__ {f : Addr} {fd : FuncData} (Fn : Fun K "__init__" "Stretch.__init__" (inClass (top 20) 0) f fd) (T : Glb K mg) (C_check_share : Cal P w K mg base "check_share" 1 1 GP.check_share.f) (S_Deed : SCal P w K mg base "Deed" 1 ["fill"] GP.Deed___init__2.f) : FnOk P w K mg base CX0 2 f fd ["self", "top", "bottom"] (spN K 2 ["fill", "top", "bottom"] GP.Stretch___init__2.f) :=
  init_ok (k := 1) (n := 2) (m := 3) (g := GP.Stretch___init__2.i) Fn sc_Stretch___init__ (fun cdv A outer s H E hr => body_Stretch___init__ T C_check_share S_Deed cdv A outer s H E hr) rfl (by decide) rfl

theorem body_Stretch___init___5 {f XC : Addr} (T : Glb K mg) (C_check_share : Cal P w K mg base "check_share" 1 1 GP.check_share.f) (S_Deed : SCal P w K mg base "Deed" 1 ["fill"] GP.Deed___init__2.f) (CX_check_share_5 : CalX P w K mg base "check_share" 1 1 K46.X_check_share_5.f XC) (cdv : Value) (A : Around) (outer : List Env) (s : Shared) (H : Hp) (E : XK) (hr : Room 1 (A.deeper (envOfC "Stretch.__init__" (defScope (inClass (top 20) 0)) s.heap.objs.size f cdv))) :
    PSsy (cxOf (CXM P w) P w K mg base ["self", "top", "bottom"] "Stretch.__init__" (defScope (inClass (top 20) 0)) f cdv A outer s H E) E XC (defBody (inClass (top 20) 0)) K46.X_Stretch___init___5.x := by
  have nd : (["self", "top", "bottom"] : List Str).Nodup := sc_Stretch___init__.nd
  exact (pssy_cons (psy_expr (pey_call pass_on CX_check_share_5 hr (pan_cons (PVw.n (pw_var 1)) pan_nil)))
    (psv_drop (pv_callC C_check_share hr (pan_cons (PVw.n (pw_var 1)) pan_nil)))
    (pssy_head (psy_expr (pey_call pass_on CX_check_share_5 hr (pan_cons (PVw.n (pw_var 2)) pan_nil)))
    (PIs.any (ns := ["fill", "top", "bottom"]) (pis_cons (ns := ["fill"]) (ms := ["top", "bottom"]) (pi_sup S_Deed hr)
    (pis_cons (ns := ["top"]) (ms := ["bottom"]) (pi_fld (pv_var 1))
    (pis_one (pi_fld (pv_var 2))))))))
theorem fokx_Stretch___init___5 {f XC : Addr} {fd : FuncData} (Fn : Fun K "__init__" "Stretch.__init__" (inClass (top 20) 0) f fd) (T : Glb K mg) (C_check_share : Cal P w K mg base "check_share" 1 1 GP.check_share.f) (S_Deed : SCal P w K mg base "Deed" 1 ["fill"] GP.Deed___init__2.f) (CX_check_share_5 : CalX P w K mg base "check_share" 1 1 K46.X_check_share_5.f XC) : FnOk P w K mg base (CXM P w) 2 f fd ["self", "top", "bottom"] (spXN K 2 K46.X_Stretch___init___5.f XC) :=
  init_okY (k := 1) (n := 2) (g := K46.X_Stretch___init___5.x) Fn sc_Stretch___init__ (fun cdv A outer s H E hr => body_Stretch___init___5 T C_check_share S_Deed CX_check_share_5 cdv A outer s H E hr) rfl

theorem sc_Stretch_came : FnScope ["self", "place"] ["self", "place"] (defScope (inClass (top 20) 1)) := ⟨rfl, rfl, rfl, by decide +kernel, rfl, by decide +kernel, by decide +kernel⟩
theorem body_Stretch_came {f : Addr} (T : Glb K mg)  (cdv : Value) (A : Around) (outer : List Env) (s : Shared) (H : Hp) (E : XK) (hr : Room 0 (A.deeper (envOfC "Stretch.came" (defScope (inClass (top 20) 1)) s.heap.objs.size f cdv))) :
    PSsv (cxOf CX0 P w K mg base ["self", "place"] "Stretch.came" (defScope (inClass (top 20) 1)) f cdv A outer s H E).nox (defBody (inClass (top 20) 1)) GP.Stretch_came.g := by
  have nd : (["self", "place"] : List Str).Nodup := sc_Stretch_came.nd
  exact (pssv_one (psv_ret (PV.w (pv_divI (PV.w (pv_mulI (pw_var 1) (PV.w (pv_fld T.fl_bottom (pv_var 0))))) (PV.w (pv_fld T.fl_top (pv_var 0)))))))
theorem fok_Stretch_came {f : Addr} {fd : FuncData} (Fn : Fun K "came" "Stretch.came" (inClass (top 20) 1) f fd) (T : Glb K mg)  : FnOk P w K mg base CX0 1 f fd ["self", "place"] (spF K 2 GP.Stretch_came.f) :=
  fun_ok (k := 0) (F := GP.Stretch_came.f) (g := GP.Stretch_came.g) Fn sc_Stretch_came (fun cdv A outer s H E hr => body_Stretch_came T  cdv A outer s H E hr) (fun ds r hl e => does_run e)

theorem sc__law_nth : FnScope ["_law_script", "_law_k", "_law_cells"] ["_law_script", "_law_k"] (defScope (top 26)) := ⟨rfl, rfl, rfl, by decide +kernel, rfl, by decide +kernel, by decide +kernel⟩
theorem body__law_nth {f : Addr} (T : Glb K mg)  (cdv : Value) (A : Around) (outer : List Env) (s : Shared) (H : Hp) (E : XK) (hr : Room 0 (A.deeper (envOfC "_law_nth" (defScope (top 26)) s.heap.objs.size f cdv))) :
    PSsv (cxOf CX0 P w K mg base ["_law_script", "_law_k", "_law_cells"] "_law_nth" (defScope (top 26)) f cdv A outer s H E).nox (defBody (top 26)) GL.nth.g := by
  have nd : (["_law_script", "_law_k", "_law_cells"] : List Str).Nodup := sc__law_nth.nd
  exact (pssv_cons (psv_set (i := 2) nd (PVf.s (pvf_cat (PV.w (PVf.s (pvf_slice (pw_var 0) (pov_so (pw_var 1)) (pov_so (PV.w (pv_addI (pw_var 1) (PV.w pv_int))))))) (PV.w (PVf.s (pvf_lst (pas_cons pv_int pas_nil)))))))
    (pssv_one (psv_ret (PV.w (pv_ix (pw_var 2) (PV.w pv_int))))))
theorem fok__law_nth {f : Addr} {fd : FuncData} (Fn : Fun K "_law_nth" "_law_nth" (top 26) f fd) (T : Glb K mg)  : FnOk P w K mg base CX0 1 f fd ["_law_script", "_law_k"] (spF K 2 GL.nth.f) :=
  fun_ok (k := 0) (F := GL.nth.f) (g := GL.nth.g) Fn sc__law_nth (fun cdv A outer s H E hr => body__law_nth T  cdv A outer s H E hr) (fun ds r hl e => does_run e)

theorem sc__law_many : FnScope ["_law_cell", "_law_far"] ["_law_cell"] (defScope (top 28)) := ⟨rfl, rfl, rfl, by decide +kernel, rfl, by decide +kernel, by decide +kernel⟩
theorem body__law_many {f : Addr} (T : Glb K mg)  (cdv : Value) (A : Around) (outer : List Env) (s : Shared) (H : Hp) (E : XK) (hr : Room 0 (A.deeper (envOfC "_law_many" (defScope (top 28)) s.heap.objs.size f cdv))) :
    PSsv (cxOf CX0 P w K mg base ["_law_cell", "_law_far"] "_law_many" (defScope (top 28)) f cdv A outer s H E).nox (defBody (top 28)) K46.L_many.g := by
  have nd : (["_law_cell", "_law_far"] : List Str).Nodup := sc__law_many.nd
  exact (pssv_cons (psv_set (i := 1) nd (pv_ix (PV.w (PVf.s (pvf_lst (pas_cons pv_int (pas_cons pv_int (pas_cons (pv_modI (PV.w (pv_divI (pw_var 0) (PV.w pv_int))) (PV.w (pv_powI (PV.w pv_int) (PV.w pv_int)))) (pas_cons (pv_addI (PV.w pv_int) (PV.w (pv_modI (PV.w (pv_divI (pw_var 0) (PV.w pv_int))) (PV.w pv_int)))) pas_nil))))))) (PV.w (pv_modI (PV.w (pv_divI (pw_var 0) (PV.w pv_int))) (PV.w pv_int)))))
    (pssv_one (psv_ret (PV.w (pv_ix (PV.w (PVf.s (pvf_lst (pas_cons (pv_var 1) (pas_cons (pv_subI (PV.w (pv_neg pv_int)) (pw_var 1)) pas_nil))))) (PV.w (pv_modI (pw_var 0) (PV.w pv_int))))))))
theorem fok__law_many {f : Addr} {fd : FuncData} (Fn : Fun K "_law_many" "_law_many" (top 28) f fd) (T : Glb K mg)  : FnOk P w K mg base CX0 1 f fd ["_law_cell"] (spF K 1 K46.L_many.f) :=
  fun_ok (k := 0) (F := K46.L_many.f) (g := K46.L_many.g) Fn sc__law_many (fun cdv A outer s H E hr => body__law_many T  cdv A outer s H E hr) (fun ds r hl e => does_run e)

theorem sc__law_part : FnScope ["_law_cell", "_law_far"] ["_law_cell"] (defScope (top 29)) := ⟨rfl, rfl, rfl, by decide +kernel, rfl, by decide +kernel, by decide +kernel⟩
theorem body__law_part {f : Addr} (T : Glb K mg)  (cdv : Value) (A : Around) (outer : List Env) (s : Shared) (H : Hp) (E : XK) (hr : Room 0 (A.deeper (envOfC "_law_part" (defScope (top 29)) s.heap.objs.size f cdv))) :
    PSsv (cxOf CX0 P w K mg base ["_law_cell", "_law_far"] "_law_part" (defScope (top 29)) f cdv A outer s H E).nox (defBody (top 29)) K46.L_part.g := by
  have nd : (["_law_cell", "_law_far"] : List Str).Nodup := sc__law_part.nd
  exact (pssv_cons (psv_set (i := 1) nd (pv_modI (PV.w (pv_divI (pw_var 0) (PV.w pv_int))) (PV.w (pv_powI (PV.w pv_int) (PV.w pv_int)))))
    (pssv_one (psv_ret (PV.w (pv_ix (PV.w (PVf.s (pvf_lst (pas_cons (pv_addI (PV.w pv_int) (PV.w (pv_modI (pw_var 1) (PV.w pv_int)))) (pas_cons pv_int (pas_cons pv_int (pas_cons (pv_addI (PV.w pv_int) (PV.w (pv_modI (pw_var 1) (PV.w pv_int)))) (pas_cons pv_int (pas_cons pv_int (pas_cons (pv_neg (pv_var 1)) (pas_cons (pv_addI (PV.w pv_int) (pw_var 1)) pas_nil))))))))))) (PV.w (pv_modI (pw_var 0) (PV.w pv_int))))))))
theorem fok__law_part {f : Addr} {fd : FuncData} (Fn : Fun K "_law_part" "_law_part" (top 29) f fd) (T : Glb K mg)  : FnOk P w K mg base CX0 1 f fd ["_law_cell"] (spF K 1 K46.L_part.f) :=
  fun_ok (k := 0) (F := K46.L_part.f) (g := K46.L_part.g) Fn sc__law_part (fun cdv A outer s H E hr => body__law_part T  cdv A outer s H E hr) (fun ds r hl e => does_run e)

theorem sc__law_classes : FnScope ["_law_e", "_law_found"] ["_law_e"] (defScope (top 30)) := ⟨rfl, rfl, rfl, by decide +kernel, rfl, by decide +kernel, by decide +kernel⟩
theorem fokh__law_classes {f : Addr} {fd : FuncData} (Fn : Fun K "_law_classes" "_law_classes" (top 30) f fd) (T : Glb K mg) : FnOkH P w K mg base 1 f fd ["_law_e"] (spH K K46.H__law_classes.h) := by
  have nd : (["_law_e", "_law_found"] : List Str).Nodup := sc__law_classes.nd
  exact fun_okH (k := 0) (g := K46.H__law_classes.g) Fn sc__law_classes fun cdv A outer s H E => (pssv_cons (psv_set (i := 1) nd (PVf.s (pvf_lst (pas_cons (pv_isx (i := 0) T.b_isinstance T.isx_NoCount_4_5) (pas_cons (pv_isx (i := 0) T.b_isinstance T.isx_NoShare_4_5) (pas_cons (pv_isx (i := 0) T.b_isinstance T.isx_Empty_4_5) (pas_cons (pv_isx (i := 0) T.b_isinstance T.isx_NoEnd_4_5) pas_nil)))))))
    (pssv_cons (psv_set (i := 1) nd (PVf.s (pvf_cat (pw_var 1) (PV.w (PVf.s (pvf_lst (pas_cons (pv_isx (i := 0) T.b_isinstance T.isx_Clash_4_5) (pas_cons (pv_isx (i := 0) T.b_isinstance T.isx_NoName_4_5) (pas_cons (pv_isx (i := 0) T.b_isinstance T.isx_NoMark_4_5) (pas_cons (pv_isx (i := 0) T.b_isinstance T.isx_NoDeed_4_5) pas_nil))))))))))
    (pssv_cons (psv_set (i := 1) nd (PVf.s (pvf_cat (pw_var 1) (PV.w (PVf.s (pvf_lst (pas_cons (pv_isx (i := 0) T.b_isinstance T.isx_NoRule_4_5) (pas_cons (pv_isx (i := 0) T.b_isinstance T.isx_TooMuch_4_5) (pas_cons (pv_isx (i := 0) T.b_isinstance T.isx_NoText_4_5) (pas_cons (pv_isx (i := 0) T.b_isinstance T.isx_NoRow_4_5) pas_nil))))))))))
    (pssv_one (psv_retF (pvf_cat (pw_var 1) (PV.w (PVf.s (pvf_lst (pas_cons (pv_isxB (i := 0) T.b_isinstance T.b_ValueError T.isxB_ValueError_4_5) pas_nil))))))))))

theorem sc__law_made : FnScope ["_law_which", "_law_one", "_law_other"] ["_law_which", "_law_one", "_law_other"] (defScope (top 31)) := ⟨rfl, rfl, rfl, by decide +kernel, rfl, by decide +kernel, by decide +kernel⟩
theorem body__law_made {f : Addr} (T : Glb K mg) (Mk_Stretch : MkC P w K mg base 4 2 2 GP.Stretch___init__2.f) (Mk_Widen : MkC P w K mg base 1 2 2 GP.Widen___init__2.f) (Mk_Narrow : MkC P w K mg base 2 2 2 GP.Widen___init__2.f) (cdv : Value) (A : Around) (outer : List Env) (s : Shared) (H : Hp) (E : XK) (hr : Room 3 (A.deeper (envOfC "_law_made" (defScope (top 31)) s.heap.objs.size f cdv))) :
    PSsv (cxOf CX0 P w K mg base ["_law_which", "_law_one", "_law_other"] "_law_made" (defScope (top 31)) f cdv A outer s H E).nox (defBody (top 31)) K46.L_made.g := by
  have nd : (["_law_which", "_law_one", "_law_other"] : List Str).Nodup := sc__law_made.nd
  exact (pssv_cons (psv_if (pt_eq hr (PVw.n (pw_var 0)) (PV.n pv_int)) (pssv_one (psv_retD (pvd_make Mk_Widen hr (pan_cons (PVw.n (pw_var 1)) (pan_cons (PVw.n (pw_var 2)) pan_nil))))) pssv_nil)
    (pssv_cons (psv_if (pt_eq hr (PVw.n (pw_var 0)) (PV.n pv_int)) (pssv_one (psv_retD (pvd_make Mk_Narrow hr (pan_cons (PVw.n (pw_var 1)) (pan_cons (PVw.n (pw_var 2)) pan_nil))))) pssv_nil)
    (pssv_one (psv_retD (pvd_make Mk_Stretch hr (pan_cons (PVw.n (pw_var 1)) (pan_cons (PVw.n (pw_var 2)) pan_nil)))))))
theorem fok__law_made {f : Addr} {fd : FuncData} (Fn : Fun K "_law_made" "_law_made" (top 31) f fd) (T : Glb K mg) (Mk_Stretch : MkC P w K mg base 4 2 2 GP.Stretch___init__2.f) (Mk_Widen : MkC P w K mg base 1 2 2 GP.Widen___init__2.f) (Mk_Narrow : MkC P w K mg base 2 2 2 GP.Widen___init__2.f) : FnOk P w K mg base CX0 4 f fd ["_law_which", "_law_one", "_law_other"] (spF K 3 K46.L_made.f) :=
  fun_ok (k := 3) (F := K46.L_made.f) (g := K46.L_made.g) Fn sc__law_made (fun cdv A outer s H E hr => body__law_made T Mk_Stretch Mk_Widen Mk_Narrow cdv A outer s H E hr) (fun ds r hl e => does_run e)

theorem body__law_made_4 {f XC : Addr} (T : Glb K mg) (Mk_Stretch : MkC P w K mg base 4 2 2 GP.Stretch___init__2.f) (Mk_Widen : MkC P w K mg base 1 2 2 GP.Widen___init__2.f) (Mk_Narrow : MkC P w K mg base 2 2 2 GP.Widen___init__2.f) (MX_Widen_4 : MkX P w K mg base 1 2 2 K46.X_Widen___init___4.f XC) (MX_Narrow_4 : MkX P w K mg base 2 2 2 K46.X_Narrow___init___4.f XC) (cdv : Value) (A : Around) (outer : List Env) (s : Shared) (H : Hp) (E : XK) (hr : Room 3 (A.deeper (envOfC "_law_made" (defScope (top 31)) s.heap.objs.size f cdv))) :
    PSsy (cxOf (CXM P w) P w K mg base ["_law_which", "_law_one", "_law_other"] "_law_made" (defScope (top 31)) f cdv A outer s H E) E XC (defBody (top 31)) K46.X__law_made_4.x := by
  have nd : (["_law_which", "_law_one", "_law_other"] : List Str).Nodup := sc__law_made.nd
  exact (pssy_cons (psy_if (pt_eq hr (PVw.n (pw_var 0)) (PV.n pv_int)) (pssy_head (psy_ret (pey_make pass_on MX_Widen_4 hr (pan_cons (PVw.n (pw_var 1)) (pan_cons (PVw.n (pw_var 2)) pan_nil))))
    (PSsv.any pssv_nil)) (pssy_never (PSsv.any pssv_nil)))
    (psv_if (pt_eq hr (PVw.n (pw_var 0)) (PV.n pv_int)) (pssv_one (psv_retD (pvd_make Mk_Widen hr (pan_cons (PVw.n (pw_var 1)) (pan_cons (PVw.n (pw_var 2)) pan_nil))))) pssv_nil)
    (pssy_head (psy_if (pt_eq hr (PVw.n (pw_var 0)) (PV.n pv_int)) (pssy_head (psy_ret (pey_make pass_on MX_Narrow_4 hr (pan_cons (PVw.n (pw_var 1)) (pan_cons (PVw.n (pw_var 2)) pan_nil))))
    (PSsv.any pssv_nil)) (pssy_never (PSsv.any pssv_nil)))
    (PSsv.any (pssv_one (psv_retD (pvd_make Mk_Stretch hr (pan_cons (PVw.n (pw_var 1)) (pan_cons (PVw.n (pw_var 2)) pan_nil))))))))
theorem fokx__law_made_4 {f XC : Addr} {fd : FuncData} (Fn : Fun K "_law_made" "_law_made" (top 31) f fd) (T : Glb K mg) (Mk_Stretch : MkC P w K mg base 4 2 2 GP.Stretch___init__2.f) (Mk_Widen : MkC P w K mg base 1 2 2 GP.Widen___init__2.f) (Mk_Narrow : MkC P w K mg base 2 2 2 GP.Widen___init__2.f) (MX_Widen_4 : MkX P w K mg base 1 2 2 K46.X_Widen___init___4.f XC) (MX_Narrow_4 : MkX P w K mg base 2 2 2 K46.X_Narrow___init___4.f XC) : FnOk P w K mg base (CXM P w) 4 f fd ["_law_which", "_law_one", "_law_other"] (spX K 3 K46.X__law_made_4.f XC) :=
  fun_okY (k := 3) (g := K46.X__law_made_4.x) Fn sc__law_made (fun cdv A outer s H E hr => body__law_made_4 T Mk_Stretch Mk_Widen Mk_Narrow MX_Widen_4 MX_Narrow_4 cdv A outer s H E hr) (fun ds hl e => e)

theorem body__law_made_5 {f XC : Addr} (T : Glb K mg) (Mk_Stretch : MkC P w K mg base 4 2 2 GP.Stretch___init__2.f) (Mk_Widen : MkC P w K mg base 1 2 2 GP.Widen___init__2.f) (Mk_Narrow : MkC P w K mg base 2 2 2 GP.Widen___init__2.f) (MX_Stretch_5 : MkX P w K mg base 4 2 2 K46.X_Stretch___init___5.f XC) (cdv : Value) (A : Around) (outer : List Env) (s : Shared) (H : Hp) (E : XK) (hr : Room 3 (A.deeper (envOfC "_law_made" (defScope (top 31)) s.heap.objs.size f cdv))) :
    PSsy (cxOf (CXM P w) P w K mg base ["_law_which", "_law_one", "_law_other"] "_law_made" (defScope (top 31)) f cdv A outer s H E) E XC (defBody (top 31)) K46.X__law_made_5.x := by
  have nd : (["_law_which", "_law_one", "_law_other"] : List Str).Nodup := sc__law_made.nd
  exact (pssy_tail (psv_if (pt_eq hr (PVw.n (pw_var 0)) (PV.n pv_int)) (pssv_one (psv_retD (pvd_make Mk_Widen hr (pan_cons (PVw.n (pw_var 1)) (pan_cons (PVw.n (pw_var 2)) pan_nil))))) pssv_nil)
    (pssy_tail (psv_if (pt_eq hr (PVw.n (pw_var 0)) (PV.n pv_int)) (pssv_one (psv_retD (pvd_make Mk_Narrow hr (pan_cons (PVw.n (pw_var 1)) (pan_cons (PVw.n (pw_var 2)) pan_nil))))) pssv_nil)
    (pssy_head (psy_ret (pey_make pass_on MX_Stretch_5 hr (pan_cons (PVw.n (pw_var 1)) (pan_cons (PVw.n (pw_var 2)) pan_nil))))
    (PSsv.any pssv_nil))))
theorem fokx__law_made_5 {f XC : Addr} {fd : FuncData} (Fn : Fun K "_law_made" "_law_made" (top 31) f fd) (T : Glb K mg) (Mk_Stretch : MkC P w K mg base 4 2 2 GP.Stretch___init__2.f) (Mk_Widen : MkC P w K mg base 1 2 2 GP.Widen___init__2.f) (Mk_Narrow : MkC P w K mg base 2 2 2 GP.Widen___init__2.f) (MX_Stretch_5 : MkX P w K mg base 4 2 2 K46.X_Stretch___init___5.f XC) : FnOk P w K mg base (CXM P w) 4 f fd ["_law_which", "_law_one", "_law_other"] (spX K 3 K46.X__law_made_5.f XC) :=
  fun_okY (k := 3) (g := K46.X__law_made_5.x) Fn sc__law_made (fun cdv A outer s H E hr => body__law_made_5 T Mk_Stretch Mk_Widen Mk_Narrow MX_Stretch_5 cdv A outer s H E hr) (fun ds hl e => e)

theorem sc__law_told : FnScope ["_law_which", "_law_one", "_law_other", "_law_found", "_law_deed", "_law_e"] ["_law_which", "_law_one", "_law_other"] (defScope (top 32)) := ⟨rfl, rfl, rfl, by decide +kernel, rfl, by decide +kernel, by decide +kernel⟩
theorem body__law_told {f : Addr} (T : Glb K mg) (C__law_made : Cal P w K mg base "_law_made" 4 3 K46.L_made.f) (CH__law_classes : CalH P w K mg base "_law_classes" 1 K46.H__law_classes.h) (M_came : MCal P w K mg base "came" 2 1 [1, 2, 4] GP.M_came_9db0f5) {XS0 : Addr} {XC4 : Addr} (XT_4 : XT K mg 4 "SpanError" XC4 XS0) (CX__law_made_4 : CalX P w K mg base "_law_made" 4 3 K46.X__law_made_4.f XC4) {XC5 : Addr} (XT_5 : XT K mg 5 "SpanError" XC5 XS0) (CX__law_made_5 : CalX P w K mg base "_law_made" 4 3 K46.X__law_made_5.f XC5) (cdv : Value) (A : Around) (outer : List Env) (s : Shared) (H : Hp) (E : XK) (hr : Room 4 (A.deeper (envOfC "_law_told" (defScope (top 32)) s.heap.objs.size f cdv))) :
    PSsv (cxOf CX0 P w K mg base ["_law_which", "_law_one", "_law_other", "_law_found", "_law_deed", "_law_e"] "_law_told" (defScope (top 32)) f cdv A outer s H E).nox (defBody (top 32)) K46.L_told.g := by
  have nd : (["_law_which", "_law_one", "_law_other", "_law_found", "_law_deed", "_law_e"] : List Str).Nodup := sc__law_told.nd
  exact (pssv_cons (psv_setO (i := 3) nd (pvf_lst pas_nil))
    (pssv_cons (psv_set (i := 4) nd pv_non)
    (pssv_cons (psv_try2 (i := 5) (t := 4) (u := 5) nd XT_4.gl XT_4.cat XT_5.cat XT_4.nm XT_5.nm (fun W => (psv_set (i := 4) nd (pv_callC C__law_made hr (pan_cons (PVw.n (pw_var 0)) (pan_cons (PVw.n (pw_var 1)) (pan_cons (PVw.n (pw_var 2)) pan_nil))))))
    (fun W => thr_set CX__law_made_4 hr (pan_cons (PVw.n (pw_var 0)) (pan_cons (PVw.n (pw_var 1)) (pan_cons (PVw.n (pw_var 2)) pan_nil))))
    (fun W => thr_set CX__law_made_5 hr (pan_cons (PVw.n (pw_var 0)) (pan_cons (PVw.n (pw_var 1)) (pan_cons (PVw.n (pw_var 2)) pan_nil))))
    (fun ea xe => (pssv_one (psv_setO (i := 3) nd (pvf_callH (i := 5) CH__law_classes (RoomH.of hr))))))
    (pssv_cons (psv_if (PWv.t (pwv_and (pt_isnot (PVw.n (pw_var 4)) (PV.n pv_non)) (pwv_and1 (ptv_not (PVn.t (PV.n (pv_isoE T.b_isinstance T.iso_Deed (pv_var 4)))))))) (pssv_one (psv_ret (PV.w pv_non))) pssv_nil)
    (pssv_cons (psv_if (PWv.t (pwv_and (pt_isnot (PVw.n (pw_var 4)) (PV.n pv_non)) (pwv_and (pt_lt (pw_var 0) (PV.w pv_int)) (pwv_and (pt_eq hr (PVw.n (pw_var 2)) (PV.n pv_int)) (pwv_and1 (pt_ne hr (PV.n (pv_meth M_came hr (pv_var 4) (pan_cons (PVw.n (pw_var 1)) pan_nil))) (PVw.n (pw_var 1)))))))) (pssv_one (psv_ret (PV.w pv_non))) pssv_nil)
    (pssv_one (psv_retX 3)))))))
theorem fok__law_told {f : Addr} {fd : FuncData} (Fn : Fun K "_law_told" "_law_told" (top 32) f fd) (T : Glb K mg) (C__law_made : Cal P w K mg base "_law_made" 4 3 K46.L_made.f) (CH__law_classes : CalH P w K mg base "_law_classes" 1 K46.H__law_classes.h) (M_came : MCal P w K mg base "came" 2 1 [1, 2, 4] GP.M_came_9db0f5) {XS0 : Addr} {XC4 : Addr} (XT_4 : XT K mg 4 "SpanError" XC4 XS0) (CX__law_made_4 : CalX P w K mg base "_law_made" 4 3 K46.X__law_made_4.f XC4) {XC5 : Addr} (XT_5 : XT K mg 5 "SpanError" XC5 XS0) (CX__law_made_5 : CalX P w K mg base "_law_made" 4 3 K46.X__law_made_5.f XC5) : FnOk P w K mg base CX0 5 f fd ["_law_which", "_law_one", "_law_other"] (spF K 3 K46.L_told.f) :=
  fun_ok (k := 4) (F := K46.L_told.f) (g := K46.L_told.g) Fn sc__law_told (fun cdv A outer s H E hr => body__law_told T C__law_made CH__law_classes M_came XT_4 CX__law_made_4 XT_5 CX__law_made_5 cdv A outer s H E hr) (fun ds r hl e => does_run e)

theorem sc_law : FnScope ["_law_script", "_law_at", "_law_k", "_law_many_here", "_law_due", "_law_top", "_law_bottom"] ["_law_script"] (defScope (top 33)) := ⟨rfl, rfl, rfl, by decide +kernel, rfl, by decide +kernel, by decide +kernel⟩
theorem body_law {f : Addr} (T : Glb K mg) (C__law_many : Cal P w K mg base "_law_many" 1 1 K46.L_many.f) (C__law_part : Cal P w K mg base "_law_part" 1 1 K46.L_part.f) (C__law_nth : Cal P w K mg base "_law_nth" 1 2 GL.nth.f) (C__law_told : Cal P w K mg base "_law_told" 5 3 K46.L_told.f) (cdv : Value) (A : Around) (outer : List Env) (s : Shared) (H : Hp) (E : XK) (hr : Room 5 (A.deeper (envOfC "law" (defScope (top 33)) s.heap.objs.size f cdv))) :
    PSsv (cxOf CX0 P w K mg base ["_law_script", "_law_at", "_law_k", "_law_many_here", "_law_due", "_law_top", "_law_bottom"] "law" (defScope (top 33)) f cdv A outer s H E).nox (defBody (top 33)) K46.law.g := by
  have nd : (["_law_script", "_law_at", "_law_k", "_law_many_here", "_law_due", "_law_top", "_law_bottom"] : List Str).Nodup := sc_law.nd
  exact (pssv_cons (psv_set (i := 1) nd (pv_subI (PV.w (pv_modI (PV.w (pv_divI (PV.w (pv_callC C__law_nth hr (pan_cons (PVw.n (pw_var 0)) (pan_cons (PV.n pv_int) pan_nil)))) (PV.w pv_int))) (PV.w (pv_ix (PV.w (PVf.s (pvf_lst (pas_cons pv_int (pas_cons (pv_powI (PV.w pv_int) (PV.w pv_int)) pas_nil))))) (PV.w (pv_modI (PV.w (pv_callC C__law_nth hr (pan_cons (PVw.n (pw_var 0)) (pan_cons (PV.n pv_int) pan_nil)))) (PV.w pv_int))))))) (PV.w pv_int)))
    (pssv_cons (psv_for PassesOwn.never rfl (piv_range1 T.b_range pv_int) (pgv_name (i := 2) nd) (pssv_cons (psv_set (i := 3) nd (pv_callC C__law_many hr (pan_cons (PV.n (pv_callC C__law_nth hr (pan_cons (PVw.n (pw_var 0)) (pan_cons (PV.n (pv_addI (PV.w pv_int) (pw_var 2))) pan_nil)))) pan_nil)))
    (pssv_cons (psv_set (i := 4) nd (PVf.s (pvf_lst pas_nil)))
    (pssv_cons (psv_if (pt_lt (pw_var 3) (PV.w pv_int)) (pssv_one (psv_set (i := 4) nd (PVf.s (pvf_cat (PV.w (PVf.s (pvf_cat (PV.w (PVf.s (pvf_lst (pas_cons pv_bl pas_nil)))) (PV.w (PVf.s (pvf_repF (pvf_lst (pas_cons pv_bl pas_nil)) (PV.w pv_int))))))) (PV.w (PVf.s (pvf_lst (pas_cons pv_bl pas_nil)))))))) pssv_nil)
    (pssv_one (psv_if (pt_ne hr (PV.n (pv_callC C__law_told hr (pan_cons (PVw.n (pw_var 2)) (pan_cons (PVw.n (pw_var 1)) (pan_cons (PVw.n (pw_var 3)) pan_nil))))) (PVw.n (pw_var 4))) (pssv_one (psv_ret (PV.w pv_bl))) pssv_nil))))))
    (pssv_cons (psv_for PassesOwn.never rfl (piv_range3 T.b_range (PV.w pv_int) (PV.w pv_int) (PV.w pv_int)) (pgv_name (i := 2) nd) (pssv_cons (psv_set (i := 5) nd (pv_callC C__law_part hr (pan_cons (PV.n (pv_callC C__law_nth hr (pan_cons (PVw.n (pw_var 0)) (pan_cons (PVw.n (pw_var 2)) pan_nil)))) pan_nil)))
    (pssv_cons (psv_set (i := 6) nd (pv_callC C__law_part hr (pan_cons (PV.n (pv_callC C__law_nth hr (pan_cons (PVw.n (pw_var 0)) (pan_cons (PV.n (pv_addI (pw_var 2) (PV.w pv_int))) pan_nil)))) pan_nil)))
    (pssv_cons (psv_set (i := 4) nd (PVf.s (pvf_lst pas_nil)))
    (pssv_cons (psv_if (PWv.t (pwv_or (pt_lt (PV.w (pv_min2 rfl T.b_min (pav_cons (pw_var 5) (pav_cons (pw_var 6) pav_nil)))) (PV.w pv_int)) (pwv_or1 (pt_gt (PV.w (pv_max2 rfl T.b_max (pav_cons (pw_var 5) (pav_cons (pw_var 6) pav_nil)))) (PV.w pv_int))))) (pssv_one (psv_set (i := 4) nd (PVf.s (pvf_cat (PV.w (PVf.s (pvf_cat (PV.w (PVf.s (pvf_lst (pas_cons pv_bl (pas_cons pv_bl pas_nil))))) (PV.w (PVf.s (pvf_repF (pvf_lst (pas_cons pv_bl pas_nil)) (PV.w pv_int))))))) (PV.w (PVf.s (pvf_lst (pas_cons pv_bl pas_nil)))))))) pssv_nil)
    (pssv_one (psv_if (pt_ne hr (PV.n (pv_callC C__law_told hr (pan_cons (PV.n pv_int) (pan_cons (PVw.n (pw_var 5)) (pan_cons (PVw.n (pw_var 6)) pan_nil))))) (PVw.n (pw_var 4))) (pssv_one (psv_ret (PV.w pv_bl))) pssv_nil)))))))
    (pssv_one (psv_ret (PV.w pv_bl))))))
theorem fok_law {f : Addr} {fd : FuncData} (Fn : Fun K "law" "law" (top 33) f fd) (T : Glb K mg) (C__law_many : Cal P w K mg base "_law_many" 1 1 K46.L_many.f) (C__law_part : Cal P w K mg base "_law_part" 1 1 K46.L_part.f) (C__law_nth : Cal P w K mg base "_law_nth" 1 2 GL.nth.f) (C__law_told : Cal P w K mg base "_law_told" 5 3 K46.L_told.f) : FnOk P w K mg base CX0 6 f fd ["_law_script"] (spF K 1 K46.law.f) :=
  fun_ok (k := 5) (F := K46.law.f) (g := K46.law.g) Fn sc_law (fun cdv A outer s H E hr => body_law T C__law_many C__law_part C__law_nth C__law_told cdv A outer s H E hr) (fun ds r hl e => does_run e)

end
end K46

namespace K46
open PySem PyProof.Rows L2 FL
open Builtin.Int (intBits)
theorem many4 (m : Int) : K46.X_check_many_4.f [.int m] = decide (m < 0) := by
  unfold K46.X_check_many_4.f runX K46.X_check_many_4.x ifX
  by_cases h : m < 0 <;> simp [args, h, alwaysX, neverX]
theorem share5 (m : Int) : K46.X_check_share_5.f [.int m] = decide (m < 1 ∨ 1000 < m) := by
  unfold K46.X_check_share_5.f runX K46.X_check_share_5.x ifX
  by_cases h : m < 1 <;> by_cases h2 : 1000 < m <;> simp [args, h, h2, alwaysX, neverX]
theorem wid4 (a m : Int) : K46.X_Widen___init___4.f [.int a, .int m] = decide (m < 0) := by
  unfold K46.X_Widen___init___4.f runXN K46.X_Widen___init___4.x callX
  simp [argsN, many4]
theorem nar4 (a m : Int) : K46.X_Narrow___init___4.f [.int a, .int m] = decide (m < 0) := by
  unfold K46.X_Narrow___init___4.f runXN K46.X_Narrow___init___4.x callX
  simp [argsN, many4]
@[simp] theorem notD_ins (t : Nat) (es : List D) : notD (.ins t es) .non = some (.bl true) := rfl
def outS (t b : Int) : Bool := decide (t < 1 ∨ 1000 < t) || decide (b < 1 ∨ 1000 < b)
theorem chk_none {m : Int} (h : m < 1 ∨ 1000 < m) : GP.check_share.f [.int m] = none := by
  unfold GP.check_share.f runG GP.check_share.g
  by_cases h1 : m < 1
  · simp [args, h1]
  · have h3 : 1000 < m := by omega
    simp [args, h1, h3]
theorem str5 (t b : Int) : K46.X_Stretch___init___5.f [.int t, .int b] = outS t b := by
  unfold K46.X_Stretch___init___5.f runXN K46.X_Stretch___init___5.x orX callX seqX dropG outS
  by_cases h : t < 1 ∨ 1000 < t
  · simp [argsN, share5, h]
  · have := chk_share (m := t) (by omega) (by omega)
    simp [argsN, share5, h, this]
theorem init_deed2 : GP.Deed___init__2.f [] = some [.non] := by
  unfold GP.Deed___init__2.f FL.runN GP.Deed___init__2.i
  simp [argsN, seqN, fldN]
theorem init_widen2 {a m : Int} (h : 0 ≤ m) : GP.Widen___init__2.f [.int a, .int m] = some [.non, .int a, .int m] := by
  unfold GP.Widen___init__2.f FL.runN GP.Widen___init__2.i
  simp [argsN, seqN, fldN, dropN, supN, chk_many h, init_deed2]
theorem init_stretch2 {a m : Int} (h : 1 ≤ a ∧ a ≤ 1000) (h2 : 1 ≤ m ∧ m ≤ 1000) : GP.Stretch___init__2.f [.int a, .int m] = some [.non, .int a, .int m] := by
  unfold GP.Stretch___init__2.f FL.runN GP.Stretch___init__2.i
  simp [argsN, seqN, fldN, dropN, supN, chk_share h.1 h.2, chk_share h2.1 h2.2, init_deed2]
theorem made4_0 (a m : Int) : K46.X__law_made_4.f [.int 0, .int a, .int m] = decide (m < 0) := by
  unfold K46.X__law_made_4.f runX K46.X__law_made_4.x orX ifX seqX callX
  by_cases h : m < 0
  · simp [args, wid4, h]
  · simp [args, wid4, h, init_widen2 (show 0 ≤ m by omega)]
theorem made4_1 (a m : Int) : K46.X__law_made_4.f [.int 1, .int a, .int m] = decide (m < 0) := by
  unfold K46.X__law_made_4.f runX K46.X__law_made_4.x orX ifX seqX callX
  simp [args, nar4, neverX]
theorem made4_2 (a m : Int) : K46.X__law_made_4.f [.int 2, .int a, .int m] = false := by
  unfold K46.X__law_made_4.f runX K46.X__law_made_4.x orX ifX seqX callX
  simp [args, neverX]
theorem made5_0 (a m : Int) (h : ¬ m < 0) : K46.X__law_made_5.f [.int 0, .int a, .int m] = false := by
  unfold K46.X__law_made_5.f runX K46.X__law_made_5.x seqX callX
  simp [args, init_widen2 (show 0 ≤ m by omega)]
theorem made5_1 (a m : Int) (h : ¬ m < 0) : K46.X__law_made_5.f [.int 1, .int a, .int m] = false := by
  unfold K46.X__law_made_5.f runX K46.X__law_made_5.x seqX callX
  simp [args, init_widen2 (show 0 ≤ m by omega)]
theorem made5_2 (a m : Int) : K46.X__law_made_5.f [.int 2, .int a, .int m] = outS a m := by
  unfold K46.X__law_made_5.f runX K46.X__law_made_5.x seqX callX
  simp [args, str5]
theorem mk_0 (a m : Int) (h : ¬ m < 0) : K46.L_made.f [.int 0, .int a, .int m] = some (.val (.ins 1 [.non, .int a, .int m])) := by
  unfold K46.L_made.f runG K46.L_made.g
  simp [args, init_widen2 (show 0 ≤ m by omega)]
theorem mk_1 (a m : Int) (h : ¬ m < 0) : K46.L_made.f [.int 1, .int a, .int m] = some (.val (.ins 2 [.non, .int a, .int m])) := by
  unfold K46.L_made.f runG K46.L_made.g
  simp [args, init_widen2 (show 0 ≤ m by omega)]
theorem mk_2 (a m : Int) (h : outS a m = false) : K46.L_made.f [.int 2, .int a, .int m] = some (.val (.ins 4 [.non, .int a, .int m])) := by
  unfold outS at h
  simp at h
  unfold K46.L_made.f runG K46.L_made.g
  simp [args, init_stretch2 (a := a) (m := m) (by omega) (by omega)]
def due4 : List D := [.bl true, .bl false, .bl false, .bl false, .bl false, .bl false, .bl false, .bl false, .bl false, .bl false, .bl false, .bl false, .bl true]
def due5 : List D := [.bl false, .bl true, .bl false, .bl false, .bl false, .bl false, .bl false, .bl false, .bl false, .bl false, .bl false, .bl false, .bl true]
theorem cls4 : K46.H__law_classes.h 4 = some (.fresh due4) := by
  unfold K46.H__law_classes.h runH K46.H__law_classes.g
  simp [argsE, isxG, List.lookup, due4]
theorem cls5 : K46.H__law_classes.h 5 = some (.fresh due5) := by
  unfold K46.H__law_classes.h runH K46.H__law_classes.g
  simp [argsE, isxG, List.lookup, due5]
theorem told_0 (a m : Int) : K46.L_told.f [.int 0, .int a, .int m] = some (.fresh (if m < 0 then due4 else [])) := by
  unfold K46.L_told.f runG K46.L_told.g tryG2 callX callHF
  by_cases h : m < 0
  · simp [args, made4_0, h, cls4, goneO]
    simp [due4]
  · have w : GP.Widen_came.f [.ins 1 [.non, .int a, .int m], .int a] = some (.val (oi (if a < a + m then none else some (a - m)))) := by
      unfold GP.Widen_came.f runG GP.Widen_came.g
      simp [args, List.lookup, taken_eq]
      try rfl
    by_cases h0 : m = 0
    · subst h0
      simp [args, made4_0, made5_0, mk_0, isoD, List.lookup, GP.M_came_9db0f5, w]
    · simp [args, made4_0, made5_0 a m h, mk_0 a m h, h, isoD, List.lookup, h0]
theorem told_1 (a m : Int) : K46.L_told.f [.int 1, .int a, .int m] = some (.fresh (if m < 0 then due4 else [])) := by
  unfold K46.L_told.f runG K46.L_told.g tryG2 callX callHF
  by_cases h : m < 0
  · simp [args, made4_1, h, cls4, goneO]
    simp [due4]
  · have w : GP.Narrow_came.f [.ins 2 [.non, .int a, .int m], .int a] = some (.val (.int (a + m))) := by
      unfold GP.Narrow_came.f runG GP.Narrow_came.g
      simp [args, List.lookup, opened_eq]
    by_cases h0 : m = 0
    · subst h0
      simp [args, made4_1, made5_1, mk_1, isoD, List.lookup, GP.M_came_9db0f5, w]
    · simp [args, made4_1, made5_1 a m h, mk_1 a m h, h, isoD, List.lookup, h0]
theorem told_2 (a m : Int) : K46.L_told.f [.int 2, .int a, .int m] = some (.fresh (if outS a m = true then due5 else [])) := by
  unfold K46.L_told.f runG K46.L_told.g tryG2 callX callHF
  cases h : outS a m with
  | true =>
    simp [args, made4_2, made5_2, h, cls5, goneO]
    simp [due5]
  | false => simp [args, made4_2, made5_2, h, mk_2 a m h, isoD, List.lookup]
theorem ix_ints (l : List Int) (i : Int) (h : 0 ≤ i) (h2 : i < l.length) : ∃ v, ixD (.lst (l.map D.int)) (.int i) = some (.int v) := by
  rw [ixL_pos _ h (by simpa using h2)]
  have hl : i.toNat < l.length := by omega
  exact ⟨l[i.toNat], by simp [hl]⟩
theorem many_ex (c : Int) : ∃ m, K46.L_many.f [.int c] = some (.val (.int m)) := by
  have p2 : powD (.int 10) (.int 60) = some (.int (10 ^ 60)) := pow10 (by decide) (by decide)
  have q1 : (0 : Int) < 10 ^ 60 := by decide
  generalize hP : (10 : Int) ^ 60 = P at p2 q1
  obtain ⟨v, hv⟩ := ix_ints [0, 1, c / 8 % P, 1 + c / 8 % 3] (c / 2 % 4) (by omega) (by simp; omega)
  obtain ⟨u, hu⟩ := ix_ints [v, -1 - v] (c % 2) (by omega) (by simp; omega)
  simp only [List.map_cons, List.map_nil] at hv hu
  refine ⟨u, ?_⟩
  unfold K46.L_many.f runG K46.L_many.g
  simp [args, p2, q1, hv, hu]
theorem part_ex (c : Int) : ∃ m, K46.L_part.f [.int c] = some (.val (.int m)) := by
  have p2 : powD (.int 10) (.int 60) = some (.int (10 ^ 60)) := pow10 (by decide) (by decide)
  have q1 : (0 : Int) < 10 ^ 60 := by decide
  generalize hP : (10 : Int) ^ 60 = P at p2 q1
  obtain ⟨v, hv⟩ := ix_ints [1 + c / 8 % P % 1000, 1, 1000, 1 + c / 8 % P % 10, 0, 1001, -(c / 8 % P), 1001 + c / 8 % P] (c % 8) (by omega) (by simp; omega)
  simp only [List.map_cons, List.map_nil] at hv
  refine ⟨v, ?_⟩
  unfold K46.L_part.f runG K46.L_part.g
  simp [args, p2, q1, hv]
theorem ne4 : neD (.lst due4) (.lst due4) = some (.bl false) := by
  rw [neD_ok (by simp [due4]) (by simp [due4])]
  simp [due4, eqvD, toPy, toPys, PyData.eqv, PyData.eqvAll]
theorem ne5 : neD (.lst due5) (.lst due5) = some (.bl false) := by
  rw [neD_ok (by simp [due5]) (by simp [due5])]
  simp [due5, eqvD, toPy, toPys, PyData.eqv, PyData.eqvAll]
theorem neN : neD (.lst []) (.lst []) = some (.bl false) := by
  rw [neD_ok (by simp) (by simp)]
  simp [eqvD, toPy, toPys, PyData.eqv, PyData.eqvAll]
theorem turn1 (ns : List Int) (a : Int) (k : Nat) (hk : k = 0 ∨ k = 1) (x3 x4 x5 x6 : Sl) : ∃ y3 y4, K46.law.b1 [.v (.lst (ns.map D.int)), .v (.int a), .v (.int (k : Int)), x3, x4, x5, x6] = some (.nx [.v (.lst (ns.map D.int)), .v (.int a), .v (.int (k : Int)), y3, y4, x5, x6]) := by
  obtain ⟨m, hm⟩ := many_ex (cel ns (1 + k))
  have hn := nth_eq ns (1 + k)
  have hn' : GL.nth.f [.lst (ns.map D.int), .int (1 + (k : Int))] = some (.val (.int (cel ns (1 + k)))) := by simpa using hn
  have ht : K46.L_told.f [.int (k : Int), .int a, .int m] = some (.fresh (if m < 0 then due4 else [])) := by
    rcases hk with rfl | rfl
    · exact told_0 a m
    · exact told_1 a m
  unfold K46.law.b1
  generalize D.lst (ns.map D.int) = L at *
  by_cases h : m < 0
  · rw [if_pos h] at ht
    refine ⟨.v (.int m), .v (.lst due4), ?_⟩
    have e4 : (.lst due4 : D) = .lst [.bl true, .bl false, .bl false, .bl false, .bl false, .bl false, .bl false, .bl false, .bl false, .bl false, .bl false, .bl false, .bl true] := rfl
    have q := ne4
    rw [e4] at q ⊢
    simp [hn', hm, h, repF, List.replicate]
    simp [ht, due4, q]
  · rw [if_neg h] at ht
    refine ⟨.v (.int m), .v (.lst []), ?_⟩
    simp [hn', hm, h, ht, neN]
theorem turn2 (ns : List Int) (a : Int) (k : Nat) (x3 x4 x5 x6 : Sl) : ∃ y4 y5 y6, K46.law.b2 [.v (.lst (ns.map D.int)), .v (.int a), .v (.int (k : Int)), x3, x4, x5, x6] = some (.nx [.v (.lst (ns.map D.int)), .v (.int a), .v (.int (k : Int)), x3, y4, y5, y6]) := by
  obtain ⟨t, hm⟩ := part_ex (cel ns k)
  obtain ⟨b, hm2⟩ := part_ex (cel ns (k + 1))
  have hn := nth_eq ns k
  have hn' : GL.nth.f [.lst (ns.map D.int), .int ((k : Int) + 1)] = some (.val (.int (cel ns (k + 1)))) := by simpa using nth_eq ns (k + 1)
  have ht := told_2 t b
  have hc : outS t b = (decide (min t b < 1) || decide (1000 < max t b)) := by
    unfold outS
    rw [Bool.eq_iff_iff]
    simp
    omega
  unfold K46.law.b2
  generalize D.lst (ns.map D.int) = L at *
  cases h : outS t b with
  | true =>
    rw [h] at hc ht
    simp only [if_true] at ht
    refine ⟨.v (.lst due5), .v (.int t), .v (.int b), ?_⟩
    have e4 : (.lst due5 : D) = .lst [.bl false, .bl true, .bl false, .bl false, .bl false, .bl false, .bl false, .bl false, .bl false, .bl false, .bl false, .bl false, .bl true] := rfl
    have q := ne5
    rw [e4] at q ⊢
    simp only [seqG_eq, setG_eq, callV_eq, consA_eq, nilA_eq, getW_eq]
    simp [hn, hn', hm, hm2, ← hc, repF, List.replicate]
    simp [ht, due5, q]
  | false =>
    rw [h] at hc ht
    refine ⟨.v (.lst []), .v (.int t), .v (.int b), ?_⟩
    simp [hn, hn', hm, hm2, ← hc, ht, neN]
theorem run_law (ns : List Int) (hl : ns.length ≤ 63) (hb : ∀ c ∈ ns, intBits c ≤ 1048576) : K46.law.f [.lst (ns.map D.int)] = some (.val (.bl true)) := by
  have p2 : powD (.int 10) (.int 60) = some (.int (10 ^ 60)) := pow10 (by decide) (by decide)
  have q1 : (0 : Int) < 10 ^ 60 := by decide
  have c0 : GL.nth.f [.lst (ns.map D.int), .int 0] = some (.val (.int (cel ns 0))) := nth_eq ns 0
  generalize hP : (10 : Int) ^ 60 = P at p2 q1
  have hat : ∃ a, (bin2 subD (bin2 modD (bin2 fdivD (callV 2 GL.nth.f (consA (getW 0) (consA (konst (.int 0)) nilA))) (konst (.int 2))) (bin2 ixD (mkL (sized (consA (konst (.int 41)) (consA (bin2 powD (konst (.int 10)) (konst (.int 60))) nilA)))) (bin2 modD (callV 2 GL.nth.f (consA (getW 0) (consA (konst (.int 0)) nilA))) (konst (.int 2))))) (konst (.int 20))) [.v (.lst (ns.map D.int)), .no, .no, .no, .no, .no, .no] = some (.int a) := by
    have h : cel ns 0 % 2 = 0 ∨ cel ns 0 % 2 = 1 := by omega
    rcases h with h | h
    · exact ⟨cel ns 0 / 2 % 41 - 20, by simp [c0, p2, h]⟩
    · exact ⟨cel ns 0 / 2 % P - 20, by simp [c0, p2, h, q1]⟩
  obtain ⟨a, ha⟩ := hat
  obtain ⟨y3, y4, t1⟩ := turn1 ns a 0 (.inl rfl) .no .no .no .no
  obtain ⟨z3, z4, t2⟩ := turn1 ns a 1 (.inr rfl) y3 y4 .no .no
  obtain ⟨w4, w5, w6, t3⟩ := turn2 ns a 3 z3 z4 .no .no
  obtain ⟨v4, v5, v6, t4⟩ := turn2 ns a 5 z3 w4 w5 w6
  have l1 : loopG (nameG 2) K46.law.b1 [.int 0, .int 1] [.v (.lst (ns.map D.int)), .v (.int a), .no, .no, .no, .no, .no] = some (.nx [.v (.lst (ns.map D.int)), .v (.int a), .v (.int 1), z3, z4, .no, .no]) := by
    have t1' : K46.law.b1 [.v (.lst (ns.map D.int)), .v (.int a), .v (.int 0), .no, .no, .no, .no] = _ := t1
    have t2' : K46.law.b1 [.v (.lst (ns.map D.int)), .v (.int a), .v (.int 1), y3, y4, .no, .no] = _ := t2
    generalize D.lst (ns.map D.int) = L at *
    simp [loopG, t1', t2']
  have l2 : loopG (nameG 2) K46.law.b2 [.int 3, .int 5] [.v (.lst (ns.map D.int)), .v (.int a), .v (.int 1), z3, z4, .no, .no] = some (.nx [.v (.lst (ns.map D.int)), .v (.int a), .v (.int 5), z3, v4, v5, v6]) := by
    have t1' : K46.law.b2 [.v (.lst (ns.map D.int)), .v (.int a), .v (.int 3), z3, z4, .no, .no] = _ := t3
    have t2' : K46.law.b2 [.v (.lst (ns.map D.int)), .v (.int a), .v (.int 5), z3, w4, w5, w6] = _ := t4
    generalize D.lst (ns.map D.int) = L at *
    simp [loopG, t1', t2']
  unfold K46.law.f runG K46.law.g
  have e0 : args 7 [.lst (ns.map D.int)] = [.v (.lst (ns.map D.int)), .no, .no, .no, .no, .no, .no] := rfl
  rw [e0]
  generalize D.lst (ns.map D.int) = L at *
  have r1 : rng1 (konst (.int 2)) [.v L, .v (.int a), .no, .no, .no, .no, .no] = some [.int 0, .int 1] := by
    simp [okR_small (j := 2) (by decide) (by decide)]
    rfl
  have r2 : rng3 (konst (.int 3)) (konst (.int 7)) (konst (.int 2)) [.v L, .v (.int a), .v (.int 1), z3, z4, .no, .no] = some [.int 3, .int 5] := by
    simp [okR3_small (i := 3) (j := 7) (c := 2) (by decide) (by decide) (by decide) (by decide) (by decide) (by decide)]
    rfl
  simp only [seqG_eq, setG_eq, ha, Option.map_some, Option.bind_some, List.set, forG_eq, r1, l1, r2, l2]
  simp
end K46

namespace K46
open PySem PyProof.Rows L2 FL
set_option maxHeartbeats 0 in
theorem all_mk {l : PySem.W.OpenLaw} {w : World} {K : PySem.W.Frag} {h : Heap} {mg : Str → Option Value} {fa : Addr} (X : K.In h) (G : h.Ns mainGlobals mg) (hfa : mg "law" = some (.ref fa))
    {K1 : Addr}
    {K2 : Addr}
    {K4 : Addr}
    {K6 : Addr}
    {f0 : Addr} {od0 an0 : Option Addr} {sl0 : Array (Option Value)} {oc0 kV0 dc0 pm0 cd0 ct0 : Value}
    {f1 : Addr} {od1 an1 : Option Addr} {sl1 : Array (Option Value)} {oc1 kV1 dc1 pm1 cd1 ct1 : Value}
    {f2 : Addr} {od2 an2 : Option Addr} {sl2 : Array (Option Value)} {oc2 kV2 dc2 pm2 cd2 ct2 : Value}
    {f3 : Addr} {od3 an3 : Option Addr} {sl3 : Array (Option Value)} {oc3 kV3 dc3 pm3 cd3 ct3 : Value}
    {f4 : Addr} {od4 an4 : Option Addr} {sl4 : Array (Option Value)} {oc4 kV4 dc4 pm4 cd4 ct4 : Value}
    {f5 : Addr} {od5 an5 : Option Addr} {sl5 : Array (Option Value)} {oc5 kV5 dc5 pm5 cd5 ct5 : Value}
    {f6 : Addr} {od6 an6 : Option Addr} {sl6 : Array (Option Value)} {oc6 kV6 dc6 pm6 cd6 ct6 : Value}
    {f7 : Addr} {od7 an7 : Option Addr} {sl7 : Array (Option Value)} {oc7 kV7 dc7 pm7 cd7 ct7 : Value}
    {f8 : Addr} {od8 an8 : Option Addr} {sl8 : Array (Option Value)} {oc8 kV8 dc8 pm8 cd8 ct8 : Value}
    {f9 : Addr} {od9 an9 : Option Addr} {sl9 : Array (Option Value)} {oc9 kV9 dc9 pm9 cd9 ct9 : Value}
    {f10 : Addr} {od10 an10 : Option Addr} {sl10 : Array (Option Value)} {oc10 kV10 dc10 pm10 cd10 ct10 : Value}
    {f11 : Addr} {od11 an11 : Option Addr} {sl11 : Array (Option Value)} {oc11 kV11 dc11 pm11 cd11 ct11 : Value}
    {f12 : Addr} {od12 an12 : Option Addr} {sl12 : Array (Option Value)} {oc12 kV12 dc12 pm12 cd12 ct12 : Value}
    {f13 : Addr} {od13 an13 : Option Addr} {sl13 : Array (Option Value)} {oc13 kV13 dc13 pm13 cd13 ct13 : Value}
    {f14 : Addr} {od14 an14 : Option Addr} {sl14 : Array (Option Value)} {oc14 kV14 dc14 pm14 cd14 ct14 : Value}
    {f15 : Addr} {od15 an15 : Option Addr} {sl15 : Array (Option Value)} {oc15 kV15 dc15 pm15 cd15 ct15 : Value}
    {f16 : Addr} {od16 an16 : Option Addr} {sl16 : Array (Option Value)} {oc16 kV16 dc16 pm16 cd16 ct16 : Value}
    {f17 : Addr} {od17 an17 : Option Addr} {sl17 : Array (Option Value)} {oc17 kV17 dc17 pm17 cd17 ct17 : Value}
    {E0 : Addr}
    {E1 : Addr}
    {E2 : Addr}
    {E3 : Addr}
    {E4 : Addr}
    {E5 : Addr}
    {E6 : Addr}
    {E7 : Addr}
    {E8 : Addr}
    {E9 : Addr}
    {E10 : Addr}
    {E11 : Addr}
    {E12 : Addr}
    {t0 : Tok}
    (n1 : PySem.W.nsIn K mainGlobals "Widen" = some (some (.ref K1))) (pg1 : PySem.W.plainGet K K1 Str.empty = true) (hd1 : PySem.W.hasDictIn K K1 = true) (po1 : PySem.W.plainOver K K1 = true) (sa1 : PySem.W.findIn K (.ref K1) "__setattr__" = some (some (.builtin "object.__setattr__")))
    (na1_fill : PySem.W.findIn K (.ref K1) "fill" = some none)
    (na1_at : PySem.W.findIn K (.ref K1) "at" = some none)
    (na1_many : PySem.W.findIn K (.ref K1) "many" = some none)
    (n2 : PySem.W.nsIn K mainGlobals "Narrow" = some (some (.ref K2))) (pg2 : PySem.W.plainGet K K2 Str.empty = true) (hd2 : PySem.W.hasDictIn K K2 = true) (po2 : PySem.W.plainOver K K2 = true) (sa2 : PySem.W.findIn K (.ref K2) "__setattr__" = some (some (.builtin "object.__setattr__")))
    (na2_fill : PySem.W.findIn K (.ref K2) "fill" = some none)
    (na2_at : PySem.W.findIn K (.ref K2) "at" = some none)
    (na2_many : PySem.W.findIn K (.ref K2) "many" = some none)
    (n4 : PySem.W.nsIn K mainGlobals "Stretch" = some (some (.ref K4))) (pg4 : PySem.W.plainGet K K4 Str.empty = true) (hd4 : PySem.W.hasDictIn K K4 = true) (po4 : PySem.W.plainOver K K4 = true) (sa4 : PySem.W.findIn K (.ref K4) "__setattr__" = some (some (.builtin "object.__setattr__")))
    (na4_fill : PySem.W.findIn K (.ref K4) "fill" = some none)
    (na4_top : PySem.W.findIn K (.ref K4) "top" = some none)
    (na4_bottom : PySem.W.findIn K (.ref K4) "bottom" = some none)
    (n6 : PySem.W.nsIn K mainGlobals "Deed" = some (some (.ref K6))) (pg6 : PySem.W.plainGet K K6 Str.empty = true) (hd6 : PySem.W.hasDictIn K K6 = true) (po6 : PySem.W.plainOver K K6 = true) (sa6 : PySem.W.findIn K (.ref K6) "__setattr__" = some (some (.builtin "object.__setattr__")))
    (na6_fill : PySem.W.findIn K (.ref K6) "fill" = some none)
    (a0 : PySem.W.findIn K (.ref K6) "__init__" = some (some (.ref f0))) (l0 : K.lookup f0 = some ⟨oc0, od0, .func (PySem.W.fnOf "__init__" "Deed.__init__" (defArgs (inClass (top 17) 0)) (defBody (inClass (top 17) 0)) (defScope (inClass (top 17) 0)) .none kV0 dc0 pm0 an0 cd0 ct0), sl0⟩) (c0 : PySem.W.codeIn K cd0 "Deed.__init__" = true) (k0 : PySem.W.keepIn K (.ref f0) = true)
    (i0 : PySem.W.isFn K (.ref f0) = true)
    (a1 : PySem.W.nsIn K mainGlobals "check_many" = some (some (.ref f1))) (l1 : K.lookup f1 = some ⟨oc1, od1, .func (PySem.W.fnOf "check_many" "check_many" (defArgs (top 21)) (defBody (top 21)) (defScope (top 21)) .none kV1 dc1 pm1 an1 cd1 ct1), sl1⟩) (c1 : PySem.W.codeIn K cd1 "check_many" = true) (k1 : PySem.W.keepIn K (.ref f1) = true)
    (a2 : PySem.W.findIn K (.ref K1) "__init__" = some (some (.ref f2))) (l2 : K.lookup f2 = some ⟨oc2, od2, .func (PySem.W.fnOf "__init__" "Widen.__init__" (defArgs (inClass (top 18) 0)) (defBody (inClass (top 18) 0)) (defScope (inClass (top 18) 0)) .none kV2 dc2 pm2 an2 cd2 ct2), sl2⟩) (c2 : PySem.W.codeIn K cd2 "Widen.__init__" = true) (k2 : PySem.W.keepIn K (.ref f2) = true)
    (i2 : PySem.W.isFn K (.ref f2) = true)
    (a3 : PySem.W.nsIn K mainGlobals "taken_out" = some (some (.ref f3))) (l3 : K.lookup f3 = some ⟨oc3, od3, .func (PySem.W.fnOf "taken_out" "taken_out" (defArgs (top 24)) (defBody (top 24)) (defScope (top 24)) .none kV3 dc3 pm3 an3 cd3 ct3), sl3⟩) (c3 : PySem.W.codeIn K cd3 "taken_out" = true) (k3 : PySem.W.keepIn K (.ref f3) = true)
    (a4 : PySem.W.findIn K (.ref K1) "came" = some (some (.ref f4))) (l4 : K.lookup f4 = some ⟨oc4, od4, .func (PySem.W.fnOf "came" "Widen.came" (defArgs (inClass (top 18) 1)) (defBody (inClass (top 18) 1)) (defScope (inClass (top 18) 1)) .none kV4 dc4 pm4 an4 cd4 ct4), sl4⟩) (c4 : PySem.W.codeIn K cd4 "Widen.came" = true) (k4 : PySem.W.keepIn K (.ref f4) = true)
    (i4 : PySem.W.isFn K (.ref f4) = true)
    (a5 : PySem.W.findIn K (.ref K2) "__init__" = some (some (.ref f5))) (l5 : K.lookup f5 = some ⟨oc5, od5, .func (PySem.W.fnOf "__init__" "Narrow.__init__" (defArgs (inClass (top 19) 0)) (defBody (inClass (top 19) 0)) (defScope (inClass (top 19) 0)) .none kV5 dc5 pm5 an5 cd5 ct5), sl5⟩) (c5 : PySem.W.codeIn K cd5 "Narrow.__init__" = true) (k5 : PySem.W.keepIn K (.ref f5) = true)
    (i5 : PySem.W.isFn K (.ref f5) = true)
    (a6 : PySem.W.nsIn K mainGlobals "opened" = some (some (.ref f6))) (l6 : K.lookup f6 = some ⟨oc6, od6, .func (PySem.W.fnOf "opened" "opened" (defArgs (top 23)) (defBody (top 23)) (defScope (top 23)) .none kV6 dc6 pm6 an6 cd6 ct6), sl6⟩) (c6 : PySem.W.codeIn K cd6 "opened" = true) (k6 : PySem.W.keepIn K (.ref f6) = true)
    (a7 : PySem.W.findIn K (.ref K2) "came" = some (some (.ref f7))) (l7 : K.lookup f7 = some ⟨oc7, od7, .func (PySem.W.fnOf "came" "Narrow.came" (defArgs (inClass (top 19) 1)) (defBody (inClass (top 19) 1)) (defScope (inClass (top 19) 1)) .none kV7 dc7 pm7 an7 cd7 ct7), sl7⟩) (c7 : PySem.W.codeIn K cd7 "Narrow.came" = true) (k7 : PySem.W.keepIn K (.ref f7) = true)
    (i7 : PySem.W.isFn K (.ref f7) = true)
    (a8 : PySem.W.nsIn K mainGlobals "check_share" = some (some (.ref f8))) (l8 : K.lookup f8 = some ⟨oc8, od8, .func (PySem.W.fnOf "check_share" "check_share" (defArgs (top 22)) (defBody (top 22)) (defScope (top 22)) .none kV8 dc8 pm8 an8 cd8 ct8), sl8⟩) (c8 : PySem.W.codeIn K cd8 "check_share" = true) (k8 : PySem.W.keepIn K (.ref f8) = true)
    (a9 : PySem.W.findIn K (.ref K4) "__init__" = some (some (.ref f9))) (l9 : K.lookup f9 = some ⟨oc9, od9, .func (PySem.W.fnOf "__init__" "Stretch.__init__" (defArgs (inClass (top 20) 0)) (defBody (inClass (top 20) 0)) (defScope (inClass (top 20) 0)) .none kV9 dc9 pm9 an9 cd9 ct9), sl9⟩) (c9 : PySem.W.codeIn K cd9 "Stretch.__init__" = true) (k9 : PySem.W.keepIn K (.ref f9) = true)
    (i9 : PySem.W.isFn K (.ref f9) = true)
    (a10 : PySem.W.findIn K (.ref K4) "came" = some (some (.ref f10))) (l10 : K.lookup f10 = some ⟨oc10, od10, .func (PySem.W.fnOf "came" "Stretch.came" (defArgs (inClass (top 20) 1)) (defBody (inClass (top 20) 1)) (defScope (inClass (top 20) 1)) .none kV10 dc10 pm10 an10 cd10 ct10), sl10⟩) (c10 : PySem.W.codeIn K cd10 "Stretch.came" = true) (k10 : PySem.W.keepIn K (.ref f10) = true)
    (i10 : PySem.W.isFn K (.ref f10) = true)
    (a11 : PySem.W.nsIn K mainGlobals "_law_nth" = some (some (.ref f11))) (l11 : K.lookup f11 = some ⟨oc11, od11, .func (PySem.W.fnOf "_law_nth" "_law_nth" (defArgs (top 26)) (defBody (top 26)) (defScope (top 26)) .none kV11 dc11 pm11 an11 cd11 ct11), sl11⟩) (c11 : PySem.W.codeIn K cd11 "_law_nth" = true) (k11 : PySem.W.keepIn K (.ref f11) = true)
    (a12 : PySem.W.nsIn K mainGlobals "_law_many" = some (some (.ref f12))) (l12 : K.lookup f12 = some ⟨oc12, od12, .func (PySem.W.fnOf "_law_many" "_law_many" (defArgs (top 28)) (defBody (top 28)) (defScope (top 28)) .none kV12 dc12 pm12 an12 cd12 ct12), sl12⟩) (c12 : PySem.W.codeIn K cd12 "_law_many" = true) (k12 : PySem.W.keepIn K (.ref f12) = true)
    (a13 : PySem.W.nsIn K mainGlobals "_law_part" = some (some (.ref f13))) (l13 : K.lookup f13 = some ⟨oc13, od13, .func (PySem.W.fnOf "_law_part" "_law_part" (defArgs (top 29)) (defBody (top 29)) (defScope (top 29)) .none kV13 dc13 pm13 an13 cd13 ct13), sl13⟩) (c13 : PySem.W.codeIn K cd13 "_law_part" = true) (k13 : PySem.W.keepIn K (.ref f13) = true)
    (a14 : PySem.W.nsIn K mainGlobals "_law_classes" = some (some (.ref f14))) (l14 : K.lookup f14 = some ⟨oc14, od14, .func (PySem.W.fnOf "_law_classes" "_law_classes" (defArgs (top 30)) (defBody (top 30)) (defScope (top 30)) .none kV14 dc14 pm14 an14 cd14 ct14), sl14⟩) (c14 : PySem.W.codeIn K cd14 "_law_classes" = true) (k14 : PySem.W.keepIn K (.ref f14) = true)
    (a15 : PySem.W.nsIn K mainGlobals "_law_made" = some (some (.ref f15))) (l15 : K.lookup f15 = some ⟨oc15, od15, .func (PySem.W.fnOf "_law_made" "_law_made" (defArgs (top 31)) (defBody (top 31)) (defScope (top 31)) .none kV15 dc15 pm15 an15 cd15 ct15), sl15⟩) (c15 : PySem.W.codeIn K cd15 "_law_made" = true) (k15 : PySem.W.keepIn K (.ref f15) = true)
    (a16 : PySem.W.nsIn K mainGlobals "_law_told" = some (some (.ref f16))) (l16 : K.lookup f16 = some ⟨oc16, od16, .func (PySem.W.fnOf "_law_told" "_law_told" (defArgs (top 32)) (defBody (top 32)) (defScope (top 32)) .none kV16 dc16 pm16 an16 cd16 ct16), sl16⟩) (c16 : PySem.W.codeIn K cd16 "_law_told" = true) (k16 : PySem.W.keepIn K (.ref f16) = true)
    (a17 : PySem.W.nsIn K mainGlobals "law" = some (some (.ref f17))) (l17 : K.lookup f17 = some ⟨oc17, od17, .func (PySem.W.fnOf "law" "law" (defArgs (top 33)) (defBody (top 33)) (defScope (top 33)) .none kV17 dc17 pm17 an17 cd17 ct17), sl17⟩) (c17 : PySem.W.codeIn K cd17 "law" = true) (k17 : PySem.W.keepIn K (.ref f17) = true)
    (mk1 : PySem.W.makesIn K K1 = true) (kc1 : PySem.W.keepIn K (.ref K1) = true)
    (mk2 : PySem.W.makesIn K K2 = true) (kc2 : PySem.W.keepIn K (.ref K2) = true)
    (mk4 : PySem.W.makesIn K K4 = true) (kc4 : PySem.W.keepIn K (.ref K4) = true)
    (s1_6 : PySem.W.specialIn K (.ref K6) "__getattribute__" = some (some (.builtin "type.__getattribute__"))) (s2_6 : PySem.W.readsIn K K6 (.type "type") = true) (s3_6 : PySem.W.findCls K (.ref K6) (.type "type") "__init__" = some (.val (.ref f0)))
    (ig : PySem.W.specialIn K (.builtin "object.__class__") "__get__" = some (some (.builtin "getset_descriptor.__get__"))) (it : PySem.W.takesIn K (.builtin "object.__class__") = some true)
    (ic1 : PySem.W.findIn K (.ref K1) "__class__" = some (some (.builtin "object.__class__"))) (im1 : PySem.W.mroIn K K1 (.type "object") = some true)
    (ic2 : PySem.W.findIn K (.ref K2) "__class__" = some (some (.builtin "object.__class__"))) (im2 : PySem.W.mroIn K K2 (.type "object") = some true)
    (ic4 : PySem.W.findIn K (.ref K4) "__class__" = some (some (.builtin "object.__class__"))) (im4 : PySem.W.mroIn K K4 (.type "object") = some true)
    (ic6 : PySem.W.findIn K (.ref K6) "__class__" = some (some (.builtin "object.__class__"))) (im6 : PySem.W.mroIn K K6 (.type "object") = some true)
    (iu6 : PySem.W.isClsIn K K6 = true) (iy6 : PySem.W.typeIn K (.ref K6) = some (.type "type"))
    (is1_6 : PySem.W.subIn K (.ref K1) (.ref K6) = some true)
    (is2_6 : PySem.W.subIn K (.ref K2) (.ref K6) = some true)
    (is4_6 : PySem.W.subIn K (.ref K4) (.ref K6) = some true)
    (xn0 : PySem.W.nsIn K mainGlobals "SpanError" = some (some (.ref E0)))
    (xn1 : PySem.W.nsIn K mainGlobals "Empty" = some (some (.ref E1)))
    (xn2 : PySem.W.nsIn K mainGlobals "NoEnd" = some (some (.ref E2)))
    (xn3 : PySem.W.nsIn K mainGlobals "Clash" = some (some (.ref E3)))
    (xn4 : PySem.W.nsIn K mainGlobals "NoCount" = some (some (.ref E4)))
    (xn5 : PySem.W.nsIn K mainGlobals "NoShare" = some (some (.ref E5)))
    (xn6 : PySem.W.nsIn K mainGlobals "NoName" = some (some (.ref E6)))
    (xn7 : PySem.W.nsIn K mainGlobals "NoMark" = some (some (.ref E7)))
    (xn8 : PySem.W.nsIn K mainGlobals "NoDeed" = some (some (.ref E8)))
    (xn9 : PySem.W.nsIn K mainGlobals "NoRule" = some (some (.ref E9)))
    (xn10 : PySem.W.nsIn K mainGlobals "TooMuch" = some (some (.ref E10)))
    (xn11 : PySem.W.nsIn K mainGlobals "NoText" = some (some (.ref E11)))
    (xn12 : PySem.W.nsIn K mainGlobals "NoRow" = some (some (.ref E12)))
    (xe4 : PySem.W.excIn K E4 [.type "ValueError", .type "Exception", .type "BaseException", .type "object"] "ValueError.__new__" = true) (xg4 : PySem.W.findIn K (.ref E4) "__getattribute__" = some (some (.builtin "BaseException.__getattribute__"))) (xh4 : PySem.W.findIn K (.ref E4) "__getattr__" = some none) (xc4 : PySem.W.findIn K (.ref E4) "__class__" = some (some (.builtin "object.__class__"))) (xo4 : PySem.W.mroIn K E4 (.type "object") = some true)
    (xe5 : PySem.W.excIn K E5 [.type "ValueError", .type "Exception", .type "BaseException", .type "object"] "ValueError.__new__" = true) (xg5 : PySem.W.findIn K (.ref E5) "__getattribute__" = some (some (.builtin "BaseException.__getattribute__"))) (xh5 : PySem.W.findIn K (.ref E5) "__getattr__" = some none) (xc5 : PySem.W.findIn K (.ref E5) "__class__" = some (some (.builtin "object.__class__"))) (xo5 : PySem.W.mroIn K E5 (.type "object") = some true)
    (xb0 : PySem.W.mroIn K E0 (.type "BaseException") = some true)
    (xb4 : PySem.W.mroIn K E4 (.type "BaseException") = some true)
    (xb5 : PySem.W.mroIn K E5 (.type "BaseException") = some true)
    (xu0 : PySem.W.isClsIn K E0 = true) (xy0 : PySem.W.typeIn K (.ref E0) = some (.type "type"))
    (xu1 : PySem.W.isClsIn K E1 = true) (xy1 : PySem.W.typeIn K (.ref E1) = some (.type "type"))
    (xu2 : PySem.W.isClsIn K E2 = true) (xy2 : PySem.W.typeIn K (.ref E2) = some (.type "type"))
    (xu3 : PySem.W.isClsIn K E3 = true) (xy3 : PySem.W.typeIn K (.ref E3) = some (.type "type"))
    (xu4 : PySem.W.isClsIn K E4 = true) (xy4 : PySem.W.typeIn K (.ref E4) = some (.type "type"))
    (xu5 : PySem.W.isClsIn K E5 = true) (xy5 : PySem.W.typeIn K (.ref E5) = some (.type "type"))
    (xu6 : PySem.W.isClsIn K E6 = true) (xy6 : PySem.W.typeIn K (.ref E6) = some (.type "type"))
    (xu7 : PySem.W.isClsIn K E7 = true) (xy7 : PySem.W.typeIn K (.ref E7) = some (.type "type"))
    (xu8 : PySem.W.isClsIn K E8 = true) (xy8 : PySem.W.typeIn K (.ref E8) = some (.type "type"))
    (xu9 : PySem.W.isClsIn K E9 = true) (xy9 : PySem.W.typeIn K (.ref E9) = some (.type "type"))
    (xu10 : PySem.W.isClsIn K E10 = true) (xy10 : PySem.W.typeIn K (.ref E10) = some (.type "type"))
    (xu11 : PySem.W.isClsIn K E11 = true) (xy11 : PySem.W.typeIn K (.ref E11) = some (.type "type"))
    (xu12 : PySem.W.isClsIn K E12 = true) (xy12 : PySem.W.typeIn K (.ref E12) = some (.type "type"))
    (xs4_0 : PySem.W.subIn K (.ref E4) (.ref E0) = some true)
    (xs4_1 : PySem.W.subIn K (.ref E4) (.ref E1) = some false)
    (xq4_1 : (Value.ref E4 == Value.ref E1) = false)
    (xs4_2 : PySem.W.subIn K (.ref E4) (.ref E2) = some false)
    (xq4_2 : (Value.ref E4 == Value.ref E2) = false)
    (xs4_3 : PySem.W.subIn K (.ref E4) (.ref E3) = some false)
    (xq4_3 : (Value.ref E4 == Value.ref E3) = false)
    (xs4_5 : PySem.W.subIn K (.ref E4) (.ref E5) = some false)
    (xq4_5 : (Value.ref E4 == Value.ref E5) = false)
    (xs4_6 : PySem.W.subIn K (.ref E4) (.ref E6) = some false)
    (xq4_6 : (Value.ref E4 == Value.ref E6) = false)
    (xs4_7 : PySem.W.subIn K (.ref E4) (.ref E7) = some false)
    (xq4_7 : (Value.ref E4 == Value.ref E7) = false)
    (xs4_8 : PySem.W.subIn K (.ref E4) (.ref E8) = some false)
    (xq4_8 : (Value.ref E4 == Value.ref E8) = false)
    (xs4_9 : PySem.W.subIn K (.ref E4) (.ref E9) = some false)
    (xq4_9 : (Value.ref E4 == Value.ref E9) = false)
    (xs4_10 : PySem.W.subIn K (.ref E4) (.ref E10) = some false)
    (xq4_10 : (Value.ref E4 == Value.ref E10) = false)
    (xs4_11 : PySem.W.subIn K (.ref E4) (.ref E11) = some false)
    (xq4_11 : (Value.ref E4 == Value.ref E11) = false)
    (xs4_12 : PySem.W.subIn K (.ref E4) (.ref E12) = some false)
    (xq4_12 : (Value.ref E4 == Value.ref E12) = false)
    (xs5_0 : PySem.W.subIn K (.ref E5) (.ref E0) = some true)
    (xs5_1 : PySem.W.subIn K (.ref E5) (.ref E1) = some false)
    (xq5_1 : (Value.ref E5 == Value.ref E1) = false)
    (xs5_2 : PySem.W.subIn K (.ref E5) (.ref E2) = some false)
    (xq5_2 : (Value.ref E5 == Value.ref E2) = false)
    (xs5_3 : PySem.W.subIn K (.ref E5) (.ref E3) = some false)
    (xq5_3 : (Value.ref E5 == Value.ref E3) = false)
    (xs5_4 : PySem.W.subIn K (.ref E5) (.ref E4) = some false)
    (xq5_4 : (Value.ref E5 == Value.ref E4) = false)
    (xs5_6 : PySem.W.subIn K (.ref E5) (.ref E6) = some false)
    (xq5_6 : (Value.ref E5 == Value.ref E6) = false)
    (xs5_7 : PySem.W.subIn K (.ref E5) (.ref E7) = some false)
    (xq5_7 : (Value.ref E5 == Value.ref E7) = false)
    (xs5_8 : PySem.W.subIn K (.ref E5) (.ref E8) = some false)
    (xq5_8 : (Value.ref E5 == Value.ref E8) = false)
    (xs5_9 : PySem.W.subIn K (.ref E5) (.ref E9) = some false)
    (xq5_9 : (Value.ref E5 == Value.ref E9) = false)
    (xs5_10 : PySem.W.subIn K (.ref E5) (.ref E10) = some false)
    (xq5_10 : (Value.ref E5 == Value.ref E10) = false)
    (xs5_11 : PySem.W.subIn K (.ref E5) (.ref E11) = some false)
    (xq5_11 : (Value.ref E5 == Value.ref E11) = false)
    (xs5_12 : PySem.W.subIn K (.ref E5) (.ref E12) = some false)
    (xq5_12 : (Value.ref E5 == Value.ref E12) = false)
    (xs4_ValueError : PySem.W.subIn K (.ref E4) (.type "ValueError") = some true)
    (xs5_ValueError : PySem.W.subIn K (.ref E5) (.type "ValueError") = some true)
    (z0 : PySem.W.nsIn K mainGlobals "ValueError" = some none)
    (z1 : PySem.W.nsIn K mainGlobals "isinstance" = some none)
    (z2 : PySem.W.nsIn K mainGlobals "max" = some none)
    (z3 : PySem.W.nsIn K mainGlobals "min" = some none)
    (z4 : PySem.W.nsIn K mainGlobals "range" = some none)
    (v0 : PySem.W.nsIn K mainGlobals "MOST_SHARE" = some (some (.int 1000 t0))) :
    ∃ fd : FuncData, (∀ (s : Shared) (v : Value), BindsTo s fd ⟨[v], []⟩ [("_law_script", v)]) ∧ ∀ base : Heap, K.In base → base.Ns mainGlobals mg → FnOk l.prog w K mg base CX0 6 fa fd ["_law_script"] (spLawB K 63) := by
  have e := hfa.symm.trans (PySem.W.mg_of X G a17)
  cases e
  have cl1 : Cls K K1 := ⟨pg1, hd1, po1, sa1⟩
  have cl2 : Cls K K2 := ⟨pg2, hd2, po2, sa2⟩
  have cl4 : Cls K K4 := ⟨pg4, hd4, po4, sa4⟩
  have cl6 : Cls K K6 := ⟨pg6, hd6, po6, sa6⟩
  have T : Glb K mg := ⟨PySem.W.mg_none_of X G z0, PySem.W.mg_none_of X G z1, PySem.W.mg_none_of X G z2, PySem.W.mg_none_of X G z3, PySem.W.mg_none_of X G z4, ⟨_, PySem.W.mg_of X G v0⟩, (fldOk_cons n1 cl1 na1_at rfl (by decide +kernel) (fldOk_cons n2 cl2 na2_at rfl (by decide +kernel) fldOk_nil)), (fldOk_cons n4 cl4 na4_bottom rfl (by decide +kernel) fldOk_nil), (fldOk_cons n1 cl1 na1_many rfl (by decide +kernel) (fldOk_cons n2 cl2 na2_many rfl (by decide +kernel) fldOk_nil)), (fldOk_cons n4 cl4 na4_top rfl (by decide +kernel) fldOk_nil), ⟨K6, PySem.W.mg_of X G n6, (isoOk_cons n1 cl1 ic1 ig it im1 (kit_yes iu6 iy6 is1_6) (isoOk_cons n2 cl2 ic2 ig it im2 (kit_yes iu6 iy6 is2_6) (isoOk_cons n4 cl4 ic4 ig it im4 (kit_yes iu6 iy6 is4_6) (isoOk_cons n6 cl6 ic6 ig it im6 (kit_self K6) isoOk_nil))))⟩, ⟨E1, PySem.W.mg_of X G xn1, (isx_cons (t := 4) (by exact xn4) ⟨xg4, xh4, xc4, xo4, xb4⟩ (kit_no xu1 xy1 xs4_1 xq4_1) (isx_cons (t := 5) (by exact xn5) ⟨xg5, xh5, xc5, xo5, xb5⟩ (kit_no xu1 xy1 xs5_1 xq5_1) isx_nil))⟩, ⟨E2, PySem.W.mg_of X G xn2, (isx_cons (t := 4) (by exact xn4) ⟨xg4, xh4, xc4, xo4, xb4⟩ (kit_no xu2 xy2 xs4_2 xq4_2) (isx_cons (t := 5) (by exact xn5) ⟨xg5, xh5, xc5, xo5, xb5⟩ (kit_no xu2 xy2 xs5_2 xq5_2) isx_nil))⟩, ⟨E3, PySem.W.mg_of X G xn3, (isx_cons (t := 4) (by exact xn4) ⟨xg4, xh4, xc4, xo4, xb4⟩ (kit_no xu3 xy3 xs4_3 xq4_3) (isx_cons (t := 5) (by exact xn5) ⟨xg5, xh5, xc5, xo5, xb5⟩ (kit_no xu3 xy3 xs5_3 xq5_3) isx_nil))⟩, ⟨E6, PySem.W.mg_of X G xn6, (isx_cons (t := 4) (by exact xn4) ⟨xg4, xh4, xc4, xo4, xb4⟩ (kit_no xu6 xy6 xs4_6 xq4_6) (isx_cons (t := 5) (by exact xn5) ⟨xg5, xh5, xc5, xo5, xb5⟩ (kit_no xu6 xy6 xs5_6 xq5_6) isx_nil))⟩, ⟨E7, PySem.W.mg_of X G xn7, (isx_cons (t := 4) (by exact xn4) ⟨xg4, xh4, xc4, xo4, xb4⟩ (kit_no xu7 xy7 xs4_7 xq4_7) (isx_cons (t := 5) (by exact xn5) ⟨xg5, xh5, xc5, xo5, xb5⟩ (kit_no xu7 xy7 xs5_7 xq5_7) isx_nil))⟩, ⟨E8, PySem.W.mg_of X G xn8, (isx_cons (t := 4) (by exact xn4) ⟨xg4, xh4, xc4, xo4, xb4⟩ (kit_no xu8 xy8 xs4_8 xq4_8) (isx_cons (t := 5) (by exact xn5) ⟨xg5, xh5, xc5, xo5, xb5⟩ (kit_no xu8 xy8 xs5_8 xq5_8) isx_nil))⟩, ⟨E9, PySem.W.mg_of X G xn9, (isx_cons (t := 4) (by exact xn4) ⟨xg4, xh4, xc4, xo4, xb4⟩ (kit_no xu9 xy9 xs4_9 xq4_9) (isx_cons (t := 5) (by exact xn5) ⟨xg5, xh5, xc5, xo5, xb5⟩ (kit_no xu9 xy9 xs5_9 xq5_9) isx_nil))⟩, ⟨E10, PySem.W.mg_of X G xn10, (isx_cons (t := 4) (by exact xn4) ⟨xg4, xh4, xc4, xo4, xb4⟩ (kit_no xu10 xy10 xs4_10 xq4_10) (isx_cons (t := 5) (by exact xn5) ⟨xg5, xh5, xc5, xo5, xb5⟩ (kit_no xu10 xy10 xs5_10 xq5_10) isx_nil))⟩, ⟨E11, PySem.W.mg_of X G xn11, (isx_cons (t := 4) (by exact xn4) ⟨xg4, xh4, xc4, xo4, xb4⟩ (kit_no xu11 xy11 xs4_11 xq4_11) (isx_cons (t := 5) (by exact xn5) ⟨xg5, xh5, xc5, xo5, xb5⟩ (kit_no xu11 xy11 xs5_11 xq5_11) isx_nil))⟩, ⟨E12, PySem.W.mg_of X G xn12, (isx_cons (t := 4) (by exact xn4) ⟨xg4, xh4, xc4, xo4, xb4⟩ (kit_no xu12 xy12 xs4_12 xq4_12) (isx_cons (t := 5) (by exact xn5) ⟨xg5, xh5, xc5, xo5, xb5⟩ (kit_no xu12 xy12 xs5_12 xq5_12) isx_nil))⟩, ⟨E5, PySem.W.mg_of X G xn5, (isx_cons (t := 4) (by exact xn4) ⟨xg4, xh4, xc4, xo4, xb4⟩ (kit_no xu5 xy5 xs4_5 xq4_5) (isx_cons (t := 5) (by exact xn5) ⟨xg5, xh5, xc5, xo5, xb5⟩ (kit_self E5) isx_nil))⟩, ⟨E4, PySem.W.mg_of X G xn4, (isx_cons (t := 4) (by exact xn4) ⟨xg4, xh4, xc4, xo4, xb4⟩ (kit_self E4) (isx_cons (t := 5) (by exact xn5) ⟨xg5, xh5, xc5, xo5, xb5⟩ (kit_no xu4 xy4 xs5_4 xq5_4) isx_nil))⟩, (isx_cons (t := 4) (by exact xn4) ⟨xg4, xh4, xc4, xo4, xb4⟩ (kitB_yes (by decide +kernel) xs4_ValueError) (isx_cons (t := 5) (by exact xn5) ⟨xg5, xh5, xc5, xo5, xb5⟩ (kitB_yes (by decide +kernel) xs5_ValueError) isx_nil))⟩
  have XR_4 : XR K mg 4 E4 := ⟨by exact xn4, by exact PySem.W.mg_of X G xn4, ⟨xe4, ⟨xg4, xh4, xc4, xo4, xb4⟩⟩⟩
  have XR_5 : XR K mg 5 E5 := ⟨by exact xn5, by exact PySem.W.mg_of X G xn5, ⟨xe5, ⟨xg5, xh5, xc5, xo5, xb5⟩⟩⟩
  have XT_4 : XT K mg 4 "SpanError" E4 E0 := ⟨by exact xn4, PySem.W.mg_of X G xn0, ⟨kitCls_yes xu0 xy0 xs4_0, xb0⟩⟩
  have XT_5 : XT K mg 5 "SpanError" E5 E0 := ⟨by exact xn5, PySem.W.mg_of X G xn0, ⟨kitCls_yes xu0 xy0 xs5_0, xb0⟩⟩
  have F0 := fun_mk (st := (inClass (top 17) 0)) l0 c0 k0
  have b0 := F0.binds (ps := ["self"]) fun _ _ _ _ _ _ us hl => match us, hl with | [_], _ => rfl
  have F1 := fun_mk (st := (top 21)) l1 c1 k1
  have b1 := F1.binds (ps := ["many"]) fun _ _ _ _ _ _ us hl => match us, hl with | [_], _ => rfl
  have F2 := fun_mk (st := (inClass (top 18) 0)) l2 c2 k2
  have b2 := F2.binds (ps := ["self", "at", "many"]) fun _ _ _ _ _ _ us hl => match us, hl with | [_, _, _], _ => rfl
  have F3 := fun_mk (st := (top 24)) l3 c3 k3
  have b3 := F3.binds (ps := ["place", "at", "many"]) fun _ _ _ _ _ _ us hl => match us, hl with | [_, _, _], _ => rfl
  have F4 := fun_mk (st := (inClass (top 18) 1)) l4 c4 k4
  have b4 := F4.binds (ps := ["self", "place"]) fun _ _ _ _ _ _ us hl => match us, hl with | [_, _], _ => rfl
  have F5 := fun_mk (st := (inClass (top 19) 0)) l5 c5 k5
  have b5 := F5.binds (ps := ["self", "at", "many"]) fun _ _ _ _ _ _ us hl => match us, hl with | [_, _, _], _ => rfl
  have F6 := fun_mk (st := (top 23)) l6 c6 k6
  have b6 := F6.binds (ps := ["place", "at", "many"]) fun _ _ _ _ _ _ us hl => match us, hl with | [_, _, _], _ => rfl
  have F7 := fun_mk (st := (inClass (top 19) 1)) l7 c7 k7
  have b7 := F7.binds (ps := ["self", "place"]) fun _ _ _ _ _ _ us hl => match us, hl with | [_, _], _ => rfl
  have F8 := fun_mk (st := (top 22)) l8 c8 k8
  have b8 := F8.binds (ps := ["number"]) fun _ _ _ _ _ _ us hl => match us, hl with | [_], _ => rfl
  have F9 := fun_mk (st := (inClass (top 20) 0)) l9 c9 k9
  have b9 := F9.binds (ps := ["self", "top", "bottom"]) fun _ _ _ _ _ _ us hl => match us, hl with | [_, _, _], _ => rfl
  have F10 := fun_mk (st := (inClass (top 20) 1)) l10 c10 k10
  have b10 := F10.binds (ps := ["self", "place"]) fun _ _ _ _ _ _ us hl => match us, hl with | [_, _], _ => rfl
  have F11 := fun_mk (st := (top 26)) l11 c11 k11
  have b11 := F11.binds (ps := ["_law_script", "_law_k"]) fun _ _ _ _ _ _ us hl => match us, hl with | [_, _], _ => rfl
  have F12 := fun_mk (st := (top 28)) l12 c12 k12
  have b12 := F12.binds (ps := ["_law_cell"]) fun _ _ _ _ _ _ us hl => match us, hl with | [_], _ => rfl
  have F13 := fun_mk (st := (top 29)) l13 c13 k13
  have b13 := F13.binds (ps := ["_law_cell"]) fun _ _ _ _ _ _ us hl => match us, hl with | [_], _ => rfl
  have F14 := fun_mk (st := (top 30)) l14 c14 k14
  have b14 := F14.binds (ps := ["_law_e"]) fun _ _ _ _ _ _ us hl => match us, hl with | [_], _ => rfl
  have F15 := fun_mk (st := (top 31)) l15 c15 k15
  have b15 := F15.binds (ps := ["_law_which", "_law_one", "_law_other"]) fun _ _ _ _ _ _ us hl => match us, hl with | [_, _, _], _ => rfl
  have F16 := fun_mk (st := (top 32)) l16 c16 k16
  have b16 := F16.binds (ps := ["_law_which", "_law_one", "_law_other"]) fun _ _ _ _ _ _ us hl => match us, hl with | [_, _, _], _ => rfl
  have F17 := fun_mk (st := (top 33)) l17 c17 k17
  refine ⟨PySem.W.fnOf "law" "law" (defArgs (top 33)) (defBody (top 33)) (defScope (top 33)) .none kV17 dc17 pm17 an17 cd17 ct17, fun s v => .of_eq rfl, fun base _ _ => ?_⟩
  have G0 := fok_Deed___init__ (P := l.prog) (w := w) (base := base) F0 T
  have GX1_4 := fokx_check_many_4 (P := l.prog) (w := w) (base := base) F1 T  XR_4
  have CX_check_many_4 : CalX l.prog w K mg base "check_many" 1 1 K46.X_check_many_4.f E4 := ⟨f1, _, _, GX1_4, b1, k1, PySem.W.mg_of X G a1⟩
  have G1 := fok_check_many (P := l.prog) (w := w) (base := base) F1 T
  have C_check_many : Cal l.prog w K mg base "check_many" 1 1 GP.check_many.f := ⟨f1, _, _, G1, b1, k1, PySem.W.mg_of X G a1⟩
  have S_Deed : SCal l.prog w K mg base "Deed" 1 ["fill"] GP.Deed___init__2.f := ⟨K6, f0, _, _, PySem.W.mg_of X G n6, ⟨.type "type", s1_6, s2_6, s3_6, k0⟩, G0, b0⟩
  have GX2_4 := fokx_Widen___init___4 (P := l.prog) (w := w) (base := base) F2 T C_check_many S_Deed CX_check_many_4
  have MX_Widen_4 : MkX l.prog w K mg base 1 2 2 K46.X_Widen___init___4.f E4 := ⟨K1, f2, _, _, PySem.W.mg_of X G n1, ⟨mk1, a2, i2, kc1⟩, GX2_4, b2⟩
  have G2 := fok_Widen___init__ (P := l.prog) (w := w) (base := base) F2 T C_check_many S_Deed
  have G3 := fok_taken_out (P := l.prog) (w := w) (base := base) F3 T
  have C_taken_out : Cal l.prog w K mg base "taken_out" 1 3 GP.taken_out.f := ⟨f3, _, _, G3, b3, k3, PySem.W.mg_of X G a3⟩
  have G4 := fok_Widen_came (P := l.prog) (w := w) (base := base) F4 T C_taken_out
  have GX5_4 := fokx_Narrow___init___4 (P := l.prog) (w := w) (base := base) F5 T C_check_many S_Deed CX_check_many_4
  have MX_Narrow_4 : MkX l.prog w K mg base 2 2 2 K46.X_Narrow___init___4.f E4 := ⟨K2, f5, _, _, PySem.W.mg_of X G n2, ⟨mk2, a5, i5, kc2⟩, GX5_4, b5⟩
  have G5 := fok_Narrow___init__ (P := l.prog) (w := w) (base := base) F5 T C_check_many S_Deed
  have G6 := fok_opened (P := l.prog) (w := w) (base := base) F6 T
  have C_opened : Cal l.prog w K mg base "opened" 1 3 GP.opened.f := ⟨f6, _, _, G6, b6, k6, PySem.W.mg_of X G a6⟩
  have G7 := fok_Narrow_came (P := l.prog) (w := w) (base := base) F7 T C_opened
  have GX8_5 := fokx_check_share_5 (P := l.prog) (w := w) (base := base) F8 T  XR_5
  have CX_check_share_5 : CalX l.prog w K mg base "check_share" 1 1 K46.X_check_share_5.f E5 := ⟨f8, _, _, GX8_5, b8, k8, PySem.W.mg_of X G a8⟩
  have G8 := fok_check_share (P := l.prog) (w := w) (base := base) F8 T
  have C_check_share : Cal l.prog w K mg base "check_share" 1 1 GP.check_share.f := ⟨f8, _, _, G8, b8, k8, PySem.W.mg_of X G a8⟩
  have GX9_5 := fokx_Stretch___init___5 (P := l.prog) (w := w) (base := base) F9 T C_check_share S_Deed CX_check_share_5
  have MX_Stretch_5 : MkX l.prog w K mg base 4 2 2 K46.X_Stretch___init___5.f E5 := ⟨K4, f9, _, _, PySem.W.mg_of X G n4, ⟨mk4, a9, i9, kc4⟩, GX9_5, b9⟩
  have G9 := fok_Stretch___init__ (P := l.prog) (w := w) (base := base) F9 T C_check_share S_Deed
  have G10 := fok_Stretch_came (P := l.prog) (w := w) (base := base) F10 T
  have G11 := fok__law_nth (P := l.prog) (w := w) (base := base) F11 T
  have C__law_nth : Cal l.prog w K mg base "_law_nth" 1 2 GL.nth.f := ⟨f11, _, _, G11, b11, k11, PySem.W.mg_of X G a11⟩
  have G12 := fok__law_many (P := l.prog) (w := w) (base := base) F12 T
  have C__law_many : Cal l.prog w K mg base "_law_many" 1 1 K46.L_many.f := ⟨f12, _, _, G12, b12, k12, PySem.W.mg_of X G a12⟩
  have G13 := fok__law_part (P := l.prog) (w := w) (base := base) F13 T
  have C__law_part : Cal l.prog w K mg base "_law_part" 1 1 K46.L_part.f := ⟨f13, _, _, G13, b13, k13, PySem.W.mg_of X G a13⟩
  have GH14 := fokh__law_classes (P := l.prog) (w := w) (base := base) F14 T
  have CH__law_classes : CalH l.prog w K mg base "_law_classes" 1 K46.H__law_classes.h := ⟨f14, _, _, GH14, b14, k14, PySem.W.mg_of X G a14⟩
  have Mk_Stretch : MkC l.prog w K mg base 4 2 2 GP.Stretch___init__2.f := ⟨K4, f9, _, _, n4, PySem.W.mg_of X G n4, ⟨mk4, a9, i9, kc4⟩, cl4, G9, b9, (noAll_mem (l := ["fill", "top", "bottom"]) (noAll_cons na4_fill (noAll_cons na4_top (noAll_cons na4_bottom noAll_nil))))⟩
  have Mk_Widen : MkC l.prog w K mg base 1 2 2 GP.Widen___init__2.f := ⟨K1, f2, _, _, n1, PySem.W.mg_of X G n1, ⟨mk1, a2, i2, kc1⟩, cl1, G2, b2, (noAll_mem (l := ["fill", "at", "many"]) (noAll_cons na1_fill (noAll_cons na1_at (noAll_cons na1_many noAll_nil))))⟩
  have Mk_Narrow : MkC l.prog w K mg base 2 2 2 GP.Widen___init__2.f := ⟨K2, f5, _, _, n2, PySem.W.mg_of X G n2, ⟨mk2, a5, i5, kc2⟩, cl2, G5, b5, (noAll_mem (l := ["fill", "at", "many"]) (noAll_cons na2_fill (noAll_cons na2_at (noAll_cons na2_many noAll_nil))))⟩
  have GX15_4 := fokx__law_made_4 (P := l.prog) (w := w) (base := base) F15 T Mk_Stretch Mk_Widen Mk_Narrow MX_Widen_4 MX_Narrow_4
  have CX__law_made_4 : CalX l.prog w K mg base "_law_made" 4 3 K46.X__law_made_4.f E4 := ⟨f15, _, _, GX15_4, b15, k15, PySem.W.mg_of X G a15⟩
  have GX15_5 := fokx__law_made_5 (P := l.prog) (w := w) (base := base) F15 T Mk_Stretch Mk_Widen Mk_Narrow MX_Stretch_5
  have CX__law_made_5 : CalX l.prog w K mg base "_law_made" 4 3 K46.X__law_made_5.f E5 := ⟨f15, _, _, GX15_5, b15, k15, PySem.W.mg_of X G a15⟩
  have G15 := fok__law_made (P := l.prog) (w := w) (base := base) F15 T Mk_Stretch Mk_Widen Mk_Narrow
  have C__law_made : Cal l.prog w K mg base "_law_made" 4 3 K46.L_made.f := ⟨f15, _, _, G15, b15, k15, PySem.W.mg_of X G a15⟩
  have M_came : MCal l.prog w K mg base "came" 2 1 [1, 2, 4] GP.M_came_9db0f5 := (mcal_cons n1 cl1 ⟨a4, i4, k4⟩ G4 (by decide) b4 (by decide +kernel) (mcal_cons n2 cl2 ⟨a7, i7, k7⟩ G7 (by decide) b7 (by decide +kernel) (mcal_cons n4 cl4 ⟨a10, i10, k10⟩ G10 (by decide) b10 (by decide +kernel) mcal_nil)))
  have G16 := fok__law_told (P := l.prog) (w := w) (base := base) F16 T C__law_made CH__law_classes M_came XT_4 CX__law_made_4 XT_5 CX__law_made_5
  have C__law_told : Cal l.prog w K mg base "_law_told" 5 3 K46.L_told.f := ⟨f16, _, _, G16, b16, k16, PySem.W.mg_of X G a16⟩
  exact law_ofB (F := K46.law.f) (fok_law F17 T C__law_many C__law_part C__law_nth C__law_told) run_law
end K46
def PySem.W.Fast.tw9806553464401035016 : Unit := ()
def PySem.W.Fast.tw16936318929703002025 : Unit := ()
def PySem.W.Fast.tw7898398680928897385 : Unit := ()
def PySem.W.Fast.tw10906151885341285341 : Unit := ()
def PySem.W.Fast.tw2985617756495019588 : Unit := ()
def PySem.W.Fast.tw7144778881384150641 : Unit := ()
def PySem.W.Fast.tw4386737523993973734 : Unit := ()
def PySem.W.Fast.tw10550034334713652060 : Unit := ()
def PySem.W.Fast.tw5064609630600253522 : Unit := ()
def PySem.W.Fast.tw17430971506026075554 : Unit := ()
def PySem.W.Fast.tw13350264238097682564 : Unit := ()
def PySem.W.Fast.tw9557092765908958260 : Unit := ()
def PySem.W.Fast.tw661726700751520503 : Unit := ()
def PySem.W.Fast.tw15834787152444238268 : Unit := ()
def PySem.W.Fast.tw9524111065339709462 : Unit := ()
def PySem.W.Fast.tw1964757055391147031 : Unit := ()
def PySem.W.Fast.tw13129502496082243006 : Unit := ()
def PySem.W.Fast.tw2591975674429251538 : Unit := ()
open PySem PySem.W PyProof.Rows
set_option maxRecDepth 100000 in
set_option maxHeartbeats 0 in
theorem PySem.Challenge.cw_spanmap_k46_refused_deeds_holds : PySem.Challenge.rw_spanmap_k46_refused_deeds.Holds := by
  w_on; o_law; k_head; (case hw => w_witness2)
  k_fill
  refine FL.walkB (l := PySem.Challenge.rw_spanmap_k46_refused_deeds) (k := 6) rfl rfl ⟨rfl, by decide, by decide⟩ (fun w h Y => PySem.W.kIn_of Y) ?F
  case F =>
    intro w mg fa h KX G hmg
    refine' K46.all_mk KX G hmg ?n1 ?pg1 ?hd1 ?po1 ?sa1 ?na1_fill ?na1_at ?na1_many ?n2 ?pg2 ?hd2 ?po2 ?sa2 ?na2_fill ?na2_at ?na2_many ?n4 ?pg4 ?hd4 ?po4 ?sa4 ?na4_fill ?na4_top ?na4_bottom ?n6 ?pg6 ?hd6 ?po6 ?sa6 ?na6_fill ?a0 ?l0 ?c0 ?k0 ?i0 ?a1 ?l1 ?c1 ?k1 ?a2 ?l2 ?c2 ?k2 ?i2 ?a3 ?l3 ?c3 ?k3 ?a4 ?l4 ?c4 ?k4 ?i4 ?a5 ?l5 ?c5 ?k5 ?i5 ?a6 ?l6 ?c6 ?k6 ?a7 ?l7 ?c7 ?k7 ?i7 ?a8 ?l8 ?c8 ?k8 ?a9 ?l9 ?c9 ?k9 ?i9 ?a10 ?l10 ?c10 ?k10 ?i10 ?a11 ?l11 ?c11 ?k11 ?a12 ?l12 ?c12 ?k12 ?a13 ?l13 ?c13 ?k13 ?a14 ?l14 ?c14 ?k14 ?a15 ?l15 ?c15 ?k15 ?a16 ?l16 ?c16 ?k16 ?a17 ?l17 ?c17 ?k17 ?mk1 ?kc1 ?mk2 ?kc2 ?mk4 ?kc4 ?s1_6 ?s2_6 ?s3_6 ?ig ?it ?ic1 ?im1 ?ic2 ?im2 ?ic4 ?im4 ?ic6 ?im6 ?iu6 ?iy6 ?is1_6 ?is2_6 ?is4_6 ?xn0 ?xn1 ?xn2 ?xn3 ?xn4 ?xn5 ?xn6 ?xn7 ?xn8 ?xn9 ?xn10 ?xn11 ?xn12 ?xe4 ?xg4 ?xh4 ?xc4 ?xo4 ?xe5 ?xg5 ?xh5 ?xc5 ?xo5 ?xb0 ?xb4 ?xb5 ?xu0 ?xy0 ?xu1 ?xy1 ?xu2 ?xy2 ?xu3 ?xy3 ?xu4 ?xy4 ?xu5 ?xy5 ?xu6 ?xy6 ?xu7 ?xy7 ?xu8 ?xy8 ?xu9 ?xy9 ?xu10 ?xy10 ?xu11 ?xy11 ?xu12 ?xy12 ?xs4_0 ?xs4_1 ?xq4_1 ?xs4_2 ?xq4_2 ?xs4_3 ?xq4_3 ?xs4_5 ?xq4_5 ?xs4_6 ?xq4_6 ?xs4_7 ?xq4_7 ?xs4_8 ?xq4_8 ?xs4_9 ?xq4_9 ?xs4_10 ?xq4_10 ?xs4_11 ?xq4_11 ?xs4_12 ?xq4_12 ?xs5_0 ?xs5_1 ?xq5_1 ?xs5_2 ?xq5_2 ?xs5_3 ?xq5_3 ?xs5_4 ?xq5_4 ?xs5_6 ?xq5_6 ?xs5_7 ?xq5_7 ?xs5_8 ?xq5_8 ?xs5_9 ?xq5_9 ?xs5_10 ?xq5_10 ?xs5_11 ?xq5_11 ?xs5_12 ?xq5_12 ?xs4_ValueError ?xs5_ValueError ?z0 ?z1 ?z2 ?z3 ?z4 ?v0
    (case n1 => k_is)
    (case pg1 => k_is)
    (case hd1 => k_is)
    (case po1 => k_is)
    (case sa1 => k_is)
    (case na1_fill => k_is)
    (case na1_at => k_is)
    (case na1_many => k_is)
    (case n2 => k_is)
    (case pg2 => k_is)
    (case hd2 => k_is)
    (case po2 => k_is)
    (case sa2 => k_is)
    (case na2_fill => k_is)
    (case na2_at => k_is)
    (case na2_many => k_is)
    (case n4 => k_is)
    (case pg4 => k_is)
    (case hd4 => k_is)
    (case po4 => k_is)
    (case sa4 => k_is)
    (case na4_fill => k_is)
    (case na4_top => k_is)
    (case na4_bottom => k_is)
    (case n6 => k_is)
    (case pg6 => k_is)
    (case hd6 => k_is)
    (case po6 => k_is)
    (case sa6 => k_is)
    (case na6_fill => k_is)
    (case a0 => k_is)
    (case l0 => k_is)
    (case c0 => k_is)
    (case k0 => k_is)
    (case i0 => k_is)
    (case a1 => k_is)
    (case l1 => k_is)
    (case c1 => k_is)
    (case k1 => k_is)
    (case a2 => k_is)
    (case l2 => k_is)
    (case c2 => k_is)
    (case k2 => k_is)
    (case i2 => k_is)
    (case a3 => k_is)
    (case l3 => k_is)
    (case c3 => k_is)
    (case k3 => k_is)
    (case a4 => k_is)
    (case l4 => k_is)
    (case c4 => k_is)
    (case k4 => k_is)
    (case i4 => k_is)
    (case a5 => k_is)
    (case l5 => k_is)
    (case c5 => k_is)
    (case k5 => k_is)
    (case i5 => k_is)
    (case a6 => k_is)
    (case l6 => k_is)
    (case c6 => k_is)
    (case k6 => k_is)
    (case a7 => k_is)
    (case l7 => k_is)
    (case c7 => k_is)
    (case k7 => k_is)
    (case i7 => k_is)
    (case a8 => k_is)
    (case l8 => k_is)
    (case c8 => k_is)
    (case k8 => k_is)
    (case a9 => k_is)
    (case l9 => k_is)
    (case c9 => k_is)
    (case k9 => k_is)
    (case i9 => k_is)
    (case a10 => k_is)
    (case l10 => k_is)
    (case c10 => k_is)
    (case k10 => k_is)
    (case i10 => k_is)
    (case a11 => k_is)
    (case l11 => k_is)
    (case c11 => k_is)
    (case k11 => k_is)
    (case a12 => k_is)
    (case l12 => k_is)
    (case c12 => k_is)
    (case k12 => k_is)
    (case a13 => k_is)
    (case l13 => k_is)
    (case c13 => k_is)
    (case k13 => k_is)
    (case a14 => k_is)
    (case l14 => k_is)
    (case c14 => k_is)
    (case k14 => k_is)
    (case a15 => k_is)
    (case l15 => k_is)
    (case c15 => k_is)
    (case k15 => k_is)
    (case a16 => k_is)
    (case l16 => k_is)
    (case c16 => k_is)
    (case k16 => k_is)
    (case a17 => k_is)
    (case l17 => k_is)
    (case c17 => k_is)
    (case k17 => k_is)
    (case mk1 => k_is)
    (case kc1 => k_is)
    (case mk2 => k_is)
    (case kc2 => k_is)
    (case mk4 => k_is)
    (case kc4 => k_is)
    (case s1_6 => k_is)
    (case s2_6 => k_is)
    (case s3_6 => k_is)
    (case ig => k_is)
    (case it => k_is)
    (case ic1 => k_is)
    (case im1 => k_is)
    (case ic2 => k_is)
    (case im2 => k_is)
    (case ic4 => k_is)
    (case im4 => k_is)
    (case ic6 => k_is)
    (case im6 => k_is)
    (case iu6 => k_is)
    (case iy6 => k_is)
    (case is1_6 => k_is)
    (case is2_6 => k_is)
    (case is4_6 => k_is)
    (case xn0 => k_is)
    (case xn1 => k_is)
    (case xn2 => k_is)
    (case xn3 => k_is)
    (case xn4 => k_is)
    (case xn5 => k_is)
    (case xn6 => k_is)
    (case xn7 => k_is)
    (case xn8 => k_is)
    (case xn9 => k_is)
    (case xn10 => k_is)
    (case xn11 => k_is)
    (case xn12 => k_is)
    (case xe4 => k_exc)
    (case xg4 => k_is)
    (case xh4 => k_is)
    (case xc4 => k_is)
    (case xo4 => k_is)
    (case xe5 => k_exc)
    (case xg5 => k_is)
    (case xh5 => k_is)
    (case xc5 => k_is)
    (case xo5 => k_is)
    (case xb0 => k_is)
    (case xb4 => k_is)
    (case xb5 => k_is)
    (case xu0 => k_is)
    (case xy0 => k_is)
    (case xu1 => k_is)
    (case xy1 => k_is)
    (case xu2 => k_is)
    (case xy2 => k_is)
    (case xu3 => k_is)
    (case xy3 => k_is)
    (case xu4 => k_is)
    (case xy4 => k_is)
    (case xu5 => k_is)
    (case xy5 => k_is)
    (case xu6 => k_is)
    (case xy6 => k_is)
    (case xu7 => k_is)
    (case xy7 => k_is)
    (case xu8 => k_is)
    (case xy8 => k_is)
    (case xu9 => k_is)
    (case xy9 => k_is)
    (case xu10 => k_is)
    (case xy10 => k_is)
    (case xu11 => k_is)
    (case xy11 => k_is)
    (case xu12 => k_is)
    (case xy12 => k_is)
    (case xs4_0 => k_is)
    (case xs4_1 => k_is)
    (case xq4_1 => decide)
    (case xs4_2 => k_is)
    (case xq4_2 => decide)
    (case xs4_3 => k_is)
    (case xq4_3 => decide)
    (case xs4_5 => k_is)
    (case xq4_5 => decide)
    (case xs4_6 => k_is)
    (case xq4_6 => decide)
    (case xs4_7 => k_is)
    (case xq4_7 => decide)
    (case xs4_8 => k_is)
    (case xq4_8 => decide)
    (case xs4_9 => k_is)
    (case xq4_9 => decide)
    (case xs4_10 => k_is)
    (case xq4_10 => decide)
    (case xs4_11 => k_is)
    (case xq4_11 => decide)
    (case xs4_12 => k_is)
    (case xq4_12 => decide)
    (case xs5_0 => k_is)
    (case xs5_1 => k_is)
    (case xq5_1 => decide)
    (case xs5_2 => k_is)
    (case xq5_2 => decide)
    (case xs5_3 => k_is)
    (case xq5_3 => decide)
    (case xs5_4 => k_is)
    (case xq5_4 => decide)
    (case xs5_6 => k_is)
    (case xq5_6 => decide)
    (case xs5_7 => k_is)
    (case xq5_7 => decide)
    (case xs5_8 => k_is)
    (case xq5_8 => decide)
    (case xs5_9 => k_is)
    (case xq5_9 => decide)
    (case xs5_10 => k_is)
    (case xq5_10 => decide)
    (case xs5_11 => k_is)
    (case xq5_11 => decide)
    (case xs5_12 => k_is)
    (case xq5_12 => decide)
    (case xs4_ValueError => k_is)
    (case xs5_ValueError => k_is)
    (case z0 => k_is)
    (case z1 => k_is)
    (case z2 => k_is)
    (case z3 => k_is)
    (case z4 => k_is)
    (case v0 => k_is)
#print axioms PySem.Challenge.cw_spanmap_k46_refused_deeds_holds
