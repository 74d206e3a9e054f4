import PyProof.Rows.All
import Wide.All
import OpenK.AllK
import Wide.FinOn
import Lean
import PyProof.EqAt
import PyProof.DictItems
import PyProof.DictWalks
import PyProof.Rows.SortStr
import PyProof.Rows.SortShellK
import PyProof.Rows.SortWalk
import KE.KRevIter
import KE.KDictList
import PyProof.CollectIter
import PyProof.DictValues
import KE.KDictSum
import PyProof.EqKinds
import PyProof.TupleCall
import PyProof.ListRange
import PyProof.P3In
import PyProof.NeData
import PyProof.NsDelKeeps
import PyProof.SliceList
import KE.KLam
import KE.KIntText
import PySem.Challenge.RW_spanmap_k63_whole_first_run
set_option compiler.extract_closed false
set_option bootstrap.genMatcherCode false
set_option Elab.async false
set_option linter.all false
set_option maxRecDepth 100000
namespace HT
noncomputable def sIx (n d : Nat) : Option Int → Nat
  | none => d
  | some v => if v < 0 then (v + (n : Int)).toNat else min v.toNat n
end HT
namespace L2
open PySem
abbrev Key := Sum (Option Int) Str
noncomputable def ixN (n : Nat) (i : Int) : Option Nat := if 0 ≤ i then (if i < n then some i.toNat else none) else if -(n : Int) ≤ i then some (i + n).toNat else none
noncomputable def atI {α : Type} (xs : List α) (i : Int) : Option α := (ixN xs.length i).bind fun j => xs[j]?
end L2
namespace FL
open PySem PySem.Spec PyProof.Rows L2
theorem bnd {α β : Type} {o : Option α} {f : α → Option β} {b : β} (h : o.bind f = some b) : ∃ a, o = some a ∧ f a = some b := Option.bind_eq_some_iff.mp h
theorem mpd {α β : Type} {o : Option α} {f : α → β} {b : β} (h : o.map f = some b) : ∃ a, o = some a ∧ f a = b := Option.map_eq_some_iff.mp h
noncomputable def clsName : Nat → Str
  | 0 => "Put" | 1 => "Widen" | 2 => "Narrow" | 3 => "Move" | 4 => "Stretch" | 5 => "Mirror" | 6 => "Deed" | 7 => "Shut" | 8 => "Open" | 9 => "Endless" | 10 => "End" | 11 => "Line" | 12 => "Bundle" | 13 => "Desk"
  | 20 => "Line" | 21 => "Line" | 22 => "Line" | 23 => "Line" | 24 => "Bundle" | 25 => "Desk" | _ => ""
noncomputable def clsFlds : Nat → List Str
  | 0 => ["span", "fill"] | 1 => ["fill", "at", "many"] | 2 => ["fill", "at", "many"] | 3 => ["fill", "far"] | 4 => ["fill", "top", "bottom"] | 5 => ["fill"] | 6 => ["fill"] | 7 => ["place"] | 8 => ["place"] | 11 => ["pieces", "places", "earlier", "later"] | 12 => ["lying"] | 13 => ["lines"]
  | 21 => ["pieces"] | 22 => ["pieces", "places"] | 23 => ["pieces", "places", "earlier"] | _ => []
noncomputable def fnName : Nat → Str
  | 0 => "either" | 1 => "if_both" | 2 => "if_alone" | 3 => "summed" | 4 => "_law_first" | 5 => "_law_both" | 6 => "_law_left" | 7 => "_law_sum" | 8 => "_law_none" | _ => ""
inductive D where
  | non | bl (b : Bool) | int (i : Int) | str (x : Str) | tup (ds : List D) | lst (ds : List D)
  | dct (ks : List Key) (ds : List D) | ins (t : Nat) (ds : List D) | clo (m n : Nat) (ds : List D)
  | dcf (ks : List Key) (ds : List D)
mutual
noncomputable def flat : D → Bool
  | .non | .bl _ | .int _ | .str _ => true
  | .tup ds => flats ds
  | _ => false
noncomputable def flats : List D → Bool
  | [] => true
  | d :: r => flat d && flats r
end
noncomputable def xName : Nat → Str
  | 0 => "SpanError" | 1 => "Empty" | 2 => "NoEnd" | 3 => "Clash" | 4 => "NoCount" | 5 => "NoShare" | 6 => "NoName" | 7 => "NoMark" | 8 => "NoDeed" | 9 => "NoRule" | 10 => "TooMuch" | 11 => "NoText" | _ => "NoRow"
inductive OT where
  | val (d : D) | lst (l : List OT) | tup (l : List OT) | dct (ks : List Key) (l : List OT) | ins (t : Nat) (l : List OT)
mutual
noncomputable def otD : OT → D
  | .val d => d
  | .lst l => .lst (otDs l)
  | .tup l => .tup (otDs l)
  | .dct ks l => .dct ks (otDs l)
  | .ins t l => .ins t (otDs l)
noncomputable def otDs : List OT → List D
  | [] => []
  | t :: r => otD t :: otDs r
end
inductive Sl where
  | no | v (d : D) | own (l : List D) | exc (t : Nat) | fr (l : List D) | ob (r : Option Nat) (t : OT)
abbrev FE := List Sl → Option D
abbrev FT := List Sl → Option Bool
abbrev FA := List Sl → Option (List D)
noncomputable def mkL (f : FA) : FE := fun ds => (f ds).map D.lst
noncomputable def getV (i : Nat) : FE := fun ds => match ds[i]? with | some (.v d) => some d | _ => none
noncomputable def getW (i : Nat) : FE := fun ds => match ds[i]? with | some (.v d) => some d | some (.own l) => some (.lst l) | _ => none
noncomputable def konst (d : D) : FE := fun _ => some d
noncomputable def bin2 (op : D → D → Option D) (fa fb : FE) : FE := fun ds => (fa ds).bind fun x => (fb ds).bind fun y => op x y
noncomputable def isB : D → Option Bool
  | .bl b => some b
  | _ => none
noncomputable def testB (f : FE) : FT := fun ds => (f ds).bind isB
noncomputable def addD : D → D → Option D
  | .int i, .int j => some (.int (i + j))
  | .str x, .str y => if x.length + y.length ≤ sizeLine then some (.str (x ++ y)) else none
  | _, _ => none
noncomputable def subD : D → D → Option D
  | .int i, .int j => some (.int (i - j))
  | _, _ => none
def divOk (j : Int) : Prop := 0 < j ∧ j.natAbs.log2 < 9000
noncomputable instance divOkD (j : Int) : Decidable (divOk j) := Classical.propDecidable _
noncomputable def fdivD : D → D → Option D
  | .int i, .int j => if divOk j then some (.int (i / j)) else none
  | _, _ => none
noncomputable def modD : D → D → Option D
  | .int i, .int j => if 0 < j then some (.int (i % j)) else none
  | _, _ => none
noncomputable def cmpI (p : Int → Int → Bool) : D → D → Option D
  | .int i, .int j => some (.bl (p i j))
  | _, _ => none
noncomputable def andT (c d : FT) : FT := fun ds => (c ds).bind fun b => if b = true then d ds else some false
noncomputable def orT (c d : FT) : FT := fun ds => (c ds).bind fun b => if b = true then some true else d ds
noncomputable def notT (c : FT) : FT := fun ds => (c ds).map not
noncomputable def andV (f g : FE) : FE := fun ds => (f ds).bind fun d => match d with | .bl true => g ds | .bl false => some (.bl false) | _ => none
noncomputable def orV (f g : FE) : FE := fun ds => (f ds).bind fun d => match d with | .bl true => some (.bl true) | .bl false => g ds | _ => none
noncomputable def notV (f : FE) : FE := fun ds => (f ds).bind fun d => match d with | .bl b => some (.bl (!b)) | _ => none
noncomputable def ifV (c : FT) (f g : FE) : FE := fun ds => (c ds).bind fun b => if b = true then f ds else g ds
noncomputable def chain (op op' : D → D → Option D) (fa fb fc : FE) : FE := fun ds => (fa ds).bind fun x => (fb ds).bind fun y => (op x y).bind fun z => match z with
  | .bl true => (fc ds).bind fun w => op' y w
  | .bl false => some (.bl false)
  | _ => none
noncomputable def consA (f : FE) (g : FA) : FA := fun ds => (f ds).bind fun x => (g ds).map fun r => x :: r
noncomputable def nilA : FA := fun _ => some []
noncomputable def sized (f : FA) : FA := fun ds => (f ds).bind fun l => if l.length ≤ sizeLine then some l else none
noncomputable def mkT (f : FA) : FE := fun ds => (f ds).map D.tup
noncomputable def ixD : D → D → Option D
  | .lst l, .int i => atI l i
  | .tup l, .int i => atI l i
  | .str x, .int i => if x.length ≤ sizeLine then (atI x.cps.toList i).map fun c => .str ⟨#[c]⟩ else none
  | _, _ => none
inductive Ret where
  | val (d : D) | fresh (l : List D) | any (d : D) | obj (t : OT)
noncomputable def retV : Ret → Option D
  | .val d => some d
  | .fresh l => some (.lst l)
  | .any _ => none
  | .obj t => some (otD t)
noncomputable def retF : Ret → Option (List D)
  | .fresh l => some l
  | _ => none
noncomputable def callV (n : Nat) (F : List D → Option Ret) (g : FA) : FE := fun ds => (g ds).bind fun l => if l.length = n then (F l).bind retV else none
noncomputable def callF (n : Nat) (F : List D → Option Ret) (g : FA) : FA := fun ds => (g ds).bind fun l => if l.length = n then (F l).bind retF else none
noncomputable def callB (F : List D → Option D) (g : FA) : FE := fun ds => (g ds).bind F
noncomputable def lenD : List D → Option D
  | [.lst l] => some (.int l.length)
  | [.tup l] => some (.int l.length)
  | [.str x] => if x.length ≤ sizeLine then some (.int x.length) else none
  | _ => none
inductive Out where
  | nx (ds : List Sl) | rt (r : Ret) | bk (ds : List Sl) | ct (ds : List Sl)
abbrev FS := List Sl → Option Out
noncomputable def nextG : FS := fun ds => some (.nx ds)
noncomputable def seqG (f g : FS) : FS := fun ds => (f ds).bind fun o => match o with | .nx ds' => g ds' | o => some o
noncomputable def ifG (c : FT) (f g : FS) : FS := fun ds => (c ds).bind fun b => if b = true then f ds else g ds
noncomputable def setG (i : Nat) (f : FE) : FS := fun ds => (f ds).map fun d => .nx (ds.set i (.v d))
noncomputable def setOG (i : Nat) (f : FA) : FS := fun ds => (f ds).map fun l => .nx (ds.set i (.own l))
noncomputable def flatR (d : D) : Option Out := if flat d = true then some (.rt (.val d)) else none
noncomputable def retG (f : FE) : FS := fun ds => (f ds).bind flatR
noncomputable def flatF (l : List D) : Option Out := if flats l = true then some (.rt (.fresh l)) else none
noncomputable def retOG (f : FA) : FS := fun ds => (f ds).bind flatF
noncomputable def retXG (i : Nat) : FS := fun ds => match ds[i]? with | some (.own l) => flatF l | _ => none
noncomputable def putG (i : Nat) (fk fe : FE) : FS := fun ds => match ds[i]? with
  | some (.own l) => (fe ds).bind fun d => (fk ds).bind fun k => match k with
    | .int n => (ixN l.length n).map fun j => .nx (ds.set i (.own (l.set j d)))
    | _ => none
  | _ => none
noncomputable def appG (i : Nat) (fe : FE) : FS := fun ds => match ds[i]? with
  | some (.own l) => (fe ds).bind fun d => if l.length < sizeLine then some (.nx (ds.set i (.own (l ++ [d])))) else none
  | _ => none
noncomputable def args (n : Nat) (ds : List D) : List Sl := ds.map Sl.v ++ List.replicate (n - ds.length) Sl.no
noncomputable def viaA (f : FE) (k : D → Option (List D)) : FA := fun ds => (f ds).bind k
noncomputable def rangeD (lo : Int) (n : Nat) : List D := (List.range n).map fun (k : Nat) => D.int (lo + (k : Int))
def okR (j : Int) : Prop := -(2 ^ 62) ≤ j ∧ j < 2 ^ 62
noncomputable instance okRD (j : Int) : Decidable (okR j) := Classical.propDecidable _
noncomputable def rng1 (f : FE) : FA := fun ds => (f ds).bind fun d => match d with | .int j => if okR j then some (rangeD 0 j.toNat) else none | _ => none
noncomputable def nameG (i : Nat) : D → List Sl → Option (List Sl) := fun d ds => some (ds.set i (.v d))
noncomputable def tgNil : List D → List Sl → Option (List Sl)
  | [], ds => some ds
  | _, _ => none
noncomputable def tgCons (g : D → List Sl → Option (List Sl)) (h : List D → List Sl → Option (List Sl)) : List D → List Sl → Option (List Sl)
  | d :: r, ds => (g d ds).bind fun ds' => h r ds'
  | _, _ => none
noncomputable def tupG (n : Nat) (h : List D → List Sl → Option (List Sl)) : D → List Sl → Option (List Sl)
  | .tup l, ds => if l.length = n then h l ds else none
  | _, _ => none
noncomputable def loopG (ga : D → List Sl → Option (List Sl)) (body : FS) : List D → List Sl → Option Out
  | [], ds => some (.nx ds)
  | d :: r, ds => (ga d ds).bind fun ds1 => (body ds1).bind fun o => match o with
    | .nx ds2 => loopG ga body r ds2
    | .ct ds2 => loopG ga body r ds2
    | .bk ds2 => some (.nx ds2)
    | .rt r => some (.rt r)
noncomputable def forG (fi : FA) (ga : D → List Sl → Option (List Sl)) (body : FS) : FS := fun ds => (fi ds).bind fun items => loopG ga body items ds
noncomputable def compL (ga : D → List Sl → Option (List Sl)) (tt : FT) (fe : FE) (s0 : List Sl) : List D → Option (List D)
  | [] => some []
  | d :: r => (ga d s0).bind fun ds1 => (tt ds1).bind fun b => if b = true then (fe ds1).bind fun y => (compL ga tt fe s0 r).map fun ys => y :: ys else compL ga tt fe s0 r
noncomputable def slotsD (mp : List (Option Nat)) (ds : List Sl) : List Sl := mp.map fun o => match o with
  | some j => (match ds[j]? with | some (.v d) => .v d | _ => .no)
  | none => .no
noncomputable def compG (fi : FA) (mp : List (Option Nat)) (ga : D → List Sl → Option (List Sl)) (tt : FT) (fe : FE) : FA := fun ds => (fi ds).bind fun items => if items.length ≤ sizeLine then compL ga tt fe (slotsD mp ds) items else none
noncomputable def tyD : D → Option String
  | .non => some "NoneType"
  | .bl _ => some "bool"
  | .int _ => some "int"
  | .str _ => some "str"
  | .tup _ => some "tuple"
  | .lst _ => some "list"
  | .dct _ _ => some "dict"
  | .ins _ _ => none
  | .clo _ _ _ => none
  | .dcf _ _ => none
noncomputable def kitN : List String := ["NoneType", "bool", "int", "str", "tuple", "list", "dict"]
noncomputable def kitT : List String := ["bool", "int", "str", "tuple", "list", "dict"]
noncomputable def kitF (t T : String) : Option Bool := if t ∈ kitN ∧ T ∈ kitT then some (t == T || (t == "bool" && T == "int")) else none
noncomputable def isiD (T : String) (d : D) : Option D := (tyD d).bind fun t => (kitF t T).map D.bl
noncomputable def isiG (T : String) (f : FE) : FE := fun ds => (f ds).bind (isiD T)
noncomputable def negD : D → Option D
  | .int i => some (.int (-i))
  | _ => none
noncomputable def un1 (op : D → Option D) (f : FE) : FE := fun ds => (f ds).bind op
noncomputable def flV (f : FE) : FE := fun ds => (f ds).bind fun d => if flat d = true then some d else none
noncomputable def retDG (f : FE) : FS := fun ds => (f ds).map fun d => .rt (.val d)
noncomputable def runG (g : FS) (n : Nat) : List D → Option Ret := fun ds => match g (args n ds) with
  | some (.rt r) => some r
  | some (.nx _) => some (.val .non)
  | _ => none
def CPowB (i j : Int) : Prop := 0 ≤ j ∧ (Builtin.Int.intBits i : Int) * j ≤ 2 ^ 27
mutual
noncomputable def toPy : D → PyData
  | .non => .none
  | .bl b => .bool b
  | .int i => .int i
  | .str x => .str x
  | .tup ds => .tuple (toPys ds)
  | .lst ds => .list (toPys ds)
  | .dct _ _ => .none
  | .ins _ _ => .none
  | .clo _ _ _ => .none
  | .dcf _ _ => .none
noncomputable def toPys : List D → List PyData
  | [] => []
  | d :: r => toPy d :: toPys r
end
mutual
noncomputable def shal : Nat → D → Bool
  | _, .non => true
  | _, .bl _ => true
  | _, .int _ => true
  | _, .str x => PyData.strOk x
  | n, .tup ds => shals n ds
  | n, .lst ds => shals n ds
  | _, .dct _ _ => false
  | _, .ins _ _ => false
  | _, .clo _ _ _ => false
  | _, .dcf _ _ => false
noncomputable def shals : Nat → List D → Bool
  | _, [] => true
  | 0, _ :: _ => false
  | n + 1, d :: r => shal n d && shals (n + 1) r
end
noncomputable def eqvD (x y : D) : Bool := PyData.eqv (toPy x) (toPy y)
noncomputable def eqvs (x y : List D) : Bool := PyData.eqvAll (toPys x) (toPys y)
noncomputable def eqD (x y : D) : Option D := if shal 40 x = true ∧ shal 40 y = true then some (.bl (eqvD x y)) else none
noncomputable def neD (x y : D) : Option D := if shal 40 x = true ∧ shal 40 y = true then some (.bl (!eqvD x y)) else none
noncomputable def isD : D → D → Option D
  | .non, .non => some (.bl true)
  | _, .non => some (.bl false)
  | _, _ => none
noncomputable def notD : D → D → Option D
  | .non, .non => some (.bl false)
  | _, .non => some (.bl true)
  | _, _ => none
noncomputable def asLT : D → Option (List D)
  | .lst l => some l
  | .tup l => some l
  | _ => none
noncomputable instance mulOkD (i j : Int) : Decidable (IntMulOk i j) := Classical.propDecidable _
noncomputable instance powOkD (i j : Int) : Decidable (CPowB i j) := Classical.propDecidable _
noncomputable def mulD : D → D → Option D
  | .int i, .int j => if IntMulOk i j then some (.int (i * j)) else none
  | _, _ => none
noncomputable def powD : D → D → Option D
  | .int i, .int j => if CPowB i j then some (.int (i ^ j.toNat)) else none
  | _, _ => none
noncomputable def catA (fa fb : FE) : FA := fun ds => (fa ds).bind fun x => (fb ds).bind fun y => match x, y with
  | .lst a, .lst b => if a.length + b.length ≤ sizeLine then some (a ++ b) else none
  | _, _ => none
noncomputable def noP : List Sl → Option (Option Int) := fun _ => some none
noncomputable def soP (f : FE) : List Sl → Option (Option Int) := fun ds => (f ds).bind fun d => match d with | .int i => some (some i) | _ => none
noncomputable def cutD (l : List D) (lo hi : Option Int) : List D := (l.drop (HT.sIx l.length 0 lo)).take (HT.sIx l.length l.length hi - HT.sIx l.length 0 lo)
noncomputable def sliA (f : FE) (lo hi : List Sl → Option (Option Int)) : FA := fun ds => (f ds).bind fun d => (lo ds).bind fun a => (hi ds).bind fun b => match d with
  | .lst l => some (cutD l a b)
  | _ => none
noncomputable def lisA (f : FE) : FA := fun ds => (f ds).bind asLT
noncomputable def mxD : List D → Option D
  | [.int i, .int j] => some (.int (if j > i then j else i))
  | _ => none
noncomputable def mnD : List D → Option D
  | [.int i, .int j] => some (.int (if j < i then j else i))
  | _ => none
noncomputable def absD : List D → Option D
  | [.int i] => some (.int (if i < 0 then -i else i))
  | _ => none
noncomputable def truD : D → Option Bool
  | .non => some false
  | .bl b => some b
  | .int i => some (i != 0)
  | .str x => if x.length ≤ sizeLine then some ((x.length : Int) != 0) else none
  | .tup l => some (!l.isEmpty)
  | .lst l => some (!l.isEmpty)
  | _ => none
noncomputable def testT (f : FE) : FT := fun ds => (f ds).bind truD
noncomputable def relS (i : Nat) (ds : List Sl) : List Sl := match ds[i]? with | some (.own l) => ds.set i (.v (.lst l)) | _ => ds
noncomputable def asgG (ga : D → List Sl → Option (List Sl)) (f : FE) : FS := fun ds => (f ds).bind fun d => (ga d ds).map .nx
noncomputable def extG (i : Nat) (fe : FA) : FS := fun ds => match ds[i]? with
  | some (.own l) => (fe ds).bind fun d => if l.length + d.length ≤ sizeLine then some (.nx (ds.set i (.own (l ++ d)))) else none
  | _ => none
noncomputable def clrG (i : Nat) : FS := fun ds => match ds[i]? with
  | some (.own l) => some (.nx (ds.set i (.own [])))
  | _ => none
noncomputable def ltD : D → D → Option D := cmpI fun i j => decide (i < j)
noncomputable def leD : D → D → Option D := cmpI fun i j => decide (i ≤ j)
noncomputable def gtD : D → D → Option D := cmpI fun i j => decide (j < i)
noncomputable def geD : D → D → Option D := cmpI fun i j => decide (j ≤ i)
noncomputable def rng2 (fa fb : FE) : FA := fun ds => (fa ds).bind fun x => (fb ds).bind fun y => match x, y with
  | .int i, .int j => if okR i ∧ okR j then some (rangeD i (j - i).toNat) else none
  | _, _ => none
noncomputable def range3D (lo c : Int) (n : Nat) : List D := (List.range n).map fun (k : Nat) => D.int (lo + (k : Int) * c)
noncomputable def steps3 (i j c : Int) : Nat := if i < j then ((j - i - 1) / c + 1).toNat else 0
def okR3 (i j c : Int) : Prop := -(2 ^ 61) ≤ i ∧ i < 2 ^ 61 ∧ -(2 ^ 61) ≤ j ∧ j < 2 ^ 61 ∧ 0 < c ∧ c < 1000000
noncomputable instance okR3D (i j c : Int) : Decidable (okR3 i j c) := Classical.propDecidable _
noncomputable def rng3 (fa fb fc : FE) : FA := fun ds => (fa ds).bind fun x => (fb ds).bind fun y => (fc ds).bind fun z => match x, y, z with
  | .int i, .int j, .int c => if okR3 i j c then some (range3D i c (steps3 i j c)) else none
  | _, _, _ => none
noncomputable def revA (f : FE) : FA := fun ds => (f ds).bind fun d => match d with
  | .lst l => some l.reverse
  | _ => none
noncomputable def augA (i : Nat) (f : FE) : FS := fun ds => (getV i ds).bind fun x => (f ds).bind fun y => match x, y with
  | .int a, .int b => some (.nx (ds.set i (.v (.int (a + b)))))
  | _, _ => none
noncomputable def parG (i j : Nat) (f : FA) : FS := fun ds => (f ds).bind fun l => match l with
  | [a, b] => some (.nx ((ds.set i (.v a)).set j (.v b)))
  | _ => none
noncomputable def int1D : List D → Option D
  | [.int i] => some (.int i)
  | [.bl b] => some (.int (if b then 1 else 0))
  | _ => none
noncomputable def intsD : List D → Option (List Int)
  | [] => some []
  | .int b :: r => (intsD r).map fun bs => b :: bs
  | _ => none
abbrev Fun2 := D → List D → Option Ret
mutual
noncomputable def noclo : D → Bool
  | .tup ds => noclos ds
  | .lst ds => noclos ds
  | .dct _ ds => noclos ds
  | .ins _ ds => noclos ds
  | .clo _ _ _ => false
  | .dcf _ _ => false
  | _ => true
noncomputable def noclos : List D → Bool
  | [] => true
  | d :: r => noclo d && noclos r
end
noncomputable def capsA : List Nat → FA
  | [] => fun _ => some []
  | i :: r => fun ds => (getV i ds).bind fun d => (capsA r ds).map fun l => d :: l
noncomputable def lamA (m n : Nat) (is : List Nat) (g : FA) : FA := fun ds => (g ds).bind fun l => (capsA is ds).map fun cs => l ++ [.clo m n cs]
noncomputable def callW (Φ : Fun2) (i : Nat) (g : FA) : FE := fun ds => (getV i ds).bind fun f => (g ds).bind fun l => (Φ f l).bind retV
noncomputable def lamR (g : FE) (caps as : List D) : Option Ret := (g ((as ++ caps).map Sl.v)).bind fun d => if flat d = true then some (.val d) else none
noncomputable def ncR : Ret → Bool
  | .val d => noclo d
  | .fresh l => noclos l
  | .any d => noclo d
  | .obj _ => false
noncomputable def ncF (F : List D → Option Ret) : List D → Option Ret := fun l => (F l).bind fun r => if ncR r = true then some r else none
end FL
namespace FL
open PySem PyProof.Rows L2
end FL
namespace FL
open PySem PyProof.Rows L2
noncomputable def fldD (ix : List (Nat × Nat)) : D → Option D
  | .ins t ds => (ix.lookup t).bind fun i => ds[i]?
  | _ => none
noncomputable def fldG (ix : List (Nat × Nat)) (f : FE) : FE := fun ds => (f ds).bind (fldD ix)
noncomputable def methR (n : Nat) (cs : List Nat) (F : Nat → List D → Option Ret) (o : D) (l : List D) : Option Ret := match o with
  | .ins t es => if t ∈ cs ∧ l.length = n then F t (.ins t es :: l) else none
  | _ => none
noncomputable def methV (n : Nat) (cs : List Nat) (F : Nat → List D → Option Ret) (fo : FE) (g : FA) : FE := fun ds => (fo ds).bind fun o => (g ds).bind fun l => (methR n cs F o l).bind retV
noncomputable def methF (n : Nat) (cs : List Nat) (F : Nat → List D → Option Ret) (fo : FE) (g : FA) : FA := fun ds => (fo ds).bind fun o => (g ds).bind fun l => (methR n cs F o l).bind retF
noncomputable def makeG (t n : Nat) (G : List D → Option (List D)) (g : FA) : FE := fun ds => (g ds).bind fun l => if l.length = n ∧ flats l = true then (G l).map (D.ins t) else none
end FL
namespace FL
open PySem PyProof.Rows L2
end FL
namespace FL
open PySem
def okRB (i j : Int) : Prop := -(2 ^ 61) ≤ i ∧ i < 2 ^ 61 ∧ -(2 ^ 61) ≤ j ∧ j < 2 ^ 61
noncomputable instance okRBD (i j : Int) : Decidable (okRB i j) := Classical.propDecidable _
noncomputable def flA (f : FA) : FA := fun ds => (f ds).bind fun l => if flats l = true then some l else none
noncomputable def getO (i : Nat) : FE := fun ds => match ds[i]? with
  | some (.own l) => if flats l = true then some (.lst l) else none
  | _ => none
end FL
namespace FL
noncomputable def insI (k : Int) : List Int → List Int
  | [] => [k]
  | a :: l => if k ≤ a then k :: a :: l else a :: insI k l
noncomputable def srtI (ns : List Int) : List Int := ns.foldr insI []
noncomputable def sltW (f : FE) (lo hi : List Sl → Option (Option Int)) : FE := fun ds => (f ds).bind fun d => (lo ds).bind fun a => (hi ds).bind fun b => match d with
  | .tup l => some (.tup (cutD l a b))
  | _ => none
theorem insI_perm (k : Int) : ∀ l : List Int, (insI k l).Perm (k :: l)
  | [] => List.Perm.refl _
  | a :: l => by
    unfold insI
    split
    · exact List.Perm.refl _
    · exact (List.Perm.cons a (insI_perm k l)).trans (List.Perm.swap _ _ _)
theorem srtI_perm : ∀ ns : List Int, (srtI ns).Perm ns
  | [] => List.Perm.refl _
  | k :: ns => (insI_perm k _).trans (List.Perm.cons k (srtI_perm ns))
theorem insI_le (k : Int) : ∀ l : List Int, l.Pairwise (· ≤ ·) → (insI k l).Pairwise (· ≤ ·)
  | [], _ => List.pairwise_singleton _ _
  | a :: l, h => by
    obtain ⟨h1, h2⟩ := List.pairwise_cons.mp h
    unfold insI
    split
    · rename_i hk
      refine List.pairwise_cons.mpr ⟨fun b hb => ?_, h⟩
      rcases List.mem_cons.mp hb with e | hb
      · rw [e]; exact hk
      · exact Int.le_trans hk (h1 b hb)
    · rename_i hk
      refine List.pairwise_cons.mpr ⟨fun b hb => ?_, insI_le k l h2⟩
      rcases List.mem_cons.mp ((insI_perm k l).mem_iff.mp hb) with e | hb
      · rw [e]; omega
      · exact h1 b hb
theorem srtI_le : ∀ ns : List Int, (srtI ns).Pairwise (· ≤ ·)
  | [] => List.Pairwise.nil
  | k :: ns => insI_le k _ (srtI_le ns)
theorem le_unique : ∀ (l m : List Int), l.Perm m → l.Pairwise (· ≤ ·) → m.Pairwise (· ≤ ·) → l = m
  | [], m, h, _, _ => h.nil_eq
  | a :: l, [], h, _, _ => by have := h.length_eq; simp at this
  | a :: l, b :: m, h, h1, h2 => by
    obtain ⟨p1, p2⟩ := List.pairwise_cons.mp h1
    obtain ⟨q1, q2⟩ := List.pairwise_cons.mp h2
    have ha : a ≤ b := by
      rcases List.mem_cons.mp (h.mem_iff.mpr (.head _)) with e | e
      · rw [e]; exact Int.le_refl _
      · exact p1 b e
    have hb : b ≤ a := by
      rcases List.mem_cons.mp (h.mem_iff.mp (.head _)) with e | e
      · rw [e]; exact Int.le_refl _
      · exact q1 a e
    have e : a = b := Int.le_antisymm ha hb
    subst e
    rw [le_unique l m h.cons_inv p2 q2]
end FL
namespace FL
open PySem PyProof.Rows L2
noncomputable def lamF (n : Nat) (g : FE) (caps as : List D) : Option Ret := if as.length = n then lamR g caps as else none
noncomputable def phiOf (l : List ((Nat × Nat) × (List D → List D → Option Ret))) : Fun2 := fun f as => match f with
  | .clo m n caps => (l.lookup (m, n)).bind fun F => F caps as
  | _ => none
noncomputable def cloV (m n : Nat) (is : List Nat) : FE := fun ds => (capsA is ds).map (.clo m n)
noncomputable def flatC : D → Bool
  | .clo _ _ cs => flats cs
  | d => flat d
noncomputable def retCG (f : FE) : FS := fun ds => (f ds).bind fun d => if flatC d = true then some (.rt (.val d)) else none
end FL
namespace FL
open PySem PyProof.Rows L2
noncomputable def rngL (fa fb : FE) : FA := fun ds => (fa ds).bind fun x => (fb ds).bind fun y => match x, y with
  | .int i, .int j => some (rangeD i (j - i).toNat)
  | _, _ => none
@[simp] theorem rngL_eq (fa fb : FE) (ds : List Sl) : rngL fa fb ds = (fa ds).bind fun x => (fb ds).bind fun y => match x, y with
  | .int i, .int j => some (rangeD i (j - i).toNat)
  | _, _ => none := rfl
end FL
namespace FL
open PySem PyProof.Rows L2
end FL
namespace FL
open PySem PyProof.Rows L2
noncomputable instance mulOkSD (x : Str) (n : Int) : Decidable (MulOk x n) := Classical.propDecidable _
end FL
namespace FL
open PySem PyProof.Rows L2
noncomputable def lstG (n : Nat) (h : List D → List Sl → Option (List Sl)) : D → List Sl → Option (List Sl)
  | .lst l, ds => if l.length = n then h l ds else none
  | _, _ => none
end FL
namespace FL
open PySem PyProof.Rows L2
abbrev FO := List Sl → Option OT
abbrev FOs := List Sl → Option (List OT)
noncomputable def getN (i : Nat) : FE := fun ds => match ds[i]? with
  | some (.v d) => some d
  | some (.own l) => some (.lst l)
  | some (.ob _ t) => some (otD t)
  | _ => none
noncomputable def vO (f : FE) : FO := fun ds => (f ds).map OT.val
noncomputable def lO (f : FA) : FO := fun ds => (f ds).map fun l => .lst (l.map OT.val)
noncomputable def nilO : FOs := fun _ => some []
noncomputable def consO (f : FO) (g : FOs) : FOs := fun ds => (f ds).bind fun x => (g ds).map fun r => x :: r
noncomputable def tO (f : FOs) : FO := fun ds => (f ds).bind fun l => if l.length ≤ sizeLine then some (.tup l) else none
noncomputable def setB (i : Nat) (f : FO) : FS := fun ds => (f ds).map fun t => .nx (ds.set i (.ob none t))
mutual
noncomputable def flatO : OT → Bool
  | .val d => flat d
  | .lst l => flatOs l
  | .tup l => flatOs l
  | .dct _ l => flatOs l
  | .ins _ l => flatOs l
noncomputable def flatOs : List OT → Bool
  | [] => true
  | t :: r => flatO t && flatOs r
end
noncomputable def subO : List Nat → OT → Option OT
  | [], t => some t
  | k :: p, .tup l => (l[k]?).bind (subO p)
  | k :: p, .lst l => (l[k]?).bind (subO p)
  | k :: p, .dct _ l => (l[k]?).bind (subO p)
  | k :: p, .ins _ l => (l[k]?).bind (subO p)
  | _ :: _, .val _ => none
noncomputable def putO (u : OT) : List Nat → OT → OT
  | [], _ => u
  | k :: p, .tup l => .tup (l.modify k (putO u p))
  | k :: p, .lst l => .lst (l.modify k (putO u p))
  | k :: p, .dct ks l => .dct ks (l.modify k (putO u p))
  | k :: p, .ins t l => .ins t (l.modify k (putO u p))
  | _ :: _, .val d => .val d
abbrev FP := List Sl → Option (Nat × List Nat × OT)
noncomputable def varP (i : Nat) : FP := fun ds => match ds[i]? with
  | some (.ob _ t) => some (i, [], t)
  | _ => none
noncomputable def putP (q : Nat × List Nat × OT) (u : OT) (ds : List Sl) : List Sl := match ds[q.1]? with
  | some (.ob r t) => ds.set q.1 (.ob r (putO u q.2.1 t))
  | _ => ds
@[simp] theorem getN_eq (i : Nat) (ds : List Sl) : getN i ds = match ds[i]? with
  | some (.v d) => some d
  | some (.own l) => some (.lst l)
  | some (.ob _ t) => some (otD t)
  | _ => none := rfl
@[simp] theorem vO_eq (f : FE) (ds : List Sl) : vO f ds = (f ds).map OT.val := rfl
@[simp] theorem lO_eq (f : FA) (ds : List Sl) : lO f ds = (f ds).map fun l => .lst (l.map OT.val) := rfl
@[simp] theorem nilO_eq (ds : List Sl) : nilO ds = some [] := rfl
@[simp] theorem consO_eq (f : FO) (g : FOs) (ds : List Sl) : consO f g ds = (f ds).bind fun x => (g ds).map fun r => x :: r := rfl
@[simp] theorem tO_eq (f : FOs) (ds : List Sl) : tO f ds = (f ds).bind fun l => if l.length ≤ sizeLine then some (.tup l) else none := rfl
@[simp] theorem setB_eq (i : Nat) (f : FO) (ds : List Sl) : setB i f ds = (f ds).map fun t => .nx (ds.set i (.ob none t)) := rfl
end FL
namespace FL
open PySem PyProof.Rows L2
noncomputable def keyD : D → Option Key
  | .int i => some (.inl (some i))
  | .non => some (.inl none)
  | .str x => some (.inr x)
  | _ => none
noncomputable def putTs (k : Key) (T : OT) : List Key → List OT → List OT
  | k' :: ks, t :: ts => (if k' = k then T else t) :: putTs k T ks ts
  | _, ts => ts
noncomputable def hasK (k : Key) (ks : List Key) : Bool := ks.any fun k' => decide (k' = k)
noncomputable def putKT (k : Key) (T : OT) (ks : List Key) (ts : List OT) : OT := if hasK k ks = true then .dct ks (putTs k T ks ts) else .dct (ks ++ [k]) (ts ++ [T])
noncomputable def getKD (k : Key) : List Key → List D → Option D
  | k' :: ks, d :: ds => if k' = k then some d else getKD k ks ds
  | _, _ => none
noncomputable def kdD : D → Option (List Key × List D)
  | .dct ks l => some (ks, l)
  | .dcf ks l => some (ks, l)
  | _ => none
noncomputable def dputG (f : FP) (fk fv : FE) : FS := fun ds => (fv ds).bind fun d => (f ds).bind fun q => (fk ds).bind fun y => (keyD y).bind fun k => match q.2.2 with
  | .dct ks ts => if ks.length < sizeLine then some (.nx (putP q (putKT k (.val d) ks ts) ds)) else none
  | _ => none
noncomputable def valsO : List OT → Option (List D)
  | [] => some []
  | .val d :: r => (valsO r).map fun l => d :: l
  | _ :: _ => none
noncomputable def frzDG (i : Nat) (g : FS) : FS := fun ds => match ds[i]? with
  | some (.ob _ (.dct ks ts)) => (valsO ts).bind fun l => g (ds.set i (.v (.dcf ks l)))
  | _ => none
abbrev FX := List Sl → Option (D × List Sl)
end FL
namespace FL
open PySem PyProof.Rows L2
end FL
namespace FL
open PySem PyProof.Rows L2
end FL
namespace FL
open PySem PyProof.Rows L2
noncomputable def seeO (f : FO) : FE := fun ds => (f ds).map otD
noncomputable def srtA64 (f : FE) : FA := fun ds => (f ds).bind fun d => match d with
  | .lst l => (intsD l).bind fun ns => if ns.length < 64 then some ((srtI ns).map D.int) else none
  | _ => none
end FL
namespace FL
open PySem PyProof.Rows L2
noncomputable def vR (f : FE) : FX := fun ds => (f ds).map fun d => (d, ds)
end FL
namespace FL
open PySem
end FL
namespace FL
open PySem L2
noncomputable def dO1 (fk fv : FE) : FO := fun ds => (fk ds).bind fun y => (keyD y).bind fun k => (fv ds).bind fun d => if flat d = true then some (.dct [k] [.val d]) else none
noncomputable def dget2G (fd fk fz : FE) : FE := fun ds => (fd ds).bind fun x => (fk ds).bind fun y => (fz ds).bind fun z => (keyD y).bind fun k => (kdD x).map fun p => (getKD k p.1 p.2).getD z
noncomputable def flatZ : D → Bool
  | .dcf _ l => flats l
  | d => flat d
noncomputable def flatC2 : D → Bool
  | .clo _ _ cs => cs.all flatZ
  | _ => false
noncomputable def retCG2 (f : FE) : FS := fun ds => (f ds).bind fun d => if flatC2 d = true then some (.rt (.val d)) else none
noncomputable def flVC (f : FE) : FE := fun ds => (f ds).bind fun d => if flatC d = true then some d else none
end FL
namespace L2
open PySem PySem.Spec PyProof.Rows
noncomputable def isN0 : Value → Bool
  | .none => true
  | _ => false
noncomputable def keyIs : Key → Value → Bool := fun k v => match k with
  | .inl (some n) => Value.isInt n v
  | .inl none => isN0 v
  | .inr x => Value.isStrOf x v
noncomputable def keyH (w : World) : Key → Int := fun k => match k with
  | .inl (some n) => hashInt n
  | .inl none => 4238894112
  | .inr x => hashStr w x
theorem keyIs_shape {k : Key} {v : Value} (h : keyIs k v = true) : (∃ i t, k = Sum.inl (some i) ∧ v = Value.int i t) ∨ (∃ x t, k = Sum.inr x ∧ v = Value.str x t) ∨ (k = Sum.inl none ∧ v = Value.none) := by
  rcases k with (_ | i) | x
  · refine .inr (.inr ⟨rfl, ?_⟩)
    cases v <;> first | rfl | cases h
  · obtain ⟨t, e⟩ := Value.isInt_shape (k := i) (v := v) h
    exact .inl ⟨i, t, rfl, e⟩
  · obtain ⟨t, e⟩ := Value.isStrOf_shape (x := x) (v := v) h
    exact .inr (.inl ⟨x, t, rfl, e⟩)
theorem hash_none {prog : Program} {w : World} {A : Around} {E : Value → Shared → Prop} {s : Shared} {Q : Int → Shared → Prop} (h : Q 4238894112 { s with toks := s.toks + 1 }) : wpAny (model prog w) A (PySem.pyHash .none) Q E s := by
  have ht : s.TypeIs .none "NoneType" := rfl
  unfold PySem.pyHash
  have hv : [Value.none].any Value.onHeap = false := rfl
  refine wpAny_bind ?_
  rw [cRoomFor, if_neg (by rw [hv]; exact Bool.false_ne_true)]
  refine wpAny_pure ?_
  refine wpAny_bind (wpAny_specialOf ht PySem.F.slot_NoneType_hash.lookup ?_)
  show wpAny _ _ (if (some (Value.builtin "NoneType.__hash__") == some Value.none) = true then _ else _) Q E s
  rw [if_neg (by decide)]
  refine wpAny_bind (wpAny_specialOf ht PySem.F.slot_NoneType_hash.lookup ?_)
  show wpAny _ _ (callSpecialIfBoundUnlessNone? .none "__hash__" _ >>= _) Q E s
  refine wpAny_bind (wpAny_callSpecialIfBoundUnlessNone?_slot ht PySem.F.slot_NoneType_hash
    (wpAny_call_entry PySem.F.slot_NoneType_hash ht PySem.F.entry_NoneType_hash
      (show wpAny _ _ (do ret (← mkInt 4238894112)) _ _ s from wpAny_ret_mkInt ?_) (PySem.F.args_NoneType_hash_1 _)))
  exact wpAny_pure h
noncomputable def mixKind (prog : Program) (w : World) : PySem.KeyKind prog w Key where
  is := keyIs
  hash := keyH w
  inj := fun v a b ha hb => by
    rcases keyIs_shape ha with ⟨i, t, rfl, rfl⟩ | ⟨x, t, rfl, rfl⟩ | ⟨rfl, rfl⟩ <;> rcases keyIs_shape hb with ⟨j, u, rfl, e⟩ | ⟨y, u, rfl, e⟩ | ⟨rfl, e⟩ <;> cases e <;> rfl
  byValue := fun k v h => by rcases keyIs_shape h with ⟨i, t, rfl, rfl⟩ | ⟨x, t, rfl, rfl⟩ | ⟨rfl, rfl⟩ <;> rfl
  pyHash := fun hv h => by
    rcases keyIs_shape hv with ⟨i, t, rfl, rfl⟩ | ⟨x, t, rfl, rfl⟩ | ⟨rfl, rfl⟩
    · exact wpAny_pyHash_int h
    · exact wpAny_pyHash_str h
    · exact hash_none h
  eqBool := fun hu hv h => by
    rcases keyIs_shape hu with ⟨i, t, rfl, rfl⟩ | ⟨x, t, rfl, rfl⟩ | ⟨rfl, rfl⟩ <;> rcases keyIs_shape hv with ⟨j, u, rfl, rfl⟩ | ⟨y, u, rfl, rfl⟩ | ⟨rfl, rfl⟩
    · exact wpAny_eqBool_int (by simp only [Sum.inl.injEq, Option.some.injEq] at h; exact h)
    · exact SeqAt.EqAt.int_str i t y u _ _ _ _ (by simpa using h)
    · exact SeqAt.EqAt.int_none i t _ _ _ _ (by simpa using h)
    · exact SeqAt.EqAt.str_int x t j u _ _ _ _ (by simpa using h)
    · exact wpAny_eqBool_str (by simpa using h)
    · exact SeqAt.EqAt.str_none x t _ _ _ _ (by simpa using h)
    · exact SeqAt.EqAt.none_int j u _ _ _ _ (by simpa using h)
    · exact SeqAt.EqAt.none_str y u _ _ _ _ (by simpa using h)
    · exact SeqAt.EqAt.same .none _ _ _ _ (by simpa using h)
  «strs» := fun k x t v h => by
    rcases keyIs_shape h with ⟨i, u, rfl, e⟩ | ⟨y, u, rfl, e⟩ | ⟨rfl, e⟩ <;> cases e
    cases v <;> rfl
end L2
namespace L2
open PySem PySem.Spec PyProof.Rows
inductive V where
  | non | bl (b : Bool) | int (i : Int) | str (x : Str) | byt (b : Array UInt8) | flt (b : UInt64) | ref (a : Addr) | ty (n : String)
  deriving DecidableEq
noncomputable def RelV : V → Value → Prop
  | .non, u => u = Value.none
  | .bl b, u => u = Value.bool b
  | .int i, u => ∃ t, u = Value.int i t
  | .str x, u => ∃ t, u = Value.str x t
  | .byt b, u => ∃ t, u = Value.bytes b t
  | .flt b, u => ∃ t, u = Value.float b t
  | .ref a, u => u = Value.ref a
  | .ty n, u => u = Value.type n
abbrev Vals : List V → List Value → Prop := Paired RelV
theorem Vals.length {xs : List V} {us : List Value} (r : Vals xs us) : xs.length = us.length := Paired.length r
theorem Vals.get : ∀ {xs : List V} {us : List Value} {i : Nat} {x : V}, Vals xs us → xs[i]? = some x → ∃ u, us[i]? = some u ∧ RelV x u
  | _, _, _, _, .nil, e => by simp at e
  | _, _, 0, _, .cons r _, e => by simp at e; subst e; exact ⟨_, rfl, r⟩
  | _, _, i + 1, x, .cons _ t, e => by
    obtain ⟨u, h1, h2⟩ := Vals.get (i := i) (x := x) t (by simpa using e)
    exact ⟨u, by simpa using h1, h2⟩
theorem Vals.set {x : V} {u : Value} (r : RelV x u) : ∀ {xs : List V} {us : List Value} (i : Nat), Vals xs us → Vals (xs.set i x) (us.set i u)
  | _, _, _, .nil => .nil
  | _, _, 0, .cons _ t => .cons r t
  | _, _, i + 1, .cons q t => .cons q (Vals.set r i t)
theorem Vals.append : ∀ {xs ys : List V} {us ws : List Value}, Vals xs us → Vals ys ws → Vals (xs ++ ys) (us ++ ws)
  | _, _, _, _, .nil, s => s
  | _, _, _, _, .cons r t, s => .cons r (Vals.append t s)
theorem Vals.take : ∀ {xs : List V} {us : List Value} (n : Nat), Vals xs us → Vals (xs.take n) (us.take n)
  | _, _, 0, _ => .nil
  | _, _, _ + 1, .nil => .nil
  | _, _, n + 1, .cons r t => .cons r (Vals.take n t)
theorem Vals.drop : ∀ {xs : List V} {us : List Value} (n : Nat), Vals xs us → Vals (xs.drop n) (us.drop n)
  | _, _, 0, r => r
  | _, _, _ + 1, .nil => .nil
  | _, _, n + 1, .cons _ t => Vals.drop n t
noncomputable def RelO : Option V → Option Value → Prop
  | some v, some u => RelV v u
  | none, none => True
  | _, _ => False
def KV {κ : Type} : List (κ × V) → List (κ × Value) → Prop := Paired fun (p : κ × V) (q : κ × Value) => p.1 = q.1 ∧ RelV p.2 q.2
noncomputable def kV : Key → V := fun k => match k with
  | .inl (some n) => .int n
  | .inl none => .non
  | .inr x => .str x
inductive HO where
  /-- a list -/
  | lst (xs : List V)
  /-- a tuple (never changes) -/
  | tup (xs : List V)
  /-- a dict whose keys are ints and texts; one whose keys are tuples of ints and texts (the empty one is both) -/
  | dK (kvs : List (Key × V)) | dT (kvs : List (List Key × V))
  /-- a set of ints: its members, its size -/
  | set (S : Int → Bool) (n : Nat)
  /-- an instance of the class at C, its dict at dx, its attributes -/
  | ins (C dx : Addr) (fs : List (Str × V))
  /-- the dict of the instance at x -/
  | own (x : Addr)
  /-- the dict of an exception -/
  | xd (fs : List (Str × V))
  /-- a bound method, f of x -/
  | met (f x : Addr)
  /-- a range object lo, lo + 1, .. below hi -/
  | rng (lo hi : Int)
  /-- a thing that is known to the object (the script; a dict while a loop walks it): read, never written while it is so -/
  | frz (o : Obj) (u : HO)
  /-- a code object's table -/
  | tbl (q : Nat → Nat → Str)
  /-- any other thing, by what is true of its one object (a def of one's own: SetO a S n := HO.ext fun h => ..) -/
  | ext (φ : Heap → Prop)
abbrev Hp := Addr → Option HO
noncomputable def upd (H : Hp) (a : Addr) (o : HO) : Hp := fun b => if b = a then some o else H b
theorem upd_same {H : Hp} {a : Addr} {o : HO} : upd H a o a = some o := by unfold upd; rw [if_pos rfl]
theorem upd_ne {H : Hp} {a b : Addr} {o : HO} (h : b ≠ a) : upd H a o b = H b := by unfold upd; rw [if_neg h]
theorem ne_of {H : Hp} {a b : Addr} {o u : HO} (h : H a = some o) (h' : H b = some u) (d : o ≠ u) : a ≠ b := by
  intro e; subst e; rw [h] at h'; exact d (Option.some.inj h')
theorem ne_of_none {H : Hp} {a b : Addr} {o : HO} (h : H a = some o) (h' : H b = none) : a ≠ b := by
  intro e; subst e; rw [h] at h'; cases h'
def TblOk (H : Hp) (q : Nat → Nat → Str) (ps : Array Value) : Prop := TriplesOk ps.toList ∧ ∀ pos v, codeAmong pos ps.toList = some v → ∃ c o u vs t, v = .ref c ∧ H c = some (.frz o u) ∧ o.data = .fields vs ∧ vs[1]? = some (.str (q pos.line pos.col) t)
noncomputable def Fixed : HO → Prop
  | .tup _ => True
  | .frz o _ => ∃ vs, o.data = .fields vs
  | _ => False
noncomputable def Fx := { u : HO // Fixed u }
section
variable (P : Program) (w : World)
noncomputable def ObjOk (H : Hp) (h : Heap) (a : Addr) : HO → Prop
  | .lst xs => xs.length ≤ sizeLine ∧ ∃ (its : List Value) (n : Nat), Vals xs its ∧ h.get? a = some { cls := .type "list", data := .seq its.toArray n }
  | .tup xs => xs.length ≤ sizeLine ∧ ∃ its : List Value, Vals xs its ∧ IsTup h a its.toArray
  | .dK kvs => kvs.length ≤ sizeLine ∧ (a == sysModules) = false ∧ ∃ vs, KV kvs vs ∧ h.DictOf (mixKind P w) a vs
  | .dT kvs => kvs.length ≤ sizeLine ∧ (a == sysModules) = false ∧ ∃ xs : List (List Key × Addr × Value),
      Paired (fun (p : List Key × V) (q : List Key × Addr × Value) => p.1 = q.1 ∧ H q.2.1 = some (.tup (p.1.map kV)) ∧ RelV p.2 q.2.2) kvs xs ∧
      ∃ o es ep, h.get? a = some o ∧ o.ExactDict ∧ o.data = .dict es ep ∧ es.toList = xs.map (entryOfKey (tupleKind (mixKind P w))) ∧ (xs.map (·.1)).Nodup
  | .set S n => h.SetOf (intKind P w) a S n
  | .ins C dx fs => H dx = some (.own a) ∧ fs.length ≤ 1000 ∧ dx ≠ a ∧ h.get? a = some (PySem.W.instObj C dx) ∧
      ∃ mA, h.Ns1 dx mA ∧ (∀ f, RelO (fs.lookup f) (mA f)) ∧ PySem.Within mA (fs.map (·.1))
  | .own _ => ∃ o, h.get? a = some o
  | .xd fs => ∃ mA, h.Ns1 a mA ∧ ∀ f, RelO (fs.lookup f) (mA f)
  | .rng lo hi => ∃ t u v, h.get? a = some { cls := .type "range", data := .fields #[.int lo t, .int hi u, .int 1 v] }
  | .frz o u => h.get? a = some o ∧ ObjOk H h a u
  | .tbl q => ∃ ps, h.get? a = some (PySem.W.tabObj ps) ∧ TblOk H q ps
  | .met f x => h.get? a = some (PySem.W.methodObj (.ref f) (.ref x))
  | .ext φ => φ h ∧ (∃ o, h.get? a = some o) ∧ ∀ h1 h2 : Heap, φ h1 → (∀ o, h1.get? a = some o → h2.get? a = some o) → φ h2
def HOk (H : Hp) (h : Heap) : Prop := ∀ a o, H a = some o → ObjOk P w H h a o
end
section
variable {P : Program} {w : World} {H H' : Hp} {h h' : Heap} {a : Addr} {o : HO}
theorem ObjOk.lt (x : ObjOk P w H h a o) : a < h.objs.size := by
  cases o with
  | lst xs => obtain ⟨_, _, _, _, e⟩ := x; exact Heap.lt_size e
  | tup xs => obtain ⟨_, _, _, p⟩ := x; exact p.lt
  | dK kvs => obtain ⟨_, _, _, _, o, _, _, e, _⟩ := x; exact Heap.lt_size e
  | dT kvs => obtain ⟨_, _, _, _, o, _, _, e, _⟩ := x; exact Heap.lt_size e
  | set S n => obtain ⟨o, _, _, _, e, _⟩ := x; exact Heap.lt_size e
  | ins C dx fs => obtain ⟨_, _, _, e, _⟩ := x; exact Heap.lt_size e
  | own y => obtain ⟨_, e⟩ := x; exact Heap.lt_size e
  | xd fs => obtain ⟨_, ⟨_, _, _, e, _⟩, _⟩ := x; exact Heap.lt_size e
  | rng lo hi => obtain ⟨_, _, _, e⟩ := x; exact Heap.lt_size e
  | frz ob u => obtain ⟨e, _⟩ := x; exact Heap.lt_size e
  | tbl q => obtain ⟨_, e, _⟩ := x; exact Heap.lt_size e
  | met f y => exact Heap.lt_size (show h.get? a = some _ from x)
  | ext φ => obtain ⟨_, ⟨_, e⟩, _⟩ := x; exact Heap.lt_size e
theorem Paired.mapP {α β : Type} {F G : α → β → Prop} : ∀ {l₁ : List α} {l₂ : List β}, Paired F l₁ l₂ → (∀ a b, F a b → G a b) → Paired G l₁ l₂
  | _, _, .nil, _ => .nil
  | _, _, .cons r t, f => .cons (f _ _ r) (Paired.mapP t f)
theorem ObjOk.stay (x : ObjOk P w H h a o) (k : ∀ b u, (b = a ∨ H b = some (.own a)) → h.get? b = some u → h'.get? b = some u)
    (ho : ∀ b, H b = some (.own a) → H' b = some (.own a)) (ht : ∀ b (xs : Fx), H b = some xs.1 → H' b = some xs.1) : ObjOk P w H' h' a o := by
  induction o with
  | lst xs => obtain ⟨z, its, n, r, e⟩ := x; exact ⟨z, its, n, r, k _ _ (.inl rfl) e⟩
  | tup xs => obtain ⟨z, its, r, ob, e, c⟩ := x; exact ⟨z, its, r, ob, k _ _ (.inl rfl) e, c⟩
  | dK kvs => obtain ⟨z, y, vs, r, ob, es, ep, e, c⟩ := x; exact ⟨z, y, vs, r, ob, es, ep, k _ _ (.inl rfl) e, c⟩
  | dT kvs =>
    obtain ⟨z, y, xs, r, ob, es, ep, e, c⟩ := x
    exact ⟨z, y, xs, Paired.mapP r fun p q z => ⟨z.1, ht _ ⟨.tup _, trivial⟩ z.2.1, z.2.2⟩, ob, es, ep, k _ _ (.inl rfl) e, c⟩
  | set S n => obtain ⟨ob, es, ep, t, e, c⟩ := x; exact ⟨ob, es, ep, t, k _ _ (.inl rfl) e, c⟩
  | ins C dx fs =>
    obtain ⟨d, z, ne, e, mA, ⟨od, es, ep, e2, c⟩, r⟩ := x
    exact ⟨ho _ d, z, ne, k _ _ (.inl rfl) e, mA, ⟨od, es, ep, k _ _ (.inr d) e2, c⟩, r⟩
  | own y => obtain ⟨ob, e⟩ := x; exact ⟨ob, k _ _ (.inl rfl) e⟩
  | xd fs => obtain ⟨mA, ⟨od, es, ep, e, c⟩, r⟩ := x; exact ⟨mA, ⟨od, es, ep, k _ _ (.inl rfl) e, c⟩, r⟩
  | rng lo hi => obtain ⟨t, u, v, e⟩ := x; exact ⟨t, u, v, k _ _ (.inl rfl) e⟩
  | frz ob u ih => obtain ⟨e, q⟩ := x; exact ⟨k _ _ (.inl rfl) e, ih q⟩
  | tbl q =>
    obtain ⟨ps, e, t1, t2⟩ := x
    refine ⟨ps, k a _ (.inl rfl) e, t1, fun pos v z => ?_⟩
    obtain ⟨c, o, u, vs, t, h1, h2, h3, h4⟩ := t2 pos v z
    exact ⟨c, o, u, vs, t, h1, ht c ⟨.frz o u, vs, h3⟩ h2, h3, h4⟩
  | met f y =>
    have e : h.get? a = some (PySem.W.methodObj (.ref f) (.ref y)) := x
    show h'.get? a = some (PySem.W.methodObj (.ref f) (.ref y))
    exact k a _ (.inl rfl) e
  | ext φ => obtain ⟨p, ⟨o, e⟩, st⟩ := x; exact ⟨st _ _ p fun o q => k _ _ (.inl rfl) q, ⟨o, k _ _ (.inl rfl) e⟩, st⟩
theorem HOk.lt (x : HOk P w H h) (e : H a = some o) : a < h.objs.size := (x a o e).lt
theorem HOk.fresh (x : HOk P w H h) (e : h.objs.size ≤ a) : H a = none := by
  cases q : H a with
  | none => rfl
  | some u => exact absurd (Nat.lt_of_lt_of_le (x.lt q) e) (Nat.lt_irrefl _)
theorem HOk.kept (x : HOk P w H h) (k : ∀ b u, h.get? b = some u → h'.get? b = some u) : HOk P w H h' := fun a o e =>
  (x a o e).stay (fun b u _ q => k b u q) (fun _ q => q) fun _ _ q => q
theorem HOk.laid (x : HOk P w H h) (k : ∀ b u, h.get? b = some u → h'.get? b = some u) (hp : h.objs.size ≤ a) (new : ObjOk P w (upd H a o) h' a o) : HOk P w (upd H a o) h' := fun b u e => by
  have hn := x.fresh hp
  by_cases hb : b = a
  · subst hb; rw [upd_same] at e; cases e; exact new
  · rw [upd_ne hb] at e
    exact (x b u e).stay (fun c v _ q => k c v q) (fun c q => by rw [upd_ne (ne_of_none q hn)]; exact q) fun c xs q => by rw [upd_ne (ne_of_none q hn)]; exact q
end
def Rd (H : Hp) (a : Addr) (u : HO) : Prop := H a = some u ∨ ∃ o, H a = some (.frz o u)
theorem Rd.of {H : Hp} {a : Addr} {u : HO} (h : H a = some u) : Rd H a u := .inl h
theorem Rd.ok {P : Program} {w : World} {H : Hp} {h : Heap} {a : Addr} {u : HO} (r : Rd H a u) (x : HOk P w H h) : ObjOk P w H h a u := by
  rcases r with r | ⟨o, r⟩
  · exact x a u r
  · obtain ⟨_, q⟩ := x a _ r
    exact q
noncomputable def Mut : Option HO → Prop
  | some (.lst _) => True
  | some (.dK _) => True
  | some (.dT _) => True
  | some (.set _ _) => True
  | some (.ins _ _ _) => True
  | some (.ext _) => True
  | _ => False
section
variable {P : Program} {w : World} {H : Hp} {h h' : Heap} {x e : Addr} {o' : HO}
theorem HOk.write (ok : HOk P w H h) (mu : Mut (H x)) (he : e = x ∨ H e = some (.own x)) (k : ∀ b u, b ≠ e → h.get? b = some u → h'.get? b = some u) (heo : ∃ u, h'.get? e = some u)
    (new : ObjOk P w (upd H x o') h' x o') : HOk P w (upd H x o') h' := fun b u q => by
  have nown : ∀ c y, H c = some (.own y) → c ≠ x := fun c y r z => by subst z; rw [r] at mu; exact mu
  have ntup : ∀ c (xs : Fx), H c = some xs.1 → c ≠ x := fun c xs r z => by
    subst z; rw [r] at mu; obtain ⟨u, hu⟩ := xs
    cases u <;> first | exact False.elim mu | exact False.elim hu
  by_cases hb : b = x
  · subst hb; rw [upd_same] at q; cases q; exact new
  · rw [upd_ne hb] at q
    by_cases hbe : b = e
    · have q' : H b = some (.own x) := by
        rcases he with z | z
        · exact absurd (hbe.trans z) hb
        · rw [hbe]; exact z
      rw [q] at q'; cases q'
      obtain ⟨v, hv⟩ := heo
      exact ⟨v, by rw [hbe]; exact hv⟩
    · refine (ok b u q).stay (fun c v hc r => k c v ?_ r) (fun c r => by rw [upd_ne (nown c b r)]; exact r) fun c xs r => by rw [upd_ne (ntup c xs r)]; exact r
      rcases hc with rfl | hc
      · exact hbe
      · rintro rfl
        rcases he with z | z
        · exact nown c b hc z
        · rw [hc] at z; cases z; exact hb rfl
end
structure Un (fs ex : List Addr) (H H' : Hp) (h h' : Heap) : Prop where
  keep : ∀ b o, h.get? b = some o → H b = none → b ∉ fs → b ∉ ex → h'.get? b = some o
  slot : ∀ b o, h.get? b = some o → H b = none → b ∈ fs → b ∉ ex → ∃ sl, h'.get? b = some { o with slots := sl }
  free : ∀ b o, h.get? b = some o → H b = none → b ∉ ex → H' b = none
  there : ∀ b o, h.get? b = some o → b ∉ ex → ∃ o', h'.get? b = some o'
  tups : ∀ b xs, H b = some (.tup xs) → H' b = some (.tup xs)
  frzs : ∀ b o u, H b = some (.frz o u) → H' b = some (.frz o u)
  tbls : ∀ b ps, H b = some (.tbl ps) → H' b = some (.tbl ps)
section
variable {fs fs' ex ex' : List Addr} {H H1 H2 : Hp} {h h1 h2 h' : Heap} {a x e : Addr} {o : HO}
theorem Un.any (u : Un fs ex H H1 h h1) {b : Addr} {ob : Obj} (q : h.get? b = some ob) (n : H b = none) (hx : b ∉ ex) : ∃ sl, h1.get? b = some { ob with slots := sl } := by
  by_cases hb : b ∈ fs
  · exact u.slot b ob q n hb hx
  · exact ⟨ob.slots, u.keep b ob q n hb hx⟩
theorem Un.trans (a : Un fs ex H H1 h h1) (b : Un fs ex H1 H2 h1 h2) : Un fs ex H H2 h h2 where
  keep := fun c ob q n hc hx => b.keep c ob (a.keep c ob q n hc hx) (a.free c ob q n hx) hc hx
  slot := fun c ob q n hc hx => by
    obtain ⟨sl, e1⟩ := a.slot c ob q n hc hx
    obtain ⟨sl', e2⟩ := b.slot c _ e1 (a.free c ob q n hx) hc hx
    exact ⟨sl', e2⟩
  free := fun c ob q n hx => by
    obtain ⟨o', e1⟩ := a.there c ob q hx
    exact b.free c o' e1 (a.free c ob q n hx) hx
  there := fun c ob q hx => by
    obtain ⟨o', e1⟩ := a.there c ob q hx
    exact b.there c o' e1 hx
  tups := fun c xs q => b.tups c xs (a.tups c xs q)
  frzs := fun c ob xs q => b.frzs c ob xs (a.frzs c ob xs q)
  tbls := fun c ps q => b.tbls c ps (a.tbls c ps q)
theorem Un.kept (k : ∀ b u, h.get? b = some u → h'.get? b = some u) : Un fs ex H H h h' :=
  ⟨fun b ob q _ _ _ => k b ob q, fun b ob q _ _ _ => ⟨ob.slots, k b ob q⟩, fun _ _ _ n _ => n, fun b ob q _ => ⟨ob, k b ob q⟩, fun _ _ q => q, fun _ _ _ q => q, fun _ _ q => q⟩
theorem Un.refl : Un fs ex H H h h := Un.kept fun _ _ q => q
theorem Un.laid (k : ∀ b u, h.get? b = some u → h'.get? b = some u) (hp : h.objs.size ≤ a) (hn : H a = none) : Un fs ex H (upd H a o) h h' where
  keep := fun b u q _ _ _ => k b u q
  slot := fun b u q _ _ _ => ⟨u.slots, k b u q⟩
  free := fun b u q n _ => by rw [upd_ne (Nat.ne_of_lt (Nat.lt_of_lt_of_le (Heap.lt_size q) hp))]; exact n
  there := fun b u q _ => ⟨u, k b u q⟩
  tups := fun b xs q => by rw [upd_ne (ne_of_none q hn)]; exact q
  frzs := fun b u xs q => by rw [upd_ne (ne_of_none q hn)]; exact q
  tbls := fun b ps q => by rw [upd_ne (ne_of_none q hn)]; exact q
theorem Un.write (mu : Mut (H x)) (he : e = x ∨ H e = some (.own x)) (k : ∀ b u, b ≠ e → h.get? b = some u → h'.get? b = some u) (heo : ∃ u, h'.get? e = some u) : Un fs ex H (upd H x o) h h' := by
  have hx : ∀ b, H b = none → b ≠ x := fun b n z => by subst z; rw [n] at mu; exact mu
  have hb : ∀ b, H b = none → b ≠ e := fun b n z => by
    subst z
    rcases he with r | r
    · exact hx b n r
    · rw [n] at r; cases r
  have hm : ∀ b u, H b = some u → ¬ Mut (some u) → b ≠ x := fun b u q nm z => by subst z; rw [q] at mu; exact nm mu
  refine ⟨fun b u q n _ _ => k b u (hb b n) q, fun b u q n _ _ => ⟨u.slots, k b u (hb b n) q⟩, fun b u q n _ => by rw [upd_ne (hx b n)]; exact n, fun b u q _ => ?_,
    fun b xs q => by rw [upd_ne (hm b _ q fun z => z)]; exact q, fun b u xs q => by rw [upd_ne (hm b _ q fun z => z)]; exact q, fun b ps q => by rw [upd_ne (hm b _ q fun z => z)]; exact q⟩
  by_cases hbe : b = e
  · subst hbe; exact heo
  · exact ⟨u, k b u hbe q⟩
theorem Un.mono (u : Un fs ex H H1 h h1) (hs : ∀ b ∈ fs, b ∈ fs') (hx : ∀ b ∈ ex, b ∈ ex') : Un fs' ex' H H1 h h1 :=
  ⟨fun b ob q n hb he => u.keep b ob q n (fun z => hb (hs b z)) fun z => he (hx b z), fun _ _ q n _ he => u.any q n fun z => he (hx _ z), fun b ob q n he => u.free b ob q n fun z => he (hx b z), fun b ob q he => u.there b ob q fun z => he (hx b z), u.tups, u.frzs, u.tbls⟩
end
noncomputable def trk (h : Heap) (H : Hp) : List Addr := (List.range h.objs.size).filter fun a => (H a).isSome
noncomputable def hidT (h : Heap) (H : Hp) : Heap := PySem.W.hideAll h (trk h H)
theorem hidT_size (h : Heap) (H : Hp) : (hidT h H).objs.size = h.objs.size := PySem.W.hideAll_size _ _
theorem hidT_get {h : Heap} {H : Hp} {b : Addr} {o : Obj} (e : h.get? b = some o) (n : H b = none) : (hidT h H).get? b = some o :=
  PySem.W.hideAll_get _ e fun hm => by
    have q : (H b).isSome = true := (List.mem_filter.mp hm).2
    rw [n] at q; simp at q
theorem of_hidT {h : Heap} {H : Hp} {b : Addr} {o : Obj} (e : (hidT h H).get? b = some o) : h.get? b = some o ∧ H b = none := by
  have e' : h.get? b = some o := PySem.W.of_hideAll (trk h H) e
  refine ⟨e', ?_⟩
  cases q : H b with
  | none => rfl
  | some x =>
    have hm : b ∈ trk h H := List.mem_filter.mpr ⟨List.mem_range.mpr (Heap.lt_size e'), by simp [q]⟩
    have z : (hidT h H).get? b = none := PySem.W.hideAll_none (trk h H) hm
    rw [z] at e; cases e
noncomputable def allNews (g h : Heap) (L : Addr) : List (Addr × Obj) := (List.range h.objs.size).filterMap fun a => if a = L ∨ (g.get? a).isSome = true then none else (h.get? a).map fun o => (a, o)
noncomputable def rest (g h : Heap) (L d : Addr) : List (Addr × Obj) := (allNews g h L).filter fun p => decide (p.1 ≠ d)
end L2
namespace L2
open PySem PySem.Spec PyProof.Rows
structure Mod (K : PySem.W.Frag) (mg : Str → Option Value) (base : Heap) : Prop where
  kin : K.In base
  glob : base.Ns mainGlobals mg
  blt : ∃ mb, base.Ns builtinsNs mb ∧ ∀ x : Str, x ≠ "__name__" → mb x = bootBuiltins x
  nolimit : base.NoLimit
structure Cx where
  prog : Program
  w : World
  K : PySem.W.Frag
  mg : Str → Option Value
  base : Heap
  A : Around
  N : List Str
  s₀ : Shared
  H₀ : Hp
  env : Env
  outer : List Env
  stack : List Env
  ex : List Addr
  fn : Str → Bool
  calm : Bool
  pn : List (Addr × Obj)
  xe : Value → Shared → Prop
noncomputable def frs (l : List Env) : List Addr := l.filterMap (·.frame)
noncomputable abbrev Cx.fs (X : Cx) : List Addr := frs X.outer
def Vis (sc : Scope) (x : Str) : Prop := sc.names.lookup x = some .local ∨ sc.names.lookup x = some .cell ∨ sc.names.lookup x = some .free
def Loc (sc : Scope) (x : Str) : Prop := sc.names.lookup x = some .local ∨ sc.names.lookup x = some .cell
def Look (env : Env) (h : Heap) (m : Str → Option Value) (x : Str) (u : Value) : Prop :=
  (env.kindOf x = some .local ∧ m x = some u) ∨ ((env.kindOf x = some .cell ∨ env.kindOf x = some .free) ∧ ∃ c, env.cells.lookup x = some c ∧ h.IsCell c (some u))
noncomputable def makers : List Str := ["law", "_law_with_itself", "_law_ways", "_law_way", "holding", "_law_any_test", "_law_test", "_law_turned", "_law_right", "wheel_run", "answer_run"]
noncomputable def innerN : List Stmt → Nat → Nat → Str
  | [], _, _ => "<lambda>"
  | .FunctionDef n _ _ _ _ _ _ _ _ pos :: r, l, c => if pos.line = l ∧ pos.col = c then n else innerN r l c
  | _ :: r, l, c => innerN r l c
noncomputable def innerQ (K : PySem.W.Frag) (x : Str) (l c : Nat) : Str := match PySem.W.nsIn K mainGlobals x with
  | some (some (.ref f)) => (match K.lookup f with
    | some ⟨_, _, .func fd, _⟩ => (match fd.body with
      | .stmts b => x ++ ".<locals>." ++ innerN b l c
      | _ => x)
    | _ => x)
  | _ => x
structure TabsK (K : PySem.W.Frag) (mg : Str → Option Value) (base : Heap) (H : Hp) : Prop where
  bm : ∃ bm ob, mg "__builtins__" = some (.ref bm) ∧ bm ≠ builtinsNs ∧ base.get? bm = some ob ∧ ob.cls = .type "module" ∧ ob.dict = some builtinsNs ∧ ob.data = .plain
  tab : ∀ x c P, x ∈ makers → PySem.W.tabIn K x = some (c, P) → PySem.W.CodeHd base c P ∧ H P = some (.tbl (innerQ K x))
def Bsz (K : PySem.W.Frag) (mg : Str → Option Value) (base h : Heap) (H : Hp) : Prop := base.objs.size ≤ h.objs.size ∧ TabsK K mg base H
def FreeC (X : Cx) (H : Hp) (x : Str) (c : Addr) : Prop := H c = none ∨ (X.fn x = false ∧ ∃ o u, H c = some (.frz o u))
theorem FreeC.now {X : Cx} {H : Hp} {x : Str} {c : Addr} (h : FreeC X H x c) (hf : X.fn x = true) : H c = none := h.elim id fun z => by rw [hf] at z; cases z.1
structure Cx.Ok (X : Cx) : Prop where
  mod : Mod X.K X.mg X.base
  kind : X.env.scope.kind = .function
  glob : X.env.globals = mainGlobals
  blt : X.env.builtins = builtinsNs
  above : X.s₀.heap.objs.size ≤ X.env.locals
  inj : ∀ x y c, X.env.cells.lookup x = some c → X.env.cells.lookup y = some c → x = y
  has : ∀ x, (X.env.kindOf x = some .cell ∨ X.env.kindOf x = some .free) → ∃ c, X.env.cells.lookup x = some c
  cab : ∀ x c, X.fn x = true → X.env.cells.lookup x = some c → X.s₀.heap.objs.size ≤ c
  hd : X.calm = true → X.A.handled = none
  frames : X.A.frames = some X.stack
  stk : X.stack = X.outer ∨ (X.stack = X.env :: X.outer ∧ X.env.frame = some X.env.locals)
  exf : ∀ b ∈ X.ex, b ≠ X.env.locals ∧ ∀ x c, X.env.cells.lookup x = some c → c ≠ b
  bs : ∀ b o, X.base.get? b = some o → X.s₀.heap.get? b = some o ∧ X.H₀ b = none
  bsz : Bsz X.K X.mg X.base X.s₀.heap X.H₀
  noex : ∀ b o, X.base.get? b = some o → b ∉ X.ex
  exfs : ∀ b ∈ X.ex, b ∉ X.fs
  funs : X.s₀.heap.FunFrames X.base X.outer
  frf : ∀ b ∈ X.fs, X.H₀ b = none
structure Inv (X : Cx) (pins : List (Addr × Obj)) (σ : List (Option V)) (H : Hp) (s : Shared) : Prop where
  ok : X.Ok
  os : s.os = X.s₀.os
  bare : AllBare s.gens
  base : Un X.fs X.ex X.H₀ H X.s₀.heap s.heap
  loc : ∃ m, s.heap.Ns X.env.locals m ∧ ∀ (i : Nat) (x : Str) (v : V), X.N[i]? = some x → σ[i]? = some (some v) → Vis X.env.scope x → ∃ u, RelV v u ∧ Look X.env s.heap m x u
  cell : ∀ x c, X.env.cells.lookup x = some c → ∃ v, s.heap.IsCell c v
  free : H X.env.locals = none
  freeC : ∀ x c, X.env.cells.lookup x = some c → FreeC X H x c
  pin : ∀ p ∈ X.pn ++ pins, s.heap.get? p.1 = some p.2 ∧ H p.1 = none ∧ p.1 ≠ X.env.locals ∧ p.1 ∉ X.fs ∧ ∀ v, p.2.data ≠ .cell v
  hok : HOk X.prog X.w H s.heap
  len : σ.length = X.N.length
section
variable {X : Cx} {pins : List (Addr × Obj)} {σ : List (Option V)} {H H' : Hp} {s : Shared} {h' : Heap}
theorem Cx.Ok.nofr (ok : X.Ok) {b : Addr} {o : Obj} (e : X.base.get? b = some o) : b ∉ X.fs := fun hb => by
  have := (ok.funs.mem hb).1
  rw [e] at this; cases this
theorem Inv.bs (I : Inv X pins σ H s) : ∀ b o, X.base.get? b = some o → s.heap.get? b = some o ∧ H b = none := fun b o e =>
  ⟨I.base.keep b o (I.ok.bs b o e).1 (I.ok.bs b o e).2 (I.ok.nofr e) (I.ok.noex b o e), I.base.free b o (I.ok.bs b o e).1 (I.ok.bs b o e).2 (I.ok.noex b o e)⟩
theorem Inv.bk (I : Inv X pins σ H s) : ∀ b o, X.base.get? b = some o → s.heap.get? b = some o := fun b o e => (I.bs b o e).1
theorem Inv.mod (I : Inv X pins σ H s) : Mod X.K X.mg X.base := I.ok.mod
theorem Inv.kIn (I : Inv X pins σ H s) : X.K.In s.heap := I.ok.mod.kin.keeps I.bk
theorem Inv.lt (I : Inv X pins σ H s) : X.env.locals < s.heap.objs.size := let ⟨_, hn, _⟩ := I.loc; hn.lt
theorem Inv.sz (I : Inv X pins σ H s) : X.s₀.heap.objs.size ≤ s.heap.objs.size := Nat.le_trans I.ok.above (Nat.le_of_lt I.lt)
theorem Inv.nofs (I : Inv X pins σ H s) {a : Addr} (h : s.heap.objs.size ≤ a) : a ∉ X.fs := fun hb => by
  obtain ⟨_, o, ho, _⟩ := I.ok.funs.mem hb
  exact absurd (Nat.lt_of_lt_of_le (Heap.lt_size ho) (Nat.le_trans I.sz h)) (Nat.lt_irrefl _)
theorem Inv.cne (I : Inv X pins σ H s) : ∀ x c, X.env.cells.lookup x = some c → c ≠ X.env.locals := fun x c e z => by
  obtain ⟨v, o, ho, hd⟩ := I.cell x c e
  obtain ⟨m, ⟨o', es, ep, ho', hd', _⟩, _⟩ := I.loc
  rw [z, ho'] at ho; cases ho; rw [hd'] at hd; cases hd
theorem Inv.funs (I : Inv X pins σ H s) : s.heap.FunFrames X.base X.outer := by
  have all : ∀ (l : List Env), (∀ b ∈ frs l, b ∈ X.fs) → X.s₀.heap.FunFrames X.base l → s.heap.FunFrames X.base l := by
    intro l
    induction l with
    | nil => intro _ _; trivial
    | cons env r ih =>
      intro hs hl
      obtain ⟨hk, ⟨L, o, hf, hn, ho, hd⟩, hr⟩ := hl
      have hL : L ∈ X.fs := hs L (by unfold frs; rw [List.filterMap_cons, hf]; exact List.mem_cons_self)
      obtain ⟨sl, e⟩ := I.base.slot L o ho (I.ok.frf L hL) hL fun z => I.ok.exfs L z hL
      exact ⟨hk, ⟨L, _, hf, hn, e, hd⟩, ih (fun b hb => hs b (by unfold frs; rw [List.filterMap_cons, hf]; exact List.mem_cons_of_mem _ hb)) hr⟩
  exact all X.outer (fun _ hb => hb) I.ok.funs
theorem Inv.stack (I : Inv X pins σ H s) : s.heap.FunFrames X.base X.stack := by
  rcases I.ok.stk with e | ⟨e, hf⟩
  · rw [e]; exact I.funs
  · rw [e]
    obtain ⟨m, hn, _⟩ := I.loc
    refine .cons (by rw [I.ok.kind]; decide) hf hn ?_ I.funs
    exact Heap.get?_none_of_le (Nat.le_trans I.ok.bsz.1 I.ok.above)
theorem Inv.stkSub (I : Inv X pins σ H s) : ∀ b ∈ frs X.stack, b ∈ X.env.locals :: X.fs := fun b hb => by
  rcases I.ok.stk with e | ⟨e, hf⟩
  · rw [e] at hb; exact List.mem_cons_of_mem _ hb
  · rw [e] at hb
    unfold frs at hb
    rw [List.filterMap_cons, hf] at hb
    exact hb
theorem Inv.stkFree (I : Inv X pins σ H s) : ∀ b ∈ frs X.stack, H b = none := fun b hb => by
  rcases List.mem_cons.mp (I.stkSub b hb) with e | hb
  · rw [e]; exact I.free
  · obtain ⟨_, o, ho, _⟩ := I.ok.funs.mem hb
    exact I.base.free b o ho (I.ok.frf b hb) fun z => I.ok.exfs b z hb
theorem Inv.step {g' : Array GenState} {t' : Nat} {d' : Drawn} {ch : List Addr} (I : Inv X pins σ H s)
    (hch : ∀ b ∈ ch, (b ∈ X.ex ∨ X.s₀.heap.objs.size ≤ b) ∧ b ≠ X.env.locals ∧ (∀ x c, X.env.cells.lookup x = some c → c ≠ b) ∧ ∀ p ∈ X.pn ++ pins, p.1 ≠ b)
    (keep : ∀ b o, b ≠ X.env.locals → b ∉ X.fs → b ∉ ch → s.heap.get? b = some o → H b = none → h'.get? b = some o)
    (slot : ∀ b o, b ≠ X.env.locals → b ∈ X.fs → b ∉ ch → s.heap.get? b = some o → H b = none → ∃ sl, h'.get? b = some { o with slots := sl }) (free : ∀ b o, b ∉ ch → s.heap.get? b = some o → H b = none → H' b = none)
    (there : ∀ b o, b ∉ ch → s.heap.get? b = some o → ∃ o', h'.get? b = some o')
    (tups : ∀ b xs, H b = some (.tup xs) → H' b = some (.tup xs)) (frzs : ∀ b o u, H b = some (.frz o u) → H' b = some (.frz o u)) (tbls : ∀ b ps, H b = some (.tbl ps) → H' b = some (.tbl ps))
    (ns : ∀ m, s.heap.Ns X.env.locals m → h'.Ns X.env.locals m) (hok : HOk X.prog X.w H' h') (hg : AllBare g') :
    Inv X pins σ H' { s with heap := h', gens := g', drawn := d', toks := t' } := by
  have neL : ∀ b o, X.s₀.heap.get? b = some o → b ≠ X.env.locals := fun b o e => Nat.ne_of_lt (Nat.lt_of_lt_of_le (Heap.lt_size e) I.ok.above)
  have neC : ∀ b o, X.s₀.heap.get? b = some o → b ∉ X.ex → b ∉ ch := fun b o e hx hb => by
    rcases (hch b hb).1 with z | z
    · exact hx z
    · exact absurd (Nat.lt_of_lt_of_le (Heap.lt_size e) z) (Nat.lt_irrefl _)
  have cellK : ∀ x c, X.env.cells.lookup x = some c → ∀ v, s.heap.IsCell c v → h'.IsCell c v := fun x c e v ⟨o, ho, hd⟩ => by
    have nch : c ∉ ch := fun z => (hch c z).2.2.1 x c e rfl
    rcases I.freeC x c e with fr | ⟨_, of, uf, fr⟩
    · by_cases hc : c ∈ X.fs
      · obtain ⟨sl, q⟩ := slot c o (I.cne x c e) hc nch ho fr
        exact ⟨_, q, hd⟩
      · exact ⟨o, keep c o (I.cne x c e) hc nch ho fr, hd⟩
    · obtain ⟨e1, _⟩ := I.hok c _ fr
      obtain ⟨e2, _⟩ := hok c _ (frzs c of uf fr)
      rw [ho] at e1; cases e1
      exact ⟨o, e2, hd⟩
  refine ⟨I.ok, I.os, hg, ⟨fun b o e n hb hx => ?_, fun b o e n hb hx => ?_, fun b o e n hx => ?_, fun b o e hx => ?_, fun b xs e => tups b xs (I.base.tups b xs e), fun b o xs e => frzs b o xs (I.base.frzs b o xs e), fun b ps e => ?_⟩, ?_, fun x c e => ?_, ?_, fun x c e => ?_, fun p hp => ?_, hok, I.len⟩
  · exact keep b o (neL b o e) hb (neC b o e hx) (I.base.keep b o e n hb hx) (I.base.free b o e n hx)
  · obtain ⟨sl, e1⟩ := I.base.slot b o e n hb hx
    obtain ⟨sl', e2⟩ := slot b _ (neL b o e) hb (neC b o e hx) e1 (I.base.free b o e n hx)
    exact ⟨sl', e2⟩
  · obtain ⟨o', e1⟩ := I.base.there b o e hx
    exact free b o' (neC b o e hx) e1 (I.base.free b o e n hx)
  · obtain ⟨o', e1⟩ := I.base.there b o e hx
    exact there b o' (neC b o e hx) e1
  · exact tbls b ps (I.base.tbls b ps e)
  · obtain ⟨m, hn, hl⟩ := I.loc
    refine ⟨m, ns m hn, fun i x v e1 e2 e3 => ?_⟩
    obtain ⟨u, r, l⟩ := hl i x v e1 e2 e3
    refine ⟨u, r, ?_⟩
    rcases l with l | ⟨k, c, e, z⟩
    · exact .inl l
    · exact .inr ⟨k, c, e, cellK x c e _ z⟩
  · obtain ⟨v, z⟩ := I.cell x c e
    exact ⟨v, cellK x c e v z⟩
  · obtain ⟨m, ⟨o, _, _, ho, _⟩, _⟩ := I.loc
    exact free _ o (fun z => (hch _ z).2.1 rfl) ho I.free
  · obtain ⟨v, o, ho, hd⟩ := I.cell x c e
    exact (I.freeC x c e).elim (fun fr => .inl (free c o (fun z => (hch c z).2.2.1 x c e rfl) ho fr)) fun ⟨h1, of, uf, fr⟩ => .inr ⟨h1, of, uf, frzs c of uf fr⟩
  · obtain ⟨e, n, ne, nf, d⟩ := I.pin p hp
    have nch : p.1 ∉ ch := fun z => (hch p.1 z).2.2.2 p hp rfl
    exact ⟨keep p.1 p.2 ne nf nch e n, free p.1 p.2 nch e n, ne, nf, d⟩
theorem Inv.un {t' : Nat} (I : Inv X pins σ H s) (u : Un X.fs [] H H' s.heap h') (hok : HOk X.prog X.w H' h') : Inv X pins σ H' { s with heap := h', toks := t' } := by
  obtain ⟨m, ⟨o, es, ep, ho, r⟩, _⟩ := id I.loc
  obtain ⟨sl, hL⟩ := u.any ho I.free (by simp)
  exact I.step (g' := s.gens) (d' := s.drawn) (ch := []) (fun _ z => nomatch z) (fun b o _ hb _ e n => u.keep b o e n hb (by simp)) (fun b o _ hb _ e n => u.slot b o e n hb (by simp)) (fun b o _ e n => u.free b o e n (by simp)) (fun b o _ e => u.there b o e (by simp)) u.tups u.frzs u.tbls (fun m' hm => by
    obtain ⟨o', es', ep', ho', r'⟩ := hm
    rw [ho] at ho'; cases ho'
    exact ⟨_, es', ep', hL, r'⟩) hok I.bare
theorem Inv.call {g' : Array GenState} {t' : Nat} {d' : Drawn} {ch : List Addr} (I : Inv X pins σ H s) (u : Un (frs X.stack) ch H H' s.heap h') (hok : HOk X.prog X.w H' h') (hg : AllBare g')
    (hch : ∀ b ∈ ch, (b ∈ X.ex ∨ X.s₀.heap.objs.size ≤ b) ∧ b ≠ X.env.locals ∧ (∀ x c, X.env.cells.lookup x = some c → c ≠ b) ∧ ∀ p ∈ X.pn ++ pins, p.1 ≠ b) :
    Inv X pins σ H' { s with heap := h', gens := g', drawn := d', toks := t' } := by
  obtain ⟨m, ⟨o, es, ep, ho, r⟩, _⟩ := id I.loc
  obtain ⟨sl, hL⟩ := u.any ho I.free fun z => (hch _ z).2.1 rfl
  exact I.step (ch := ch) hch (fun b o hL hb hc e n => u.keep b o e n (fun z => (List.mem_cons.mp (I.stkSub b z)).elim hL hb) hc) (fun b o _ _ hc e n => u.any e n hc) (fun b o hc e n => u.free b o e n hc) (fun b o hc e => u.there b o e hc) u.tups u.frzs u.tbls (fun m' hm => by
    obtain ⟨o', es', ep', ho', r'⟩ := hm
    rw [ho] at ho'; cases ho'
    exact ⟨_, es', ep', hL, r'⟩) hok hg
theorem Inv.turned {t' : Nat} {it : Addr} (I : Inv X pins σ H s) (k : ∀ b o, b ≠ it → s.heap.get? b = some o → h'.get? b = some o) (hn : H it = none) (hL : it ≠ X.env.locals)
    (h1 : it ∈ X.ex ∨ X.s₀.heap.objs.size ≤ it) (h2 : ∀ x c, X.env.cells.lookup x = some c → c ≠ it) (h3 : ∀ p ∈ X.pn ++ pins, p.1 ≠ it) : Inv X pins σ H { s with heap := h', toks := t' } := by
  have nit : ∀ b u, H b = some u → b ≠ it := fun b u e z => by rw [z, hn] at e; cases e
  refine I.step (g' := s.gens) (d' := s.drawn) (ch := [it]) (fun b hb => ?_) (fun b o _ _ hc e _ => k b o (fun z => hc (by simp [z])) e) (fun b o _ _ hc e _ => ⟨o.slots, k b o (fun z => hc (by simp [z])) e⟩) (fun _ _ _ _ n => n)
    (fun b o hc e => ⟨o, k b o (fun z => hc (by simp [z])) e⟩) (fun _ _ e => e) (fun _ _ _ e => e) (fun _ _ e => e) (fun m hm => ?_) (fun b u e => ?_) I.bare
  · have e : b = it := by simpa using hb
    subst e
    exact ⟨h1, hL, h2, h3⟩
  · obtain ⟨o, es, ep, ho, r⟩ := hm
    exact ⟨o, es, ep, k _ o (Ne.symm hL) ho, r⟩
  · refine (I.hok b u e).stay (fun c v hc q => k c v ?_ q) (fun _ q => q) fun _ _ q => q
    rcases hc with z | z
    · rw [z]; exact nit b u e
    · exact nit c _ z
theorem Inv.tok (I : Inv X pins σ H s) (t : Nat) : Inv X pins σ H { s with toks := t } := I.un (h' := s.heap) (t' := t) Un.refl I.hok
theorem Inv.kept {t' : Nat} (I : Inv X pins σ H s) (k : ∀ b u, s.heap.get? b = some u → h'.get? b = some u) : Inv X pins σ H { s with heap := h', toks := t' } := I.un (Un.kept k) (I.hok.kept k)
theorem Inv.laid {a : Addr} {o : HO} {t' : Nat} (I : Inv X pins σ H s) (k : ∀ b u, s.heap.get? b = some u → h'.get? b = some u) (hp : s.heap.objs.size ≤ a) (new : ObjOk X.prog X.w (upd H a o) h' a o) :
    Inv X pins σ (upd H a o) { s with heap := h', toks := t' } := I.un (Un.laid k hp (I.hok.fresh hp)) (I.hok.laid k hp new)
theorem Inv.write {x e : Addr} {o : HO} {t' : Nat} (I : Inv X pins σ H s) (mu : Mut (H x)) (he : e = x ∨ H e = some (.own x)) (k : ∀ b u, b ≠ e → s.heap.get? b = some u → h'.get? b = some u) (heo : ∃ u, h'.get? e = some u)
    (new : ObjOk X.prog X.w (upd H x o) h' x o) : Inv X pins σ (upd H x o) { s with heap := h', toks := t' } := I.un (Un.write mu he k heo) (I.hok.write mu he k heo new)
theorem Inv.pins_of {pins' : List (Addr × Obj)} (I : Inv X pins σ H s) (h : ∀ p ∈ pins', s.heap.get? p.1 = some p.2 ∧ H p.1 = none ∧ p.1 ≠ X.env.locals ∧ p.1 ∉ X.fs ∧ ∀ v, p.2.data ≠ .cell v) : Inv X pins' σ H s :=
  ⟨I.ok, I.os, I.bare, I.base, I.loc, I.cell, I.free, I.freeC, fun p hp => (List.mem_append.mp hp).elim (fun z => I.pin p (List.mem_append_left _ z)) (h p), I.hok, I.len⟩
theorem nodup_ix {N : List Str} (hN : N.Nodup) {i j : Nat} {x : Str} (a : N[i]? = some x) (b : N[j]? = some x) : i = j := by
  obtain ⟨h1, e1⟩ := List.getElem?_eq_some_iff.mp a
  obtain ⟨h2, e2⟩ := List.getElem?_eq_some_iff.mp b
  exact (List.getElem_inj hN).mp (e1.trans e2.symm)
theorem store_ok2 {M : Model} {A : Around} {E : Value → Shared → Prop} {i : Nat} {x : Str} {v : V} {u : Value} {Q : Unit → Shared → Prop} (I : Inv X pins σ H s) (hN : X.N.Nodup) (hi : X.N[i]? = some x) (hx : Loc X.env.scope x) (r : RelV v u)
    (h : ∀ s', Inv X pins (σ.set i (some v)) H s' → (∃ a, Heap.SameBut a s.heap s'.heap ∧ (a = X.env.locals ∨ X.env.cells.lookup x = some a)) → Q () s') (hf : X.fn x = true ∨ X.env.scope.names.lookup x = some .local := by first | exact .inl rfl | exact .inr rfl | assumption) : wpAny M A (storeName X.env x u) Q E s := by
  obtain ⟨m, hn, hl⟩ := id I.loc
  have hcls : (X.env.scope.kind == .class || (X.env.scope.kind == .module && X.env.locals != X.env.globals)) = false := by rw [I.ok.kind]; rfl
  have hiσ : i < σ.length := by rw [I.len]; exact (List.getElem?_eq_some_iff.mp hi).1
  have cne := I.cne
  have tracked : ∀ {a : Addr} {h' : Heap}, (∃ o, s.heap.get? a = some o ∧ H a = none) → Heap.SameBut a s.heap h' → HOk X.prog X.w H h' := fun {a h'} ha hs b ob e => by
    obtain ⟨_, _, hfree⟩ := ha
    refine (I.hok b ob e).stay (fun c w' hc q => (hs.2 c ?_).trans q) (fun _ q => q) fun _ _ q => q
    rintro rfl
    rcases hc with rfl | hc
    · rw [hfree] at e; cases e
    · rw [hfree] at hc; cases hc
  rcases hx with hk | hk
  · refine wpAny_storeName_local hk hn (fun h' hn' hs => ?_) hcls
    obtain ⟨oL, _, _, hoL, _⟩ := id hn
    refine h _ ⟨I.ok, I.os, I.bare, ⟨fun b o e n hb hx => ?_, fun b o e n hb hx => ?_, I.base.free, fun b o e hx => ?_, I.base.tups, I.base.frzs, I.base.tbls⟩, ⟨_, hn', fun j y v' e1 e2 e3 => ?_⟩, fun y c e => ?_, I.free, I.freeC, fun p hp => ?_, tracked ⟨oL, hoL, I.free⟩ hs, by simpa using I.len⟩ ⟨_, hs, .inl rfl⟩
    · exact (hs.2 b (Nat.ne_of_lt (Nat.lt_of_lt_of_le (Heap.lt_size e) I.ok.above))).trans (I.base.keep b o e n hb hx)
    · obtain ⟨sl, e1⟩ := I.base.slot b o e n hb hx
      exact ⟨sl, (hs.2 b (Nat.ne_of_lt (Nat.lt_of_lt_of_le (Heap.lt_size e) I.ok.above))).trans e1⟩
    · obtain ⟨o', e1⟩ := I.base.there b o e hx
      exact ⟨o', (hs.2 b (Nat.ne_of_lt (Nat.lt_of_lt_of_le (Heap.lt_size e) I.ok.above))).trans e1⟩
    · by_cases hj : j = i
      · subst hj
        rw [hi] at e1; cases e1
        rw [List.getElem?_set_self hiσ] at e2
        cases e2
        exact ⟨u, r, .inl ⟨hk, by simp⟩⟩
      · rw [List.getElem?_set_ne (Ne.symm hj)] at e2
        obtain ⟨u', r', q⟩ := hl j y v' e1 e2 e3
        refine ⟨u', r', ?_⟩
        rcases q with ⟨k, e⟩ | ⟨k, c, e, z⟩
        · refine .inl ⟨k, ?_⟩
          have : y ≠ x := fun e => hj (nodup_ix hN e1 (e ▸ hi))
          simp [this, e]
        · exact .inr ⟨k, c, e, z.sameBut hs (cne y c e)⟩
    · obtain ⟨w', z⟩ := I.cell y c e
      exact ⟨w', z.sameBut hs (cne y c e)⟩
    · obtain ⟨e, n, ne, nf, d⟩ := I.pin p hp
      exact ⟨(hs.2 p.1 ne).trans e, n, ne, nf, d⟩
  · have hfn : X.fn x = true := by
      rcases hf with z | z
      · exact z
      · rw [z] at hk; cases hk
    obtain ⟨c, hc⟩ := I.ok.has x (.inl hk)
    obtain ⟨w', z⟩ := I.cell x c hc
    refine wpAny_storeName_cell I.ok.kind hk hc z (fun h' hc' hs => ?_)
    obtain ⟨oc, hoc, hocd⟩ := id z
    refine h { s with heap := h' } ⟨I.ok, I.os, I.bare, ⟨fun b o e n hb hx => ?_, fun b o e n hb hx => ?_, I.base.free, fun b o e hx => ?_, I.base.tups, I.base.frzs, I.base.tbls⟩, ⟨m, hn.sameBut hs (Ne.symm (cne x c hc)), fun j y v' e1 e2 e3 => ?_⟩, fun y c' e => ?_, I.free, I.freeC, fun p hp => ?_, tracked ⟨oc, hoc, (I.freeC x c hc).now hfn⟩ hs, by simpa using I.len⟩ ⟨c, hs, .inr hc⟩
    · exact (hs.2 b (Nat.ne_of_lt (Nat.lt_of_lt_of_le (Heap.lt_size e) (I.ok.cab x c hfn hc)))).trans (I.base.keep b o e n hb hx)
    · obtain ⟨sl, e1⟩ := I.base.slot b o e n hb hx
      exact ⟨sl, (hs.2 b (Nat.ne_of_lt (Nat.lt_of_lt_of_le (Heap.lt_size e) (I.ok.cab x c hfn hc)))).trans e1⟩
    · obtain ⟨o', e1⟩ := I.base.there b o e hx
      exact ⟨o', (hs.2 b (Nat.ne_of_lt (Nat.lt_of_lt_of_le (Heap.lt_size e) (I.ok.cab x c hfn hc)))).trans e1⟩
    · by_cases hj : j = i
      · subst hj
        rw [hi] at e1; cases e1
        rw [List.getElem?_set_self hiσ] at e2
        cases e2
        exact ⟨u, r, .inr ⟨.inl hk, c, hc, hc'⟩⟩
      · rw [List.getElem?_set_ne (Ne.symm hj)] at e2
        obtain ⟨u', r', q⟩ := hl j y v' e1 e2 e3
        refine ⟨u', r', ?_⟩
        rcases q with q | ⟨k, c', e, z'⟩
        · exact .inl q
        · refine .inr ⟨k, c', e, z'.sameBut hs ?_⟩
          rintro rfl
          exact hj (nodup_ix hN e1 (I.ok.inj _ _ _ e hc ▸ hi))
    · by_cases hcc : c' = c
      · subst hcc; exact ⟨_, hc'⟩
      · obtain ⟨w2, z2⟩ := I.cell y c' e
        exact ⟨w2, z2.sameBut hs hcc⟩
    · obtain ⟨e, n, ne, nf, d⟩ := I.pin p hp
      refine ⟨(hs.2 p.1 ?_).trans e, n, ne, nf, d⟩
      intro q
      rw [q, hoc] at e
      have q' : oc = p.2 := Option.some.inj e
      exact d w' (by rw [← q']; exact hocd)
theorem store_ok {M : Model} {A : Around} {E : Value → Shared → Prop} {i : Nat} {x : Str} {v : V} {u : Value} {Q : Unit → Shared → Prop} (I : Inv X pins σ H s) (hN : X.N.Nodup) (hi : X.N[i]? = some x) (hx : Loc X.env.scope x) (r : RelV v u)
    (h : ∀ s', Inv X pins (σ.set i (some v)) H s' → Q () s') (hf : X.fn x = true ∨ X.env.scope.names.lookup x = some .local := by first | exact .inl rfl | exact .inr rfl | assumption) : wpAny M A (storeName X.env x u) Q E s :=
  store_ok2 I hN hi hx r (fun s' I' _ => h s' I') hf
theorem Inv.call' {s' : Shared} {ch : List Addr} (I : Inv X pins σ H s) (ho : s'.os = s.os) (u : Un (frs X.stack) ch H H' s.heap s'.heap) (hok : HOk X.prog X.w H' s'.heap) (hg : AllBare s'.gens)
    (hch : ∀ b ∈ ch, (b ∈ X.ex ∨ X.s₀.heap.objs.size ≤ b) ∧ b ≠ X.env.locals ∧ (∀ x c, X.env.cells.lookup x = some c → c ≠ b) ∧ ∀ p ∈ X.pn ++ pins, p.1 ≠ b) : Inv X pins σ H' s' := by
  obtain ⟨h', g', d', t', o'⟩ := s'
  have e : o' = s.os := ho
  subst e
  exact I.call (g' := g') (t' := t') (d' := d') u hok hg hch
end
abbrev XK := Value → Option Addr → Hp → Prop
abbrev St := List (Option V)
abbrev VK := V → Hp → Prop
abbrev TE := St → Hp → VK → Prop
abbrev TT := St → Hp → (Bool → Hp → Prop) → Prop
abbrev TA := St → Hp → (List V → Hp → Prop) → Prop
structure Ends where
  nx : St → Hp → Prop
  rt : VK
  bk : St → Hp → Prop := fun _ _ => False
  ct : St → Hp → Prop := fun _ _ => False
abbrev TS := Ends → St → Hp → Prop
def EP (X : Cx) (pins : List (Addr × Obj)) (σ : St) (Q : VK) (u : Value) (s' : Shared) : Prop := ∃ v H', Inv X pins σ H' s' ∧ RelV v u ∧ Q v H'
def TP (X : Cx) (pins : List (Addr × Obj)) (σ : St) (Q : Bool → Hp → Prop) (b : Bool) (s' : Shared) : Prop := ∃ H', Inv X pins σ H' s' ∧ Q b H'
def AP (X : Cx) (pins : List (Addr × Obj)) (σ : St) (Q : List V → Hp → Prop) (us : List Value) (s' : Shared) : Prop := ∃ vs H', Inv X pins σ H' s' ∧ Vals vs us ∧ Q vs H'
def SP (X : Cx) (pins : List (Addr × Obj)) (D : Ends) (f : Flow) (s' : Shared) : Prop :=
  match f with
  | .next => ∃ σ' H', Inv X pins σ' H' s' ∧ D.nx σ' H'
  | .brk => ∃ σ' H', Inv X pins σ' H' s' ∧ D.bk σ' H'
  | .cont => ∃ σ' H', Inv X pins σ' H' s' ∧ D.ct σ' H'
  | .ret u => ∃ v σ' H', Inv X pins σ' H' s' ∧ RelV v u ∧ D.rt v H'
def PE (X : Cx) (e : Expr) (t : TE) : Prop :=
  ∀ (pins : List (Addr × Obj)) (s : Shared) (σ : St) (H : Hp) (Q : VK), Inv X pins σ H s → t σ H Q → wpAny (model X.prog X.w) X.A (eval e X.env) (EP X pins σ Q) X.xe s
def PT (X : Cx) (e : Expr) (t : TT) : Prop :=
  ∀ (pins : List (Addr × Obj)) (s : Shared) (σ : St) (H : Hp) (Q : Bool → Hp → Prop), Inv X pins σ H s → t σ H Q → wpAny (model X.prog X.w) X.A (isTrue e X.env (eval e X.env)) (TP X pins σ Q) X.xe s
def PW (X : Cx) (e : Expr) (t : TT) : Prop :=
  ∀ (whole : Sem Value) (pins : List (Addr × Obj)) (s : Shared) (σ : St) (H : Hp) (Q : Bool → Hp → Prop), Inv X pins σ H s → t σ H Q → wpAny (model X.prog X.w) X.A (isTrue e X.env whole) (TP X pins σ Q) X.xe s
theorem PW.pt {X : Cx} {e : Expr} {t : TT} (h : PW X e t) : PT X e t := h _
def PA (X : Cx) (es : List Expr) (t : TA) : Prop :=
  ∀ (pos : Pos) (pins : List (Addr × Obj)) (s : Shared) (σ : St) (H : Hp) (Q : List V → Hp → Prop), Inv X pins σ H s → t σ H Q → wpAny (model X.prog X.w) X.A (spliced (backTo pos (starEach es X.env))) (AP X pins σ Q) X.xe s
def PS (X : Cx) (st : Stmt) (t : TS) : Prop :=
  ∀ (pins : List (Addr × Obj)) (s : Shared) (σ : St) (H : Hp) (D : Ends), Inv X pins σ H s → t D σ H → wpAny (model X.prog X.w) X.A (exec st X.env) (SP X pins D) X.xe s
def PSs (X : Cx) (st : List Stmt) (t : TS) : Prop :=
  ∀ (pins : List (Addr × Obj)) (s : Shared) (σ : St) (H : Hp) (D : Ends), Inv X pins σ H s → t D σ H → wpAny (model X.prog X.w) X.A (execs st X.env) (SP X pins D) X.xe s
theorem thn {α : Type} {t : Sem α} {Q Q' : α → Shared → Prop} {M : Model} {A : Around} {E : Value → Shared → Prop} {s : Shared} (h : wpAny M A t Q E s) (hQ : ∀ a s, Q a s → Q' a s) : wpAny M A t Q' E s := wpAny_mono h hQ fun _ _ x => x
end L2
namespace L2
open PySem PySem.Spec PyProof.Rows
section
variable {X : Cx}
def tVar (i : Nat) : TE := fun σ H Q => ∃ v, σ[i]? = some (some v) ∧ Q v H
def tC (v : V) : TE := fun _ H Q => Q v H
theorem pe_var {i : Nat} {x : Str} {pos : Pos} (hN : X.N[i]? = some x) (hv : Vis X.env.scope x) (hd : (x == ("__debug__" : Str)) = false := by decide) (hcd : (x == ("__classdict__" : Str)) = false := by decide) : PE X (.Name x pos) (tVar i) := by
  intro pins s σ H Q I h
  obtain ⟨v, e, h⟩ := h
  obtain ⟨m, hn, hl⟩ := I.loc
  obtain ⟨u, r, l⟩ := hl i x v hN e hv
  have fin : EP X pins σ Q u s := ⟨v, H, I, r, h⟩
  rcases l with ⟨hk, hm⟩ | ⟨hk, c, hc, hcell⟩
  · exact wpAny_Name (wpAny_loadName_local I.ok.kind hk hn hm fin) hd
  · rcases hk with hk | hk
    · exact wpAny_Name (wpAny_loadName_cell I.ok.kind hk hc hcell fin) hd
    · exact wpAny_Name (wpAny_loadName_free I.ok.kind hk hc hcell fin hcd) hd
theorem pe_int {i j pos} : PE X (.Constant (.int i) j pos) (tC (.int i)) := fun _ _ _ H _ I h => wpAny_Constant_int ⟨.int i, H, I.tok _, ⟨_, rfl⟩, h⟩
theorem pe_bl {b j pos} : PE X (.Constant (.bool b) j pos) (tC (.bl b)) := fun _ _ _ H _ I h => Constant_bool ⟨.bl b, H, I, rfl, h⟩
theorem pe_non {j pos} : PE X (.Constant .none j pos) (tC .non) := fun _ _ _ H _ I h => Constant_none ⟨.non, H, I, rfl, h⟩
def Gl (X : Cx) (x : Str) : Prop := X.env.kindOf x = some .globalImplicit
theorem ld_glob {E : Value → Shared → Prop} {pins : List (Addr × Obj)} {s : Shared} {σ : St} {H : Hp} {x : Str} {u : Value} {pos : Pos} {Q : Value → Shared → Prop} (I : Inv X pins σ H s) (hg : Gl X x) (hm : X.mg x = some u) (h : Q u s)
    (hd : (x == ("__debug__" : Str)) = false := by decide) : wpAny (model X.prog X.w) X.A (eval (.Name x pos) X.env) Q E s :=
  Calls.Name_function_global I.ok.kind hg (Calls.loadGlobal_global (by rw [I.ok.glob]; exact I.mod.glob.keeps I.bk) hm h) hd
theorem ld_blt {E : Value → Shared → Prop} {pins : List (Addr × Obj)} {s : Shared} {σ : St} {H : Hp} {x : Str} {u : Value} {pos : Pos} {Q : Value → Shared → Prop} (I : Inv X pins σ H s) (hg : Gl X x) (hm : X.mg x = none) (hv : bootBuiltins x = some u) (h : Q u s)
    (hn : x ≠ "__name__" := by decide) (hd : (x == ("__debug__" : Str)) = false := by decide) : wpAny (model X.prog X.w) X.A (eval (.Name x pos) X.env) Q E s := by
  obtain ⟨mb, h1, h2⟩ := I.mod.blt
  exact Calls.Name_function_global I.ok.kind hg (Calls.loadGlobal_builtin (by rw [I.ok.glob]; exact I.mod.glob.keeps I.bk) hm (by rw [I.ok.blt]; exact h1.keeps I.bk) ((h2 x hn).trans hv) h) hd
theorem pe_bltn {x : Str} {v : V} {u : Value} {pos : Pos} (hg : Gl X x) (hm : X.mg x = none) (hv : bootBuiltins x = some u) (r : RelV v u) (hn : x ≠ "__name__" := by decide) (hd : (x == ("__debug__" : Str)) = false := by decide) : PE X (.Name x pos) (tC v) :=
  fun _ _ _ H _ I h => ld_blt I hg hm hv ⟨v, H, I, r, h⟩ hn hd
variable {a b : Expr} {ta tb : TE} {pos : Pos}
def tB (t : TE) : TT := fun σ H Q => t σ H fun x H1 => ∃ c, x = .bl c ∧ Q c H1
theorem pt_val {e : Expr} {t : TE} (h : PE X e t) (he : ∀ whole, isTrue e X.env whole = (do let v ← whole; standAt e.pos; holding [v] (truthy v)) := by intro _; rfl) : PT X e (tB t) := by
  intro pins s σ H Q I hw
  refine isTrue_plain (thn (h pins s σ H _ I hw) fun v s1 zq => ?_) (he _)
  obtain ⟨x, H1, I1, r1, q1⟩ := zq
  obtain ⟨d, rfl, q⟩ := q1
  cases r1
  exact wpAny_truthy_bool ⟨H1, I1, q⟩
variable {tA tB' : TT} {rest : List Expr}
def tAnd (t u : TT) : TT := fun σ H Q => t σ H fun c H1 => if c = true then u σ H1 Q else Q false H1
def tOr (t u : TT) : TT := fun σ H Q => t σ H fun c H1 => if c = true then Q true H1 else u σ H1 Q
def tNot (t : TT) : TT := fun σ H Q => t σ H fun c H1 => Q (!c) H1
theorem pw_and1 (ha : PT X a tA) : PW X (.BoolOp .And [a] pos) tA := by
  intro wh pins s σ H Q I h
  refine isTrue_and (thn (ha pins s σ H Q I h) fun c s1 e => ?_)
  cases c with
  | true => exact isTrue_and_nil e
  | false => exact e
theorem pw_or1 (ha : PT X a tA) : PW X (.BoolOp .Or [a] pos) tA := by
  intro wh pins s σ H Q I h
  refine isTrue_or (thn (ha pins s σ H Q I h) fun c s1 e => ?_)
  cases c with
  | false => exact isTrue_or_nil e
  | true => exact e
theorem pw_and (ha : PT X a tA) (hb : PW X (.BoolOp .And (b :: rest) pos) tB') : PW X (.BoolOp .And (a :: b :: rest) pos) (tAnd tA tB') := by
  intro wh pins s σ H Q I h
  refine isTrue_and (thn (ha pins s σ H _ I h) fun c s1 zq => ?_)
  obtain ⟨H1, I1, q1⟩ := zq
  cases c with
  | true => exact hb wh pins s1 σ H1 Q I1 q1
  | false => exact ⟨H1, I1, q1⟩
theorem pw_or (ha : PT X a tA) (hb : PW X (.BoolOp .Or (b :: rest) pos) tB') : PW X (.BoolOp .Or (a :: b :: rest) pos) (tOr tA tB') := by
  intro wh pins s σ H Q I h
  refine isTrue_or (thn (ha pins s σ H _ I h) fun c s1 zq => ?_)
  obtain ⟨H1, I1, q1⟩ := zq
  cases c with
  | true => exact ⟨H1, I1, q1⟩
  | false => exact hb wh pins s1 σ H1 Q I1 q1
theorem pt_not (ha : PT X a tA) : PT X (.UnaryOp .Not a pos) (tNot tA) := by
  intro pins s σ H Q I h
  exact isTrue_not (ha pins s σ H (fun c H1 => Q (!c) H1) I h)
def tAndV (ta tb : TE) : TE := fun σ H Q => ta σ H fun x H1 => ∃ c, x = .bl c ∧ if c = true then tb σ H1 Q else Q (.bl false) H1
def tOrV (ta tb : TE) : TE := fun σ H Q => ta σ H fun x H1 => ∃ c, x = .bl c ∧ if c = true then Q (.bl true) H1 else tb σ H1 Q
def tNotV (ta : TE) : TE := fun σ H Q => ta σ H fun x H1 => ∃ c, x = .bl c ∧ Q (.bl (!c)) H1
theorem pe_one {op} {t : TE} (h : PE X a t) : PE X (.BoolOp op [a] pos) t := fun pins s σ H Q I hw => BoolOp_one (h pins s σ H Q I hw)
theorem pe_and (ha : PE X a ta) (hb : PE X (.BoolOp .And (b :: rest) pos) tb) : PE X (.BoolOp .And (a :: b :: rest) pos) (tAndV ta tb) := by
  intro pins s σ H Q I h
  refine BoolOp_and (thn (ha pins s σ H _ I h) fun v s1 zq => ?_)
  obtain ⟨x, H1, I1, r1, q1⟩ := zq
  obtain ⟨c, rfl, q1⟩ := q1
  cases r1
  refine wpAny_truthy_bool ?_
  cases c with
  | true => exact hb pins s1 σ H1 Q I1 q1
  | false => exact ⟨.bl false, H1, I1, rfl, q1⟩
theorem pe_or (ha : PE X a ta) (hb : PE X (.BoolOp .Or (b :: rest) pos) tb) : PE X (.BoolOp .Or (a :: b :: rest) pos) (tOrV ta tb) := by
  intro pins s σ H Q I h
  refine BoolOp_or (thn (ha pins s σ H _ I h) fun v s1 zq => ?_)
  obtain ⟨x, H1, I1, r1, q1⟩ := zq
  obtain ⟨c, rfl, q1⟩ := q1
  cases r1
  refine wpAny_truthy_bool ?_
  cases c with
  | false => exact hb pins s1 σ H1 Q I1 q1
  | true => exact ⟨.bl true, H1, I1, rfl, q1⟩
theorem pe_not (ha : PE X a ta) : PE X (.UnaryOp .Not a pos) (tNotV ta) := by
  intro pins s σ H Q I h
  refine UnaryOp_ (thn (ha pins s σ H _ I h) fun v s1 zq => ?_)
  obtain ⟨x, H1, I1, r1, q1⟩ := zq
  obtain ⟨c, rfl, q1⟩ := q1
  cases r1
  exact not_of (wpAny_truthy_bool ⟨.bl (!c), H1, I1, rfl, q1⟩)
def tIf (t : TT) (ta tb : TE) : TE := fun σ H Q => t σ H fun c H1 => if c = true then ta σ H1 Q else tb σ H1 Q
theorem pe_ifExp {c : Expr} (hc : PT X c tA) (ha : PE X a ta) (hb : PE X b tb) : PE X (.IfExp c a b pos) (tIf tA ta tb) := by
  intro pins s σ H Q I h
  refine wpAny_IfExp (thn (hc pins s σ H _ I h) fun d s1 zq => ?_)
  obtain ⟨H1, I1, q1⟩ := zq
  cases d with
  | true => exact ha pins s1 σ H1 Q I1 q1
  | false => exact hb pins s1 σ H1 Q I1 q1
end
end L2
namespace L2
open PySem PySem.Spec PyProof.Rows
def SqL (K : PySem.W.Frag) (H : Hp) (a : Addr) (xs : List V) : Prop :=
  Rd H a (.lst xs) ∨
    ∃ (o : Obj) (its : Array Value) (n : Nat), K.lookup a = some o ∧ o.cls = .type "list" ∧ o.dict = none ∧ o.data = .seq its n ∧ its.size ≤ sizeLine ∧ Vals xs its.toList
def SqT (K : PySem.W.Frag) (H : Hp) (a : Addr) (xs : List V) : Prop :=
  Rd H a (.tup xs) ∨
    ∃ (o : Obj) (its : Array Value) (n : Nat), K.lookup a = some o ∧ o.cls = .type "tuple" ∧ o.data = .seq its n ∧ its.size ≤ sizeLine ∧ Vals xs its.toList
noncomputable def absV : Value → Option V
  | .none => some .non
  | .bool b => some (.bl b)
  | .int i _ => some (.int i)
  | .str x _ => some (.str x)
  | .bytes b _ => some (.byt b)
  | .float b _ => some (.flt b)
  | .ref a => some (.ref a)
  | .type n => some (.ty n)
  | _ => none
theorem RelV.abs {x : V} {u : Value} (r : RelV x u) : absV u = some x := by
  cases x with
  | non => cases r; rfl
  | bl _ => cases r; rfl
  | int _ => obtain ⟨t, rfl⟩ := r; rfl
  | str _ => obtain ⟨t, rfl⟩ := r; rfl
  | byt _ => obtain ⟨t, rfl⟩ := r; rfl
  | flt _ => obtain ⟨t, rfl⟩ := r; rfl
  | ref _ => cases r; rfl
  | ty _ => cases r; rfl
theorem RelV.inj {x y : V} {u : Value} (r : RelV x u) (q : RelV y u) : x = y := Option.some.inj (r.abs.symm.trans q.abs)
theorem Vals.inj : ∀ {xs ys : List V} {us : List Value}, Vals xs us → Vals ys us → xs = ys
  | _, _, _, .nil, .nil => rfl
  | _, _, _, .cons r t, .cons r' t' => by rw [r.inj r', Vals.inj t t']
section
variable {X : Cx} {pins : List (Addr × Obj)} {σ : St} {H : Hp} {s : Shared} {a : Addr} {xs ys : List V}
theorem SqL.of {K : PySem.W.Frag} (h : H a = some (.lst xs)) : SqL K H a xs := .inl (.inl h)
theorem SqT.of {K : PySem.W.Frag} (h : H a = some (.tup xs)) : SqT K H a xs := .inl (.inl h)
theorem Inv.list (I : Inv X pins σ H s) (h : SqL X.K H a xs) : ∃ its : List Value, Vals xs its ∧ PlainL s.heap a its.toArray ∧ xs.length ≤ sizeLine := by
  rcases h with h | ⟨o, its, n, hk, hc, hd, hs, hz, r⟩
  · obtain ⟨z, its, n, r, e⟩ := h.ok I.hok
    exact ⟨its, r, ⟨_, n, e, rfl, rfl, rfl⟩, z⟩
  · refine ⟨its.toList, r, ⟨o, n, I.kIn a o hk, hc, hd, by simpa using hs⟩, ?_⟩
    have e := r.length
    simp only [Array.length_toList] at e
    omega
theorem Inv.tuple (I : Inv X pins σ H s) (h : SqT X.K H a xs) : ∃ its : List Value, Vals xs its ∧ IsTup s.heap a its.toArray ∧ xs.length ≤ sizeLine := by
  rcases h with h | ⟨o, its, n, hk, hc, hs, hz, r⟩
  · obtain ⟨z, its, r, p⟩ := h.ok I.hok
    exact ⟨its, r, p, z⟩
  · refine ⟨its.toList, r, ⟨o, I.kIn a o hk, hc, n, by simpa using hs⟩, ?_⟩
    have e := r.length
    simp only [Array.length_toList] at e
    omega
theorem Inv.list_inj (I : Inv X pins σ H s) (h : SqL X.K H a xs) (h' : SqL X.K H a ys) : xs = ys := by
  obtain ⟨its, r, ⟨o, n, e, _, _, d⟩, _⟩ := I.list h
  obtain ⟨its', r', ⟨o', n', e', _, _, d'⟩, _⟩ := I.list h'
  rw [e] at e'; cases e'
  rw [d] at d'
  injection d' with d1 _
  have : its = its' := by simpa using congrArg Array.toList d1
  subst this
  exact r.inj r'
theorem Inv.tuple_inj (I : Inv X pins σ H s) (h : SqT X.K H a xs) (h' : SqT X.K H a ys) : xs = ys := by
  obtain ⟨its, r, ⟨o, e, _, n, d⟩, _⟩ := I.tuple h
  obtain ⟨its', r', ⟨o', e', _, n', d'⟩, _⟩ := I.tuple h'
  rw [e] at e'; cases e'
  rw [d] at d'
  injection d' with d1 _
  have : its = its' := by simpa using congrArg Array.toList d1
  subst this
  exact r.inj r'
end
noncomputable abbrev Cx.wish (X : Cx) (E : Value → Shared → Prop) : Cx := { X with xe := E }
noncomputable abbrev Cx.nox (X : Cx) : Cx := X.wish fun _ _ => False
theorem Cx.Ok.wish {X : Cx} (ok : X.Ok) (E : Value → Shared → Prop) : (X.wish E).Ok :=
  ⟨ok.mod, ok.kind, ok.glob, ok.blt, ok.above, ok.inj, ok.has, ok.cab, ok.hd, ok.frames, ok.stk, ok.exf, ok.bs, ok.bsz, ok.noex, ok.exfs, ok.funs, ok.frf⟩
theorem Cx.Ok.unwish {X : Cx} {E : Value → Shared → Prop} (ok : (X.wish E).Ok) : X.Ok :=
  ⟨ok.mod, ok.kind, ok.glob, ok.blt, ok.above, ok.inj, ok.has, ok.cab, ok.hd, ok.frames, ok.stk, ok.exf, ok.bs, ok.bsz, ok.noex, ok.exfs, ok.funs, ok.frf⟩
section
variable {X : Cx} {pins : List (Addr × Obj)} {σ : St} {H : Hp} {s : Shared} {E : Value → Shared → Prop}
theorem Inv.wish (I : Inv X pins σ H s) (E : Value → Shared → Prop) : Inv (X.wish E) pins σ H s := ⟨I.ok.wish E, I.os, I.bare, I.base, I.loc, I.cell, I.free, I.freeC, I.pin, I.hok, I.len⟩
theorem Inv.unwish (I : Inv (X.wish E) pins σ H s) : Inv X pins σ H s := ⟨I.ok.unwish, I.os, I.bare, I.base, I.loc, I.cell, I.free, I.freeC, I.pin, I.hok, I.len⟩
theorem SP.unwish {D : Ends} {f : Flow} {s' : Shared} (h : SP (X.wish E) pins D f s') : SP X pins D f s' := by
  cases f with
  | next => obtain ⟨σ', H', I, q⟩ := h; exact ⟨σ', H', I.unwish, q⟩
  | brk => obtain ⟨σ', H', I, q⟩ := h; exact ⟨σ', H', I.unwish, q⟩
  | cont => obtain ⟨σ', H', I, q⟩ := h; exact ⟨σ', H', I.unwish, q⟩
  | ret u => obtain ⟨v, σ', H', I, r, q⟩ := h; exact ⟨v, σ', H', I.unwish, r, q⟩
theorem PSs.nox {st : List Stmt} {t : TS} (h : PSs X.nox st t) : PSs X st t := fun pins s σ H D I hw =>
  wpAny_mono (h pins s σ H D (I.wish _) hw) (fun _ _ q => q.unwish) fun _ _ z => False.elim z
end
section
variable {X : Cx} {st : Stmt} {rest : List Stmt} {t u : TS} {e : Expr} {te : TE} {pos : Pos}
def tNext : TS := fun D σ H => D.nx σ H
def tSeq (t u : TS) : TS := fun D σ H => t { D with nx := u D } σ H
theorem pss_nil : PSs X [] tNext := fun _ _ σ H _ I h => wpAny_execs_nil ⟨σ, H, I, h⟩
theorem pss_cons (h1 : PS X st t) (h2 : PSs X rest u) : PSs X (st :: rest) (tSeq t u) := by
  intro pins s σ H D I h
  refine wpAny_execs_cons (thn (h1 pins s σ H { D with nx := u D } I h) fun f s1 q => ?_)
  cases f with
  | next =>
    obtain ⟨σ', H', I', q⟩ := q
    exact h2 pins s1 σ' H' D I' q
  | ret v => exact q
  | brk => exact q
  | cont => exact q
theorem pss_one (h1 : PS X st t) : PSs X [st] t := by
  intro pins s σ H D I h
  refine wpAny_execs_cons (thn (h1 pins s σ H D I h) fun f s1 q => ?_)
  cases f with
  | next => exact wpAny_execs_nil q
  | ret v => exact q
  | brk => exact q
  | cont => exact q
def tCont : TS := fun D σ H => D.ct σ H
theorem ps_continue : PS X (.Continue pos) tCont := fun _ _ σ H _ I h => wpAny_Continue ⟨σ, H, I, h⟩
theorem Inv.quiet {pins : List (Addr × Obj)} {σ : St} {H : Hp} {s : Shared} (I : Inv X pins σ H s) : interactive X.env = false := by simp [interactive, I.ok.kind]
def tDrop (te : TE) : TS := fun D σ H => te σ H fun _ H1 => D.nx σ H1
theorem ps_expr (he : PE X e te) (hs : swapsWith e none pos.line X.env = pure false := by rfl) : PS X (.Expr e pos) (tDrop te) := by
  intro pins s σ H D I h
  exact wpAny_Expr_any (thn (he pins s σ H _ I h) fun v s1 ⟨x, H1, I1, r1, q1⟩ => ⟨σ, H1, I1, q1⟩) I.quiet hs
def tRet (te : TE) : TS := fun D σ H => te σ H D.rt
theorem ps_ret (he : PE X e te) : PS X (.Return (some e) pos) (tRet te) := by
  intro pins s σ H D I h
  exact wpAny_Return_some (thn (he pins s σ H _ I h) fun v s1 ⟨x, H1, I1, r1, q1⟩ => ⟨x, σ, H1, I1, r1, q1⟩)
def tIfS (c : TT) (t u : TS) : TS := fun D σ H => c σ H fun b H1 => if b = true then t D σ H1 else u D σ H1
theorem ps_if {c : Expr} {a b : List Stmt} {tc : TT} (hc : PT X c tc) (ha : PSs X a t) (hb : PSs X b u) : PS X (.If c a b pos) (tIfS tc t u) := by
  intro pins s σ H D I h
  refine wpAny_If (thn (hc pins s σ H _ I h) fun d s1 zq => ?_)
  obtain ⟨H1, I1, q1⟩ := zq
  cases d with
  | true => exact ha pins s1 σ H1 D I1 q1
  | false => exact hb pins s1 σ H1 D I1 q1
def tNever : TS := fun _ _ _ => False
theorem ps_never : PS X st tNever := fun _ _ _ _ _ _ h => h.elim
end
abbrev TG := V → St → Hp → (St → Hp → Prop) → Prop
abbrev TGs := List V → St → Hp → (St → Hp → Prop) → Prop
def PG (X : Cx) (target : Expr) (t : TG) : Prop :=
  ∀ (pins : List (Addr × Obj)) (s : Shared) (σ : St) (H : Hp) (v : V) (u : Value) (Q : St → Hp → Prop), Inv X pins σ H s → RelV v u → t v σ H Q →
    wpAny (model X.prog X.w) X.A (assign target X.env u) (fun _ s' => ∃ σ' H', Inv X pins σ' H' s' ∧ Q σ' H') X.xe s
def PGs (X : Cx) (ts : List Expr) (t : TGs) : Prop :=
  ∀ (pins : List (Addr × Obj)) (s : Shared) (σ : St) (H : Hp) (vs : List V) (us : List Value) (Q : St → Hp → Prop), Inv X pins σ H s → Vals vs us → t vs σ H Q →
    wpAny (model X.prog X.w) X.A (assignInOrder ((assignEach ts X.env).map (·.2)) us) (fun _ s' => ∃ σ' H', Inv X pins σ' H' s' ∧ Q σ' H') X.xe s
abbrev TSet := V → V → V → Hp → (Hp → Prop) → Prop
def PSet (X : Cx) (t : TSet) : Prop :=
  ∀ (pins : List (Addr × Obj)) (s : Shared) (σ : St) (H : Hp) (o i v : V) (ov iv u : Value) (Q : Hp → Prop), Inv X pins σ H s → RelV o ov → RelV i iv → RelV v u → t o i v H Q →
    wpAny (model X.prog X.w) X.A (setItem ov iv u) (fun _ s' => ∃ H', Inv X pins σ H' s' ∧ Q H') X.xe s
section
variable {X : Cx} {pos : Pos}
def gName (i : Nat) : TG := fun v σ H Q => Q (σ.set i (some v)) H
theorem pg_name {i : Nat} {x : Str} (hN : X.N.Nodup) (hi : X.N[i]? = some x) (hx : Loc X.env.scope x) (hf : X.fn x = true ∨ X.env.scope.names.lookup x = some .local := by first | exact .inl rfl | exact .inr rfl | assumption) : PG X (.Name x pos) (gName i) := by
  intro pins s σ H v u Q I r h
  exact wpAny_assign_Name (store_ok I hN hi hx r (fun s' I' => ⟨_, H, I', h⟩) hf)
def gNil : TGs := fun vs σ H Q => vs = [] ∧ Q σ H
def gCons (t : TG) (u : TGs) : TGs := fun vs σ H Q => ∃ v r, vs = v :: r ∧ t v σ H fun σ' H' => u r σ' H' Q
theorem pgs_nil : PGs X [] gNil := by
  intro pins s σ H vs us Q I r h
  obtain ⟨e, h⟩ := h
  subst e
  cases r
  exact assignInOrder_nil ⟨σ, H, I, h⟩
theorem pgs_cons {e : Expr} {es : List Expr} {t : TG} {u : TGs} (h1 : PG X e t) (h2 : PGs X es u)
    (hs : (assignEach (e :: es) X.env).map (·.2) = assign e X.env :: (assignEach es X.env).map (·.2) := by rfl) : PGs X (e :: es) (gCons t u) := by
  intro pins s σ H vs us Q I r h
  obtain ⟨v, vr, e1, h⟩ := h
  subst e1
  cases r with
  | cons r rr =>
    rw [hs]
    refine assignInOrder_cons (thn (h1 pins s σ H _ _ _ I r h) fun _ s1 zq => ?_)
    obtain ⟨σ1, H1, I1, q1⟩ := zq
    exact h2 pins s1 σ1 H1 _ _ Q I1 rr q1
def gTup (K : PySem.W.Frag) (n : Nat) (t : TGs) : TG := fun v σ H Q => ∃ a xs, v = .ref a ∧ SqT K H a xs ∧ xs.length = n ∧ t xs σ H Q
theorem pg_tup {es : List Expr} {k : Nat} {t : TGs} {n : Nat} (hc : X.calm = true) (h : PGs X es t)
    (hn : (assignEach es X.env).length = n := by rfl) (hst : (assignEach es X.env).findIdx? (·.1) = none := by rfl) : PG X (.Tuple es k pos) (gTup X.K n t) := by
  intro pins s σ H v u Q I r hw
  obtain ⟨a, xs, e1, hq, hl, hw⟩ := hw
  subst e1
  cases r
  obtain ⟨its, rv, ht, hz⟩ := I.tuple hq
  refine assign_Tuple_tuple (I.ok.hd hc) ht (by simp [hn, ← hl, rv.length]) hst fun h' hx => ?_
  have I1 : Inv X pins σ H { s with heap := h' } := I.kept (t' := s.toks) fun b o e => hx b o (Nat.ne_of_lt (Heap.lt_size e)) e
  exact h pins _ σ H xs _ Q I1 (by simpa using rv) hw
def gSub (to ti : TE) (t : TSet) : TG := fun v σ H Q => to σ H fun o H1 => ti σ H1 fun i H2 => t o i v H2 fun H3 => Q σ H3
theorem pg_sub {o i : Expr} {to ti : TE} {t : TSet} (ho : PE X o to) (hi : PE X i ti) (hs : PSet X t)
    (ha : ∀ v, assign (.Subscript o i pos) X.env v = (do
      let ov ← holding [v] (eval o X.env)
      let iv ← holding [v, ov] (eval i X.env)
      standAt pos
      holding [v, ov, iv] (setItem ov iv v)
      release [v, ov, iv] []) := by intro _; rfl) : PG X (.Subscript o i pos) (gSub to ti t) := by
  intro pins s σ H v u Q I r h
  rw [ha]
  refine wpAny_bind (wpAny_holding (thn (ho pins s σ H _ I h) fun ov s1 zq => ?_))
  obtain ⟨x, H1, I1, r1, q1⟩ := zq
  refine wpAny_bind (wpAny_holding (thn (hi pins s1 σ H1 _ I1 q1) fun iv s2 zq => ?_))
  obtain ⟨y, H2, I2, r2, q2⟩ := zq
  refine wpAny_bind (wpAny_standAt (wpAny_bind (wpAny_holding (thn (hs pins s2 σ H2 x y v ov iv u _ I2 r1 r2 r q2) fun _ s3 zq => ?_))))
  obtain ⟨H3, I3, q3⟩ := zq
  exact wpAny_release ⟨σ, H3, I3, q3⟩
def tAsg (te : TE) (g : TG) : TS := fun D σ H => te σ H fun x H1 => g x σ H1 D.nx
theorem ps_asg {tg e : Expr} {te : TE} {g : TG} (he : PE X e te) (hg : PG X tg g) (hs : swapsWithSole [tg] e pos.line X.env = pure false := by rfl) (hw : swappedStores [tg] e X.env = pure none := by rfl)
    (h1 : (assignEach [tg] X.env).map (·.2) = [assign tg X.env] := by rfl) : PS X (.Assign [tg] e pos) (tAsg te g) := by
  intro pins s σ H D I h
  refine wpAny_Assign_stores (thn (he pins s σ H _ I h) fun v s1 zq => ?_) hs hw
  obtain ⟨x, H1, I1, r1, q1⟩ := zq
  rw [h1]
  exact thn (hg pins s1 σ H1 x v _ I1 r1 q1) fun _ s2 q => q
theorem ps_set {i : Nat} {x : Str} {e : Expr} {te : TE} {pos' : Pos} (hN : X.N.Nodup) (hi : X.N[i]? = some x) (hx : Loc X.env.scope x) (he : PE X e te) (hs : swapsWith e (some (.Name x pos')) pos.line X.env = pure false := by rfl) (hf : X.fn x = true ∨ X.env.scope.names.lookup x = some .local := by first | exact .inl rfl | exact .inr rfl | assumption) :
    PS X (.Assign [.Name x pos'] e pos) (tAsg te (gName i)) := by
  intro pins s σ H D I h
  refine wpAny_Assign_Name (thn (he pins s σ H _ I h) fun v s1 zq => ?_) hs
  obtain ⟨y, H1, I1, r1, q1⟩ := zq
  exact store_ok I1 hN hi hx r1 (fun s2 I2 => ⟨_, H1, I2, q1⟩) hf
end
section
variable {X : Cx} {pos : Pos}
end
structure It where
  go : Nat → Hp → Prop
  yld : Nat → Hp → V → Hp → Prop
  stop : Nat → Hp → Prop
def FpOk (X : Cx) (pins : List (Addr × Obj)) (H : Hp) (b : Addr) : Prop :=
  H b = none ∧ b ≠ X.env.locals ∧ b ∉ X.fs ∧ (b ∈ X.ex ∨ X.s₀.heap.objs.size ≤ b) ∧ (∀ x c, X.env.cells.lookup x = some c → c ≠ b) ∧ ∀ p ∈ X.pn ++ pins, p.1 ≠ b
theorem Inv.fpOk {X : Cx} {pins : List (Addr × Obj)} {σ : St} {H H' : Hp} {s : Shared} {b : Addr} (I : Inv X pins σ H s) (hb : s.heap.objs.size ≤ b) (hn : H' b = none) : FpOk X pins H' b := by
  refine ⟨hn, Nat.ne_of_gt (Nat.lt_of_lt_of_le I.lt hb), I.nofs hb, .inr (Nat.le_trans I.sz hb), fun x c e z => ?_, fun p hp z => ?_⟩
  · obtain ⟨v, q⟩ := I.cell x c e
    exact absurd (Nat.lt_of_lt_of_le q.lt (by rw [z]; exact hb)) (Nat.lt_irrefl _)
  · exact absurd (Nat.lt_of_lt_of_le (Heap.lt_size (I.pin p hp).1) (by rw [z]; exact hb)) (Nat.lt_irrefl _)
structure Turn (P : Program) (w : World) (K : PySem.W.Frag) (tg : Expr) (J : It) (fp : List Addr) (it : Addr) (tn : Nat → Heap → Prop) (cm : Cx → Prop := fun X => X.calm = true) : Prop where
  mem : it ∈ fp
  obj : ∀ i h, tn i h → ∀ b ∈ fp, ∃ o, h.get? b = some o ∧ ∀ v, o.data ≠ .cell v
  keep : ∀ i h h', tn i h → (∀ b ∈ fp, ∀ o, h.get? b = some o → h'.get? b = some o) → tn i h'
  item : ∀ (X : Cx), X.prog = P → X.w = w → X.K = K → cm X → ∀ (i : Nat) (pins : List (Addr × Obj)) (s : Shared) (σ : St) (H : Hp) (E : Value → Shared → Prop), Inv X pins σ H s → (∀ b ∈ fp, FpOk X pins H b) → tn i s.heap → J.go i H →
    wpAny (model P w) X.A (pyNext (.ref it)) (fun r s1 => ∃ u, r = some u ∧
      wpAny (model P w) X.A (letOwnedTupleGo tg (.ref it) u) (fun _ s2 => ∃ x H', Inv X pins σ H' s2 ∧ RelV x u ∧ J.yld i H x H' ∧ tn (i + 1) s2.heap ∧ ∀ b ∈ fp, H' b = none) E s1) E s
  done : ∀ (X : Cx), X.prog = P → X.w = w → X.K = K → cm X → ∀ (i : Nat) (pins : List (Addr × Obj)) (s : Shared) (σ : St) (H : Hp) (E : Value → Shared → Prop), Inv X pins σ H s → (∀ b ∈ fp, FpOk X pins H b) → tn i s.heap → J.stop i H →
    wpAny (model P w) X.A (pyNext (.ref it)) (fun r s1 => r = none ∧ Inv X pins σ H s1) E s
  self : ∀ (A : Around) (i : Nat) (s : Shared) (Q : Value → Shared → Prop) (E : Value → Shared → Prop), tn i s.heap → Q (.ref it) s → wpAny (model P w) A (pyIter (.ref it)) Q E s
abbrev TI := St → Hp → (It → Hp → Prop) → Prop
def PIE (X : Cx) (pins : List (Addr × Obj)) (σ : St) (tg : Expr) (R : It → Hp → Prop) (cm : Cx → Prop := fun X => X.calm = true) (itv : Value) (s2 : Shared) : Prop :=
  ∃ (it : Addr) (fp : List Addr) (tn : Nat → Heap → Prop) (J : It) (H' : Hp), itv = .ref it ∧ Inv X pins σ H' s2 ∧ Turn X.prog X.w X.K tg J fp it tn cm ∧ tn 0 s2.heap ∧ (∀ b ∈ fp, FpOk X pins H' b) ∧ R J H'
def PI (X : Cx) (tg iter : Expr) (wi : TI) (cm : Cx → Prop := fun X => X.calm = true) : Prop :=
  ∀ (pins : List (Addr × Obj)) (s : Shared) (σ : St) (H : Hp) (R : It → Hp → Prop), Inv X pins σ H s → wi σ H R →
    wpAny (model X.prog X.w) X.A (eval iter X.env) (fun v s1 => wpAny (model X.prog X.w) X.A (pyIter v) (PIE X pins σ tg R cm) X.xe s1) X.xe s
theorem go_of {M : Model} {A : Around} {E : Value → Shared → Prop} {s : Shared} {tg : Expr} {it : Addr} {u : Value} {o : Obj} {n : String} {vs : Array Value} {Q : Unit → Shared → Prop} (ho : s.heap.get? it = some o) (hc : o.cls = .type n) (hd : o.data = .fields vs)
    (hn : ["enumerate", "zip", "dict_itemiterator", "dict_reverseitemiterator", "odict_iterator", "itertools.zip_longest", "itertools.pairwise"].contains n = false) (hQ : Q () s) : wpAny M A (letOwnedTupleGo tg (.ref it) u) Q E s := by
  unfold letOwnedTupleGo
  cases tg <;> first
    | exact wpAny_pure hQ
    | (cases u <;> first
        | exact wpAny_pure hQ
        | (refine wpAny_bind (wpAny_load ho ?_)
           rw [hc, hd]
           show wpAny M A (if (["enumerate", "zip", "dict_itemiterator", "dict_reverseitemiterator", "odict_iterator", "itertools.zip_longest", "itertools.pairwise"].contains n && vs[0]? == some (rawInt _)) = true then _ else _) Q E s
           rw [if_neg (by intro h; rw [hn, Bool.false_and] at h; cases h)]
           exact wpAny_pure hQ))
noncomputable def Itl (K : PySem.W.Frag) (a : Addr) : It :=
  ⟨fun i H => ∃ xs x, SqL K H a xs ∧ xs[i]? = some x, fun i H x H' => H' = H ∧ ∀ xs, SqL K H a xs → xs[i]? = some x, fun i H => ∃ xs, SqL K H a xs ∧ xs.length ≤ i⟩
noncomputable def Itt (K : PySem.W.Frag) (a : Addr) : It :=
  ⟨fun i H => ∃ xs x, SqT K H a xs ∧ xs[i]? = some x, fun i H x H' => H' = H ∧ ∀ xs, SqT K H a xs → xs[i]? = some x, fun i H => ∃ xs, SqT K H a xs ∧ xs.length ≤ i⟩
noncomputable def Itr (lo : Int) (n : Nat) : It := ⟨fun i _ => i < n, fun i H x H' => H' = H ∧ x = .int (lo + i), fun i _ => n ≤ i⟩
theorem turn_list {P : Program} {w : World} {K : PySem.W.Frag} {tg : Expr} (a it : Addr) : Turn P w K tg (Itl K a) [it] it (fun i h => h.IsListIter it a i) where
  mem := by simp
  obj := fun i h st b hb => by
    have e : b = it := by simpa using hb
    subst e
    obtain ⟨o, e, c, d⟩ := st
    exact ⟨o, e, fun v z => by rw [d] at z; cases z⟩
  keep := fun i h h' st k => st.at fun o e => k it (by simp) o e
  item := by
    intro X hP hw hK hc i pins s σ H E I hf st hg
    subst hP hw hK
    obtain ⟨xs, x, hq, hx⟩ := hg
    obtain ⟨its, rv, p, hz⟩ := I.list hq
    obtain ⟨u, hu, ru⟩ := rv.get hx
    obtain ⟨f0, f1, f2, f3, f4, f5⟩ := hf it (by simp)
    refine wpAny_pyNext_list_item st p.isList (x := u) (by simpa using hu) fun h' st' sb => ?_
    have I1 : Inv X pins σ H { s with heap := h' } := I.turned (t' := s.toks) (fun b o hb e => (sb.2 b hb).trans e) f0 f1 f3 f4 f5
    obtain ⟨o, e, c, d⟩ := id st'
    exact ⟨u, rfl, go_of (s := { s with heap := h' }) e c d (by decide) ⟨x, H, I1, ru, ⟨rfl, fun ys hy => by rw [I.list_inj hy hq]; exact hx⟩, st', fun b hb => (hf b hb).1⟩⟩
  done := by
    intro X hP hw hK hc i pins s σ H E I hf st hg
    subst hP hw hK
    obtain ⟨xs, hq, hx⟩ := hg
    obtain ⟨its, rv, p, hz⟩ := I.list hq
    obtain ⟨f0, f1, f2, f3, f4, f5⟩ := hf it (by simp)
    have hl := rv.length
    exact wpAny_pyNext_list_end (I.ok.hd hc) st p.isList (by simp; omega) fun h' eb => ⟨rfl, I.turned (t' := s.toks) (fun b o hb e => eb b o hb e) f0 f1 f3 f4 f5⟩
  self := fun _ _ _ _ _ st h => wpAny_pyIter_listiter st h
theorem turn_tuple {P : Program} {w : World} {K : PySem.W.Frag} {tg : Expr} (a it : Addr) : Turn P w K tg (Itt K a) [it] it (fun i h => h.IsTupleIter it a i) where
  mem := by simp
  obj := fun i h st b hb => by
    have e : b = it := by simpa using hb
    subst e
    obtain ⟨o, e, c, d⟩ := st
    exact ⟨o, e, fun v z => by rw [d] at z; cases z⟩
  keep := fun i h h' st k => st.at fun o e => k it (by simp) o e
  item := by
    intro X hP hw hK hc i pins s σ H E I hf st hg
    subst hP hw hK
    obtain ⟨xs, x, hq, hx⟩ := hg
    obtain ⟨its, rv, p, hz⟩ := I.tuple hq
    obtain ⟨u, hu, ru⟩ := rv.get hx
    obtain ⟨f0, f1, f2, f3, f4, f5⟩ := hf it (by simp)
    refine wpAny_pyNext_tuple_item st (show s.heap.IsTuple a its.toArray from p) (x := u) (by simpa using hu) fun h' st' sb => ?_
    have I1 : Inv X pins σ H { s with heap := h' } := I.turned (t' := s.toks) (fun b o hb e => (sb.2 b hb).trans e) f0 f1 f3 f4 f5
    obtain ⟨o, e, c, d⟩ := id st'
    exact ⟨u, rfl, go_of (s := { s with heap := h' }) e c d (by decide) ⟨x, H, I1, ru, ⟨rfl, fun ys hy => by rw [I.tuple_inj hy hq]; exact hx⟩, st', fun b hb => (hf b hb).1⟩⟩
  done := by
    intro X hP hw hK hc i pins s σ H E I hf st hg
    subst hP hw hK
    obtain ⟨xs, hq, hx⟩ := hg
    obtain ⟨its, rv, p, hz⟩ := I.tuple hq
    obtain ⟨f0, f1, f2, f3, f4, f5⟩ := hf it (by simp)
    have hl := rv.length
    exact wpAny_pyNext_tuple_end (I.ok.hd hc) st (show s.heap.IsTuple a its.toArray from p) (by simp; omega) fun h' eb => ⟨rfl, I.turned (t' := s.toks) (fun b o hb e => eb b o hb e) f0 f1 f3 f4 f5⟩
  self := fun _ _ _ _ _ st h => wpAny_pyIter_tupleiter st h
theorem turn_range {P : Program} {w : World} {K : PySem.W.Frag} {tg : Expr} (it : Addr) (lo : Int) (n : Nat) : Turn P w K tg (Itr lo n) [it] it (fun i h => IsRangeIter h it (lo + (i : Nat) * 1) ((n : Int) - (i : Nat)) 1) where
  mem := by simp
  obj := fun i h st b hb => by
    have e : b = it := by simpa using hb
    subst e
    exact ⟨_, st, fun v z => by
      have z' : Data.fields _ = Data.cell v := z
      cases z'⟩
  keep := fun i h h' st k => k it (by simp) _ st
  item := by
    intro X hP hw hK hc i pins s σ H E I hf st hg
    subst hP hw hK
    obtain ⟨f0, f1, f2, f3, f4, f5⟩ := hf it (by simp)
    have W := Walks.range (prog := X.prog) (w := X.w) (I.ok.hd hc) it lo 1 n
    refine W.item i s _ _ hg st fun v h' tk hv st' kk => ?_
    obtain ⟨t, rfl⟩ := hv
    have I1 : Inv X pins σ H { s with heap := h', toks := tk } := I.turned (fun b o hb e => kk b o (by simpa using hb) e) f0 f1 f3 f4 f5
    refine ⟨_, rfl, go_of (s := { s with heap := h', toks := tk }) (n := "range_iterator") st' rfl rfl (by decide) ⟨.int (lo + i), H, I1, ⟨t, ?_⟩, ⟨rfl, rfl⟩, st', fun b hb => (hf b hb).1⟩⟩
    rw [Int.mul_one]
  done := by
    intro X hP hw hK hc i pins s σ H E I hf st hg
    subst hP hw hK
    obtain ⟨f0, f1, f2, f3, f4, f5⟩ := hf it (by simp)
    exact wpAny_pyNext_range_end (I.ok.hd hc) st (by have : n ≤ i := hg; omega) fun h' eb => ⟨rfl, I.turned (t' := s.toks) (fun b o hb e => eb b o hb e) f0 f1 f3 f4 f5⟩
  self := fun _ _ _ _ _ st h => wpAny_pyIter_rangeiter st h
end L2
namespace L2
open PySem PySem.Spec PyProof.Rows
section
variable {X : Cx} {tg : Expr}
def iList (K : PySem.W.Frag) (tl : TE) : TI := fun σ H R => tl σ H fun x H1 => ∃ a, x = .ref a ∧ (∃ xs, SqL K H1 a xs) ∧ R (Itl K a) H1
def iTup (K : PySem.W.Frag) (tl : TE) : TI := fun σ H R => tl σ H fun x H1 => ∃ a, x = .ref a ∧ (∃ xs, SqT K H1 a xs) ∧ R (Itt K a) H1
theorem pi_list {l : Expr} {tl : TE} (hl : PE X l tl) : PI X tg l (iList X.K tl) := by
  intro pins s σ H R I h
  refine thn (hl pins s σ H _ I h) fun v s1 zq => ?_
  obtain ⟨x, H1, I1, r1, q1⟩ := zq
  obtain ⟨a, e, ⟨xs, hq⟩, q⟩ := q1
  subst e
  cases r1
  obtain ⟨its, rv, p, hz⟩ := I1.list hq
  refine wpAny_pyIter_list p.isList ?_
  refine ⟨s1.heap.objs.size, [s1.heap.objs.size], _, _, H1, rfl, I1.kept (t' := s1.toks) fun b o e => Heap.get?_push_of_some _ e, turn_list a _, ⟨_, Heap.get?_push_size _ rfl, rfl, rfl⟩, fun b hb => ?_, q⟩
  have e : b = s1.heap.objs.size := by simpa using hb
  subst e
  exact I1.fpOk (Nat.le_refl _) (I1.hok.fresh (Nat.le_refl _))
theorem pi_tup {l : Expr} {tl : TE} (hl : PE X l tl) : PI X tg l (iTup X.K tl) := by
  intro pins s σ H R I h
  refine thn (hl pins s σ H _ I h) fun v s1 zq => ?_
  obtain ⟨x, H1, I1, r1, q1⟩ := zq
  obtain ⟨a, e, ⟨xs, hq⟩, q⟩ := q1
  subst e
  cases r1
  obtain ⟨its, rv, p, hz⟩ := I1.tuple hq
  refine wpAny_pyIter_tuple (show s1.heap.IsTuple a its.toArray from p) ?_
  refine ⟨s1.heap.objs.size, [s1.heap.objs.size], _, _, H1, rfl, I1.kept (t' := s1.toks) fun b o e => Heap.get?_push_of_some _ e, turn_tuple a _, ⟨_, Heap.get?_push_size _ rfl, rfl, rfl⟩, fun b hb => ?_, q⟩
  have e : b = s1.heap.objs.size := by simpa using hb
  subst e
  exact I1.fpOk (Nat.le_refl _) (I1.hok.fresh (Nat.le_refl _))
theorem range_it {pins : List (Addr × Obj)} {σ : St} {H : Hp} {s : Shared} {R : It → Hp → Prop} {E : Value → Shared → Prop} {lo hi : Int} {t u v : Tok} {tk : Nat} (I : Inv X pins σ H s) (h1 : -(2 ^ 62) ≤ lo) (h2 : lo < 2 ^ 62) (h3 : -(2 ^ 62) ≤ hi) (h4 : hi < 2 ^ 62)
    (q : R (Itr lo (hi - lo).toNat) H) : wpAny (model X.prog X.w) X.A (pyIter (.ref s.heap.objs.size)) (PIE X pins σ tg R) E { s with heap := s.heap.push { cls := .type "range", data := .fields #[.int lo t, .int hi u, .int 1 v] }, toks := tk } := by
  refine wpAny_pyIter_range (IsRange.new ..) (small_one h1 h2 h3 h4) ?_
  have I1 : Inv X pins σ H { s with heap := s.heap.push { cls := .type "range", data := .fields #[.int lo t, .int hi u, .int 1 v] }, toks := tk } := I.kept fun b o e => Heap.get?_push_of_some _ e
  refine ⟨(s.heap.push { cls := .type "range", data := .fields #[.int lo t, .int hi u, .int 1 v] }).objs.size, [(s.heap.push { cls := .type "range", data := .fields #[.int lo t, .int hi u, .int 1 v] }).objs.size], _, _, H, rfl,
    I1.kept (t' := tk) fun b o e => Heap.get?_push_of_some _ e, turn_range _ lo (hi - lo).toNat, ?_, fun b hb => ?_, q⟩
  · have e1 : lo + ((0 : Nat) : Int) * 1 = lo := by simp
    have e2 : (((hi - lo).toNat : Nat) : Int) - ((0 : Nat) : Int) = Builtin.Range.rangeSize lo hi 1 := by rw [rangeSize_one]; split <;> omega
    show IsRangeIter _ _ (lo + ((0 : Nat) : Int) * 1) ((((hi - lo).toNat : Nat) : Int) - ((0 : Nat) : Int)) 1
    rw [e1, e2]
    exact Heap.get?_push_size _ rfl
  · have e : b = (s.heap.push { cls := .type "range", data := .fields #[.int lo t, .int hi u, .int 1 v] }).objs.size := by simpa using hb
    subst e
    exact I1.fpOk (Nat.le_refl _) (I1.hok.fresh (Nat.le_refl _))
def iRng1 (ta : TA) : TI := fun σ H R => ta σ H fun vs H1 => ∃ j : Int, vs = [.int j] ∧ -(2 ^ 62) ≤ j ∧ j < 2 ^ 62 ∧ R (Itr 0 j.toNat) H1
theorem pi_range1 {a : Expr} {ta : TA} {p pos : Pos} (hg : Gl X "range") (hm : X.mg "range" = none) (ha : PA X [a] ta) (hs : starEach [a] X.env = [(false, eval a X.env)] := by rfl) : PI X tg (.Call (.Name "range" p) [a] [] pos) (iRng1 ta) := by
  intro pins s σ H R I h
  refine Call_ (ld_blt I hg hm boot_range (PyProof.Rows.callWith_type1 (thn (ha pos pins s σ H _ I h) fun us s1 zq => ?_) hs rfl))
  obtain ⟨vs, H1, I1, r1, q1⟩ := zq
  obtain ⟨j, e, q1, q2, q⟩ := q1
  subst e
  cases r1 with
  | cons r rr =>
    cases rr
    obtain ⟨t, rfl⟩ := r
    exact call_range_1 (range_it I1 (by omega) (by omega) q1 q2 (by simpa using q))
def tFor (wi : TI) (g : TG) (tb : TS) : TS := fun D σ H => wi σ H fun J H1 => ∃ W : Nat → Nat → St → Hp → Prop, (∃ m, W 0 m σ H1) ∧ ∀ i m σ H, W i m σ H →
  (J.stop i H ∧ D.nx σ H) ∨ (J.go i H ∧ ∃ N : St → Hp → Prop, (∀ σ' H', N σ' H' → ∃ m', m' < m ∧ W (i + 1) m' σ' H') ∧ ∀ x H', J.yld i H x H' → g x σ H' fun σ2 H2 => tb { D with nx := N, ct := N, bk := D.nx } σ2 H2)
noncomputable def pinsAt (fp : List Addr) (h : Heap) : List (Addr × Obj) := fp.filterMap fun b => (h.get? b).map fun o => (b, o)
theorem mem_pinsAt {fp : List Addr} {h : Heap} {b : Addr} {o : Obj} (hb : b ∈ fp) (e : h.get? b = some o) : (b, o) ∈ pinsAt fp h := List.mem_filterMap.mpr ⟨b, hb, by rw [e]; rfl⟩
theorem of_pinsAt {fp : List Addr} {h : Heap} {p : Addr × Obj} (hp : p ∈ pinsAt fp h) : p.1 ∈ fp ∧ h.get? p.1 = some p.2 := by
  obtain ⟨b, hb, e⟩ := List.mem_filterMap.mp hp
  cases q : h.get? b with
  | none => rw [q] at e; cases e
  | some o =>
    rw [q] at e
    have e' : (b, o) = p := Option.some.inj e
    subst e'
    exact ⟨hb, q⟩
theorem Inv.pinned {pins : List (Addr × Obj)} {σ : St} {H : Hp} {s : Shared} {fp : List Addr} (I : Inv X pins σ H s) (hf : ∀ b ∈ fp, FpOk X pins H b) (ho : ∀ b ∈ fp, ∃ o, s.heap.get? b = some o ∧ ∀ v, o.data ≠ .cell v) : Inv X (pins ++ pinsAt fp s.heap) σ H s :=
  I.pins_of fun p hp => (List.mem_append.mp hp).elim (fun z => I.pin p (List.mem_append_right _ z)) fun z => by
    obtain ⟨hb, e⟩ := of_pinsAt z
    obtain ⟨f0, f1, f2, _⟩ := hf p.1 hb
    obtain ⟨o, e', d⟩ := ho p.1 hb
    rw [e] at e'; cases e'
    exact ⟨e, f0, f1, f2, d⟩
theorem Inv.unpinned {pins pl : List (Addr × Obj)} {σ : St} {H : Hp} {s : Shared} (I : Inv X (pins ++ pl) σ H s) : Inv X pins σ H s := I.pins_of fun p hp => I.pin p (List.mem_append_right _ (List.mem_append_left _ hp))
theorem ps_for {iter : Expr} {body : List Stmt} {wi : TI} {g : TG} {tb : TS} {pos : Pos} (hp : PassesOwn (model X.prog X.w) X.A X.env X.xe) (hc : X.calm = true) (hi : PI X tg iter wi) (hg : PG X tg g) (hb : PSs X body tb)
    (hs : ∀ x, foldedSetIterable iter X.env x = pure x := by intro _; rfl) : PS X (.For tg iter body [] pos) (tFor wi g tb) := by
  intro pins s σ H D I h
  refine wpAny_For (thn (hi pins s σ H _ I h) fun v s1 h1 => thn h1 fun itv s2 h2 => ?_) hs
  obtain ⟨it, fp, tn, J, H2, e, I2, T, st2, f2, W, ⟨m0, w0⟩, turn⟩ := h2
  subst e
  -- what stays true of the iterator's objects through the loop
  have stat : ∀ {H' : Hp}, (∀ b ∈ fp, H' b = none) → ∀ b ∈ fp, FpOk X pins H' b := fun hn b hb => ⟨hn b hb, (f2 b hb).2⟩
  refine codeAny_forLoop_any (fun n s' => ∃ i σ' H', Inv X pins σ' H' s' ∧ tn i s'.heap ∧ (∀ b ∈ fp, H' b = none) ∧ W i n σ' H') ?_ m0 ⟨0, σ, H2, I2, st2, fun b hb => (f2 b hb).1, w0⟩
  rintro n s3 ⟨i, σ3, H3, I3, st3, fr3, w3⟩
  rcases turn i n σ3 H3 w3 with ⟨stop, qn⟩ | ⟨go, N, hN, step⟩
  · refine wpAny_passesOwn hp (thn (T.done X rfl rfl rfl hc i pins s3 σ3 H3 X.xe I3 (stat fr3) st3 stop) fun r s4 zq => ?_)
    obtain ⟨hr, I4⟩ := zq
    subst hr
    exact wpAny_execs_nil ⟨σ3, H3, I4, qn⟩
  · refine wpAny_passesOwn hp (thn (T.item X rfl rfl rfl hc i pins s3 σ3 H3 X.xe I3 (stat fr3) st3 go) fun r s4 zq => ?_)
    obtain ⟨u, hr, h4⟩ := zq
    subst hr
    refine wpAny_passesOwn hp (thn h4 fun _ s5 zq => ?_)
    obtain ⟨x, H5, I5, r5, y5, st5, fr5⟩ := zq
    have I5' := I5.pinned (stat fr5) (T.obj _ _ st5)
    refine wpAny_passesOwn hp (thn (hg _ s5 σ3 H5 x u _ I5' r5 (step x H5 y5)) fun _ s6 zq => ?_)
    obtain ⟨σ6, H6, I6, q6⟩ := zq
    refine wpAny_passesOwn hp (thn (hb _ s6 σ6 H6 _ I6 q6) fun f s7 q7 => ?_)
    have again : ∀ {σ7 : St} {H7 : Hp}, Inv X (pins ++ pinsAt fp s5.heap) σ7 H7 s7 → N σ7 H7 → ∃ m, m < n ∧ ∃ i σ' H', Inv X pins σ' H' s7 ∧ tn i s7.heap ∧ (∀ b ∈ fp, H' b = none) ∧ W i m σ' H' := fun {σ7 H7} I7 n7 => by
      obtain ⟨m', hm, w7⟩ := hN σ7 H7 n7
      refine ⟨m', hm, i + 1, σ7, H7, I7.unpinned, T.keep _ _ _ st5 fun b hb o e => (I7.pin (b, o) (List.mem_append_right _ (List.mem_append_right _ (mem_pinsAt hb e)))).1, fun b hb => ?_, w7⟩
      obtain ⟨o, e, d⟩ := T.obj _ _ st5 b hb
      exact (I7.pin (b, o) (List.mem_append_right _ (List.mem_append_right _ (mem_pinsAt hb e)))).2.1
    cases f with
    | next => obtain ⟨σ7, H7, I7, n7⟩ := q7; exact again I7 n7
    | cont => obtain ⟨σ7, H7, I7, n7⟩ := q7; exact again I7 n7
    | brk => obtain ⟨σ7, H7, I7, q7⟩ := q7; exact ⟨σ7, H7, I7.unpinned, q7⟩
    | ret v => obtain ⟨x7, σ7, H7, I7, r7, q7⟩ := q7; exact ⟨x7, σ7, H7, I7.unpinned, r7, q7⟩
end
end L2
namespace L2
open PySem PySem.Spec PyProof.Rows
abbrev R2 := V → V → Hp → VK → Prop
def OpR (X : Cx) (f : Value → Value → Sem Value) (r : R2) : Prop :=
  ∀ (pins : List (Addr × Obj)) (s : Shared) (σ : St) (H : Hp) (x y : V) (v u : Value) (Q : VK), Inv X pins σ H s → RelV x v → RelV y u → r x y H Q →
    wpAny (model X.prog X.w) X.A (f v u) (EP X pins σ Q) X.xe s
def UnR (X : Cx) (f : Value → Sem Value) (r : V → Hp → VK → Prop) : Prop :=
  ∀ (pins : List (Addr × Obj)) (s : Shared) (σ : St) (H : Hp) (x : V) (v : Value) (Q : VK), Inv X pins σ H s → RelV x v → r x H Q →
    wpAny (model X.prog X.w) X.A (f v) (EP X pins σ Q) X.xe s
def CallR (X : Cx) (f : Value) (r : List V → Hp → VK → Prop) : Prop :=
  ∀ (pins : List (Addr × Obj)) (s : Shared) (σ : St) (H : Hp) (xs : List V) (us : List Value) (Q : VK), Inv X pins σ H s → Vals xs us → r xs H Q →
    wpAny (model X.prog X.w) X.A (call f us) (EP X pins σ Q) X.xe s
def TruR (X : Cx) (r : V → Hp → (Bool → Hp → Prop) → Prop) : Prop :=
  ∀ (pins : List (Addr × Obj)) (s : Shared) (σ : St) (H : Hp) (x : V) (v : Value) (Q : Bool → Hp → Prop), Inv X pins σ H s → RelV x v → r x H Q →
    wpAny (model X.prog X.w) X.A (truthy v) (TP X pins σ Q) X.xe s
def tOp (r : R2) (ta tb : TE) : TE := fun σ H Q => ta σ H fun x H1 => tb σ H1 fun y H2 => r x y H2 Q
def tUn (r : V → Hp → VK → Prop) (ta : TE) : TE := fun σ H Q => ta σ H fun x H1 => r x H1 Q
noncomputable def rI (C : Int → Int → Prop) (g : Int → Int → V) : R2 := fun x y H Q => ∃ i j, x = .int i ∧ y = .int j ∧ C i j ∧ Q (g i j) H
noncomputable def rI0 (g : Int → Int → V) : R2 := fun x y H Q => ∃ i j, x = .int i ∧ y = .int j ∧ Q (g i j) H
def rU (g : Int → V) : V → Hp → VK → Prop := fun x H Q => ∃ i, x = .int i ∧ Q (g i) H
section
variable {X : Cx} {a b c : Expr} {ta tb tc : TE} {pos : Pos}
theorem binT (ha : PE X a ta) (hb : PE X b tb) {pins : List (Addr × Obj)} {s : Shared} {σ : St} {H : Hp} {R : V → V → Hp → Prop} (I : Inv X pins σ H s)
    (h : ta σ H fun x H1 => tb σ H1 fun y H2 => R x y H2) {Q : Value → Shared → Prop} {f : Value → Value → Sem Value}
    (hf : ∀ v u s2 x y H2, Inv X pins σ H2 s2 → RelV x v → RelV y u → R x y H2 → wpAny (model X.prog X.w) X.A (f v u) Q X.xe s2) :
    wpAny (model X.prog X.w) X.A (eval a X.env) (fun v s₁ => wpAny (model X.prog X.w) X.A (eval b X.env) (fun u s₂ => wpAny (model X.prog X.w) X.A (f v u) Q X.xe s₂) X.xe s₁) X.xe s := by
  refine thn (ha pins s σ H _ I h) fun v s1 zq => ?_
  obtain ⟨x, H1, I1, r1, q1⟩ := zq
  refine thn (hb pins s1 σ H1 _ I1 q1) fun u s2 zq => ?_
  obtain ⟨y, H2, I2, r2, q2⟩ := zq
  exact hf v u s2 x y H2 I2 r1 r2 q2
theorem pe_op {op : Operator} {r : R2} (ho : OpR X (binaryOp op) r) (ha : PE X a ta) (hb : PE X b tb) : PE X (.BinOp a op b pos) (tOp r ta tb) := by
  intro pins s σ H Q I h
  exact wpAny_BinOp (binT ha hb I h fun v u s2 x y H2 I2 rx ry q => ho pins s2 σ H2 x y v u Q I2 rx ry q)
theorem pe_un {op : UnaryOp} {r : V → Hp → VK → Prop} (ho : UnR X (unaryOp op) r) (ha : PE X a ta) : PE X (.UnaryOp op a pos) (tUn r ta) := by
  intro pins s σ H Q I h
  exact UnaryOp_ (thn (ha pins s σ H _ I h) fun v s1 ⟨x, H1, I1, r1, q1⟩ => ho pins s1 σ H1 x v Q I1 r1 q1)
theorem opI {f : Value → Value → Sem Value} {C : Int → Int → Prop} {g : Int → Int → Int}
    (rule : ∀ (i j : Int) (t u : Tok) (s : Shared) (Q : Value → Shared → Prop) (E : Value → Shared → Prop), C i j → Q (.int (g i j) s.toks) { s with toks := s.toks + 1 } → wpAny (model X.prog X.w) X.A (f (.int i t) (.int j u)) Q E s) :
    OpR X f (rI C fun i j => .int (g i j)) := by
  intro pins s σ H x y v u Q I rx ry h
  obtain ⟨i, j, rfl, rfl, hc, q⟩ := h
  obtain ⟨t, rfl⟩ := rx
  obtain ⟨t', rfl⟩ := ry
  exact rule i j t t' s _ _ hc ⟨.int (g i j), H, I.tok _, ⟨_, rfl⟩, q⟩
theorem opI0 {f : Value → Value → Sem Value} {g : Int → Int → Int}
    (rule : ∀ (i j : Int) (t u : Tok) (s : Shared) (Q : Value → Shared → Prop) (E : Value → Shared → Prop), Q (.int (g i j) s.toks) { s with toks := s.toks + 1 } → wpAny (model X.prog X.w) X.A (f (.int i t) (.int j u)) Q E s) :
    OpR X f (rI0 fun i j => .int (g i j)) := by
  intro pins s σ H x y v u Q I rx ry h
  obtain ⟨i, j, rfl, rfl, q⟩ := h
  obtain ⟨t, rfl⟩ := rx
  obtain ⟨t', rfl⟩ := ry
  exact rule i j t t' s _ _ ⟨.int (g i j), H, I.tok _, ⟨_, rfl⟩, q⟩
theorem opB0 {f : Value → Value → Sem Value} {g : Int → Int → Bool}
    (rule : ∀ (i j : Int) (t u : Tok) (s : Shared) (Q : Value → Shared → Prop) (E : Value → Shared → Prop), Q (.bool (g i j)) s → wpAny (model X.prog X.w) X.A (f (.int i t) (.int j u)) Q E s) :
    OpR X f (rI0 fun i j => .bl (g i j)) := by
  intro pins s σ H x y v u Q I rx ry h
  obtain ⟨i, j, rfl, rfl, q⟩ := h
  obtain ⟨t, rfl⟩ := rx
  obtain ⟨t', rfl⟩ := ry
  exact rule i j t t' s _ _ ⟨.bl (g i j), H, I, rfl, q⟩
def CMul (i j : Int) : Prop := (-(2 ^ 64) < i ∧ i < 2 ^ 64) ∨ (-(2 ^ 64) < j ∧ j < 2 ^ 64)
theorem CMul.ok {i j : Int} (h : CMul i j) : IntMulOk i j := by
  rcases h with ⟨h1, h2⟩ | ⟨h1, h2⟩
  · exact .of_left (intBits_le_64 h1 h2)
  · exact .of_right (intBits_le_64 h1 h2)
theorem op_add : OpR X (binaryOp .Add) (rI0 fun i j => .int (i + j)) := opI0 fun _ _ _ _ _ _ _ q => add_int q
theorem op_sub : OpR X (binaryOp .Sub) (rI0 fun i j => .int (i - j)) := opI0 fun _ _ _ _ _ _ _ q => sub_int q
theorem op_mod : OpR X (binaryOp .Mod) (rI (fun _ j => 0 < j) fun i j => .int (i % j)) := opI fun i j _ _ _ _ _ hc q => by
  have h1 : (0 : Int) < j := hc
  exact mod_int' (by omega) (by rw [Int.fmod_eq_emod_of_nonneg i (by omega)]; exact q)
theorem unI {f : Value → Sem Value} {g : Int → Int}
    (rule : ∀ (i : Int) (t : Tok) (s : Shared) (Q : Value → Shared → Prop) (E : Value → Shared → Prop), Q (.int (g i) s.toks) { s with toks := s.toks + 1 } → wpAny (model X.prog X.w) X.A (f (.int i t)) Q E s) :
    UnR X f (rU fun i => .int (g i)) := by
  intro pins s σ H x v Q I rx h
  obtain ⟨i, rfl, q⟩ := h
  obtain ⟨t, rfl⟩ := rx
  exact rule i t s _ _ ⟨.int (g i), H, I.tok _, ⟨_, rfl⟩, q⟩
theorem un_neg : UnR X (unaryOp .USub) (rU fun i => .int (-i)) := unI fun _ _ _ _ _ q => neg_int q
end
section
variable {X : Cx} {a b c : Expr} {ta tb tc : TE} {pos : Pos}
theorem fin_bl {pins : List (Addr × Obj)} {σ : St} {H : Hp} {s : Shared} {Q : VK} {k k' : Bool} (I : Inv X pins σ H s) (q : Q (.bl k) H) (e : k = k') : EP X pins σ Q (.bool k') s := by
  subst e
  exact ⟨.bl k, H, I, rfl, q⟩
theorem op_lt : OpR X (compareOp .Lt) (rI0 fun i j => .bl (decide (i < j))) := opB0 fun _ _ _ _ _ _ _ q => lt_int q
theorem op_le : OpR X (compareOp .LtE) (rI0 fun i j => .bl (decide (i ≤ j))) := opB0 fun _ _ _ _ _ _ _ q => le_int q
theorem op_gt : OpR X (compareOp .Gt) (rI0 fun i j => .bl (decide (j < i))) := opB0 fun _ _ _ _ _ _ _ q => gt_int q
theorem op_ge : OpR X (compareOp .GtE) (rI0 fun i j => .bl (decide (j ≤ i))) := opB0 fun _ _ _ _ _ _ _ q => ge_int q
theorem op_isN : OpR X (compareOp .Is) (fun x y H Q => y = .non ∧ Q (.bl (decide (x = .non))) H) := by
  intro pins s σ H x y v u Q I rx ry h
  obtain ⟨rfl, q⟩ := h
  cases ry
  refine is_none_gen (fin_bl I q ?_)
  cases x <;> first
    | (cases rx; rfl)
    | (obtain ⟨t, rfl⟩ := rx; rfl)
theorem op_notN : OpR X (compareOp .IsNot) (fun x y H Q => y = .non ∧ Q (.bl (!decide (x = .non))) H) := by
  intro pins s σ H x y v u Q I rx ry h
  obtain ⟨rfl, q⟩ := h
  cases ry
  refine isnot_none_gen (fin_bl I q ?_)
  cases x <;> first
    | (cases rx; rfl)
    | (obtain ⟨t, rfl⟩ := rx; rfl)
theorem OpR.or {f : Value → Value → Sem Value} {r r' : R2} (h : OpR X f r) (h' : OpR X f r') : OpR X f (fun x y H Q => r x y H Q ∨ r' x y H Q) := by
  intro pins s σ H x y v u Q I rx ry q
  rcases q with q | q
  · exact h pins s σ H x y v u Q I rx ry q
  · exact h' pins s σ H x y v u Q I rx ry q
theorem nomark (b : Expr) {op : CmpOp} (h : op ≠ .In := by decide) (h2 : op ≠ .NotIn := by decide) : behindInMarks op b = false := by
  have e1 : (op == CmpOp.In) = false := by cases op <;> first | rfl | exact absurd rfl h
  have e2 : (op == CmpOp.NotIn) = false := by cases op <;> first | rfl | exact absurd rfl h2
  cases b <;> simp [behindInMarks, e1, e2]
theorem pe_cmpR {op : CmpOp} {r : R2} (ho : OpR X (compareOp op) r) (ha : PE X a ta) (hb : PE X b tb) (hm : behindInMarks op b = false) : PE X (.Compare a [op] [b] pos) (tOp r ta tb) := by
  intro pins s σ H Q I h
  exact wpAny_Compare1 (binT ha hb I h fun v u s2 x y H2 I2 rx ry q => ho pins s2 σ H2 x y v u Q I2 rx ry q) hm
def tTest (t : TE) : TT := fun σ H Q => t σ H fun x H' => ∃ k, x = .bl k ∧ Q k H'
theorem pt_cmpR {op : CmpOp} {r : R2} (ho : OpR X (compareOp op) r) (ha : PE X a ta) (hb : PE X b tb) (hm : behindInMarks op b = false) : PT X (.Compare a [op] [b] pos) (tTest (tOp r ta tb)) := by
  intro pins s σ H Q I h
  refine wpAny_isTrue_Compare1 (thn (ha pins s σ H _ I h) fun v s1 ⟨x, H1, I1, r1, q1⟩ => thn (hb pins s1 σ H1 _ I1 q1) fun u s2 ⟨y, H2, I2, r2, q2⟩ =>
    thn (ho pins s2 σ H2 x y v u _ I2 r1 r2 q2) fun c s3 ⟨z, H3, I3, r3, k, e, q3⟩ => ?_) hm
  subst e
  cases r3
  exact wpAny_truthy_bool ⟨H3, I3, q3⟩
def TruV (K : PySem.W.Frag) (x : V) (H : Hp) (k : Bool) : Prop :=
  match x with
  | .non => k = false
  | .bl b => k = b
  | .int i => k = (i != 0)
  | .str y => y.length ≤ sizeLine ∧ k = ((y.length : Int) != 0)
  | .byt y => y.size ≤ sizeLine ∧ k = ((y.size : Int) != 0)
  | .ref p => (∃ xs, SqL K H p xs ∧ k = !xs.isEmpty) ∨ (∃ xs, SqT K H p xs ∧ k = !xs.isEmpty) ∨ ∃ kvs, H p = some (.dK kvs) ∧ k = !kvs.isEmpty
  | _ => False
theorem isEmpty_kv {κ : Type} {kvs : List (κ × V)} {vs : List (κ × Value)} (r : KV kvs vs) : (!vs.isEmpty) = !kvs.isEmpty := by
  cases r <;> rfl
theorem isEmpty_of {xs : List V} {its : List Value} (r : Vals xs its) : (!its.toArray.isEmpty) = !xs.isEmpty := by
  cases r <;> simp
theorem line63 : (sizeLine : Nat) < 2 ^ 63 := by rw [sizeLine_eq]; decide
theorem tru_ok : TruR X (fun x H Q => ∃ k, TruV X.K x H k ∧ Q k H) := by
  intro pins s σ H x v Q I rx h
  obtain ⟨k, e, q⟩ := h
  have hl := line63
  have hs : sizeLine = 16777216 := sizeLine_eq
  cases x with
  | non =>
    cases rx
    have e' : k = false := e
    subst e'
    exact truthy_none ⟨H, I, q⟩
  | bl b =>
    cases rx
    have e' : k = b := e
    subst e'
    exact wpAny_truthy_bool ⟨H, I, q⟩
  | int i =>
    obtain ⟨t, rfl⟩ := rx
    have e' : k = (i != 0) := e
    subst e'
    exact PySem.P.truthy_int ⟨H, I, q⟩
  | str y =>
    obtain ⟨t, rfl⟩ := rx
    obtain ⟨hy, e'⟩ : y.length ≤ sizeLine ∧ k = ((y.length : Int) != 0) := e
    subst e'
    exact PySem.P.truthy_str (by omega) ⟨H, I.tok _, q⟩
  | byt y =>
    obtain ⟨t, rfl⟩ := rx
    obtain ⟨hy, e'⟩ : y.size ≤ sizeLine ∧ k = ((y.size : Int) != 0) := e
    subst e'
    exact PySem.W.truthy_bytes (by omega) ⟨H, I.tok _, q⟩
  | ref p =>
    cases rx
    have e' : (∃ xs, SqL X.K H p xs ∧ k = !xs.isEmpty) ∨ (∃ xs, SqT X.K H p xs ∧ k = !xs.isEmpty) ∨ ∃ kvs, H p = some (.dK kvs) ∧ k = !kvs.isEmpty := e
    rcases e' with ⟨xs, hx, e'⟩ | ⟨xs, hx, e'⟩ | ⟨kvs, hx, e'⟩
    · subst e'
      obtain ⟨its, r, pl, hz⟩ := I.list hx
      have hlen := r.length
      exact wpAny_truthy_list pl.isList (by simp only [List.size_toArray]; omega) ⟨H, I.tok _, by rw [isEmpty_of r]; exact q⟩
    · subst e'
      obtain ⟨its, r, pl, hz⟩ := I.tuple hx
      have hlen := r.length
      exact truthy_tuple pl (by simp only [List.size_toArray]; omega) ⟨H, I.tok _, by rw [isEmpty_of r]; exact q⟩
    · subst e'
      obtain ⟨hz, hS, vs, r, m⟩ : kvs.length ≤ sizeLine ∧ (p == sysModules) = false ∧ ∃ vs, KV kvs vs ∧ s.heap.DictOf (mixKind X.prog X.w) p vs := I.hok p _ hx
      have hlen : kvs.length = vs.length := Paired.length r
      exact wpAny_truthy_dict hS m (by omega) ⟨H, I.tok _, by rw [isEmpty_kv r]; exact q⟩
  | _ => exact (show False from e).elim
theorem pt_truth (ha : PE X a ta) (he : ∀ whole, isTrue a X.env whole = (do let v ← whole; standAt a.pos; holding [v] (truthy v))) :
    PT X a (fun σ H Q => ta σ H fun x H' => ∃ k, TruV X.K x H' k ∧ Q k H') := by
  intro pins s σ H Q I h
  exact isTrue_plain (thn (ha pins s σ H _ I h) fun v s1 ⟨x, H1, I1, r1, q1⟩ => tru_ok pins s1 σ H1 x v Q I1 r1 q1) (he _)
theorem op_add_str : OpR X (binaryOp .Add) (fun x y H Q => ∃ i j, x = .str i ∧ y = .str j ∧ i.length + j.length ≤ sizeLine ∧ Q (.str (i ++ j)) H) := by
  intro pins s σ H x y v u Q I rx ry h
  obtain ⟨i, j, rfl, rfl, hz, q⟩ := h
  obtain ⟨t, rfl⟩ := rx
  obtain ⟨t', rfl⟩ := ry
  exact add_str (fun t' tk => ⟨.str (i ++ j), H, I.tok _, ⟨_, rfl⟩, q⟩) hz
theorem vals1 {x : V} {us : List Value} (r : Vals [x] us) : ∃ u, us = [u] ∧ RelV x u := by
  cases r with
  | cons r1 r2 => cases r2; exact ⟨_, rfl, r1⟩
theorem vals2 {x y : V} {us : List Value} (r : Vals [x, y] us) : ∃ u w', us = [u, w'] ∧ RelV x u ∧ RelV y w' := by
  cases r with
  | cons r1 r2 =>
    cases r2 with
    | cons r3 r4 => cases r4; exact ⟨_, _, rfl, r1, r3⟩
theorem call_max2 (hc : X.calm = true) : CallR X (.builtin "max") (fun xs H Q => ∃ i j, xs = [.int i, .int j] ∧ Q (.int (if j > i then j else i)) H) := by
  intro pins s σ H xs us Q I r h
  obtain ⟨i, j, rfl, q⟩ := h
  obtain ⟨u, w', rfl, ⟨t, rfl⟩, ⟨t', rfl⟩⟩ := vals2 r
  refine max_two_ints (I.ok.hd hc) fun h' tk k => ⟨_, H, I.kept k, ?_, q⟩
  by_cases hj : j > i
  · rw [if_pos hj, if_pos hj]; exact ⟨_, rfl⟩
  · rw [if_neg hj, if_neg hj]; exact ⟨_, rfl⟩
theorem call_min2 (hc : X.calm = true) : CallR X (.builtin "min") (fun xs H Q => ∃ i j, xs = [.int i, .int j] ∧ Q (.int (if j < i then j else i)) H) := by
  intro pins s σ H xs us Q I r h
  obtain ⟨i, j, rfl, q⟩ := h
  obtain ⟨u, w', rfl, ⟨t, rfl⟩, ⟨t', rfl⟩⟩ := vals2 r
  refine min_two_ints (I.ok.hd hc) fun h' tk k => ⟨_, H, I.kept k, ?_, q⟩
  by_cases hj : j < i
  · rw [if_pos hj, if_pos hj]; exact ⟨_, rfl⟩
  · rw [if_neg hj, if_neg hj]; exact ⟨_, rfl⟩
end
end L2
namespace L2
open PySem PySem.Spec PyProof.Rows
structure ObjM (h : Heap) (x dx C : Addr) (mA : Str → Option Value) : Prop where
  obj : h.get? x = some (PySem.W.instObj C dx)
  ns : h.Ns1 dx mA
  ne : dx ≠ x
theorem lookIn_ns {h : Heap} {dx : Addr} {mA : Str → Option Value} (n : h.Ns1 dx mA) : ∃ od, h.get? dx = some od ∧ ∀ name, PySem.W.lookIn name od = some (mA name) := by
  obtain ⟨o, es, ep, ho, hd, hk, _, hm⟩ := n
  refine ⟨o, ho, fun name => ?_⟩
  have e := hm name
  unfold nsFind findBy at e
  rw [← Array.find?_toList] at e
  unfold PySem.W.lookIn
  rw [hd]
  dsimp only
  split
  · rename_i y q
    rw [q] at e
    exact congrArg some e
  · rename_i q
    rw [q] at e
    have a : es.toList.any (·.refKey) = false := by
      rw [List.any_eq_false]
      intro y hy
      obtain ⟨z, t, hkey⟩ := hk y (Array.mem_toList_iff.mp hy)
      simp [DictEntry.refKey, hkey]
    have a' : ¬ es.toList.any (·.refKey) = true := by rw [a]; exact Bool.false_ne_true
    rw [if_neg a']
    exact congrArg some e
theorem ObjM.look {h : Heap} {x dx C : Addr} {mA : Str → Option Value} (I : ObjM h x dx C mA) : ∃ od, PySem.W.InstAt h x (PySem.W.instObj C dx) C (some od) ∧ ∀ name, PySem.W.lookIn name od = some (mA name) :=
  let ⟨od, ho, hl⟩ := lookIn_ns I.ns
  ⟨od, ⟨I.obj, rfl, rfl, ho⟩, hl⟩
section
variable {prog : Program} {w : World} {A : Around} {E : Value → Shared → Prop} {s : Shared} {K : PySem.W.Frag} {x dx C f : Addr} {mA : Str → Option Value} {name : Str} {v : Value}
end
section
variable {P : Program} {w : World} {H H' : Hp} {h h' : Heap} {a C dx : Addr} {fs fs' : List (Str × V)}
theorem ins_get (hok : HOk P w H h) (e : H a = some (.ins C dx fs)) : ∃ mA, ObjM h a dx C mA ∧ (∀ f, RelO (fs.lookup f) (mA f)) ∧ PySem.Within mA (fs.map (·.1)) ∧ fs.length ≤ 1000 ∧ H dx = some (.own a) := by
  obtain ⟨d, z, ne, ob, mA, n, r, q⟩ := (show ObjOk P w H h a (.ins C dx fs) from hok a _ e)
  exact ⟨mA, ⟨ob, n, ne⟩, r, q, z, d⟩
end
structure Cls (K : PySem.W.Frag) (C : Addr) : Prop where
  pg : PySem.W.plainGet K C Str.empty = true
  hd : PySem.W.hasDictIn K C = true
  po : PySem.W.plainOver K C = true
  sa : PySem.W.findIn K (.ref C) "__setattr__" = some (some (.builtin "object.__setattr__"))
theorem Cls.get {K : PySem.W.Frag} {C : Addr} (c : Cls K C) (f : Str) : PySem.W.plainGet K C f = true := c.pg
def NoAttr (K : PySem.W.Frag) (C : Addr) (f : Str) : Prop := PySem.W.findIn K (.ref C) f = some none
section
variable {X : Cx} {pins : List (Addr × Obj)} {σ : St} {H : Hp} {s : Shared} {a C dx : Addr} {fs : List (Str × V)} {f : Str} {v : V} {A : Around} {E : Value → Shared → Prop}
end
section
variable {X : Cx} {o e value : Expr} {f : Str} {pos pos' tpos : Pos} {ta tv : TE}
end
section
variable {X : Cx} {pins : List (Addr × Obj)} {σ : St} {H : Hp} {s : Shared} {A : Around} {E : Value → Shared → Prop} {Q : Value → Shared → Prop} {c : Value} {b : Bool}
inductive TyOf (K : PySem.W.Frag) (H : Hp) : V → Value → Prop where
  | non : TyOf K H .non (.type "NoneType")
  | bl (x : Bool) : TyOf K H (.bl x) (.type "bool")
  | int (i : Int) : TyOf K H (.int i) (.type "int")
  | str (x : Str) : TyOf K H (.str x) (.type "str")
  | flt (x : UInt64) : TyOf K H (.flt x) (.type "float")
  | lst {a : Addr} {xs : List V} (e : H a = some (.lst xs)) : TyOf K H (.ref a) (.type "list")
  | frz {a : Addr} {o : Obj} {xs : List V} (e : H a = some (.frz o (.lst xs))) : TyOf K H (.ref a) (.type "list")
  | tup {a : Addr} {xs : List V} (e : H a = some (.tup xs)) : TyOf K H (.ref a) (.type "tuple")
  | dK {a : Addr} {kvs : List (Key × V)} (e : H a = some (.dK kvs)) : TyOf K H (.ref a) (.type "dict")
  | dT {a : Addr} {kvs : List (List Key × V)} (e : H a = some (.dT kvs)) : TyOf K H (.ref a) (.type "dict")
  | ins {a C dx : Addr} {fs : List (Str × V)} (e : H a = some (.ins C dx fs)) (cl : Cls K C) (ha : PySem.W.findIn K (.ref C) "__class__" = some (some (.builtin "object.__class__")))
      (hn : PySem.W.specialIn K (.builtin "object.__class__") "__get__" = some (some (.builtin "getset_descriptor.__get__"))) (htk : PySem.W.takesIn K (.builtin "object.__class__") = some true)
      (hm : PySem.W.mroIn K C (.type "object") = some true) : TyOf K H (.ref a) (.ref C)
theorem isinst_ok {x : V} {u t : Value} (I : Inv X pins σ H s) (rx : RelV x u) (ty : TyOf X.K H x t) (e : PySem.W.kitOne X.K t c = some b) (h : ∀ tk, Q (.bool b) { s with toks := tk }) :
    wpAny (model X.prog X.w) A (call (.builtin "isinstance") [u, c]) Q E s := by
  cases ty with
  | non => cases (show u = Value.none from rx); exact PySem.W.kia_one PySem.W.kitx_none I.kIn True.intro e (fun z => nomatch z) h
  | bl y => cases (show u = Value.bool y from rx); exact PySem.W.kia_one PySem.W.kitx_bool I.kIn True.intro e (fun z => nomatch z) h
  | int i => obtain ⟨t, q⟩ := (show ∃ t, u = Value.int i t from rx); cases q; exact PySem.W.kia_one PySem.W.kitx_int I.kIn True.intro e (fun z => nomatch z) h
  | str y => obtain ⟨t, q⟩ := (show ∃ t, u = Value.str y t from rx); cases q; exact PySem.W.kia_one PySem.W.kitx_str I.kIn True.intro e (fun z => nomatch z) h
  | flt y => obtain ⟨t, q⟩ := (show ∃ t, u = Value.float y t from rx); cases q; exact PySem.W.kia_one PySem.W.kitx_float I.kIn True.intro e (fun z => nomatch z) h
  | @lst a xs ea =>
    cases (show u = Value.ref a from rx)
    obtain ⟨_, _, n, _, h1⟩ := (show ObjOk X.prog X.w H s.heap a (.lst xs) from I.hok a _ ea)
    exact PySem.W.kia_one PySem.W.kitx_list I.kIn ⟨_, h1, rfl⟩ e (fun z => nomatch z) h
  | @frz a ob xs ea =>
    cases (show u = Value.ref a from rx)
    obtain ⟨_, _, _, n, _, h1⟩ := (show ObjOk X.prog X.w H s.heap a (.frz ob (.lst xs)) from I.hok a _ ea)
    exact PySem.W.kia_one PySem.W.kitx_list I.kIn ⟨_, h1, rfl⟩ e (fun z => nomatch z) h
  | @tup a xs ea =>
    cases (show u = Value.ref a from rx)
    obtain ⟨_, _, _, p⟩ := (show ObjOk X.prog X.w H s.heap a (.tup xs) from I.hok a _ ea)
    obtain ⟨o, h1, h2, _⟩ := p
    exact PySem.W.kia_one PySem.W.kitx_tuple I.kIn ⟨o, h1, h2⟩ e (fun z => nomatch z) h
  | @dK a kvs ea =>
    cases (show u = Value.ref a from rx)
    obtain ⟨_, _, vs, _, p⟩ := (show ObjOk X.prog X.w H s.heap a (.dK kvs) from I.hok a _ ea)
    obtain ⟨o, es, ep, h1, h2, _⟩ := p
    exact PySem.W.kia_one PySem.W.kitx_dict I.kIn ⟨o, h1, h2.1⟩ e (fun z => nomatch z) h
  | @dT a kvs ea =>
    cases (show u = Value.ref a from rx)
    obtain ⟨_, _, xs, _, o, es, ep, h1, h2, _⟩ := (show ObjOk X.prog X.w H s.heap a (.dT kvs) from I.hok a _ ea)
    exact PySem.W.kia_one PySem.W.kitx_dict I.kIn ⟨o, h1, h2.1⟩ e (fun z => nomatch z) h
  | @ins a C dx fs ea cl ha hn htk hm =>
    cases (show u = Value.ref a from rx)
    obtain ⟨mA, O, _⟩ := ins_get I.hok ea
    obtain ⟨od, J, _⟩ := O.look
    exact PySem.W.kia_one (PySem.W.kitx_own (cl.get _) cl.hd ha hn htk hm) I.kIn J e (fun z => nomatch z) h
end
end L2
namespace L2
open PySem PySem.Spec PyProof.Rows
structure Room (k : Nat) (A : Around) : Prop where
  hd : A.handled = none
  dp : A.depth + 3 * k + 5 < recursionLimit
  un : A.units + 16 * k + 200 < cLine
theorem Room.mono {j k : Nat} {A : Around} (r : Room k A) (h : j ≤ k) : Room j A := ⟨r.hd, by have := r.dp; omega, by have := r.un; omega⟩
theorem Room.deeper {k : Nat} {A : Around} (r : Room (k + 1) A) (env : Env) : Room k (A.deeper env) :=
  ⟨r.hd, by have := r.dp; show A.depth + 1 + 3 * k + 5 < _; omega, by have := r.un; show A.units + 3 + 16 * k + 200 < _; omega⟩
theorem Room.depth {k : Nat} {A : Around} (r : Room k A) : A.depth < recursionLimit := by have := r.dp; omega
theorem Room.units {k : Nat} {A : Around} (r : Room k A) : A.units + 64 < cLine := by have := r.un; omega
def tNil : TA := fun _ H Q => Q [] H
def tCons (ta : TE) (tr : TA) : TA := fun σ H Q => ta σ H fun x H1 => tr σ H1 fun xs H2 => Q (x :: xs) H2
section
variable {X : Cx} {e : Expr} {es : List Expr} {te : TE} {t : TA} {pos : Pos}
theorem pa_nil : PA X [] tNil := fun _ _ _ _ H Q I h => Calls.spliced_nil ⟨[], H, I, .nil, h⟩
theorem pa_cons (ha : PE X e te) (hr : PA X es t) (hs : starEach (e :: es) X.env = (false, eval e X.env) :: starEach es X.env := by rfl) : PA X (e :: es) (tCons te t) := by
  intro pos pins s σ H Q I h
  rw [hs]
  show wpAny _ _ (spliced ((false, eval e X.env) :: backTo pos (starEach es X.env))) _ _ s
  refine Calls.spliced_cons (thn (ha pins s σ H _ I h) fun u s1 zq => ?_)
  obtain ⟨x, H1, I1, r1, q1⟩ := zq
  exact thn (hr pos pins s1 σ H1 _ I1 q1) fun us s2 ⟨xs, H2, I2, r2, q2⟩ => ⟨x :: xs, H2, I2, .cons r1 r2, q2⟩
def tTup (t : TA) : TE := fun σ H Q => t σ H fun xs H1 => xs.length ≤ sizeLine ∧ ∀ p, H1 p = none → Q (.ref p) (upd H1 p (.tup xs))
def tLst (t : TA) : TE := fun σ H Q => t σ H fun xs H1 => xs.length ≤ sizeLine ∧ ∀ p, H1 p = none → Q (.ref p) (upd H1 p (.lst xs))
theorem pe_tup {x1} (h : PA X es t) : PE X (.Tuple es x1 pos) (tTup t) := by
  intro pins s σ H Q I hq
  refine wpAny_Tuple_spliced (thn (h pos pins s σ H _ I hq) fun us s1 ⟨xs, H1, I1, r, z, q⟩ => ⟨by rw [← r.length]; exact z, ?_⟩)
  have hf : H1 s1.heap.objs.size = none := I1.hok.fresh (Nat.le_refl _)
  refine ⟨.ref s1.heap.objs.size, upd H1 s1.heap.objs.size (.tup xs), I1.laid (t' := s1.toks) (fun b u e => Heap.get?_push_of_some _ e) (Nat.le_refl _) ?_, rfl, q _ hf⟩
  exact ⟨z, us, r, ⟨_, Heap.get?_push_size _ rfl, rfl, _, rfl⟩⟩
theorem pe_lst (h : PA X es t) : PE X (.List es pos) (tLst t) := by
  intro pins s σ H Q I hq
  refine wpAny_List_spliced (thn (h pos pins s σ H _ I hq) fun us s1 ⟨xs, H1, I1, r, z, q⟩ => ⟨by rw [← r.length]; exact z, ?_⟩)
  have hf : H1 s1.heap.objs.size = none := I1.hok.fresh (Nat.le_refl _)
  refine ⟨.ref s1.heap.objs.size, upd H1 s1.heap.objs.size (.lst xs), I1.laid (t' := s1.toks) (fun b u e => Heap.get?_push_of_some _ e) (Nat.le_refl _) ?_, rfl, q _ hf⟩
  exact ⟨z, us, 0, r, Heap.get?_push_size _ rfl⟩
end
abbrev Sp := List V → Hp → VK → XK → Prop
abbrev CXT := List Env → Hp → Shared → XK → Value → Shared → Prop
structure Env0 (P : Program) (w : World) (K : PySem.W.Frag) (mg : Str → Option Value) (base : Heap) (A : Around) (outer : List Env) (s : Shared) (H : Hp) : Prop where
  frames : A.frames = some outer
  mod : Mod K mg base
  bs : ∀ b o, base.get? b = some o → s.heap.get? b = some o ∧ H b = none
  bsz : Bsz K mg base s.heap H
  funs : s.heap.FunFrames base outer
  frf : ∀ b ∈ frs outer, H b = none
  hok : HOk P w H s.heap
  bare : AllBare s.gens
def CE (outer : List Env) (P : Program) (w : World) (H : Hp) (s : Shared) (Q : VK) (u : Value) (s' : Shared) : Prop :=
  ∃ v H', s'.os = s.os ∧ AllBare s'.gens ∧ Un (frs outer) [] H H' s.heap s'.heap ∧ HOk P w H' s'.heap ∧ RelV v u ∧ Q v H'
def CR (CX : CXT) (outer : List Env) (P : Program) (w : World) (H : Hp) (s : Shared) (Q : VK) (E : XK) (r : Result) (s' : Shared) : Prop :=
  match r with
  | .ok (.ret u) => CE outer P w H s Q u s'
  | .ok _ => False
  | .error e => CX outer H s E e s'
structure FnOk (P : Program) (w : World) (K : PySem.W.Frag) (mg : Str → Option Value) (base : Heap) (CX : CXT) (k : Nat) (f : Addr) (fd : FuncData) (ps : List Str) (sp : Sp) : Prop where
  len : ∀ vs H Q E, sp vs H Q E → vs.length = ps.length
  run : ∀ (A : Around) (outer : List Env) (s : Shared) (H : Hp) (args : Args) (us : List Value) (vs : List V) (Q : VK) (E : XK), Room k A → Env0 P w K mg base A outer s H → BindsTo s fd args (ps.zip us) → Vals vs us → sp vs H Q E →
    codeAny (model P w) A (.call (.ref f) args) (CR CX outer P w H s Q E) s
theorem FnOk.mono {P : Program} {w : World} {K : PySem.W.Frag} {mg : Str → Option Value} {base : Heap} {CX : CXT} {j k : Nat} {f : Addr} {fd : FuncData} {ps : List Str} {sp : Sp} (F : FnOk P w K mg base CX j f fd ps sp) (h : j ≤ k) :
    FnOk P w K mg base CX k f fd ps sp := ⟨F.len, fun A outer s H args us vs Q E hr => F.run A outer s H args us vs Q E (hr.mono h)⟩
theorem FnOk.imp {P : Program} {w : World} {K : PySem.W.Frag} {mg : Str → Option Value} {base : Heap} {CX : CXT} {k : Nat} {f : Addr} {fd : FuncData} {ps : List Str} {sp sp' : Sp} (F : FnOk P w K mg base CX k f fd ps sp)
    (h : ∀ vs H Q E, sp' vs H Q E → sp vs H Q E) : FnOk P w K mg base CX k f fd ps sp' :=
  ⟨fun vs H Q E q => F.len vs H Q E (h _ _ _ _ q), fun A outer s H args us vs Q E hr he hb hv hs => F.run A outer s H args us vs Q E hr he hb hv (h _ _ _ _ hs)⟩
section
variable {X : Cx} {pins : List (Addr × Obj)} {σ : St} {H : Hp} {s s' : Shared}
theorem Inv.tabsH (I : Inv X pins σ H s) : TabsK X.K X.mg X.base H := ⟨I.ok.bsz.2.bm, fun x c P hx ht => ⟨(I.ok.bsz.2.tab x c P hx ht).1, I.base.tbls _ _ (I.ok.bsz.2.tab x c P hx ht).2⟩⟩
theorem Inv.env0 (I : Inv X pins σ H s) : Env0 X.prog X.w X.K X.mg X.base X.A X.stack s H :=
  ⟨I.ok.frames, I.ok.mod, I.bs, ⟨Nat.le_trans I.ok.bsz.1 I.sz, I.tabsH⟩, I.stack, I.stkFree, I.hok, I.bare⟩
theorem Inv.after {Q : VK} {u : Value} (I : Inv X pins σ H s) (h : CE X.stack X.prog X.w H s Q u s') : EP X pins σ Q u s' := by
  obtain ⟨v, H', os, bare, un, hok, r, q⟩ := h
  obtain ⟨hh, g, d, t, os'⟩ := s'
  obtain rfl : os' = s.os := os
  exact ⟨v, H', I.call (h' := hh) (g' := g) (d' := d) (t' := t) (ch := []) un hok bare (fun b z => absurd z (by simp)), r, q⟩
end
def tCall (sp : Sp) (dvs : List V) (E : XK) (t : TA) : TE := fun σ H Q => t σ H fun vs H1 => sp (vs ++ dvs) H1 Q E
def Binds (K : PySem.W.Frag) (fd : FuncData) (ps : List Str) (ds : List Value) : Prop :=
  ∀ (s : Shared) (us : List Value), K.In s.heap → (us ++ ds).length = ps.length → BindsTo s fd ⟨us, []⟩ (ps.zip (us ++ ds))
theorem Binds.all {K : PySem.W.Frag} {fd : FuncData} {ps : List Str} (h : ∀ us : List Value, us.length = ps.length → bindArgs fd ⟨us, []⟩ = pure (ps.zip us)) : Binds K fd ps [] := fun s us _ hl => by
  rw [List.append_nil] at hl ⊢
  exact .of_eq (h us hl)
def Passes (CX : CXT) (X : Cx) (E : XK) : Prop := ∀ (pins : List (Addr × Obj)) (σ : St) (H : Hp) (s : Shared) (e : Value) (s' : Shared), Inv X pins σ H s → CX X.stack H s E e s' → X.xe e s'
section
variable {X : Cx} {CX : CXT} {k : Nat} {f C : Addr} {fd : FuncData} {ps : List Str} {sp : Sp} {dvs : List V} {ds : List Value} {E : XK} {x m : Str} {p pos apos : Pos} {e o : Expr} {es : List Expr} {ta : TE} {t : TA}
theorem run_fn {pins : List (Addr × Obj)} {σ : St} {H : Hp} {s : Shared} {Q : VK} {us : List Value} {vs : List V} (F : FnOk X.prog X.w X.K X.mg X.base CX k f fd ps sp) (hr : Room k X.A) (hb : Binds X.K fd ps ds) (hd : Vals dvs ds) (hx : Passes CX X E)
    (I : Inv X pins σ H s) (r : Vals vs us) (h : sp (vs ++ dvs) H Q E) : wpAny (model X.prog X.w) X.A (call (.ref f) us) (EP X pins σ Q) X.xe s := by
  have r2 : Vals (vs ++ dvs) (us ++ ds) := r.append hd
  have hl : (us ++ ds).length = ps.length := by rw [← r2.length]; exact F.len _ _ _ _ h
  refine wpAny_call (codeAny_mono (F.run X.A X.stack s H ⟨us, []⟩ (us ++ ds) (vs ++ dvs) Q E hr I.env0 (hb s us I.kIn hl) r2 h) fun r s' hq => ?_)
  cases r with
  | error e => exact hx pins σ H s e s' I hq
  | ok fl =>
    cases fl with
    | ret u => exact I.after hq
    | next => exact False.elim hq
    | brk => exact False.elim hq
    | cont => exact False.elim hq
theorem pe_call (F : FnOk X.prog X.w X.K X.mg X.base CX k f fd ps sp) (hr : Room k X.A) (hg : Gl X x) (hm : X.mg x = some (.ref f)) (hk : PySem.W.keepIn X.K (.ref f) = true) (hb : Binds X.K fd ps ds) (hd : Vals dvs ds) (hx : Passes CX X E)
    (ha : PA X (e :: es) t) (hdb : (x == ("__debug__" : Str)) = false := by decide) (he : starEach (e :: es) X.env = (false, eval e X.env) :: starEach es X.env := by rfl) (hpl : (backTo pos (starEach es X.env)).any (·.1) = false := by rfl) :
    PE X (.Call (.Name x p) (e :: es) [] pos) (tCall sp dvs E t) := by
  intro pins s σ H Q I h
  refine wpAny_Call_Name_kw (ld_glob I hg hm ?_ hdb)
  refine PySem.W.callWith_K (h₀ := X.base) I.ok.mod.kin hk (thn (ha pos pins s σ H _ I h) fun us s1 ⟨vs, H1, I1, r, q⟩ => ⟨I1.kIn, ?_⟩) he hpl
  exact run_fn F hr hb hd hx I1 r q
theorem pe_call0 (F : FnOk X.prog X.w X.K X.mg X.base CX k f fd ps sp) (hr : Room k X.A) (hg : Gl X x) (hm : X.mg x = some (.ref f)) (hk : PySem.W.keepIn X.K (.ref f) = true) (hb : Binds X.K fd ps ds) (hd : Vals dvs ds) (hx : Passes CX X E)
    (hdb : (x == ("__debug__" : Str)) = false := by decide) : PE X (.Call (.Name x p) [] [] pos) (tCall sp dvs E tNil) := by
  intro pins s σ H Q I h
  refine wpAny_Call_Name_kw (ld_glob I hg hm ?_ hdb)
  exact PySem.W.callWith_K0 I.kIn hk (run_fn (us := []) F hr hb hd hx I .nil h)
end
section
variable {X : Cx} {CX : CXT} {k : Nat} {f C : Addr} {fd : FuncData} {ps ks : List Str} {sp : Sp} {E : XK} {x m : Str} {p pos apos kpos : Pos} {e o : Expr} {es : List Expr} {kws : List Keyword} {te ta : TE} {t tk : TA} {nm : Option Str}
variable {g : List Value → List Value → List Value} {gV : List V → List V → List V}
end
structure FnScope (N P : List Str) (sc : Scope) : Prop where
  kind : sc.kind = .function
  co : sc.isCoroutine = false
  gen : sc.isGenerator = false
  nd : N.Nodup
  pre : N.take P.length = P
  par : ∀ x ∈ P, sc.names.lookup x = some .local ∨ sc.names.lookup x = some .cell
  nofree : ∀ y ∈ sc.names, y.2 ≠ .free
theorem bindL_out {kindOf : Str → Option NameKind} {x : Str} : ∀ {binds : List (Str × Value)} {m : Str → Option Value}, (∀ v, (x, v) ∉ binds) → bindL kindOf binds m x = m x
  | [], _, _ => rfl
  | (n, v) :: r, m, h => by
    unfold bindL
    rw [bindL_out fun w hw => h w (List.mem_cons_of_mem _ hw)]
    split
    · have : x ≠ n := by rintro rfl; exact h v List.mem_cons_self
      simp [this]
    · rfl
theorem bindC_out {kindOf : Str → Option NameKind} {x : Str} : ∀ {binds : List (Str × Value)} {m : Str → Option Value}, (∀ v, (x, v) ∉ binds) → bindC kindOf binds m x = m x
  | [], _, _ => rfl
  | (n, v) :: r, m, h => by
    unfold bindC
    rw [bindC_out fun w hw => h w (List.mem_cons_of_mem _ hw)]
    split
    · rfl
    · have : x ≠ n := by rintro rfl; exact h v List.mem_cons_self
      simp [this]
theorem bindL_get {kindOf : Str → Option NameKind} {x : Str} {v : Value} : ∀ {P : List Str} {vs : List Value} {i : Nat} {m : Str → Option Value}, P.Nodup → P[i]? = some x → vs[i]? = some v → kindOf x = some .local →
    bindL kindOf (P.zip vs) m x = some v
  | [], _, _, _, _, h, _, _ => by simp at h
  | _ :: _, [], _, _, _, _, h, _ => by simp at h
  | p :: P, w :: vs, 0, m, nd, h1, h2, hk => by
    simp at h1 h2; subst h1; subst h2
    show bindL kindOf ((p, w) :: P.zip vs) m p = _
    unfold bindL
    rw [bindL_out fun v hv => (List.nodup_cons.mp nd).1 (List.of_mem_zip hv).1, if_pos hk]
    simp
  | p :: P, w :: vs, i + 1, m, nd, h1, h2, hk => by
    show bindL kindOf ((p, w) :: P.zip vs) m x = _
    unfold bindL
    exact bindL_get (i := i) (List.nodup_cons.mp nd).2 (by simpa using h1) (by simpa using h2) hk
theorem bindC_get {kindOf : Str → Option NameKind} {x : Str} {v : Value} : ∀ {P : List Str} {vs : List Value} {i : Nat} {m : Str → Option Value}, P.Nodup → P[i]? = some x → vs[i]? = some v → kindOf x ≠ some .local →
    bindC kindOf (P.zip vs) m x = some v
  | [], _, _, _, _, h, _, _ => by simp at h
  | _ :: _, [], _, _, _, _, h, _ => by simp at h
  | p :: P, w :: vs, 0, m, nd, h1, h2, hk => by
    simp at h1 h2; subst h1; subst h2
    show bindC kindOf ((p, w) :: P.zip vs) m p = _
    unfold bindC
    rw [bindC_out fun v hv => (List.nodup_cons.mp nd).1 (List.of_mem_zip hv).1, if_neg hk]
    simp
  | p :: P, w :: vs, i + 1, m, nd, h1, h2, hk => by
    show bindC kindOf ((p, w) :: P.zip vs) m x = _
    unfold bindC
    exact bindC_get (i := i) (List.nodup_cons.mp nd).2 (by simpa using h1) (by simpa using h2) hk
noncomputable def start (N : List Str) (vs : List V) : St := vs.map some ++ List.replicate (N.length - vs.length) none
noncomputable def cxOf (CX : CXT) (P : Program) (w : World) (K : PySem.W.Frag) (mg : Str → Option Value) (base : Heap) (N : List Str) (qual : Str) (scope : Scope) (f : Addr) (cd : Value) (A : Around) (outer : List Env) (s : Shared) (H : Hp) (E : XK) : Cx where
  prog := P
  w := w
  K := K
  mg := mg
  base := base
  A := A.deeper (envOfC qual scope s.heap.objs.size f cd)
  N := N
  s₀ := s
  H₀ := H
  env := envOfC qual scope s.heap.objs.size f cd
  outer := outer
  stack := envOfC qual scope s.heap.objs.size f cd :: outer
  ex := []
  calm := true
  fn := fun _ => true
  pn := []
  xe := fun e s' => wpAny (model P w) (A.deeper (envOfC qual scope s.heap.objs.size f cd)) (leaving (envOfC qual scope s.heap.objs.size f cd) e) (fun _ s'' => CX outer H s E e s'') (fun e' s'' => CX outer H s E e' s'') s'
theorem cell_has {sc : Scope} {n : Nat} {x : Str} (h : sc.names.lookup x = some .cell) : ∃ c, (cellsFrom n sc.names []).lookup x = some c := by
  have q := PySem.W.cellsFrom_some sc.names n [] (.inl h)
  exact Option.isSome_iff_exists.mp q
theorem inv_start {CX : CXT} {P : Program} {w : World} {K : PySem.W.Frag} {mg : Str → Option Value} {base : Heap} {N ps : List Str} {qual : Str} {scope : Scope} {f : Addr} {cd : Value} {A : Around} {outer : List Env} {s s1 : Shared} {H : Hp} {E : XK} {us : List Value} {vs : List V}
    (S : FnScope N ps scope) (hd : A.handled = none) (e0 : Env0 P w K mg base A outer s H) (hl : vs.length = ps.length) (r : Vals vs us)
    (x : InCallC s s.heap.objs.size (bindL (envOfC qual scope s.heap.objs.size f cd).kindOf (ps.zip us) fun _ => none) (cellsFrom (s.heap.objs.size + 1) scope.names []) (bindC (envOfC qual scope s.heap.objs.size f cd).kindOf (ps.zip us) fun _ => none) s1) :
    Inv (cxOf CX P w K mg base N qual scope f cd A outer s H E) [] (start N vs) H s1 := by
  have hpl : ps.length ≤ N.length := by have := congrArg List.length S.pre; rw [List.length_take] at this; omega
  obtain ⟨h1, tk, rfl, hk⟩ := x.done
  have noA : ∀ b : Addr, b ∉ (cxOf CX P w K mg base N qual scope f cd A outer s H E).ex := fun b z => absurd (show b ∈ ([] : List Addr) from z) (by simp)
  refine ⟨⟨e0.mod, S.kind, rfl, rfl, Nat.le_refl _, fun y z c h1 h2 => ?_, fun y hy => ?_, fun y c _ h => ?_, fun _ => hd, Around.frames_deeper e0.frames, .inr ⟨rfl, rfl⟩, fun b z => absurd z (noA b), e0.bs, e0.bsz, fun b _ _ => noA b, fun b z => absurd z (noA b), e0.funs, e0.frf⟩,
    rfl, e0.bare, Un.kept hk, ⟨_, x.toInCall.ns, fun i y v h1 h2 h3 => ?_⟩, fun y c h => ⟨_, x.cell y c h⟩, e0.hok.fresh (Nat.le_refl _), fun y c h => ?_, fun p hp => absurd (show p ∈ ([] : List (Addr × Obj)) from hp) (by simp), e0.hok.kept hk, ?_⟩
  · exact name_of_addr x.apart (PySem.mem_of_lookup h1) (PySem.mem_of_lookup h2)
  · have hy : scope.names.lookup y = some .cell ∨ scope.names.lookup y = some .free := hy
    rcases hy with hy | hy
    · exact cell_has hy
    · exact absurd rfl (S.nofree _ (PySem.mem_of_lookup hy))
  · exact Nat.le_of_lt (x.above y c (PySem.mem_of_lookup h))
  · have hi : i < vs.length := by
      unfold start at h2
      by_cases hi : i < vs.length
      · exact hi
      · rw [List.getElem?_append_right (by simpa using hi)] at h2
        rw [List.getElem?_replicate] at h2
        split at h2 <;> cases h2
    have ha : vs[i]? = some v := by
      unfold start at h2
      rw [List.getElem?_append_left (by simpa using hi), List.getElem?_map] at h2
      cases e : vs[i]? with
      | none => rw [e] at h2; cases h2
      | some a => rw [e] at h2; cases h2; rfl
    obtain ⟨u, hu, rv⟩ := r.get ha
    have hp : ps[i]? = some y := by
      rw [← S.pre, List.getElem?_take_of_lt (by omega)]; exact h1
    have ndP : ps.Nodup := by rw [← S.pre]; exact S.nd.sublist (List.take_sublist _ _)
    refine ⟨u, rv, ?_⟩
    rcases S.par y (List.mem_of_getElem? hp) with k | k
    · exact .inl ⟨k, bindL_get ndP hp hu k⟩
    · obtain ⟨c, e⟩ := cell_has (n := s.heap.objs.size + 1) k
      refine .inr ⟨.inl k, c, e, ?_⟩
      have q := x.cell y c e
      rw [bindC_get ndP hp hu (by show scope.names.lookup y ≠ _; rw [k]; decide)] at q
      exact q
  · exact .inl (e0.hok.fresh (Nat.le_of_lt (x.above y c (PySem.mem_of_lookup h))))
  · unfold start
    show _ = N.length
    rw [List.length_append, List.length_map, List.length_replicate]
    omega
theorem fn_of {CX : CXT} {P : Program} {w : World} {K : PySem.W.Frag} {mg : Str → Option Value} {base : Heap} {k : Nat} {f : Addr} {name qual : Str} {params : Arguments} {body : List Stmt} {scope : Scope} {dV kV doc pm cdv ct oc : Value} {an od : Option Addr}
    {osl : Array (Option Value)} {N ps : List Str} {sp : Sp} (lk : K.lookup f = some ⟨oc, od, .func (PySem.W.fnOf name qual params body scope dV kV doc pm an cdv ct), osl⟩) (hcd : PySem.W.codeIn K cdv qual = true) (S : FnScope N ps scope)
    (len : ∀ vs H Q E, sp vs H Q E → vs.length = ps.length)
    (hbody : ∀ (A : Around) (outer : List Env) (s : Shared) (H : Hp) (vs : List V) (Q : VK) (E : XK), Room k (A.deeper (envOfC qual scope s.heap.objs.size f cdv)) → sp vs H Q E →
      ∃ t, PSs (cxOf CX P w K mg base N qual scope f cdv A outer s H E) body t ∧ t { nx := fun _ H' => Q .non H', rt := Q } (start N vs) H) :
    FnOk P w K mg base CX (k + 1) f (PySem.W.fnOf name qual params body scope dV kV doc pm an cdv ct) ps sp := by
  refine ⟨len, fun A outer s H args us vs Q E hr e0 hb r hsp => ?_⟩
  have hl := len _ _ _ _ hsp
  have KX : K.In s.heap := e0.mod.kin.keeps fun b o e => (e0.bs b o e).1
  have lim : s.heap.NoLimit := e0.mod.nolimit.keeps fun b o e => (e0.bs b o e).1
  have hkind : ∀ y ∈ ps.zip us, scope.names.lookup y.1 = some .local ∨ (scope.names.lookup y.1 = some .cell ∧ ((cellsFrom (s.heap.objs.size + 1) scope.names []).lookup y.1).isSome = true) := fun ⟨n, v⟩ hy => by
    rcases S.par n (List.of_mem_zip hy).1 with q | q
    · exact .inl q
    · exact .inr ⟨q, PySem.W.cellsFrom_some _ _ _ (.inl q)⟩
  refine codeAny_call_function hr.depth (KX _ _ lk) rfl S.co S.gen rfl (PySem.W.codeRec_of KX hcd) (hb _ _ _ _ ?_)
  refine wpAny_newFunctionEnv_cells S.kind hkind fun env he s1 x => ?_
  subst he
  refine ⟨lim.keeps x.toInCall.keep, codeAny_func ?_⟩
  obtain ⟨t, ht, hq⟩ := hbody A outer s H vs Q E (hr.deeper _) hsp
  have I : Inv (cxOf CX P w K mg base N qual scope f cdv A outer s H E) [] (start N vs) H s1 := inv_start S hr.hd e0 hl r x
  refine wpAny_mono (ht [] s1 (start N vs) H _ I hq) (fun fl s' hs => ?_) fun e s' hs => hs
  have fin : ∀ {σ' : St} {H' : Hp} {v : V} {u : Value}, Inv (cxOf CX P w K mg base N qual scope f cdv A outer s H E) [] σ' H' s' → RelV v u → Q v H' → CE outer P w H s Q u s' :=
    fun {σ' H' v u} J rv q => ⟨v, H', J.os, J.bare, J.base, J.hok, rv, q⟩
  cases fl with
  | ret u =>
    obtain ⟨v, σ', H', J, rv, q⟩ := hs
    exact fin J rv q
  | next =>
    obtain ⟨σ', H', J, q⟩ := hs
    exact fin (v := V.non) (u := Value.none) J rfl q
  | brk =>
    obtain ⟨_, _, _, q⟩ := hs
    exact False.elim q
  | cont =>
    obtain ⟨_, _, _, q⟩ := hs
    exact False.elim q
end L2
namespace L2
open PySem PySem.Spec PyProof.Rows
section
variable {X : Cx} {x : Str} {p pos : Pos} {e : Expr} {es : List Expr} {t : TA} {id T : String} {r : List V → Hp → VK → Prop}
def tCB (r : List V → Hp → VK → Prop) (t : TA) : TE := fun σ H Q => t σ H fun vs H1 => r vs H1 Q
theorem pe_callB (hc : CallR X (.builtin id) r) (hg : Gl X x) (hm : X.mg x = none) (hv : bootBuiltins x = some (.builtin id)) (ha : PA X (e :: es) t) (hn : x ≠ "__name__" := by decide) (hdb : (x == ("__debug__" : Str)) = false := by decide)
    (he : starEach (e :: es) X.env = (false, eval e X.env) :: starEach es X.env := by rfl) (hpl : (backTo pos (starEach es X.env)).any (·.1) = false := by rfl) : PE X (.Call (.Name x p) (e :: es) [] pos) (tCB r t) := by
  intro pins s σ H Q I h
  refine wpAny_Call_Name_kw (ld_blt I hg hm hv ?_ hn hdb)
  exact PyProof.Rows.callWith_builtin1 (thn (ha pos pins s σ H _ I h) fun us s1 ⟨vs, H1, I1, r1, q1⟩ => hc pins s1 σ H1 vs us Q I1 r1 q1) he hpl
theorem pe_callTy (hc : CallR X (.type T) r) (hg : Gl X x) (hm : X.mg x = none) (hv : bootBuiltins x = some (.type T)) (ha : PA X (e :: es) t) (hn : x ≠ "__name__" := by decide) (hdb : (x == ("__debug__" : Str)) = false := by decide)
    (he : starEach (e :: es) X.env = (false, eval e X.env) :: starEach es X.env := by rfl) (hpl : (backTo pos (starEach es X.env)).any (·.1) = false := by rfl) : PE X (.Call (.Name x p) (e :: es) [] pos) (tCB r t) := by
  intro pins s σ H Q I h
  refine wpAny_Call_Name_kw (ld_blt I hg hm hv ?_ hn hdb)
  exact PyProof.Rows.callWith_type1 (thn (ha pos pins s σ H _ I h) fun us s1 ⟨vs, H1, I1, r1, q1⟩ => hc pins s1 σ H1 vs us Q I1 r1 q1) he hpl
end
end L2
namespace HT
open PySem PyProof.Rows
section
open PySem.SeqAt
open PySem.AutoSeq1 (wpAny_loadPart')
open PySem.MeetsSeq PySem.MeetsSeq2 PySem.MeetsSeq3
end
section
variable {prog : Program} {w : World} {A : Around} {E : Value → Shared → Prop} {s : Shared}
end
end HT
namespace L2
open PySem PySem.Spec PyProof.Rows
abbrev TO := St → Hp → (Option Int → Hp → Prop) → Prop
def PO (X : Cx) (e : Option Expr) (t : TO) : Prop :=
  ∀ (pins : List (Addr × Obj)) (s : Shared) (σ : St) (H : Hp) (Q : Option Int → Hp → Prop), Inv X pins σ H s → t σ H Q →
    wpAny (model X.prog X.w) X.A (evalPart e X.env) (fun u s' => ∃ o H', Inv X pins σ H' s' ∧ IsPart u o ∧ Q o H') X.xe s
def tPart (t : TE) : TO := fun σ H Q => t σ H fun x H1 => ∃ i, x = .int i ∧ Q (some i) H1
theorem intsAre_of {ns : List Int} : ∀ {us : List Value}, Vals (ns.map V.int) us → IntsAre us ns := by
  induction ns with
  | nil => intro us r; rw [List.map_nil] at r; cases r; exact .nil
  | cons n ns ih =>
    intro us r
    rw [List.map_cons] at r
    cases r with
    | cons r1 r2 =>
      obtain ⟨t, e⟩ := r1
      subst e
      exact .cons n t (ih r2)
section
variable {X : Cx} {e : Expr} {te : TE} {lo hi : Option Expr} {tl th : TO} {pos p2 : Pos}
theorem po_some (h : PE X e te) : PO X (some e) (tPart te) := by
  intro pins s σ H Q I hw
  rw [evalPart_some]
  refine thn (h pins s σ H _ I hw) fun u s1 zq => ?_
  obtain ⟨x, H1, I1, r1, q1⟩ := zq
  obtain ⟨i, rfl, q⟩ := q1
  obtain ⟨t, rfl⟩ := r1
  exact ⟨some i, H1, I1, .int i t, q⟩
def SlR (X : Cx) (r : V → Option Int → Option Int → Hp → VK → Prop) : Prop :=
  ∀ (pins : List (Addr × Obj)) (s : Shared) (σ : St) (H : Hp) (x : V) (v vl vu : Value) (lo hi : Option Int) (sl : Addr) (Q : VK), Inv X pins σ H s → RelV x v → s.heap.IsSliceOf sl vl vu .none → IsPart vl lo → IsPart vu hi → r x lo hi H Q →
    ∃ T id, typeLookup (.type T) "__getitem__" = pure (some (.builtin id)) ∧ s.TypeIs v T ∧ wpAny (model X.prog X.w) X.A (getItem v (.ref sl)) (EP X pins σ Q) X.xe s
def tSl (r : V → Option Int → Option Int → Hp → VK → Prop) (te : TE) (tl th : TO) : TE := fun σ H Q => te σ H fun x H1 => tl σ H1 fun l H2 => th σ H2 fun u H3 => r x l u H3 Q
theorem pe_slice {r : V → Option Int → Option Int → Hp → VK → Prop} (hr : SlR X r) (he : PE X e te) (hl : PO X lo tl) (hu : PO X hi th) : PE X (.Subscript e (.Slice lo hi none p2) pos) (tSl r te tl th) := by
  intro pins s σ H Q I h
  refine Subscript_ (thn (he pins s σ H _ I h) fun v s1 zq => ?_)
  obtain ⟨x, H1, I1, r1, q1⟩ := zq
  refine wpAny_Slice (thn (hl pins s1 σ H1 _ I1 q1) fun vl s2 ⟨l, H2, I2, pl, q2⟩ => thn (hu pins s2 σ H2 _ I2 q2) fun vu s3 zq => ?_)
  obtain ⟨u, H3, I3, pu, q3⟩ := zq
  rw [evalPart_none]
  refine wpAny_pure ?_
  have I4 : Inv X pins σ H3 { s3 with heap := s3.heap.push { cls := .type "slice", data := .fields #[vl, vu, .none] } } := I3.kept (t' := s3.toks) fun b ob q => Heap.get?_push_of_some _ q
  obtain ⟨T, id, hT, ht, hg⟩ := hr pins { s3 with heap := s3.heap.push { cls := .type "slice", data := .fields #[vl, vu, .none] } } σ H3 x v vl vu l u s3.heap.objs.size Q I4 r1 (Heap.IsSliceOf.new ..) pl pu q3
  show wpAny (model X.prog X.w) X.A (subscriptTail e (.Slice lo hi none p2) v (.ref s3.heap.objs.size)) (EP X pins σ Q) X.xe { s3 with heap := s3.heap.push { cls := .type "slice", data := .fields #[vl, vu, .none] } }
  exact tail_any (ops := [.ref s3.heap.objs.size, v]) ht hT hg (by with_unfolding_all rfl)
noncomputable def cutV (xs : List V) (lo hi : Option Int) : List V := (xs.drop (HT.sIx xs.length 0 lo)).take (HT.sIx xs.length xs.length hi - HT.sIx xs.length 0 lo)
theorem cutV_length (xs : List V) (lo hi : Option Int) : (cutV xs lo hi).length ≤ xs.length := by
  unfold cutV
  rw [List.length_take, List.length_drop]
  omega
end
end L2
namespace L2
open PySem PySem.Spec PyProof.Rows
theorem ixN_seq {n : Nat} {i : Int} {j : Nat} (h : ixN n i = some j) : seqIndex? i n = some j ∧ j < n ∧ -(n : Int) ≤ i ∧ i < n := by
  unfold ixN at h
  by_cases h0 : 0 ≤ i
  · rw [if_pos h0] at h
    by_cases h1 : i < n
    · rw [if_pos h1] at h
      have e : i.toNat = j := Option.some.inj h
      exact ⟨by rw [seqIndex_of h0 h1, e], by omega, by omega, h1⟩
    · rw [if_neg h1] at h; cases h
  · rw [if_neg h0] at h
    by_cases h1 : -(n : Int) ≤ i
    · rw [if_pos h1] at h
      have e : (i + n).toNat = j := Option.some.inj h
      exact ⟨by rw [seqIndex_neg (by omega) h1, e], by omega, h1, by omega⟩
    · rw [if_neg h1] at h; cases h
theorem atI_get {α : Type} {xs : List α} {i : Int} {v : α} (h : atI xs i = some v) : ∃ j, seqIndex? i xs.length = some j ∧ xs[j]? = some v ∧ j < xs.length ∧ -(xs.length : Int) ≤ i ∧ i < xs.length := by
  unfold atI at h
  cases e : ixN xs.length i with
  | none => rw [e] at h; cases h
  | some j =>
    rw [e] at h
    obtain ⟨h1, h2, h3, h4⟩ := ixN_seq e
    exact ⟨j, h1, h, h2, h3, h4⟩
def PlainIx (b : Expr) : Prop := ∀ o i, subscripted b false o i = operate [o, i] (getItem o i)
def IxR (X : Cx) (r : R2) : Prop :=
  ∀ (value slice : Expr) (pins : List (Addr × Obj)) (s : Shared) (σ : St) (H : Hp) (x y : V) (v u : Value) (Q : VK), Inv X pins σ H s → RelV x v → RelV y u → r x y H Q →
    subscripted slice false v u = operate [v, u] (getItem v u) → wpAny (model X.prog X.w) X.A (subscriptTail value slice v u) (EP X pins σ Q) X.xe s
def MtR (X : Cx) (id : String) (r : V → List V → Hp → VK → Prop) : Prop :=
  ∀ (pins : List (Addr × Obj)) (s : Shared) (σ : St) (H : Hp) (x : V) (xs : List V) (v : Value) (us : List Value) (Q : VK), Inv X pins σ H s → RelV x v → Vals xs us → r x xs H Q →
    wpAny (model X.prog X.w) X.A (call (.builtin id) (v :: us)) (EP X pins σ Q) X.xe s
section
variable {X : Cx} {a b : Expr} {ta tb : TE} {pos : Pos}
theorem IxR.or {r r' : R2} (h : IxR X r) (h' : IxR X r') : IxR X (fun x y H Q => r x y H Q ∨ r' x y H Q) := by
  intro value slice pins s σ H x y v u Q I rx ry q hs
  rcases q with q | q
  · exact h value slice pins s σ H x y v u Q I rx ry q hs
  · exact h' value slice pins s σ H x y v u Q I rx ry q hs
theorem pe_ix {r : R2} (hr : IxR X r) (ha : PE X a ta) (hb : PE X b tb) (hs : PlainIx b) : PE X (.Subscript a b pos) (tOp r ta tb) := by
  intro pins s σ H Q I h
  exact Subscript_ (binT ha hb I h fun v u s2 x y H2 I2 rx ry q => hr a b pins s2 σ H2 x y v u Q I2 rx ry q (hs _ _))
noncomputable def rIxL (K : PySem.W.Frag) : R2 := fun x y H Q => ∃ p xs i v, x = .ref p ∧ y = .int i ∧ SqL K H p xs ∧ atI xs i = some v ∧ Q v H
noncomputable def rIxT (K : PySem.W.Frag) : R2 := fun x y H Q => ∃ p xs i v, x = .ref p ∧ y = .int i ∧ SqT K H p xs ∧ atI xs i = some v ∧ Q v H
noncomputable def rIxS : R2 := fun x y H Q => ∃ z i c, x = .str z ∧ y = .int i ∧ z.length ≤ sizeLine ∧ atI z.cps.toList i = some c ∧ Q (.str ⟨#[c]⟩) H
theorem ix_list : IxR X (rIxL X.K) := by
  intro value slice pins s σ H x y v u Q I rx ry h hs
  obtain ⟨p, xs, i, z, rfl, rfl, hq, he, q⟩ := h
  cases rx
  obtain ⟨t, rfl⟩ := ry
  obtain ⟨its, r, pl, hz⟩ := I.list hq
  obtain ⟨j, h1, h2, h3, h4, h5⟩ := atI_get he
  obtain ⟨w, ew, rw'⟩ := r.get h2
  have hl := r.length
  have hn := line63
  have fin : EP X pins σ Q w s := ⟨z, H, I, rw', q⟩
  by_cases h0 : 0 ≤ i
  · have hj : i.toNat = j := by
      rw [seqIndex_of h0 h5] at h1
      exact Option.some.inj h1
    exact item_listR pl.isList h0 (by omega) (by rw [hj]; simpa using ew) fin hs
  · have hj : (i + (its.toArray.size : Int)).toNat = j := by
      rw [seqIndex_neg (by omega) h4] at h1
      rw [List.size_toArray, ← hl]
      exact Option.some.inj h1
    exact subscriptTail_builtinR (x := w) pl.isList.typeIs slot_list_getitem.lookup
      (wpAny_getItem_list_neg (Q := fun r s' => r = w ∧ EP X pins σ Q r s') pl.isList (by omega) (by rw [List.size_toArray] <;> omega) (by omega) (by rw [hj]; simpa using ew) ⟨rfl, fin⟩) hs
theorem ix_tup : IxR X (rIxT X.K) := by
  intro value slice pins s σ H x y v u Q I rx ry h hs
  obtain ⟨p, xs, i, z, rfl, rfl, hq, he, q⟩ := h
  cases rx
  obtain ⟨t, rfl⟩ := ry
  obtain ⟨its, r, pl, hz⟩ := I.tuple hq
  obtain ⟨j, h1, h2, h3, h4, h5⟩ := atI_get he
  obtain ⟨w, ew, rw'⟩ := r.get h2
  have hl := r.length
  have hn := line63
  have fin : EP X pins σ Q w s := ⟨z, H, I, rw', q⟩
  exact subscriptTail_builtinR (x := w) pl.typeIs slot_tuple_getitem.lookup
    (getItem_tuple (j := j) (Q := fun r s' => r = w ∧ EP X pins σ Q r s') pl (by omega) (by omega) (by rw [List.size_toArray, ← hl]; exact h1) (by simpa using ew) ⟨rfl, fin⟩) hs
theorem ix_str : IxR X rIxS := by
  intro value slice pins s σ H x y v u Q I rx ry h hs
  obtain ⟨z, i, c, rfl, rfl, hz, he, q⟩ := h
  obtain ⟨t, rfl⟩ := rx
  obtain ⟨t', rfl⟩ := ry
  obtain ⟨j, h1, h2, h3, h4, h5⟩ := atI_get he
  have hl : z.cps.toList.length = z.length := by simp [Str.length]
  rw [hl] at h1 h4 h5
  have hn := line63
  exact tail_any (typeIs_str s z t) slot_str_getitem.lookup (getItem_str (c := c) (by
    have e1 : decide (i < -(2 ^ 63 : Int)) = false := decide_eq_false (by omega)
    have e2 : decide (i ≥ 2 ^ 63) = false := decide_eq_false (by omega)
    rw [e1, e2, Bool.or_false]) (by rw [h1]; simpa using h2) ⟨.str ⟨#[c]⟩, H, I.tok _, ⟨_, rfl⟩, q⟩) hs
noncomputable def rIx (K : PySem.W.Frag) : R2 := fun x y H Q => rIxL K x y H Q ∨ rIxT K x y H Q ∨ rIxS x y H Q
theorem ix_seq : IxR X (rIx X.K) := ix_list.or (ix_tup.or ix_str)
theorem mapSeq_set (its : List Value) (n j : Nat) (u : Value) : Obj.mapSeq (·.setIfInBounds j u) { cls := .type "list", data := .seq its.toArray n } = { cls := .type "list", data := .seq (its.set j u).toArray n } := by
  simp [Obj.mapSeq]
theorem Inv.lst {pins : List (Addr × Obj)} {σ : St} {H : Hp} {s : Shared} {p : Addr} {xs : List V} (I : Inv X pins σ H s) (h : H p = some (.lst xs)) :
    ∃ (its : List Value) (n : Nat), Vals xs its ∧ s.heap.get? p = some { cls := .type "list", data := .seq its.toArray n } ∧ xs.length ≤ sizeLine := by
  obtain ⟨z, its, n, r, e⟩ := I.hok p _ h
  exact ⟨its, n, r, e, z⟩
theorem Inv.lstUpd {pins : List (Addr × Obj)} {σ : St} {H : Hp} {s : Shared} {p : Addr} {xs ys : List V} {its its' : List Value} {n n' : Nat} {f : Obj → Obj} (I : Inv X pins σ H s) (h : H p = some (.lst xs))
    (ho : s.heap.get? p = some { cls := .type "list", data := .seq its.toArray n }) (hf : f { cls := .type "list", data := .seq its.toArray n } = { cls := .type "list", data := .seq its'.toArray n' }) (r : Vals ys its') (hz : ys.length ≤ sizeLine) (t : Nat) :
    Inv X pins σ (upd H p (.lst ys)) { s with heap := s.heap.update p f, toks := t } := by
  have e : (s.heap.update p f).get? p = some { cls := .type "list", data := .seq its'.toArray n' } := by
    rw [Heap.get?_update_self f ho (by rw [hf] <;> rfl), hf]
  refine I.write (x := p) (e := p) (by rw [h]; trivial) (.inl rfl) (fun b u hb q => (Heap.get?_update_other _ _ (Ne.symm hb)).trans q) ⟨_, e⟩ ?_
  exact ⟨hz, its', n', r, e⟩
def rSetL : V → V → V → Hp → (Hp → Prop) → Prop := fun o i v H Q => ∃ p xs k j, o = .ref p ∧ i = .int k ∧ H p = some (.lst xs) ∧ ixN xs.length k = some j ∧ Q (upd H p (.lst (xs.set j v)))
theorem set_list : PSet X rSetL := by
  intro pins s σ H o i v ov iv u Q I ro ri rv h
  obtain ⟨p, xs, k, j, rfl, rfl, hp, hj, q⟩ := h
  cases ro
  obtain ⟨t, rfl⟩ := ri
  obtain ⟨its, n, r, ho, hz⟩ := I.lst hp
  obtain ⟨h1, h2, h3, h4⟩ := ixN_seq hj
  have hl := r.length
  have hn := line63
  have I' : Inv X pins σ (upd H p (.lst (xs.set j v))) { s with heap := s.heap.update p (Obj.mapSeq (·.setIfInBounds j u)) } :=
    I.lstUpd hp ho (mapSeq_set its n j u) (r.set rv j) (by rw [List.length_set]; exact hz) s.toks
  by_cases h0 : 0 ≤ k
  · have hk : k.toNat = j := by
      rw [seqIndex_of h0 h4] at h1
      exact Option.some.inj h1
    exact PySem.W.ki_setAt ho h0 (by omega) (by rw [List.size_toArray, ← hl]; exact h4) (by rw [hk]; exact ⟨_, I', q⟩)
  · have hk : (k + (its.toArray.size : Int)).toNat = j := by
      rw [seqIndex_neg (by omega) h3] at h1
      rw [List.size_toArray, ← hl]
      exact Option.some.inj h1
    exact PySem.W.ki_setBack ho (by omega) (by rw [List.size_toArray, ← hl]; exact h3) (by omega) (by rw [hk]; exact ⟨_, I', q⟩)
theorem slice_bounds (lo hi : Option Int) (n : Nat) : (sliceBounds lo hi none n).1 = ((HT.sIx n 0 lo : Nat) : Int) ∧ (sliceBounds lo hi none n).2.1 = ((HT.sIx n n hi : Nat) : Int) ∧ (sliceBounds lo hi none n).2.2 = 1 := by
  refine ⟨?_, ?_, rfl⟩
  · cases lo with
    | none => simp [sliceBounds, HT.sIx]
    | some i =>
      simp only [sliceBounds, HT.sIx, Option.getD_none, show (1 : Int) > 0 by decide, if_true]
      by_cases h : i < 0
      · simp only [h, if_true] <;> omega
      · simp only [h, if_false] <;> omega
  · cases hi with
    | none => simp [sliceBounds, HT.sIx]
    | some i =>
      simp only [sliceBounds, HT.sIx, Option.getD_none, show (1 : Int) > 0 by decide, if_true]
      by_cases h : i < 0
      · simp only [h, if_true] <;> omega
      · simp only [h, if_false] <;> omega
theorem slicePick_cut (its : List Value) (lo hi : Option Int) : slicePick its.toArray lo hi none = ((its.drop (HT.sIx its.length 0 lo)).take (HT.sIx its.length its.length hi - HT.sIx its.length 0 lo)).toArray := by
  obtain ⟨h1, h2, h3⟩ := slice_bounds lo hi its.toArray.size
  unfold slicePick
  rw [h1, h2, h3]
  simp only [sliceRange_one, pick_run, List.size_toArray] <;> rfl
def rSlL (K : PySem.W.Frag) : V → Option Int → Option Int → Hp → VK → Prop := fun x lo hi H Q => ∃ a xs, x = .ref a ∧ SqL K H a xs ∧ ∀ p, H p = none → Q (.ref p) (upd H p (.lst (cutV xs lo hi)))
theorem sl_list : SlR X (rSlL X.K) := by
  intro pins s σ H x v vl vu lo hi sl Q I rx hs pl pu h
  obtain ⟨a, xs, rfl, hx, q⟩ := h
  cases rx
  obtain ⟨its, r, ht, hz⟩ := I.list hx
  have hlen := r.length
  refine ⟨"list", _, slot_list_getitem.lookup, ht.isList.typeIs, ?_⟩
  refine wpAny_getItem_list_slice ht.isList hs pl pu .none (by simp) ?_ (by rw [List.size_toArray] <;> omega)
  rw [slicePick_cut, ← hlen]
  refine ⟨.ref s.heap.objs.size, _, I.laid (t' := s.toks) (o := .lst (cutV xs lo hi)) (fun b ob q => Heap.get?_push_of_some _ q) (Nat.le_refl _) ?_, rfl, q _ (I.hok.fresh (Nat.le_refl _))⟩
  exact ⟨Nat.le_trans (cutV_length xs lo hi) hz, _, 0, (r.drop (HT.sIx xs.length 0 lo)).take (HT.sIx xs.length xs.length hi - HT.sIx xs.length 0 lo), Heap.get?_push_size _ rfl⟩
theorem call_len_seq : CallR X (.builtin "len") (fun xs H Q => ∃ p ys, xs = [.ref p] ∧ (SqL X.K H p ys ∨ SqT X.K H p ys) ∧ Q (.int ys.length) H) := by
  intro pins s σ H xs us Q I r h
  obtain ⟨p, ys, rfl, hq, q⟩ := h
  obtain ⟨u, rfl, rx⟩ := vals1 r
  cases rx
  have hn := line63
  rcases hq with hq | hq
  · obtain ⟨its, r', pl, hz⟩ := I.list hq
    have hlen := r'.length
    exact Calls.call_len_list pl.isList (by simp only [List.size_toArray] <;> omega) ⟨.int ys.length, H, I.tok _, ⟨s.toks + 1, by rw [List.size_toArray, hlen]⟩, q⟩
  · obtain ⟨its, r', pl, hz⟩ := I.tuple hq
    have hlen := r'.length
    exact len_tuple pl (by simp only [List.size_toArray] <;> omega) ⟨.int ys.length, H, I.tok _, ⟨s.toks + 1, by rw [List.size_toArray, hlen]⟩, q⟩
theorem call_len_str : CallR X (.builtin "len") (fun xs H Q => ∃ z, xs = [.str z] ∧ z.length ≤ sizeLine ∧ Q (.int z.length) H) := by
  intro pins s σ H xs us Q I r h
  obtain ⟨z, rfl, hz, q⟩ := h
  obtain ⟨u, rfl, t, rfl⟩ := vals1 r
  have hn := line63
  exact len_str (by omega) ⟨.int z.length, H, I.tok _, ⟨_, rfl⟩, q⟩
theorem CallR.or {f : Value} {r r' : List V → Hp → VK → Prop} (h : CallR X f r) (h' : CallR X f r') : CallR X f (fun xs H Q => r xs H Q ∨ r' xs H Q) := by
  intro pins s σ H xs us Q I rs q
  rcases q with q | q
  · exact h pins s σ H xs us Q I rs q
  · exact h' pins s σ H xs us Q I rs q
theorem call_list_of : CallR X (.type "list") (fun xs H Q => ∃ p ys, xs = [.ref p] ∧ (SqL X.K H p ys ∨ SqT X.K H p ys) ∧ ∀ l, H l = none → Q (.ref l) (upd H l (.lst ys))) := by
  intro pins s σ H xs us Q I r h
  obtain ⟨p, ys, rfl, hq, q⟩ := h
  obtain ⟨u, rfl, rx⟩ := vals1 r
  cases rx
  have fin : ∀ (its : List Value), Vals ys its → ys.length ≤ sizeLine → ∀ (h' : Heap) (c' : Nat), (∀ b o', s.heap.get? b = some o' → h'.get? b = some o') →
      h'.get? s.heap.objs.size = some { cls := .type "list", dict := none, data := .seq its.toArray c', slots := #[] } → EP X pins σ Q (.ref s.heap.objs.size) { s with heap := h' } := fun its r' hz h' c' kp e =>
    ⟨.ref s.heap.objs.size, _, I.laid (t' := s.toks) kp (Nat.le_refl _) (show ObjOk X.prog X.w _ h' _ (.lst ys) from ⟨hz, its, c', r', e⟩), rfl, q _ (I.hok.fresh (Nat.le_refl _))⟩
  rcases hq with hq | hq
  · obtain ⟨its, r', pl, hz⟩ := I.list hq
    have hlen := r'.length
    obtain ⟨o, ho, hc, n, hd⟩ := pl.isList
    exact call_list_seq p (.inl rfl) ho hc hd (fun h' c' kp e => fin its r' hz h' c' kp e) (by simp only [List.size_toArray] <;> omega)
  · obtain ⟨its, r', pl, hz⟩ := I.tuple hq
    have hlen := r'.length
    obtain ⟨o, ho, hc, n, hd⟩ := pl
    exact call_list_seq p (.inr rfl) ho hc hd (fun h' c' kp e => fin its r' hz h' c' kp e) (by simp only [List.size_toArray] <;> omega)
def tyV (K : PySem.W.Frag) (T : String) (x : V) (H : Hp) : Prop := match x with
  | .str _ => T = "str"
  | .int _ => T = "int"
  | .ref p => (T = "list" ∧ ∃ xs, SqL K H p xs) ∨ (T = "tuple" ∧ ∃ o, K.lookup p = some o ∧ o.cls = .type "tuple" ∧ o.dict = none) ∨
      (T = "dict" ∧ ((∃ kvs, H p = some (.dK kvs)) ∨ ∃ kvs, H p = some (.dT kvs))) ∨ (T = "set" ∧ ∃ S n, H p = some (.set S n))
  | _ => False
theorem tyV_is {pins : List (Addr × Obj)} {σ : St} {H : Hp} {s : Shared} {T : String} {x : V} {v : Value} (I : Inv X pins σ H s) (r : RelV x v) (ty : tyV X.K T x H) :
    s.TypeIs v T ∧ ∀ a, v = .ref a → ∃ ob, s.heap.get? a = some ob ∧ ob.dict = none := by
  cases x with
  | str z =>
    obtain ⟨t, rfl⟩ := r
    cases (show T = "str" from ty)
    exact ⟨typeIs_str s z t, fun _ e => nomatch e⟩
  | int i =>
    obtain ⟨t, rfl⟩ := r
    cases (show T = "int" from ty)
    exact ⟨typeIs_int s i t, fun _ e => nomatch e⟩
  | ref p =>
    cases r
    rcases ty with ⟨rfl, xs, hq⟩ | ⟨rfl, o, hk, hc, hd⟩ | ⟨rfl, hk⟩ | ⟨rfl, S, n, hk⟩
    · obtain ⟨its, _, pl, _⟩ := I.list hq
      refine ⟨pl.isList.typeIs, fun a e => ?_⟩
      cases e
      obtain ⟨o, n, e, c, hd, _⟩ := pl
      exact ⟨o, e, hd⟩
    · refine ⟨⟨o, I.kIn p o hk, hc⟩, fun a e => ?_⟩
      cases e
      exact ⟨o, I.kIn _ o hk, hd⟩
    · have z : ∃ o, s.heap.get? p = some o ∧ o.ExactDict := by
        rcases hk with ⟨kvs, hk⟩ | ⟨kvs, hk⟩
        · obtain ⟨_, _, _, _, o, _, _, e, ex, _⟩ := I.hok p _ hk
          exact ⟨o, e, ex⟩
        · obtain ⟨_, _, _, _, o, _, _, e, ex, _⟩ := I.hok p _ hk
          exact ⟨o, e, ex⟩
      obtain ⟨o, e, ex⟩ := z
      refine ⟨⟨o, e, ex.1⟩, fun a e2 => ?_⟩
      cases e2
      exact ⟨o, e, ex.2.1⟩
    · obtain ⟨o, _, _, _, e, ex, _⟩ := I.hok p _ hk
      refine ⟨⟨o, e, ex.1⟩, fun a e2 => ?_⟩
      cases e2
      exact ⟨o, e, ex.2.1⟩
  | _ => exact False.elim ty
def tBM (K : PySem.W.Frag) (T : String) (r : V → List V → Hp → VK → Prop) (to : TE) (t : TA) : TE := fun σ H Q => to σ H fun x H1 => tyV K T x H1 ∧ t σ H1 fun xs H2 => r x xs H2 Q
variable {o e : Expr} {es : List Expr} {to : TE} {t : TA} {name : Str} {apos cpos : Pos} {T id : String} {r : V → List V → Hp → VK → Prop}
theorem pe_bm (pa : PlainAttrs T) (slot : Slot T name id) (hty : typeOf (.builtin id) = pure (.type "method_descriptor")) (hm : MtR X id r) (ho : PE X o to) (ha : PA X (e :: es) t)
    (hbase : attributeBase o name X.env (eval o X.env) = eval o X.env := by rfl)
    (hfew : ((backTo cpos (starEach (e :: es) X.env)).all (fun x => !x.1) && (backToKw cpos (keywordEach [] X.env)).all (fun x => x.1.isSome)
      && decide ((e :: es).length + ([] : List Keyword).length + (if ([] : List Keyword).isEmpty then 0 else 1) < 30)) = true := by rfl)
    (hline : (apos.endLine == cpos.line) = true := by rfl) (hs : starEach (e :: es) X.env = (false, eval e X.env) :: starEach es X.env := by rfl) (hplain : (backTo cpos (starEach es X.env)).any (·.1) = false := by rfl) :
    PE X (.Call (.Attribute o name apos) (e :: es) [] cpos) (tBM X.K T r to t) := by
  intro pins s σ H Q I h
  refine wpAny_Call_method_late hbase hfew hline rfl (thn (ho pins s σ H _ I h) fun v s1 zq => ?_)
  obtain ⟨x, H1, I1, r1, ty, q1⟩ := zq
  obtain ⟨h1, h2⟩ := tyV_is I1 r1 ty
  refine ⟨T, id, pa, slot, hty, h1, h2, ?_⟩
  have hA := ha cpos pins s1 σ H1 _ I1 q1
  rw [hs] at hA ⊢
  refine Calls.callWith_builtin (by show (false || (backTo cpos (starEach es X.env)).any (·.1)) = false; rw [hplain] <;> rfl) (Calls.evalArgs_plain ?_)
  exact thn hA fun us s2 ⟨vs, H2, I2, r2, q2⟩ => hm pins s2 σ H2 x vs v us Q I2 r1 r2 q2
/- xs.append(e), list.index on a module's tuple .. are MtR facts of 06m -/
end
end L2
namespace L2
open PySem PySem.Spec PyProof.Rows
def MtM (X : Cx) (id : String) (r : V → List V → Hp → VK → Prop) : Prop :=
  ∀ (pins : List (Addr × Obj)) (s : Shared) (σ : St) (H : Hp) (x : V) (xs : List V) (v : Value) (us : List Value) (Q : VK), Inv X pins σ H s → RelV x v → Vals xs us → r x xs H Q →
    wpAny (model X.prog X.w) X.A (call (.builtin id) (v :: us)) (EP X pins σ Q) X.xe s
theorem Vals.one : ∀ {x : V} {us : List Value}, Vals [x] us → ∃ u, us = [u] ∧ RelV x u
  | _, _, .cons r .nil => ⟨_, rfl, r⟩
theorem Vals.reverse {xs : List V} {us : List Value} (h : Vals xs us) : Vals xs.reverse us.reverse := by
  induction h with
  | nil => exact .nil
  | cons r t ih => rw [List.reverse_cons, List.reverse_cons]; exact Vals.append ih (.cons r .nil)
section
variable {X : Cx} {pins : List (Addr × Obj)} {σ : St} {H : Hp} {s : Shared} {l b : Addr} {xs ys zs : List V}
theorem Inv.lset {its its' : List Value} {n : Nat} {f : Array Value → Array Value} {t' : Nat} (I : Inv X pins σ H s) (hH : H l = some (.lst xs))
    (e : s.heap.get? l = some { cls := .type "list", data := .seq its.toArray n }) (hf : f its.toArray = its'.toArray) (hv : Vals ys its') (hz : ys.length ≤ sizeLine) :
    Inv X pins σ (upd H l (.lst ys)) { s with heap := s.heap.update l (Obj.mapSeq f), toks := t' } := by
  have q := PySem.IsL.update e f
  rw [hf] at q
  refine I.write (x := l) (e := l) (by rw [hH]; exact trivial) (.inl rfl) (fun b' u hb hu => (Heap.get?_update_other s.heap (Obj.mapSeq f) (Ne.symm hb)).trans hu) ⟨_, q⟩ ?_
  exact ⟨hz, its', _, hv, q⟩
theorem Inv.lnew {its : List Value} {t' : Nat} (I : Inv X pins σ H s) (hv : Vals ys its) (hz : ys.length ≤ sizeLine) :
    Inv X pins σ (upd H s.heap.objs.size (.lst ys)) { s with heap := s.heap.push { cls := .type "list", data := .seq its.toArray }, toks := t' } :=
  I.laid (fun _ _ q => Heap.get?_push_of_some _ q) (Nat.le_refl _) ⟨hz, its, 0, hv, Heap.get?_push_size _ rfl⟩
theorem Inv.fresh (I : Inv X pins σ H s) : H s.heap.objs.size = none := I.hok.fresh (Nat.le_refl _)
theorem Inv.lstM (I : Inv X pins σ H s) (hH : H l = some (.lst xs)) : xs.length ≤ sizeLine ∧ ∃ (its : List Value) (n : Nat), Vals xs its ∧ xs.length = its.length ∧ s.heap.get? l = some { cls := .type "list", data := .seq its.toArray n } := by
  obtain ⟨z, its, n, r, e⟩ := I.hok l _ hH
  exact ⟨z, its, n, r, r.length, e⟩
end
section
variable {X : Cx}
def rAppend : V → List V → Hp → VK → Prop := fun x vs H Q => ∃ l xs y, x = .ref l ∧ vs = [y] ∧ H l = some (.lst xs) ∧ xs.length < sizeLine ∧ Q .non (upd H l (.lst (xs ++ [y])))
theorem mt_append : MtM X "list.append" rAppend := by
  intro pins s σ H x vs v us Q I rx rv h
  obtain ⟨l, xs, y, rfl, rfl, hH, hz, q⟩ := h
  cases rx
  obtain ⟨u, rfl, ru⟩ := rv.one
  obtain ⟨z, its, n, r, hl, e⟩ := I.lstM hH
  refine call_meets F.slot_list_append ⟨_, e, rfl⟩ F.entry_list_append (F.args_list_append_2 _ _) (PySem.list_append l its.toArray n u (by rw [List.size_toArray]; omega)) ⟨e, ?_⟩
  refine ⟨.non, _, I.lset (its' := its ++ [u]) hH e (by simp) (r.append (.cons ru .nil)) ?_, rfl, q⟩
  rw [List.length_append, List.length_singleton]
  omega
end
section
variable {prog : Program} {w : World} {A : Around} {E : Value → Shared → Prop} {s : Shared}
end
section
variable {X : Cx}
end
end L2
namespace L2
open PySem PySem.Spec PyProof.Rows
section
variable {κ : Type} [DecidableEq κ]
noncomputable def valV (kvs : List (κ × V)) (k : κ) : Option V := (kvs.find? fun kv => decide (kv.1 = k)).map (·.2)
noncomputable def putK (kvs : List (κ × V)) (k : κ) (v : V) : List (κ × V) :=
  if (kvs.any fun kv => decide (kv.1 = k)) = true then kvs.map (fun kv => if kv.1 = k then (kv.1, v) else kv) else kvs ++ [(k, v)]
noncomputable def dropK (kvs : List (κ × V)) (k : κ) : List (κ × V) := kvs.filter fun kv => decide (kv.1 ≠ k)
theorem valV_pos {p : κ × V} {r : List (κ × V)} {k : κ} (e : p.1 = k) : valV (p :: r) k = some p.2 := by simp [valV, List.find?_cons, e]
theorem valV_neg {p : κ × V} {r : List (κ × V)} {k : κ} (e : ¬ p.1 = k) : valV (p :: r) k = valV r k := by simp [valV, List.find?_cons, e]
theorem valV_any (k : κ) : ∀ kvs : List (κ × V), (kvs.any fun kv => decide (kv.1 = k)) = (valV kvs k).isSome
  | [] => rfl
  | p :: r => by
    rw [List.any_cons]
    by_cases e : p.1 = k
    · simp only [valV_pos e, decide_eq_true e, Bool.true_or, Option.isSome_some]
    · rw [valV_neg e, decide_eq_false e, Bool.false_or]; exact valV_any k r
theorem length_putK (kvs : List (κ × V)) (k : κ) (v : V) : (putK kvs k v).length ≤ kvs.length + 1 := by
  unfold putK
  split
  · rw [List.length_map]; omega
  · rw [List.length_append, List.length_cons, List.length_nil]; omega
theorem putK_new {kvs : List (κ × V)} {k : κ} (v : V) (h : valV kvs k = none) : putK kvs k v = kvs ++ [(k, v)] := by
  unfold putK
  rw [valV_any, h]
  exact if_neg (by decide)
theorem RelO.isSome_eq {o : Option V} {u : Option Value} (r : RelO o u) : o.isSome = u.isSome := by
  cases o with
  | none => cases u with
    | none => rfl
    | some _ => exact (show False from r).elim
  | some _ => cases u with
    | none => exact (show False from r).elim
    | some _ => rfl
theorem RelO.getD {o : Option V} {u : Option Value} {d : V} {d' : Value} (r : RelO o u) (rd : RelV d d') : RelV (o.getD d) (u.getD d') := by
  cases o with
  | none => cases u with
    | none => exact rd
    | some _ => exact (show False from r).elim
  | some _ => cases u with
    | none => exact (show False from r).elim
    | some _ => exact r
theorem KV.val {kvs : List (κ × V)} {vs : List (κ × Value)} (r : KV kvs vs) (k : κ) : RelO (valV kvs k) (valueAt vs k) := by
  unfold KV at r
  induction r with
  | nil => exact True.intro
  | @cons p q ps qs h t ih =>
    obtain ⟨h1, h2⟩ := h
    by_cases e : p.1 = k
    · have e' : q.1 = k := h1.symm.trans e
      have b : valueAt (q :: qs) k = some q.2 := by simp [valueAt, List.find?_cons, e']
      rw [valV_pos e, b]; exact h2
    · have e' : ¬ q.1 = k := fun z => e (h1.trans z)
      have b : valueAt (q :: qs) k = valueAt qs k := by simp [valueAt, List.find?_cons, e']
      rw [valV_neg e, b]; exact ih
theorem KV.any {kvs : List (κ × V)} {vs : List (κ × Value)} (r : KV kvs vs) (k : κ) : (kvs.any fun kv => decide (kv.1 = k)) = vs.any fun kv => decide (kv.1 = k) := by
  unfold KV at r
  induction r with
  | nil => rfl
  | cons h t ih => rw [List.any_cons, List.any_cons, ih, h.1]
theorem KV.repl {kvs : List (κ × V)} {vs : List (κ × Value)} (r : KV kvs vs) (k : κ) {y : V} {u : Value} (ry : RelV y u) :
    KV (kvs.map fun kv => if kv.1 = k then (kv.1, y) else kv) (vs.map fun kv => if kv.1 = k then (kv.1, u) else kv) := by
  unfold KV at r ⊢
  induction r with
  | nil => exact .nil
  | @cons p q ps qs h t ih =>
    rw [List.map_cons, List.map_cons]
    refine .cons ?_ ih
    obtain ⟨h1, h2⟩ := h
    by_cases e : p.1 = k
    · rw [if_pos e, if_pos (h1.symm.trans e)]; exact ⟨h1, ry⟩
    · rw [if_neg e, if_neg (fun z => e (h1.trans z))]; exact ⟨h1, h2⟩
theorem KV.put {kvs : List (κ × V)} {vs : List (κ × Value)} (r : KV kvs vs) (k : κ) {y : V} {u : Value} (ry : RelV y u) : KV (putK kvs k y) (stored vs k u) := by
  unfold putK stored
  rw [r.any k]
  by_cases e : (vs.any fun kv => decide (kv.1 = k)) = true
  · rw [if_pos e, if_pos e]; exact r.repl k ry
  · rw [if_neg e, if_neg e]; exact Paired.snoc r ⟨rfl, ry⟩
theorem KV.drop {kvs : List (κ × V)} {vs : List (κ × Value)} (r : KV kvs vs) (k : κ) : KV (dropK kvs k) (without vs k) := by
  unfold KV at r ⊢
  unfold dropK without
  induction r with
  | nil => exact .nil
  | @cons p q ps qs h t ih =>
    obtain ⟨h1, h2⟩ := h
    rw [List.filter_cons, List.filter_cons]
    by_cases e : p.1 = k
    · have a : ¬ decide (p.1 ≠ k) = true := by simp [e]
      have b : ¬ decide (q.1 ≠ k) = true := by simp [h1.symm.trans e]
      rw [if_neg a, if_neg b]; exact ih
    · have e' : ¬ q.1 = k := fun z => e (h1.trans z)
      have a : decide (p.1 ≠ k) = true := by simp [e]
      have b : decide (q.1 ≠ k) = true := by simp [e']
      rw [if_pos a, if_pos b]; exact .cons ⟨h1, h2⟩ ih
theorem KV.length {kvs : List (κ × V)} {vs : List (κ × Value)} (r : KV kvs vs) : kvs.length = vs.length := Paired.length r
end
theorem kV_is {P : Program} {w : World} {k : Key} {u : Value} (r : RelV (kV k) u) : (mixKind P w).is k u = true := by
  rcases k with (_ | i) | x
  · cases (show u = Value.none from r); rfl
  · obtain ⟨t, rfl⟩ := (show ∃ t, u = Value.int i t from r); simp [mixKind, keyIs, Value.isInt]
  · obtain ⟨t, rfl⟩ := (show ∃ t, u = Value.str x t from r); simp [mixKind, keyIs, Value.isStrOf]
theorem items_are {P : Program} {w : World} : ∀ {ks : List Key} {us : List Value}, Vals (ks.map kV) us → ItemsAre (mixKind P w) ks us
  | [], _, r => by rw [List.map_nil] at r; cases r; exact .nil
  | k :: ks, _, r => by
    rw [List.map_cons] at r
    cases r with
    | cons h t => exact .cons (kV_is h) (items_are t)
abbrev KT (H : Hp) : List (List Key × V) → List (List Key × Addr × Value) → Prop := Paired fun p q => p.1 = q.1 ∧ H q.2.1 = some (.tup (p.1.map kV)) ∧ RelV p.2 q.2.2
theorem KT.val {H : Hp} {kvs : List (List Key × V)} {xs : List (List Key × Addr × Value)} (r : KT H kvs xs) (k : List Key) : RelO (valV kvs k) ((atKey xs k).map (·.2)) := by
  induction r with
  | nil => exact True.intro
  | @cons p q ps qs h t ih =>
    obtain ⟨h1, _, h2⟩ := h
    by_cases e : p.1 = k
    · have e' : q.1 = k := h1.symm.trans e
      have b : atKey (q :: qs) k = some q.2 := by simp [atKey, List.find?_cons, e']
      rw [valV_pos e, b]; exact h2
    · have e' : ¬ q.1 = k := fun z => e (h1.trans z)
      have b : atKey (q :: qs) k = atKey qs k := by simp [atKey, List.find?_cons, e']
      rw [valV_neg e, b]; exact ih
theorem KT.repl {H : Hp} {kvs : List (List Key × V)} {xs : List (List Key × Addr × Value)} (r : KT H kvs xs) (k : List Key) {y : V} {u : Value} (ry : RelV y u) :
    KT H (kvs.map fun kv => if kv.1 = k then (kv.1, y) else kv) (xs.map (putAt k u)) := by
  induction r with
  | nil => exact .nil
  | @cons p q ps qs h t ih =>
    rw [List.map_cons, List.map_cons]
    refine .cons ?_ ih
    obtain ⟨h1, h2, h3⟩ := h
    unfold putAt
    by_cases e : p.1 = k
    · rw [if_pos e, if_pos (h1.symm.trans e)]; exact ⟨h1, h2, ry⟩
    · rw [if_neg e, if_neg (fun z => e (h1.trans z))]; exact ⟨h1, h2, h3⟩
theorem KT.put {H : Hp} {kvs : List (List Key × V)} {xs : List (List Key × Addr × Value)} (r : KT H kvs xs) (k : List Key) {b : Addr} {y : V} {u : Value} (hb : H b = some (.tup (k.map kV))) (ry : RelV y u) :
    KT H (putK kvs k y) (storedH xs k b u) := by
  have e : (kvs.any fun kv => decide (kv.1 = k)) = (atKey xs k).isSome := by
    rw [valV_any, (r.val k).isSome_eq, Option.isSome_map]
  unfold putK storedH
  rw [e]
  by_cases q : (atKey xs k).isSome = true
  · rw [if_pos q, if_pos q]; exact r.repl k ry
  · rw [if_neg q, if_neg q]; exact Paired.snoc r ⟨rfl, hb, ry⟩
theorem KT.keeps {H H' : Hp} {kvs : List (List Key × V)} {xs : List (List Key × Addr × Value)} (r : KT H kvs xs) (ht : ∀ b ys, H b = some (.tup ys) → H' b = some (.tup ys)) : KT H' kvs xs :=
  Paired.mapP r fun _ _ z => ⟨z.1, ht _ _ z.2.1, z.2.2⟩
section
variable {P : Program} {w : World} {H : Hp} {h : Heap} {a : Addr}
theorem rd_of {u : HO} (ok : HOk P w H h) (e : Rd H a u) : ObjOk P w H h a u := e.ok ok
theorem dk_rd {kvs : List (Key × V)} (ok : HOk P w H h) (e : Rd H a (.dK kvs)) : kvs.length ≤ sizeLine ∧ (a == sysModules) = false ∧ ∃ vs, KV kvs vs ∧ h.DictOf (mixKind P w) a vs :=
  show ObjOk P w H h a (.dK kvs) from rd_of ok e
theorem dk_of {kvs : List (Key × V)} (ok : HOk P w H h) (e : H a = some (.dK kvs)) : kvs.length ≤ sizeLine ∧ (a == sysModules) = false ∧ ∃ vs, KV kvs vs ∧ h.DictOf (mixKind P w) a vs := dk_rd ok (.inl e)
theorem key_of {ks : List Key} (ok : HOk P w H h) (e : H a = some (.tup (ks.map kV))) : (tupleKind (mixKind P w)).is h ks a := by
  obtain ⟨_, its, r, o, h1, h2, n, h3⟩ := (show ObjOk P w H h a (.tup (ks.map kV)) from ok a _ e)
  exact ⟨o, its.toArray, n, h1, h2, h3, by simpa using items_are r⟩
theorem dt_rd {kvs : List (List Key × V)} (ok : HOk P w H h) (e : Rd H a (.dT kvs)) : kvs.length ≤ sizeLine ∧ (a == sysModules) = false ∧
    ∃ xs, KT H kvs xs ∧ h.DictOfH (tupleKind (mixKind P w)) a xs := by
  obtain ⟨z, y, xs, r, o, es, ep, h1, h2, h3, h4, h5⟩ := (show ObjOk P w H h a (.dT kvs) from rd_of ok e)
  refine ⟨z, y, xs, r, o, es, ep, h1, h2, h3, h4, fun x hx => ?_, h5⟩
  have all : ∀ {l : List (List Key × V)} {m : List (List Key × Addr × Value)}, KT H l m → ∀ x ∈ m, (tupleKind (mixKind P w)).is h x.1 x.2.1 := by
    intro l m q
    induction q with
    | nil => intro x hx; exact nomatch hx
    | @cons p q ps qs hq t ih =>
      intro x hx
      rcases List.mem_cons.mp hx with e | hx
      · subst e
        exact key_of ok (by rw [← hq.1]; exact hq.2.1)
      · exact ih x hx
  exact all r x hx
theorem dt_of {kvs : List (List Key × V)} (ok : HOk P w H h) (e : H a = some (.dT kvs)) : kvs.length ≤ sizeLine ∧ (a == sysModules) = false ∧
    ∃ xs, KT H kvs xs ∧ h.DictOfH (tupleKind (mixKind P w)) a xs := dt_rd ok (.inl e)
end
def DGet (H : Hp) (a : Addr) (y : V) (r : Option V) : Prop :=
  (∃ kvs k, Rd H a (.dK kvs) ∧ y = kV k ∧ r = valV kvs k) ∨ ∃ kvs k b, Rd H a (.dT kvs) ∧ y = .ref b ∧ H b = some (.tup (k.map kV)) ∧ r = valV kvs k
def DPut (H : Hp) (a : Addr) (y v : V) (H' : Hp) : Prop :=
  (∃ kvs k, H a = some (.dK kvs) ∧ y = kV k ∧ kvs.length < sizeLine ∧ H' = upd H a (.dK (putK kvs k v))) ∨
  ∃ kvs k b, H a = some (.dT kvs) ∧ y = .ref b ∧ H b = some (.tup (k.map kV)) ∧ kvs.length < sizeLine ∧ H' = upd H a (.dT (putK kvs k v))
theorem DGet.t {H : Hp} {a b : Addr} {kvs : List (List Key × V)} {k : List Key} (e : H a = some (.dT kvs)) (eb : H b = some (.tup (k.map kV))) : DGet H a (.ref b) (valV kvs k) := .inr ⟨kvs, k, b, .inl e, rfl, eb, rfl⟩
theorem DPut.k {H : Hp} {a : Addr} {kvs : List (Key × V)} {k : Key} {v : V} (e : H a = some (.dK kvs)) (hl : kvs.length < sizeLine) : DPut H a (kV k) v (upd H a (.dK (putK kvs k v))) := .inl ⟨kvs, k, e, rfl, hl, rfl⟩
theorem DPut.t {H : Hp} {a b : Addr} {kvs : List (List Key × V)} {k : List Key} {v : V} (e : H a = some (.dT kvs)) (eb : H b = some (.tup (k.map kV))) (hl : kvs.length < sizeLine) :
    DPut H a (.ref b) v (upd H a (.dT (putK kvs k v))) := .inr ⟨kvs, k, b, e, rfl, eb, hl, rfl⟩
section
variable {X : Cx} {pins : List (Addr × Obj)} {σ : St} {H : Hp} {s : Shared} {a : Addr} {y v : V} {u r : Value} {o : Option V} {A : Around} {E : Value → Shared → Prop}
theorem Inv.big (I : Inv X pins σ H s) : sysModules < s.heap.objs.size := by
  have h : mainGlobals < s.heap.objs.size := (I.mod.glob.keeps I.bk).lt
  exact Nat.lt_trans (by decide) h
theorem d_write {h' : Heap} {t' : Nat} {ob : HO} (I : Inv X pins σ H s) (mu : Mut (H a)) (hs : Heap.SameBut a s.heap h') (he : ∃ q, h'.get? a = some q) (new : ObjOk X.prog X.w (upd H a ob) h' a ob) :
    Inv X pins σ (upd H a ob) { s with heap := h', toks := t' } :=
  I.write (x := a) (e := a) mu (.inl rfl) (fun b q hb z => (hs.2 b hb).trans z) he new
theorem dk_new {P : Program} {w : World} {H' : Hp} {h' : Heap} {kvs : List (Key × V)} {vs : List (Key × Value)} (z : kvs.length ≤ sizeLine) (hd : (a == sysModules) = false) (rel : KV kvs vs) (dd : h'.DictOf (mixKind P w) a vs) :
    ObjOk P w H' h' a (.dK kvs) := ⟨z, hd, vs, rel, dd⟩
theorem d_setItem {H' : Hp} {Q : Unit → Shared → Prop} (hu : A.units + 1 < cLine) (I : Inv X pins σ H s) (g : DPut H a y v H') (ry : RelV y u) (rv : RelV v r) (h : ∀ s', Inv X pins σ H' s' → Q () s') :
    wpAny (model X.prog X.w) A (setItem (.ref a) u r) Q E s := by
  rcases g with ⟨kvs, k, e, ey, l, eH⟩ | ⟨kvs, k, b, e, ey, eb, l, eH⟩
  · subst ey eH
    obtain ⟨z, hd, vs, rel, dd⟩ := dk_of I.hok e
    have hz : vs.length ≤ sizeLine := by rw [← rel.length]; exact z
    have hl : (putK kvs k v).length ≤ sizeLine := by have := length_putK kvs k v; omega
    refine wpAny_setItem_pairs (hsz := hz) (kV_is ry) dd fun h' dd' hs => h _ ?_
    have he : ∃ q, h'.get? a = some q := let ⟨q, _, _, hq, _⟩ := dd'; ⟨q, hq⟩
    exact d_write I (by rw [e]; exact True.intro) hs he (dk_new hl hd (rel.put k rv) dd')
  · subst ey eH
    cases (show u = Value.ref b from ry)
    obtain ⟨z, hd, xs, rel, dd⟩ := dt_of I.hok e
    have hz : xs.length ≤ sizeLine := by rw [← Paired.length rel]; exact z
    have hl : (putK kvs k v).length ≤ sizeLine := by have := length_putK kvs k v; omega
    refine wpAny_setItem_heap (hsz := hz) (tupleKind_room_in1 hu) (key_of I.hok eb) dd fun h' dd' hs => h _ ?_
    obtain ⟨q, es, ep, hq, h2, h3, h4, _, h5⟩ := dd'
    refine d_write I (by rw [e]; exact True.intro) hs ⟨q, hq⟩ ⟨hl, hd, _, (rel.put k eb rv).keeps fun c ys ec => ?_, q, es, ep, hq, h2, h3, h4, h5⟩
    rw [upd_ne (ne_of ec e (fun z => nomatch z))]
    exact ec
end
section
variable {X : Cx} {pins : List (Addr × Obj)} {σ : St} {H : Hp} {s : Shared} {a : Addr} {kvs : List (Key × V)} {k : Key} {u : Value} {A : Around} {E : Value → Shared → Prop}
end
def sDPut (td ty tv : TE) : TS := fun D σ H => tv σ H fun v H1 => td σ H1 fun x H2 => ty σ H2 fun y H3 => ∃ a H4, x = .ref a ∧ DPut H3 a y v H4 ∧ D.nx σ H4
section
variable {X : Cx} {o i e value : Expr} {pos pos' tpos : Pos} {td ty tv : TE}
theorem ps_dput (hu : X.A.units + 1 < cLine) (ho : PE X o td) (hi : PE X i ty) (hv : PE X value tv) (hs : swapsWith value (some (.Subscript o i pos')) pos.line X.env = pure false) :
    PS X (.Assign [.Subscript o i pos'] value pos) (sDPut td ty tv) := by
  intro pins s σ H D I h
  refine wpAny_Assign_Subscript (thn (hv pins s σ H _ I h) fun r s1 ⟨v, H1, I1, rv, q1⟩ => thn (ho pins s1 σ H1 _ I1 q1) fun u s2 ⟨x, H2, I2, rx, q2⟩ => thn (hi pins s2 σ H2 _ I2 q2) fun iv s3 zq => ?_) hs
  obtain ⟨y, H3, I3, ry, a, H4, ex, g, q3⟩ := zq
  subst ex
  obtain rfl : u = Value.ref a := rx
  exact d_setItem hu I3 g ry rv fun s4 I4 => ⟨σ, H4, I4, q3⟩
end
theorem dk_empty {P : Program} {w : World} {H : Hp} (h : Heap) (hb : sysModules < h.objs.size) : ObjOk P w H (h.push { cls := .type "dict", data := .dict #[] }) h.objs.size (.dK []) :=
  ⟨Nat.zero_le _, beq_eq_false_iff_ne.mpr (Ne.symm (Nat.ne_of_lt hb)), [], .nil, Heap.DictOf.new h⟩
section
variable {X : Cx} {pos : Pos}
end
noncomputable def tPairs : List (TE × TE) → St → Hp → (List (V × V) → Hp → Prop) → Prop
  | [], _, H, Q => Q [] H
  | (tk, tv) :: r, σ, H, Q => tk σ H fun x H1 => tv σ H1 fun y H2 => tPairs r σ H2 fun ps H3 => Q ((x, y) :: ps) H3
abbrev VV : List (V × V) → List (Value × Value) → Prop := Paired fun p q => RelV p.1 q.1 ∧ RelV p.2 q.2
def PPs (X : Cx) (pos : Pos) (keys : List (Option Expr)) (values : List Expr) (trs : List (TE × TE)) : Prop :=
  ∀ (pins : List (Addr × Obj)) (s : Shared) (σ : St) (H : Hp) (Q : List (V × V) → Hp → Prop), Inv X pins σ H s → tPairs trs σ H Q →
    wpAny (model X.prog X.w) X.A (evalPairs (pairTrees keys values X.env pos)) (fun vs s' => ∃ ps H', Inv X pins σ H' s' ∧ VV ps vs ∧ Q ps H') X.xe s
theorem pps_nil {X : Cx} {pos : Pos} : PPs X pos [] [] [] := fun pins s σ H Q I h => pairTrees_nil_walk ⟨[], H, I, .nil, h⟩
theorem pps_cons {X : Cx} {pos : Pos} {k v : Expr} {ks : List (Option Expr)} {vs : List Expr} {tk tv : TE} {trs : List (TE × TE)} (hk : PE X k tk) (hv : PE X v tv) (hr : PPs X pos ks vs trs) :
    PPs X pos (some k :: ks) (v :: vs) ((tk, tv) :: trs) := fun pins s σ H Q I h =>
  pairTrees_cons_walk (thn (hk pins s σ H _ I h) fun u s1 ⟨x, H1, I1, rx, q1⟩ => thn (hv pins s1 σ H1 _ I1 q1) fun w2 s2 ⟨y, H2, I2, ry, q2⟩ =>
    thn (hr pins s2 σ H2 _ I2 q2) fun ws s3 ⟨ps, H3, I3, rel, q3⟩ => ⟨(x, y) :: ps, H3, I3, .cons ⟨rx, ry⟩ rel, q3⟩)
noncomputable def mergeK (kvs more : List (Key × V)) : List (Key × V) := more.foldl (fun acc kv => putK acc kv.1 kv.2) kvs
theorem KV.merge : ∀ {more : List (Key × V)} {rs : List (Key × Value)} {kvs : List (Key × V)} {vs : List (Key × Value)}, KV more rs → KV kvs vs → KV (mergeK kvs more) (merged vs rs) := by
  intro more rs kvs vs r
  unfold KV at r
  induction r generalizing kvs vs with
  | nil => intro q; exact q
  | @cons p q ps qs h t ih =>
    intro r0
    have e : KV (putK kvs p.1 p.2) (stored vs q.1 q.2) := by
      have := r0.put p.1 h.2
      rw [← h.1]; exact this
    exact ih e
theorem length_mergeK : ∀ (more kvs : List (Key × V)), (mergeK kvs more).length ≤ kvs.length + more.length
  | [], kvs => by show kvs.length ≤ kvs.length + 0; omega
  | p :: r, kvs => by
    have h1 := length_mergeK r (putK kvs p.1 p.2)
    have h2 := length_putK kvs p.1 p.2
    show (mergeK (putK kvs p.1 p.2) r).length ≤ _
    rw [List.length_cons]; omega
theorem carries_of {P : Program} {w : World} : ∀ {kvs : List (Key × V)} {ws : List (Value × Value)}, VV (kvs.map fun kv => (kV kv.1, kv.2)) ws → ∃ rs, Carries (mixKind P w) ws rs ∧ KV kvs rs
  | [], _, r => by rw [List.map_nil] at r; cases r; exact ⟨[], True.intro, .nil⟩
  | p :: kvs, _, r => by
    rw [List.map_cons] at r
    cases r with
    | @cons a b as bs h t =>
      obtain ⟨rs, c, q⟩ := carries_of (P := P) (w := w) t
      obtain ⟨b1, b2⟩ := b
      exact ⟨(p.1, b2) :: rs, ⟨kV_is h.1, rfl, c⟩, .cons ⟨rfl, h.2⟩ q⟩
def tDisp (trs : List (TE × TE)) : TE := fun σ H Q => ∀ p, H p = none → tPairs trs σ (upd H p (.dK [])) fun ps H2 => H2 p = some (.dK []) ∧ ∃ kvs : List (Key × V), ps = kvs.map (fun kv => (kV kv.1, kv.2)) ∧ kvs.length ≤ 15 ∧ Q (.ref p) (upd H2 p (.dK (mergeK [] kvs)))
theorem pe_disp {X : Cx} {pos : Pos} {keys : List (Option Expr)} {values : List Expr} {trs : List (TE × TE)} (h : PPs X pos keys values trs) (hall : keys.all (·.isSome) = true) (hl : keys.length = values.length) (h0 : keys ≠ [])
    (h15 : keys.length ≤ 15) : PE X (.Dict keys values pos) (tDisp trs) := by
  intro pins s σ H Q I q
  have hn := I.hok.fresh (Nat.le_refl s.heap.objs.size)
  have I1 := I.laid (a := s.heap.objs.size) (o := .dK []) (h' := s.heap.push { cls := .type "dict", data := .dict #[] }) (t' := s.toks) (fun _ _ q => Heap.get?_push_of_some _ q) (Nat.le_refl _) (dk_empty s.heap I.big)
  refine wpAny_Dict_walk (knd := mixKind X.prog X.w) hall hl h0 h15 (thn (h pins _ σ _ _ I1 (q _ hn)) fun ws s2 zq => ?_)
  obtain ⟨ps, H2, I2, rel, e, kvs, ep, lk, q2⟩ := zq
  subst ep
  obtain ⟨rs, c, rk⟩ := carries_of (P := X.prog) (w := X.w) rel
  obtain ⟨z, hd, vs0, r0, dd⟩ := dk_of I2.hok e
  cases r0
  refine ⟨rs, c, dd, fun h' dd' hs => ⟨.ref s.heap.objs.size, _, ?_, rfl, q2⟩⟩
  have hz : (mergeK [] kvs).length ≤ sizeLine := by
    have h1 := length_mergeK kvs []
    rw [List.length_nil] at h1
    rw [sizeLine_eq]; omega
  have he : ∃ q, h'.get? s.heap.objs.size = some q := let ⟨q, _, _, hq, _⟩ := dd'; ⟨q, hq⟩
  exact d_write I2 (by rw [e]; exact True.intro) hs he (dk_new hz hd (rk.merge .nil) dd')
structure M2 (X : Cx) (o : Expr) (m : Str) (apos : Pos) (e f : Expr) (cpos : Pos) : Prop where
  base : attributeBase o m X.env (eval o X.env) = eval o X.env
  few : ((backTo cpos (starEach [e, f] X.env)).all (fun x => !x.1) && (backToKw cpos (keywordEach [] X.env)).all (fun x => x.1.isSome)
    && decide (([e, f] : List Expr).length + ([] : List Keyword).length + (if ([] : List Keyword).isEmpty then 0 else 1) < 30)) = true
  line : (apos.endLine == cpos.line) = true
  trees : backTo cpos (starEach [e, f] X.env) = [(false, eval e X.env), (false, eval f X.env)]
def IsD (H : Hp) (a : Addr) : Prop := (∃ kvs, Rd H a (.dK kvs)) ∨ ∃ kvs, Rd H a (.dT kvs)
theorem isD_at {X : Cx} {pins : List (Addr × Obj)} {σ : St} {H : Hp} {s : Shared} {a : Addr} (I : Inv X pins σ H s) (d : IsD H a) :
    s.TypeIs (.ref a) "dict" ∧ (∀ b, Value.ref a = .ref b → ∃ ob, s.heap.get? b = some ob ∧ ob.dict = none) ∧ (a == sysModules) = false := by
  rcases d with ⟨kvs, e⟩ | ⟨kvs, e⟩
  · obtain ⟨_, hd, vs, _, dd⟩ := dk_rd I.hok e
    refine ⟨dd.typeIs, fun b q => ?_, hd⟩
    cases q
    obtain ⟨ob, _, _, h1, h2, _⟩ := dd
    exact ⟨ob, h1, h2.2.1⟩
  · obtain ⟨_, hd, xs, _, dd⟩ := dt_rd I.hok e
    refine ⟨dd.typeIs, fun b q => ?_, hd⟩
    cases q
    obtain ⟨ob, _, _, h1, h2, _⟩ := dd
    exact ⟨ob, h1, h2.2.1⟩
section
variable {X : Cx} {pins : List (Addr × Obj)} {σ : St} {H : Hp} {s : Shared} {a : Addr} {y d : V} {u r : Value} {o : Option V} {A : Around} {E : Value → Shared → Prop}
theorem d_get2 {Q : Value → Shared → Prop} (hu : A.units + 1 < cLine) (I : Inv X pins σ H s) (g : DGet H a y o) (ry : RelV y u) (rd : RelV d r) (h : ∀ w' s', Inv X pins σ H s' → RelV (o.getD d) w' → Q w' s') :
    wpAny (model X.prog X.w) A (call (.builtin "dict.get") [.ref a, u, r]) Q E s := by
  rcases g with ⟨kvs, k, e, ey, l⟩ | ⟨kvs, k, b, e, ey, eb, l⟩
  · subst ey
    obtain ⟨z, hd, vs, rel, dd⟩ := dk_rd I.hok e
    refine call_meetsIn PySem.F.slot_dict_get dd.typeIs PySem.F.entry_dict_get (PySem.F.args_dict_get_3 _ _ _) (meets_dict_get_default (mixKind X.prog X.w) a (kV_is ry) hd r) ⟨_, dd.mapOf, h _ _ (I.tok _) ?_⟩
    rw [l]
    exact (rel.val k).getD rd
  · subst ey
    cases (show u = Value.ref b from ry)
    obtain ⟨z, hd, xs, rel, dd⟩ := dt_rd I.hok e
    refine call_meetsIn PySem.F.slot_dict_get dd.typeIs PySem.F.entry_dict_get (PySem.F.args_dict_get_3 _ _ _) (meetsH_dict_get_default (tupleKind (mixKind X.prog X.w)) a b hd r) ⟨tupleKind_room_in1 hu, k, xs, key_of I.hok eb, dd, h _ _ (I.tok _) ?_⟩
    rw [l]
    exact (rel.val k).getD rd
end
def tDGet2 (td ty tx : TE) : TE := fun σ H Q => td σ H fun x H1 => ∃ a, x = .ref a ∧ IsD H1 a ∧ ty σ H1 fun y H2 => tx σ H2 fun z H3 => ∃ o, DGet H3 a y o ∧ Q (o.getD z) H3
section
variable {X : Cx} {o e f : Expr} {apos cpos : Pos} {td ty tx : TE}
theorem pe_dget2 (hu : X.A.units + 1 < cLine) (ho : PE X o td) (he : PE X e ty) (hf : PE X f tx) (m : M2 X o "get" apos e f cpos) : PE X (.Call (.Attribute o "get" apos) [e, f] [] cpos) (tDGet2 td ty tx) := by
  intro pins s σ H Q I h
  refine wpAny_Call_method m.base m.few m.line PySem.F.plainAttrs_dict PySem.F.slot_dict_get PySem.F.type_dict_get (thn (ho pins s σ H _ I h) fun u s1 zq => ?_)
  obtain ⟨x, H1, I1, rx, a, ex, d, q1⟩ := zq
  subst ex
  obtain rfl : u = Value.ref a := rx
  obtain ⟨t1, t2, _⟩ := isD_at I1 d
  refine ⟨t1, t2, ?_⟩
  rw [m.trees]
  refine Calls.callWith_builtin rfl (Calls.evalArgs_plain (Calls.spliced_cons (thn (he pins s1 σ H1 _ I1 q1) fun iv s2 ⟨y, H2, I2, ry, q2⟩ =>
    Calls.spliced_cons (thn (hf pins s2 σ H2 _ I2 q2) fun fv s3 ⟨z, H3, I3, rz, ov, g, q3⟩ => Calls.spliced_nil ?_))))
  exact d_get2 hu I3 g ry rz fun w' s4 I4 rw' => ⟨_, H3, I4, rw', q3⟩
end
section
variable {X : Cx} {pins : List (Addr × Obj)} {σ : St} {H : Hp} {s : Shared} {a : Addr} {kvs : List (Key × V)} {A : Around} {E : Value → Shared → Prop}
end
section
variable {X : Cx} {pins : List (Addr × Obj)} {σ : St} {H : Hp} {s : Shared} {a : Addr} {y : V} {u : Value} {A : Around} {E : Value → Shared → Prop}
end
end L2
namespace Att
open PySem PySem.W PySem.Calls PyProof.Rows
theorem ints_of_wellAll {P : Params} {h : Heap} : ∀ (ns : List Int) (vs : List Value), WellAll P h vs (ns.map WData.int) → IntsAre vs ns := by
  intro ns
  induction ns with
  | nil =>
    intro vs w
    rw [List.map_nil] at w
    cases w
    exact .nil
  | cons n ns ih =>
    intro vs w
    rw [List.map_cons] at w
    cases w with
    | cons a b =>
      cases a
      exact .cons _ _ (ih _ b)
theorem script_of {l : OpenLaw} {n : Nat} (hn : l.most = some n) {P : Params} {h : Heap} {args : List WData} {vals : List Value}
    (hpre : l.row.toRowW.claim.pre args = true) (hwl : WellAll P h vals args) :
    ∃ a vs ns, vals = [Value.ref a] ∧ args = [WData.list (ns.map WData.int)] ∧ h.get? a = some { cls := .type "list", data := .seq vs.toArray } ∧ IntsAre vs ns ∧ ns.length ≤ n := by
  have hsh : WShape.hasAll [] args [.list .int] = true := (pre_splitW hpre).1
  have hc : l.pre.holds [] { args := args } = true := (pre_splitW hpre).2
  obtain ⟨d, r, rfl, h1, h2⟩ := hasAllW_cons hsh
  obtain rfl := hasAllW_nil h2
  obtain ⟨xs, rfl, h3⟩ := hasW_list h1
  obtain ⟨ns, rfl⟩ := items_int h3
  have hlen : ns.length ≤ n := by
    unfold OpenLaw.pre at hc
    have h4 : (WTm.not (.lt (.lit (.int (n : Int))) (.len (.arg 0)))).holds [] { args := [.list (ns.map .int)] } = true := by
      have h4 := (holds_andW hc).1
      rw [hn] at h4
      exact h4
    have h5 := condW_of h4 (w_not (w_lt w_lit (w_len_list (w_arg rfl))))
    rw [List.length_map] at h5
    refine Nat.le_of_not_lt fun q => ?_
    have q' : (n : Int) < ((ns.length : Nat) : Int) := by omega
    first
      | (rw [decide_eq_true q'] at h5; exact absurd h5 (by decide))
      | (simp at h5; omega)
  cases hwl with
  | cons w1 w2 =>
    cases w2
    cases w1 with
    | list ho hall => exact ⟨_, _, ns, rfl, rfl, ho, ints_of_wellAll ns _ hall, hlen⟩
theorem post_true (l : OpenLaw) (args : List WData) : l.row.toRowW.claim.post args (.bool true) args = true :=
  postW_of (r := l.row.toRowW) (X := (true == true))
    (show WShape.has [] (.bool true) .bool = true by first | rfl | decide | simp [WShape.has, WShape.arms, WShape.armsAll])
    (show (WTm.eq .res (.lit (.bool true))).value [] { args := args, res := some (.bool true), after := args } = some (.bool (true == true)) from w_eq_bool (w_res rfl) w_lit) rfl
section
variable {prog : Program} {w : World} {A : Around} {E : Value → Shared → Prop} {s : Shared} {K : Frag}
end
end Att
namespace L2
open PySem PySem.Spec PyProof.Rows
theorem vals_ints : ∀ {vs : List Value} {ns : List Int}, IntsAre vs ns → Vals (ns.map V.int) vs
  | _, _, .nil => .nil
  | _, _, .cons n t h => .cons ⟨t, rfl⟩ (vals_ints h)
end L2
namespace L2
open PySem PySem.Spec PyProof.Rows
noncomputable def defArgs (s : Stmt) : Arguments := match s with
  | .FunctionDef _ a _ _ _ _ _ _ _ _ => a
  | _ => { posonlyargs := [], args := [], vararg := none, kwonlyargs := [], kw_defaults := [], kwarg := none, defaults := [] }
noncomputable def defBody (s : Stmt) : List Stmt := match s with
  | .FunctionDef _ _ b _ _ _ _ _ _ _ => b
  | _ => []
noncomputable def defScope (s : Stmt) : Scope := match s with
  | .FunctionDef _ _ _ _ _ _ sc _ _ _ => sc
  | _ => { kind := .function, names := [], isGenerator := false, isCoroutine := false }
abbrev CX0 : CXT := fun _ _ _ _ _ _ => False
abbrev E0 : XK := fun _ _ _ => False
theorem pass0 {X : Cx} : Passes CX0 X E0 := fun _ _ _ _ _ _ _ h => h.elim
structure Fun (K : PySem.W.Frag) (x qual : Str) (st : Stmt) (f : Addr) (fd : FuncData) : Prop where
  ex : ∃ (oc : Value) (od : Option Addr) (kV doc pm : Value) (an : Option Addr) (cdv ct : Value) (osl : Array (Option Value)),
    fd = PySem.W.fnOf x qual (defArgs st) (defBody st) (defScope st) .none kV doc pm an cdv ct ∧ K.lookup f = some ⟨oc, od, .func fd, osl⟩ ∧ PySem.W.codeIn K cdv qual = true
  kp : PySem.W.keepIn K (.ref f) = true
section
variable {P : Program} {w : World} {K : PySem.W.Frag} {mg : Str → Option Value} {base : Heap}
theorem Fun.ok {x qual : Str} {st : Stmt} {f : Addr} {fd : FuncData} {N ps : List Str} {k : Nat} {sp : Sp} (F : Fun K x qual st f fd) (S : FnScope N ps (defScope st)) (len : ∀ vs H Q E, sp vs H Q E → vs.length = ps.length)
    (hbody : ∀ (cdv : Value) (A : Around) (outer : List Env) (s : Shared) (H : Hp) (vs : List V) (Q : VK) (E : XK), Room k (A.deeper (envOfC qual (defScope st) s.heap.objs.size f cdv)) → sp vs H Q E →
      ∃ t, PSs (cxOf CX0 P w K mg base N qual (defScope st) f cdv A outer s H E).nox (defBody st) t ∧ t { nx := fun _ H' => Q .non H', rt := Q } (start N vs) H) : FnOk P w K mg base CX0 (k + 1) f fd ps sp := by
  obtain ⟨oc, od, kV, doc, pm, an, cdv, ct, osl, rfl, lk, hcd⟩ := F.ex
  refine fn_of lk hcd S len fun A outer s H vs Q E hr hsp => ?_
  obtain ⟨t, h, q⟩ := hbody cdv A outer s H vs Q E hr hsp
  exact ⟨t, h.nox, q⟩
theorem Fun.binds {x qual : Str} {st : Stmt} {f : Addr} {fd : FuncData} {ps : List Str} (F : Fun K x qual st f fd)
    (h : ∀ (kV doc pm : Value) (an : Option Addr) (cdv ct : Value) (us : List Value), us.length = ps.length → bindArgs (PySem.W.fnOf x qual (defArgs st) (defBody st) (defScope st) .none kV doc pm an cdv ct) ⟨us, []⟩ = pure (ps.zip us)) : Binds K fd ps [] := by
  obtain ⟨oc, od, kV, doc, pm, an, cdv, ct, osl, rfl, lk, hcd⟩ := F.ex
  exact .all (h kV doc pm an cdv ct)
theorem fun_mk {x qual : Str} {st : Stmt} {f : Addr} {oc : Value} {od an : Option Addr} {osl : Array (Option Value)} {kV doc pm cdv ct : Value} (l : K.lookup f = some ⟨oc, od, .func (PySem.W.fnOf x qual (defArgs st) (defBody st) (defScope st) .none kV doc pm an cdv ct), osl⟩)
    (c : PySem.W.codeIn K cdv qual = true) (k : PySem.W.keepIn K (.ref f) = true) : Fun K x qual st f (PySem.W.fnOf x qual (defArgs st) (defBody st) (defScope st) .none kV doc pm an cdv ct) := ⟨⟨oc, od, kV, doc, pm, an, cdv, ct, osl, rfl, l, c⟩, k⟩
end
section
variable {X : Cx}
theorem pv (i : Nat) {x : Str} {pos : Pos} (hN : X.N[i]? = some x := by rfl) (hv : Vis X.env.scope x := by first | exact Or.inl rfl | exact Or.inr (Or.inl rfl) | exact Or.inr (Or.inr rfl)) (hd : (x == ("__debug__" : Str)) = false := by decide)
    (hcd : (x == ("__classdict__" : Str)) = false := by decide) : PE X (.Name x pos) (tVar i) := pe_var hN hv hd hcd
end
theorem iteF {A B : Prop} (h : B) : if false = true then A else B := by
  rw [if_neg Bool.false_ne_true]
  exact h
theorem iteT {A B : Prop} (h : A) : if true = true then A else B := by
  rw [if_pos rfl]
  exact h
def Same (H H' : Hp) : Prop := ∀ b o, H b = some o → H' b = some o
theorem Same.refl (H : Hp) : Same H H := fun _ _ h => h
theorem Same.trans {H H1 H2 : Hp} (a : Same H H1) (b : Same H1 H2) : Same H H2 := fun c o h => b c o (a c o h)
theorem Same.free {H H' : Hp} (e : Same H H') {l : Addr} (h : H' l = Option.none) : H l = Option.none := by
  cases q : H l with
  | none => rfl
  | some o =>
    rw [e l o q] at h
    cases h
theorem Same.seq {K : PySem.W.Frag} {H H' : Hp} {a : Addr} {xs : List V} (e : Same H H') (h : SqL K H a xs) : SqL K H' a xs := by
  rcases h with (h | ⟨o, h⟩) | h
  · exact .inl (.inl (e _ _ h))
  · exact .inl (.inr ⟨o, e _ _ h⟩)
  · exact .inr h
end L2
namespace L2
open PySem PySem.Spec PyProof.Rows
section
variable {X : Cx}
end
section
variable {κ : Type} [DecidableEq κ]
end
end L2
namespace L2
open PySem PySem.Spec PyProof.Rows
noncomputable def closL (env : Env) : List (Str × NameKind) → List (Str × Addr) → List (Str × Addr)
  | [], cs => cs
  | (n, k) :: r, cs => closL env r (if k == NameKind.free then (match env.cells.lookup n with | some c => (n, c) :: cs | none => cs) else cs)
theorem closureFor_of {scope : Scope} {env : Env} (h : ∀ y ∈ scope.names, y.2 = NameKind.free → ∃ c, env.cells.lookup y.1 = some c) : closureFor scope env = pure (closL env scope.names []) := by
  simp only [closureFor]
  generalize ([] : List (Str × Addr)) = cs
  revert h cs
  generalize scope.names = l
  intro h
  induction l with
  | nil => intro cs; rfl
  | cons y r ih =>
    intro cs
    obtain ⟨n, k⟩ := y
    have ihr := ih fun z hz => h z (List.mem_cons_of_mem _ hz)
    simp only [List.forIn_cons, closL]
    by_cases hk : k = NameKind.free
    · obtain ⟨c, hc⟩ := h (n, k) List.mem_cons_self hk
      have hc' : env.cells.lookup n = some c := hc
      have hcell : cellOf env n = pure c := by unfold cellOf; rw [hc']
      subst hk
      simp only [hcell, hc', beq_self_eq_true, if_true, pure_bind, bind_pure_comp, map_pure, bind_assoc]
      first
        | exact ihr _
        | simpa using ihr _
    · have hb : (k == NameKind.free) = false := by simpa using hk
      simp only [hb, Bool.false_eq_true, if_false, pure_bind]
      first
        | exact ihr _
        | simpa using ihr _
theorem closL_from {env : Env} : ∀ (l : List (Str × NameKind)) (cs : List (Str × Addr)), (∀ x c, cs.lookup x = some c → env.cells.lookup x = some c) → ∀ x c, (closL env l cs).lookup x = some c → env.cells.lookup x = some c
  | [], _, h => h
  | (n, k) :: r, cs, h => by
    unfold closL
    refine closL_from r _ fun x c e => ?_
    split at e
    · cases hc : env.cells.lookup n with
      | none => rw [hc] at e; exact h x c e
      | some c' =>
        rw [hc] at e
        simp only [List.lookup_cons] at e
        by_cases hx : x == n
        · rw [hx] at e
          cases e
          rw [beq_iff_eq] at hx
          rw [hx]
          exact hc
        · have hx' : (x == n) = false := by simpa using hx
          rw [hx'] at e
          exact h x c e
    · exact h x c e
theorem closL_keep {env : Env} : ∀ (l : List (Str × NameKind)) (cs : List (Str × Addr)) (x : Str), (∃ c, cs.lookup x = some c) → ∃ c, (closL env l cs).lookup x = some c
  | [], _, _, h => h
  | (n, k) :: r, cs, x, h => by
    unfold closL
    refine closL_keep r _ x ?_
    split
    · cases hc : env.cells.lookup n with
      | none => exact h
      | some c' =>
        simp only [List.lookup_cons]
        by_cases hx : x == n
        · rw [hx]; exact ⟨_, rfl⟩
        · have hx' : (x == n) = false := by simpa using hx
          rw [hx']; exact h
    · exact h
theorem closL_has {env : Env} : ∀ (l : List (Str × NameKind)) (cs : List (Str × Addr)) (x : Str) (c : Addr), (x, NameKind.free) ∈ l → env.cells.lookup x = some c → ∃ c, (closL env l cs).lookup x = some c
  | [], _, _, _, h, _ => nomatch h
  | (n, k) :: r, cs, x, c, h, hc => by
    unfold closL
    rcases List.mem_cons.mp h with e | e
    · cases e
      refine closL_keep r _ _ ?_
      simp only [beq_self_eq_true, if_true, hc, List.lookup_cons]
      exact ⟨_, rfl⟩
    · exact closL_has r _ x c e hc
theorem lookup_relabel_free {env : Env} : ∀ {names : List (Str × NameKind)} {x : Str}, names.lookup x = some NameKind.free →
    (names.map fun (n, k) => if (k == NameKind.free && env.scope.kind == .function && env.kindOf n == some .cell) then (n, NameKind.cell) else (n, k)).lookup x = some NameKind.cell ∨
    (names.map fun (n, k) => if (k == NameKind.free && env.scope.kind == .function && env.kindOf n == some .cell) then (n, NameKind.cell) else (n, k)).lookup x = some NameKind.free
  | [], _, h => by simp at h
  | (n, k) :: r, x, h => by
    have ih := @lookup_relabel_free env r x
    simp only [List.map_cons]
    cases hx : x == n with
    | true =>
      simp only [List.lookup_cons, hx] at h
      cases h
      by_cases hc : (NameKind.free == NameKind.free && env.scope.kind == .function && env.kindOf n == some .cell) = true
      · rw [if_pos hc]; left; simp only [List.lookup_cons, hx]
      · rw [if_neg hc]; right; simp only [List.lookup_cons, hx]
    | false =>
      simp only [List.lookup_cons, hx] at h
      by_cases hc : (k == NameKind.free && env.scope.kind == .function && env.kindOf n == some .cell) = true
      · rw [if_pos hc]; simp only [List.lookup_cons, hx]; exact ih h
      · rw [if_neg hc]; simp only [List.lookup_cons, hx]; exact ih h
theorem of_relabel {env : Env} : ∀ {names : List (Str × NameKind)} {x : Str} {k' : NameKind}, (∀ y ∈ names, y.2 ≠ NameKind.cell) →
    (names.map fun (n, k) => if (k == NameKind.free && env.scope.kind == .function && env.kindOf n == some .cell) then (n, NameKind.cell) else (n, k)).lookup x = some k' → (k' = NameKind.cell ∨ k' = NameKind.free) → (x, NameKind.free) ∈ names
  | [], _, _, _, h, _ => by simp at h
  | (n, k) :: r, x, k', hn, h, hk => by
    have ih := @of_relabel env r x k' fun y hy => hn y (List.mem_cons_of_mem _ hy)
    simp only [List.map_cons] at h
    cases hx : x == n with
    | true =>
      have ex : x = n := by simpa using hx
      by_cases hc : (k == NameKind.free && env.scope.kind == .function && env.kindOf n == some .cell) = true
      · have : k = NameKind.free := by
          simp only [Bool.and_eq_true, beq_iff_eq] at hc
          exact hc.1.1
        subst this; subst ex
        exact List.mem_cons_self
      · rw [if_neg hc] at h
        simp only [List.lookup_cons, hx] at h
        cases h
        rcases hk with hk | hk
        · exact absurd hk (hn (n, k) List.mem_cons_self)
        · subst hk; subst ex; exact List.mem_cons_self
    | false =>
      by_cases hc : (k == NameKind.free && env.scope.kind == .function && env.kindOf n == some .cell) = true
      · rw [if_pos hc] at h; simp only [List.lookup_cons, hx] at h; exact List.mem_cons_of_mem _ (ih h hk)
      · rw [if_neg hc] at h; simp only [List.lookup_cons, hx] at h; exact List.mem_cons_of_mem _ (ih h hk)
section
variable {X : Cx}
structure CI where
  C : Addr
  s : Shared
  H : Hp
  ex : List Addr
noncomputable def compCx (X : Cx) (scope : Scope) (NY : List Str) (c : CI) : Cx where
  prog := X.prog
  w := X.w
  K := X.K
  mg := X.mg
  base := X.base
  A := X.A
  N := NY
  s₀ := c.s
  H₀ := c.H
  env := compEnvC scope (closL X.env scope.names []) c.C X.env
  outer := X.stack
  stack := X.stack
  ex := c.ex
  fn := fun _ => false
  calm := X.calm
  pn := []
  xe := fun _ _ => False
theorem Inv.adopt {pins : List (Addr × Obj)} {σ : St} {H : Hp} {s : Shared} {a : Addr} {o : HO} (I : Inv X pins σ H s) (hn : H a = none) (young : X.s₀.heap.objs.size ≤ a) (hL : a ≠ X.env.locals)
    (hc : ∀ x c, X.env.cells.lookup x = some c → c ≠ a) (hp : ∀ p ∈ X.pn ++ pins, p.1 ≠ a) (new : ObjOk X.prog X.w (upd H a o) s.heap a o) : Inv X pins σ (upd H a o) s := by
  have ne : ∀ {b : Addr} {u : HO}, H b = some u → b ≠ a := fun e z => by rw [z, hn] at e; cases e
  refine ⟨I.ok, I.os, I.bare, ⟨I.base.keep, I.base.slot, fun b ob q n hx => ?_, I.base.there, fun b xs q => ?_, fun b ob u q => ?_, fun b ps q => ?_⟩, I.loc, I.cell, ?_, fun x c e => ?_, fun p hpm => ?_, fun b u e => ?_, I.len⟩
  · rw [upd_ne (Nat.ne_of_lt (Nat.lt_of_lt_of_le (Heap.lt_size q) young))]
    exact I.base.free b ob q n hx
  · have := I.base.tups b xs q
    rw [upd_ne (ne this)]; exact this
  · have := I.base.frzs b ob u q
    rw [upd_ne (ne this)]; exact this
  · have := I.base.tbls b ps q
    rw [upd_ne (ne this)]; exact this
  · rw [upd_ne (Ne.symm hL)]; exact I.free
  · have := I.freeC x c e
    unfold FreeC at this ⊢
    rw [upd_ne (hc x c e)]; exact this
  · obtain ⟨h1, h2, h3⟩ := I.pin p hpm
    exact ⟨h1, by rw [upd_ne (hp p hpm)]; exact h2, h3⟩
  · by_cases hb : b = a
    · subst hb; rw [upd_same] at e; cases e; exact new
    · rw [upd_ne hb] at e
      exact (I.hok b u e).stay (fun c v _ q => q) (fun c q => by rw [upd_ne (ne q)]; exact q) fun c xs q => by rw [upd_ne (ne q)]; exact q
def PF (X : Cx) (ifs : List Expr) (t : TT) : Prop :=
  ∀ (pins : List (Addr × Obj)) (s : Shared) (σ : St) (H : Hp) (Q : Bool → Hp → Prop), Inv X pins σ H s → t σ H Q →
    wpAny (model X.prog X.w) X.A (forIn ifs true fun c r => if r = true then do let ok ← isTrue c X.env (eval c X.env); pure (ForInStep.yield ok) else pure (ForInStep.yield r)) (TP X pins σ Q) X.xe s
def tNoIf : TT := fun _ H Q => Q true H
theorem pf_nil : PF X [] tNoIf := fun _ _ _ H _ I h => wpAny_tests_nil ⟨H, I, h⟩
theorem pf_one {c : Expr} {t : TT} (h : PT X c t) : PF X [c] t := fun pins s σ H Q I q => wpAny_tests_one (h pins s σ H Q I q)
noncomputable def slotsY (mp : List (Option Nat)) (σ : St) : St := mp.map fun o => o.bind fun j => σ[j]?.join
def tCompK (J : It) (mp : List (Option Nat)) (g : CI → TG) (tt : CI → TT) (te : CI → TE) (σ : St) (H1 : Hp) (R : List V → Hp → Prop) : Prop :=
  ∀ c : CI, ∃ W : Nat → Nat → List V → Hp → Prop, (∃ m, W 0 m [] H1) ∧ ∀ i m ys H, W i m ys H →
    (J.stop i H ∧ R ys H) ∨
    (J.go i H ∧ ys.length < sizeLine ∧ ∀ x H', J.yld i H x H' → g c x (slotsY mp σ) H' fun σ2 H2 => tt c σ2 H2 fun b H3 =>
      if b = true then te c σ2 H3 fun y H4 => ∃ m', m' < m ∧ W (i + 1) m' (ys ++ [y]) H4 else ∃ m', m' < m ∧ W (i + 1) m' ys H3)
def tComp (wi : TI) (mp : List (Option Nat)) (g : CI → TG) (tt : CI → TT) (te : CI → TE) : TE := fun σ H Q => wi σ H fun J H1 =>
  tCompK J mp g tt te σ H1 fun ys H' => ys.length ≤ sizeLine ∧ ∀ p, H' p = none → Q (.ref p) (upd H' p (.lst ys))
structure CompScope (X : Cx) (scope : Scope) (NY : List Str) (mp : List (Option Nat)) : Prop where
  kind : scope.kind = .function
  nocell : ∀ y ∈ scope.names, y.2 ≠ .cell
  names : ∀ y ∈ scope.names, y.2 = .local → scope.names.lookup y.1 = some .local
  free : ∀ y ∈ scope.names, y.2 = .free → (X.env.kindOf y.1 = some .cell ∨ X.env.kindOf y.1 = some .free)
  len : mp.length = NY.length
  map : ∀ (i : Nat) (x : Str) (j : Nat), NY[i]? = some x → mp[i]? = some (some j) → X.N[j]? = some x ∧ scope.names.lookup x = some .free
theorem compLoop_own {prog : Program} {w : World} {A : Around} {R : Result → Shared → Prop} {s : Shared} {elt target iter : Expr} {ifs : List Expr} {scope : Scope} {pos : Pos} {it acc : Value} {env : Env} {Z : Value → Shared → Prop} (hZ : ∀ e s, Z e s → notedBy (model prog w) A env (fun x s' => R (.error x) s') e s) (I : Nat → Shared → Prop)
    (turn : ∀ n s, I n s → wpAny (model prog w) A (pyNext it) (fun r s₁ => match r with
      | none => R (.ok .next) s₁
      | some v => wpAny (model prog w) A (letOwnedTupleGo target it v) (fun _ s₁' => wpAny (model prog w) A (assign target env v) (fun _ s₂ =>
          wpAny (model prog w) A (forIn ifs true fun c r => if r = true then do let ok ← isTrue c env (eval c env); pure (ForInStep.yield ok) else pure (ForInStep.yield r)) (fun ok s₃ =>
            if ok = true then wpAny (model prog w) A (eval elt env) (fun x s₄ =>
              wpAny (model prog w) A (call (.builtin "list.append") [acc, x]) (fun _ s₅ => ∃ m, m < n ∧ I m s₅) (fun _ _ => False) s₄) Z s₃
            else ∃ m, m < n ∧ I m s₃) (fun _ _ => False) s₂) (fun _ _ => False) s₁') (fun _ _ => False) s₁) (fun _ _ => False) s)
    (n : Nat) (h : I n s) :
    codeAny (model prog w) A (.compLoop (.ListComp elt [⟨target, iter, ifs, 0⟩] scope pos) 0 it acc env) R s := by
  refine codeAny_loop rfl I (fun n s hI => ?_) n h
  show wpAny _ A ((compTurn (.ListComp elt [⟨target, iter, ifs, 0⟩] scope pos) 0 it acc env).onRaise (fun x => do noteFrame x env; theTreesLotGoes x)) _ _ s
  refine wpAny_noted ?_
  rw [compTurn_list]
  refine wpAny_bind (wpAny_standAt (wpAny_bind (wpAny_mono (turn n s hI) (fun r s₁ h₁ => ?_) fun _ _ h' => h'.elim)))
  cases r with
  | none => exact wpAny_pure h₁
  | some v =>
    refine wpAny_bind (wpAny_mono h₁ (fun _ s₁' h₁' => ?_) fun _ _ h' => h'.elim)
    refine wpAny_bind (wpAny_mono h₁' (fun _ s₂ h₂ => wpAny_bind (wpAny_mono h₂ (fun ok s₃ h₃ => ?_) fun _ _ h' => h'.elim)) fun _ _ h' => h'.elim)
    cases ok with
    | false => exact wpAny_pure ⟨rfl, h₃⟩
    | true =>
      exact wpAny_bind (wpAny_bind (wpAny_mono h₃ (fun x s₄ h₄ => wpAny_bind (wpAny_mono h₄ (fun _ s₅ h₅ => wpAny_pure (wpAny_pure ⟨rfl, h₅⟩)) fun _ _ h' => h'.elim)) fun e s' h' => hZ e s' h'))
theorem comp_block {E : Value → Shared → Prop} {scope : Scope} {NY : List Str} {mp : List (Option Nat)} {tg iter elt : Expr} {ifs : List Expr} {pos : Pos} {g : CI → TG} {tt : CI → TT} {te : CI → TE} {pins : List (Addr × Obj)} {σ : St} {H : Hp} {s₂ : Shared}
    {J : It} {fp : List Addr} {it : Addr} {tn : Nat → Heap → Prop} {R : List V → Hp → Prop} {RR : Value → Addr → Result → Shared → Prop}
    {WW : CI → Value → Shared → Prop} {cm : Cx → Prop} (S : CompScope X scope NY mp) (hc : ∀ c : CI, c.H = H → cm (compCx X scope NY c)) (I : Inv X pins σ H s₂) (T : Turn X.prog X.w X.K tg J fp it tn cm) (st : tn 0 s₂.heap) (hf : ∀ b ∈ fp, FpOk X pins H b)
    (hg : ∀ c, PG (compCx X scope NY c) tg (g c)) (ht : ∀ c, PF (compCx X scope NY c) ifs (tt c)) (he : ∀ c, PE ((compCx X scope NY c).wish (WW c)) elt (te c))
    (err : ∀ c : CI, X.s₀.heap.objs.size ≤ c.C → c.C ∉ frs X.stack → (∀ pl σ' H' s1, Inv (compCx X scope NY c) pl σ' H' s1 → Inv X pins σ H' s1) → ∀ e s', WW c e s' → notedBy (model X.prog X.w) X.A (compCx X scope NY c).env (fun x s'' => RR (.ref s₂.heap.objs.size) c.C (.error x) s'') e s')
    (h : tCompK J mp g tt te σ H R)
    (fin : ∀ (s' : Shared) (C : Addr) (m : Str → Option Value) (ys : List V) (H' : Hp), R ys H' → H' s₂.heap.objs.size = none → H' C = none → C ≠ s₂.heap.objs.size → s'.heap.Ns C m →
      (ys.length ≤ sizeLine → Inv X pins σ (upd H' s₂.heap.objs.size (.lst ys)) s') →
      (C ≠ X.env.locals ∧ X.s₀.heap.objs.size ≤ C ∧ (∀ x c, X.env.cells.lookup x = some c → c ≠ C) ∧ ∀ p ∈ X.pn ++ pins, p.1 ≠ C) → RR (.ref s₂.heap.objs.size) C (.ok .next) s') :
    wpAny (model X.prog X.w) X.A (newList []) (fun acc s₃ => wpAny (model X.prog X.w) X.A (newFunctionEnv scope X.env.globals (closL X.env scope.names []) [] X.env.qual none .none (some X.env)) (fun cenv s₄ =>
      codeAny (model X.prog X.w) X.A (.compStart (.ListComp elt [⟨tg, iter, ifs, 0⟩] scope pos) 0 (.ref it) acc { cenv with scope := relabel scope X.env }) (RR acc cenv.locals) s₄) E s₃) E s₂ := by
  refine wpAny_newObj_type (wpAny_newFunctionEnv S.nocell (by intro y hy; simp at hy) (fun h₁ hns₁ hsb₁ => ?_) S.kind)
  dsimp only at hns₁ hsb₁ ⊢
  generalize hH2 : s₂.heap.push { cls := .type "list", dict := none, data := .seq ([] : List Value).toArray } = H2 at hns₁ hsb₁ ⊢
  have hC : (H2.objs.size : Nat) = s₂.heap.objs.size + 1 := by rw [← hH2, Heap.size_push]
  generalize hDd : s₂.heap.objs.size = D at fin err hC ⊢
  generalize hCC : H2.objs.size = C at hns₁ hsb₁ hC ⊢
  have hC : (C : Nat) = (D : Nat) + 1 := hC
  have hDC : D ≠ C := fun z => absurd (z.trans hC) (Nat.ne_of_lt (Nat.lt_succ_self _))
  have ltC : ∀ {b : Addr}, b < D → b ≠ C := fun {b} h => Nat.ne_of_lt (Nat.lt_of_lt_of_eq (Nat.lt_succ_of_lt h) hC.symm)
  have ltD : ∀ {b : Addr}, b < D → b ≠ D := fun {b} h => Nat.ne_of_lt h
  have hlt : ∀ {b : Addr} {o : Obj}, s₂.heap.get? b = some o → (b : Nat) < D := fun e => hDd ▸ Heap.lt_size e
  have k2 : ∀ b o, s₂.heap.get? b = some o → H2.get? b = some o := fun b o e => hH2 ▸ Heap.get?_push_of_some _ e
  have k1 : ∀ b o, H2.get? b = some o → h₁.get? b = some o := fun b o e => by
    have hb : b < C := hCC ▸ Heap.lt_size e
    exact hsb₁.extBut b o (Nat.ne_of_lt hb) (Heap.get?_push_of_some _ e)
  have fr : ∀ a, D ≤ a → H a = none := fun a ha => I.hok.fresh (hDd ▸ ha)
  have accP : h₁.PlainList D #[] := ⟨_, k1 _ _ (by rw [← hH2, ← hDd]; exact Heap.get?_push_size _ rfl)⟩
  have fpo : ∀ b ∈ fp, (b : Nat) < D := fun b hb => let ⟨o, e, _⟩ := T.obj 0 _ st b hb; hlt e
  have clF : ∀ x c, (closL X.env scope.names []).lookup x = some c → X.env.cells.lookup x = some c := closL_from _ _ fun x c e => nomatch e
  have cellLt : ∀ x c, X.env.cells.lookup x = some c → (c : Nat) < D := fun x c e => by
    obtain ⟨v, o, ho, _⟩ := I.cell x c e
    exact hlt ho
  have locLt : (X.env.locals : Nat) < D := hDd ▸ I.lt
  have stkLt : ∀ b ∈ frs X.stack, (b : Nat) < D := fun b hb => by
    obtain ⟨_, o, ho, _⟩ := I.stack.mem hb
    exact hlt ho
  have fpStk : ∀ b ∈ fp, b ∉ frs X.stack := fun b hb z => by
    obtain ⟨_, f1, f2, _⟩ := hf b hb
    rcases List.mem_cons.mp (I.stkSub b z) with q | q
    · exact f1 q
    · exact f2 q
  have pinLt : ∀ p ∈ X.pn ++ pins, (p.1 : Nat) < D := fun p hp => hlt (I.pin p hp).1
  have pinStk : ∀ p ∈ X.pn ++ pins, p.1 ∉ frs X.stack := fun p hp z => by
    obtain ⟨_, _, f1, f2, _⟩ := I.pin p hp
    rcases List.mem_cons.mp (I.stkSub _ z) with q | q
    · exact f1 q
    · exact f2 q
  let Y : Cx := compCx X scope NY ⟨C, { s₂ with heap := H2 }, H, D :: fp⟩
  obtain ⟨W, ⟨m0, w0⟩, turn⟩ := h ⟨C, { s₂ with heap := H2 }, H, D :: fp⟩
  have okY : Y.Ok := by
    refine ⟨I.ok.mod, S.kind, I.ok.glob, I.ok.blt, Nat.le_of_eq hCC, fun x y c h1 h2 => I.ok.inj x y c (clF _ _ h1) (clF _ _ h2), fun x hx => ?_, fun x c hfn => absurd hfn (by intro z; cases z), I.ok.hd, I.ok.frames, .inl rfl, fun b hb => ?_, fun b o e => ?_, ?_, fun b o e => ?_, fun b hb => ?_, ?_, I.stkFree⟩
    · have hx' : (x, NameKind.free) ∈ scope.names := by
        rcases hx with hx | hx
        · exact of_relabel S.nocell hx (.inl rfl)
        · exact of_relabel S.nocell hx (.inr rfl)
      obtain ⟨c, e⟩ := I.ok.has x (S.free _ hx' rfl)
      exact closL_has _ _ x c hx' e
    · rcases List.mem_cons.mp hb with z | z
      · subst z
        exact ⟨hDC, fun x c e q => absurd (cellLt x c (clF x c e)) (by rw [q]; exact Nat.lt_irrefl _)⟩
      · have := fpo b z
        exact ⟨ltC this, fun x c e q => (hf b z).2.2.2.2.1 x c (clF x c e) q⟩
    · have := I.bs b o e
      exact ⟨k2 b o this.1, this.2⟩
    · refine ⟨?_, I.tabsH⟩
      show (X.base.objs.size : Nat) ≤ H2.objs.size
      have h1 : (X.base.objs.size : Nat) ≤ s₂.heap.objs.size := Nat.le_trans I.ok.bsz.1 I.sz
      have h2 : (H2.objs.size : Nat) = C := hCC
      have h3 : (s₂.heap.objs.size : Nat) = D := hDd
      omega
    · have hb := I.bs b o e
      have hb' := hlt hb.1
      intro z
      rcases List.mem_cons.mp z with z | z
      · rw [z] at hb'; exact Nat.lt_irrefl _ hb'
      · rcases (hf b z).2.2.2.1 with q | q
        · exact I.ok.noex b o e q
        · exact absurd (Nat.lt_of_lt_of_le (Heap.lt_size (I.ok.bs b o e).1) q) (Nat.lt_irrefl _)
    · rcases List.mem_cons.mp hb with z | z
      · subst z
        exact fun q => absurd (stkLt _ q) (Nat.lt_irrefl _)
      · exact fpStk b z
    · exact I.stack.of_keeps fun b o e _ => ⟨o, k2 b o e, rfl⟩
  have capt : ∀ (i : Nat) (x : Str) (v : V), NY[i]? = some x → (slotsY mp σ)[i]? = some (some v) → ∃ u c, RelV v u ∧ (Y.env.kindOf x = some .cell ∨ Y.env.kindOf x = some .free) ∧ Y.env.cells.lookup x = some c ∧ H2.IsCell c (some u) ∧ (H c = none ∨ ∃ o u, H c = some (.frz o u)) ∧ c ∉ D :: fp := by
    intro i x v e1 e2
    have e2' : (mp[i]?.map fun o => o.bind fun j => σ[j]?.join) = some (some v) := by
      unfold slotsY at e2
      rwa [List.getElem?_map] at e2
    cases hm : mp[i]? with
    | none => rw [hm] at e2'; cases e2'
    | some o =>
      rw [hm] at e2'
      cases o with
      | none => simp at e2'
      | some j =>
        simp only [Option.map_some, Option.bind_some, Option.some.injEq] at e2'
        have e4 : σ[j]? = some (some v) := by
          cases hs : σ[j]? with
          | none => rw [hs] at e2'; cases e2'
          | some q => rw [hs] at e2'; simp at e2'; rw [e2']
        obtain ⟨hXj, hfr⟩ := S.map i x j e1 hm
        have hmem : (x, NameKind.free) ∈ scope.names := PySem.mem_of_lookup hfr
        have hk := S.free _ hmem rfl
        obtain ⟨m, hn, hl⟩ := I.loc
        obtain ⟨u, ru, l⟩ := hl j x v hXj e4 (hk.elim (fun z => .inr (.inl z)) fun z => .inr (.inr z))
        have hlook : ∃ c, X.env.cells.lookup x = some c ∧ s₂.heap.IsCell c (some u) := by
          rcases l with ⟨kl, _⟩ | ⟨_, c, ec, hcell⟩
          · rcases hk with q | q
            · exact absurd (kl.symm.trans q) (by intro z; cases z)
            · exact absurd (kl.symm.trans q) (by intro z; cases z)
          · exact ⟨c, ec, hcell⟩
        obtain ⟨c, ec, oc, hoc, hocd⟩ := hlook
        obtain ⟨c', ec'⟩ := closL_has (env := X.env) scope.names [] x c hmem ec
        have : c' = c := Option.some.inj ((clF x c' ec').symm.trans ec)
        subst this
        refine ⟨u, c', ru, lookup_relabel_free hfr, ec', ⟨oc, k2 _ _ hoc, hocd⟩, (I.freeC x c' ec).imp id And.right, fun z => ?_⟩
        rcases List.mem_cons.mp z with z | z
        · have := cellLt x c' ec; rw [z] at this; exact Nat.lt_irrefl _ this
        · exact (hf c' z).2.2.2.2.1 x c' ec rfl
  have lenY : (slotsY mp σ).length = NY.length := by
    unfold slotsY
    rw [List.length_map]
    exact S.len
  have I0 : ∀ tk, Inv Y [] (slotsY mp σ) H { s₂ with heap := h₁, toks := tk } := by
    intro tk
    refine ⟨okY, rfl, I.bare, Un.kept k1, ⟨_, hns₁, fun i x v e1 e2 e3 => ?_⟩, fun x c e => ?_, fr C (by show (D : Nat) ≤ C; omega), fun x c e => (I.freeC x c (clF x c e)).imp id fun z => ⟨rfl, z.2⟩, fun p hp => absurd (show p ∈ ([] : List (Addr × Obj)) from hp) (by simp), I.hok.kept fun b o e => k1 b o (k2 b o e), lenY⟩
    · obtain ⟨u, c, ru, hk, ec, ⟨oc, hoc, hocd⟩, _⟩ := capt i x v e1 e2
      exact ⟨u, ru, .inr ⟨hk, c, ec, oc, k1 _ _ hoc, hocd⟩⟩
    · obtain ⟨v, o, ho, hd⟩ := I.cell x c (clF x c e)
      exact ⟨v, o, k1 _ _ (k2 _ _ ho), hd⟩
  have stat : ∀ {H' : Hp} {pl : List (Addr × Obj)}, (∀ p ∈ pl, p.1 ∉ fp) → (∀ b ∈ fp, H' b = none) → ∀ b ∈ fp, FpOk Y pl H' b := fun hpl hn b hb => by
    have hbD := fpo b hb
    refine ⟨hn b hb, ltC hbD, fpStk b hb, .inl (List.mem_cons_of_mem _ hb), fun x c e => (hf b hb).2.2.2.2.1 x c (clF x c e), fun p hp z => hpl p (show p ∈ _ from hp) (z ▸ hb)⟩
  have dN : D ∉ Y.fs := fun q => absurd (stkLt _ q) (Nat.lt_irrefl _)
  have dFp : D ∉ fp := fun q => absurd (fpo _ q) (Nat.lt_irrefl _)
  have plD : ∀ (o : Obj), ∀ p ∈ [(D, o)], p.1 ∉ fp := fun o p hp => by
    have e : p = (D, o) := by simpa using hp
    rw [e]; exact dFp
  have toX : ∀ pl σ' H3 s4, Inv Y pl σ' H3 s4 → Inv X pins σ H3 s4 := fun pl σ' H3 s4 I4 => by
    have u : Un (frs X.stack) fp H H3 s₂.heap s4.heap := by
      have B : Un (frs X.stack) (D :: fp) H H3 H2 s4.heap := I4.base
      have nx : ∀ {b : Addr} {o : Obj}, s₂.heap.get? b = some o → b ∉ fp → b ∉ D :: fp := fun e hb z => by
        rcases List.mem_cons.mp z with z | z
        · have := hlt e; rw [z] at this; exact Nat.lt_irrefl _ this
        · exact hb z
      exact ⟨fun b o q n hb hx => B.keep b o (k2 b o q) n hb (nx q hx), fun b o q n hb hx => B.slot b o (k2 b o q) n hb (nx q hx), fun b o q n hx => B.free b o (k2 b o q) n (nx q hx), fun b o q hx => B.there b o (k2 b o q) (nx q hx), B.tups, B.frzs, B.tbls⟩
    exact I.call' I4.os u I4.hok I4.bare fun b hb => ⟨(hf b hb).2.2.2.1, (hf b hb).2.1, (hf b hb).2.2.2.2.1, (hf b hb).2.2.2.2.2⟩
  have keyC : ∀ (tk : Nat) (it' : Value), it' = .ref it → codeAny (model X.prog X.w) X.A (.compLoop (.ListComp elt [⟨tg, iter, ifs, 0⟩] scope pos) 0 it' (.ref D) Y.env) (RR (.ref D) C) { s₂ with heap := h₁, toks := tk } := by
    rintro tk _ rfl
    refine compLoop_own (Z := WW ⟨C, { s₂ with heap := H2 }, H, D :: fp⟩) (fun e s' z => err ⟨C, { s₂ with heap := H2 }, H, D :: fp⟩ (by have : (X.s₀.heap.objs.size : Nat) ≤ D := hDd ▸ I.sz; show (X.s₀.heap.objs.size : Nat) ≤ C; omega) (fun q => absurd (stkLt _ q) (by show ¬ (C : Nat) < D; omega)) toX e s' z) (fun n s' => ∃ i ys H' its, Inv Y [] (slotsY mp σ) H' s' ∧ tn i s'.heap ∧ (∀ b ∈ fp, H' b = none) ∧ H' D = none ∧ s'.heap.PlainList D its ∧ Vals ys its.toList ∧ W i n ys H') ?_ m0
      ⟨0, [], H, #[], I0 tk, T.keep 0 _ _ st fun b _ o e => k1 b o (k2 b o e), fun b hb => (hf b hb).1, fr D (Nat.le_refl _), accP, .nil, w0⟩
    rintro n s3 ⟨i, ys, H3, its, I3, st3, fr3, d3, ⟨kk, pl3⟩, rv3, w3⟩
    have I3' : Inv Y [(D, { cls := .type "list", data := .seq its kk })] (slotsY mp σ) H3 s3 := I3.pins_of fun p hp => by
      have e : p = (D, { cls := .type "list", data := .seq its kk }) := by simpa using hp
      subst e
      exact ⟨pl3, d3, hDC, dN, fun v z => nomatch (show Data.seq its kk = Data.cell v from z)⟩
    rcases turn i n ys H3 w3 with ⟨stop, qn⟩ | ⟨go, hsz, step⟩
    · refine thn (T.done Y rfl rfl rfl (hc ⟨C, { s₂ with heap := H2 }, H, D :: fp⟩ rfl) i _ s3 _ H3 _ I3' (stat (plD _) fr3) st3 stop) fun r s4 zq => ?_
      obtain ⟨hr, I4⟩ := zq
      subst hr
      have hD4 : s4.heap.get? D = some { cls := .type "list", data := .seq its kk } := (I4.pin (D, _) (by simp)).1
      have J4 : Inv X pins σ H3 s4 := toX _ _ _ _ I4
      obtain ⟨m4, hn4, _⟩ := I4.loc
      refine fin s4 C m4 ys H3 qn d3 I4.free (Ne.symm hDC) hn4 (fun hz => ?_) ⟨(ltC locLt).symm, ?_, fun x c e => ?_, fun p hp => ?_⟩
      · refine J4.adopt d3 ?_ (ltD locLt).symm (fun x c e => ?_) (fun p hp => ?_) ⟨hz, its.toList, kk, rv3, hD4⟩
        · exact hDd ▸ I.sz
        · exact ltD (cellLt x c e)
        · exact ltD (pinLt p hp)
      · have : (X.s₀.heap.objs.size : Nat) ≤ D := hDd ▸ I.sz
        show (X.s₀.heap.objs.size : Nat) ≤ C
        omega
      · exact ltC (cellLt x c e)
      · exact ltC (pinLt p hp)
    · refine thn (T.item Y rfl rfl rfl (hc ⟨C, { s₂ with heap := H2 }, H, D :: fp⟩ rfl) i _ s3 _ H3 _ I3' (stat (plD _) fr3) st3 go) fun r s4 zq => ?_
      obtain ⟨u, hr, h4⟩ := zq
      subst hr
      refine thn h4 fun _ s5 zq => ?_
      obtain ⟨x, H5, I5, r5, y5, st5, fr5⟩ := zq
      have I5' := I5.pinned (stat (plD _) fr5) (T.obj _ _ st5)
      refine thn (hg _ _ s5 _ H5 x u _ I5' r5 (step x H5 y5)) fun _ s6 zq => ?_
      obtain ⟨σ6, H6, I6, q6⟩ := zq
      refine thn (ht _ _ s6 σ6 H6 _ I6 q6) fun ok s7 zq => ?_
      obtain ⟨H7, I7, q7⟩ := zq
      have back : ∀ {s8 : Shared} {σ8 : St} {H8 : Hp}, Inv Y ([(D, { cls := .type "list", data := .seq its kk })] ++ pinsAt fp s5.heap) σ8 H8 s8 →
          tn (i + 1) s8.heap ∧ (∀ b ∈ fp, H8 b = none) ∧ H8 D = none ∧ s8.heap.get? D = some { cls := .type "list", data := .seq its kk } := fun {s8 σ8 H8} I8 => by
        refine ⟨T.keep _ _ _ st5 fun b hb o e => (I8.pin (b, o) (List.mem_append_right _ (List.mem_append_right _ (mem_pinsAt hb e)))).1, fun b hb => ?_, ?_, ?_⟩
        · obtain ⟨o, e, d⟩ := T.obj _ _ st5 b hb
          exact (I8.pin (b, o) (List.mem_append_right _ (List.mem_append_right _ (mem_pinsAt hb e)))).2.1
        · exact (I8.pin (D, _) (List.mem_append_right _ (List.mem_append_left _ (List.mem_singleton.mpr rfl)))).2.1
        · exact (I8.pin (D, _) (List.mem_append_right _ (List.mem_append_left _ (List.mem_singleton.mpr rfl)))).1
      have drop : ∀ {s8 : Shared} {σ8 : St} {H8 : Hp} {pl : List (Addr × Obj)}, Inv Y pl σ8 H8 s8 → Inv Y [] (slotsY mp σ) H8 s8 := fun {s8 σ8 H8 pl} I8 => by
        obtain ⟨m8, hn8, _⟩ := I8.loc
        refine ⟨I8.ok, I8.os, I8.bare, I8.base, ⟨m8, hn8, fun i x v e1 e2 e3 => ?_⟩, I8.cell, I8.free, I8.freeC, fun p hp => absurd (show p ∈ ([] : List (Addr × Obj)) from hp) (by simp), I8.hok, lenY⟩
        obtain ⟨u, c, ru, hk, ec, ⟨oc, hoc, hocd⟩, hn, hx⟩ := capt i x v e1 e2
        rcases hn with hn | ⟨ob, ub, hn⟩
        · obtain ⟨sl, e⟩ := I8.base.any hoc hn hx
          exact ⟨u, ru, .inr ⟨hk, c, ec, _, e, hocd⟩⟩
        · obtain ⟨e1, _⟩ := I.hok c _ hn
          obtain ⟨e2, _⟩ := I8.hok c _ (I8.base.frzs c ob ub hn)
          have e3 := k2 _ _ e1
          rw [hoc] at e3; cases e3
          exact ⟨u, ru, .inr ⟨hk, c, ec, oc, e2, hocd⟩⟩
      cases ok with
      | false =>
        obtain ⟨m', hm', w'⟩ := q7
        obtain ⟨b1, b2, b3, b4⟩ := back I7
        exact ⟨m', hm', i + 1, ys, H7, its, drop I7, b1, b2, b3, ⟨kk, b4⟩, rv3, w'⟩
      | true =>
        refine thn (he _ _ s7 σ6 H7 _ (I7.wish _) q7) fun y s8 zq => ?_
        obtain ⟨yv, H8, I8w, r8, q8⟩ := zq
        have I8 := I8w.unwish
        obtain ⟨b1, b2, b3, b4⟩ := back I8
        have hl : ys.length = its.size := by simpa using rv3.length
        refine wpAny_list_append_plain (items := its) ⟨kk, b4⟩ (fun h' pl' sb => ?_) (by omega)
        obtain ⟨m', hm', w'⟩ := q8
        have I9 : Inv Y [] (slotsY mp σ) H8 { s8 with heap := h' } := (drop I8).turned (it := D) (t' := s8.toks) (fun b o hb e => (sb.2 b hb).trans e) b3 hDC (.inl List.mem_cons_self) (fun x c e => ltD (cellLt x c (clF x c e))) fun p hp => absurd (show p ∈ ([] : List (Addr × Obj)) from hp) (by simp)
        refine ⟨m', hm', i + 1, ys ++ [yv], H8, its.push y, I9, ?_, b2, b3, pl', ?_, w'⟩
        · exact T.keep _ _ _ b1 fun b hb o e => (sb.2 b (fun z => dFp (z ▸ hb))).trans e
        · rw [Array.toList_push]
          exact rv3.append (.cons r8 .nil)
  exact codeAny_compStart_list (keyC _ _ rfl) (T.self _ 0 _ _ _ (T.keep 0 _ _ st fun b _ o e => k1 b o (k2 b o e)) (keyC _ _ rfl))
theorem pe_compC {scope : Scope} {NY : List Str} {mp : List (Option Nat)} {tg iter elt : Expr} {ifs : List Expr} {pos : Pos} {wi : TI} {g : CI → TG} {tt : CI → TT} {te : CI → TE}
    {cm : Cx → Prop} (S : CompScope X scope NY mp) (hc : ∀ pins σ H s, Inv X pins σ H s → ∀ c : CI, c.H = H → cm (compCx X scope NY c)) (hi : PI X tg iter wi cm)
    (hg : ∀ c, PG (compCx X scope NY c) tg (g c)) (ht : ∀ c, PF (compCx X scope NY c) ifs (tt c)) (he : ∀ c, PE (compCx X scope NY c) elt (te c))
    (hs : ∀ x, foldedSetIterable iter X.env x = pure x := by intro _; rfl) : PE X (.ListComp elt [⟨tg, iter, ifs, 0⟩] scope pos) (tComp wi mp g tt te) := by
  intro pins s σ H Q I h
  rw [eval_ListComp]
  refine wpAny_comprehension_free (use := none) rfl hs (closureFor_of fun y hy hk => I.ok.has y.1 (S.free y hy hk)) S.kind S.names (thn (hi pins s σ H _ I h) fun v s1 h1 => thn h1 fun itv s2 h2 => ?_)
  obtain ⟨it, fp, tn, J, H2, e, I2, T, st2, f2, hk⟩ := h2
  subst e
  refine comp_block (RR := fun acc C => compPost (model X.prog X.w) X.A X.xe none (EP X pins σ Q) acc C) (WW := fun _ _ _ => False) S (hc _ _ _ _ I2) I2 T st2 f2 hg ht he (fun _ _ _ _ _ _ z => z.elim) hk ?_
  intro s' C m ys H' q hD hC hCD hn hI hct
  refine ⟨m, hn, fun h' sb => ?_⟩
  have J' := hI q.1
  refine ⟨.ref s2.heap.objs.size, _, J'.turned (it := C) (t' := s'.toks) (fun b o hb e => (sb.2 b hb).trans e) (by rw [upd_ne hCD]; exact hC) hct.1 (.inr hct.2.1) hct.2.2.1 hct.2.2.2, rfl, q.2 _ hD⟩
theorem pe_comp {scope : Scope} {NY : List Str} {mp : List (Option Nat)} {tg iter elt : Expr} {ifs : List Expr} {pos : Pos} {wi : TI} {g : CI → TG} {tt : CI → TT} {te : CI → TE}
    (S : CompScope X scope NY mp) (hc : X.calm = true) (hi : PI X tg iter wi)
    (hg : ∀ c, PG (compCx X scope NY c) tg (g c)) (ht : ∀ c, PF (compCx X scope NY c) ifs (tt c)) (he : ∀ c, PE (compCx X scope NY c) elt (te c))
    (hs : ∀ x, foldedSetIterable iter X.env x = pure x := by intro _; rfl) : PE X (.ListComp elt [⟨tg, iter, ifs, 0⟩] scope pos) (tComp wi mp g tt te) := pe_compC S (fun _ _ _ _ _ _ _ => hc) hi hg ht he hs
def tCompS (wi : TI) (mp : List (Option Nat)) (g : CI → TG) (tt : CI → TT) (te : CI → TE) (i : Nat) : TS := fun D σ H => tComp wi mp g tt te σ H fun v H1 => D.nx (σ.set i (some v)) H1
theorem ps_comp {i : Nat} {y : Str} {py : Pos} {scope : Scope} {NY : List Str} {mp : List (Option Nat)} {tg iter elt : Expr} {ifs : List Expr} {pos spos : Pos} {wi : TI} {g : CI → TG} {tt : CI → TT} {te : CI → TE}
    (hN : X.N.Nodup) (hy : X.N[i]? = some y) (hl : X.env.scope.names.lookup y = some .local)
    (hsw : swapsWith (.ListComp elt [⟨tg, iter, ifs, 0⟩] scope pos) (some (.Name y py)) spos.line X.env = pure true)
    (S : CompScope X scope NY mp) (hc : X.calm = true) (hi : PI X tg iter wi)
    (hg : ∀ c, PG (compCx X scope NY c) tg (g c)) (ht : ∀ c, PF (compCx X scope NY c) ifs (tt c)) (he : ∀ c, PE (compCx X scope NY c) elt (te c))
    (hs : ∀ x, foldedSetIterable iter X.env x = pure x := by intro _; rfl) : PS X (.Assign [.Name y py] (.ListComp elt [⟨tg, iter, ifs, 0⟩] scope pos) spos) (tCompS wi mp g tt te i) := by
  intro pins s σ H D I h
  rw [exec_Assign_Name_used _ _ _ _ hsw]
  refine wpAny_bind (wpAny_standAt (wpAny_bind ?_))
  show wpAny _ X.A (do let _ ← comprehension (.ListComp elt [⟨tg, iter, ifs, 0⟩] scope pos) scope X.env _ (newList []) false (eval iter X.env) (some (assign (.Name y py) X.env))) _ _ s
  refine wpAny_bind (wpAny_mono (wpAny_comprehension_free (use := some (assign (.Name y py) X.env)) (Q := fun _ s' => SP X pins D .next s') rfl hs (closureFor_of fun y hy hk => I.ok.has y.1 (S.free y hy hk)) S.kind S.names
    (thn (hi pins s σ H _ I h) fun v s1 h1 => thn h1 fun itv s2 h2 => ?_)) (fun _ s' hq => wpAny_pure (wpAny_pure hq)) fun _ _ e => e)
  obtain ⟨it, fp, tn, J, H2, e, I2, T, st2, f2, hk⟩ := h2
  subst e
  refine comp_block (RR := fun acc C => compPost (model X.prog X.w) X.A X.xe (some (assign (.Name y py) X.env)) (fun _ s' => SP X pins D .next s') acc C) (WW := fun _ _ _ => False) S (fun _ _ => hc) I2 T st2 f2 hg ht he (fun _ _ _ _ _ _ z => z.elim) hk ?_
  intro s' C m ys H' q hD hC hCD hn hI hct
  have J' := hI q.1
  refine wpAny_assign_Name (store_ok2 J' hN hy (.inl hl) (v := .ref s2.heap.objs.size) rfl (fun s'' I'' sb => ?_) (.inr hl))
  obtain ⟨a, sba, ha⟩ := sb
  have haC : C ≠ a := by
    rcases ha with rfl | ha
    · exact hct.1
    · exact fun z => hct.2.2.1 _ _ ha z.symm
  refine ⟨m, hn.sameBut sba haC, fun h' sb' => ?_⟩
  exact ⟨_, _, I''.turned (it := C) (t' := s''.toks) (fun b o hb e => (sb'.2 b hb).trans e) (by rw [upd_ne hCD]; exact hC) hct.1 (.inr hct.2.1) hct.2.2.1 hct.2.2.2, q.2 _ hD⟩
end
end L2
namespace FL
open PySem PySem.Spec PyProof.Rows L2
abbrev Frag := PySem.W.Frag
def KLst (K : Frag) (a : Addr) (xs : List V) : Prop := ∃ (o : Obj) (its : Array Value) (n : Nat), K.lookup a = some o ∧ o.cls = .type "list" ∧ o.dict = none ∧ o.data = .seq its n ∧ its.size ≤ sizeLine ∧ Vals xs its.toList
def KTup (K : Frag) (a : Addr) (xs : List V) : Prop := ∃ (o : Obj) (its : Array Value) (n : Nat), K.lookup a = some o ∧ o.cls = .type "tuple" ∧ o.data = .seq its n ∧ its.size ≤ sizeLine ∧ Vals xs its.toList
structure LamT where
  qual : Str
  params : Arguments
  body : FuncBody
  scope : Scope
noncomputable def lamsE (q : Str) : Nat → Expr → List LamT
  | 0, _ => []
  | n + 1, e => match e with
    | .Lambda a b sc _ => [⟨q ++ "<lambda>", a, .expr b, sc⟩]
    | .Call _ as _ _ => as.flatMap (lamsE q n)
    | .Compare l _ cs _ => lamsE q n l ++ cs.flatMap (lamsE q n)
    | .BoolOp _ vs _ => vs.flatMap (lamsE q n)
    | .UnaryOp _ o _ => lamsE q n o
    | .BinOp l _ r _ => lamsE q n l ++ lamsE q n r
    | .IfExp t b o _ => lamsE q n t ++ (lamsE q n b ++ lamsE q n o)
    | .List es _ => es.flatMap (lamsE q n)
    | .Tuple es _ _ => es.flatMap (lamsE q n)
    | .Subscript v i _ => lamsE q n v ++ lamsE q n i
    | _ => []
noncomputable def lamsS (q : Str) : Nat → Stmt → List LamT
  | 0, _ => []
  | n + 1, s => match s with
    | .FunctionDef x a b _ _ _ sc _ _ _ => [⟨q ++ x, a, .stmts b, sc⟩]
    | .Assign _ e _ => lamsE q 12 e
    | .Return (some e) _ => lamsE q 12 e
    | .Expr e _ => lamsE q 12 e
    | .If t a b _ => lamsE q 12 t ++ (a.flatMap (lamsS q n) ++ b.flatMap (lamsS q n))
    | .For _ _ a _ _ => a.flatMap (lamsS q n)
    | .While _ a _ _ => a.flatMap (lamsS q n)
    | _ => []
noncomputable def lamsOf (x : Str) (b : List Stmt) : List LamT := b.flatMap (lamsS (x ++ ".<locals>.") 8)
noncomputable def textIn (K : PySem.W.Frag) (m n : Nat) : Option LamT := (makers[m]?).bind fun x => match PySem.W.nsIn K mainGlobals x with
  | some (some (.ref f)) => (match K.lookup f with
    | some ⟨_, _, .func fd, _⟩ => (match fd.body with
      | .stmts b => (lamsOf x b)[n]?
      | _ => none)
    | _ => none)
  | _ => none
noncomputable def freeR (l : List (Str × NameKind)) : List Str := ((l.filter fun y => y.2 == NameKind.free).map (·.1)).reverse
inductive ClosOk (H : Hp) (O : Addr → Prop) : List (Str × Addr) → List V → Prop
  | nil : ClosOk H O [] []
  | cons {n : Str} {c : Addr} {o : Obj} {u : HO} {w : Value} {x : V} {cl : List (Str × Addr)} {xs : List V} (no : ¬ O c) (h : H c = some (.frz o u)) (d : o.data = .cell (some w)) (r : RelV x w) (t : ClosOk H O cl xs) : ClosOk H O ((n, c) :: cl) (x :: xs)
def LamAt (H : Hp) (O : Addr → Prop) (f : Addr) (t : LamT) (cl : List (Str × Addr)) : Prop := ¬ O f ∧ ∃ (o oc : Obj) (u uc : HO) (fd : FuncData) (c : Addr) (vs : Array Value) (tq : Tok),
  H f = some (.frz o u) ∧ o.cls = .type "function" ∧ o.data = .func fd ∧ fd.qualname = t.qual ∧ fd.params = t.params ∧ fd.body = t.body ∧ fd.scope = t.scope ∧ fd.globals = mainGlobals ∧ fd.closure = cl ∧ fd.defaults = .none ∧ fd.kwdefaults = .none ∧ fd.code = .ref c ∧ fd.builtins = builtinsNs ∧
  ¬ O c ∧ H c = some (.frz oc uc) ∧ oc.data = .fields vs ∧ vs[1]? = some (.str t.qual tq)
mutual
inductive Rep (K : Frag) (H : Hp) (O : Addr → Prop) : V → D → Prop
  | non : Rep K H O .non .non
  | bl (b : Bool) : Rep K H O (.bl b) (.bl b)
  | int (i : Int) : Rep K H O (.int i) (.int i)
  | str (x : Str) : Rep K H O (.str x) (.str x)
  | tup {a : Addr} {xs : List V} {ds : List D} (n : ¬ O a) (h : Rd H a (.tup xs)) (r : Reps K H O xs ds) : Rep K H O (.ref a) (.tup ds)
  | tupK {a : Addr} {xs : List V} {ds : List D} (h : KTup K a xs) (r : Reps K H O xs ds) : Rep K H O (.ref a) (.tup ds)
  | lst {a : Addr} {xs : List V} {ds : List D} (n : ¬ O a) (h : Rd H a (.lst xs)) (r : Reps K H O xs ds) : Rep K H O (.ref a) (.lst ds)
  | lstK {a : Addr} {xs : List V} {ds : List D} (h : KLst K a xs) (r : Reps K H O xs ds) : Rep K H O (.ref a) (.lst ds)
  | dct {a : Addr} {kvs : List (Key × V)} {ks : List Key} {ds : List D} (n : ¬ O a) (h : H a = some (.dK kvs)) (e : kvs.map (·.1) = ks) (r : Reps K H O (kvs.map (·.2)) ds) : Rep K H O (.ref a) (.dct ks ds)
  | dcf {a : Addr} {o : Obj} {kvs : List (Key × V)} {ks : List Key} {ds : List D} (n : ¬ O a) (h : H a = some (.frz o (.dK kvs))) (e : kvs.map (·.1) = ks) (r : Reps K H O (kvs.map (·.2)) ds) : Rep K H O (.ref a) (.dcf ks ds)
  | ins {a C dx : Addr} {t : Nat} {kvs : List (Str × V)} {ds : List D} (c : PySem.W.nsIn K mainGlobals (clsName t) = some (some (.ref C))) (n : ¬ O a) (h : H a = some (.ins C dx kvs)) (e : kvs.map (·.1) = clsFlds t) (r : Reps K H O (kvs.map (·.2)) ds) : Rep K H O (.ref a) (.ins t ds)
  | clo {f : Addr} {m n : Nat} {t : LamT} {cl : List (Str × Addr)} {xs : List V} {ds : List D} (tx : textIn K m n = some t) (h : LamAt H O f t cl) (e : cl.map (·.1) = freeR t.scope.names) (nd : (cl.map (·.2)).Nodup) (c : ClosOk H O cl xs) (r : Reps K H O xs ds) : Rep K H O (.ref f) (.clo m n ds)
  | fnK {f : Addr} {k : Nat} (h : PySem.W.nsIn K mainGlobals (fnName k) = some (some (.ref f))) : Rep K H O (.ref f) (.clo 1000 k [])
inductive Reps (K : Frag) (H : Hp) (O : Addr → Prop) : List V → List D → Prop
  | nil : Reps K H O [] []
  | cons {x : V} {d : D} {xs : List V} {ds : List D} (h : Rep K H O x d) (t : Reps K H O xs ds) : Reps K H O (x :: xs) (d :: ds)
end
section
variable {K : Frag} {H H' : Hp} {O O' : Addr → Prop}
def Keep (O : Addr → Prop) (H H' : Hp) : Prop := ∀ b o, ¬ O b → H b = some o → H' b = some o
theorem Keep.of_same (h : Same H H') : Keep O H H' := fun b o _ e => h b o e
theorem Keep.rd {a : Addr} {u : HO} (k : Keep O H H') (n : ¬ O a) (h : Rd H a u) : Rd H' a u := by
  rcases h with h | ⟨o, h⟩
  · exact .inl (k _ _ n h)
  · exact .inr ⟨o, k _ _ n h⟩
def Kp (O O' : Addr → Prop) (H H' : Hp) : Prop := ∀ b o, ¬ O b → H b = some o → ¬ O' b ∧ H' b = some o
theorem Kp.rd {a : Addr} {u : HO} (k : Kp O O' H H') (n : ¬ O a) (h : Rd H a u) : ¬ O' a ∧ Rd H' a u := by
  rcases h with h | ⟨o, h⟩
  · exact ⟨(k _ _ n h).1, .inl (k _ _ n h).2⟩
  · exact ⟨(k _ _ n h).1, .inr ⟨o, (k _ _ n h).2⟩⟩
theorem ClosOk.gen (k : Kp O O' H H') {cl : List (Str × Addr)} {xs : List V} (h : ClosOk H O cl xs) : ClosOk H' O' cl xs := by
  induction h with
  | nil => exact .nil
  | cons no h d r _ ih => exact .cons (k _ _ no h).1 (k _ _ no h).2 d r ih
theorem LamAt.gen {f : Addr} {t : LamT} {cl : List (Str × Addr)} (k : Kp O O' H H') (h : LamAt H O f t cl) : LamAt H' O' f t cl := by
  obtain ⟨n, o, oc, u, uc, fd, c, vs, tq, h1, h2, h3, h4, h5, h6, h7, h8, h9, h10, h11, h12, h13, h14, h15, h16, h17⟩ := h
  exact ⟨(k _ _ n h1).1, o, oc, u, uc, fd, c, vs, tq, (k _ _ n h1).2, h2, h3, h4, h5, h6, h7, h8, h9, h10, h11, h12, h13, (k _ _ h14 h15).1, (k _ _ h14 h15).2, h16, h17⟩
theorem Kp.of (k : Keep O H H') : Kp O O H H' := fun b o n e => ⟨n, k b o n e⟩
theorem Kp.less (k : ∀ a, O' a → O a) : Kp O O' H H := fun b o n e => ⟨fun z => n (k _ z), e⟩
theorem ClosOk.keep (k : Keep O H H') {cl : List (Str × Addr)} {xs : List V} (h : ClosOk H O cl xs) : ClosOk H' O cl xs := h.gen (.of k)
theorem LamAt.keep {f : Addr} {t : LamT} {cl : List (Str × Addr)} (k : Keep O H H') (h : LamAt H O f t cl) : LamAt H' O f t cl := h.gen (.of k)
theorem ClosOk.of (k : ∀ a o u, H a = some (.frz o u) → ¬ O' a) : ∀ {cl : List (Str × Addr)} {xs : List V}, ClosOk H O cl xs → ClosOk H O' cl xs
  | _, _, .nil => .nil
  | _, _, .cons no h d r t => .cons (k _ _ _ h) h d r (ClosOk.of k t)
theorem LamAt.of {f : Addr} {t : LamT} {cl : List (Str × Addr)} (k : ∀ a o u, H a = some (.frz o u) → ¬ O' a) (h : LamAt H O f t cl) : LamAt H O' f t cl := by
  obtain ⟨n, o, oc, u, uc, fd, c, vs, tq, h1, h2, h3, h4, h5, h6, h7, h8, h9, h10, h11, h12, h13, h14, h15, h16, h17⟩ := h
  exact ⟨k _ _ _ h1, o, oc, u, uc, fd, c, vs, tq, h1, h2, h3, h4, h5, h6, h7, h8, h9, h10, h11, h12, h13, k _ _ _ h15, h15, h16, h17⟩
def ins1 (p : Addr) (O : Addr → Prop) : Addr → Prop := fun b => b = p ∨ O b
theorem Kp.ins {p : Addr} (hp : H p = none) : Kp O (ins1 p O) H H := fun b o n e => ⟨fun z => z.elim (fun q => by rw [q, hp] at e; cases e) n, e⟩
mutual
theorem Rep.gen (k : Kp O O' H H') : ∀ {v : V} {d : D}, Rep K H O v d → Rep K H' O' v d
  | _, _, .non => .non
  | _, _, .bl b => .bl b
  | _, _, .int i => .int i
  | _, _, .str x => .str x
  | _, _, .tup n h r => .tup (k.rd n h).1 (k.rd n h).2 (Reps.gen k r)
  | _, _, .tupK h r => .tupK h (Reps.gen k r)
  | _, _, .lst n h r => .lst (k.rd n h).1 (k.rd n h).2 (Reps.gen k r)
  | _, _, .lstK h r => .lstK h (Reps.gen k r)
  | _, _, .dct n h e r => .dct (k _ _ n h).1 (k _ _ n h).2 e (Reps.gen k r)
  | _, _, .dcf n h e r => .dcf (k _ _ n h).1 (k _ _ n h).2 e (Reps.gen k r)
  | _, _, .ins c n h e r => .ins c (k _ _ n h).1 (k _ _ n h).2 e (Reps.gen k r)
  | _, _, .clo tx h e nd c r => .clo tx (h.gen k) e nd (c.gen k) (Reps.gen k r)
  | _, _, .fnK h => .fnK h
theorem Reps.gen (k : Kp O O' H H') : ∀ {vs : List V} {ds : List D}, Reps K H O vs ds → Reps K H' O' vs ds
  | _, _, .nil => .nil
  | _, _, .cons h t => .cons (Rep.gen k h) (Reps.gen k t)
end
theorem Rep.keep (k : Keep O H H') {v : V} {d : D} (h : Rep K H O v d) : Rep K H' O v d := h.gen (.of k)
theorem Reps.keep (k : Keep O H H') {v : List V} {d : List D} (h : Reps K H O v d) : Reps K H' O v d := h.gen (.of k)
theorem Rep.mono (k : Same H H') {v : V} {d : D} (h : Rep K H O v d) : Rep K H' O v d := h.keep (.of_same k)
theorem Reps.mono (k : Same H H') {v : List V} {d : List D} (h : Reps K H O v d) : Reps K H' O v d := h.keep (.of_same k)
theorem Rep.less (k : ∀ a, O' a → O a) {v : V} {d : D} (h : Rep K H O v d) : Rep K H O' v d := h.gen (.less k)
theorem Reps.less (k : ∀ a, O' a → O a) {v : List V} {d : List D} (h : Reps K H O v d) : Reps K H O' v d := h.gen (.less k)
theorem Rd.some {a : Addr} {u : HO} (h : Rd H a u) : H a ≠ none := by
  rcases h with h | ⟨o, h⟩ <;> (rw [h]; simp)
theorem Rep.more {p : Addr} (hp : H p = none) {v : V} {d : D} (h : Rep K H O v d) : Rep K H (ins1 p O) v d := h.gen (.ins hp)
theorem Reps.more {p : Addr} (hp : H p = none) {v : List V} {d : List D} (h : Reps K H O v d) : Reps K H (ins1 p O) v d := h.gen (.ins hp)
noncomputable def mutO : HO → Bool
  | .lst _ | .dK _ | .dT _ | .set _ _ | .ins _ _ _ => true
  | _ => false
noncomputable def MutHO := { u : HO // mutO u = true }
def Old (H : Hp) : Addr → Prop := fun a => ∃ o, H a = some o ∧ mutO o = true
theorem Old.mono (k : Same H H') {a : Addr} (h : Old H a) : Old H' a := let ⟨o, e, m⟩ := h; ⟨o, k _ _ e, m⟩
def none0 : Addr → Prop := fun _ => False
mutual
theorem Rep.flattn (ho : ∀ a, O a → Old H a) : ∀ {v : V} {d : D}, Rep K H O' v d → flat d = true → Rep K H O v d
  | _, _, .non => fun _ => .non
  | _, _, .bl b => fun _ => .bl b
  | _, _, .int i => fun _ => .int i
  | _, _, .str x => fun _ => .str x
  | _, _, .tup n h r => fun f => .tup (fun z => by
      obtain ⟨u, e, m⟩ := ho _ z
      rcases h with h | ⟨o, h⟩
      · rw [e] at h; cases h; cases m
      · rw [e] at h; cases h; cases m) h (Reps.flattn ho r (by simpa [flat] using f))
  | _, _, .tupK h r => fun f => .tupK h (Reps.flattn ho r (by simpa [flat] using f))
  | _, _, .lst _ _ _ => fun f => by simp [flat] at f
  | _, _, .lstK _ _ => fun f => by simp [flat] at f
  | _, _, .dct _ _ _ _ => fun f => by simp [flat] at f
  | _, _, .dcf _ _ _ _ => fun f => by simp [flat] at f
  | _, _, .ins _ _ _ _ _ => fun f => by simp [flat] at f
  | _, _, .clo _ _ _ _ _ _ => fun f => by simp [flat] at f
  | _, _, .fnK _ => fun f => by simp [flat] at f
theorem Reps.flattn (ho : ∀ a, O a → Old H a) : ∀ {vs : List V} {ds : List D}, Reps K H O' vs ds → flats ds = true → Reps K H O vs ds
  | _, _, .nil => fun _ => .nil
  | _, _, .cons h t => fun f => by
    simp only [flats, Bool.and_eq_true] at f
    exact .cons (Rep.flattn ho h f.1) (Reps.flattn ho t f.2)
end
theorem Rep.flatten (ho : ∀ a, O a → Old H a) {v : V} {d : D} (f : flat d = true) (r : Rep K H O' v d) : Rep K H O v d := r.flattn ho f
theorem Reps.flatten (ho : ∀ a, O a → Old H a) {v : List V} {d : List D} (f : flats d = true) (r : Reps K H O' v d) : Reps K H O v d := r.flattn ho f
theorem Reps.length : ∀ {vs : List V} {ds : List D}, Reps K H O vs ds → vs.length = ds.length
  | _, _, .nil => rfl
  | _, _, .cons _ t => by simp [Reps.length t]
theorem Reps.get : ∀ {vs : List V} {ds : List D} {i : Nat} {d : D}, Reps K H O vs ds → ds[i]? = some d → ∃ v, vs[i]? = some v ∧ Rep K H O v d
  | _, _, _, _, .nil, e => by simp at e
  | _, _, 0, _, .cons h _, e => by simp at e; subst e; exact ⟨_, rfl, h⟩
  | _, _, i + 1, d, .cons _ t, e => by
    obtain ⟨v, h1, h2⟩ := Reps.get (i := i) (d := d) t (by simpa using e)
    exact ⟨v, by simpa using h1, h2⟩
theorem Reps.append : ∀ {xs ys : List V} {ds es : List D}, Reps K H O xs ds → Reps K H O ys es → Reps K H O (xs ++ ys) (ds ++ es)
  | _, _, _, _, .nil, s => s
  | _, _, _, _, .cons r t, s => .cons r (Reps.append t s)
theorem Reps.set {x : V} {d : D} (r : Rep K H O x d) : ∀ {xs : List V} {ds : List D} (i : Nat), Reps K H O xs ds → Reps K H O (xs.set i x) (ds.set i d)
  | _, _, _, .nil => .nil
  | _, _, 0, .cons _ t => .cons r t
  | _, _, i + 1, .cons q t => .cons q (Reps.set r i t)
theorem Reps.drop : ∀ {xs : List V} {ds : List D} (n : Nat), Reps K H O xs ds → Reps K H O (xs.drop n) (ds.drop n)
  | _, _, 0, r => r
  | _, _, _ + 1, .nil => .nil
  | _, _, n + 1, .cons _ t => Reps.drop n t
theorem Reps.take : ∀ {xs : List V} {ds : List D} (n : Nat), Reps K H O xs ds → Reps K H O (xs.take n) (ds.take n)
  | _, _, 0, _ => .nil
  | _, _, _ + 1, .nil => .nil
  | _, _, n + 1, .cons r t => .cons r (Reps.take n t)
theorem Reps.ints : ∀ (ns : List Int), Reps K H O (ns.map V.int) (ns.map D.int)
  | [] => .nil
  | n :: r => .cons (.int n) (Reps.ints r)
def WRep (K : Frag) (H : Hp) (O : Addr → Prop) (v : V) (d : D) : Prop := Rep K H O v d ∨ ∃ a xs l, v = .ref a ∧ d = .lst l ∧ O a ∧ H a = some (.lst xs) ∧ Reps K H O xs l
theorem WRep.mono (k : Same H H') {v : V} {d : D} (h : WRep K H O v d) : WRep K H' O v d := by
  rcases h with h | ⟨a, xs, l, e1, e2, ho, h, r⟩
  · exact .inl (h.mono k)
  · exact .inr ⟨a, xs, l, e1, e2, ho, k _ _ h, r.mono k⟩
theorem WRep.any {v : V} {d : D} (h : WRep K H O v d) : Rep K H none0 v d := by
  rcases h with h | ⟨a, xs, l, rfl, rfl, ho, h, r⟩
  · exact h.less (fun _ z => z.elim)
  · exact .lst (fun z => z.elim) (.inl h) (r.less fun _ z => z.elim)
theorem WRep.seqL {v : V} {l : List D} (h : WRep K H O v (.lst l)) : ∃ a xs, v = .ref a ∧ SqL K H a xs ∧ Reps K H O xs l := by
  rcases h with h | ⟨a, xs, l', rfl, e, ho, h, r⟩
  · cases h with
    | lst n h r => exact ⟨_, _, rfl, .inl h, r⟩
    | lstK h r => exact ⟨_, _, rfl, .inr h, r⟩
  · cases e; exact ⟨a, xs, rfl, .inl (.inl h), r⟩
theorem WRep.seqT {v : V} {l : List D} (h : WRep K H O v (.tup l)) : ∃ a xs, v = .ref a ∧ SqT K H a xs ∧ Reps K H O xs l := by
  rcases h with h | ⟨a, xs, l', rfl, e, ho, h, r⟩
  · cases h with
    | tup n h r => exact ⟨_, _, rfl, .inl h, r⟩
    | tupK h r => exact ⟨_, _, rfl, .inr h, r⟩
  · cases e
theorem WRep.int' {v : V} {i : Int} (h : WRep K H O v (.int i)) : v = .int i := by
  rcases h with h | ⟨a, xs, l', rfl, e, _⟩
  · cases h; rfl
  · cases e
theorem WRep.str' {v : V} {i : Str} (h : WRep K H O v (.str i)) : v = .str i := by
  rcases h with h | ⟨a, xs, l', rfl, e, _⟩
  · cases h; rfl
  · cases e
end
mutual
inductive RepO (K : Frag) (H : Hp) (O : Addr → Prop) : V → OT → List Addr → Prop
  | val {v : V} {d : D} (r : Rep K H O v d) : RepO K H O v (.val d) []
  | lst {a : Addr} {xs : List V} {ts : List OT} {fs : List Addr} (n : O a) (h : H a = some (.lst xs)) (r : RepsO K H O xs ts fs) : RepO K H O (.ref a) (.lst ts) (a :: fs)
  | tup {a : Addr} {xs : List V} {ts : List OT} {fs : List Addr} (n : ¬ O a) (h : Rd H a (.tup xs)) (r : RepsO K H O xs ts fs) : RepO K H O (.ref a) (.tup ts) fs
  | dct {a : Addr} {kvs : List (Key × V)} {ks : List Key} {ts : List OT} {fs : List Addr} (n : O a) (h : H a = some (.dK kvs)) (e : kvs.map (·.1) = ks) (r : RepsO K H O (kvs.map (·.2)) ts fs) : RepO K H O (.ref a) (.dct ks ts) (a :: fs)
  | ins {a C dx : Addr} {t : Nat} {kvs : List (Str × V)} {ts : List OT} {fs : List Addr} (c : PySem.W.nsIn K mainGlobals (clsName t) = some (some (.ref C))) (n : O a) (h : H a = some (.ins C dx kvs)) (e : kvs.map (·.1) = clsFlds t) (r : RepsO K H O (kvs.map (·.2)) ts fs) : RepO K H O (.ref a) (.ins t ts) (a :: fs)
inductive RepsO (K : Frag) (H : Hp) (O : Addr → Prop) : List V → List OT → List Addr → Prop
  | nil : RepsO K H O [] [] []
  | cons {x : V} {t : OT} {xs : List V} {ts : List OT} {fs gs : List Addr} (h : RepO K H O x t fs) (r : RepsO K H O xs ts gs) : RepsO K H O (x :: xs) (t :: ts) (fs ++ gs)
end
section
variable {K : Frag} {H H' : Hp} {O O' : Addr → Prop}
mutual
theorem RepO.gen (k : Kp O O' H H') : ∀ {v : V} {t : OT} {fs : List Addr}, RepO K H O v t fs → (∀ b ∈ fs, ∀ u, O b → H b = some u → O' b ∧ H' b = some u) → RepO K H' O' v t fs
  | _, _, _, .val r => fun _ => .val (r.gen k)
  | _, _, _, .lst n h r => fun hb => .lst (hb _ (.head _) _ n h).1 (hb _ (.head _) _ n h).2 (RepsO.gen k r fun b z => hb b (.tail _ z))
  | _, _, _, .tup n h r => fun hb => .tup (k.rd n h).1 (k.rd n h).2 (RepsO.gen k r hb)
  | _, _, _, .dct n h e r => fun hb => .dct (hb _ (.head _) _ n h).1 (hb _ (.head _) _ n h).2 e (RepsO.gen k r fun b z => hb b (.tail _ z))
  | _, _, _, .ins c n h e r => fun hb => .ins c (hb _ (.head _) _ n h).1 (hb _ (.head _) _ n h).2 e (RepsO.gen k r fun b z => hb b (.tail _ z))
theorem RepsO.gen (k : Kp O O' H H') : ∀ {v : List V} {t : List OT} {fs : List Addr}, RepsO K H O v t fs → (∀ b ∈ fs, ∀ u, O b → H b = some u → O' b ∧ H' b = some u) → RepsO K H' O' v t fs
  | _, _, _, .nil => fun _ => .nil
  | _, _, _, .cons h r => fun hb => .cons (RepO.gen k h fun b z => hb b (List.mem_append_left _ z)) (RepsO.gen k r fun b z => hb b (List.mem_append_right _ z))
end
theorem RepO.keep (k : Keep O H H') {v : V} {t : OT} {fs : List Addr} (h : RepO K H O v t fs) (hb : ∀ b ∈ fs, ∀ u, H b = some u → H' b = some u) : RepO K H' O v t fs := h.gen (.of k) fun b z u o e => ⟨o, hb b z u e⟩
theorem RepsO.keep (k : Keep O H H') {v : List V} {t : List OT} {fs : List Addr} (h : RepsO K H O v t fs) (hb : ∀ b ∈ fs, ∀ u, H b = some u → H' b = some u) : RepsO K H' O v t fs := h.gen (.of k) fun b z u o e => ⟨o, hb b z u e⟩
theorem RepO.mono (k : Same H H') {v : V} {t : OT} {fs : List Addr} (h : RepO K H O v t fs) : RepO K H' O v t fs := h.keep (.of_same k) fun b _ u e => k b u e
theorem RepsO.mono (k : Same H H') {v : List V} {t : List OT} {fs : List Addr} (h : RepsO K H O v t fs) : RepsO K H' O v t fs := h.keep (.of_same k) fun b _ u e => k b u e
theorem RepO.less (k : ∀ a, O' a → O a) {v : V} {t : OT} {fs : List Addr} (h : RepO K H O v t fs) (hb : ∀ b ∈ fs, O' b) : RepO K H O' v t fs := h.gen (.less k) fun b z _ _ e => ⟨hb b z, e⟩
theorem RepsO.less (k : ∀ a, O' a → O a) {v : List V} {t : List OT} {fs : List Addr} (h : RepsO K H O v t fs) (hb : ∀ b ∈ fs, O' b) : RepsO K H O' v t fs := h.gen (.less k) fun b z _ _ e => ⟨hb b z, e⟩
theorem RepO.more {p : Addr} (hp : H p = none) {v : V} {t : OT} {fs : List Addr} (h : RepO K H O v t fs) : RepO K H (ins1 p O) v t fs := h.gen (.ins hp) fun _ _ _ o e => ⟨.inr o, e⟩
mutual
theorem RepO.owns : ∀ {v : V} {t : OT} {fs : List Addr}, RepO K H O v t fs → ∀ b ∈ fs, O b ∧ ∃ u : MutHO, H b = some u.1
  | _, _, _, .val r => fun b z => nomatch z
  | _, _, _, .lst n h r => fun b z => (List.mem_cons.mp z).elim (fun q => q ▸ ⟨n, ⟨_, rfl⟩, h⟩) (RepsO.owns r b)
  | _, _, _, .tup n h r => RepsO.owns r
  | _, _, _, .dct n h e r => fun b z => (List.mem_cons.mp z).elim (fun q => q ▸ ⟨n, ⟨_, rfl⟩, h⟩) (RepsO.owns r b)
  | _, _, _, .ins c n h e r => fun b z => (List.mem_cons.mp z).elim (fun q => q ▸ ⟨n, ⟨_, rfl⟩, h⟩) (RepsO.owns r b)
theorem RepsO.owns : ∀ {v : List V} {t : List OT} {fs : List Addr}, RepsO K H O v t fs → ∀ b ∈ fs, O b ∧ ∃ u : MutHO, H b = some u.1
  | _, _, _, .nil => fun b z => nomatch z
  | _, _, _, .cons h r => fun b z => (List.mem_append.mp z).elim (RepO.owns h b) (RepsO.owns r b)
end
mutual
theorem RepO.val' : ∀ {v : V} {t : OT} {fs : List Addr}, RepO K H O v t fs → (∀ a, O' a → O a ∧ a ∉ fs) → Rep K H O' v (otD t)
  | _, _, _, .val r => fun k => r.less fun a z => (k a z).1
  | _, _, _, .lst n h r => fun k => by unfold otD; exact .lst (fun z => (k _ z).2 (.head _)) (.inl h) (RepsO.val' r fun a z => ⟨(k a z).1, fun q => (k a z).2 (.tail _ q)⟩)
  | _, _, _, .tup n h r => fun k => by unfold otD; exact .tup (fun z => n (k _ z).1) h (RepsO.val' r k)
  | _, _, _, .dct n h e r => fun k => by unfold otD; exact .dct (fun z => (k _ z).2 (.head _)) h e (RepsO.val' r fun a z => ⟨(k a z).1, fun q => (k a z).2 (.tail _ q)⟩)
  | _, _, _, .ins c n h e r => fun k => by unfold otD; exact .ins c (fun z => (k _ z).2 (.head _)) h e (RepsO.val' r fun a z => ⟨(k a z).1, fun q => (k a z).2 (.tail _ q)⟩)
theorem RepsO.val' : ∀ {v : List V} {t : List OT} {fs : List Addr}, RepsO K H O v t fs → (∀ a, O' a → O a ∧ a ∉ fs) → Reps K H O' v (otDs t)
  | _, _, _, .nil => fun _ => by unfold otDs; exact .nil
  | _, _, _, .cons h r => fun k => by unfold otDs; exact .cons (RepO.val' h fun a z => ⟨(k a z).1, fun q => (k a z).2 (List.mem_append_left _ q)⟩) (RepsO.val' r fun a z => ⟨(k a z).1, fun q => (k a z).2 (List.mem_append_right _ q)⟩)
end
theorem RepO.any {v : V} {t : OT} {fs : List Addr} (h : RepO K H O v t fs) : Rep K H none0 v (otD t) := h.val' fun _ z => z.elim
theorem RepsO.any {v : List V} {t : List OT} {fs : List Addr} (h : RepsO K H O v t fs) : Reps K H none0 v (otDs t) := h.val' fun _ z => z.elim
end
noncomputable def SlOk (K : Frag) (H₀ H : Hp) (O : Addr → Prop) : Option V → Sl → Prop
  | _, .no => True
  | some x, .v d => Rep K H O x d
  | some (.ref a), .own l => O a ∧ ∃ xs, H a = some (.lst xs) ∧ Reps K H O xs l
  | some (.ref a), .fr l => ¬ O a ∧ H₀ a = none ∧ ∃ xs, H a = some (.lst xs) ∧ Reps K H O xs l
  | _, .ob _ _ => True
  | some (.ref a), .exc t => ∃ C o u, PySem.W.nsIn K mainGlobals (xName t) = some (some (.ref C)) ∧ H a = some (.frz o u) ∧ o.cls = .ref C
  | _, _ => False
def IsOwn (ds : List Sl) (i : Nat) : Prop := ∃ l, ds[i]? = some (.own l)
inductive HI where
  | rep (v : V) (d : D) | base (B : Addr → Prop) | root (k a : Nat) | fz (a : Addr) (o : Obj) (kvs : List (Key × V)) (l : List D)
abbrev Hold := List HI
noncomputable def HOk (K : Frag) (H₀ H : Hp) (O : Addr → Prop) : HI → Prop
  | .rep v d => Rep K H O v d
  | .base B => ∀ a, B a → O a ∧ H₀ a ≠ none
  | .root _ _ => True
  | .fz a o kvs l => ¬ O a ∧ H a = some (.frz o (.dK kvs)) ∧ Reps K H O (kvs.map (·.2)) l
def Obs (K : Frag) (H₀ H : Hp) (O : Addr → Prop) (σ : L2.St) (ds : List Sl) (hd : Hold) : Prop := ∃ F : Nat → List Addr, ∀ (i : Nat) (r : Option Nat) (t : OT), ds[i]? = some (.ob r t) → ∃ v, σ[i]? = some (some v) ∧ RepO K H O v t (F i) ∧ (∀ k a, r = some k → HI.root k a ∈ hd → v = .ref a) ∧ (F i).Nodup ∧
  ∀ b ∈ F i, H₀ b = none ∧ (∀ j r' t', j ≠ i → ds[j]? = some (.ob r' t') → b ∉ F j) ∧ ∀ j, IsOwn ds j → σ[j]? ≠ some (some (.ref b))
structure Ok (K : Frag) (H₀ H : Hp) (O : Addr → Prop) (σ : L2.St) (ds : List Sl) (hd : Hold) : Prop where
  same : Same H₀ H
  fresh : ∀ (i : Nat) (l : List D) (a : Addr), ds[i]? = some (.own l) → σ[i]? = some (some (.ref a)) → H₀ a = none
  dom : ∀ a, O a → ∃ u : MutHO, H a = some u.1
  len : σ.length = ds.length
  sl : ∀ (i : Nat) (s : Sl), ds[i]? = some s → SlOk K H₀ H O (σ[i]?.join) s
  apart : ∀ (i j : Nat) (a : Addr), i ≠ j → IsOwn ds i → IsOwn ds j → σ[i]? = some (some (.ref a)) → σ[j]? = some (some (.ref a)) → False
  hold : ∀ p ∈ hd, HOk K H₀ H O p
  obs : Obs K H₀ H O σ ds hd
section
variable {K : Frag} {H₀ H H' : Hp} {O O' : Addr → Prop} {σ : L2.St} {ds : List Sl} {hd : Hold}
theorem HOk.mono (k : Same H H') : ∀ {p : HI}, HOk K H₀ H O p → HOk K H₀ H' O p
  | .rep _ _, h => Rep.mono k h
  | .base _, h => h
  | .root _ _, h => h
  | .fz _ _ _ _, h => ⟨h.1, k _ _ h.2.1, Reps.mono k h.2.2⟩
theorem HOk.keep (k : Keep O H H') : ∀ {p : HI}, HOk K H₀ H O p → HOk K H₀ H' O p
  | .rep _ _, h => Rep.keep k h
  | .base _, h => h
  | .root _ _, h => h
  | .fz _ _ _ _, h => ⟨h.1, k _ _ h.1 h.2.1, Reps.keep k h.2.2⟩
theorem Obs.tr {σ' : L2.St} {ds' : List Sl} (h : Obs K H₀ H O σ ds hd) (tr : ∀ v t fs, RepO K H O v t fs → (∀ b ∈ fs, H₀ b = none ∧ ∀ j, IsOwn ds j → σ[j]? ≠ some (some (.ref b))) → RepO K H' O' v t fs)
    (hob : ∀ (i : Nat) (r : Option Nat) (t : OT), ds'[i]? = some (.ob r t) → ds[i]? = some (.ob r t) ∧ σ'[i]? = σ[i]?)
    (hown : ∀ (j : Nat) (b : Addr), IsOwn ds' j → σ'[j]? = some (some (.ref b)) → (IsOwn ds j ∧ σ[j]? = some (some (.ref b))) ∨ H b = none) : Obs K H₀ H' O' σ' ds' hd := by
  obtain ⟨F, hF⟩ := h
  refine ⟨F, fun i r t e => ?_⟩
  obtain ⟨e1, e2⟩ := hob i r t e
  obtain ⟨v, h1, h2, h3, h4, h5⟩ := hF i r t e1
  refine ⟨v, e2.trans h1, tr v t _ h2 fun b hb => ⟨(h5 b hb).1, (h5 b hb).2.2⟩, h3, h4, fun b hb => ⟨(h5 b hb).1, fun j r' t' hj ej => (h5 b hb).2.1 j r' t' hj (hob j r' t' ej).1, fun j oj ej => ?_⟩⟩
  rcases hown j b oj ej with ⟨o1, o2⟩ | hn
  · exact (h5 b hb).2.2 j o1 o2
  · obtain ⟨_, xs, z⟩ := h2.owns b hb
    rw [hn] at z; cases z
theorem Obs.no (h : ∀ (i : Nat) (r : Option Nat) (t : OT), ds[i]? ≠ some (.ob r t)) : Obs K H₀ H O σ ds hd := ⟨fun _ => [], fun i r t e => (h i r t e).elim⟩
theorem Obs.mono (k : Same H H') (h : Obs K H₀ H O σ ds hd) : Obs K H₀ H' O σ ds hd := h.tr (fun _ _ _ r _ => r.mono k) (fun _ _ _ e => ⟨e, rfl⟩) fun _ _ o e => .inl ⟨o, e⟩
theorem ob_set {i : Nat} {s : Sl} (hs : ∀ r t, s ≠ .ob r t) {j : Nat} {r : Option Nat} {t : OT} (e : (ds.set i s)[j]? = some (.ob r t)) : ds[j]? = some (.ob r t) ∧ j ≠ i := by
  by_cases hj : j = i
  · subst hj
    by_cases hl : j < ds.length
    · rw [List.getElem?_set_self hl] at e
      cases e
      exact (hs r t rfl).elim
    · rw [List.getElem?_eq_none (by simpa using hl)] at e; cases e
  · rw [List.getElem?_set_ne (Ne.symm hj)] at e
    exact ⟨e, hj⟩
theorem own_set {i : Nat} {s : Sl} (hs : ∀ l, s ≠ .own l) {j : Nat} (e : IsOwn (ds.set i s) j) : IsOwn ds j ∧ j ≠ i := by
  obtain ⟨l, e⟩ := e
  by_cases hj : j = i
  · subst hj
    by_cases hl : j < ds.length
    · rw [List.getElem?_set_self hl] at e
      cases e
      exact (hs l rfl).elim
    · rw [List.getElem?_eq_none (by simpa using hl)] at e; cases e
  · rw [List.getElem?_set_ne (Ne.symm hj)] at e
    exact ⟨⟨l, e⟩, hj⟩
theorem SlOk.mono (k : Same H H') : ∀ {x : Option V} {s : Sl}, SlOk K H₀ H O x s → SlOk K H₀ H' O x s
  | none, .no, _ => trivial
  | some (.ref _), .no, _ => trivial
  | some _, .no, _ => by simp [SlOk]
  | x, .ob _ _, _ => by cases x with
    | none => trivial
    | some x => cases x <;> trivial
  | some x, .v d, h => by
    have h : Rep K H O x d := by cases x <;> exact h
    show SlOk K H₀ H' O (some x) (.v d)
    have := h.mono k
    cases x <;> exact this
  | some (.ref a), .own l, ⟨ho, xs, h, r⟩ => ⟨ho, xs, k _ _ h, r.mono k⟩
  | some (.ref a), .fr l, ⟨ho, h0, xs, h, r⟩ => ⟨ho, h0, xs, k _ _ h, r.mono k⟩
  | some (.ref a), .exc t, ⟨C, o, u, h1, h2, h3⟩ => ⟨C, o, u, h1, k _ _ h2, h3⟩
theorem Ok.old (o : Ok K H₀ H O σ ds hd) {a : Addr} (h : O a) : Old H a := let ⟨xs, e⟩ := o.dom a h; ⟨_, e, xs.2⟩
theorem Ok.mono (k : Same H H') (o : Ok K H₀ H O σ ds hd) : Ok K H₀ H' O σ ds hd :=
  ⟨o.same.trans k, o.fresh, fun a h => let ⟨xs, e⟩ := o.dom a h; ⟨xs, k _ _ e⟩, o.len, fun i s e => (o.sl i s e).mono k, o.apart, fun p hp => (o.hold p hp).mono k, o.obs.mono k⟩
theorem Ok.free {p : Addr} (o : Ok K H₀ H O σ ds hd) (h : H p = none) : ¬ O p := fun z => by
  obtain ⟨xs, e⟩ := o.dom p z
  rw [h] at e; cases e
theorem Ok.read {i : Nat} {d : D} (o : Ok K H₀ H O σ ds hd) (e : ds[i]? = some (.v d)) : ∃ v, σ[i]? = some (some v) ∧ Rep K H O v d := by
  have h := o.sl i _ e
  cases q : σ[i]? with
  | none => rw [q] at h; exact h.elim
  | some x =>
    rw [q] at h
    cases x with
    | none => exact h.elim
    | some x => exact ⟨x, rfl, by cases x <;> exact h⟩
theorem Ok.readO {i : Nat} {l : List D} (o : Ok K H₀ H O σ ds hd) (e : ds[i]? = some (.own l)) : ∃ a xs, σ[i]? = some (some (.ref a)) ∧ O a ∧ H a = some (.lst xs) ∧ Reps K H O xs l := by
  have h := o.sl i _ e
  cases q : σ[i]? with
  | none => rw [q] at h; exact h.elim
  | some x =>
    rw [q] at h
    cases x with
    | none => exact h.elim
    | some x =>
      cases x with
      | ref a => obtain ⟨ho, xs, h1, h2⟩ := h; exact ⟨a, xs, rfl, ho, h1, h2⟩
      | _ => exact h.elim
theorem Ok.readX {i t : Nat} (o : Ok K H₀ H O σ ds hd) (e : ds[i]? = some (.exc t)) : ∃ a C ob u, σ[i]? = some (some (.ref a)) ∧ PySem.W.nsIn K mainGlobals (xName t) = some (some (.ref C)) ∧ H a = some (.frz ob u) ∧ ob.cls = .ref C := by
  have h := o.sl i _ e
  cases q : σ[i]? with
  | none => rw [q] at h; exact h.elim
  | some x =>
    rw [q] at h
    cases x with
    | none => exact h.elim
    | some x =>
      cases x with
      | ref a => obtain ⟨C, ob, u, h1, h2, h3⟩ := h; exact ⟨a, C, ob, u, rfl, h1, h2, h3⟩
      | _ => exact h.elim
theorem Ok.readF {i : Nat} {l : List D} (o : Ok K H₀ H O σ ds hd) (e : ds[i]? = some (.fr l)) : ∃ a xs, σ[i]? = some (some (.ref a)) ∧ ¬ O a ∧ H₀ a = none ∧ H a = some (.lst xs) ∧ Reps K H O xs l := by
  have h := o.sl i _ e
  cases q : σ[i]? with
  | none => rw [q] at h; exact h.elim
  | some x =>
    rw [q] at h
    cases x with
    | none => exact h.elim
    | some x =>
      cases x with
      | ref a => obtain ⟨ho, h0, xs, h1, h2⟩ := h; exact ⟨a, xs, rfl, ho, h0, h1, h2⟩
      | _ => exact h.elim
theorem slOk_no {x : Option V} : SlOk K H₀ H O x .no := by
  cases x with
  | none => trivial
  | some x => cases x <;> trivial
theorem slOk_ob {x : Option V} {r : Option Nat} {t : OT} : SlOk K H₀ H O x (.ob r t) := by
  cases x with
  | none => trivial
  | some x => cases x <;> trivial
theorem slOk_v {x : V} {d : D} (h : Rep K H O x d) : SlOk K H₀ H O (some x) (.v d) := by
  cases x <;> exact h
theorem Ok.set {i : Nat} {v : V} {d : D} (o : Ok K H₀ H O σ ds hd) (r : Rep K H O v d) : Ok K H₀ H O (σ.set i (some v)) (ds.set i (.v d)) hd := by
  have own' : ∀ {j : Nat}, IsOwn (ds.set i (.v d)) j → j ≠ i ∧ IsOwn ds j := fun {j} ⟨l, e⟩ => by
    by_cases hj : j = i
    · subst hj
      by_cases hl : j < ds.length
      · rw [List.getElem?_set_self hl] at e; cases e
      · rw [List.getElem?_eq_none (by simpa using hl)] at e; cases e
    · rw [List.getElem?_set_ne (Ne.symm hj)] at e
      exact ⟨hj, l, e⟩
  refine ⟨o.same, fun j l a e1 e2 => ?_, o.dom, by simpa using o.len, fun j s e => ?_, fun j k a hjk hj hk e1 e2 => ?_, o.hold, o.obs.tr (fun _ _ _ r _ => r) (fun j r t e => by
    obtain ⟨e1, hj⟩ := ob_set (fun r t => by intro z; cases z) e
    exact ⟨e1, by rw [List.getElem?_set_ne (Ne.symm hj)]⟩) (fun j b oj ej => by
    obtain ⟨o1, hj⟩ := own_set (fun l => by intro z; cases z) oj
    rw [List.getElem?_set_ne (Ne.symm hj)] at ej
    exact .inl ⟨o1, ej⟩)⟩
  · obtain ⟨n1, h1⟩ := own' ⟨l, e1⟩
    rw [List.getElem?_set_ne (Ne.symm n1)] at e1 e2
    exact o.fresh j l a e1 e2
  · by_cases hj : j = i
    · subst hj
      by_cases hl : j < ds.length
      · rw [List.getElem?_set_self hl] at e
        cases e
        rw [List.getElem?_set_self (by rw [o.len]; exact hl)]
        exact slOk_v r
      · rw [List.getElem?_eq_none (by simpa using hl)] at e; cases e
    · rw [List.getElem?_set_ne (Ne.symm hj)] at e
      rw [List.getElem?_set_ne (Ne.symm hj)]
      exact o.sl j s e
  · obtain ⟨n1, h1⟩ := own' hj
    obtain ⟨n2, h2⟩ := own' hk
    rw [List.getElem?_set_ne (Ne.symm n1)] at e1
    rw [List.getElem?_set_ne (Ne.symm n2)] at e2
    exact o.apart j k a hjk h1 h2 e1 e2
theorem Ok.setO {i : Nat} {a : Addr} {xs : List V} {l : List D} (o : Ok K H₀ H O σ ds hd) (k : Same H H') (hn : H a = none) (e : H' a = some (.lst xs)) (r : Reps K H' (ins1 a O) xs l) :
    Ok K H₀ H' (ins1 a O) (σ.set i (some (.ref a))) (ds.set i (.own l)) hd := by
  have up : ∀ {v : V} {d : D}, Rep K H O v d → Rep K H' (ins1 a O) v d := fun h => (h.more hn).mono k
  have ups : ∀ {v : List V} {d : List D}, Reps K H O v d → Reps K H' (ins1 a O) v d := fun h => (h.more hn).mono k
  have other : ∀ j : Nat, IsOwn ds j → σ[j]? = some (some (.ref a)) → False := fun j ⟨l', e'⟩ q => by
    obtain ⟨b, ys, h1, h2, h3, _⟩ := o.readO e'
    rw [q] at h1; cases h1
    rw [hn] at h3; cases h3
  have own' : ∀ {j : Nat}, j ≠ i → IsOwn (ds.set i (.own l)) j → IsOwn ds j := fun {j} hj ⟨l', e'⟩ => ⟨l', by rwa [List.getElem?_set_ne (Ne.symm hj)] at e'⟩
  refine ⟨o.same.trans k, fun j l' b e1 e2 => ?_, fun b hb => ?_, by simpa using o.len, fun j s es => ?_, fun j m b hjm hj hm e1 e2 => ?_, fun p hp => ?_, o.obs.tr (fun _ _ _ r _ => (r.more hn).mono k) (fun j r t e => by
    obtain ⟨e1, hj⟩ := ob_set (fun r t => by intro z; cases z) e
    exact ⟨e1, by rw [List.getElem?_set_ne (Ne.symm hj)]⟩) (fun j b oj ej => by
    by_cases hj : j = i
    · subst hj
      by_cases hl : j < σ.length
      · rw [List.getElem?_set_self hl] at ej; cases ej; exact .inr hn
      · rw [List.getElem?_eq_none (by simpa using hl)] at ej; cases ej
    · rw [List.getElem?_set_ne (Ne.symm hj)] at ej
      obtain ⟨l', e'⟩ := oj
      rw [List.getElem?_set_ne (Ne.symm hj)] at e'
      exact .inl ⟨⟨l', e'⟩, ej⟩)⟩
  rotate_left 4
  · have := o.hold p hp
    cases p with
    | rep v d => exact up this
    | base B => exact fun b hb => ⟨.inr (this b hb).1, (this b hb).2⟩
    | root k a => exact True.intro
    | fz a' o' kvs' l' => exact ⟨fun z => z.elim (fun z => by have := this.2.1; rw [z, hn] at this; cases this) this.1, k _ _ this.2.1, (Reps.more hn this.2.2).mono k⟩
  · by_cases hj : j = i
    · subst hj
      by_cases hl : j < σ.length
      · rw [List.getElem?_set_self hl] at e2
        cases e2
        exact o.same.free hn
      · rw [List.getElem?_eq_none (by simpa using hl)] at e2; cases e2
    · rw [List.getElem?_set_ne (Ne.symm hj)] at e1 e2
      exact o.fresh j l' b e1 e2
  · rcases hb with rfl | hb
    · exact ⟨⟨.lst xs, rfl⟩, e⟩
    · obtain ⟨ys, q⟩ := o.dom b hb
      exact ⟨ys, k _ _ q⟩
  · by_cases hj : j = i
    · subst hj
      by_cases hl : j < ds.length
      · rw [List.getElem?_set_self hl] at es
        cases es
        rw [List.getElem?_set_self (by rw [o.len]; exact hl)]
        exact ⟨.inl rfl, xs, e, r⟩
      · rw [List.getElem?_eq_none (by simpa using hl)] at es; cases es
    · rw [List.getElem?_set_ne (Ne.symm hj)] at es
      rw [List.getElem?_set_ne (Ne.symm hj)]
      cases s with
      | no => exact slOk_no
      | ob r t => exact slOk_ob
      | exc t =>
        obtain ⟨a', C', ob', u', q1, q2, q3, q4⟩ := o.readX es
        rw [q1]
        exact ⟨C', ob', u', q2, k _ _ q3, q4⟩
      | fr l' =>
        obtain ⟨a', xs', q1, q2, q0, q3, q4⟩ := o.readF es
        rw [q1]
        exact ⟨fun z => z.elim (fun e' => by rw [e', hn] at q3; cases q3) q2, q0, xs', k _ _ q3, ups q4⟩
      | v d =>
        obtain ⟨v, h1, h2⟩ := o.read es
        rw [h1]
        exact slOk_v (up h2)
      | own l' =>
        obtain ⟨b, ys, h1, h2, h3, h4⟩ := o.readO es
        rw [h1]
        exact ⟨.inr h2, ys, k _ _ h3, ups h4⟩
  · have hs : ∀ {q : Nat}, q = i → (σ.set i (some (V.ref a)))[q]? = some (some (.ref b)) → b = a := fun {q} hq eq => by
      subst hq
      by_cases hl : q < σ.length
      · rw [List.getElem?_set_self hl] at eq
        cases eq; rfl
      · rw [List.getElem?_eq_none (by simpa using hl)] at eq; cases eq
    by_cases h1 : j = i
    · have hb := hs h1 e1
      have h2 : m ≠ i := fun z => hjm (h1.trans z.symm)
      rw [List.getElem?_set_ne (Ne.symm h2), hb] at e2
      exact other m (own' h2 hm) e2
    · by_cases h2 : m = i
      · have hb := hs h2 e2
        rw [List.getElem?_set_ne (Ne.symm h1), hb] at e1
        exact other j (own' h1 hj) e1
      · rw [List.getElem?_set_ne (Ne.symm h1)] at e1
        rw [List.getElem?_set_ne (Ne.symm h2)] at e2
        exact o.apart j m b hjm (own' h1 hj) (own' h2 hm) e1 e2
theorem Ok.modify {i : Nat} {l l' : List D} {a : Addr} {xs' : List V} (o : Ok K H₀ H O σ ds hd) (e : ds[i]? = some (.own l)) (ea : σ[i]? = some (some (.ref a))) (r : Reps K H O xs' l') :
    Ok K H₀ (upd H a (.lst xs')) O σ (ds.set i (.own l')) hd := by
  obtain ⟨a', xs, h1, h2, h3, h4⟩ := o.readO e
  rw [ea] at h1; cases h1
  have hl : i < ds.length := (List.getElem?_eq_some_iff.mp e).1
  have k : Keep O H (upd H a (.lst xs')) := fun b u hb eb => by
    rw [upd_ne (fun (z : b = a) => hb (z.symm ▸ h2))]; exact eb
  refine ⟨fun b u eb => ?_, fun j l2 b e1 e2 => ?_, fun b hb => ?_, by simpa using o.len, fun j s es => ?_, fun j m b hjm hj hm e1 e2 => ?_, fun p hp => (o.hold p hp).keep k, o.obs.tr (fun _ _ _ r hb => r.keep k fun b z u eu => by rw [upd_ne (fun q => (hb b z).2 i ⟨l, e⟩ (by rw [q]; exact ea))]; exact eu) (fun j r t ej => by
    obtain ⟨e1, hj⟩ := ob_set (fun r t => by intro z; cases z) ej
    exact ⟨e1, rfl⟩) (fun j b oj ej => by
    by_cases hj : j = i
    · subst hj; exact .inl ⟨⟨l, e⟩, ej⟩
    · obtain ⟨l', e'⟩ := oj
      rw [List.getElem?_set_ne (Ne.symm hj)] at e'
      exact .inl ⟨⟨l', e'⟩, ej⟩)⟩
  rotate_left 1
  · by_cases hj : j = i
    · subst hj; exact o.fresh j l b e e2
    · rw [List.getElem?_set_ne (Ne.symm hj)] at e1; exact o.fresh j l2 b e1 e2
  rotate_right 1
  · rw [upd_ne (fun z => by rw [z, o.fresh i l a e ea] at eb; cases eb)]
    exact o.same b u eb
  · by_cases hba : b = a
    · subst hba; exact ⟨⟨.lst xs', rfl⟩, upd_same⟩
    · rw [upd_ne hba]; exact o.dom b hb
  · by_cases hj : j = i
    · subst hj
      rw [List.getElem?_set_self hl] at es
      cases es
      rw [ea]
      exact ⟨h2, xs', upd_same, r.keep k⟩
    · rw [List.getElem?_set_ne (Ne.symm hj)] at es
      cases s with
      | no => exact slOk_no
      | ob r t => exact slOk_ob
      | exc t =>
        obtain ⟨a', C', ob', u', q1, q2, q3, q4⟩ := o.readX es
        rw [q1]
        exact ⟨C', ob', u', q2, by rw [upd_ne (fun z => by rw [z, h3] at q3; cases q3)]; exact q3, q4⟩
      | fr l' =>
        obtain ⟨a', xs'', q1, q2, q0, q3, q4⟩ := o.readF es
        rw [q1]
        exact ⟨q2, q0, xs'', by rw [upd_ne (fun z => q2 (by rw [z]; exact h2))]; exact q3, q4.keep k⟩
      | v d =>
        obtain ⟨v, q1, q2⟩ := o.read es
        rw [q1]
        exact slOk_v (q2.keep k)
      | own l'' =>
        obtain ⟨b, ys, q1, q2, q3, q4⟩ := o.readO es
        rw [q1]
        refine ⟨q2, ys, ?_, q4.keep k⟩
        rw [upd_ne (fun z => ?_)]
        · exact q3
        · subst z
          exact o.apart j i b hj ⟨_, es⟩ ⟨l, e⟩ q1 ea
  · have own' : ∀ {j : Nat}, IsOwn (ds.set i (.own l')) j → IsOwn ds j := fun {j} ⟨l'', e'⟩ => by
      by_cases hj : j = i
      · subst hj; exact ⟨l, e⟩
      · rw [List.getElem?_set_ne (Ne.symm hj)] at e'; exact ⟨l'', e'⟩
    exact o.apart j m b hjm (own' hj) (own' hm) e1 e2
theorem Ok.holdMore {p : HI} (o : Ok K H₀ H O σ ds hd) (r : HOk K H₀ H O p) (hp : ∀ k a, HI.root k a ≠ p := by intro _ _ z; cases z) : Ok K H₀ H O σ ds (p :: hd) :=
  ⟨o.same, o.fresh, o.dom, o.len, o.sl, o.apart, fun q hq => (List.mem_cons.mp hq).elim (fun e => e ▸ r) (o.hold q), let ⟨F, hF⟩ := o.obs; ⟨F, fun i r t e => let ⟨v, h1, h2, h3, h4⟩ := hF i r t e; ⟨v, h1, h2, fun k a z y => (List.mem_cons.mp y).elim (fun y => (hp k a y).elim) (h3 k a z), h4⟩⟩⟩
theorem Ok.holdLess {p : HI} (o : Ok K H₀ H O σ ds (p :: hd)) : Ok K H₀ H O σ ds hd :=
  ⟨o.same, o.fresh, o.dom, o.len, o.sl, o.apart, fun q hq => o.hold q (List.mem_cons_of_mem _ hq), let ⟨F, hF⟩ := o.obs; ⟨F, fun i r t e => let ⟨v, h1, h2, h3, h4⟩ := hF i r t e; ⟨v, h1, h2, fun k a z y => h3 k a z (List.mem_cons_of_mem _ y), h4⟩⟩⟩
end
end FL
namespace FL
open PySem PySem.Spec PyProof.Rows L2
section
variable (X : Cx)
def PV (e : Expr) (f : FE) : Prop := ∃ t, PE X e t ∧ ∀ H₀ H O σ ds hd d Q, Ok X.K H₀ H O σ ds hd → f ds = some d → (∀ v H', Same H H' → Rep X.K H' O v d → Q v H') → t σ H Q
def PVw (e : Expr) (f : FE) : Prop := ∃ t, PE X e t ∧ ∀ H₀ H O σ ds hd d Q, Ok X.K H₀ H O σ ds hd → f ds = some d → (∀ v H', Same H H' → WRep X.K H' O v d → Q v H') → t σ H Q
def PVf (e : Expr) (f : FA) : Prop := ∃ t, PE X e t ∧ ∀ H₀ H O σ ds hd l Q, Ok X.K H₀ H O σ ds hd → f ds = some l →
  (∀ a xs H', Same H H' → H a = none → H' a = some (.lst xs) → Reps X.K H' (ins1 a O) xs l → Q (.ref a) H') → t σ H Q
def PTv (e : Expr) (c : FT) : Prop := ∃ t, PT X e t ∧ ∀ H₀ H O σ ds hd b Q, Ok X.K H₀ H O σ ds hd → c ds = some b → (∀ H', Same H H' → Q b H') → t σ H Q
def PWv (e : Expr) (c : FT) : Prop := ∃ t, PW X e t ∧ ∀ H₀ H O σ ds hd b Q, Ok X.K H₀ H O σ ds hd → c ds = some b → (∀ H', Same H H' → Q b H') → t σ H Q
def PAv (es : List Expr) (f : FA) : Prop := ∃ t, PA X es t ∧ ∀ H₀ H O σ ds hd l Q, Ok X.K H₀ H O σ ds hd → f ds = some l → (∀ vs H', Same H H' → Paired (WRep X.K H' O) vs l → Q vs H') → t σ H Q
def PAs (es : List Expr) (f : FA) : Prop := ∃ t, PA X es t ∧ ∀ H₀ H O σ ds hd l Q, Ok X.K H₀ H O σ ds hd → f ds = some l → (∀ vs H', Same H H' → Reps X.K H' O vs l → Q vs H') → t σ H Q
end
section
variable {X : Cx}
theorem PV.w {e : Expr} {f : FE} (h : PV X e f) : PVw X e f := by
  obtain ⟨t, ht, hf⟩ := h
  exact ⟨t, ht, fun H₀ H O σ ds hd d Q o e q => hf H₀ H O σ ds hd d Q o e fun v H' s r => q v H' s (.inl r)⟩
theorem PVf.s {e : Expr} {f : FA} (h : PVf X e f) : PV X e (mkL f) := by
  obtain ⟨t, ht, hf⟩ := h
  refine ⟨t, ht, fun H₀ H O σ ds hd d Q o e q => ?_⟩
  unfold mkL at e
  obtain ⟨l, hl, rfl⟩ := mpd e
  rw [hl] at e; cases e
  refine hf H₀ H O σ ds hd l Q o hl fun a xs H' s hn he r => q _ _ s ?_
  exact .lst (o.free hn) (.inl he) (r.less fun _ z => .inr z)
theorem pv_var (i : Nat) {x : Str} {pos : Pos} (hN : X.N[i]? = some x := by rfl) (hv : Vis X.env.scope x := by first | exact Or.inl rfl | exact Or.inr (Or.inl rfl) | exact Or.inr (Or.inr rfl)) (hd : (x == ("__debug__" : Str)) = false := by decide)
    (hcd : (x == ("__classdict__" : Str)) = false := by decide) : PV X (.Name x pos) (getV i) := by
  refine ⟨_, pe_var hN hv hd hcd, fun H₀ H O σ ds hd d Q o e q => ?_⟩
  unfold getV at e
  cases hs : ds[i]? with
  | none => rw [hs] at e; cases e
  | some s =>
    rw [hs] at e
    cases s with
    | v d' =>
      cases e
      obtain ⟨v, h1, h2⟩ := o.read hs
      exact ⟨v, h1, q v H (Same.refl _) h2⟩
    | no => cases e
    | exc _ => cases e
    | fr _ => cases e
    | ob _ _ => cases e
    | own l => cases e
theorem pw_var (i : Nat) {x : Str} {pos : Pos} (hN : X.N[i]? = some x := by rfl) (hv : Vis X.env.scope x := by first | exact Or.inl rfl | exact Or.inr (Or.inl rfl) | exact Or.inr (Or.inr rfl)) (hd : (x == ("__debug__" : Str)) = false := by decide)
    (hcd : (x == ("__classdict__" : Str)) = false := by decide) : PVw X (.Name x pos) (getW i) := by
  refine ⟨_, pe_var hN hv hd hcd, fun H₀ H O σ ds hd d Q o e q => ?_⟩
  unfold getW at e
  cases hs : ds[i]? with
  | none => rw [hs] at e; cases e
  | some s =>
    rw [hs] at e
    cases s with
    | v d' =>
      cases e
      obtain ⟨v, h1, h2⟩ := o.read hs
      exact ⟨v, h1, q v H (Same.refl _) (.inl h2)⟩
    | no => cases e
    | exc _ => cases e
    | fr _ => cases e
    | ob _ _ => cases e
    | own l =>
      cases e
      obtain ⟨a, xs, h1, h2, h3, h4⟩ := o.readO hs
      exact ⟨.ref a, h1, q _ H (Same.refl _) (.inr ⟨a, xs, l, rfl, rfl, h2, h3, h4⟩)⟩
theorem pv_int {i : Int} {j pos} : PV X (.Constant (.int i) j pos) (konst (.int i)) := ⟨_, pe_int, fun _ H _ _ _ _ _ _ _ e q => by cases e; exact q _ H (Same.refl _) (.int i)⟩
theorem pv_bl {b : Bool} {j pos} : PV X (.Constant (.bool b) j pos) (konst (.bl b)) := ⟨_, pe_bl, fun _ H _ _ _ _ _ _ _ e q => by cases e; exact q _ H (Same.refl _) (.bl b)⟩
theorem pv_non {j pos} : PV X (.Constant .none j pos) (konst .non) := ⟨_, pe_non, fun _ H _ _ _ _ _ _ _ e q => by cases e; exact q _ H (Same.refl _) .non⟩
def OpS (X : Cx) (r : R2) (op : D → D → Option D) : Prop := ∀ H O x y dx dy d Q, (∀ a, O a → ∃ u : MutHO, H a = some u.1) → WRep X.K H O x dx → WRep X.K H O y dy → op dx dy = some d → (∀ v H', Same H H' → Rep X.K H' O v d → Q v H') → r x y H Q
theorem pv_tOp {r : R2} {op : D → D → Option D} (hs : OpS X r op) {a b : Expr} {fa fb : FE} {ta tb : TE} (ha : ∀ H₀ H O σ ds hd d Q, Ok X.K H₀ H O σ ds hd → fa ds = some d → (∀ v H', Same H H' → WRep X.K H' O v d → Q v H') → ta σ H Q)
    (hb : ∀ H₀ H O σ ds hd d Q, Ok X.K H₀ H O σ ds hd → fb ds = some d → (∀ v H', Same H H' → WRep X.K H' O v d → Q v H') → tb σ H Q) :
    ∀ H₀ H O σ ds hd d Q, Ok X.K H₀ H O σ ds hd → bin2 op fa fb ds = some d → (∀ v H', Same H H' → Rep X.K H' O v d → Q v H') → tOp r ta tb σ H Q := by
  intro H₀ H O σ ds hd d Q o e q
  unfold bin2 at e
  obtain ⟨dx, h1, e⟩ := bnd e
  obtain ⟨dy, h2, e⟩ := bnd e
  refine ha H₀ H O σ ds hd dx _ o h1 fun x H1 s1 r1 => ?_
  refine hb H₀ H1 O σ ds hd dy _ (o.mono s1) h2 fun y H2 s2 r2 => ?_
  exact hs H2 O x y dx dy d Q ((o.mono s1).mono s2).dom (r1.mono s2) r2 e fun v H' s r => q v H' ((s1.trans s2).trans s) r
theorem pv_bin {op : Operator} {r : R2} {opD : D → D → Option D} {a b : Expr} {fa fb : FE} {pos : Pos} (ho : OpR X (binaryOp op) r) (hs : OpS X r opD) (ha : PVw X a fa) (hb : PVw X b fb) : PV X (.BinOp a op b pos) (bin2 opD fa fb) := by
  obtain ⟨ta, pa, ha⟩ := ha
  obtain ⟨tb, pb, hb⟩ := hb
  exact ⟨_, pe_op ho pa pb, pv_tOp hs (a := a) (b := b) ha hb⟩
theorem pv_cmp {op : CmpOp} {r : R2} {opD : D → D → Option D} {a b : Expr} {fa fb : FE} {pos : Pos} (ho : OpR X (compareOp op) r) (hs : OpS X r opD) (ha : PVw X a fa) (hb : PVw X b fb) (hm : behindInMarks op b = false) : PV X (.Compare a [op] [b] pos) (bin2 opD fa fb) := by
  obtain ⟨ta, pa, ha⟩ := ha
  obtain ⟨tb, pb, hb⟩ := hb
  exact ⟨_, pe_cmpR ho pa pb hm, pv_tOp hs (a := a) (b := b) ha hb⟩
theorem pt_cmpV {op : CmpOp} {r : R2} {opD : D → D → Option D} {a b : Expr} {fa fb : FE} {pos : Pos} (ho : OpR X (compareOp op) r) (hs : OpS X r opD) (ha : PVw X a fa) (hb : PVw X b fb) (hm : behindInMarks op b = false) : PTv X (.Compare a [op] [b] pos) (testB (bin2 opD fa fb)) := by
  obtain ⟨ta, pa, ha⟩ := ha
  obtain ⟨tb, pb, hb⟩ := hb
  refine ⟨_, pt_cmpR ho pa pb hm, fun H₀ H O σ ds hd k Q o e q => ?_⟩
  unfold testB at e
  obtain ⟨d, h, e⟩ := bnd e
  refine pv_tOp hs (a := a) (b := b) ha hb H₀ H O σ ds hd d _ o h fun v H' s r => ?_
  cases d with
  | bl c => cases e; cases r; exact ⟨_, rfl, q H' s⟩
  | _ => cases e
theorem os_add : OpS X (fun x y H Q => rI0 (fun i j => .int (i + j)) x y H Q ∨ ∃ i j, x = .str i ∧ y = .str j ∧ i.length + j.length ≤ sizeLine ∧ Q (.str (i ++ j)) H) addD := by
  intro H O x y dx dy d Q ho rx ry e q
  cases dx <;> cases dy <;> first | (simp [addD] at e; done) | skip
  · cases e
    rw [rx.int', ry.int']
    exact .inl ⟨_, _, rfl, rfl, q _ H (Same.refl _) (.int _)⟩
  · rename_i x y
    simp only [addD] at e
    split at e
    · rename_i hl
      cases e
      rw [rx.str', ry.str']
      exact .inr ⟨_, _, rfl, rfl, hl, q _ H (Same.refl _) (.str _)⟩
    · cases e
theorem op_addU : OpR X (binaryOp .Add) (fun x y H Q => rI0 (fun i j => .int (i + j)) x y H Q ∨ ∃ i j, x = .str i ∧ y = .str j ∧ i.length + j.length ≤ sizeLine ∧ Q (.str (i ++ j)) H) := op_add.or op_add_str
theorem os_sub : OpS X (rI0 fun i j => .int (i - j)) subD := by
  intro H O x y dx dy d Q ho rx ry e q
  cases dx <;> cases dy <;> first | (simp [subD] at e; done) | skip
  cases e
  rw [rx.int', ry.int']
  exact ⟨_, _, rfl, rfl, q _ H (Same.refl _) (.int _)⟩
def CDivB (i j : Int) : Prop := divOk j
theorem op_fdivB : OpR X (binaryOp .FloorDiv) (rI CDivB fun i j => .int (i / j)) := opI fun i j _ _ _ _ _ hc q => by
  have e : i.fdiv j = i / j := Int.fdiv_eq_ediv_of_nonneg _ (Int.le_of_lt hc.1)
  refine floordiv_int (by have := hc.1; omega) ?_ (.inl (PyProof.noPylong_of_log2 hc.2))
  rw [e]; exact q
theorem os_fdiv : OpS X (rI CDivB fun i j => .int (i / j)) fdivD := by
  intro H O x y dx dy d Q ho rx ry e q
  cases dx <;> cases dy <;> first | (simp [fdivD] at e; done) | skip
  simp only [fdivD] at e
  split at e
  · rename_i hc
    cases e
    rw [rx.int', ry.int']
    exact ⟨_, _, rfl, rfl, hc, q _ H (Same.refl _) (.int _)⟩
  · cases e
theorem os_mod : OpS X (rI (fun _ j => 0 < j) fun i j => .int (i % j)) modD := by
  intro H O x y dx dy d Q ho rx ry e q
  cases dx <;> cases dy <;> first | (simp [modD] at e; done) | skip
  simp only [modD] at e
  split at e
  · rename_i hc
    cases e
    rw [rx.int', ry.int']
    exact ⟨_, _, rfl, rfl, hc, q _ H (Same.refl _) (.int _)⟩
  · cases e
theorem os_cmpI {p : Int → Int → Bool} : OpS X (rI0 fun i j => .bl (p i j)) (cmpI p) := by
  intro H O x y dx dy d Q ho rx ry e q
  cases dx <;> cases dy <;> first | (simp [cmpI] at e; done) | skip
  cases e
  rw [rx.int', ry.int']
  exact ⟨_, _, rfl, rfl, q _ H (Same.refl _) (.bl _)⟩
end
end FL
namespace FL
open PySem PySem.Spec PyProof.Rows L2
section
variable {X : Cx}
theorem PV.t {e : Expr} {f : FE} (h : PV X e f) (he : ∀ whole, isTrue e X.env whole = (do let v ← whole; standAt e.pos; holding [v] (truthy v)) := by intro _; rfl) : PTv X e (testB f) := by
  obtain ⟨t, ht, hf⟩ := h
  refine ⟨_, pt_val ht he, fun H₀ H O σ ds hd k Q o e q => ?_⟩
  unfold testB at e
  obtain ⟨d, h, e⟩ := bnd e
  refine hf H₀ H O σ ds hd d _ o h fun v H' s r => ?_
  cases d with
  | bl c => cases e; cases r; exact ⟨_, rfl, q H' s⟩
  | _ => cases e
theorem pwv_and1 {a : Expr} {pos : Pos} {c : FT} (ha : PTv X a c) : PWv X (.BoolOp .And [a] pos) c := by
  obtain ⟨t, ht, hf⟩ := ha
  exact ⟨_, pw_and1 ht, hf⟩
theorem pwv_or1 {a : Expr} {pos : Pos} {c : FT} (ha : PTv X a c) : PWv X (.BoolOp .Or [a] pos) c := by
  obtain ⟨t, ht, hf⟩ := ha
  exact ⟨_, pw_or1 ht, hf⟩
theorem pwv_and {a b : Expr} {rest : List Expr} {pos : Pos} {c d : FT} (ha : PTv X a c) (hb : PWv X (.BoolOp .And (b :: rest) pos) d) : PWv X (.BoolOp .And (a :: b :: rest) pos) (andT c d) := by
  obtain ⟨t, ht, hf⟩ := ha
  obtain ⟨u, hu, hg⟩ := hb
  refine ⟨_, pw_and ht hu, fun H₀ H O σ ds hd k Q o e q => ?_⟩
  unfold andT at e
  obtain ⟨b, h, e⟩ := bnd e
  refine hf H₀ H O σ ds hd b _ o h fun H' s => ?_
  cases b with
  | true => exact iteT (hg H₀ H' O σ ds hd k Q (o.mono s) (by simpa using e) fun H'' s' => q H'' (s.trans s'))
  | false =>
    have : false = k := by simpa using e
    subst this
    exact iteF (q H' s)
theorem pwv_or {a b : Expr} {rest : List Expr} {pos : Pos} {c d : FT} (ha : PTv X a c) (hb : PWv X (.BoolOp .Or (b :: rest) pos) d) : PWv X (.BoolOp .Or (a :: b :: rest) pos) (orT c d) := by
  obtain ⟨t, ht, hf⟩ := ha
  obtain ⟨u, hu, hg⟩ := hb
  refine ⟨_, pw_or ht hu, fun H₀ H O σ ds hd k Q o e q => ?_⟩
  unfold orT at e
  obtain ⟨b, h, e⟩ := bnd e
  refine hf H₀ H O σ ds hd b _ o h fun H' s => ?_
  cases b with
  | false => exact iteF (hg H₀ H' O σ ds hd k Q (o.mono s) (by simpa using e) fun H'' s' => q H'' (s.trans s'))
  | true =>
    have : true = k := by simpa using e
    subst this
    exact iteT (q H' s)
theorem PWv.t {e : Expr} {c : FT} (h : PWv X e c) : PTv X e c := by
  obtain ⟨t, ht, hf⟩ := h
  exact ⟨t, ht.pt, hf⟩
theorem ptv_not {a : Expr} {pos : Pos} {c : FT} (ha : PTv X a c) : PTv X (.UnaryOp .Not a pos) (notT c) := by
  obtain ⟨t, ht, hf⟩ := ha
  refine ⟨_, pt_not ht, fun H₀ H O σ ds hd k Q o e q => ?_⟩
  unfold notT at e
  obtain ⟨b, h, rfl⟩ := mpd e
  exact hf H₀ H O σ ds hd b _ o h fun H' s => q H' s
theorem pv_one {a : Expr} {op} {pos : Pos} {f : FE} (ha : PV X a f) : PV X (.BoolOp op [a] pos) f := by
  obtain ⟨t, ht, hf⟩ := ha
  exact ⟨_, pe_one ht, hf⟩
theorem pv_and {a b : Expr} {rest : List Expr} {pos : Pos} {f g : FE} (ha : PV X a f) (hb : PV X (.BoolOp .And (b :: rest) pos) g) : PV X (.BoolOp .And (a :: b :: rest) pos) (andV f g) := by
  obtain ⟨t, ht, hf⟩ := ha
  obtain ⟨u, hu, hg⟩ := hb
  refine ⟨_, pe_and ht hu, fun H₀ H O σ ds hd d Q o e q => ?_⟩
  unfold andV at e
  obtain ⟨dd, h, e⟩ := bnd e
  refine hf H₀ H O σ ds hd dd _ o h fun v H' s r => ?_
  cases dd with
  | bl c =>
    cases r
    cases c with
    | true => exact ⟨true, rfl, iteT (hg H₀ H' O σ ds hd d Q (o.mono s) e fun v H'' s' => q v H'' (s.trans s'))⟩
    | false =>
      have : D.bl false = d := Option.some.inj e
      subst this
      exact ⟨false, rfl, iteF (q _ H' s (.bl false))⟩
  | _ => cases e
theorem pv_or {a b : Expr} {rest : List Expr} {pos : Pos} {f g : FE} (ha : PV X a f) (hb : PV X (.BoolOp .Or (b :: rest) pos) g) : PV X (.BoolOp .Or (a :: b :: rest) pos) (orV f g) := by
  obtain ⟨t, ht, hf⟩ := ha
  obtain ⟨u, hu, hg⟩ := hb
  refine ⟨_, pe_or ht hu, fun H₀ H O σ ds hd d Q o e q => ?_⟩
  unfold orV at e
  obtain ⟨dd, h, e⟩ := bnd e
  refine hf H₀ H O σ ds hd dd _ o h fun v H' s r => ?_
  cases dd with
  | bl c =>
    cases r
    cases c with
    | false => exact ⟨false, rfl, iteF (hg H₀ H' O σ ds hd d Q (o.mono s) e fun v H'' s' => q v H'' (s.trans s'))⟩
    | true =>
      have : D.bl true = d := Option.some.inj e
      subst this
      exact ⟨true, rfl, iteT (q _ H' s (.bl true))⟩
  | _ => cases e
theorem pv_not {a : Expr} {pos : Pos} {f : FE} (ha : PV X a f) : PV X (.UnaryOp .Not a pos) (notV f) := by
  obtain ⟨t, ht, hf⟩ := ha
  refine ⟨_, pe_not ht, fun H₀ H O σ ds hd d Q o e q => ?_⟩
  unfold notV at e
  obtain ⟨dd, h, e⟩ := bnd e
  refine hf H₀ H O σ ds hd dd _ o h fun v H' s r => ?_
  cases dd with
  | bl c => cases r; cases e; exact ⟨c, rfl, q _ H' s (.bl _)⟩
  | _ => cases e
theorem pv_if {c a b : Expr} {pos : Pos} {fc : FT} {f g : FE} (hc : PTv X c fc) (ha : PV X a f) (hb : PV X b g) : PV X (.IfExp c a b pos) (ifV fc f g) := by
  obtain ⟨tc, pc, hc⟩ := hc
  obtain ⟨t, ht, hf⟩ := ha
  obtain ⟨u, hu, hg⟩ := hb
  refine ⟨_, pe_ifExp pc ht hu, fun H₀ H O σ ds hd d Q o e q => ?_⟩
  unfold ifV at e
  obtain ⟨k, h, e⟩ := bnd e
  refine hc H₀ H O σ ds hd k _ o h fun H' s => ?_
  cases k with
  | true => exact iteT (hf H₀ H' O σ ds hd d Q (o.mono s) (by simpa using e) fun v H'' s' => q v H'' (s.trans s'))
  | false => exact iteF (hg H₀ H' O σ ds hd d Q (o.mono s) (by simpa using e) fun v H'' s' => q v H'' (s.trans s'))
theorem pav_nil : PAv X [] nilA := ⟨_, pa_nil, fun _ H _ _ _ _ _ _ _ e q => by cases e; exact q _ H (Same.refl _) .nil⟩
theorem pas_nil : PAs X [] nilA := ⟨_, pa_nil, fun _ H _ _ _ _ _ _ _ e q => by cases e; exact q _ H (Same.refl _) .nil⟩
theorem pav_cons {e : Expr} {es : List Expr} {f : FE} {g : FA} (ha : PVw X e f) (hr : PAv X es g) (hs : starEach (e :: es) X.env = (false, eval e X.env) :: starEach es X.env := by rfl) : PAv X (e :: es) (consA f g) := by
  obtain ⟨t, ht, hf⟩ := ha
  obtain ⟨u, hu, hg⟩ := hr
  refine ⟨_, pa_cons ht hu hs, fun H₀ H O σ ds hd l Q o e q => ?_⟩
  unfold consA at e
  obtain ⟨x, h, e⟩ := bnd e
  obtain ⟨r, h2, rfl⟩ := mpd e
  refine hf H₀ H O σ ds hd x _ o h fun v H1 s1 r1 => ?_
  refine hg H₀ H1 O σ ds hd r _ (o.mono s1) h2 fun vs H2 s2 r2 => ?_
  exact q _ H2 (s1.trans s2) (.cons (r1.mono s2) r2)
theorem pas_cons {e : Expr} {es : List Expr} {f : FE} {g : FA} (ha : PV X e f) (hr : PAs X es g) (hs : starEach (e :: es) X.env = (false, eval e X.env) :: starEach es X.env := by rfl) : PAs X (e :: es) (consA f g) := by
  obtain ⟨t, ht, hf⟩ := ha
  obtain ⟨u, hu, hg⟩ := hr
  refine ⟨_, pa_cons ht hu hs, fun H₀ H O σ ds hd l Q o e q => ?_⟩
  unfold consA at e
  obtain ⟨x, h, e⟩ := bnd e
  obtain ⟨r, h2, rfl⟩ := mpd e
  refine hf H₀ H O σ ds hd x _ o h fun v H1 s1 r1 => ?_
  refine hg H₀ H1 O σ ds hd r _ (o.mono s1) h2 fun vs H2 s2 r2 => ?_
  exact q _ H2 (s1.trans s2) (.cons (r1.mono s2) r2)
theorem same_upd {H : Hp} {p : Addr} (h : H p = none) (o : HO) : Same H (upd H p o) := fun b u q => by rw [upd_ne (ne_of_none q h)]; exact q
theorem pvf_lst {es : List Expr} {pos : Pos} {g : FA} (h : PAs X es g) : PVf X (.List es pos) (sized g) := by
  obtain ⟨t, ht, hf⟩ := h
  refine ⟨_, pe_lst ht, fun H₀ H O σ ds hd l Q o e q => ?_⟩
  unfold sized at e
  cases h : g ds with
  | none => rw [h] at e; cases e
  | some l' =>
    rw [h] at e
    simp only [Option.bind_some] at e
    split at e
    · rename_i hl
      cases e
      refine hf H₀ H O σ ds hd l _ o h fun vs H1 s1 r1 => ⟨by rw [r1.length]; exact hl, fun p hp => ?_⟩
      refine q p vs _ (s1.trans (same_upd hp _)) (s1.free hp) upd_same ?_
      exact (r1.more hp).mono (same_upd hp _)
    · cases e
theorem pv_tup {es : List Expr} {x1} {pos : Pos} {g : FA} (h : PAs X es g) : PV X (.Tuple es x1 pos) (mkT (sized g)) := by
  obtain ⟨t, ht, hf⟩ := h
  refine ⟨_, pe_tup ht, fun H₀ H O σ ds hd d Q o e q => ?_⟩
  unfold mkT sized at e
  cases h : g ds with
  | none => rw [h] at e; cases e
  | some l' =>
    rw [h] at e
    simp only [Option.bind_some] at e
    split at e
    · rename_i hl
      cases e
      refine hf H₀ H O σ ds hd l' _ o h fun vs H1 s1 r1 => ⟨by rw [r1.length]; exact hl, fun p hp => ?_⟩
      refine q _ _ (s1.trans (same_upd hp _)) ?_
      exact .tup ((o.mono s1).free hp) (.inl upd_same) (r1.mono (same_upd hp _))
    · cases e
theorem atI_rep {K : Frag} {H : Hp} {O : Addr → Prop} {xs : List V} {l : List D} {i : Int} {d : D} (r : Reps K H O xs l) (e : atI l i = some d) : ∃ v, atI xs i = some v ∧ Rep K H O v d := by
  unfold atI at e ⊢
  rw [r.length]
  cases h : ixN l.length i with
  | none => rw [h] at e; cases e
  | some j =>
    rw [h] at e
    exact r.get e
theorem ix_sem {K : Frag} {H : Hp} {O : Addr → Prop} {x y : V} {dx dy d : D} {Q : VK} (rx : WRep K H O x dx) (ry : WRep K H O y dy) (e : ixD dx dy = some d) (q : ∀ v H', Same H H' → Rep K H' O v d → Q v H') : rIx K x y H Q := by
  cases dx <;> cases dy <;> first | (simp [ixD] at e; done) | skip
  · simp only [ixD] at e
    split at e
    · rename_i hl
      rw [rx.str', ry.int']
      rename_i z i
      obtain ⟨c, hc, rfl⟩ := mpd e
      exact .inr (.inr ⟨_, _, c, rfl, rfl, hl, hc, q _ H (Same.refl _) (.str _)⟩)
    · cases e
  · obtain ⟨a, xs, rfl, hs, r⟩ := rx.seqT
    rw [ry.int']
    obtain ⟨v, h1, h2⟩ := atI_rep r e
    exact .inr (.inl ⟨a, xs, _, v, rfl, rfl, hs, h1, q _ H (Same.refl _) h2⟩)
  · obtain ⟨a, xs, rfl, hs, r⟩ := rx.seqL
    rw [ry.int']
    obtain ⟨v, h1, h2⟩ := atI_rep r e
    exact .inl ⟨a, xs, _, v, rfl, rfl, hs, h1, q _ H (Same.refl _) h2⟩
theorem os_ix : OpS X (rIx X.K) ixD := fun H O x y dx dy d Q ho rx ry e q => ix_sem rx ry e q
theorem pv_ix {a b : Expr} {fa fb : FE} {pos : Pos} (ha : PVw X a fa) (hb : PVw X b fb) (hs : PlainIx b := by exact fun _ _ => rfl) : PV X (.Subscript a b pos) (bin2 ixD fa fb) := by
  obtain ⟨ta, pa, ha⟩ := ha
  obtain ⟨tb, pb, hb⟩ := hb
  exact ⟨_, pe_ix ix_seq pa pb hs, pv_tOp os_ix (a := a) (b := b) ha hb⟩
end
end FL
namespace FL
open PySem PySem.Spec PyProof.Rows L2
noncomputable def RetOk (K : Frag) (H H' : Hp) (v : V) : Ret → Prop
  | .val d => Rep K H' (Old H) v d
  | .fresh l => ∃ a xs, v = .ref a ∧ H a = none ∧ H' a = some (.lst xs) ∧ Reps K H' (ins1 a (Old H)) xs l
  | .any d => Rep K H' none0 v d
  | .obj t => ∃ fs, RepO K H' (fun b => b ∈ fs ∨ Old H b) v t fs ∧ fs.Nodup ∧ ∀ b ∈ fs, H b = none
noncomputable def RetB (K : Frag) (H : Hp) (hd : Hold) (v : V) : Ret → Prop
  | .any d => ∀ B, HI.base B ∈ hd → Rep K H B v d
  | _ => True
noncomputable def spF (K : Frag) (n : Nat) (F : List D → Option Ret) : Sp := fun vs H Q _ => vs.length = n ∧ ∃ ds r, Reps K H none0 vs ds ∧ F ds = some r ∧ ∀ v H', Same H H' → RetOk K H H' v r → Q v H'
section
variable {X : Cx}
theorem retV_ok {K : Frag} {H H' : Hp} {O : Addr → Prop} {v : V} {r : Ret} {d : D} (h : RetOk K H H' v r) (e : retV r = some d) (ho : ∀ a, O a → Old H a) : Rep K H' O v d := by
  cases r with
  | any d' => cases e
  | val d' => cases e; exact h.less ho
  | obj t =>
    cases e
    obtain ⟨fs, h1, h2, h3⟩ := h
    refine h1.val' fun a z => ⟨.inr (ho a z), fun q => ?_⟩
    obtain ⟨o, e, _⟩ := ho a z
    rw [h3 a q] at e; cases e
  | fresh l =>
    cases e
    obtain ⟨a, xs, rfl, h1, h2, h3⟩ := h
    refine .lst (fun z => ?_) (.inl h2) (h3.less fun b z => .inr (ho b z))
    obtain ⟨o, e, _⟩ := ho a z
    rw [h1] at e; cases e
theorem retF_ok {K : Frag} {H H' : Hp} {O : Addr → Prop} {v : V} {r : Ret} {l : List D} (h : RetOk K H H' v r) (e : retF r = some l) (ho : ∀ a, O a → Old H a) : ∃ a xs, v = .ref a ∧ H a = none ∧ H' a = some (.lst xs) ∧ Reps K H' (ins1 a O) xs l := by
  cases r with
  | any d' => cases e
  | val d' => cases e
  | obj t => cases e
  | fresh l' =>
    cases e
    obtain ⟨a, xs, rfl, h1, h2, h3⟩ := h
    exact ⟨a, xs, rfl, h1, h2, h3.less fun b z => z.elim .inl fun z => .inr (ho b z)⟩
section
variable {k : Nat} {f : Addr} {fd : FuncData} {ps : List Str} {n : Nat} {F : List D → Option Ret} {x : Str} {p pos : Pos} {e : Expr} {es : List Expr} {g : FA}
end
def CallS (X : Cx) (r : List V → Hp → VK → Prop) (F : List D → Option D) : Prop := ∀ H O vs l d Q, (∀ a, O a → ∃ u : MutHO, H a = some u.1) → Paired (WRep X.K H O) vs l → F l = some d → (∀ v H', Same H H' → Rep X.K H' O v d → Q v H') → r vs H Q
theorem pv_callB {x : Str} {p pos : Pos} {e : Expr} {es : List Expr} {id : String} {r : List V → Hp → VK → Prop} {F : List D → Option D} {g : FA} (hc : CallR X (.builtin id) r) (hs : CallS X r F) (hm : X.mg x = none) (hv : bootBuiltins x = some (.builtin id)) (ha : PAv X (e :: es) g)
    (hg : Gl X x) (hn : x ≠ "__name__" := by decide) (hdb : (x == ("__debug__" : Str)) = false := by decide) (he : starEach (e :: es) X.env = (false, eval e X.env) :: starEach es X.env := by rfl) (hpl : (backTo pos (starEach es X.env)).any (·.1) = false := by rfl) :
    PV X (.Call (.Name x p) (e :: es) [] pos) (callB F g) := by
  obtain ⟨t, ht, hf⟩ := ha
  refine ⟨_, pe_callB hc hg hm hv ht hn hdb he hpl, fun H₀ H O σ ds hd d Q o e q => ?_⟩
  unfold callB at e
  obtain ⟨l, h, e⟩ := bnd e
  refine hf H₀ H O σ ds hd l _ o h fun vs H1 s1 r1 => ?_
  exact hs H1 O vs l d Q (o.mono s1).dom r1 e fun v H' s' r => q v H' (s1.trans s') r
theorem call_lenU : CallR X (.builtin "len") (fun xs H Q => (∃ p ys, xs = [.ref p] ∧ (SqL X.K H p ys ∨ SqT X.K H p ys) ∧ Q (.int ys.length) H) ∨ ∃ z, xs = [.str z] ∧ z.length ≤ sizeLine ∧ Q (.int z.length) H) := call_len_seq.or call_len_str
theorem cs_len : CallS X (fun xs H Q => (∃ p ys, xs = [.ref p] ∧ (SqL X.K H p ys ∨ SqT X.K H p ys) ∧ Q (.int ys.length) H) ∨ ∃ z, xs = [.str z] ∧ z.length ≤ sizeLine ∧ Q (.int z.length) H) lenD := by
  intro H O vs l d Q ho r e q
  unfold lenD at e
  split at e
  · cases e
    cases r with
    | cons r rn =>
      cases rn
      obtain ⟨a, xs, rfl, hs, rs⟩ := r.seqL
      refine .inl ⟨a, xs, rfl, .inl hs, ?_⟩
      rw [rs.length]
      exact q _ H (Same.refl _) (.int _)
  · cases e
    cases r with
    | cons r rn =>
      cases rn
      obtain ⟨a, xs, rfl, hs, rs⟩ := r.seqT
      refine .inl ⟨a, xs, rfl, .inr hs, ?_⟩
      rw [rs.length]
      exact q _ H (Same.refl _) (.int _)
  · split at e
    · rename_i hl
      cases e
      cases r with
      | cons r rn =>
        cases rn
        rw [r.str']
        exact .inr ⟨_, rfl, hl, q _ H (Same.refl _) (.int _)⟩
    · cases e
  · cases e
theorem pv_len {p pos : Pos} {e : Expr} {g : FA} (hm : X.mg "len" = none) (ha : PAv X [e] g) (hg : Gl X "len" := by rfl) (he : starEach [e] X.env = [(false, eval e X.env)] := by rfl) :
    PV X (.Call (.Name "len" p) [e] [] pos) (callB lenD g) := pv_callB call_lenU cs_len hm PySem.boot_len ha hg (by decide) (by decide) he rfl
noncomputable def After (X : Cx) (H₀ : Hp) (hd : Hold) (E : Ends) : Out → Prop
  | .nx ds => ∀ σ H O, Ok X.K H₀ H O σ ds hd → E.nx σ H
  | .bk ds => ∀ σ H O, Ok X.K H₀ H O σ ds hd → E.bk σ H
  | .ct ds => ∀ σ H O, Ok X.K H₀ H O σ ds hd → E.ct σ H
  | .rt r => ∀ v H, Same H₀ H → RetOk X.K H₀ H v r → RetB X.K H hd v r → E.rt v H
variable (X) in
def PSv (st : Stmt) (g : FS) : Prop := ∃ t, PS X st t ∧ ∀ H₀ H O σ ds hd out E, Ok X.K H₀ H O σ ds hd → g ds = some out → After X H₀ hd E out → t E σ H
variable (X) in
def PSsv (st : List Stmt) (g : FS) : Prop := ∃ t, PSs X st t ∧ ∀ H₀ H O σ ds hd out E, Ok X.K H₀ H O σ ds hd → g ds = some out → After X H₀ hd E out → t E σ H
theorem pssv_nil : PSsv X [] nextG := ⟨_, pss_nil, fun _ H O σ ds hd out E o e h => by cases e; exact h σ H O o⟩
theorem pssv_cons {st : Stmt} {rest : List Stmt} {f g : FS} (h1 : PSv X st f) (h2 : PSsv X rest g) : PSsv X (st :: rest) (seqG f g) := by
  obtain ⟨t, ht, hf⟩ := h1
  obtain ⟨u, hu, hg⟩ := h2
  refine ⟨_, pss_cons ht hu, fun H₀ H O σ ds hd out E o e h => ?_⟩
  unfold seqG at e
  obtain ⟨o1, h1, e⟩ := bnd e
  refine hf H₀ H O σ ds hd o1 _ o h1 ?_
  cases o1 with
  | nx ds' => exact fun σ' H' O' o' => hg H₀ H' O' σ' ds' hd out E o' e h
  | rt r => cases e; exact h
  | bk ds' => cases e; exact h
  | ct ds' => cases e; exact h
theorem pssv_one {st : Stmt} {f : FS} (h1 : PSv X st f) : PSsv X [st] f := by
  obtain ⟨t, ht, hf⟩ := h1
  exact ⟨_, pss_one ht, hf⟩
theorem psv_continue {pos : Pos} : PSv X (.Continue pos) (fun ds => some (.ct ds)) := ⟨_, ps_continue, fun _ H O σ ds hd out E o e h => by cases e; exact h σ H O o⟩
theorem psv_if {c : Expr} {a b : List Stmt} {pos : Pos} {fc : FT} {f g : FS} (hc : PTv X c fc) (ha : PSsv X a f) (hb : PSsv X b g) : PSv X (.If c a b pos) (ifG fc f g) := by
  obtain ⟨tc, pc, hc⟩ := hc
  obtain ⟨t, ht, hf⟩ := ha
  obtain ⟨u, hu, hg⟩ := hb
  refine ⟨_, ps_if pc ht hu, fun H₀ H O σ ds hd out E o e h => ?_⟩
  unfold ifG at e
  obtain ⟨k, h1, e⟩ := bnd e
  refine hc H₀ H O σ ds hd k _ o h1 fun H' s => ?_
  cases k with
  | true => exact iteT (hf H₀ H' O σ ds hd out E (o.mono s) (by simpa using e) h)
  | false => exact iteF (hg H₀ H' O σ ds hd out E (o.mono s) (by simpa using e) h)
theorem psv_set {i : Nat} {x : Str} {e : Expr} {pos pos' : Pos} {f : FE} (hN : X.N.Nodup) (he : PV X e f) (hi : X.N[i]? = some x := by rfl) (hx : Loc X.env.scope x := by first | exact Or.inl rfl | exact Or.inr rfl) (hs : swapsWith e (some (.Name x pos')) pos.line X.env = pure false := by rfl)
    (hf : X.fn x = true ∨ X.env.scope.names.lookup x = some .local := by first | exact .inl rfl | exact .inr rfl) : PSv X (.Assign [.Name x pos'] e pos) (setG i f) := by
  obtain ⟨t, ht, hg⟩ := he
  refine ⟨_, ps_set hN hi hx ht hs hf, fun H₀ H O σ ds hd out E o e h => ?_⟩
  unfold setG at e
  obtain ⟨d, h1, rfl⟩ := mpd e
  exact hg H₀ H O σ ds hd d _ o h1 fun v H' s r => h _ _ _ ((o.mono s).set r)
theorem psv_setO {i : Nat} {x : Str} {e : Expr} {pos pos' : Pos} {f : FA} (hN : X.N.Nodup) (he : PVf X e f) (hi : X.N[i]? = some x := by rfl) (hx : Loc X.env.scope x := by first | exact Or.inl rfl | exact Or.inr rfl) (hs : swapsWith e (some (.Name x pos')) pos.line X.env = pure false := by rfl)
    (hf : X.fn x = true ∨ X.env.scope.names.lookup x = some .local := by first | exact .inl rfl | exact .inr rfl) : PSv X (.Assign [.Name x pos'] e pos) (setOG i f) := by
  obtain ⟨t, ht, hg⟩ := he
  refine ⟨_, ps_set hN hi hx ht hs hf, fun H₀ H O σ ds hd out E o e h => ?_⟩
  unfold setOG at e
  obtain ⟨l, h1, rfl⟩ := mpd e
  exact hg H₀ H O σ ds hd l _ o h1 fun a xs H' s hn he r => h _ _ _ (o.setO s hn he r)
theorem psv_ret {e : Expr} {pos : Pos} {f : FE} (he : PVw X e f) : PSv X (.Return (some e) pos) (retG f) := by
  obtain ⟨t, ht, hg⟩ := he
  refine ⟨_, ps_ret ht, fun H₀ H O σ ds hd out E o e h => ?_⟩
  unfold retG at e
  obtain ⟨d, h1, e⟩ := bnd e
  simp only [Option.bind_some, flatR] at e
  split at e
  · rename_i hf
    cases e
    exact hg H₀ H O σ ds hd d _ o h1 fun v H' s r => h _ _ (o.same.trans s) (Rep.flatten (fun a z => Old.mono (o.same.trans s) z) hf r.any) True.intro
  · cases e
theorem psv_retF {e : Expr} {pos : Pos} {f : FA} (he : PVf X e f) : PSv X (.Return (some e) pos) (retOG f) := by
  obtain ⟨t, ht, hg⟩ := he
  refine ⟨_, ps_ret ht, fun H₀ H O σ ds hd out E o e h => ?_⟩
  unfold retOG at e
  obtain ⟨l, h1, e⟩ := bnd e
  simp only [Option.bind_some, flatF] at e
  split at e
  · rename_i hf
    cases e
    refine hg H₀ H O σ ds hd l _ o h1 fun a xs H' s hn he r => h _ _ (o.same.trans s) ⟨a, xs, rfl, o.same.free hn, he, Reps.flatten (fun b z => ?_) hf r⟩ True.intro
    rcases z with rfl | z
    · exact ⟨_, he, rfl⟩
    · exact Old.mono (o.same.trans s) z
  · cases e
theorem psv_retX (i : Nat) {x : Str} {pos pos' : Pos} (hN : X.N[i]? = some x := by rfl) (hv : Vis X.env.scope x := by first | exact Or.inl rfl | exact Or.inr (Or.inl rfl) | exact Or.inr (Or.inr rfl)) (hd : (x == ("__debug__" : Str)) = false := by decide)
    (hcd : (x == ("__classdict__" : Str)) = false := by decide) : PSv X (.Return (some (.Name x pos')) pos) (retXG i) := by
  refine ⟨_, ps_ret (pe_var hN hv hd hcd), fun H₀ H O σ ds hd out E o e h => ?_⟩
  unfold retXG at e
  cases hs : ds[i]? with
  | none => rw [hs] at e; cases e
  | some s =>
    rw [hs] at e
    cases s with
    | v d' => cases e
    | no => cases e
    | exc _ => cases e
    | fr _ => cases e
    | ob _ _ => cases e
    | own l =>
      simp only [flatF] at e
      split at e
      · rename_i hf
        cases e
        obtain ⟨a, xs, h1, h2, h3, h4⟩ := o.readO hs
        refine ⟨.ref a, h1, h _ _ o.same ⟨a, xs, rfl, o.fresh i l a hs h1, h3, Reps.flatten (fun b z => ?_) hf h4⟩ True.intro⟩
        rcases z with rfl | z
        · exact ⟨_, h3, rfl⟩
        · exact Old.mono o.same z
      · cases e
theorem psv_put {i : Nat} {x : Str} {e ek : Expr} {pos p1 p2 : Pos} {fk fe : FE} (he : PV X e fe) (hk : PV X ek fk) (hN : X.N[i]? = some x := by rfl) (hv : Vis X.env.scope x := by first | exact Or.inl rfl | exact Or.inr (Or.inl rfl) | exact Or.inr (Or.inr rfl)) (hd : (x == ("__debug__" : Str)) = false := by decide)
    (hcd : (x == ("__classdict__" : Str)) = false := by decide)
    (ha : ∀ v, assign (.Subscript (.Name x p1) ek p2) X.env v = (do
      let ov ← holding [v] (eval (.Name x p1) X.env)
      let iv ← holding [v, ov] (eval ek X.env)
      standAt p2
      holding [v, ov, iv] (setItem ov iv v)
      release [v, ov, iv] []) := by intro _; rfl)
    (hs : swapsWithSole [.Subscript (.Name x p1) ek p2] e pos.line X.env = pure false := by rfl) (hw : swappedStores [.Subscript (.Name x p1) ek p2] e X.env = pure none := by rfl)
    (h1 : (assignEach [.Subscript (.Name x p1) ek p2] X.env).map (·.2) = [assign (.Subscript (.Name x p1) ek p2) X.env] := by rfl) : PSv X (.Assign [.Subscript (.Name x p1) ek p2] e pos) (putG i fk fe) := by
  obtain ⟨te, pe, he⟩ := he
  obtain ⟨tk, pk, hk⟩ := hk
  refine ⟨_, ps_asg pe (pg_sub (pe_var hN hv hd hcd) pk set_list ha) hs hw h1, fun H₀ H O σ ds hd out E o e h => ?_⟩
  unfold putG at e
  cases hsl : ds[i]? with
  | none => rw [hsl] at e; cases e
  | some s =>
    rw [hsl] at e
    cases s with
    | v d' => cases e
    | no => cases e
    | exc _ => cases e
    | fr _ => cases e
    | ob _ _ => cases e
    | own l =>
      simp only at e
      obtain ⟨d, h1, e⟩ := bnd e
      obtain ⟨kd, h2, e⟩ := bnd e
      cases kd with
      | int n =>
        simp only at e
        obtain ⟨j, h3, rfl⟩ := mpd e
        refine he H₀ H O σ ds hd d _ o h1 fun v H1 s1 r1 => ?_
        obtain ⟨a, xs, q1, q2, q3, q4⟩ := (o.mono s1).readO hsl
        refine ⟨.ref a, q1, ?_⟩
        refine hk H₀ H1 O σ ds hd _ _ (o.mono s1) h2 fun kv H2 s2 r2 => ?_
        cases r2
        refine ⟨a, xs, n, j, rfl, rfl, s2 _ _ q3, by rw [q4.length]; exact h3, ?_⟩
        exact h _ _ _ (((o.mono s1).mono s2).modify hsl q1 ((q4.mono s2).set (r1.mono s2) j))
      | _ => cases e
theorem psv_app {i : Nat} {x : Str} {e : Expr} {pos p1 p2 p3 : Pos} {fe : FE} (he : PV X e fe) (hN : X.N[i]? = some x := by rfl) (hv : Vis X.env.scope x := by first | exact Or.inl rfl | exact Or.inr (Or.inl rfl) | exact Or.inr (Or.inr rfl)) (hd : (x == ("__debug__" : Str)) = false := by decide)
    (hcd : (x == ("__classdict__" : Str)) = false := by decide)
    (hfew : ((backTo p3 (starEach [e] X.env)).all (fun x => !x.1) && (backToKw p3 (keywordEach [] X.env)).all (fun x => x.1.isSome)
      && decide ([e].length + ([] : List Keyword).length + (if ([] : List Keyword).isEmpty then 0 else 1) < 30)) = true := by rfl)
    (hline : (p2.endLine == p3.line) = true := by rfl) (hs : starEach [e] X.env = (false, eval e X.env) :: starEach [] X.env := by rfl)
    (hbase : attributeBase (.Name x p1) "append" X.env (eval (.Name x p1) X.env) = eval (.Name x p1) X.env := by rfl) (hsw : swapsWith (.Call (.Attribute (.Name x p1) "append" p2) [e] [] p3) none pos.line X.env = pure false := by rfl) :
    PSv X (.Expr (.Call (.Attribute (.Name x p1) "append" p2) [e] [] p3) pos) (appG i fe) := by
  obtain ⟨te, pe, he⟩ := he
  refine ⟨_, ps_expr (pe_bm PySem.F.plainAttrs_list PySem.F.slot_list_append PySem.F.type_list_append mt_append (pe_var hN hv hd hcd) (pa_cons pe pa_nil hs) hbase hfew hline hs rfl) hsw, fun H₀ H O σ ds hd out E o e h => ?_⟩
  unfold appG at e
  cases hsl : ds[i]? with
  | none => rw [hsl] at e; cases e
  | some s =>
    rw [hsl] at e
    cases s with
    | v d' => cases e
    | no => cases e
    | exc _ => cases e
    | fr _ => cases e
    | ob _ _ => cases e
    | own l =>
      simp only at e
      obtain ⟨d, h1, e⟩ := bnd e
      split at e
      · rename_i hl
        cases e
        obtain ⟨a, xs, q1, q2, q3, q4⟩ := o.readO hsl
        refine ⟨.ref a, q1, .inl ⟨rfl, xs, SqL.of q3⟩, ?_⟩
        refine he H₀ H O σ ds hd d _ o h1 fun v H1 s1 r1 => ?_
        refine ⟨a, xs, v, rfl, rfl, s1 _ _ q3, by rw [q4.length]; exact hl, ?_⟩
        exact h _ _ _ ((o.mono s1).modify hsl q1 ((q4.mono s1).append (.cons r1 .nil)))
      · cases e
theorem args_ob (n : Nat) (ds : List D) (i : Nat) (r : Option Nat) (t : OT) : (args n ds)[i]? ≠ some (.ob r t) := fun e => by
  unfold args at e
  by_cases hi : i < ds.length
  · rw [List.getElem?_append_left (by simpa using hi), List.getElem?_map] at e
    cases h : ds[i]? with
    | none => rw [h] at e; cases e
    | some d => rw [h] at e; cases e
  · rw [List.getElem?_append_right (by simpa using hi), List.getElem?_replicate] at e
    split at e <;> cases e
theorem ok_start {K : Frag} {H : Hp} {N : List Str} {vs : List V} {ds : List D} (r : Reps K H none0 vs ds) : Ok K H H none0 (L2.start N vs) (args N.length ds) [] := by
  have hl := r.length
  have no : ∀ i, IsOwn (args N.length ds) i → False := fun i ⟨l, e⟩ => by
    unfold args at e
    by_cases hi : i < ds.length
    · rw [List.getElem?_append_left (by simpa using hi), List.getElem?_map] at e
      cases h : ds[i]? with
      | none => rw [h] at e; cases e
      | some d => rw [h] at e; cases e
    · rw [List.getElem?_append_right (by simpa using hi), List.getElem?_replicate] at e
      split at e <;> cases e
  refine ⟨Same.refl _, fun i l a e _ => (no i ⟨l, e⟩).elim, fun _ z => z.elim, by simp [L2.start, args, hl], fun i s e => ?_, fun i j a _ hi _ _ _ => no i hi, (fun p hp => nomatch hp), .no (args_ob _ _)⟩
  unfold args at e
  unfold L2.start
  by_cases hi : i < ds.length
  · rw [List.getElem?_append_left (by simpa using hi), List.getElem?_map] at e
    rw [List.getElem?_append_left (by simpa [hl] using hi), List.getElem?_map]
    obtain ⟨d, h, rfl⟩ := mpd e
    obtain ⟨v, h1, h2⟩ := r.get h
    rw [h1]
    exact slOk_v h2
  · rw [List.getElem?_append_right (by simpa using hi), List.getElem?_replicate] at e
    split at e
    · cases e; exact slOk_no
    · cases e
def Does (g : FS) (n : Nat) (ds : List D) (r : Ret) : Prop := g (args n ds) = some (.rt r) ∨ (r = .val .non ∧ ∃ ds', g (args n ds) = some (.nx ds'))
theorem fun_ok {P : Program} {w : World} {K : Frag} {mg : Str → Option Value} {base : Heap} {x qual : Str} {st : Stmt} {f : Addr} {fd : FuncData} {N ps : List Str} {k : Nat} {F : List D → Option Ret} (Fn : Fun K x qual st f fd) (S : FnScope N ps (defScope st))
    {g : FS} (hbody : ∀ (cdv : Value) (A : Around) (outer : List Env) (s : Shared) (H : Hp) (E : XK), Room k (A.deeper (envOfC qual (defScope st) s.heap.objs.size f cdv)) → PSsv (cxOf CX0 P w K mg base N qual (defScope st) f cdv A outer s H E).nox (defBody st) g)
    (hg : ∀ ds r, ds.length = ps.length → F ds = some r → Does g N.length ds r) : FnOk P w K mg base CX0 (k + 1) f fd ps (spF K ps.length F) := by
  refine Fn.ok S (fun vs H Q E h => h.1) (fun cdv A outer s H vs Q E hr h => ?_)
  obtain ⟨hl, ds, r, rv, e, q⟩ := h
  obtain ⟨t, ht, hf⟩ := hbody cdv A outer s H E hr
  refine ⟨t, ht, ?_⟩
  have o := ok_start (N := N) rv
  rcases hg ds r (by rw [← rv.length]; exact hl) e with e' | ⟨rfl, ds', e'⟩
  · exact hf H H none0 _ _ [] _ _ o e' (fun v H' s r _ => q v H' s r)
  · exact hf H H none0 _ _ [] _ _ o e' (fun σ H' O o' => q .non H' o'.same .non)
end
end FL
namespace L2
open PySem PySem.Spec PyProof.Rows
section
variable {X : Cx} {tg : Expr}
end
end L2
namespace FL
open PySem PySem.Spec PyProof.Rows L2
def Wlk (K : Frag) (J : It) (p : V × D) (items : List D) : Prop := ∀ H O, (∀ a, O a → ∃ u : MutHO, H a = some u.1) → Rep K H O p.1 p.2 →
  (∀ i d, items[i]? = some d → J.go i H ∧ ∀ x H', J.yld i H x H' → Same H H' ∧ Rep K H' O x d) ∧ J.stop items.length H
section
variable {X : Cx}
variable (X) in
def PIv (tg iter : Expr) (fi : FA) : Prop := ∃ wi, PI X tg iter wi ∧ ∀ H₀ H O σ ds hd items R, Ok X.K H₀ H O σ ds hd → fi ds = some items →
  (∀ J p H', Same H H' → Rep X.K H' O p.1 p.2 → Wlk X.K J p items → R J H') → wi σ H R
theorem wlk_list {K : Frag} {a : Addr} {l : List D} : Wlk K (Itl K a) (.ref a, .lst l) l := by
  intro H O _ r
  obtain ⟨b, xs, e, hs, rs⟩ := WRep.seqL (.inl r)
  cases e
  refine ⟨fun i d hd => ?_, ⟨xs, hs, by rw [rs.length]; exact Nat.le_refl _⟩⟩
  obtain ⟨v, h1, h2⟩ := rs.get hd
  refine ⟨⟨xs, v, hs, h1⟩, fun x H' y => ?_⟩
  obtain ⟨rfl, y⟩ := y
  have := y xs hs
  rw [h1] at this; cases this
  exact ⟨Same.refl _, h2⟩
theorem wlk_tup {K : Frag} {a : Addr} {l : List D} : Wlk K (Itt K a) (.ref a, .tup l) l := by
  intro H O _ r
  obtain ⟨b, xs, e, hs, rs⟩ := WRep.seqT (.inl r)
  cases e
  refine ⟨fun i d hd => ?_, ⟨xs, hs, by rw [rs.length]; exact Nat.le_refl _⟩⟩
  obtain ⟨v, h1, h2⟩ := rs.get hd
  refine ⟨⟨xs, v, hs, h1⟩, fun x H' y => ?_⟩
  obtain ⟨rfl, y⟩ := y
  have := y xs hs
  rw [h1] at this; cases this
  exact ⟨Same.refl _, h2⟩
theorem wlk_range {K : Frag} {lo : Int} {n : Nat} : Wlk K (Itr lo n) (.non, .non) (rangeD lo n) := by
  intro H O _ r
  have hl : (rangeD lo n).length = n := by simp [rangeD]
  refine ⟨fun i d hd => ?_, show n ≤ _ by rw [hl]; exact Nat.le_refl _⟩
  have hi : i < n := by
    have := (List.getElem?_eq_some_iff.mp hd).1
    rwa [hl] at this
  refine ⟨hi, fun x H' y => ?_⟩
  obtain ⟨rfl, rfl⟩ := y
  have : d = D.int (lo + (i : Int)) := by
    simp only [rangeD, List.getElem?_map, List.getElem?_range hi, Option.map_some] at hd
    exact (Option.some.inj hd).symm
  subst this
  exact ⟨Same.refl _, .int _⟩
theorem piv_range1 {tg e : Expr} {p pos : Pos} {f : FE} (hm : X.mg "range" = none) (h : PV X e f) (hg : Gl X "range" := by rfl) (hs : starEach [e] X.env = [(false, eval e X.env)] := by rfl) : PIv X tg (.Call (.Name "range" p) [e] [] pos) (rng1 f) := by
  obtain ⟨t, ht, hf⟩ := h
  refine ⟨_, pi_range1 hg hm (pa_cons ht pa_nil hs) hs, fun H₀ H O σ ds hd items R o e q => ?_⟩
  unfold rng1 at e
  obtain ⟨d, h1, e⟩ := bnd e
  cases d with
  | int j =>
    simp only at e
    split at e
    · rename_i hj
      cases e
      refine hf H₀ H O σ ds hd _ _ o h1 fun v H' s r => ?_
      cases r
      exact ⟨j, rfl, hj.1, hj.2, q _ (.non, .non) H' s .non wlk_range⟩
    · cases e
  | _ => cases e
variable (X) in
def PGv (tg : Expr) (ga : D → List Sl → Option (List Sl)) : Prop := ∃ g, PG X tg g ∧ ∀ H₀ H O σ ds hd v d ds' Q, Ok X.K H₀ H O σ ds hd → Rep X.K H O v d → ga d ds = some ds' → (∀ σ', Ok X.K H₀ H O σ' ds' hd → Q σ' H) → g v σ H Q
variable (X) in
def PGsv (tgs : List Expr) (ga : List D → List Sl → Option (List Sl)) : Prop := ∃ g, PGs X tgs g ∧ ∀ H₀ H O σ ds hd vs l ds' Q, Ok X.K H₀ H O σ ds hd → Reps X.K H O vs l → ga l ds = some ds' → (∀ σ', Ok X.K H₀ H O σ' ds' hd → Q σ' H) → g vs σ H Q
theorem pgv_name {i : Nat} {x : Str} {pos : Pos} (hN : X.N.Nodup) (hi : X.N[i]? = some x := by rfl) (hx : Loc X.env.scope x := by first | exact Or.inl rfl | exact Or.inr rfl)
    (hf : X.fn x = true ∨ X.env.scope.names.lookup x = some .local := by first | exact .inl rfl | exact .inr rfl) : PGv X (.Name x pos) (nameG i) :=
  ⟨_, pg_name hN hi hx hf, fun H₀ H O σ ds hd v d ds' Q o r e q => by cases e; exact q _ (o.set r)⟩
theorem pgsv_nil : PGsv X [] tgNil := ⟨_, pgs_nil, fun H₀ H O σ ds hd vs l ds' Q o r e q => by
  cases r with
  | nil => cases e; exact ⟨rfl, q _ o⟩
  | cons _ _ => cases e⟩
theorem pgsv_cons {e : Expr} {es : List Expr} {g : D → List Sl → Option (List Sl)} {h : List D → List Sl → Option (List Sl)} (h1 : PGv X e g) (h2 : PGsv X es h)
    (hs : (assignEach (e :: es) X.env).map (·.2) = assign e X.env :: (assignEach es X.env).map (·.2) := by rfl) : PGsv X (e :: es) (tgCons g h) := by
  obtain ⟨t, ht, hf⟩ := h1
  obtain ⟨u, hu, hg⟩ := h2
  refine ⟨_, pgs_cons ht hu hs, fun H₀ H O σ ds hd vs l ds' Q o r e q => ?_⟩
  cases r with
  | nil => cases e
  | cons r1 rr =>
    rename_i v d vr dr
    simp only [tgCons] at e
    obtain ⟨ds1, h1, e⟩ := bnd e
    exact ⟨v, vr, rfl, hf H₀ H O σ ds hd v d ds1 _ o r1 h1 fun σ' o' => hg H₀ H O σ' ds1 hd vr dr ds' Q o' rr e q⟩
theorem pgv_tup {es : List Expr} {k : Nat} {pos : Pos} {h : List D → List Sl → Option (List Sl)} {n : Nat} (hc : X.calm = true) (hh : PGsv X es h)
    (hn : (assignEach es X.env).length = n := by rfl) (hst : (assignEach es X.env).findIdx? (·.1) = none := by rfl) : PGv X (.Tuple es k pos) (tupG n h) := by
  obtain ⟨t, ht, hf⟩ := hh
  refine ⟨_, pg_tup hc ht hn hst, fun H₀ H O σ ds hd v d ds' Q o r e q => ?_⟩
  cases d with
  | tup l =>
    simp only [tupG] at e
    split at e
    · rename_i hl
      obtain ⟨a, xs, rfl, hs, rs⟩ := WRep.seqT (.inl r)
      exact ⟨a, xs, rfl, hs, by rw [rs.length]; exact hl, hf H₀ H O σ ds hd xs l ds' Q o rs e q⟩
    · cases e
  | _ => cases e
theorem retB_less {K : Frag} {H : Hp} {hd : Hold} {q : HI} {v : V} {r : Ret} (h : RetB K H (q :: hd) v r) : RetB K H hd v r := by
  cases r with
  | any d => exact fun B hB => h B (List.mem_cons_of_mem _ hB)
  | _ => exact True.intro
theorem psv_for {tg iter : Expr} {body : List Stmt} {pos : Pos} {fi : FA} {ga : D → List Sl → Option (List Sl)} {g : FS} (hp : PassesOwn (model X.prog X.w) X.A X.env X.xe) (hc : X.calm = true) (hi : PIv X tg iter fi) (hg : PGv X tg ga) (hb : PSsv X body g)
    (hs : ∀ x, foldedSetIterable iter X.env x = pure x := by intro _; rfl) : PSv X (.For tg iter body [] pos) (forG fi ga g) := by
  obtain ⟨wi, pi, hi⟩ := hi
  obtain ⟨tg', pg, hg⟩ := hg
  obtain ⟨tb, pb, hb⟩ := hb
  refine ⟨_, ps_for hp hc pi pg pb hs, fun H₀ H O σ ds hd out E o e h => ?_⟩
  unfold forG at e
  obtain ⟨items, h1, e⟩ := bnd e
  refine hi H₀ H O σ ds hd items _ o h1 fun J p H' s r wk => ?_
  refine ⟨fun i m σ' H' => i ≤ items.length ∧ m = items.length - i ∧ ∃ O' ds', Ok X.K H₀ H' O' σ' ds' (HI.rep p.1 p.2 :: hd) ∧ loopG ga g (items.drop i) ds' = some out, ⟨items.length, Nat.zero_le _, rfl, O, ds, (o.mono s).holdMore (p := HI.rep p.1 p.2) r, by simpa using e⟩, ?_⟩
  rintro i m σ1 H1 ⟨hi1, rfl, O1, ds1, o1, e1⟩
  obtain ⟨go, stop⟩ := wk H1 O1 o1.dom (o1.hold (HI.rep p.1 p.2) List.mem_cons_self)
  by_cases hlt : i < items.length
  · right
    have hd0 : items[i]? = some items[i] := List.getElem?_eq_getElem hlt
    obtain ⟨hgo, hy⟩ := go i _ hd0
    rw [List.drop_eq_getElem_cons hlt, loopG] at e1
    refine ⟨hgo, fun σ' H' => i + 1 ≤ items.length ∧ ∃ O' ds', Ok X.K H₀ H' O' σ' ds' (HI.rep p.1 p.2 :: hd) ∧ loopG ga g (items.drop (i + 1)) ds' = some out, fun σ' H' ⟨q1, q2⟩ => ⟨items.length - (i + 1), by omega, q1, rfl, q2⟩, fun x H2 y => ?_⟩
    obtain ⟨s2, r2⟩ := hy x H2 y
    obtain ⟨ds2, h2, e1⟩ := bnd e1
    obtain ⟨o3, h3, e1⟩ := bnd e1
    refine hg H₀ H2 O1 σ1 ds1 (HI.rep p.1 p.2 :: hd) x _ ds2 _ (o1.mono s2) r2 h2 fun σ' o' => ?_
    refine hb H₀ H2 O1 σ' ds2 (HI.rep p.1 p.2 :: hd) o3 _ o' h3 ?_
    cases o3 with
    | nx ds3 => exact fun σ3 H3 O3 ok3 => ⟨hlt, O3, ds3, ok3, e1⟩
    | ct ds3 => exact fun σ3 H3 O3 ok3 => ⟨hlt, O3, ds3, ok3, e1⟩
    | bk ds3 => cases e1; exact fun σ3 H3 O3 ok3 => h σ3 H3 O3 ok3.holdLess
    | rt rr => cases e1; exact fun v H s r b => h v H s r (retB_less b)
  · left
    have ei : i = items.length := by omega
    subst ei
    rw [List.drop_length, loopG] at e1
    cases e1
    exact ⟨stop, h σ1 H1 O1 o1.holdLess⟩
variable (X) in
def PFv (ifs : List Expr) (c : FT) : Prop := ∃ t, PF X ifs t ∧ ∀ H₀ H O σ ds hd b Q, Ok X.K H₀ H O σ ds hd → c ds = some b → (∀ H', Same H H' → Q b H') → t σ H Q
theorem pfv_nil : PFv X [] (fun _ => some true) := ⟨_, pf_nil, fun _ H _ _ _ _ _ _ _ e q => by cases e; exact q H (Same.refl _)⟩
theorem pfv_one {c : Expr} {fc : FT} (h : PTv X c fc) : PFv X [c] fc := by
  obtain ⟨t, ht, hf⟩ := h
  exact ⟨_, pf_one ht, hf⟩
theorem Ok.inner {K : Frag} {H₀ H : Hp} {O : Addr → Prop} {σ : L2.St} {ds : List Sl} {hd : Hold} (o : Ok K H₀ H O σ ds hd) (mp : List (Option Nat)) : Ok K H₀ H O (slotsY mp σ) (slotsD mp ds) hd := by
  have no : ∀ {i : Nat} {l : List D}, (slotsD mp ds)[i]? = some (.own l) → False := fun {i l} e => by
    unfold slotsD at e
    rw [List.getElem?_map] at e
    cases hm : mp[i]? with
    | none => rw [hm] at e; cases e
    | some m =>
      rw [hm] at e
      simp only [Option.map_some, Option.some.injEq] at e
      cases m with
      | none => cases e
      | some j =>
        simp only at e
        split at e <;> cases e
  refine ⟨o.same, fun i l a e _ => (no e).elim, o.dom, by simp [slotsY, slotsD], fun i s e => ?_, fun i j a hij hi hj e1 e2 => ?_, o.hold, .no fun i r t e => by
    unfold slotsD at e
    rw [List.getElem?_map] at e
    cases hm : mp[i]? with
    | none => rw [hm] at e; cases e
    | some m =>
      rw [hm] at e
      simp only [Option.map_some, Option.some.injEq] at e
      cases m with
      | none => cases e
      | some j =>
        simp only at e
        split at e <;> cases e⟩
  · unfold slotsD at e
    unfold slotsY
    rw [List.getElem?_map] at e ⊢
    cases hm : mp[i]? with
    | none => rw [hm] at e; cases e
    | some m =>
      rw [hm] at e
      simp only [Option.map_some, Option.some.injEq] at e
      cases m with
      | none =>
        simp only at e
        subst e; exact slOk_no
      | some j =>
        simp only at e
        cases hj : ds[j]? with
        | none => rw [hj] at e; subst e; exact slOk_no
        | some s' =>
          rw [hj] at e
          cases s' with
          | no => subst e; exact slOk_no
          | exc _ => subst e; exact slOk_no
          | fr _ => subst e; exact slOk_no
          | ob _ _ => subst e; exact slOk_no
          | own l => subst e; exact slOk_no
          | v d =>
            simp only at e
            subst e
            obtain ⟨v, h1, h2⟩ := o.read hj
            simp only [Option.map_some, Option.bind_some, h1, Option.join_some]
            exact slOk_v h2
  · obtain ⟨l, e⟩ := hi
    unfold slotsD at e
    rw [List.getElem?_map] at e
    cases hm : mp[i]? with
    | none => rw [hm] at e; cases e
    | some m =>
      rw [hm] at e
      simp only [Option.map_some, Option.some.injEq] at e
      cases m with
      | none => cases e
      | some j =>
        simp only at e
        cases hj : ds[j]? with
        | none => rw [hj] at e; cases e
        | some s' => rw [hj] at e; cases s' <;> cases e
section
variable {scope : Scope} {NY : List Str} {mp : List (Option Nat)} {tg iter elt : Expr} {ifs : List Expr} {pos : Pos} {fi : FA} {ga : D → List Sl → Option (List Sl)} {tt : FT} {fe : FE}
theorem comp_sem {wi : TI} {g : CI → TG} {t1 : CI → TT} {t2 : CI → TE}
    (hi : ∀ H₀ H O σ ds hd items R, Ok X.K H₀ H O σ ds hd → fi ds = some items → (∀ J p H', Same H H' → Rep X.K H' O p.1 p.2 → Wlk X.K J p items → R J H') → wi σ H R)
    (hg : ∀ c H₀ H O σ ds hd v d ds' Q, Ok X.K H₀ H O σ ds hd → Rep X.K H O v d → ga d ds = some ds' → (∀ σ', Ok X.K H₀ H O σ' ds' hd → Q σ' H) → g c v σ H Q)
    (ht : ∀ c H₀ H O σ ds hd b Q, Ok X.K H₀ H O σ ds hd → tt ds = some b → (∀ H', Same H H' → Q b H') → t1 c σ H Q)
    (he : ∀ c H₀ H O σ ds hd d Q, Ok X.K H₀ H O σ ds hd → fe ds = some d → (∀ v H', Same H H' → Rep X.K H' O v d → Q v H') → t2 c σ H Q) :
    ∀ H₀ H O σ ds hd l Q, Ok X.K H₀ H O σ ds hd → compG fi mp ga tt fe ds = some l →
      (∀ a xs H', Same H H' → H a = none → H' a = some (.lst xs) → Reps X.K H' (ins1 a O) xs l → Q (.ref a) H') → tComp wi mp g t1 t2 σ H Q := by
  intro H₀ H O σ ds hd l Q o e q
  unfold compG at e
  obtain ⟨items, h1, e⟩ := bnd e
  split at e
  · rename_i hsz
    refine hi H₀ H O σ ds hd items _ o h1 fun J p H1 s1 r1 wk => fun c => ?_
    have oI : Ok X.K H₀ H1 O (slotsY mp σ) (slotsD mp ds) (HI.rep p.1 p.2 :: hd) := ((o.mono s1).holdMore (p := HI.rep p.1 p.2) r1).inner mp
    refine ⟨fun i m ys H2 => i ≤ items.length ∧ m = items.length - i ∧ Same H1 H2 ∧ ys.length ≤ i ∧ ∃ l' rest, Reps X.K H2 O ys l' ∧ compL ga tt fe (slotsD mp ds) (items.drop i) = some rest ∧ l = l' ++ rest,
      ⟨items.length, Nat.zero_le _, rfl, Same.refl _, Nat.le_refl _, [], l, .nil, by simpa using e, rfl⟩, ?_⟩
    rintro i m ys H2 ⟨hi1, rfl, s2, hy, l', rest, ry, er, el⟩
    have o2 := oI.mono s2
    obtain ⟨go, stop⟩ := wk H2 O o2.dom (o2.hold (HI.rep p.1 p.2) List.mem_cons_self)
    by_cases hlt : i < items.length
    · right
      have hd0 : items[i]? = some items[i] := List.getElem?_eq_getElem hlt
      obtain ⟨hgo, hyl⟩ := go i _ hd0
      refine ⟨hgo, by omega, fun x H3 y => ?_⟩
      obtain ⟨s3, r3⟩ := hyl x H3 y
      rw [List.drop_eq_getElem_cons hlt, compL] at er
      obtain ⟨ds1, h2, er⟩ := bnd er
      refine hg c H₀ H3 O _ _ (HI.rep p.1 p.2 :: hd) x _ ds1 _ (o2.mono s3) r3 h2 fun σ' o3 => ?_
      obtain ⟨b, h3, er⟩ := bnd er
      refine ht c H₀ H3 O σ' ds1 (HI.rep p.1 p.2 :: hd) b _ o3 h3 fun H4 s4 => ?_
      cases b with
      | false =>
        refine iteF ⟨items.length - (i + 1), by omega, hlt, rfl, (s2.trans s3).trans s4, Nat.le_succ_of_le hy, l', rest, (ry.mono s3).mono s4, by simpa using er, el⟩
      | true =>
        refine iteT ?_
        simp only [if_true] at er
        obtain ⟨yd, h4, er⟩ := bnd er
        cases h5 : compL ga tt fe (slotsD mp ds) (items.drop (i + 1)) with
        | none => rw [h5] at er; cases er
        | some rest' =>
          rw [h5] at er
          cases er
          refine he c H₀ H4 O σ' ds1 (HI.rep p.1 p.2 :: hd) yd _ (o3.mono s4) h4 fun v H5 s5 r5 => ?_
          refine ⟨items.length - (i + 1), by omega, hlt, rfl, ((s2.trans s3).trans s4).trans s5, by simp; omega, l' ++ [yd], rest', (((ry.mono s3).mono s4).mono s5).append (.cons r5 .nil), h5, ?_⟩
          rw [el]; simp
    · left
      have ei : i = items.length := by omega
      subst ei
      rw [List.drop_length, compL] at er
      cases er
      rw [List.append_nil] at el
      subst el
      refine ⟨stop, by omega, fun a ha => ?_⟩
      refine q a ys _ ((s1.trans s2).trans (same_upd ha _)) ((s1.trans s2).free ha) upd_same ?_
      exact (ry.more ha).mono (same_upd ha _)
  · cases e
theorem pvf_comp (S : CompScope X scope NY mp) (hc : X.calm = true) (hi : PIv X tg iter fi) (hg : ∀ c, PGv (compCx X scope NY c) tg ga) (ht : ∀ c, PFv (compCx X scope NY c) ifs tt) (he : ∀ c, PV (compCx X scope NY c) elt fe)
    (hs : ∀ x, foldedSetIterable iter X.env x = pure x := by intro _; rfl) : PVf X (.ListComp elt [⟨tg, iter, ifs, 0⟩] scope pos) (compG fi mp ga tt fe) := by
  obtain ⟨wi, pi, hi⟩ := hi
  refine ⟨_, pe_comp S hc pi (fun c => (Classical.choose_spec (hg c)).1) (fun c => (Classical.choose_spec (ht c)).1) (fun c => (Classical.choose_spec (he c)).1) hs, ?_⟩
  exact comp_sem hi (fun c => (Classical.choose_spec (hg c)).2) (fun c => (Classical.choose_spec (ht c)).2) (fun c => (Classical.choose_spec (he c)).2)
end
end
end FL
namespace L2
open PySem PySem.Spec PyProof.Rows
section
variable {X : Cx}
inductive TyV (K : PySem.W.Frag) (H : Hp) : V → Value → Prop where
  | of {x : V} {t : Value} (h : TyOf K H x t) : TyV K H x t
  | lstK {a : Addr} {o : Obj} (h : K.lookup a = some o) (c : o.cls = .type "list") : TyV K H (.ref a) (.type "list")
  | tupK {a : Addr} {o : Obj} (h : K.lookup a = some o) (c : o.cls = .type "tuple") : TyV K H (.ref a) (.type "tuple")
  | tupF {a : Addr} {o : Obj} {xs : List V} (h : H a = some (.frz o (.tup xs))) : TyV K H (.ref a) (.type "tuple")
noncomputable def clsV : V → Value → Prop
  | .ty n, u => u = .type n
  | .ref a, u => u = .ref a
  | _, _ => False
theorem call_isi : CallR X (.builtin "isinstance") (fun xs H Q => ∃ x c cv t b, xs = [x, c] ∧ clsV c cv ∧ TyV X.K H x t ∧ PySem.W.kitOne X.K t cv = some b ∧ Q (.bl b) H) := by
  intro pins s σ H xs us Q I r h
  obtain ⟨x, c, cv, t, b, rfl, hc, ty, e, q⟩ := h
  obtain ⟨u, u2, rfl, ru, ru2⟩ := vals2 r
  have e2 : u2 = cv := by
    cases c with
    | ty n => cases (show cv = .type n from hc); cases (show u2 = .type n from ru2); rfl
    | ref a => cases (show cv = .ref a from hc); cases (show u2 = .ref a from ru2); rfl
    | _ => exact (show False from hc).elim
  subst e2
  have fin : ∀ tk, EP X pins σ Q (.bool b) { s with toks := tk } := fun tk => ⟨.bl b, H, I.tok tk, rfl, q⟩
  cases ty with
  | of h => exact isinst_ok I ru h e fin
  | @lstK a o h c =>
    cases (show u = Value.ref a from ru)
    exact PySem.W.kia_one PySem.W.kitx_list I.kIn ⟨o, I.kIn _ _ h, c⟩ e (fun z => nomatch z) fin
  | @tupK a o h c =>
    cases (show u = Value.ref a from ru)
    exact PySem.W.kia_one PySem.W.kitx_tuple I.kIn ⟨o, I.kIn _ _ h, c⟩ e (fun z => nomatch z) fin
  | @tupF a o xs ea =>
    cases (show u = Value.ref a from ru)
    obtain ⟨e0, _, _, _, p⟩ := (show ObjOk X.prog X.w H s.heap a (.frz o (.tup xs)) from I.hok a _ ea)
    obtain ⟨o', h1, h2, _⟩ := p
    exact PySem.W.kia_one PySem.W.kitx_tuple I.kIn ⟨o', h1, h2⟩ e (fun z => nomatch z) fin
end
end L2
namespace FL
open PySem PySem.Spec PyProof.Rows L2
section
variable {X : Cx}
noncomputable def kitO (t T : String) : Option Bool := if ((Value.type t) == (Value.type T)) = true then some true else if PySem.W.kitMeta T = true then (fastBuiltinMro t).map (·.contains (.type T)) else none
theorem kit_all : ∀ t ∈ kitN, ∀ T ∈ kitT, kitO t T = some (t == T || (t == "bool" && T == "int")) := by decide +kernel
theorem kit_of {K : Frag} {t T : String} {b : Bool} (h : kitF t T = some b) : PySem.W.kitOne K (.type t) (.type T) = some b := by
  unfold kitF at h
  split at h
  · rename_i hm
    cases h
    exact kit_all t hm.1 T hm.2
  · cases h
theorem ty_of {K : Frag} {H : Hp} {O : Addr → Prop} {v : V} {d : D} {t : String} (r : WRep K H O v d) (e : tyD d = some t) : TyV K H v (.type t) := by
  rcases r with r | ⟨a, xs, l, rfl, rfl, ho, h, rs⟩
  · cases r with
    | non => cases e; exact .of .non
    | bl b => cases e; exact .of (.bl b)
    | int i => cases e; exact .of (.int i)
    | str x => cases e; exact .of (.str x)
    | tup n h r =>
      cases e
      rcases h with h | ⟨o, h⟩
      · exact .of (.tup h)
      · exact .tupF h
    | tupK h r => cases e; obtain ⟨o, its, m, hk, hc, _⟩ := h; exact .tupK hk hc
    | lst n h r =>
      cases e
      rcases h with h | ⟨o, h⟩
      · exact .of (.lst h)
      · exact .of (.frz h)
    | lstK h r => cases e; obtain ⟨o, its, m, hk, hc, _⟩ := h; exact .lstK hk hc
    | dct n h e' r => cases e; exact .of (.dK h)
    | dcf n h e' r => cases e
    | ins c n h e' r => cases e
    | clo tx h e' nd c r => cases e
    | fnK h => cases e
  · cases e; exact .of (.lst h)
theorem pv_isi {p pT pos : Pos} {e : Expr} {f : FE} {x : Str} {T : String} (hm : X.mg "isinstance" = none) (hT : X.mg x = none) (hv : bootBuiltins x = some (.type T)) (he : PVw X e f) (hg : Gl X "isinstance" := by rfl) (hgT : Gl X x := by rfl)
    (h1 : starEach [e, .Name x pT] X.env = (false, eval e X.env) :: starEach [.Name x pT] X.env := by rfl) (h2 : starEach [.Name x pT] X.env = (false, eval (.Name x pT) X.env) :: starEach [] X.env := by rfl) (h3 : (backTo pos (starEach [.Name x pT] X.env)).any (·.1) = false := by rfl)
    (hn : x ≠ "__name__" := by decide) (hd : (x == ("__debug__" : Str)) = false := by decide) : PV X (.Call (.Name "isinstance" p) [e, .Name x pT] [] pos) (isiG T f) := by
  obtain ⟨t, ht, hf⟩ := he
  refine ⟨_, pe_callB call_isi hg hm (by decide +kernel) (pa_cons ht (pa_cons (pe_bltn (v := .ty T) hgT hT hv rfl hn hd) pa_nil h2) h1) (by decide) (by decide) h1 h3, fun H₀ H O σ ds hd d Q o e q => ?_⟩
  unfold isiG at e
  obtain ⟨dx, hh, e⟩ := bnd e
  simp only [Option.bind_some, isiD] at e
  obtain ⟨t, ht, e⟩ := bnd e
  obtain ⟨b, hk, rfl⟩ := mpd e
  refine hf H₀ H O σ ds hd dx _ o hh fun v H' s r => ?_
  exact ⟨v, .ty T, .type T, .type t, b, rfl, rfl, ty_of r ht, kit_of hk, q _ H' s (.bl b)⟩
theorem pv_neg {a : Expr} {pos : Pos} {f : FE} (ha : PV X a f) : PV X (.UnaryOp .USub a pos) (un1 negD f) := by
  obtain ⟨ta, pa, ha⟩ := ha
  refine ⟨_, pe_un un_neg pa, fun H₀ H O σ ds hd d Q o e q => ?_⟩
  unfold un1 at e
  obtain ⟨dx, h1, e⟩ := bnd e
  cases dx with
  | int i =>
    cases e
    refine ha H₀ H O σ ds hd _ _ o h1 fun x H1 s1 r1 => ?_
    cases r1
    exact ⟨i, rfl, q _ H1 s1 (.int _)⟩
  | _ => cases e
variable (X) in
def PVd (e : Expr) (f : FE) : Prop := ∃ t, PE X e t ∧ ∀ H₀ H O σ ds hd d Q, Ok X.K H₀ H O σ ds hd → f ds = some d → (∀ v H', Same H H' → Rep X.K H' (Old H) v d → Q v H') → t σ H Q
theorem PV.d {e : Expr} {f : FE} (h : PV X e f) : PVd X e (flV f) := by
  obtain ⟨t, ht, hf⟩ := h
  refine ⟨t, ht, fun H₀ H O σ ds hd d Q o e q => ?_⟩
  unfold flV at e
  obtain ⟨dx, h1, e⟩ := bnd e
  split at e
  · rename_i hfl
    cases e
    exact hf H₀ H O σ ds hd _ _ o h1 fun v H' s r => q v H' s (Rep.flatten (fun a z => Old.mono s z) hfl r)
  · cases e
theorem not_old {H : Hp} {p : Addr} (h : H p = none) : ¬ Old H p := fun ⟨o, e, _⟩ => by rw [h] at e; cases e
end
end FL
namespace FL
open PySem PySem.Spec PyProof.Rows L2
section
variable {X : Cx}
noncomputable def compOk (sc scope : Scope) (N NY : List Str) (mp : List (Option Nat)) : Bool :=
  scope.kind == .function && scope.names.all (fun y => y.2 != .cell) && scope.names.all (fun y => y.2 != .local || scope.names.lookup y.1 == some .local)
  && scope.names.all (fun y => y.2 != .free || (sc.names.lookup y.1 == some .cell || sc.names.lookup y.1 == some .free)) && mp.length == NY.length
  && (List.range NY.length).all (fun i => match NY[i]?, mp[i]? with | some x, some (some j) => N[j]? == some x && scope.names.lookup x == some .free | _, _ => true)
theorem comp_scope {scope : Scope} {NY : List Str} {mp : List (Option Nat)} (h : compOk X.env.scope scope X.N NY mp = true) : CompScope X scope NY mp := by
  unfold compOk at h
  simp only [Bool.and_eq_true, List.all_eq_true, beq_iff_eq] at h
  obtain ⟨⟨⟨⟨⟨h1, h2⟩, h3⟩, h4⟩, h5⟩, h6⟩ := h
  refine ⟨h1, fun y hy => by simpa using h2 y hy, fun y hy hk => ?_, fun y hy hk => ?_, h5, fun i x j e1 e2 => ?_⟩
  · have := h3 y hy
    simpa [hk] using this
  · have := h4 y hy
    simp only [hk, bne_self_eq_false, Bool.false_or, Bool.or_eq_true, beq_iff_eq] at this
    exact this
  · have hi : i ∈ List.range NY.length := List.mem_range.mpr (List.getElem?_eq_some_iff.mp e1).1
    have := h6 i hi
    rw [e1, e2] at this
    simpa using this
end
theorem does_run {g : FS} {n : Nat} {ds : List D} {r : Ret} (e : runG g n ds = some r) : Does g n ds r := by
  unfold runG at e
  cases h : g (args n ds) with
  | none => rw [h] at e; cases e
  | some o =>
    rw [h] at e
    cases o with
    | rt r' => cases e; exact .inl h
    | nx ds' => cases e; exact .inr ⟨rfl, ds', h⟩
    | bk ds' => cases e
    | ct ds' => cases e
end FL
namespace L2
open PySem PySem.Spec PyProof.Rows
section
variable {X : Cx}
theorem op_mulB : OpR X (binaryOp .Mult) (rI IntMulOk fun i j => .int (i * j)) := opI fun _ _ _ _ _ _ _ hc q => mul_int q hc
theorem op_powB : OpR X (binaryOp .Pow) (rI FL.CPowB fun i j => .int (i ^ j.toNat)) := opI fun _ _ _ _ _ _ _ hc q => pow_int hc.1 hc.2 q
noncomputable def rCatS (K : PySem.W.Frag) : R2 := fun x y H Q => ∃ l b xs zs, x = .ref l ∧ y = .ref b ∧ SqL K H l xs ∧ SqL K H b zs ∧ xs.length + zs.length ≤ sizeLine ∧ ∀ p, H p = none → Q (.ref p) (upd H p (.lst (xs ++ zs)))
theorem op_catS : OpR X (binaryOp .Add) (rCatS X.K) := by
  intro pins s σ H x y v u Q I rx ry h
  obtain ⟨l, b, xs, zs, rfl, rfl, hH, hB, hz, q⟩ := h
  cases rx
  cases ry
  obtain ⟨its, r, pl, z⟩ := I.list hH
  obtain ⟨its2, r2, pl2, z2⟩ := I.list hB
  obtain ⟨⟨cls, dd, data, sl⟩, ho, hc, n, hd⟩ := pl.isList
  obtain ⟨⟨cls2, dd2, data2, sl2⟩, ho2, hc2, n2, hd2⟩ := pl2.isList
  simp only at hc hd hc2 hd2
  subst hc hd hc2 hd2
  have hl := r.length
  have hl2 := r2.length
  refine concat_meets ⟨_, ho, rfl⟩ ⟨_, ho2, rfl⟩ noFill_list_add seq_list_add PySem.F.slot_list_add PySem.F.entry_list_add (PySem.F.args_list_add_2 _ _) (list_addW l b its.toArray its2.toArray n n2 dd dd2 sl sl2 (by simp only [List.size_toArray]; omega)) ⟨ho, ho2, ?_⟩
  have ea : its.toArray ++ its2.toArray = (its ++ its2).toArray := by simp
  rw [ea]
  exact ⟨.ref _, _, I.lnew (t' := s.toks) (r.append r2) (by rw [List.length_append]; omega), rfl, q _ I.fresh⟩
end
end L2
namespace FL
open PySem PySem.Spec PyProof.Rows L2
section
variable {X : Cx}
variable (X) in
def PVn (e : Expr) (f : FE) : Prop := ∃ t, PE X e t ∧ ∀ H₀ H O σ ds hd d Q, Ok X.K H₀ H O σ ds hd → f ds = some d → (∀ v H', Same H H' → Rep X.K H' none0 v d → Q v H') → t σ H Q
variable (X) in
def PAn (es : List Expr) (f : FA) : Prop := ∃ t, PA X es t ∧ ∀ H₀ H O σ ds hd l Q, Ok X.K H₀ H O σ ds hd → f ds = some l → (∀ vs H', Same H H' → Reps X.K H' none0 vs l → Q vs H') → t σ H Q
theorem PVw.n {e : Expr} {f : FE} (h : PVw X e f) : PVn X e f := by
  obtain ⟨t, ht, hf⟩ := h
  exact ⟨t, ht, fun H₀ H O σ ds hd d Q o e q => hf H₀ H O σ ds hd d Q o e fun v H' s r => q v H' s r.any⟩
theorem PV.n {e : Expr} {f : FE} (h : PV X e f) : PVn X e f := h.w.n
theorem pan_nil : PAn X [] nilA := ⟨_, pa_nil, fun _ H _ _ _ _ _ _ _ e q => by cases e; exact q _ H (Same.refl _) .nil⟩
theorem pan_cons {e : Expr} {es : List Expr} {f : FE} {g : FA} (ha : PVn X e f) (hr : PAn X es g) (hs : starEach (e :: es) X.env = (false, eval e X.env) :: starEach es X.env := by rfl) : PAn X (e :: es) (consA f g) := by
  obtain ⟨t, ht, hf⟩ := ha
  obtain ⟨u, hu, hg⟩ := hr
  refine ⟨_, pa_cons ht hu hs, fun H₀ H O σ ds hd l Q o e q => ?_⟩
  unfold consA at e
  obtain ⟨x, h, e⟩ := bnd e
  obtain ⟨r, h2, rfl⟩ := mpd e
  refine hf H₀ H O σ ds hd x _ o h fun v H1 s1 r1 => ?_
  refine hg H₀ H1 O σ ds hd r _ (o.mono s1) h2 fun vs H2 s2 r2 => ?_
  exact q _ H2 (s1.trans s2) (.cons (r1.mono s2) r2)
section
variable {k : Nat} {f : Addr} {fd : FuncData} {ps : List Str} {n : Nat} {F : List D → Option Ret} {x : Str} {p pos : Pos} {e : Expr} {es : List Expr} {g : FA}
theorem pv_callN (Fn : FnOk X.prog X.w X.K X.mg X.base CX0 k f fd ps (spF X.K n F)) (hr : Room k X.A) (hm : X.mg x = some (.ref f)) (hk : PySem.W.keepIn X.K (.ref f) = true) (hb : Binds X.K fd ps []) (ha : PAn X (e :: es) g)
    (hg : Gl X x := by rfl) (hdb : (x == ("__debug__" : Str)) = false := by decide) (he : starEach (e :: es) X.env = (false, eval e X.env) :: starEach es X.env := by rfl) (hpl : (backTo pos (starEach es X.env)).any (·.1) = false := by rfl) :
    PV X (.Call (.Name x p) (e :: es) [] pos) (callV n F g) := by
  obtain ⟨t, ht, hf⟩ := ha
  refine ⟨_, pe_call (CX := CX0) (E := E0) Fn hr hg hm hk hb .nil pass0 ht hdb he hpl, fun H₀ H O σ ds hd d Q o e q => ?_⟩
  unfold callV at e
  obtain ⟨l, h, e⟩ := bnd e
  split at e
  · rename_i hln
    obtain ⟨r, h2, e⟩ := bnd e
    refine hf H₀ H O σ ds hd l _ o h fun vs H1 s1 r1 => ?_
    have hl := r1.length
    refine ⟨by simp only [List.append_nil]; omega, l, r, by simpa using r1, h2, fun v H' s' ro => q v H' (s1.trans s') ?_⟩
    exact retV_ok ro e fun a ha => (o.mono s1).old ha
  · cases e
theorem pvf_callN (Fn : FnOk X.prog X.w X.K X.mg X.base CX0 k f fd ps (spF X.K n F)) (hr : Room k X.A) (hm : X.mg x = some (.ref f)) (hk : PySem.W.keepIn X.K (.ref f) = true) (hb : Binds X.K fd ps []) (ha : PAn X (e :: es) g)
    (hg : Gl X x := by rfl) (hdb : (x == ("__debug__" : Str)) = false := by decide) (he : starEach (e :: es) X.env = (false, eval e X.env) :: starEach es X.env := by rfl) (hpl : (backTo pos (starEach es X.env)).any (·.1) = false := by rfl) :
    PVf X (.Call (.Name x p) (e :: es) [] pos) (callF n F g) := by
  obtain ⟨t, ht, hf⟩ := ha
  refine ⟨_, pe_call (CX := CX0) (E := E0) Fn hr hg hm hk hb .nil pass0 ht hdb he hpl, fun H₀ H O σ ds hd d Q o e q => ?_⟩
  unfold callF at e
  obtain ⟨l, h, e⟩ := bnd e
  split at e
  · rename_i hln
    obtain ⟨r, h2, e⟩ := bnd e
    refine hf H₀ H O σ ds hd l _ o h fun vs H1 s1 r1 => ?_
    have hl := r1.length
    refine ⟨by simp only [List.append_nil]; omega, l, r, by simpa using r1, h2, fun v H' s' ro => ?_⟩
    obtain ⟨a, xs, rfl, h3, h4, h5⟩ := retF_ok ro e fun a ha => (o.mono s1).old ha
    exact q a xs H' (s1.trans s') (s1.free h3) h4 h5
  · cases e
end
def OpN (X : Cx) (r : R2) (op : D → D → Option D) : Prop := ∀ H O x y dx dy d Q, Rep X.K H none0 x dx → Rep X.K H none0 y dy → op dx dy = some d → (∀ v H', Same H H' → Rep X.K H' O v d → Q v H') → r x y H Q
theorem pvn_tOp {r : R2} {op : D → D → Option D} (hs : OpN X r op) {fa fb : FE} {ta tb : TE} (ha : ∀ H₀ H O σ ds hd d Q, Ok X.K H₀ H O σ ds hd → fa ds = some d → (∀ v H', Same H H' → Rep X.K H' none0 v d → Q v H') → ta σ H Q)
    (hb : ∀ H₀ H O σ ds hd d Q, Ok X.K H₀ H O σ ds hd → fb ds = some d → (∀ v H', Same H H' → Rep X.K H' none0 v d → Q v H') → tb σ H Q) :
    ∀ H₀ H O σ ds hd d Q, Ok X.K H₀ H O σ ds hd → bin2 op fa fb ds = some d → (∀ v H', Same H H' → Rep X.K H' O v d → Q v H') → tOp r ta tb σ H Q := by
  intro H₀ H O σ ds hd d Q o e q
  unfold bin2 at e
  obtain ⟨dx, h1, e⟩ := bnd e
  obtain ⟨dy, h2, e⟩ := bnd e
  refine ha H₀ H O σ ds hd dx _ o h1 fun x H1 s1 r1 => ?_
  refine hb H₀ H1 O σ ds hd dy _ (o.mono s1) h2 fun y H2 s2 r2 => ?_
  exact hs H2 O x y dx dy d Q (r1.mono s2) r2 e fun v H' s r => q v H' ((s1.trans s2).trans s) r
theorem pv_cmpN {op : CmpOp} {r : R2} {opD : D → D → Option D} {a b : Expr} {fa fb : FE} {pos : Pos} (ho : OpR X (compareOp op) r) (hs : OpN X r opD) (ha : PVn X a fa) (hb : PVn X b fb) (hm : behindInMarks op b = false) : PV X (.Compare a [op] [b] pos) (bin2 opD fa fb) := by
  obtain ⟨ta, pa, ha⟩ := ha
  obtain ⟨tb, pb, hb⟩ := hb
  exact ⟨_, pe_cmpR ho pa pb hm, pvn_tOp hs ha hb⟩
theorem pt_cmpN {op : CmpOp} {r : R2} {opD : D → D → Option D} {a b : Expr} {fa fb : FE} {pos : Pos} (ho : OpR X (compareOp op) r) (hs : OpN X r opD) (ha : PVn X a fa) (hb : PVn X b fb) (hm : behindInMarks op b = false) : PTv X (.Compare a [op] [b] pos) (testB (bin2 opD fa fb)) := by
  obtain ⟨ta, pa, ha⟩ := ha
  obtain ⟨tb, pb, hb⟩ := hb
  refine ⟨_, pt_cmpR ho pa pb hm, fun H₀ H O σ ds hd k Q o e q => ?_⟩
  unfold testB at e
  obtain ⟨d, h, e⟩ := bnd e
  refine pvn_tOp hs ha hb H₀ H O σ ds hd d _ o h fun v H' s r => ?_
  cases d with
  | bl c => cases e; cases r; exact ⟨_, rfl, q H' s⟩
  | _ => cases e
mutual
theorem Rep.reads {pins : List (Addr × Obj)} {σ : L2.St} {H : Hp} {s : Shared} {O : Addr → Prop} (I : Inv X pins σ H s) : ∀ {v : V} {d : D}, Rep X.K H O v d → ∀ {u : Value} {n : Nat}, RelV v u → shal n d = true → ∃ as, Reads s.heap u (toPy d) as ∧ (toPy d).canLay0 = true ∧ (toPy d).depth ≤ n + 1
  | _, _, .non => fun r _ => by cases r; exact ⟨[], .none, rfl, Nat.zero_le _⟩
  | _, _, .bl b => fun r _ => by cases r; exact ⟨[], .bool b, rfl, Nat.zero_le _⟩
  | _, _, .int i => fun r _ => by obtain ⟨t, rfl⟩ := r; exact ⟨[], .int i t, rfl, Nat.zero_le _⟩
  | _, _, .str x => fun r h => by obtain ⟨t, rfl⟩ := r; exact ⟨[], .str x t, by simpa [toPy, PyData.canLay0, shal] using h, Nat.zero_le _⟩
  | _, _, .tup m h q => fun r hs => by
    cases r
    obtain ⟨its, rv, ⟨o, ho, hc, k, hd⟩, hz⟩ := I.tuple (.inl h)
    obtain ⟨as, h1, h2, h3⟩ := Reps.reads I q rv (by simpa [shal] using hs)
    exact ⟨as, .tuple ho hc hd (by simpa using h1), by simpa [toPy, PyData.canLay0] using h2, by simpa [toPy, PyData.depth] using h3⟩
  | _, _, .tupK h q => fun r hs => by
    cases r
    obtain ⟨its, rv, ⟨o, ho, hc, k, hd⟩, hz⟩ := I.tuple (.inr h)
    obtain ⟨as, h1, h2, h3⟩ := Reps.reads I q rv (by simpa [shal] using hs)
    exact ⟨as, .tuple ho hc hd (by simpa using h1), by simpa [toPy, PyData.canLay0] using h2, by simpa [toPy, PyData.depth] using h3⟩
  | _, _, .lst m h q => fun r hs => by
    cases r
    obtain ⟨its, rv, pl, hz⟩ := I.list (.inl h)
    obtain ⟨o, ho, hc, k, hd⟩ := pl.isList
    obtain ⟨as, h1, h2, h3⟩ := Reps.reads I q rv (by simpa [shal] using hs)
    exact ⟨_, .list ho hc hd (by simpa using h1), by simpa [toPy, PyData.canLay0] using h2, by simpa [toPy, PyData.depth] using h3⟩
  | _, _, .lstK h q => fun r hs => by
    cases r
    obtain ⟨its, rv, pl, hz⟩ := I.list (.inr h)
    obtain ⟨o, ho, hc, k, hd⟩ := pl.isList
    obtain ⟨as, h1, h2, h3⟩ := Reps.reads I q rv (by simpa [shal] using hs)
    exact ⟨_, .list ho hc hd (by simpa using h1), by simpa [toPy, PyData.canLay0] using h2, by simpa [toPy, PyData.depth] using h3⟩
  | _, _, .dct _ _ _ _ => fun _ hs => by simp [shal] at hs
  | _, _, .dcf _ _ _ _ => fun _ hs => by simp [shal] at hs
  | _, _, .ins _ _ _ _ _ => fun _ hs => by simp [shal] at hs
  | _, _, .clo _ _ _ _ _ _ => fun _ hs => by simp [shal] at hs
  | _, _, .fnK _ => fun _ hs => by simp [shal] at hs
theorem Reps.reads {pins : List (Addr × Obj)} {σ : L2.St} {H : Hp} {s : Shared} {O : Addr → Prop} (I : Inv X pins σ H s) : ∀ {vs : List V} {ds : List D}, Reps X.K H O vs ds → ∀ {us : List Value} {n : Nat}, Vals vs us → shals n ds = true → ∃ as, ReadsAll s.heap us (toPys ds) as ∧ PyData.canLayAll0 (toPys ds) = true ∧ PyData.depthAll (toPys ds) ≤ n
  | _, _, .nil => fun r _ => by cases r; exact ⟨[], .nil, rfl, Nat.zero_le _⟩
  | _, _, .cons h t => fun r hs => by
    rename Nat => n
    cases n with
    | zero => simp [shals] at hs
    | succ n =>
     cases r with
     | cons r1 r2 =>
      simp only [shals, Bool.and_eq_true] at hs
      obtain ⟨as, h1, h2, h3⟩ := Rep.reads I h r1 hs.1
      obtain ⟨bs, k1, k2, k3⟩ := Reps.reads I t r2 hs.2
      exact ⟨_, .cons h1 k1, by simp [toPys, PyData.canLayAll0, h2, k2], by simp only [toPys, PyData.depthAll]; omega⟩
end
noncomputable def rEqD (X : Cx) (neg : Bool) : R2 := fun x y H Q => ∃ dx dy, Rep X.K H none0 x dx ∧ Rep X.K H none0 y dy ∧ shal 40 dx = true ∧ shal 40 dy = true ∧ Q (.bl (if neg then !eqvD dx dy else eqvD dx dy)) H
theorem op_eqD (hu : X.A.units + 100 < cLine) : OpR X (compareOp .Eq) (rEqD X false) := by
  intro pins s σ H x y v u Q I rx ry h
  obtain ⟨dx, dy, r1, r2, s1, s2, q⟩ := h
  obtain ⟨as, a1, a2, a3⟩ := r1.reads I rx s1
  obtain ⟨bs, b1, b2, b3⟩ := r2.reads I ry s2
  exact SeqAt.compareEq_reads a1 b1 a2 b2 (by omega) ⟨.bl _, H, I, rfl, q⟩
theorem op_neD (hu : X.A.units + 100 < cLine) : OpR X (compareOp .NotEq) (rEqD X true) := by
  intro pins s σ H x y v u Q I rx ry h
  obtain ⟨dx, dy, r1, r2, s1, s2, q⟩ := h
  obtain ⟨as, a1, a2, a3⟩ := r1.reads I rx s1
  obtain ⟨bs, b1, b2, b3⟩ := r2.reads I ry s2
  exact SeqAt.compareNe_reads a1 b1 a2 b2 (by omega) ⟨.bl _, H, I, rfl, q⟩
theorem on_eqD : OpN X (rEqD X false) eqD := by
  intro H O x y dx dy d Q rx ry e q
  unfold eqD at e
  split at e
  · rename_i hs
    cases e
    exact ⟨dx, dy, rx, ry, hs.1, hs.2, q _ H (Same.refl _) (.bl _)⟩
  · cases e
theorem on_neD : OpN X (rEqD X true) neD := by
  intro H O x y dx dy d Q rx ry e q
  unfold neD at e
  split at e
  · rename_i hs
    cases e
    exact ⟨dx, dy, rx, ry, hs.1, hs.2, q _ H (Same.refl _) (.bl _)⟩
  · cases e
theorem hu100 {k : Nat} {A : Around} (hr : Room k A) : A.units + 100 < cLine := by have := hr.un; omega
theorem pv_eq {a b : Expr} {fa fb : FE} {pos : Pos} {k : Nat} (hr : Room k X.A) (ha : PVn X a fa) (hb : PVn X b fb) : PV X (.Compare a [.Eq] [b] pos) (bin2 eqD fa fb) := pv_cmpN (op_eqD (hu100 hr)) on_eqD ha hb (nomark _)
theorem pv_ne {a b : Expr} {fa fb : FE} {pos : Pos} {k : Nat} (hr : Room k X.A) (ha : PVn X a fa) (hb : PVn X b fb) : PV X (.Compare a [.NotEq] [b] pos) (bin2 neD fa fb) := pv_cmpN (op_neD (hu100 hr)) on_neD ha hb (nomark _)
theorem pt_eq {a b : Expr} {fa fb : FE} {pos : Pos} {k : Nat} (hr : Room k X.A) (ha : PVn X a fa) (hb : PVn X b fb) : PTv X (.Compare a [.Eq] [b] pos) (testB (bin2 eqD fa fb)) := pt_cmpN (op_eqD (hu100 hr)) on_eqD ha hb (nomark _)
theorem pt_ne {a b : Expr} {fa fb : FE} {pos : Pos} {k : Nat} (hr : Room k X.A) (ha : PVn X a fa) (hb : PVn X b fb) : PTv X (.Compare a [.NotEq] [b] pos) (testB (bin2 neD fa fb)) := pt_cmpN (op_neD (hu100 hr)) on_neD ha hb (nomark _)
theorem non_iff {K : Frag} {H : Hp} {O : Addr → Prop} {v : V} {d : D} (r : Rep K H O v d) : decide (v = .non) = (match d with | .non => true | _ => false) := by
  cases r <;> rfl
theorem on_is : OpN X (fun x y H Q => y = .non ∧ Q (.bl (decide (x = .non))) H) isD := by
  intro H O x y dx dy d Q rx ry e q
  cases dy <;> first | (cases dx <;> simp [isD] at e; done) | skip
  cases ry
  refine ⟨rfl, ?_⟩
  rw [non_iff rx]
  cases dx <;> (simp only [isD, Option.some.injEq] at e; subst e; exact q _ H (Same.refl _) (.bl _))
theorem on_not : OpN X (fun x y H Q => y = .non ∧ Q (.bl (!decide (x = .non))) H) notD := by
  intro H O x y dx dy d Q rx ry e q
  cases dy <;> first | (cases dx <;> simp [notD] at e; done) | skip
  cases ry
  refine ⟨rfl, ?_⟩
  rw [non_iff rx]
  cases dx <;> (simp only [notD, Option.some.injEq] at e; subst e; exact q _ H (Same.refl _) (.bl _))
theorem pv_is {a b : Expr} {fa fb : FE} {pos : Pos} (ha : PVn X a fa) (hb : PVn X b fb) : PV X (.Compare a [.Is] [b] pos) (bin2 isD fa fb) := pv_cmpN op_isN on_is ha hb (nomark _)
theorem pv_isnot {a b : Expr} {fa fb : FE} {pos : Pos} (ha : PVn X a fa) (hb : PVn X b fb) : PV X (.Compare a [.IsNot] [b] pos) (bin2 notD fa fb) := pv_cmpN op_notN on_not ha hb (nomark _)
theorem pt_is {a b : Expr} {fa fb : FE} {pos : Pos} (ha : PVn X a fa) (hb : PVn X b fb) : PTv X (.Compare a [.Is] [b] pos) (testB (bin2 isD fa fb)) := pt_cmpN op_isN on_is ha hb (nomark _)
theorem pt_isnot {a b : Expr} {fa fb : FE} {pos : Pos} (ha : PVn X a fa) (hb : PVn X b fb) : PTv X (.Compare a [.IsNot] [b] pos) (testB (bin2 notD fa fb)) := pt_cmpN op_notN on_not ha hb (nomark _)
theorem os_mul : OpS X (rI IntMulOk fun i j => .int (i * j)) mulD := by
  intro H O x y dx dy d Q ho rx ry e q
  cases dx <;> cases dy <;> first | (simp [mulD] at e; done) | skip
  simp only [mulD] at e
  split at e
  · rename_i hc
    cases e
    rw [rx.int', ry.int']
    exact ⟨_, _, rfl, rfl, hc, q _ H (Same.refl _) (.int _)⟩
  · cases e
theorem os_pow : OpS X (rI CPowB fun i j => .int (i ^ j.toNat)) powD := by
  intro H O x y dx dy d Q ho rx ry e q
  cases dx <;> cases dy <;> first | (simp [powD] at e; done) | skip
  simp only [powD] at e
  split at e
  · rename_i hc
    cases e
    rw [rx.int', ry.int']
    exact ⟨_, _, rfl, rfl, hc, q _ H (Same.refl _) (.int _)⟩
  · cases e
theorem pvf_cat {a b : Expr} {fa fb : FE} {pos : Pos} (ha : PVw X a fa) (hb : PVw X b fb) : PVf X (.BinOp a .Add b pos) (catA fa fb) := by
  obtain ⟨ta, pa, ha⟩ := ha
  obtain ⟨tb, pb, hb⟩ := hb
  refine ⟨_, pe_op op_catS pa pb, fun H₀ H O σ ds hd l Q o e q => ?_⟩
  unfold catA at e
  obtain ⟨dx, h1, e⟩ := bnd e
  obtain ⟨dy, h2, e⟩ := bnd e
  cases dx <;> cases dy <;> first | (simp at e; done) | skip
  simp only at e
  split at e
  · rename_i hz
    cases e
    refine ha H₀ H O σ ds hd _ _ o h1 fun x H1 s1 r1 => ?_
    refine hb H₀ H1 O σ ds hd _ _ (o.mono s1) h2 fun y H2 s2 r2 => ?_
    obtain ⟨a1, xs, rfl, hq1, rs1⟩ := (r1.mono s2).seqL
    obtain ⟨a2, ys, rfl, hq2, rs2⟩ := r2.seqL
    refine ⟨a1, a2, xs, ys, rfl, rfl, hq1, hq2, by rw [rs1.length, rs2.length]; exact hz, fun p hp => ?_⟩
    refine q p _ _ ((s1.trans s2).trans (same_upd hp _)) ((s1.trans s2).free hp) upd_same ?_
    exact ((rs1.append rs2).more hp).mono (same_upd hp _)
  · cases e
variable (X) in
def POv (e : Option Expr) (f : List Sl → Option (Option Int)) : Prop := ∃ t, PO X e t ∧ ∀ H₀ H O σ ds hd i Q, Ok X.K H₀ H O σ ds hd → f ds = some i → (∀ H', Same H H' → Q i H') → t σ H Q
theorem pov_so {e : Expr} {f : FE} (h : PVw X e f) : POv X (some e) (soP f) := by
  obtain ⟨t, ht, hf⟩ := h
  refine ⟨_, po_some ht, fun H₀ H O σ ds hd i Q o e q => ?_⟩
  unfold soP at e
  obtain ⟨d, h1, e⟩ := bnd e
  cases d <;> first | (cases e; done) | skip
  cases e
  refine hf H₀ H O σ ds hd _ _ o h1 fun v H' s r => ?_
  rw [r.int']
  exact ⟨_, rfl, q H' s⟩
theorem cut_reps {K : Frag} {H : Hp} {O : Addr → Prop} {xs : List V} {l : List D} {a b : Option Int} (rs : Reps K H O xs l) : Reps K H O (cutV xs a b) (cutD l a b) := by
  unfold cutV cutD
  rw [rs.length]
  exact (rs.drop _).take _
theorem pvf_slice {e : Expr} {lo hi : Option Expr} {f : FE} {gl gh : List Sl → Option (Option Int)} {p2 pos : Pos} (he : PVw X e f) (hl : POv X lo gl) (hh : POv X hi gh) : PVf X (.Subscript e (.Slice lo hi none p2) pos) (sliA f gl gh) := by
  obtain ⟨te, pe, he⟩ := he
  obtain ⟨tl, pl, hl⟩ := hl
  obtain ⟨th, ph, hh⟩ := hh
  refine ⟨_, pe_slice sl_list pe pl ph, fun H₀ H O σ ds hd l Q o e q => ?_⟩
  unfold sliA at e
  obtain ⟨d, h1, e⟩ := bnd e
  obtain ⟨a, h2, e⟩ := bnd e
  obtain ⟨b, h3, e⟩ := bnd e
  cases d <;> first | (cases e; done) | skip
  cases e
  refine he H₀ H O σ ds hd _ _ o h1 fun v H1 s1 r1 => ?_
  refine hl H₀ H1 O σ ds hd _ _ (o.mono s1) h2 fun H2 s2 => ?_
  refine hh H₀ H2 O σ ds hd _ _ ((o.mono s1).mono s2) h3 fun H3 s3 => ?_
  obtain ⟨a1, xs, rfl, hq, rs⟩ := ((r1.mono s2).mono s3).seqL
  refine ⟨a1, xs, rfl, hq, fun p hp => ?_⟩
  have ss := (s1.trans s2).trans s3
  refine q p _ _ (ss.trans (same_upd hp _)) (ss.free hp) upd_same ?_
  exact ((cut_reps rs).more hp).mono (same_upd hp _)
theorem pvf_list {e : Expr} {f : FE} {p pos : Pos} (hm : X.mg "list" = none) (he : PVw X e f) (hg : Gl X "list" := by rfl) (hs : starEach [e] X.env = [(false, eval e X.env)] := by rfl) : PVf X (.Call (.Name "list" p) [e] [] pos) (lisA f) := by
  obtain ⟨te, pe, he⟩ := he
  refine ⟨_, pe_callTy call_list_of hg hm (by decide +kernel) (pa_cons pe pa_nil hs) (by decide) (by decide) hs rfl, fun H₀ H O σ ds hd l Q o e q => ?_⟩
  unfold lisA at e
  obtain ⟨d, h1, e⟩ := bnd e
  refine he H₀ H O σ ds hd _ _ o h1 fun v H1 s1 r1 => ?_
  cases d <;> first | (cases e; done) | skip
  · cases e
    obtain ⟨a1, xs, rfl, hq, rs⟩ := r1.seqT
    refine ⟨a1, xs, rfl, .inr hq, fun p hp => ?_⟩
    exact q p _ _ (s1.trans (same_upd hp _)) (s1.free hp) upd_same ((rs.more hp).mono (same_upd hp _))
  · cases e
    obtain ⟨a1, xs, rfl, hq, rs⟩ := r1.seqL
    refine ⟨a1, xs, rfl, .inl hq, fun p hp => ?_⟩
    exact q p _ _ (s1.trans (same_upd hp _)) (s1.free hp) upd_same ((rs.more hp).mono (same_upd hp _))
theorem cs_max : CallS X (fun xs H Q => ∃ i j, xs = [.int i, .int j] ∧ Q (.int (if j > i then j else i)) H) mxD := by
  intro H O vs l d Q ho r e q
  unfold mxD at e
  split at e
  · cases e
    cases r with
    | cons r1 rn =>
      cases rn with
      | cons r2 rm =>
        cases rm
        exact ⟨_, _, by rw [r1.int', r2.int'], q _ H (Same.refl _) (.int _)⟩
  · cases e
theorem cs_min : CallS X (fun xs H Q => ∃ i j, xs = [.int i, .int j] ∧ Q (.int (if j < i then j else i)) H) mnD := by
  intro H O vs l d Q ho r e q
  unfold mnD at e
  split at e
  · cases e
    cases r with
    | cons r1 rn =>
      cases rn with
      | cons r2 rm =>
        cases rm
        exact ⟨_, _, by rw [r1.int', r2.int'], q _ H (Same.refl _) (.int _)⟩
  · cases e
theorem pv_max2 {p pos : Pos} {a b : Expr} {g : FA} (hc : X.calm = true) (hm : X.mg "max" = none) (ha : PAv X [a, b] g) (hg : Gl X "max" := by rfl) (he : starEach [a, b] X.env = (false, eval a X.env) :: starEach [b] X.env := by rfl) (hpl : (backTo pos (starEach [b] X.env)).any (·.1) = false := by rfl) :
    PV X (.Call (.Name "max" p) [a, b] [] pos) (callB mxD g) := pv_callB (call_max2 hc) cs_max hm (by decide +kernel) ha hg (by decide) (by decide) he hpl
theorem pv_min2 {p pos : Pos} {a b : Expr} {g : FA} (hc : X.calm = true) (hm : X.mg "min" = none) (ha : PAv X [a, b] g) (hg : Gl X "min" := by rfl) (he : starEach [a, b] X.env = (false, eval a X.env) :: starEach [b] X.env := by rfl) (hpl : (backTo pos (starEach [b] X.env)).any (·.1) = false := by rfl) :
    PV X (.Call (.Name "min" p) [a, b] [] pos) (callB mnD g) := pv_callB (call_min2 hc) cs_min hm (by decide +kernel) ha hg (by decide) (by decide) he hpl
theorem isEmpty_len {α β : Type} {xs : List α} {ys : List β} (h : xs.length = ys.length) : xs.isEmpty = ys.isEmpty := by
  cases xs <;> cases ys <;> simp_all
theorem PVn.t {e : Expr} {f : FE} (h : PVn X e f) (he : ∀ whole, isTrue e X.env whole = (do let v ← whole; standAt e.pos; holding [v] (truthy v)) := by intro _; rfl) : PTv X e (testT f) := by
  obtain ⟨t, ht, hf⟩ := h
  refine ⟨_, pt_truth ht he, fun H₀ H O σ ds hd k Q o e q => ?_⟩
  unfold testT at e
  obtain ⟨d, h, e⟩ := bnd e
  refine hf H₀ H O σ ds hd d _ o h fun v H' s r => ⟨k, ?_, q H' s⟩
  cases d with
  | non => cases e; cases r; exact rfl
  | bl b => cases e; cases r; exact rfl
  | int i => cases e; cases r; exact rfl
  | str x =>
    simp only [truD] at e
    split at e
    · rename_i hz; cases e; cases r; exact ⟨hz, rfl⟩
    · cases e
  | tup l =>
    cases e
    obtain ⟨a, xs, rfl, hq, rs⟩ := WRep.seqT (.inl r)
    exact .inr (.inl ⟨xs, hq, by rw [isEmpty_len rs.length]⟩)
  | lst l =>
    cases e
    obtain ⟨a, xs, rfl, hq, rs⟩ := WRep.seqL (.inl r)
    exact .inl ⟨xs, hq, by rw [isEmpty_len rs.length]⟩
  | _ => cases e
theorem psv_never {st : Stmt} : PSv X st (fun _ => none) := ⟨_, ps_never, fun _ _ _ _ _ _ _ _ _ e _ => by cases e⟩
theorem psv_asg {tg e : Expr} {pos : Pos} {f : FE} {ga : D → List Sl → Option (List Sl)} (he : PV X e f) (hg : PGv X tg ga) (hs : swapsWithSole [tg] e pos.line X.env = pure false := by rfl) (hw : swappedStores [tg] e X.env = pure none := by rfl)
    (h1 : (assignEach [tg] X.env).map (·.2) = [assign tg X.env] := by rfl) : PSv X (.Assign [tg] e pos) (asgG ga f) := by
  obtain ⟨te, pe, he⟩ := he
  obtain ⟨tg', pg, hg⟩ := hg
  refine ⟨_, ps_asg pe pg hs hw h1, fun H₀ H O σ ds hd out E o e h => ?_⟩
  unfold asgG at e
  obtain ⟨d, h2, e⟩ := bnd e
  cases h3 : ga d ds with
  | none => rw [h3] at e; cases e
  | some ds' =>
    rw [h3] at e
    cases e
    refine he H₀ H O σ ds hd d _ o h2 fun v H1 s1 r1 => ?_
    exact hg H₀ H1 O σ ds hd v d ds' _ (o.mono s1) r1 h3 fun σ' o' => h σ' H1 O o'
theorem psv_compV {i : Nat} {y : Str} {py spos : Pos} {scope : Scope} {NY : List Str} {mp : List (Option Nat)} {tg iter elt : Expr} {ifs : List Expr} {pos : Pos} {fi : FA} {ga : D → List Sl → Option (List Sl)} {tt : FT} {fe : FE} (hN : X.N.Nodup)
    (S : CompScope X scope NY mp) (hc : X.calm = true) (hi : PIv X tg iter fi) (hg : ∀ c, PGv (compCx X scope NY c) tg ga) (ht : ∀ c, PFv (compCx X scope NY c) ifs tt) (he : ∀ c, PV (compCx X scope NY c) elt fe)
    (hy : X.N[i]? = some y := by rfl) (hl : X.env.scope.names.lookup y = some .local := by rfl)
    (hsw : swapsWith (.ListComp elt [⟨tg, iter, ifs, 0⟩] scope pos) (some (.Name y py)) spos.line X.env = pure true := by rfl)
    (hs : ∀ x, foldedSetIterable iter X.env x = pure x := by intro _; rfl) : PSv X (.Assign [.Name y py] (.ListComp elt [⟨tg, iter, ifs, 0⟩] scope pos) spos) (setG i (mkL (compG fi mp ga tt fe))) := by
  obtain ⟨wi, pi, hi⟩ := hi
  refine ⟨_, ps_comp hN hy hl hsw S hc pi (fun c => (Classical.choose_spec (hg c)).1) (fun c => (Classical.choose_spec (ht c)).1) (fun c => (Classical.choose_spec (he c)).1) hs, fun H₀ H O σ ds hd out E o e h => ?_⟩
  unfold setG mkL at e
  cases h1 : compG fi mp ga tt fe ds with
  | none => rw [h1] at e; cases e
  | some l =>
    rw [h1] at e
    cases e
    exact comp_sem hi (fun c => (Classical.choose_spec (hg c)).2) (fun c => (Classical.choose_spec (ht c)).2) (fun c => (Classical.choose_spec (he c)).2) H₀ H O σ ds hd l _ o h1 fun a xs H' s hn he r =>
      h _ _ _ ((o.mono s).set (.lst (o.free hn) (.inl he) (r.less fun _ z => .inr z)))
end
end FL
namespace L2
open PySem PySem.Spec PyProof.Rows
section
variable {X : Cx}
end
end L2
namespace Att
open PySem PySem.W PySem.Calls PyProof.Rows
theorem bits_script : ∀ {ns : List Int} {b : Nat}, WData.weightAll (ns.map WData.int) ≤ b → ∀ c ∈ ns, Builtin.Int.intBits c ≤ b
  | [], _, _ => fun c hc => by cases hc
  | n :: r, b, h => fun c hc => by
    simp only [List.map_cons, WData.weightAll, WData.weight] at h
    rcases List.mem_cons.mp hc with rfl | hc
    · unfold Builtin.Int.intBits
      omega
    · exact bits_script (ns := r) (b := b) (by omega) c hc
theorem attach_callB {l : OpenLaw} {n : Nat} {q : Program} {loose : List Str} {XP : (Str → Option Value) → Heap → Prop} {YP : World → Heap → Prop} {d : DefRec}
    (hn : l.most = some n) (hdf : d.params.defaults = [])
    (call : ∀ (w : World) (s₀ s₁ : Shared) (mg mb : Str → Option Value) (fa : Addr) (o : Obj) (pm cd doc : Value) (a : Addr) (vs : List Value) (ns : List Int),
      Ground q loose [] XP w s₀ mg mb s₁.heap → YP w s₁.heap →
      s₁.heap.get? fa = some o → o.data = .func (docDef d.name d.params d.body d.scope pm cd doc) → s₁.heap.CodeRec cd d.name → mg d.name = some (.ref fa) →
      s₁.heap.get? a = some { cls := .type "list", data := .seq vs.toArray } → IntsAre vs ns → ns.length ≤ n → (∀ c ∈ ns, Builtin.Int.intBits c ≤ 1048576) → s₁.gens = #[] →
      codeAny (model l.prog w) callerA (.call (.ref fa) ⟨[.ref a], []⟩) (fun r s' => r = .ok (.ret (.bool true)) ∧ OldK s₁.heap s'.heap ∧ s'.os = s₁.os ∧ AllBare s'.gens) s₁) :
    WalkO q loose XP YP l.row.toRowW d [] (fun f vs => PySem.call f vs) := by
  intro w s₀ s₁ mg mb G Y fa o pm cd doc dV kV ho hd hcd hD hmg hg args vals as hpre hlay hrd hwl hlo
  obtain rfl : dV = .none := Dflts.none hD hdf
  obtain rfl : kV = .none := Dflts.noKw hD
  obtain ⟨a, vs, ns, rfl, rfl, hobj, hints, hlen⟩ := script_of hn hpre hwl
  have hb : ∀ c ∈ ns, Builtin.Int.intBits c ≤ 1048576 := by
    have h1 := (layableW_iff.mp (layW_cons hlay).1).2.2
    simp only [WData.weight] at h1
    exact bits_script (Nat.le_trans h1 (by decide))
  refine enter_call (codeAny_mono (call w s₀ s₁ mg mb fa o pm cd doc a vs ns G Y ho (fd_plain hd) hcd hmg hobj hints hlen hb hg) fun r s' hq => ?_)
  obtain ⟨rfl, h2, h3, h4⟩ := hq
  exact ⟨.inl ⟨.bool true, .bool true, [], rfl, fun _ => rfl, .bool true, post_true l _, fun _ => ⟨List.Pairwise.nil, fun _ hm => (nomatch hm)⟩⟩, h2, h3, h4⟩
end Att
namespace FL
open PySem PySem.Spec PyProof.Rows L2
noncomputable def spLawB (K : Frag) (n : Nat) : Sp := fun vs H Q _ => ∃ (a : Addr) (ns : List Int), vs = [.ref a] ∧ SqL K H a (ns.map V.int) ∧ ns.length ≤ n ∧ (∀ c ∈ ns, Builtin.Int.intBits c ≤ 1048576) ∧ ∀ H', Q (.bl true) H'
theorem law_ofB {P : Program} {w : World} {K : Frag} {mg : Str → Option Value} {base : Heap} {k : Nat} {f : Addr} {fd : FuncData} {x : Str} {n : Nat} {F : List D → Option Ret} (Fn : FnOk P w K mg base CX0 k f fd [x] (spF K 1 F))
    (h : ∀ ns : List Int, ns.length ≤ n → (∀ c ∈ ns, Builtin.Int.intBits c ≤ 1048576) → F [.lst (ns.map D.int)] = some (.val (.bl true))) : FnOk P w K mg base CX0 k f fd [x] (spLawB K n) := by
  refine Fn.imp fun vs H Q E hq => ?_
  obtain ⟨a, ns, rfl, hS, hl, hb, q⟩ := hq
  refine ⟨rfl, [.lst (ns.map D.int)], .val (.bl true), .cons ?_ .nil, h ns hl hb, fun v H' s r => ?_⟩
  · rcases hS with hS | hS
    · exact .lst (fun z => z.elim) hS (Reps.ints ns)
    · exact .lstK hS (Reps.ints ns)
  · cases r; exact q H'
open PySem.W (tabIn CodeHd tabObj noTabs tab_of) in
inductive TabL (K : Frag) (q : Program) : List Str → List (Str × Addr × Addr) → Prop
  | nil : TabL K q [] []
  | yes {x : Str} {xs : List Str} {c P : Addr} {tl : List (Str × Addr × Addr)} (h : PySem.W.tabIn K x = some (c, P)) (r : ((recsOf q).find? (fun e => e.name == x)).isSome = true) (ap : (tl.all fun p => p.2.2 != P) = true) (t : TabL K q xs tl) : TabL K q (x :: xs) ((x, c, P) :: tl)
  | no {x : Str} {xs : List Str} {tl : List (Str × Addr × Addr)} (h : PySem.W.tabIn K x = none) (t : TabL K q xs tl) : TabL K q (x :: xs) tl
theorem tabL_no {K : Frag} {q : Program} {x : Str} {xs : List Str} {tl : List (Str × Addr × Addr)} (h : PySem.W.nsIn K mainGlobals x = some none) (t : TabL K q xs tl) : TabL K q (x :: xs) tl := .no (by unfold PySem.W.tabIn; rw [h]) t
theorem tabL_yes {K : Frag} {q : Program} {x : Str} {xs : List Str} {c P f : Addr} {fd : FuncData} {oc oc' : Value} {od od' : Option Addr} {sl sl' : Array (Option Value)} {vs : Array Value} {tl : List (Str × Addr × Addr)} (h1 : PySem.W.nsIn K mainGlobals x = some (some (.ref f))) (h2 : K.lookup f = some ⟨oc, od, .func fd, sl⟩)
    (h3 : fd.code = .ref c) (h4 : K.lookup c = some ⟨oc', od', .fields vs, sl'⟩) (h5 : (vs[11]? : Option Value) = some (.ref P)) (r : ((recsOf q).find? (fun e => e.name == x)).isSome = true) (t : TabL K q xs tl) (ap : (tl.all fun p => p.2.2 != P) = true) : TabL K q (x :: xs) ((x, c, P) :: tl) :=
  .yes (by unfold PySem.W.tabIn; simp only [h1, h2, h3, h4, h5]) r ap t
section
variable {K : Frag} {q : Program} {xs : List Str} {tl : List (Str × Addr × Addr)}
theorem TabL.get (h : TabL K q xs tl) : ∀ {x : Str} {c P : Addr}, x ∈ xs → PySem.W.tabIn K x = some (c, P) → (x, c, P) ∈ tl := by
  induction h with
  | nil => intro x c P hx; cases hx
  | yes h r ap t ih =>
    intro x c P hx ht
    rcases List.mem_cons.mp hx with e | e
    · subst e
      rw [h] at ht
      cases ht
      exact List.mem_cons_self
    · exact List.mem_cons_of_mem _ (ih e ht)
  | no h t ih =>
    intro x c P hx ht
    rcases List.mem_cons.mp hx with e | e
    · subst e
      rw [h] at ht
      cases ht
    · exact ih e ht
theorem TabL.fact (h : TabL K q xs tl) : ∀ p ∈ tl, PySem.W.tabIn K p.1 = some (p.2.1, p.2.2) ∧ ((recsOf q).find? (fun e => e.name == p.1)).isSome = true := by
  induction h with
  | nil => intro p hp; cases hp
  | yes h r ap t ih =>
    intro p hp
    rcases List.mem_cons.mp hp with e | e
    · subst e; exact ⟨h, r⟩
    · exact ih p e
  | no h t ih => exact ih
noncomputable def tabH (K : Frag) (tl : List (Str × Addr × Addr)) : Hp := fun b => (tl.find? fun p => p.2.2 == b).map fun p => .tbl (innerQ K p.1)
theorem tabH_of {b : Addr} {u : HO} (e : tabH K tl b = some u) : ∃ p ∈ tl, b = p.2.2 ∧ u = .tbl (innerQ K p.1) := by
  unfold tabH at e
  obtain ⟨p, h, rfl⟩ := mpd e
  exact ⟨p, List.mem_of_find?_eq_some h, (beq_iff_eq.mp (List.find?_some (p := fun p : Str × Addr × Addr => p.2.2 == b) h)).symm, rfl⟩
theorem TabL.at (h : TabL K q xs tl) : ∀ p ∈ tl, tabH K tl p.2.2 = some (.tbl (innerQ K p.1)) := by
  induction h with
  | nil => intro p hp; cases hp
  | yes h r ap t ih =>
    intro p hp
    rename_i x xs c P tl
    unfold tabH
    rcases List.mem_cons.mp hp with e | e
    · subst e
      simp
    · have : (P == p.2.2) = false := by
        have := List.all_eq_true.mp ap p e
        simp only [bne_iff_ne, ne_eq] at this
        exact beq_eq_false_iff_ne.mpr (Ne.symm this)
      rw [List.find?_cons, this]
      exact ih p e
  | no h t ih => exact ih
end
theorem no_cls {K : Frag} {h : Heap} {b : Addr} {o : Obj} {ps : Array Value} (X : K.In h) (hK : PySem.W.noTabs K = true) (e : K.lookup b = some o) (hb : h.get? b = some (PySem.W.tabObj ps)) : False := by
  have q := X b o e
  rw [hb] at q
  cases q
  have h2 := List.all_eq_true.mp hK (b, _) (PySem.W.mem_of_lookupK e)
  exact absurd (show false = true from h2) Bool.false_ne_true
theorem law_callT {P : Program} {w : World} {K : Frag} {q : Program} {loose : List Str} {mean : ExcName → Option Value} {mg mb : Str → Option Value} {k : Nat} {fa a : Addr} {fd : FuncData} {x : Str} {sp : Sp} {s₁ : Shared} {vs : List Value} {ns : List Int} {tl : List (Str × Addr × Addr)}
    (KX : K.In s₁.heap) (T : Top q loose mean mg mb s₁.heap) (hT : TabL K q makers tl) (hK : PySem.W.noTabs K = true) (hg : s₁.gens = #[]) (ha : s₁.heap.get? a = some { cls := .type "list", data := .seq vs.toArray }) (hi : IntsAre vs ns) (hl : ns.length ≤ sizeLine) (hr : Room k callerA)
    (F : ∀ base : Heap, K.In base → base.Ns mainGlobals mg → FnOk P w K mg base CX0 k fa fd [x] sp) (hbind : ∀ (s : Shared) (u : Value), BindsTo s fd ⟨[u], []⟩ [(x, u)])
    (hsp : ∀ H : Hp, SqL K H a (ns.map V.int) → sp [.ref a] H (fun v _ => v = .bl true) fun _ _ _ => False) :
    codeAny (model P w) callerA (.call (.ref fa) ⟨[.ref a], []⟩) (fun r s' => r = .ok (.ret (.bool true)) ∧ OldK s₁.heap s'.heap ∧ s'.os = s₁.os ∧ AllBare s'.gens) s₁ := by
  have rv := vals_ints hi
  have tf : ∀ p ∈ tl, PySem.W.CodeHd s₁.heap p.2.1 p.2.2 ∧ s₁.heap.get? p.2.2 = some (PySem.W.tabObj #[]) := fun p hp => by
    obtain ⟨h1, h2⟩ := hT.fact p hp
    obtain ⟨d, hd⟩ := Option.isSome_iff_exists.mp h2
    exact PySem.W.tab_of T KX hd h1
  have core : ∀ H : Hp, SqL K H a (ns.map V.int) → L2.HOk P w H s₁.heap → (∀ b u, H b = some u → (b = a ∧ K.lookup a = none ∧ ∃ o xs, u = .frz o (.lst xs)) ∨ ∃ p ∈ tl, b = p.2.2 ∧ u = .tbl (innerQ K p.1)) → (∀ p ∈ tl, H p.2.2 = some (.tbl (innerQ K p.1))) →
      codeAny (model P w) callerA (.call (.ref fa) ⟨[.ref a], []⟩) (fun r s' => r = .ok (.ret (.bool true)) ∧ OldK s₁.heap s'.heap ∧ s'.os = s₁.os ∧ AllBare s'.gens) s₁ := by
    intro H hS hok hA hP
    have free_of : ∀ {b : Addr} {o : Obj}, s₁.heap.get? b = some o → (∀ its n, o.data ≠ .seq its n) → o.data ≠ .fields #[] → H b = none := fun {b o} e n1 n2 => by
      cases qb : H b with
      | none => rfl
      | some u =>
        rcases hA b u qb with ⟨rfl, _, _⟩ | ⟨p, hp, rfl, _⟩
        · rw [ha] at e; cases e; exact (n1 _ _ rfl).elim
        · rw [(tf p hp).2] at e; cases e; exact (n2 rfl).elim
    have base_of : ∀ {b : Addr} {o : Obj}, s₁.heap.get? b = some o → (∀ its n, o.data ≠ .seq its n) → o.data ≠ .fields #[] → (hidT s₁.heap H).get? b = some o := fun e n1 n2 => hidT_get e (free_of e n1 n2)
    have nsK : ∀ {b : Addr} {m : Str → Option Value}, s₁.heap.Ns b m → (hidT s₁.heap H).Ns b m := fun {b m} ⟨o, es, ep, e, d, r⟩ => ⟨o, es, ep, base_of e (fun _ _ z => by rw [d] at z; cases z) (fun z => by rw [d] at z; cases z), d, r⟩
    have hKb : K.In (hidT s₁.heap H) := fun b o e => hidT_get (KX b o e) (by
      cases qb : H b with
      | none => rfl
      | some u =>
        rcases hA b u qb with ⟨rfl, z, _⟩ | ⟨p, hp, rfl, _⟩
        · rw [z] at e; cases e
        · exact (no_cls KX hK e (tf p hp).2).elim)
    have hM : Mod K mg (hidT s₁.heap H) := ⟨hKb, nsK T.g, ⟨mb, nsK T.b, T.builtins⟩, let ⟨mc, h1, h2⟩ := T.nolimit; ⟨mc, nsK h1, h2⟩⟩
    have hTab : TabsK K mg (hidT s₁.heap H) H := by
      refine ⟨?_, fun y c P' hy ht => ?_⟩
      · obtain ⟨bm, ob, b1, b2, b3, b4, b5, b6⟩ := T.bmain
        exact ⟨bm, ob, b1, b2, base_of b3 (fun _ _ z => by rw [b6] at z; cases z) (fun z => by rw [b6] at z; cases z), b4, b5, b6⟩
      · have hm := hT.get hy ht
        refine ⟨?_, hP _ hm⟩
        obtain ⟨o, ws, file, tf', flags, tg, inF, text, tt, e1, r1, r2, r3, rest⟩ := (tf _ hm).1
        refine ⟨o, ws, file, tf', flags, tg, inF, text, tt, base_of e1 (fun _ _ z => by rw [r2] at z; cases z) (fun z => ?_), r1, r2, r3, rest⟩
        rw [r2] at z
        cases z
        cases r3
    have e0 : Env0 P w K mg (hidT s₁.heap H) callerA [] s₁ H := ⟨rfl, hM, fun b o e => of_hidT e, ⟨Nat.le_of_eq (hidT_size _ _), hTab⟩, trivial, fun b hb => absurd (show b ∈ ([] : List Addr) from hb) (by simp), hok, .of_eq hg⟩
    refine codeAny_mono ((F _ hKb (nsK T.g)).run callerA [] s₁ H ⟨[.ref a], []⟩ [.ref a] [.ref a] _ _ hr e0 (hbind s₁ (.ref a)) (.cons rfl .nil) (hsp H hS)) fun r s' h => ?_
    cases r with
    | error e => exact False.elim h
    | ok fl =>
      cases fl with
      | next => exact False.elim h
      | brk => exact False.elim h
      | cont => exact False.elim h
      | ret u =>
        obtain ⟨v, H', os, bare, un, hok', r', hv⟩ := h
        have hv' : v = .bl true := hv
        subst hv'
        obtain rfl : u = Value.bool true := r'
        refine ⟨rfl, ⟨fun b o e => ?_, fun b o e => un.there b o e (by simp)⟩, os, bare⟩
        cases qb : H b with
        | none => exact .inl (un.keep b o e qb (by intro z; exact absurd (show b ∈ ([] : List Addr) from z) (by simp)) (by simp))
        | some u =>
          rcases hA b u qb with ⟨_, _, ob, xs, rfl⟩ | ⟨p, hp, rfl, rfl⟩
          · obtain ⟨e1, _⟩ := hok b _ qb
            obtain ⟨e2, _⟩ := hok' b _ (un.frzs b ob _ qb)
            rw [e] at e1; cases e1
            exact .inl e2
          · have t2 := (tf p hp).2
            rw [e] at t2
            cases t2
            obtain ⟨ps, e2, _⟩ := hok' _ _ (un.tbls _ _ qb)
            exact .inr (.inl ⟨((tf p hp).1.tab (tf p hp).2).isCodeTable, rfl, #[], ps, rfl, by rw [Array.empty_append]; exact e2⟩)
  have tabOk : ∀ (H : Hp) (p : Str × Addr × Addr), p ∈ tl → ObjOk P w H s₁.heap p.2.2 (.tbl (innerQ K p.1)) := fun H p hp => ⟨#[], (tf p hp).2, trivial, fun pos v z => by cases z⟩
  cases hk : K.lookup a with
  | some o =>
    have e := KX a o hk
    rw [ha] at e
    cases e
    refine core (tabH K tl) (.inr ⟨_, vs.toArray, _, hk, rfl, rfl, rfl, by rw [List.size_toArray, hi.length]; exact hl, by simpa using rv⟩) (fun b u z => ?_) (fun b u z => .inr (tabH_of z)) fun p hp => hT.at p hp
    obtain ⟨p, hp, rfl, rfl⟩ := tabH_of z
    exact tabOk _ p hp
  | none =>
    have na : ∀ p ∈ tl, p.2.2 ≠ a := fun p hp z => by
      have := (tf p hp).2
      rw [z, ha] at this; cases this
    refine core (upd (tabH K tl) a (.frz { cls := .type "list", data := .seq vs.toArray } (.lst (ns.map V.int)))) (.inl (.inr ⟨_, upd_same⟩)) (fun b u z => ?_) (fun b u z => ?_) fun p hp => by rw [upd_ne (na p hp)]; exact hT.at p hp
    · by_cases hb : b = a
      · subst hb
        rw [upd_same] at z
        cases z
        exact ⟨ha, by rw [List.length_map]; exact hl, vs, _, rv, ha⟩
      · rw [upd_ne hb] at z
        obtain ⟨p, hp, rfl, rfl⟩ := tabH_of z
        exact tabOk _ p hp
    · by_cases hb : b = a
      · subst hb
        rw [upd_same] at z
        cases z
        exact .inl ⟨rfl, hk, _, _, rfl⟩
      · rw [upd_ne hb] at z
        exact .inr (tabH_of z)
theorem walkB {l : PySem.W.OpenLaw} {q : Program} {loose : List Str} {XP : (Str → Option Value) → Heap → Prop} {YP : World → Heap → Prop} {d : DefRec} {K : Params → PySem.W.Frag} {k : Nat} {tl : List (Str × Addr × Addr)} (hn : l.most = some 63) (hdf : d.params.defaults = []) (hr : Room k callerA)
    (hY : ∀ (w : World) (h : Heap), YP w h → (K w.params).In h) (hK : ∀ w : World, PySem.W.noTabs (K w.params) = true) (hT : ∀ w : World, TabL (K w.params) q makers tl)
    (F : ∀ (w : World) (mg : Str → Option Value) (fa : Addr) (h : Heap), (K w.params).In h → h.Ns mainGlobals mg → mg d.name = some (.ref fa) →
      ∃ fd : FuncData, (∀ (s : Shared) (u : Value), BindsTo s fd ⟨[u], []⟩ [("_law_script", u)]) ∧ ∀ base : Heap, (K w.params).In base → base.Ns mainGlobals mg → FnOk l.prog w (K w.params) mg base CX0 k fa fd ["_law_script"] (spLawB (K w.params) 63)) :
    PySem.W.WalkO q loose XP YP l.row.toRowW d [] (fun f vs => PySem.call f vs) := by
  refine Att.attach_callB hn hdf fun w s₀ s₁ mg mb fa o pm cd doc a vs ns G Y ho hd hcd hmg hobj hints hlen hb hg => ?_
  have KX := hY w _ Y
  obtain ⟨fd, hbd, hF⟩ := F w mg fa _ KX G.T.g hmg
  exact law_callT KX G.T (hT w) (hK w) hg hobj hints (Nat.le_trans hlen (by decide)) hr hF hbd fun H hS => ⟨a, ns, rfl, hS, hlen, hb, fun _ => rfl⟩
structure Cal (P : Program) (w : World) (K : Frag) (mg : Str → Option Value) (base : Heap) (x : Str) (k n : Nat) (F : List D → Option Ret) : Prop where
  ex : ∃ (f : Addr) (fd : FuncData) (ps : List Str), FnOk P w K mg base CX0 k f fd ps (spF K n F) ∧ Binds K fd ps [] ∧ PySem.W.keepIn K (.ref f) = true ∧ mg x = some (.ref f)
section
variable {X : Cx}
section
variable {k j : Nat} {n : Nat} {F : List D → Option Ret} {x : Str} {p pos : Pos} {e : Expr} {es : List Expr} {g : FA}
theorem pv_callC (C : Cal X.prog X.w X.K X.mg X.base x k n F) (hr : Room j X.A) (ha : PAn X (e :: es) g) (hj : k ≤ j := by decide)
    (hg : Gl X x := by rfl) (hdb : (x == ("__debug__" : Str)) = false := by decide) (he : starEach (e :: es) X.env = (false, eval e X.env) :: starEach es X.env := by rfl) (hpl : (backTo pos (starEach es X.env)).any (·.1) = false := by rfl) :
    PV X (.Call (.Name x p) (e :: es) [] pos) (callV n F g) := by
  obtain ⟨f, fd, ps, Fn, hb, hk, hm⟩ := C.ex
  exact pv_callN Fn (hr.mono hj) hm hk hb ha hg hdb he hpl
theorem pvf_callC (C : Cal X.prog X.w X.K X.mg X.base x k n F) (hr : Room j X.A) (ha : PAn X (e :: es) g) (hj : k ≤ j := by decide)
    (hg : Gl X x := by rfl) (hdb : (x == ("__debug__" : Str)) = false := by decide) (he : starEach (e :: es) X.env = (false, eval e X.env) :: starEach es X.env := by rfl) (hpl : (backTo pos (starEach es X.env)).any (·.1) = false := by rfl) :
    PVf X (.Call (.Name x p) (e :: es) [] pos) (callF n F g) := by
  obtain ⟨f, fd, ps, Fn, hb, hk, hm⟩ := C.ex
  exact pvf_callN Fn (hr.mono hj) hm hk hb ha hg hdb he hpl
end
end
section
variable {X : Cx} {a b : Expr} {fa fb : FE} {pos : Pos}
theorem pv_lt (ha : PVw X a fa) (hb : PVw X b fb) : PV X (.Compare a [.Lt] [b] pos) (bin2 ltD fa fb) := pv_cmp op_lt os_cmpI ha hb (nomark _)
theorem pv_le (ha : PVw X a fa) (hb : PVw X b fb) : PV X (.Compare a [.LtE] [b] pos) (bin2 leD fa fb) := pv_cmp op_le os_cmpI ha hb (nomark _)
theorem pv_ge (ha : PVw X a fa) (hb : PVw X b fb) : PV X (.Compare a [.GtE] [b] pos) (bin2 geD fa fb) := pv_cmp op_ge os_cmpI ha hb (nomark _)
theorem pt_lt (ha : PVw X a fa) (hb : PVw X b fb) : PTv X (.Compare a [.Lt] [b] pos) (testB (bin2 ltD fa fb)) := pt_cmpV op_lt os_cmpI ha hb (nomark _)
theorem pt_gt (ha : PVw X a fa) (hb : PVw X b fb) : PTv X (.Compare a [.Gt] [b] pos) (testB (bin2 gtD fa fb)) := pt_cmpV op_gt os_cmpI ha hb (nomark _)
theorem pt_ge (ha : PVw X a fa) (hb : PVw X b fb) : PTv X (.Compare a [.GtE] [b] pos) (testB (bin2 geD fa fb)) := pt_cmpV op_ge os_cmpI ha hb (nomark _)
theorem pv_addI (ha : PVw X a fa) (hb : PVw X b fb) : PV X (.BinOp a .Add b pos) (bin2 addD fa fb) := pv_bin op_addU os_add ha hb
theorem pv_subI (ha : PVw X a fa) (hb : PVw X b fb) : PV X (.BinOp a .Sub b pos) (bin2 subD fa fb) := pv_bin op_sub os_sub ha hb
theorem pv_mulI (ha : PVw X a fa) (hb : PVw X b fb) : PV X (.BinOp a .Mult b pos) (bin2 mulD fa fb) := pv_bin op_mulB os_mul ha hb
theorem pv_powI (ha : PVw X a fa) (hb : PVw X b fb) : PV X (.BinOp a .Pow b pos) (bin2 powD fa fb) := pv_bin op_powB os_pow ha hb
theorem pv_modI (ha : PVw X a fa) (hb : PVw X b fb) : PV X (.BinOp a .Mod b pos) (bin2 modD fa fb) := pv_bin op_mod os_mod ha hb
theorem pv_divI (ha : PVw X a fa) (hb : PVw X b fb) : PV X (.BinOp a .FloorDiv b pos) (bin2 fdivD fa fb) := pv_bin op_fdivB os_fdiv ha hb
end
end FL
namespace L2
open PySem PySem.Spec PyProof.Rows
section
variable {X : Cx} {tg : Expr}
theorem pi_seq {l : Expr} {tl : TE} (hl : PE X l tl) : PI X tg l (fun σ H R => iList X.K tl σ H R ∨ iTup X.K tl σ H R) := by
  intro pins s σ H R I h
  rcases h with h | h
  · exact pi_list hl pins s σ H R I h
  · exact pi_tup hl pins s σ H R I h
end
end L2
namespace FL
open PySem PySem.Spec PyProof.Rows L2
section
variable {X : Cx}
theorem piv_seq {tg e : Expr} {f : FE} (h : PV X e f) : PIv X tg e (viaA f asLT) := by
  obtain ⟨t, ht, hf⟩ := h
  refine ⟨_, pi_seq ht, fun H₀ H O σ ds hd items R o e q => ?_⟩
  unfold viaA at e
  obtain ⟨d, h1, e⟩ := bnd e
  cases d with
  | lst l =>
    cases e
    refine .inl (hf H₀ H O σ ds hd _ _ o h1 fun v H' s r => ?_)
    obtain ⟨a, xs, rfl, hs, rs⟩ := WRep.seqL (.inl r)
    exact ⟨a, rfl, ⟨xs, hs⟩, q _ (.ref a, .lst items) H' s r wlk_list⟩
  | tup l =>
    cases e
    refine .inr (hf H₀ H O σ ds hd _ _ o h1 fun v H' s r => ?_)
    obtain ⟨a, xs, rfl, hs, rs⟩ := WRep.seqT (.inl r)
    exact ⟨a, rfl, ⟨xs, hs⟩, q _ (.ref a, .tup items) H' s r wlk_tup⟩
  | _ => cases e
end
end FL
namespace L2
open PySem PySem.Spec PyProof.Rows
section
variable {X : Cx} {tg : Expr}
end
end L2
namespace FL
open PySem PySem.Spec PyProof.Rows L2
section
variable {X : Cx}
theorem ints_rep {K : Frag} {H : Hp} {O : Addr → Prop} : ∀ {xs : List V} {l : List D} {bs : List Int}, Reps K H O xs l → intsD l = some bs → xs = bs.map V.int
  | _, _, _, .nil, e => by cases e; rfl
  | _, _, bs, .cons (d := d) h t, e => by
    cases d with
    | int b =>
      rename_i ds
      simp only [intsD] at e
      obtain ⟨r, hr, rfl⟩ := mpd e
      cases h
      rw [ints_rep t hr]
      rfl
    | _ => cases e
end
end FL
namespace L2
open PySem PySem.Spec PyProof.Rows
section
variable {X : Cx} {pins : List (Addr × Obj)} {σ : St} {H : Hp} {s : Shared} {h' : Heap}
end
section
variable {X : Cx}
end
end L2
namespace FL
open PySem PySem.Spec PyProof.Rows L2
section
variable {X : Cx}
section
variable {scope : Scope} {NY : List Str} {mp : List (Option Nat)} {tg iter elt : Expr} {ifs : List Expr} {pos : Pos} {fi : FA} {ga : D → List Sl → Option (List Sl)} {tt : FT} {fe : FE}
end
end
end FL
namespace L2
open PySem PySem.Spec PyProof.Rows
section
variable {X : Cx}
end
end L2
namespace FL
open PySem PySem.Spec PyProof.Rows L2
section
variable {X : Cx}
end
end FL
namespace FL
open PySem PySem.Spec PyProof.Rows L2
section
variable {X : Cx}
end
end FL
namespace FL
open PySem PySem.Spec PyProof.Rows L2
section
variable {X : Cx}
end
end FL
namespace L2
open PySem PySem.Spec PyProof.Rows
section
variable {X : Cx}
end
end L2
namespace FL
open PySem PySem.Spec PyProof.Rows L2
section
variable {X : Cx}
end
end FL
namespace L2
open PySem PySem.Spec PyProof.Rows
section
variable {X : Cx}
end
end L2
namespace FL
open PySem PySem.Spec PyProof.Rows L2
section
variable {X : Cx}
theorem PVd.v {e : Expr} {f : FE} (h : PVd X e f) : PV X e f := by
  obtain ⟨t, ht, hf⟩ := h
  exact ⟨t, ht, fun H₀ H O σ ds hd d Q o e q => hf H₀ H O σ ds hd d Q o e fun v H' s r => q v H' s (r.less fun a z => o.old z)⟩
section
variable {m : Str} {k j n : Nat} {cs : List Nat} {F : Nat → List D → Option Ret} {o e : Expr} {es : List Expr} {apos pos : Pos} {fo : FE} {g : FA}
end
end
end FL
namespace FL
open PySem PySem.Spec PyProof.Rows L2
noncomputable def eH : Hp := fun _ => none
def Keepx (x : Addr) (H H' : Hp) : Prop := ∀ b o, b ≠ x → H b = some o → H' b = some o
theorem Keepx.trans {x : Addr} {H H1 H2 : Hp} (a : Keepx x H H1) (b : Keepx x H1 H2) : Keepx x H H2 := fun c o n e => b c o n (a c o n e)
theorem Keepx.of_same {x : Addr} {H H1 : Hp} (s : Same H H1) : Keepx x H H1 := fun c o _ e => s c o e
section
variable {K : Frag} {H H' : Hp} {O : Addr → Prop} {x : Addr}
end
section
variable {X : Cx}
end
section
variable {X : Cx} {t k j n : Nat} {G : List D → Option (List D)} {x : Str} {p pos : Pos} {e : Expr} {es : List Expr} {g : FA}
end
section
variable {X : Cx}
end
section
variable {X : Cx}
end
end FL
namespace FL
open PySem PySem.Spec PyProof.Rows L2
section
variable {X : Cx}
end
section
variable {X : Cx} {k j n : Nat} {F : List D → Option Ret} {x : Str} {p pos : Pos} {e : Expr} {es : List Expr} {g : FA}
end
end FL
namespace PySem
open Sem (wp)
section
variable {prog : Program} {w : World} {A : Around} {R : Result → Shared → Prop} {I : Addr} {fp wr : List Addr} {n : Nat} {P : Nat → Value → Prop} {St : Nat → Heap → Prop} {kw : List (Str × Value)}
end
section
variable {prog : Program} {w : World} {A : Around} {E : Value → Shared → Prop} {s : Shared}
end
end PySem
namespace FL
open PySem PySem.Spec PyProof.Rows L2
section
variable {X : Cx}
end
end FL
namespace FL
open PySem PySem.Spec PyProof.Rows L2
open PySem.Calls PySem.Builtin PySem.Builtin.ObjectAttr PySem.Builtin.Getset_descriptor
open PySem.W (Looks looks_findIn looks_mroIn findIn mroIn specialIn takesIn KitX)
section
variable {prog : Program} {w : World} {A : Around} {E : Value → Shared → Prop} {h : Heap} {g : Array GenState} {d : Drawn} {t : Nat} {os : OsState} {a C : Addr} {o : Obj} {K : Frag}
end
end FL
namespace FL
open PySem PySem.Spec PyProof.Rows L2
def Fl2 (B : Heap) (l : List Env) (e : Addr) (cls a0 fl : Value) (h : Heap) : Prop := B.StaysIn h ∧ B.get? e = none ∧ h.FunFrames B l ∧
  ∃ oe vs T oT ts, h.get? e = some oe ∧ (oe.cls = cls ∧ vs[0]? = some a0 ∧ vs[2]? = some .none) ∧ oe.data = .fields vs ∧ vs[1]? = some (.ref T) ∧ B.get? T = none ∧ T ≠ e ∧ h.get? T = some oT ∧ oT.data = .fields ts ∧ ts[3]? = some fl
section
variable {M : Model} {A : Around} {E : Value → Shared → Prop} {s : Shared} {B : Heap} {l outer : List Env} {env : Env} {e L : Addr} {cls a0 fl : Value} {oe : Obj} {vs : Array Value} {Q : Unit → Shared → Prop}
theorem Fl2.tail (R : Fl2 B (env :: outer) e cls a0 fl s.heap) : Fl2 B outer e cls a0 fl s.heap := let ⟨k1, k2, ⟨_, _, k3⟩, k4⟩ := R; ⟨k1, k2, k3, k4⟩
end
end FL
namespace FL
open PySem PySem.Spec PyProof.Rows L2
open PySem.W (hideAll hideAll_get of_hideAll hideAll_none funFrames_hide excIn tail_of_in nsMap_none_of_in isNs_of_in)
theorem obj_get {P : Program} {w : World} {H : Hp} {h : Heap} {a : Addr} {o : HO} (x : ObjOk P w H h a o) : ∃ u, h.get? a = some u := by
  cases o with
  | lst xs => obtain ⟨_, _, _, _, e⟩ := x; exact ⟨_, e⟩
  | tup xs => obtain ⟨_, _, _, _, e, _⟩ := x; exact ⟨_, e⟩
  | dK kvs => obtain ⟨_, _, _, _, o, _, _, e, _⟩ := x; exact ⟨_, e⟩
  | dT kvs => obtain ⟨_, _, _, _, o, _, _, e, _⟩ := x; exact ⟨_, e⟩
  | set S n => obtain ⟨o, _, _, _, e, _⟩ := x; exact ⟨_, e⟩
  | ins C dx fs => obtain ⟨_, _, _, e, _⟩ := x; exact ⟨_, e⟩
  | own y => obtain ⟨_, e⟩ := x; exact ⟨_, e⟩
  | xd fs => obtain ⟨_, ⟨_, _, _, e, _⟩, _⟩ := x; exact ⟨_, e⟩
  | rng lo hi => obtain ⟨_, _, _, e⟩ := x; exact ⟨_, e⟩
  | frz ob u => obtain ⟨e, _⟩ := x; exact ⟨_, e⟩
  | tbl ps => obtain ⟨_, e, _⟩ := x; exact ⟨_, e⟩
  | met f y => exact ⟨_, (show h.get? a = some _ from x)⟩
  | ext φ => obtain ⟨_, ⟨_, e⟩, _⟩ := x; exact ⟨_, e⟩
structure Thrown (P : Program) (w : World) (outer : List Env) (H : Hp) (s : Shared) (cls : Value) (ea : Addr) (a0 : Value) (B : Heap) (H' : Hp) (h : Heap) : Prop where
  fly : Fl2 B outer ea cls a0 .none h
  keep : ∀ b o, s.heap.get? b = some o → H b = none → b ∉ frs outer → B.get? b = some o
  there : ∀ b o, s.heap.get? b = some o → b ∉ frs outer → ∃ o', B.get? b = some o'
  slot : ∀ b o, s.heap.get? b = some o → b ∈ frs outer → ∃ sl, h.get? b = some { o with slots := sl }
  free : ∀ b o, s.heap.get? b = some o → H b = none → H' b = none
  tups : ∀ b xs, H b = some (.tup xs) → H' b = some (.tup xs)
  frzs : ∀ b o u, H b = some (.frz o u) → H' b = some (.frz o u)
  tbls : ∀ b ps, H b = some (.tbl ps) → H' b = some (.tbl ps)
  hok : L2.HOk P w H' B
section
variable {P : Program} {w : World} {outer : List Env} {H H' : Hp} {s : Shared} {cls a0 : Value} {ea : Addr} {B h h' : Heap}
theorem Thrown.un (t : Thrown P w outer H s cls ea a0 B H' h) : Un (frs outer) [] H H' s.heap h where
  keep := fun b o e n hb _ => t.fly.1 b o (t.keep b o e n hb)
  slot := fun b o e n hb _ => t.slot b o e hb
  free := fun b o e n _ => t.free b o e n
  there := fun b o e _ => by
    by_cases hb : b ∈ frs outer
    · obtain ⟨sl, q⟩ := t.slot b o e hb; exact ⟨_, q⟩
    · obtain ⟨o', q⟩ := t.there b o e hb; exact ⟨o', t.fly.1 b o' q⟩
  tups := t.tups
  frzs := t.frzs
  tbls := t.tbls
theorem Thrown.no (t : Thrown P w outer H s cls ea a0 B H' h) : H' ea = none := by
  cases q : H' ea with
  | none => rfl
  | some u =>
    obtain ⟨o, e⟩ := obj_get (t.hok _ _ q)
    rw [t.fly.2.1] at e; cases e
end
section
variable (X : Cx) (C : Addr)
end
section
variable {X : Cx} {C : Addr}
end
end FL
namespace FL
open PySem PySem.Spec PyProof.Rows L2
open PySem.W (Looks looks_mroIn mroIn)
section
variable {X : Cx} {pins : List (Addr × Obj)} {σ : L2.St} {H : Hp} {s : Shared} {ea : Addr} {oe : Obj} {xe : Value → Shared → Prop}
end
section
variable {X : Cx} {k j n : Nat} {R : List D → Bool} {C : Addr} {x : Str} {p pos : Pos} {e : Expr} {es : List Expr} {g : FA}
end
end FL
namespace FL
open PySem PySem.Spec PyProof.Rows L2
open PySem.W (Looks looks_mroIn mroIn clsIn)
section
variable {prog : Program} {w : World} {A : Around} {E : Value → Shared → Prop} {h : Heap} {g : Array GenState} {d : Drawn} {t : Nat} {os : OsState} {a C S : Addr} {o : Obj} {K : Frag}
end
section
variable {X : Cx}
end
end FL
namespace FL
open PySem PySem.Spec PyProof.Rows L2
section
variable {X : Cx}
section
variable {en : Str} {i : Nat} {p pe pT pos : Pos} {tb : List (Nat × Bool)}
end
end
end FL
namespace FL
open PySem PySem.Spec PyProof.Rows L2
section
variable {X : Cx} {m : Str} {k j : Nat} {cs : List Nat} {F : Nat → List D → Option Ret} {o : Expr} {apos pos : Pos} {fo : FE}
end
section
variable {X : Cx} {C : Addr} {x : Str} {p pos : Pos}
end
end FL
namespace FL
open PySem PySem.Spec PyProof.Rows L2
section
variable {K : Frag} {H : Hp} {O : Addr → Prop} {a : Addr} {xs ys : List V}
end
section
variable {X : Cx}
end
end FL
namespace FL
open PySem PySem.Spec PyProof.Rows L2
section
variable (X : Cx) (E : XK) (C : Addr)
def PSsAny (st : List Stmt) : Prop := ∃ t, PSs X st t
end
section
variable {X : Cx} {E : XK} {C : Addr}
theorem PSsv.any {st : List Stmt} {g : FS} (h : PSsv X st g) : PSsAny X st := let ⟨t, ht, _⟩ := h; ⟨t, ht⟩
section
variable {k j n : Nat} {R : List D → Bool} {x : Str} {p pos : Pos} {e : Expr} {es : List Expr} {g : FA}
end
end
section
variable {X : Cx} {E : XK} {C : Addr} {t k j n : Nat} {R : List D → Bool} {x : Str} {p pos : Pos} {e : Expr} {es : List Expr} {g : FA}
end
section
variable {X : Cx}
end
end FL
namespace FL
open PySem PySem.Spec PyProof.Rows L2
structure RoomH (k : Nat) (A : Around) : Prop where
  dp : A.depth + 3 * k + 5 < recursionLimit
  un : A.units + 16 * k + 200 < cLine
theorem RoomH.of {k : Nat} {A : Around} {v : Option Value} (r : Room k A) : RoomH k (A.mark v) := ⟨r.dp, r.un⟩
theorem RoomH.mono {j k : Nat} {A : Around} (r : RoomH k A) (h : j ≤ k) : RoomH j A := ⟨by have := r.dp; omega, by have := r.un; omega⟩
theorem RoomH.depth {k : Nat} {A : Around} (r : RoomH k A) : A.depth < recursionLimit := by have := r.dp; omega
section
variable {X : Cx} {k j i : Nat} {F : Nat → Option Ret} {x en : Str} {p pe pos : Pos}
end
end FL
namespace L2
open PySem PySem.Spec PyProof.Rows
section
variable {X : Cx}
end
end L2
namespace FL
open PySem PySem.Spec PyProof.Rows L2
section
variable {X : Cx}
end
end FL
namespace FL
open PySem PySem.Spec PyProof.Rows L2
section
variable {X : Cx}
variable (X) in
def PVe (e : Expr) (f : FE) : Prop := ∃ t, PE X e t ∧ ∀ H₀ H O σ ds hd d Q, Ok X.K H₀ H O σ ds hd → f ds = some d → (∀ v H', Same H H' → Rep X.K H' (Old H₀) v d → Q v H') → t σ H Q
variable (X) in
def PAe (es : List Expr) (f : FA) : Prop := ∃ t, PA X es t ∧ ∀ H₀ H O σ ds hd l Q, Ok X.K H₀ H O σ ds hd → f ds = some l → (∀ vs H', Same H H' → Reps X.K H' (Old H₀) vs l → Q vs H') → t σ H Q
theorem PVd.e {e : Expr} {f : FE} (h : PVd X e f) : PVe X e f := by
  obtain ⟨t, ht, hf⟩ := h
  exact ⟨t, ht, fun H₀ H O σ ds hd d Q o e q => hf H₀ H O σ ds hd d Q o e fun v H' s r => q v H' s (r.less fun a z => Old.mono o.same z)⟩
theorem PVf.d {e : Expr} {f : FA} (h : PVf X e f) : PVd X e (mkL (flA f)) := by
  obtain ⟨t, ht, hf⟩ := h
  refine ⟨t, ht, fun H₀ H O σ ds hd d Q o e q => ?_⟩
  unfold mkL flA at e
  cases h1 : f ds with
  | none => rw [h1] at e; cases e
  | some l =>
    rw [h1] at e
    simp only [Option.bind_some] at e
    split at e
    · rename_i hfl
      cases e
      refine hf H₀ H O σ ds hd l _ o h1 fun a xs H' s hn he r => q _ H' s ?_
      exact .lst (not_old hn) (.inl he) (Reps.flatten (fun b z => Old.mono s z) hfl r)
    · cases e
theorem pve_own (i : Nat) {x : Str} {pos : Pos} (hN : X.N[i]? = some x := by rfl) (hv : Vis X.env.scope x := by first | exact Or.inl rfl | exact Or.inr (Or.inl rfl) | exact Or.inr (Or.inr rfl)) (hd : (x == ("__debug__" : Str)) = false := by decide)
    (hcd : (x == ("__classdict__" : Str)) = false := by decide) : PVe X (.Name x pos) (getO i) := by
  refine ⟨_, pe_var hN hv hd hcd, fun H₀ H O σ ds hd d Q o e q => ?_⟩
  unfold getO at e
  cases hs : ds[i]? with
  | none => rw [hs] at e; cases e
  | some s =>
    rw [hs] at e
    cases s with
    | own l =>
      simp only at e
      split at e
      · rename_i hfl
        cases e
        obtain ⟨a, xs, h1, h2, h3, h4⟩ := o.readO hs
        have h0 : H₀ a = none := o.fresh i l a hs h1
        exact ⟨_, h1, q _ H (Same.refl _) (.lst (not_old h0) (.inl h3) (Reps.flatten (fun b z => Old.mono o.same z) hfl h4))⟩
      · cases e
    | no => cases e
    | v d => cases e
    | exc t => cases e
    | fr l => cases e
    | ob _ _ => cases e
theorem pae_nil : PAe X [] nilA := ⟨_, pa_nil, fun _ H _ _ _ _ _ _ _ e q => by cases e; exact q _ H (Same.refl _) .nil⟩
theorem pae_cons {e : Expr} {es : List Expr} {f : FE} {g : FA} (ha : PVe X e f) (hr : PAe X es g) (hs : starEach (e :: es) X.env = (false, eval e X.env) :: starEach es X.env := by rfl) : PAe X (e :: es) (consA f g) := by
  obtain ⟨t, ht, hf⟩ := ha
  obtain ⟨u, hu, hg⟩ := hr
  refine ⟨_, pa_cons ht hu hs, fun H₀ H O σ ds hd l Q o e q => ?_⟩
  unfold consA at e
  obtain ⟨x, h, e⟩ := bnd e
  obtain ⟨r, h2, rfl⟩ := mpd e
  refine hf H₀ H O σ ds hd x _ o h fun v H1 s1 r1 => ?_
  refine hg H₀ H1 O σ ds hd r _ (o.mono s1) h2 fun vs H2 s2 r2 => ?_
  exact q _ H2 (s1.trans s2) (.cons (r1.mono s2) r2)
theorem pve_tup {es : List Expr} {x1} {pos : Pos} {g : FA} (h : PAe X es g) : PVe X (.Tuple es x1 pos) (mkT (sized g)) := by
  obtain ⟨t, ht, hf⟩ := h
  refine ⟨_, pe_tup ht, fun H₀ H O σ ds hd d Q o e q => ?_⟩
  unfold mkT sized at e
  cases h : g ds with
  | none => rw [h] at e; cases e
  | some l' =>
    rw [h] at e
    simp only [Option.bind_some] at e
    split at e
    · rename_i hl
      cases e
      refine hf H₀ H O σ ds hd l' _ o h fun vs H1 s1 r1 => ⟨by rw [r1.length]; exact hl, fun p hp => ?_⟩
      refine q _ _ (s1.trans (same_upd hp _)) ?_
      exact .tup (not_old ((o.same.trans s1).free hp)) (.inl upd_same) (r1.mono (same_upd hp _))
    · cases e
theorem psv_retE {e : Expr} {pos : Pos} {f : FE} (he : PVe X e f) : PSv X (.Return (some e) pos) (retDG f) := by
  obtain ⟨t, ht, hg⟩ := he
  refine ⟨_, ps_ret ht, fun H₀ H O σ ds hd out E o e h => ?_⟩
  unfold retDG at e
  obtain ⟨d, h1, rfl⟩ := mpd e
  exact hg H₀ H O σ ds hd d _ o h1 fun v H' s r => h _ _ (o.same.trans s) r True.intro
end
end FL
namespace L2
open PySem PySem.Spec PyProof.Rows
section
variable {X : Cx}
theorem vals_nums : ∀ {us : List Value} {ns : List Int}, IntsAre us ns → Vals (ns.map V.int) us
  | _, _, .nil => .nil
  | _, _, .cons n t h => .cons ⟨t, rfl⟩ (vals_nums h)
end
end L2
namespace FL
open PySem PySem.Spec PyProof.Rows L2
section
variable {X : Cx}
theorem reps_ints {K : Frag} {H : Hp} {O : Addr → Prop} : ∀ ns : List Int, Reps K H O (ns.map V.int) (ns.map D.int)
  | [] => .nil
  | n :: ns => .cons (.int n) (reps_ints ns)
end
end FL
namespace L2
open PySem PySem.Spec PyProof.Rows
section
variable {prog : Program} {w : World} {A : Around} {E : Value → Shared → Prop} {s : Shared}
end
section
variable {X : Cx}
end
end L2
namespace FL
open PySem PySem.Spec PyProof.Rows L2
section
variable {X : Cx}
end
end FL
namespace FL
open PySem PySem.Spec PyProof.Rows L2
open PySem.W (tabIn CodeHd tabObj kla_eval kla_makeFunction kla_makeFunctionHit kla_obj kla_fn kla_callFunE kla_codeExpr FnAt callWith_F envX)
theorem codeAmong_app {pos : Pos} {a b : Nat} {c v : Value} : ∀ (l : List Value), TriplesOk l → codeAmong pos (l ++ [rawInt a, rawInt b, c]) = some v → codeAmong pos l = some v ∨ (v = c ∧ pos.line = a ∧ pos.col = b) := by
  intro l h
  fun_induction TriplesOk l with
  | case1 =>
    intro e
    simp only [List.nil_append, codeAmong, rawInt] at e
    split at e
    · rename_i hc
      cases e
      simp only [Bool.and_eq_true, beq_iff_eq] at hc
      exact .inr ⟨rfl, by omega, by omega⟩
    · cases e
  | case2 a' t b' u x rest ih =>
    intro e
    simp only [List.cons_append, codeAmong] at e ⊢
    split at e
    · rename_i hc
      rw [if_pos hc]; exact .inl e
    · rename_i hc
      rw [if_neg hc]; exact ih h e
  | case3 l h1 h2 => exact h.elim
theorem closL_mem {env : Env} : ∀ (l : List (Str × NameKind)) (cs : List (Str × Addr)), ∀ p ∈ closL env l cs, p ∈ cs ∨ (env.cells.lookup p.1 = some p.2 ∧ (p.1, NameKind.free) ∈ l)
  | [], _, _, h => .inl h
  | (n, k) :: r, cs, p, h => by
    unfold closL at h
    rcases closL_mem r _ p h with h1 | h1
    · split at h1
      · rename_i hk
        cases hc : env.cells.lookup n with
        | none => rw [hc] at h1; exact .inl h1
        | some c =>
          rw [hc] at h1
          rcases List.mem_cons.mp h1 with rfl | h1
          · refine .inr ⟨hc, ?_⟩
            rw [beq_iff_eq.mp hk]
            exact List.mem_cons_self
          · exact .inl h1
      · exact .inl h1
    · exact .inr ⟨h1.1, List.mem_cons_of_mem _ h1.2⟩
theorem freeR_cons (n : Str) (k : NameKind) (r : List (Str × NameKind)) : freeR ((n, k) :: r) = if k == NameKind.free then freeR r ++ [n] else freeR r := by
  unfold freeR
  rw [List.filter_cons]
  by_cases hk : (k == NameKind.free) = true
  · simp [hk]
  · simp [hk]
theorem closL_names {env : Env} : ∀ (l : List (Str × NameKind)) (cs : List (Str × Addr)), (∀ y ∈ l, y.2 = NameKind.free → ∃ c, env.cells.lookup y.1 = some c) → (closL env l cs).map (·.1) = freeR l ++ cs.map (·.1)
  | [], _, _ => rfl
  | (n, k) :: r, cs, h => by
    unfold closL
    rw [closL_names r _ fun y hy => h y (List.mem_cons_of_mem _ hy), freeR_cons]
    by_cases hk : (k == NameKind.free) = true
    · obtain ⟨c, hc⟩ := h (n, k) List.mem_cons_self (beq_iff_eq.mp hk)
      have hc : env.cells.lookup n = some c := hc
      rw [if_pos hk, if_pos hk, hc]
      simp
    · rw [if_neg hk, if_neg hk]
theorem nodup_snd : ∀ {cl : List (Str × Addr)}, (cl.map (·.1)).Nodup → (∀ p ∈ cl, ∀ q ∈ cl, p.2 = q.2 → p.1 = q.1) → (cl.map (·.2)).Nodup
  | [], _, _ => List.nodup_nil
  | p :: r, h, k => by
    rw [List.map_cons, List.nodup_cons] at h ⊢
    refine ⟨fun z => ?_, nodup_snd h.2 fun a ha b hb => k a (List.mem_cons_of_mem _ ha) b (List.mem_cons_of_mem _ hb)⟩
    obtain ⟨q, hq, e⟩ := List.mem_map.mp z
    exact h.1 (List.mem_map.mpr ⟨q, hq, k q (List.mem_cons_of_mem _ hq) p List.mem_cons_self e⟩)
abbrev exT : HO := .ext fun _ => True
section
variable {X : Cx}
theorem pe_lam {params : Arguments} {body : Expr} {scope : Scope} {pos : Pos} {x : Str} {c P : Addr} (hx : x ∈ makers) (ht : tabIn X.K x = some (c, P)) (hcode : X.env.code = .ref c) (hq : innerQ X.K x pos.line pos.col = X.env.qual ++ "<lambda>")
    (hdef : defaultsOf params X.env = ([], []) := by rfl) (hfree : ∀ y ∈ scope.names, y.2 = NameKind.free → (X.env.kindOf y.1 = some .cell ∨ X.env.kindOf y.1 = some .free)) :
    PE X (.Lambda params body scope pos) (fun _ H Q => ∀ f H1, Same H H1 → LamAt H1 none0 f ⟨X.env.qual ++ "<lambda>", params, .expr body, scope⟩ (closL X.env scope.names []) → Q (.ref f) H1) := by
  intro pins s σ H Q I h
  refine kla_eval hdef ?_
  obtain ⟨⟨bm, ob, b1, b2, b3, b4, b5, b6⟩, tb⟩ := I.tabsH
  obtain ⟨C, hP⟩ := tb x c P hx ht
  obtain ⟨ps, hPo, tr, am⟩ := I.hok P _ hP
  have hcl : closureFor scope X.env = pure (closL X.env scope.names []) := closureFor_of fun y hy hk => I.ok.has y.1 (hfree y hy hk)
  have hgs : s.heap.Ns mainGlobals X.mg := I.mod.glob.keeps I.bk
  have hgP : mainGlobals ≠ P := fun z => by
    obtain ⟨o, es, ep, e, hd, _⟩ := hgs
    rw [z, hPo] at e; cases e; cases hd
  have hbP : bm ≠ P := fun z => by
    have e := I.bk _ _ b3
    rw [z, hPo] at e; cases e; cases b4
  have hbG : bm ≠ mainGlobals := fun z => by
    obtain ⟨o, es, ep, e, hd, _⟩ := hgs
    have e2 := I.bk _ _ b3
    rw [z, e] at e2; cases e2; rw [hd] at b6; cases b6
  have hB : s.heap.BuiltinsAt X.mg P := ⟨bm, ob, b1, b2, hbG, hbP, I.bk _ _ b3, b4, b5, b6⟩
  cases hit : codeAmong pos ps.toList with
  | none =>
    refine kla_makeFunction (mg := X.mg) hcl I.ok.glob hgs hcode (C.keeps I.bk) hPo tr hit hgP hB fun c' ctv h' tk hx' hge hlt hrec htb => ?_
    obtain ⟨c₂, oc, vs, tq, e2, hoc, hd, hv⟩ := hrec
    cases e2
    generalize hob : kla_obj "<lambda>" (X.env.qual ++ "<lambda>") params body scope (closL X.env scope.names []) ((X.mg "__name__").getD .none) c' ctv = of
    have hfr : of.isFreed = false := by rw [← hob]; rfl
    have nc : H c' = none := I.hok.fresh hge
    have nf : H h'.objs.size = none := I.hok.fresh (Nat.le_of_lt (Nat.lt_of_le_of_lt hge hlt))
    have ncf : c' ≠ h'.objs.size := Nat.ne_of_lt hlt
    have kp : ∀ b o, b ≠ P → s.heap.get? b = some o → (h'.push of).get? b = some o := fun b o hb e => Heap.get?_push_of_some _ (hx' b o hb e)
    have h1 : ∀ {b : Addr} {u : HO}, H b = some u → upd (upd H c' (.frz oc exT)) h'.objs.size (.frz of exT) b = some u := fun {b u} e => by
      rw [upd_ne (ne_of_none e nf), upd_ne (ne_of_none e nc)]; exact e
    have hf1 : upd (upd H c' (.frz oc exT)) h'.objs.size (.frz of exT) h'.objs.size = some (.frz of exT) := upd_same
    have hc1 : upd (upd H c' (.frz oc exT)) h'.objs.size (.frz of exT) c' = some (.frz oc exT) := by rw [upd_ne ncf, upd_same]
    have nP : ∀ {b : Addr}, H b = none → b ≠ P := fun {b} n z => by rw [z, hP] at n; cases n
    have U : Un X.fs [] H (upd (upd H c' (.frz oc exT)) h'.objs.size (.frz of exT)) s.heap (h'.push of) := by
      refine ⟨fun b o e n _ _ => kp b o (nP n) e, fun b o e n _ _ => ⟨o.slots, kp b o (nP n) e⟩, fun b o e n _ => ?_, fun b o e _ => ?_, fun b xs e => h1 e, fun b o u e => h1 e, fun b q e => h1 e⟩
      · have lt := Heap.lt_size e
        rw [upd_ne (Nat.ne_of_lt (Nat.lt_trans (Nat.lt_of_lt_of_le lt hge) hlt)), upd_ne (Nat.ne_of_lt (Nat.lt_of_lt_of_le lt hge))]
        exact n
      · by_cases hb : b = P
        · subst hb; exact ⟨_, Heap.get?_push_of_some _ htb⟩
        · exact ⟨o, kp b o hb e⟩
    have hok : L2.HOk X.prog X.w (upd (upd H c' (.frz oc exT)) h'.objs.size (.frz of exT)) (h'.push of) := fun b u e => by
      by_cases hbf : b = h'.objs.size
      · subst hbf
        rw [hf1] at e; cases e
        exact ⟨Heap.get?_push_size _ hfr, trivial, ⟨_, Heap.get?_push_size _ hfr⟩, fun _ _ _ _ => trivial⟩
      rw [upd_ne hbf] at e
      by_cases hbc : b = c'
      · subst hbc
        rw [upd_same] at e; cases e
        exact ⟨Heap.get?_push_of_some _ hoc, trivial, ⟨_, Heap.get?_push_of_some _ hoc⟩, fun _ _ _ _ => trivial⟩
      rw [upd_ne hbc] at e
      by_cases hbP : b = P
      · subst hbP
        rw [hP] at e; cases e
        refine ⟨_, Heap.get?_push_of_some _ htb, ?_, fun pos' v z => ?_⟩
        · rw [Array.toList_append]
          exact TriplesOk_snoc _ _ _ _ tr
        · rw [Array.toList_append] at z
          rcases codeAmong_app _ tr z with z | ⟨rfl, e1, e2⟩
          · obtain ⟨c3, o3, u3, vs3, t3, g1, g2, g3, g4⟩ := am pos' v z
            exact ⟨c3, o3, u3, vs3, t3, g1, h1 g2, g3, g4⟩
          · exact ⟨c', oc, exT, vs, tq, rfl, hc1, hd, by rw [e1, e2, hq]; exact hv⟩
      · refine (I.hok b u e).stay (fun c3 v3 hc3 r3 => kp c3 v3 ?_ r3) (fun c3 r3 => h1 r3) fun c3 xs3 r3 => h1 r3
        rcases hc3 with rfl | hc3
        · exact hbP
        · rintro rfl; rw [hP] at hc3; cases hc3
    refine ⟨.ref h'.objs.size, _, I.un (t' := tk) U hok, rfl, h _ _ (fun b u e => h1 e) ?_⟩
    subst hob
    exact ⟨id, _, oc, _, _, _, c', vs, tq, hf1, rfl, rfl, rfl, rfl, rfl, rfl, rfl, rfl, rfl, rfl, rfl, rfl, id, hc1, hd, hv⟩
  | some cv =>
    obtain ⟨c', oc, uc, vs, tq, rfl, hc', hd, hv⟩ := am pos cv hit
    refine kla_makeFunctionHit (mg := X.mg) hcl I.ok.glob hgs hcode (C.keeps I.bk) hPo tr hit hB fun ctv h' tk hk hsz => ?_
    generalize hob : ({ cls := .type "function", data := .func (kla_fn "<lambda>" (X.env.qual ++ "<lambda>") params body scope (closL X.env scope.names []) ((X.mg "__name__").getD .none) (.ref c') ctv) } : Obj) = of
    have hfr : of.isFreed = false := by rw [← hob]; rfl
    have nf : H h'.objs.size = none := I.hok.fresh hsz
    have h1 : ∀ {b : Addr} {u : HO}, H b = some u → upd H h'.objs.size (.frz of exT) b = some u := fun {b u} e => by
      rw [upd_ne (ne_of_none e nf)]; exact e
    refine ⟨.ref h'.objs.size, upd H h'.objs.size (.frz of exT), I.laid (t' := tk) (fun b u e => Heap.get?_push_of_some _ (hk b u e)) hsz ?_, rfl, h _ _ (fun b u e => h1 e) ?_⟩
    · exact ⟨Heap.get?_push_size _ hfr, trivial, ⟨_, Heap.get?_push_size _ hfr⟩, fun _ _ _ _ => trivial⟩
    · subst hob
      exact ⟨id, _, oc, _, _, _, c', vs, tq, upd_same, rfl, rfl, rfl, rfl, rfl, rfl, rfl, rfl, rfl, rfl, rfl, rfl, id, h1 hc', hd, by rw [hq] at hv; exact hv⟩
end
noncomputable def lend (h : Heap) (cs : List Addr) (H : Hp) : Hp := fun b => if b ∈ cs then (h.get? b).map fun o => .frz o exT else H b
noncomputable def unlend (cs : List Addr) (H : Hp) : Hp := fun b => if b ∈ cs then none else H b
theorem unlend_ne {cs : List Addr} {H : Hp} {b : Addr} (h : b ∉ cs) : unlend cs H b = H b := by unfold unlend; rw [if_neg h]
theorem unlend_in {cs : List Addr} {H : Hp} {b : Addr} (h : b ∈ cs) : unlend cs H b = none := by unfold unlend; rw [if_pos h]
theorem lend_ne {h : Heap} {cs : List Addr} {H : Hp} {b : Addr} (hb : b ∉ cs) : lend h cs H b = H b := by unfold lend; rw [if_neg hb]
theorem lend_in {h : Heap} {cs : List Addr} {H : Hp} {b : Addr} {o : Obj} (hb : b ∈ cs) (e : h.get? b = some o) : lend h cs H b = some (.frz o exT) := by unfold lend; rw [if_pos hb, e]; rfl
section
variable {X : Cx} {pins : List (Addr × Obj)} {σ : L2.St} {H H' : Hp} {s s' : Shared} {cs : List Addr}
theorem lend_ok (I : Inv X pins σ H s) (hcs : ∀ c ∈ cs, ∃ x, X.env.cells.lookup x = some c) (hfn : ∀ x, X.fn x = true) :
    Env0 X.prog X.w X.K X.mg X.base X.A X.stack s (lend s.heap cs H) ∧ Same H (lend s.heap cs H) ∧ ∀ c ∈ cs, H c = none ∧ ∃ o v, s.heap.get? c = some o ∧ o.data = .cell v := by
  have ci : ∀ c ∈ cs, H c = none ∧ (∃ o v, s.heap.get? c = some o ∧ o.data = .cell v) ∧ X.s₀.heap.objs.size ≤ c ∧ c ≠ X.env.locals := fun c hc => by
    obtain ⟨x, hx⟩ := hcs c hc
    obtain ⟨v, o, ho, hd⟩ := I.cell x c hx
    exact ⟨(I.freeC x c hx).now (hfn x), ⟨o, v, ho, hd⟩, I.ok.cab x c (hfn x) hx, I.cne x c hx⟩
  have nin : ∀ {b : Addr} {u : HO}, H b = some u → b ∉ cs := fun {b u} e z => by rw [(ci b z).1] at e; cases e
  have sm : Same H (lend s.heap cs H) := fun b u e => by rw [lend_ne (nin e)]; exact e
  refine ⟨⟨I.ok.frames, I.ok.mod, fun b o e => ?_, ⟨Nat.le_trans I.ok.bsz.1 I.sz, I.tabsH.bm, fun x c P hx ht => ⟨(I.tabsH.tab x c P hx ht).1, sm _ _ (I.tabsH.tab x c P hx ht).2⟩⟩, I.stack, fun b hb => ?_, fun b u e => ?_, I.bare⟩, sm, fun c hc => ⟨(ci c hc).1, (ci c hc).2.1⟩⟩
  · obtain ⟨e1, e2⟩ := I.bs b o e
    refine ⟨e1, ?_⟩
    rw [lend_ne fun z => ?_]
    · exact e2
    · exact absurd (Nat.lt_of_lt_of_le (Heap.lt_size e) (Nat.le_trans I.ok.bsz.1 (ci b z).2.2.1)) (Nat.lt_irrefl _)
  · rw [lend_ne fun z => ?_]
    · exact I.stkFree b hb
    · rcases List.mem_cons.mp (I.stkSub b hb) with e | e
      · exact (ci b z).2.2.2 e
      · obtain ⟨_, o, ho, _⟩ := I.ok.funs.mem e
        exact absurd (Nat.lt_of_lt_of_le (Heap.lt_size ho) (ci b z).2.2.1) (Nat.lt_irrefl _)
  · by_cases hb : b ∈ cs
    · obtain ⟨o, v, ho, _⟩ := (ci b hb).2.1
      rw [lend_in hb ho] at e
      cases e
      exact ⟨ho, trivial, ⟨_, ho⟩, fun _ _ _ _ => trivial⟩
    · rw [lend_ne hb] at e
      exact (I.hok b u e).stay (fun _ _ _ q => q) (fun c q => sm _ _ q) fun c xs q => sm _ _ q
theorem lend_back {P : Program} {w : World} {fs : List Addr} (hc : ∀ c ∈ cs, H c = none ∧ ∃ o v, s.heap.get? c = some o ∧ o.data = .cell v) (un : Un fs [] (lend s.heap cs H) H' s.heap s'.heap) (hok : L2.HOk P w H' s'.heap) :
    Un fs [] H (unlend cs H') s.heap s'.heap ∧ L2.HOk P w (unlend cs H') s'.heap ∧ ∀ c ∈ cs, ∃ o v, H' c = some (.frz o exT) ∧ o.data = .cell v := by
  have ci : ∀ c ∈ cs, ∃ o v, H' c = some (.frz o exT) ∧ s.heap.get? c = some o ∧ s'.heap.get? c = some o ∧ o.data = .cell v := fun c h => by
    obtain ⟨_, o, v, ho, hd⟩ := hc c h
    have e := un.frzs c o exT (lend_in h ho)
    exact ⟨o, v, e, ho, (hok c _ e).1, hd⟩
  have nin : ∀ {b : Addr} {u : HO}, H b = some u → b ∉ cs := fun {b u} e z => by rw [(hc b z).1] at e; cases e
  have nin' : ∀ {b : Addr} {u : HO}, H' b = some u → (∀ o v, u = .frz o exT → o.data ≠ .cell v) → b ∉ cs := fun {b u} e k z => by
    obtain ⟨o, v, e1, _, _, hd⟩ := ci b z
    rw [e] at e1; cases e1
    exact k o v rfl hd
  refine ⟨⟨fun b o e n hb hx => ?_, fun b o e n hb hx => ?_, fun b o e n hx => ?_, un.there, fun b xs e => ?_, fun b o u e => ?_, fun b q e => ?_⟩, fun b u e => ?_, fun c h => let ⟨o, v, e, _, _, d⟩ := ci c h; ⟨o, v, e, d⟩⟩
  · by_cases hbc : b ∈ cs
    · obtain ⟨o', v, _, e1, e2, _⟩ := ci b hbc
      rw [e] at e1; cases e1; exact e2
    · exact un.keep b o e (by rw [lend_ne hbc]; exact n) hb hx
  · by_cases hbc : b ∈ cs
    · obtain ⟨o', v, _, e1, e2, _⟩ := ci b hbc
      rw [e] at e1; cases e1; exact ⟨o.slots, e2⟩
    · exact un.slot b o e (by rw [lend_ne hbc]; exact n) hb hx
  · by_cases hbc : b ∈ cs
    · exact unlend_in hbc
    · rw [unlend_ne hbc]; exact un.free b o e (by rw [lend_ne hbc]; exact n) hx
  · rw [unlend_ne (nin e)]; exact un.tups b xs (by rw [lend_ne (nin e)]; exact e)
  · rw [unlend_ne (nin e)]; exact un.frzs b o u (by rw [lend_ne (nin e)]; exact e)
  · rw [unlend_ne (nin e)]; exact un.tbls b q (by rw [lend_ne (nin e)]; exact e)
  · by_cases hbc : b ∈ cs
    · rw [unlend_in hbc] at e; cases e
    · rw [unlend_ne hbc] at e
      refine (hok b u e).stay (fun _ _ _ q => q) (fun c q => ?_) fun c xs q => ?_
      · rw [unlend_ne (nin' q fun o v z => by cases z)]; exact q
      · rw [unlend_ne (nin' q fun o v z => ?_)]; exact q
        obtain ⟨x, hx⟩ := xs
        have z : x = .frz o exT := z
        subst z
        obtain ⟨ws, hw⟩ := hx
        rw [hw]; exact fun z => by cases z
end
section
variable {K : Frag} {H : Hp} {O : Addr → Prop} {cs : List Addr}
theorem rd_unlend {a : Addr} {u : HO} (hc : ∀ c ∈ cs, ∃ o, H c = some (.frz o exT)) (h1 : ∀ o w, u ≠ .frz o w) (h2 : ∀ φ, u ≠ .ext φ) (h : Rd H a u) : Rd (unlend cs H) a u := by
  have na : a ∉ cs := fun z => by
    obtain ⟨o, e⟩ := hc a z
    rcases h with h | ⟨o', h⟩
    · rw [e] at h; cases h; exact h1 _ _ rfl
    · rw [e] at h; cases h; exact h2 _ rfl
  rcases h with h | ⟨o, h⟩
  · exact .inl (by rw [unlend_ne na]; exact h)
  · exact .inr ⟨o, by rw [unlend_ne na]; exact h⟩
theorem at_unlend {a : Addr} {u : HO} (hc : ∀ c ∈ cs, ∃ o, H c = some (.frz o exT)) (h1 : ∀ o w, u ≠ .frz o w) (h : H a = some u) : unlend cs H a = some u := by
  rw [unlend_ne fun z => ?_]; exact h
  obtain ⟨o, e⟩ := hc a z
  rw [e] at h; cases h; exact h1 _ _ rfl
mutual
theorem Rep.unlend (hc : ∀ c ∈ cs, ∃ o, H c = some (.frz o exT)) : ∀ {v : V} {d : D}, noclo d = true → Rep K H O v d → Rep K (FL.unlend cs H) O v d
  | _, _, _, .non => .non
  | _, _, _, .bl b => .bl b
  | _, _, _, .int i => .int i
  | _, _, _, .str x => .str x
  | _, _, f, .tup n h r => .tup n (rd_unlend hc (fun _ _ z => by cases z) (fun _ z => by cases z) h) (Reps.unlend hc (by simpa [noclo] using f) r)
  | _, _, f, .tupK h r => .tupK h (Reps.unlend hc (by simpa [noclo] using f) r)
  | _, _, f, .lst n h r => .lst n (rd_unlend hc (fun _ _ z => by cases z) (fun _ z => by cases z) h) (Reps.unlend hc (by simpa [noclo] using f) r)
  | _, _, f, .lstK h r => .lstK h (Reps.unlend hc (by simpa [noclo] using f) r)
  | _, _, f, .dct n h e r => .dct n (at_unlend hc (fun _ _ z => by cases z) h) e (Reps.unlend hc (by simpa [noclo] using f) r)
  | _, _, f, .dcf n h e r => by simp [noclo] at f
  | _, _, f, .ins c n h e r => .ins c n (at_unlend hc (fun _ _ z => by cases z) h) e (Reps.unlend hc (by simpa [noclo] using f) r)
  | _, _, f, .clo _ _ _ _ _ _ => by simp [noclo] at f
  | _, _, f, .fnK _ => by simp [noclo] at f
theorem Reps.unlend (hc : ∀ c ∈ cs, ∃ o, H c = some (.frz o exT)) : ∀ {v : List V} {d : List D}, noclos d = true → Reps K H O v d → Reps K (FL.unlend cs H) O v d
  | _, _, _, .nil => .nil
  | _, _, f, .cons h t => by
    simp only [noclos, Bool.and_eq_true] at f
    exact .cons (Rep.unlend hc f.1 h) (Reps.unlend hc f.2 t)
end
end
def PAl (X : Cx) (es : List Expr) (g : FA) (t : LamT) (cl : List (Str × Addr)) : Prop := ∃ tA, PA X es tA ∧ ∀ H₀ H O σ ds hd l Q, Ok X.K H₀ H O σ ds hd → g ds = some l → (∀ vs f H1, Same H H1 → Reps X.K H1 none0 vs l → LamAt H1 none0 f t cl → Q (vs ++ [.ref f]) H1) → tA σ H Q
section
variable {X : Cx}
theorem LamAt.mono {H H' : Hp} {O : Addr → Prop} {f : Addr} {t : LamT} {cl : List (Str × Addr)} (k : Same H H') (h : LamAt H O f t cl) : LamAt H' O f t cl := h.keep (.of_same k)
theorem pal_one {params : Arguments} {body : Expr} {scope : Scope} {pos : Pos} {x : Str} {c P : Addr} (hx : x ∈ makers) (ht : tabIn X.K x = some (c, P)) (hcode : X.env.code = .ref c) (hq : innerQ X.K x pos.line pos.col = X.env.qual ++ "<lambda>")
    (hfree : ∀ y ∈ scope.names, y.2 = NameKind.free → (X.env.kindOf y.1 = some .cell ∨ X.env.kindOf y.1 = some .free)) (hdef : defaultsOf params X.env = ([], []) := by rfl)
    (hs : starEach [.Lambda params body scope pos] X.env = (false, eval (.Lambda params body scope pos) X.env) :: starEach [] X.env := by rfl) :
    PAl X [.Lambda params body scope pos] nilA ⟨X.env.qual ++ "<lambda>", params, .expr body, scope⟩ (closL X.env scope.names []) :=
  ⟨_, pa_cons (pe_lam hx ht hcode hq hdef hfree) pa_nil hs, fun H₀ H O σ ds hd l Q o e q f H1 sm la => by cases e; exact q [] f H1 sm .nil la⟩
theorem pal_cons {e : Expr} {es : List Expr} {f : FE} {g : FA} {t : LamT} {cl : List (Str × Addr)} (h1 : PVn X e f) (h2 : PAl X es g t cl) (hs : starEach (e :: es) X.env = (false, eval e X.env) :: starEach es X.env := by rfl) : PAl X (e :: es) (consA f g) t cl := by
  obtain ⟨t1, p1, r1⟩ := h1
  obtain ⟨t2, p2, r2⟩ := h2
  refine ⟨_, pa_cons p1 p2 hs, fun H₀ H O σ ds hd l Q o e q => ?_⟩
  unfold consA at e
  obtain ⟨d, ha, e⟩ := bnd e
  obtain ⟨l2, hb, rfl⟩ := mpd e
  refine r1 H₀ H O σ ds hd d _ o ha fun v H1 s1 rv => ?_
  exact r2 H₀ H1 O σ ds hd l2 _ (o.mono s1) hb fun vs f H2 s2 rvs la => q (v :: vs) f H2 (s1.trans s2) (.cons (rv.mono s2) rvs) la
theorem clos_of {pins : List (Addr × Obj)} {σ : L2.St} {H H₀ : Hp} {s : Shared} {O : Addr → Prop} {ds : List Sl} {hd : Hold} {cs : List Addr} (I : Inv X pins σ H s) (o : Ok X.K H₀ H O σ ds hd) (sm : Same H (lend s.heap cs H)) :
    ∀ {cl : List (Str × Addr)} {is : List Nat} {caps : List D}, (∀ p ∈ cl, X.env.cells.lookup p.1 = some p.2 ∧ X.env.kindOf p.1 = some .cell ∧ p.2 ∈ cs) → (is.map fun i => X.N[i]?) = (cl.map (·.1)).map some → capsA is ds = some caps →
      ∃ xs, ClosOk (lend s.heap cs H) none0 cl xs ∧ Reps X.K (lend s.heap cs H) none0 xs caps
  | [], [], caps, _, _, e => by cases e; exact ⟨[], .nil, .nil⟩
  | [], _ :: _, _, _, h, _ => by cases h
  | _ :: _, [], _, _, h, _ => by cases h
  | p :: cl, i :: is, caps, hcl, h, e => by
    simp only [List.map_cons, List.cons.injEq] at h
    unfold capsA at e
    obtain ⟨d, h1, e⟩ := bnd e
    obtain ⟨l, h2, rfl⟩ := mpd e
    obtain ⟨xs, k1, k2⟩ := clos_of I o sm (fun q hq => hcl q (List.mem_cons_of_mem _ hq)) h.2 h2
    have hsl : ds[i]? = some (.v d) := by
      unfold getV at h1
      split at h1
      · rename_i d' hd'; cases h1; exact hd'
      · cases h1
    obtain ⟨v, hv, rv⟩ := o.read hsl
    obtain ⟨c1, c2, c3⟩ := hcl p List.mem_cons_self
    obtain ⟨m, hn, hl⟩ := I.loc
    obtain ⟨u, ru, lk⟩ := hl i p.1 v h.1 hv (.inr (.inl c2))
    have hcell : ∃ oc, s.heap.get? p.2 = some oc ∧ oc.data = .cell (some u) := by
      rcases lk with ⟨kl, _⟩ | ⟨_, c', ec, oc, hoc, hocd⟩
      · rw [c2] at kl; cases kl
      · rw [c1] at ec; cases ec; exact ⟨oc, hoc, hocd⟩
    obtain ⟨oc, hoc, hocd⟩ := hcell
    exact ⟨v :: xs, .cons (n := p.1) (c := p.2) id (lend_in c3 hoc) hocd ru k1, .cons ((rv.less fun _ z => z.elim).mono sm) k2⟩
theorem call_lam {k n : Nat} {f : Addr} {fd : FuncData} {ps : List Str} {F : List D → Option Ret} {x : Str} {p pos : Pos} {e : Expr} {es : List Expr} {g : FA} {m j : Nat} {is : List Nat} {t : LamT} {scope : Scope} {r : Ret} {ds : List Sl} {l caps : List D}
    (Fn : FnOk X.prog X.w X.K X.mg X.base CX0 k f fd ps (spF X.K n F)) (hr : Room k X.A) (hm : X.mg x = some (.ref f)) (hk : PySem.W.keepIn X.K (.ref f) = true) (hb : Binds X.K fd ps []) (ha : PAl X (e :: es) g t (closL X.env scope.names []))
    (htx : textIn X.K m j = some t) (hsc : t.scope = scope) (hfn : ∀ x, X.fn x = true) (hfree : ∀ y ∈ scope.names, y.2 = NameKind.free → X.env.kindOf y.1 = some .cell) (hnd : (freeR scope.names).Nodup) (his : (is.map fun i => X.N[i]?) = (freeR scope.names).map some)
    (hg : Gl X x) (hdb : (x == ("__debug__" : Str)) = false) (he : starEach (e :: es) X.env = (false, eval e X.env) :: starEach es X.env) (hpl : (backTo pos (starEach es X.env)).any (·.1) = false)
    {pins : List (Addr × Obj)} {s : Shared} {σ : L2.St} {H H₀ : Hp} {O : Addr → Prop} {hd : Hold} {Q : VK} (I : Inv X pins σ H s) (o : Ok X.K H₀ H O σ ds hd) (hl : g ds = some l) (hcp : capsA is ds = some caps) (hn : l.length + 1 = n) (hF : F (l ++ [.clo m j caps]) = some r) (hnc : ncR r = true)
    (q : ∀ v H', Same H H' → RetOk X.K H H' v r → Q v H') : wpAny (model X.prog X.w) X.A (eval (.Call (.Name x p) (e :: es) [] pos) X.env) (EP X pins σ Q) X.xe s := by
  obtain ⟨tA, pA, rA⟩ := ha
  refine wpAny_Call_Name_kw (ld_glob I hg hm ?_ hdb)
  refine PySem.W.callWith_K (h₀ := X.base) I.ok.mod.kin hk (thn (pA pos pins s σ H (fun ws H1 => ∃ vs f', ws = vs ++ [.ref f'] ∧ Same H H1 ∧ Reps X.K H1 none0 vs l ∧ LamAt H1 none0 f' t (closL X.env scope.names [])) I (rA H₀ H O σ ds hd l _ o hl fun vs f' H1 s1 r1 la => ⟨vs, f', rfl, s1, r1, la⟩)) fun us s1 ⟨ws, H1, I1, rw_, vs, f', hws, sm1, rvs, la⟩ => ⟨I1.kIn, ?_⟩) he hpl
  subst hws
  have hcell : ∀ pr ∈ closL X.env scope.names [], X.env.cells.lookup pr.1 = some pr.2 ∧ X.env.kindOf pr.1 = some .cell ∧ pr.2 ∈ (closL X.env scope.names []).map (·.2) := fun pr hp => by
    rcases closL_mem _ _ pr hp with z | z
    · cases z
    · exact ⟨z.1, hfree _ z.2 rfl, List.mem_map_of_mem hp⟩
  have hnm : (closL X.env scope.names []).map (·.1) = freeR scope.names := by
    have := closL_names (env := X.env) scope.names [] fun y hy hk => I1.ok.has y.1 (.inl (hfree y hy hk))
    simpa using this
  obtain ⟨e0, sm2, hc⟩ := lend_ok (cs := (closL X.env scope.names []).map (·.2)) I1 (fun c hc => by
    obtain ⟨pr, hp, rfl⟩ := List.mem_map.mp hc
    exact ⟨pr.1, (hcell pr hp).1⟩) hfn
  obtain ⟨xs, hcl, hxs⟩ := clos_of I1 (o.mono sm1) sm2 hcell (by rw [hnm]; exact his) hcp
  have hrep : Rep X.K (lend s1.heap ((closL X.env scope.names []).map (·.2)) H1) none0 (.ref f') (.clo m j caps) := .clo htx (la.mono sm2) (by rw [hsc]; exact hnm) (nodup_snd (by rw [hnm]; exact hnd) fun a ha b hb e => I1.ok.inj a.1 b.1 a.2 (hcell a ha).1 (by rw [e]; exact (hcell b hb).1)) hcl hxs
  have hrs : Reps X.K (lend s1.heap ((closL X.env scope.names []).map (·.2)) H1) none0 (vs ++ [.ref f']) (l ++ [.clo m j caps]) := (rvs.mono sm2).append (.cons hrep .nil)
  have hln : (vs ++ [V.ref f']).length = n := by rw [List.length_append, rvs.length]; exact hn
  have sp : spF X.K n F (vs ++ [.ref f']) (lend s1.heap ((closL X.env scope.names []).map (·.2)) H1) (fun v H' => Same (lend s1.heap ((closL X.env scope.names []).map (·.2)) H1) H' ∧ RetOk X.K (lend s1.heap ((closL X.env scope.names []).map (·.2)) H1) H' v r) E0 := ⟨hln, _, r, hrs, hF, fun v H' a b => ⟨a, b⟩⟩
  have hl2 : us.length = ps.length := by rw [← rw_.length]; exact Fn.len _ _ _ _ sp
  have bd := hb s1 us I1.kIn (by rw [List.append_nil]; exact hl2)
  rw [List.append_nil] at bd
  refine wpAny_call (codeAny_mono (Fn.run X.A X.stack s1 _ ⟨us, []⟩ us _ _ E0 hr e0 bd rw_ sp) fun rr s' hq => ?_)
  cases rr with
  | error e => exact hq.elim
  | ok fl =>
    cases fl with
    | next => exact False.elim hq
    | brk => exact False.elim hq
    | cont => exact False.elim hq
    | ret u =>
      obtain ⟨v, H', os, bare, un, hok, rv, sm3, ro⟩ := hq
      obtain ⟨un', hok', hcf⟩ := lend_back hc un hok
      have hcf' : ∀ c ∈ (closL X.env scope.names []).map (·.2), ∃ o, H' c = some (.frz o exT) := fun c h => let ⟨o, _, e, _⟩ := hcf c h; ⟨o, e⟩
      have nin : ∀ {b : Addr} {u : HO}, H1 b = some u → b ∉ (closL X.env scope.names []).map (·.2) := fun {b u} e z => by rw [(hc b z).1] at e; cases e
      have sm4 : Same H1 (unlend ((closL X.env scope.names []).map (·.2)) H') := fun b u e => by rw [unlend_ne (nin e)]; exact sm3 _ _ (sm2 _ _ e)
      have hold : ∀ a, Old H a → Old (lend s1.heap ((closL X.env scope.names []).map (·.2)) H1) a := fun a z => (z.mono sm1).mono sm2
      refine ⟨v, _, I1.call' (ch := []) os un' hok' bare (fun b z => by cases z), rv, q v _ (sm1.trans sm4) ?_⟩
      cases r with
      | val d => exact (Rep.less hold ro).unlend hcf' hnc
      | any d => exact Rep.unlend hcf' hnc ro
      | obj t => cases hnc
      | fresh l' =>
        obtain ⟨a, ys, rfl, h1, h2, h3⟩ := ro
        have na : a ∉ (closL X.env scope.names []).map (·.2) := fun z => by
          obtain ⟨_, ob, _, hob, _⟩ := hc a z
          rw [lend_in z hob] at h1; cases h1
        refine ⟨a, ys, rfl, sm1.free (by rw [lend_ne na] at h1; exact h1), by rw [unlend_ne na]; exact h2, ?_⟩
        exact Reps.unlend hcf' hnc (h3.less fun b z => z.elim .inl fun z => .inr (hold b z))
end
end FL
namespace FL
open PySem PySem.Spec PyProof.Rows L2
open PySem.W (tabIn CodeHd tabObj kla_callFunE kla_codeExpr FnAt callWith_F envX)
structure Mkr (K : Frag) (x : Str) (m : Nat) (st : Stmt) (f c P : Addr) : Prop where
  mem : makers[m]? = some x
  tab : tabIn K x = some (c, P)
  tx : ∀ n, textIn K m n = (lamsOf x (defBody st))[n]?
  inq : ∀ l c, innerQ K x l c = x ++ ".<locals>." ++ innerN (defBody st) l c
  cd : ∀ oc od fd sl, K.lookup f = some ⟨oc, od, .func fd, sl⟩ → fd.code = .ref c
theorem mkr_mk {K : Frag} {x qual : Str} {m : Nat} {st : Stmt} {f c P : Addr} {oc oc' : Value} {od od' an : Option Addr} {sl sl' : Array (Option Value)} {kV doc pm cdv ct : Value} {vs : Array Value} (hm : makers[m]? = some x) (a : PySem.W.nsIn K mainGlobals x = some (some (.ref f)))
    (l : K.lookup f = some ⟨oc, od, .func (PySem.W.fnOf x qual (defArgs st) (defBody st) (defScope st) .none kV doc pm an cdv ct), sl⟩) (h3 : cdv = .ref c) (h4 : K.lookup c = some ⟨oc', od', .fields vs, sl'⟩) (h5 : (vs[11]? : Option Value) = some (.ref P)) : Mkr K x m st f c P := by
  subst h3
  refine ⟨hm, by unfold tabIn; simp only [a, l, h4, h5], fun n => by unfold textIn; simp only [hm, Option.bind_some, a, l], fun _ _ => by unfold innerQ; simp only [a, l], fun oc2 od2 fd2 sl2 e => ?_⟩
  rw [l] at e
  cases e
  rfl
theorem fun_okM {P : Program} {w : World} {K : Frag} {mg : Str → Option Value} {base : Heap} {x qual : Str} {st : Stmt} {f c Q : Addr} {fd : FuncData} {N ps : List Str} {k m : Nat} {F : List D → Option Ret} (Fn : Fun K x qual st f fd) (S : FnScope N ps (defScope st)) (M : Mkr K x m st f c Q)
    {g : FS} (hbody : ∀ (A : Around) (outer : List Env) (s : Shared) (H : Hp) (E : XK), Room k (A.deeper (envOfC qual (defScope st) s.heap.objs.size f (.ref c))) → PSsv (cxOf CX0 P w K mg base N qual (defScope st) f (.ref c) A outer s H E).nox (defBody st) g)
    (hg : ∀ ds r, ds.length = ps.length → F ds = some r → Does g N.length ds r) : FnOk P w K mg base CX0 (k + 1) f fd ps (spF K ps.length F) := by
  obtain ⟨oc, od, kV, doc, pm, an, cdv, ct, osl, rfl, lk, hcd⟩ := Fn.ex
  obtain rfl : cdv = .ref c := M.cd _ _ _ _ lk
  refine fn_of lk hcd S (fun vs H Q E h => h.1) fun A outer s H vs Q E hr h => ?_
  obtain ⟨hl, ds, r, rv, e, q⟩ := h
  obtain ⟨t, ht, hf⟩ := hbody A outer s H E hr
  refine ⟨t, ht.nox, ?_⟩
  have o := ok_start (N := N) rv
  rcases hg ds r (by rw [← rv.length]; exact hl) e with e' | ⟨rfl, ds', e'⟩
  · exact hf H H none0 _ _ [] _ _ o e' (fun v H' s r _ => q v H' s r)
  · exact hf H H none0 _ _ [] _ _ o e' (fun σ H' O o' => q .non H' o'.same .non)
noncomputable def lamCk (sc esc : Scope) (is : List Nat) (N : List Str) : Bool := (sc.names.all fun y => y.2 != NameKind.free || esc.names.lookup y.1 == some NameKind.cell) && decide (freeR sc.names).Nodup && decide ((is.map fun i => N[i]?) = (freeR sc.names).map some)
section
variable {X : Cx}
theorem pal_lamM {params : Arguments} {body : Expr} {scope : Scope} {pos : Pos} {x : Str} {m : Nat} {st : Stmt} {f c P : Addr} {is : List Nat} (M : Mkr X.K x m st f c P) (ck : lamCk scope X.env.scope is X.N = true) (hcode : X.env.code = .ref c := by rfl) (hqu : X.env.qual = x ++ ".<locals>." := by rfl)
    (hi : innerN (defBody st) pos.line pos.col = "<lambda>" := by rfl) (hdef : defaultsOf params X.env = ([], []) := by rfl) (hs : starEach [.Lambda params body scope pos] X.env = (false, eval (.Lambda params body scope pos) X.env) :: starEach [] X.env := by rfl) :
    PAl X [.Lambda params body scope pos] nilA ⟨x ++ ".<locals>." ++ "<lambda>", params, .expr body, scope⟩ (closL X.env scope.names []) := by
  rw [← hqu]
  refine pal_one (List.mem_of_getElem? M.mem) M.tab hcode (by rw [M.inq, hi, hqu]) (fun y hy hk => .inl ?_) hdef hs
  unfold lamCk at ck
  simp only [Bool.and_eq_true] at ck
  have := List.all_eq_true.mp ck.1.1 y hy
  rw [hk] at this
  simp only [bne_self_eq_false, Bool.false_or, beq_iff_eq] at this
  exact this
section
variable {k j' n m j : Nat} {F : List D → Option Ret} {x y : Str} {p pos : Pos} {e : Expr} {es : List Expr} {g : FA} {is : List Nat} {t : LamT} {st : Stmt} {f c P : Addr}
theorem pvf_callL (C : Cal X.prog X.w X.K X.mg X.base x k n F) (hr : Room j' X.A) (M : Mkr X.K y m st f c P) (ha : PAl X (e :: es) g t (closL X.env t.scope.names [])) (htx : (lamsOf y (defBody st))[j]? = some t) (ck : lamCk t.scope X.env.scope is X.N = true) (hj : k ≤ j' := by decide) (hfn : ∀ x, X.fn x = true := by exact fun _ => rfl)
    (hg : Gl X x := by rfl) (hdb : (x == ("__debug__" : Str)) = false := by decide) (he : starEach (e :: es) X.env = (false, eval e X.env) :: starEach es X.env := by rfl) (hpl : (backTo pos (starEach es X.env)).any (·.1) = false := by rfl) :
    PVf X (.Call (.Name x p) (e :: es) [] pos) (callF n (ncF F) (lamA m j is g)) := by
  obtain ⟨f', fd, ps, Fn, hb, hk, hm⟩ := C.ex
  refine ⟨fun σ H Q => ∀ pins s, Inv X pins σ H s → wpAny (model X.prog X.w) X.A (eval (.Call (.Name x p) (e :: es) [] pos) X.env) (EP X pins σ Q) X.xe s, fun pins s σ H Q I h => h pins s I, fun H₀ H O σ ds hd d Q o ee q pins s I => ?_⟩
  unfold callF lamA at ee
  unfold lamCk at ck
  simp only [Bool.and_eq_true, decide_eq_true_eq] at ck
  cases hl : g ds with
  | none => rw [hl] at ee; cases ee
  | some l =>
    cases hc : capsA is ds with
    | none => rw [hl, hc] at ee; cases ee
    | some caps =>
      rw [hl, hc] at ee
      simp only [Option.bind_some, Option.map_some] at ee
      split at ee
      · rename_i hn
        unfold ncF at ee
        cases hF : F (l ++ [.clo m j caps]) with
        | none => rw [hF] at ee; cases ee
        | some r =>
          rw [hF] at ee
          simp only [Option.bind_some] at ee
          by_cases hnc : ncR r = true
          · rw [if_pos hnc] at ee
            refine call_lam Fn (hr.mono hj) hm hk hb ha ((M.tx j).trans htx) rfl hfn (fun y hy hk => ?_) ck.1.2 ck.2 hg hdb he hpl I o hl hc (by simpa using hn) hF hnc fun v H' s' ro => ?_
            · have := List.all_eq_true.mp ck.1.1 y hy
              rw [hk] at this
              simp only [bne_self_eq_false, Bool.false_or, beq_iff_eq] at this
              exact this
            · obtain ⟨a, xs, rfl, h3, h4, h5⟩ := retF_ok ro ee fun a ha => o.old ha
              exact q a xs H' s' h3 h4 h5
          · rw [if_neg hnc] at ee; cases ee
      · cases ee
end
end
structure LamScope (ps : List Str) (sc : Scope) : Prop where
  kind : sc.kind = .function
  co : sc.isCoroutine = false
  gen : sc.isGenerator = false
  nocell : ∀ y ∈ sc.names, y.2 ≠ NameKind.cell
  par : ∀ x ∈ ps, sc.names.lookup x = some .local
  fre : ∀ x ∈ freeR sc.names, sc.names.lookup x = some .free
  nd : (ps ++ freeR sc.names).Nodup
noncomputable def lamSc (ps : List Str) (sc : Scope) : Bool := sc.kind == .function && !sc.isCoroutine && !sc.isGenerator && (sc.names.all fun y => y.2 != NameKind.cell) && (ps.all fun x => sc.names.lookup x == some .local) && ((freeR sc.names).all fun x => sc.names.lookup x == some .free) && decide (ps ++ freeR sc.names).Nodup
theorem lam_scope {ps : List Str} {sc : Scope} (h : lamSc ps sc = true) : LamScope ps sc := by
  unfold lamSc at h
  simp only [Bool.and_eq_true, Bool.not_eq_true', beq_iff_eq, decide_eq_true_eq, List.all_eq_true, bne_iff_ne, ne_eq] at h
  exact ⟨h.1.1.1.1.1.1, h.1.1.1.1.1.2, h.1.1.1.1.2, h.1.1.1.2, h.1.1.2, h.1.2, h.2⟩
noncomputable def lamCx (P : Program) (w : World) (K : Frag) (mg : Str → Option Value) (base : Heap) (ps : List Str) (t : LamT) (f : Addr) (cd : Value) (cl : List (Str × Addr)) (A : Around) (outer : List Env) (s : Shared) (H : Hp) : Cx where
  prog := P
  w := w
  K := K
  mg := mg
  base := base
  A := A.deeper (envX t.qual t.scope s.heap.objs.size f cd cl)
  N := ps ++ freeR t.scope.names
  s₀ := s
  H₀ := H
  env := envX t.qual t.scope s.heap.objs.size f cd cl
  outer := outer
  stack := envX t.qual t.scope s.heap.objs.size f cd cl :: outer
  ex := []
  fn := fun _ => false
  calm := true
  pn := []
  xe := fun _ _ => False
theorem lookup_mem {α : Type} : ∀ {l : List (Str × α)} {x : Str} {a : α}, (l.map (·.1)).Nodup → (x, a) ∈ l → l.lookup x = some a
  | [], _, _, _, h => by cases h
  | (y, b) :: r, x, a, nd, h => by
    rw [List.map_cons, List.nodup_cons] at nd
    rw [List.lookup_cons]
    rcases List.mem_cons.mp h with e | e
    · cases e; simp
    · have : (x == y) = false := beq_eq_false_iff_ne.mpr fun z => nd.1 (by rw [← z]; exact List.mem_map.mpr ⟨_, e, rfl⟩)
      rw [this]
      exact lookup_mem nd.2 e
theorem snd_inj : ∀ {l : List (Str × Addr)} {x y : Str} {a : Addr}, (l.map (·.2)).Nodup → (x, a) ∈ l → (y, a) ∈ l → x = y
  | [], _, _, _, _, h, _ => by cases h
  | p :: r, x, y, a, nd, h1, h2 => by
    rw [List.map_cons, List.nodup_cons] at nd
    rcases List.mem_cons.mp h1 with e1 | e1 <;> rcases List.mem_cons.mp h2 with e2 | e2
    · rw [← e1] at e2; cases e2; rfl
    · exact (nd.1 (by rw [← e1]; exact List.mem_map.mpr ⟨_, e2, rfl⟩)).elim
    · exact (nd.1 (by rw [← e2]; exact List.mem_map.mpr ⟨_, e1, rfl⟩)).elim
    · exact snd_inj nd.2 e1 e2
theorem ClosOk.mem {H : Hp} {O : Addr → Prop} : ∀ {cl : List (Str × Addr)} {xs : List V}, ClosOk H O cl xs → ∀ {p : Str × Addr}, p ∈ cl → ∃ o u w, H p.2 = some (.frz o u) ∧ o.data = .cell (some w)
  | _, _, .nil, _, h => by cases h
  | _, _, .cons no h d r t, p, hp => by
    rcases List.mem_cons.mp hp with e | e
    · subst e; exact ⟨_, _, _, h, d⟩
    · exact t.mem e
theorem ClosOk.get {H : Hp} {O : Addr → Prop} : ∀ {cl : List (Str × Addr)} {xs : List V}, ClosOk H O cl xs → ∀ {i : Nat} {v : V}, xs[i]? = some v → ∃ p o u w, cl[i]? = some p ∧ H p.2 = some (.frz o u) ∧ o.data = .cell (some w) ∧ RelV v w
  | _, _, .nil, _, _, h => by cases h
  | _, _, .cons no h d r t, 0, v, hv => by cases hv; exact ⟨_, _, _, _, rfl, h, d, r⟩
  | _, _, .cons no h d r t, i + 1, v, hv => t.get hv
theorem ClosOk.length {H : Hp} {O : Addr → Prop} : ∀ {cl : List (Str × Addr)} {xs : List V}, ClosOk H O cl xs → cl.length = xs.length
  | _, _, .nil => rfl
  | _, _, .cons no h d r t => by simp [t.length]
theorem mem_zip_rev {ps : List Str} {us : List Value} {i : Nat} {x : Str} {u : Value} (h1 : ps[i]? = some x) (h2 : us[i]? = some u) : (x, u) ∈ (ps.zip us).reverse := by
  rw [List.mem_reverse]
  refine List.mem_of_getElem? (i := i) ?_
  rw [List.getElem?_zip_eq_some]
  exact ⟨h1, h2⟩
theorem map_zip_fst : ∀ {ps : List Str} {us : List Value}, us.length = ps.length → (ps.zip us).map (·.1) = ps
  | [], _, _ => by simp
  | p :: ps, [], h => by cases h
  | p :: ps, u :: us, h => by
    simp only [List.zip_cons_cons, List.map_cons, List.cons.injEq, true_and]
    exact map_zip_fst (by simpa using h)
theorem inv_lam {P : Program} {w : World} {K : Frag} {mg : Str → Option Value} {base : Heap} {ps : List Str} {t : LamT} {f : Addr} {cd : Value} {cl : List (Str × Addr)} {A : Around} {outer : List Env} {s : Shared} {H : Hp} {us : List Value} {vs xs : List V} {h₁ : Heap} {tk : Nat} {O : Addr → Prop}
    (S : LamScope ps t.scope) (hd : A.handled = none) (e0 : Env0 P w K mg base A outer s H) (hl : us.length = ps.length) (r : Vals vs us) (hcl : cl.map (·.1) = freeR t.scope.names) (hnd : (cl.map (·.2)).Nodup) (hco : ClosOk H O cl xs)
    (hns : h₁.Ns s.heap.objs.size (fun x => (ps.zip us).reverse.lookup x)) (hk : ∀ b o, s.heap.get? b = some o → h₁.get? b = some o) : Inv (lamCx P w K mg base ps t f cd cl A outer s H) [] ((vs ++ xs).map some) H { s with heap := h₁, toks := tk } := by
  have ndN : (cl.map (·.1)).Nodup := by rw [hcl]; exact (List.nodup_append.mp S.nd).2.1
  have ndP : ps.Nodup := (List.nodup_append.mp S.nd).1
  have hvl : vs.length = ps.length := by rw [r.length]; exact hl
  have cellAt : ∀ y c, cl.lookup y = some c → ∃ o u v, H c = some (.frz o u) ∧ o.data = .cell (some v) ∧ s.heap.get? c = some o := fun y c h => by
    obtain ⟨o, u, v, h1, h2⟩ := hco.mem (PySem.mem_of_lookup h)
    exact ⟨o, u, v, h1, h2, (e0.hok _ _ h1).1⟩
  have noA : ∀ {b : Addr} {p : Prop}, b ∈ ([] : List Addr) → p := fun z => by cases z
  refine ⟨⟨e0.mod, S.kind, rfl, rfl, Nat.le_refl _, fun y z c h1 h2 => snd_inj hnd (PySem.mem_of_lookup h1) (PySem.mem_of_lookup h2), fun y hy => ?_, (fun y c hf => by cases hf), fun _ => hd, Around.frames_deeper e0.frames, .inr ⟨rfl, rfl⟩, fun b z => noA z, e0.bs, e0.bsz, fun b _ _ z => noA z, fun b z => noA z, e0.funs, e0.frf⟩,
    rfl, e0.bare, Un.kept hk, ⟨_, hns, fun i y v h1 h2 h3 => ?_⟩, fun y c h => ?_, e0.hok.fresh (Nat.le_refl _), fun y c h => ?_, fun p hp => (by cases (show p ∈ ([] : List (Addr × Obj)) from hp)), e0.hok.kept hk, ?_⟩
  · have hy : t.scope.names.lookup y = some .cell ∨ t.scope.names.lookup y = some .free := hy
    rcases hy with hy | hy
    · exact absurd rfl (S.nocell _ (PySem.mem_of_lookup hy))
    · have : y ∈ cl.map (·.1) := by
        rw [hcl]
        unfold freeR
        rw [List.mem_reverse]
        exact List.mem_map.mpr ⟨(y, .free), List.mem_filter.mpr ⟨PySem.mem_of_lookup hy, rfl⟩, rfl⟩
      obtain ⟨p, hp, rfl⟩ := List.mem_map.mp this
      exact ⟨p.2, lookup_mem ndN hp⟩
  · have h1 : (ps ++ freeR t.scope.names)[i]? = some y := h1
    rw [List.getElem?_map] at h2
    by_cases hi : i < ps.length
    · rw [List.getElem?_append_left hi] at h1
      rw [List.getElem?_append_left (by rw [hvl]; exact hi)] at h2
      cases hv : vs[i]? with
      | none => rw [hv] at h2; cases h2
      | some v' =>
        rw [hv] at h2
        cases h2
        obtain ⟨u, hu, ru⟩ := r.get hv
        refine ⟨u, ru, .inl ⟨S.par y (List.mem_of_getElem? h1), ?_⟩⟩
        refine lookup_mem ?_ (mem_zip_rev h1 hu)
        rw [List.map_reverse, map_zip_fst hl]
        exact List.pairwise_reverse.mpr (ndP.imp fun h => Ne.symm h)
    · have hi' : ps.length ≤ i := Nat.le_of_not_lt hi
      rw [List.getElem?_append_right hi'] at h1
      rw [List.getElem?_append_right (by rw [hvl]; exact hi'), hvl] at h2
      cases hv : xs[i - ps.length]? with
      | none => rw [hv] at h2; cases h2
      | some v' =>
        rw [hv] at h2
        cases h2
        obtain ⟨p, o, u, wv, g1, g2, g3, g4⟩ := hco.get hv
        have hy : p.1 = y := by
          have : (cl.map (·.1))[i - ps.length]? = some p.1 := by rw [List.getElem?_map, g1]; rfl
          rw [hcl, h1] at this
          exact (Option.some.inj this).symm
        subst hy
        refine ⟨wv, g4, .inr ⟨.inr (S.fre _ (List.mem_of_getElem? h1)), p.2, lookup_mem ndN (List.mem_of_getElem? g1), o, hk _ _ (e0.hok _ _ g2).1, g3⟩⟩
  · obtain ⟨o, u, v, h1, h2, h3⟩ := cellAt y c h
    exact ⟨_, o, hk _ _ h3, h2⟩
  · obtain ⟨o, u, v, h1, h2, h3⟩ := cellAt y c h
    exact .inr ⟨rfl, o, u, h1⟩
  · show ((vs ++ xs).map some).length = (ps ++ freeR t.scope.names).length
    rw [List.length_map, List.length_append, List.length_append, hvl, ← hcl, List.length_map, hco.length]
theorem ok_vals {K : Frag} {H : Hp} {vs : List V} {ds : List D} (r : Reps K H none0 vs ds) : Ok K H H none0 (vs.map some) (ds.map Sl.v) [] := by
  have no : ∀ i, IsOwn (ds.map Sl.v) i → False := fun i ⟨l, e⟩ => by
    rw [List.getElem?_map] at e
    cases h : ds[i]? with
    | none => rw [h] at e; cases e
    | some d => rw [h] at e; cases e
  refine ⟨Same.refl _, fun i l a e _ => (no i ⟨l, e⟩).elim, fun _ z => z.elim, by simp [r.length], fun i s e => ?_, fun i j a _ hi _ _ _ => no i hi, (fun p hp => nomatch hp), .no fun i r t e => by
    rw [List.getElem?_map] at e
    cases h : ds[i]? with
    | none => rw [h] at e; cases e
    | some d => rw [h] at e; cases e⟩
  rw [List.getElem?_map] at e
  obtain ⟨d, h, rfl⟩ := mpd e
  obtain ⟨v, h1, h2⟩ := r.get h
  rw [List.getElem?_map, h1]
  exact slOk_v h2
theorem text_lt {K : Frag} {m n : Nat} {t : LamT} (h : textIn K m n = some t) : m ≠ 1000 := by
  rintro rfl
  have e : makers[1000]? = none := by decide
  unfold textIn at h
  rw [e] at h
  cases h
def FnIn (K : Frag) (j : Nat) : Prop := ∃ (f : Addr) (oc : Value) (od : Option Addr) (fd : FuncData) (osl : Array (Option Value)), PySem.W.nsIn K mainGlobals (fnName j) = some (some (.ref f)) ∧ K.lookup f = some ⟨oc, od, .func fd, osl⟩
theorem Rep.cloInv {K : Frag} {H : Hp} {O : Addr → Prop} {f : Addr} {m n : Nat} {ds : List D} (hm : m ≠ 1000) (h : Rep K H O (.ref f) (.clo m n ds)) : ∃ t cl xs, textIn K m n = some t ∧ LamAt H O f t cl ∧ cl.map (·.1) = freeR t.scope.names ∧ (cl.map (·.2)).Nodup ∧ ClosOk H O cl xs ∧ Reps K H O xs ds := by
  cases h with
  | clo tx la e nd hco rx => exact ⟨_, _, _, tx, la, e, nd, hco, rx⟩
  | fnK h => exact absurd rfl hm
def LamGood (P : Program) (w : World) (K : Frag) (mg : Str → Option Value) (base : Heap) (k m n : Nat) (F : List D → List D → Option Ret) : Prop := ∀ (A : Around) (outer : List Env) (s : Shared) (H : Hp) (f : Addr) (caps : List D) (us : List Value) (vs : List V) (as : List D) (r : Ret) (Q : VK), Room k A → Env0 P w K mg base A outer s H →
  Rep K H none0 (.ref f) (.clo m n caps) → Vals vs us → Reps K H none0 vs as → F caps as = some r → (∀ v H', Same H H' → RetOk K H H' v r → Q v H') → codeAny (model P w) A (.call (.ref f) ⟨us, []⟩) (CR CX0 outer P w H s Q E0) s
theorem lam_good {P : Program} {w : World} {K : Frag} {mg : Str → Option Value} {base : Heap} {k m n : Nat} {t : LamT} {ps : List Str} {body : Expr} {g : FE} (htx : textIn K m n = some t) (S : LamScope ps t.scope) (hbd : t.body = .expr body)
    (hbind : ∀ fd : FuncData, fd.params = t.params → fd.defaults = .none → fd.kwdefaults = .none → ∀ us : List Value, us.length = ps.length → bindArgs fd ⟨us, []⟩ = pure (ps.zip us))
    (hbody : ∀ (f : Addr) (cd : Value) (cl : List (Str × Addr)) (A : Around) (outer : List Env) (s : Shared) (H : Hp), Room k (A.deeper (envX t.qual t.scope s.heap.objs.size f cd cl)) → PVn (lamCx P w K mg base ps t f cd cl A outer s H) body g) : LamGood P w K mg base (k + 1) m n (lamF ps.length g) := by
  intro A outer s H f caps us vs as r Q hr e0 hrep rv ra hF q
  unfold lamF at hF
  split at hF
  · rename_i hal
    unfold lamR at hF
    obtain ⟨d, hg, hF⟩ := bnd hF
    split at hF
    · rename_i hfl
      cases hF
      · obtain ⟨t', cl, xs, tx, la, e, nd, hco, rx⟩ := hrep.cloInv (text_lt htx)
        rw [htx] at tx
        cases tx
        obtain ⟨_, o, oc, u, uc, fd, c, wsv, tq, h1, h2, h3, h4, h5, h6, h7, h8, h9, h10, h11, h12, h13, h14, h15, h16, h17⟩ := la
        have lim : s.heap.NoLimit := e0.mod.nolimit.keeps fun b o e => (e0.bs b o e).1
        have ho := (e0.hok f _ h1).1
        have hoc := (e0.hok c _ h15).1
        have hul : us.length = ps.length := by rw [← rv.length, ra.length]; exact hal
        refine kla_callFunE hr.depth ho h3 (by rw [h7]; exact S.co) (by rw [h7]; exact S.gen) (h6.trans hbd) ⟨c, oc, wsv, tq, h12, hoc, h16, by rw [h4]; exact h17⟩ ?_
        rw [hbind fd h5 h10 h11 us hul, h7, h8, h9, h4, h12, h13]
        refine wpAny_pure (wpAny_newFunctionEnv S.nocell (fun y hy => S.par _ (List.of_mem_zip hy).1) (fun h₁ hns hsb => ⟨lim.fresh _ hsb, ?_⟩) S.kind)
        show codeAny _ _ (.expr body (envX t.qual t.scope s.heap.objs.size f (.ref c) cl)) _ _
        have hk₁ : ∀ b o, s.heap.get? b = some o → h₁.get? b = some o := fun b o e => hsb.extBut b o (Nat.ne_of_lt (Heap.lt_size e)) (Heap.get?_push_of_some _ e)
        obtain ⟨tt, pt, rt⟩ := hbody f (.ref c) cl A outer s H (hr.deeper _)
        refine kla_codeExpr (wpAny_mono (pt [] _ _ H (fun v H' => Same H H' ∧ Rep K H' none0 v d) (inv_lam S hr.hd e0 hul rv e nd hco hns hk₁) (rt H H none0 _ _ [] d _ (ok_vals (ra.append rx)) hg fun v H' sm rp => ⟨sm, rp⟩)) (fun uu s' zq => ?_) fun e s' z => z.elim)
        obtain ⟨v, H', J, ru, sm, rp⟩ := zq
        exact ⟨v, H', J.os, J.bare, J.base, J.hok, ru, q v H' sm (rp.flatten (fun a z => z.mono sm) hfl)⟩
    · cases hF
  · cases hF
structure CloOk (P : Program) (w : World) (K : Frag) (mg : Str → Option Value) (base : Heap) (k : Nat) (Φ : Fun2) : Prop where
  hold : ∀ (H : Hp) (h : Heap) (v : V) (d : D) (as : List D) (r : Ret), Rep K H none0 v d → Φ d as = some r → L2.HOk P w H h → K.In h → ∃ f, v = .ref f ∧ FnAt f h
  run : ∀ (A : Around) (outer : List Env) (s : Shared) (H : Hp) (f : Addr) (d : D) (us : List Value) (vs : List V) (as : List D) (r : Ret) (Q : VK), Room k A → Env0 P w K mg base A outer s H → Rep K H none0 (.ref f) d → Vals vs us → Reps K H none0 vs as → Φ d as = some r → (∀ v H', Same H H' → RetOk K H H' v r → Q v H') →
    codeAny (model P w) A (.call (.ref f) ⟨us, []⟩) (CR CX0 outer P w H s Q E0) s
theorem lookup_in {α β : Type} [BEq α] [LawfulBEq α] : ∀ {l : List (α × β)} {x : α} {a : β}, l.lookup x = some a → (x, a) ∈ l
  | [], _, _, h => by cases h
  | (y, b) :: r, x, a, h => by
    rw [List.lookup_cons] at h
    cases hx : x == y with
    | true => rw [hx] at h; cases h; rw [beq_iff_eq.mp hx]; exact List.mem_cons_self
    | false => rw [hx] at h; exact List.mem_cons_of_mem _ (lookup_in h)
theorem clo_of {P : Program} {w : World} {K : Frag} {mg : Str → Option Value} {base : Heap} {k : Nat} {l : List ((Nat × Nat) × (List D → List D → Option Ret))} (h : ∀ p ∈ l, LamGood P w K mg base k p.1.1 p.1.2 p.2) (hf : ∀ p ∈ l, p.1.1 = 1000 → FnIn K p.1.2) : CloOk P w K mg base k (phiOf l) := by
  refine ⟨fun H hp v d as r rep e ok kin => ?_, fun A outer s H f d us vs as r Q hr e0 rep rv ra e q => ?_⟩
  · cases d with
    | clo m n caps =>
      cases rep with
      | clo tx la e nd hco rx =>
        obtain ⟨_, o, oc, u, uc, fd, c, wsv, tq, h1, h2, h3, _⟩ := la
        have ho := (ok _ _ h1).1
        obtain ⟨a1, a2, a3, a4⟩ := o
        cases h3
        exact ⟨_, rfl, _, _, _, _, ho⟩
      | fnK hk =>
        have e : ((l.lookup (1000, n)).bind fun F => F [] as) = some r := e
        obtain ⟨F, hF, e⟩ := bnd e
        obtain ⟨f', oc, od, fd, osl, h1, h2⟩ := hf _ (lookup_in hF) rfl
        rw [h1] at hk
        cases hk
        exact ⟨_, rfl, _, _, _, _, kin _ _ h2⟩
    | _ => cases e
  · cases d with
    | clo m n caps =>
      have e : ((l.lookup (m, n)).bind fun F => F caps as) = some r := e
      obtain ⟨F, hF, e⟩ := bnd e
      exact h _ (lookup_in hF) A outer s H f caps us vs as r Q hr e0 rep rv ra e q
    | _ => cases e
section
variable {X : Cx} {k j i : Nat} {Φ : Fun2} {x : Str} {p pos : Pos} {e : Expr} {es : List Expr} {g : FA}
theorem pv_callW (CO : CloOk X.prog X.w X.K X.mg X.base k Φ) (hr : Room j X.A) (ha : PAn X (e :: es) g) (hj : k ≤ j := by decide) (hN : X.N[i]? = some x := by rfl) (hv : Vis X.env.scope x := by first | exact Or.inl rfl | exact Or.inr (Or.inl rfl) | exact Or.inr (Or.inr rfl)) (hdb : (x == ("__debug__" : Str)) = false := by decide) (hcd : (x == ("__classdict__" : Str)) = false := by decide)
    (he : starEach (e :: es) X.env = (false, eval e X.env) :: starEach es X.env := by rfl) (hpl : (backTo pos (starEach es X.env)).any (·.1) = false := by rfl) : PV X (.Call (.Name x p) (e :: es) [] pos) (callW Φ i g) := by
  obtain ⟨t, ht, hf⟩ := ha
  refine ⟨fun σ H Q => ∀ pins s, Inv X pins σ H s → wpAny (model X.prog X.w) X.A (eval (.Call (.Name x p) (e :: es) [] pos) X.env) (EP X pins σ Q) X.xe s, fun pins s σ H Q I h => h pins s I, fun H₀ H O σ ds hd d Q o ee q pins s I => ?_⟩
  unfold callW at ee
  obtain ⟨fd, h1, ee⟩ := bnd ee
  obtain ⟨l, h2, ee⟩ := bnd ee
  obtain ⟨r, h3, ee⟩ := bnd ee
  have hsl : ds[i]? = some (.v fd) := by
    unfold getV at h1
    split at h1
    · rename_i d' hd'; cases h1; exact hd'
    · cases h1
  obtain ⟨v, hv1, rv⟩ := o.read hsl
  refine wpAny_Call_Name_kw (thn (pe_var hN hv hdb hcd pins s σ H (fun v' H' => v' = v ∧ H' = H) I ⟨v, hv1, rfl, rfl⟩) fun u s1 zq => ?_)
  obtain ⟨v', H', I1, ru, e1, e2⟩ := zq
  subst e1 e2
  have rv0 : Rep X.K H' none0 v' fd := rv.less fun _ z => z.elim
  obtain ⟨f, rfl, fa⟩ := CO.hold H' s1.heap v' fd l r rv0 h3 I1.hok I1.kIn
  obtain rfl : u = Value.ref f := ru
  refine callWith_F fa (thn (ht pos pins s1 σ H' (fun vs H1 => Same H' H1 ∧ Reps X.K H1 none0 vs l) I1 (hf H₀ H' O σ ds hd l _ o h2 fun vs H1 a b => ⟨a, b⟩)) fun us s2 zq => ?_) he hpl
  obtain ⟨vs, H2, I2, r2, sm, rvs⟩ := zq
  obtain ⟨f', e', fa2⟩ := CO.hold H2 s2.heap _ fd l r (rv0.mono sm) h3 I2.hok I2.kIn
  cases e'
  refine ⟨fa2, wpAny_call (codeAny_mono (CO.run X.A X.stack s2 H2 f fd us vs l r Q (hr.mono hj) I2.env0 (rv0.mono sm) r2 rvs h3 fun v H3 a b => q v H3 (sm.trans a) (retV_ok b ee fun a ha => (o.mono sm).old ha)) fun rr s' hq => ?_)⟩
  cases rr with
  | error e => exact hq.elim
  | ok fl =>
    cases fl with
    | ret u => exact I2.after hq
    | next => exact False.elim hq
    | brk => exact False.elim hq
    | cont => exact False.elim hq
end
noncomputable def exS : Expr → List Expr
  | .Call _ as _ _ => as
  | .Compare l _ cs _ => l :: cs
  | .BoolOp _ vs _ => vs
  | .UnaryOp _ o _ => [o]
  | .BinOp l _ r _ => [l, r]
  | .IfExp t b o _ => [t, b, o]
  | .List es _ => es
  | .Tuple es _ _ => es
  | .Subscript v i _ => [v, i]
  | _ => []
noncomputable def exA (i : Nat) (e : Expr) : Expr := (exS e).getD i (.Name "" ⟨0, 0, 0, 0⟩)
noncomputable def stE : Stmt → Expr
  | .Assign _ e _ => e
  | .Return (some e) _ => e
  | .Expr e _ => e
  | .If t _ _ _ => t
  | _ => .Name "" ⟨0, 0, 0, 0⟩
noncomputable def stB : Stmt → List Stmt
  | .If _ a _ _ => a
  | .For _ _ a _ _ => a
  | .While _ a _ _ => a
  | _ => []
noncomputable def stN (i : Nat) (l : List Stmt) : Stmt := l.getD i (.Pass ⟨0, 0, 0, 0⟩)
noncomputable def laBody : Expr → Expr
  | .Lambda _ b _ _ => b
  | _ => .Name "" ⟨0, 0, 0, 0⟩
noncomputable def laArgs : Expr → Arguments
  | .Lambda a _ _ _ => a
  | _ => { posonlyargs := [], args := [], vararg := none, kwonlyargs := [], kw_defaults := [], kwarg := none, defaults := [] }
noncomputable def laScope : Expr → Scope
  | .Lambda _ _ s _ => s
  | _ => { kind := .function, names := [], isGenerator := false, isCoroutine := false }
noncomputable def laT (x : Str) (e : Expr) : LamT := ⟨x ++ ".<locals>." ++ "<lambda>", laArgs e, .expr (laBody e), laScope e⟩
end FL
namespace FL
open PySem PySem.Spec PyProof.Rows L2
section
variable {X : Cx}
end
end FL
namespace FL
open PySem PySem.Spec PyProof.Rows L2
open PySem.W (tabIn CodeHd tabObj makeFunction_K makeFunction_hit fnMade fnX nestDef_K kla_callFunE envX)
abbrev deadCx (X : Cx) : Cx := { X with fn := fun _ => false }
section
variable {X : Cx} {pins : List (Addr × Obj)} {σ : L2.St} {H : Hp} {s : Shared}
theorem inv_dead (I : Inv X pins σ H s) : Inv (deadCx X) pins σ H s := by
  have ok := I.ok
  exact ⟨⟨ok.mod, ok.kind, ok.glob, ok.blt, ok.above, ok.inj, ok.has, (fun x c hf => by cases hf), ok.hd, ok.frames, ok.stk, ok.exf, ok.bs, ok.bsz, ok.noex, ok.exfs, ok.funs, ok.frf⟩, I.os, I.bare, I.base, I.loc, I.cell, I.free, fun x c e => (I.freeC x c e).imp id fun z => ⟨rfl, z.2⟩, I.pin, I.hok, I.len⟩
theorem sp_dead {D : Ends} {f : Flow} (h : SP X pins D f s) : SP (deadCx X) pins D f s := by
  cases f with
  | next => obtain ⟨σ', H', I, q⟩ := h; exact ⟨σ', H', inv_dead I, q⟩
  | brk => obtain ⟨σ', H', I, q⟩ := h; exact ⟨σ', H', inv_dead I, q⟩
  | cont => obtain ⟨σ', H', I, q⟩ := h; exact ⟨σ', H', inv_dead I, q⟩
  | ret u => obtain ⟨v, σ', H', I, r, q⟩ := h; exact ⟨v, σ', H', inv_dead I, r, q⟩
end
def PSd (X : Cx) (st : List Stmt) (t : TS) : Prop :=
  ∀ (pins : List (Addr × Obj)) (s : Shared) (σ : L2.St) (H : Hp) (D : Ends), Inv X pins σ H s → t D σ H → wpAny (model X.prog X.w) X.A (execs st X.env) (SP (deadCx X) pins D) X.xe s
def PSdv (X : Cx) (st : List Stmt) (g : FS) : Prop := ∃ t, PSd X st t ∧ ∀ H₀ H O σ ds hd out E, Ok X.K H₀ H O σ ds hd → g ds = some out → After X H₀ hd E out → t E σ H
section
variable {X : Cx}
theorem psd_cons {st : Stmt} {rest : List Stmt} {t u : TS} (h1 : PS X st t) (h2 : PSd X rest u) : PSd X (st :: rest) (tSeq t u) := by
  intro pins s σ H D I h
  refine wpAny_execs_cons (thn (h1 pins s σ H { D with nx := u D } I h) fun f s1 q => ?_)
  cases f with
  | next =>
    obtain ⟨σ', H', I', q⟩ := q
    exact h2 pins s1 σ' H' D I' q
  | ret v => exact sp_dead (D := D) (f := .ret v) (by obtain ⟨v, σ', H', I', r, q⟩ := q; exact ⟨v, σ', H', I', r, q⟩)
  | brk => exact sp_dead (D := D) (f := .brk) (by obtain ⟨σ', H', I', q⟩ := q; exact ⟨σ', H', I', q⟩)
  | cont => exact sp_dead (D := D) (f := .cont) (by obtain ⟨σ', H', I', q⟩ := q; exact ⟨σ', H', I', q⟩)
theorem psdv_cons {st : Stmt} {rest : List Stmt} {f g : FS} (h1 : PSv X st f) (h2 : PSdv X rest g) : PSdv X (st :: rest) (seqG f g) := by
  obtain ⟨t, ht, hf⟩ := h1
  obtain ⟨u, hu, hg⟩ := h2
  refine ⟨_, psd_cons ht hu, fun H₀ H O σ ds hd out E o e h => ?_⟩
  unfold seqG at e
  obtain ⟨o1, h1, e⟩ := bnd e
  refine hf H₀ H O σ ds hd o1 _ o h1 ?_
  cases o1 with
  | nx ds' => exact fun σ' H' O' o' => hg H₀ H' O' σ' ds' hd out E o' e h
  | rt r => cases e; exact h
  | bk ds' => cases e; exact h
  | ct ds' => cases e; exact h
theorem psdv_dead {st : List Stmt} {g : FS} (h : PSsv (deadCx X) st g) : PSdv X st g := by
  obtain ⟨t, ht, hf⟩ := h
  exact ⟨t, fun pins s σ H D I h' => ht pins s σ H D (inv_dead I) h', hf⟩
end
theorem fun_okD {P : Program} {w : World} {K : Frag} {mg : Str → Option Value} {base : Heap} {x qual : Str} {st : Stmt} {f c B : Addr} {fd : FuncData} {N ps : List Str} {k m : Nat} {F : List D → Option Ret} (Fn : Fun K x qual st f fd) (S : FnScope N ps (defScope st)) (M : Mkr K x m st f c B)
    {g : FS} (hbody : ∀ (A : Around) (outer : List Env) (s : Shared) (H : Hp) (E : XK), Room k (A.deeper (envOfC qual (defScope st) s.heap.objs.size f (.ref c))) → PSdv (cxOf CX0 P w K mg base N qual (defScope st) f (.ref c) A outer s H E).nox (defBody st) g)
    (hg : ∀ ds r, ds.length = ps.length → F ds = some r → Does g N.length ds r) : FnOk P w K mg base CX0 (k + 1) f fd ps (spF K ps.length F) := by
  obtain ⟨oc, od, kV, doc, pm, an, cdv, ct, osl, rfl, lk, hcd⟩ := Fn.ex
  obtain rfl : cdv = .ref c := M.cd _ _ _ _ lk
  refine ⟨fun vs H Q E h => h.1, fun A outer s H args us vs Q E hr e0 hb r hsp => ?_⟩
  obtain ⟨hl, ds, rr, rv, e, q⟩ := hsp
  have KX : K.In s.heap := e0.mod.kin.keeps fun b o e => (e0.bs b o e).1
  have lim : s.heap.NoLimit := e0.mod.nolimit.keeps fun b o e => (e0.bs b o e).1
  have hkind : ∀ y ∈ ps.zip us, (defScope st).names.lookup y.1 = some .local ∨ ((defScope st).names.lookup y.1 = some .cell ∧ ((cellsFrom (s.heap.objs.size + 1) (defScope st).names []).lookup y.1).isSome = true) := fun ⟨n, v⟩ hy => by
    rcases S.par n (List.of_mem_zip hy).1 with q | q
    · exact .inl q
    · exact .inr ⟨q, PySem.W.cellsFrom_some _ _ _ (.inl q)⟩
  refine codeAny_call_function hr.depth (KX _ _ lk) rfl S.co S.gen rfl (PySem.W.codeRec_of KX hcd) (hb _ _ _ _ ?_)
  refine wpAny_newFunctionEnv_cells S.kind hkind fun env he s1 x => ?_
  subst he
  refine ⟨lim.keeps x.toInCall.keep, codeAny_func ?_⟩
  obtain ⟨t, ht, hf⟩ := hbody A outer s H E (hr.deeper _)
  have I : Inv (cxOf CX0 P w K mg base N qual (defScope st) f (.ref c) A outer s H E).nox [] (L2.start N vs) H s1 := (inv_start S hr.hd e0 hl r x).wish _
  have o := ok_start (N := N) rv
  have hq : t { nx := fun _ H' => Q .non H', rt := Q } (L2.start N vs) H := by
    rcases hg ds rr (by rw [← rv.length]; exact hl) e with e' | ⟨rfl, ds', e'⟩
    · exact hf H H none0 _ _ [] _ _ o e' (fun v H' s r _ => q v H' s r)
    · exact hf H H none0 _ _ [] _ _ o e' (fun σ H' O o' => q .non H' o'.same .non)
  refine wpAny_mono (ht [] s1 (L2.start N vs) H _ I hq) (fun fl s' hs => ?_) fun e s' hs => False.elim hs
  cases fl with
  | ret u =>
    obtain ⟨v, σ', H', J, rv', q'⟩ := hs
    exact ⟨v, H', J.os, J.bare, J.base, J.hok, rv', q'⟩
  | next =>
    obtain ⟨σ', H', J, q'⟩ := hs
    exact ⟨V.non, H', J.os, J.bare, J.base, J.hok, rfl, q'⟩
  | brk =>
    obtain ⟨_, _, _, q⟩ := hs
    exact False.elim q
  | cont =>
    obtain ⟨_, _, _, q⟩ := hs
    exact False.elim q
theorem cells_ge {m : Nat} : ∀ (names : List (Str × NameKind)) (n : Nat) (acc : List (Str × Addr)), m ≤ n → (∀ p ∈ acc, m ≤ p.2) → ∀ p ∈ cellsFrom n names acc, m ≤ p.2
  | [], _, _, _, h => h
  | (x, k) :: r, n, acc, hn, h => by
    unfold cellsFrom
    split
    · exact cells_ge r (n + 1) _ (Nat.le_succ_of_le hn) fun p hp => (List.mem_cons.mp hp).elim (fun e => by rw [e]; exact hn) (h p)
    · exact cells_ge r n acc hn h
def Young (X : Cx) : Prop := ∀ x c, X.env.cells.lookup x = some c → X.s₀.heap.objs.size ≤ c
theorem young_cx {CX : CXT} {P : Program} {w : World} {K : Frag} {mg : Str → Option Value} {base : Heap} {N : List Str} {qual : Str} {scope : Scope} {f : Addr} {cd : Value} {A : Around} {outer : List Env} {s : Shared} {H : Hp} {E : XK} :
    Young (deadCx (cxOf CX P w K mg base N qual scope f cd A outer s H E).nox) := fun x c h =>
  Nat.le_of_succ_le (cells_ge (m := s.heap.objs.size + 1) scope.names (s.heap.objs.size + 1) [] (Nat.le_refl _) (fun p hp => by cases hp) _ (PySem.mem_of_lookup h))
noncomputable def lendN (h : Heap) (cs : List Addr) (H : Hp) : Hp := fun b => if b ∈ cs then (match H b with | none => (h.get? b).map fun o => .frz o exT | some u => some u) else H b
theorem lendN_ne {h : Heap} {cs : List Addr} {H : Hp} {b : Addr} (hb : b ∉ cs) : lendN h cs H b = H b := by unfold lendN; rw [if_neg hb]
theorem lendN_old {h : Heap} {cs : List Addr} {H : Hp} {b : Addr} {u : HO} (e : H b = some u) : lendN h cs H b = some u := by
  unfold lendN
  split
  · rw [e]
  · exact e
theorem lendN_new {h : Heap} {cs : List Addr} {H : Hp} {b : Addr} {o : Obj} (hb : b ∈ cs) (n : H b = none) (e : h.get? b = some o) : lendN h cs H b = some (.frz o exT) := by unfold lendN; rw [if_pos hb, n, e]; rfl
section
variable {X : Cx} {pins : List (Addr × Obj)} {σ : L2.St} {H : Hp} {s : Shared} {cs : List Addr}
theorem adopt_cells (I : Inv X pins σ H s) (hcs : ∀ c ∈ cs, ∃ x, X.env.cells.lookup x = some c) (hfn : ∀ x, X.fn x = false) (hy : Young X) :
    Inv X pins σ (lendN s.heap cs H) s ∧ Same H (lendN s.heap cs H) ∧ ∀ c ∈ cs, ∃ o u, lendN s.heap cs H c = some (.frz o u) := by
  have ci : ∀ c ∈ cs, (∃ o v, s.heap.get? c = some o ∧ o.data = .cell v) ∧ X.s₀.heap.objs.size ≤ c ∧ c ≠ X.env.locals ∧ ∃ o u, lendN s.heap cs H c = some (.frz o u) := fun c hc => by
    obtain ⟨x, hx⟩ := hcs c hc
    obtain ⟨v, o, ho, hd⟩ := I.cell x c hx
    refine ⟨⟨o, v, ho, hd⟩, hy x c hx, I.cne x c hx, ?_⟩
    rcases I.freeC x c hx with n | ⟨_, o', u', e⟩
    · exact ⟨_, _, lendN_new hc n ho⟩
    · exact ⟨_, _, lendN_old e⟩
  have sm : Same H (lendN s.heap cs H) := fun b u e => lendN_old e
  refine ⟨⟨I.ok, I.os, I.bare, ⟨I.base.keep, I.base.slot, fun b o e n hx => ?_, I.base.there, fun b xs e => sm _ _ (I.base.tups b xs e), fun b o u e => sm _ _ (I.base.frzs b o u e), fun b q e => sm _ _ (I.base.tbls b q e)⟩, I.loc, I.cell, ?_, fun x c e => ?_, fun p hp => ?_, fun b u e => ?_, I.len⟩, sm, fun c hc => (ci c hc).2.2.2⟩
  · rw [lendN_ne fun z => ?_]
    · exact I.base.free b o e n hx
    · exact absurd (Nat.lt_of_lt_of_le (Heap.lt_size e) (ci b z).2.1) (Nat.lt_irrefl _)
  · rw [lendN_ne fun z => (ci _ z).2.2.1 rfl]; exact I.free
  · by_cases hc : c ∈ cs
    · exact .inr ⟨hfn x, (ci c hc).2.2.2⟩
    · unfold FreeC
      rw [lendN_ne hc]
      exact I.freeC x c e
  · obtain ⟨q1, q2, q3, q4, q5⟩ := I.pin p hp
    refine ⟨q1, ?_, q3, q4, q5⟩
    rw [lendN_ne fun z => ?_]
    · exact q2
    · obtain ⟨o, v, ho, hd⟩ := (ci _ z).1
      rw [q1] at ho
      cases ho
      exact q5 v hd
  · cases hb : H b with
    | some u' =>
      rw [lendN_old hb] at e
      cases e
      exact (I.hok b u hb).stay (fun _ _ _ q => q) (fun c q => sm _ _ q) fun c xs q => sm _ _ q
    | none =>
      by_cases hc : b ∈ cs
      · obtain ⟨o, v, ho, _⟩ := (ci b hc).1
        rw [lendN_new hc hb ho] at e
        cases e
        exact ⟨ho, trivial, ⟨_, ho⟩, fun _ _ _ _ => trivial⟩
      · rw [lendN_ne hc, hb] at e; cases e
theorem closF_of {H₀ : Hp} {O : Addr → Prop} {ds : List Sl} {hd : Hold} (I : Inv X pins σ H s) (o : Ok X.K H₀ H O σ ds hd) :
    ∀ {cl : List (Str × Addr)} {is : List Nat} {caps : List D}, (∀ p ∈ cl, X.env.cells.lookup p.1 = some p.2 ∧ X.env.kindOf p.1 = some .cell ∧ ∃ o u, H p.2 = some (.frz o u)) → (is.map fun i => X.N[i]?) = (cl.map (·.1)).map some → capsA is ds = some caps →
      ∃ xs, ClosOk H O cl xs ∧ Reps X.K H O xs caps
  | [], [], caps, _, _, e => by cases e; exact ⟨[], .nil, .nil⟩
  | [], _ :: _, _, _, h, _ => by cases h
  | _ :: _, [], _, _, h, _ => by cases h
  | p :: cl, i :: is, caps, hcl, h, e => by
    simp only [List.map_cons, List.cons.injEq] at h
    unfold capsA at e
    obtain ⟨d, h1, e⟩ := bnd e
    obtain ⟨l, h2, rfl⟩ := mpd e
    obtain ⟨xs, k1, k2⟩ := closF_of I o (fun q hq => hcl q (List.mem_cons_of_mem _ hq)) h.2 h2
    have hsl : ds[i]? = some (.v d) := by
      unfold getV at h1
      split at h1
      · rename_i d' hd'; cases h1; exact hd'
      · cases h1
    obtain ⟨v, hv, rv⟩ := o.read hsl
    obtain ⟨c1, c2, of, uf, c3⟩ := hcl p List.mem_cons_self
    obtain ⟨m, hn, hl⟩ := I.loc
    obtain ⟨u, ru, lk⟩ := hl i p.1 v h.1 hv (.inr (.inl c2))
    have hcell : of.data = .cell (some u) := by
      obtain ⟨e1, _⟩ := I.hok p.2 _ c3
      rcases lk with ⟨kl, _⟩ | ⟨_, c', ec, oc, hoc, hocd⟩
      · rw [c2] at kl; cases kl
      · rw [c1] at ec; cases ec; rw [e1] at hoc; cases hoc; exact hocd
    refine ⟨v :: xs, .cons (n := p.1) (c := p.2) (fun z => ?_) c3 hcell ru k1, .cons rv k2⟩
    obtain ⟨zs, ez⟩ := o.dom _ z
    rw [c3] at ez
    have h2 := zs.2
    rw [← Option.some.inj ez] at h2
    cases h2
end
section
variable {X : Cx}
theorem clo_made {pins : List (Addr × Obj)} {σ : L2.St} {H H1 H₀ : Hp} {s1 : Shared} {O : Addr → Prop} {ds : List Sl} {hd : Hold} {m j : Nat} {is : List Nat} {t : LamT} {f : Addr} {caps : List D} (htx : textIn X.K m j = some t) (ck : lamCk t.scope X.env.scope is X.N = true) (hfn : ∀ x, X.fn x = false) (hy : Young X)
    (I1 : Inv X pins σ H1 s1) (o : Ok X.K H₀ H O σ ds hd) (sm : Same H H1) (la : LamAt H1 none0 f t (closL X.env t.scope.names [])) (hc : capsA is ds = some caps) : ∃ H2, Inv X pins σ H2 s1 ∧ Same H1 H2 ∧ Rep X.K H2 O (.ref f) (.clo m j caps) := by
  unfold lamCk at ck
  simp only [Bool.and_eq_true, decide_eq_true_eq] at ck
  have hfree : ∀ y ∈ t.scope.names, y.2 = NameKind.free → X.env.kindOf y.1 = some .cell := fun y hy hk => by
    have := List.all_eq_true.mp ck.1.1 y hy
    rw [hk] at this
    simp only [bne_self_eq_false, Bool.false_or, beq_iff_eq] at this
    exact this
  have hcell : ∀ pr ∈ closL X.env t.scope.names [], X.env.cells.lookup pr.1 = some pr.2 ∧ X.env.kindOf pr.1 = some .cell := fun pr hp => by
    rcases closL_mem _ _ pr hp with z | z
    · cases z
    · exact ⟨z.1, hfree _ z.2 rfl⟩
  have hnm : (closL X.env t.scope.names []).map (·.1) = freeR t.scope.names := by
    have := closL_names (env := X.env) t.scope.names [] fun y hy hk => I1.ok.has y.1 (.inl (hfree y hy hk))
    simpa using this
  obtain ⟨I2, sm2, hfz⟩ := adopt_cells (cs := (closL X.env t.scope.names []).map (·.2)) I1 (fun c hc => by
    obtain ⟨pr, hp, rfl⟩ := List.mem_map.mp hc
    exact ⟨pr.1, (hcell pr hp).1⟩) hfn hy
  have o2 := (o.mono sm).mono sm2
  obtain ⟨xs, hcl, hxs⟩ := closF_of I2 o2 (fun p hp => ⟨(hcell p hp).1, (hcell p hp).2, hfz _ (List.mem_map_of_mem hp)⟩) (by rw [hnm]; exact ck.2) hc
  refine ⟨_, I2, sm2, .clo htx (LamAt.of (fun a ob u e z => ?_) (la.mono sm2)) hnm (nodup_snd (by rw [hnm]; exact ck.1.2) fun a ha b hb e => I2.ok.inj a.1 b.1 a.2 (hcell a ha).1 (by rw [e]; exact (hcell b hb).1)) hcl hxs⟩
  obtain ⟨zs, ez⟩ := o2.dom _ z
  rw [e] at ez
  have h2 := zs.2
  rw [← Option.some.inj ez] at h2
  cases h2
theorem lamCk_free {sc esc : Scope} {is : List Nat} {N : List Str} (ck : lamCk sc esc is N = true) : ∀ y ∈ sc.names, y.2 = NameKind.free → esc.names.lookup y.1 = some .cell := fun y hy hk => by
  unfold lamCk at ck
  simp only [Bool.and_eq_true] at ck
  have := List.all_eq_true.mp ck.1.1 y hy
  rw [hk] at this
  simp only [bne_self_eq_false, Bool.false_or, beq_iff_eq] at this
  exact this
theorem pv_lamD {params : Arguments} {body : Expr} {scope : Scope} {pos : Pos} {y : Str} {m j : Nat} {st : Stmt} {f c P : Addr} {is : List Nat} (M : Mkr X.K y m st f c P) (hy : Young X) (htx : (lamsOf y (defBody st))[j]? = some ⟨y ++ ".<locals>." ++ "<lambda>", params, .expr body, scope⟩) (ck : lamCk scope X.env.scope is X.N = true)
    (hfn : ∀ x, X.fn x = false := by exact fun _ => rfl) (hcode : X.env.code = .ref c := by rfl) (hqu : X.env.qual = y ++ ".<locals>." := by rfl) (hi : innerN (defBody st) pos.line pos.col = "<lambda>" := by rfl) (hdef : defaultsOf params X.env = ([], []) := by rfl) :
    PV X (.Lambda params body scope pos) (cloV m j is) := by
  refine ⟨fun σ H Q => ∀ pins s, Inv X pins σ H s → wpAny (model X.prog X.w) X.A (eval (.Lambda params body scope pos) X.env) (EP X pins σ Q) X.xe s, fun pins s σ H Q I h => h pins s I, fun H₀ H O σ ds hd d Q o ee q pins s I => ?_⟩
  unfold cloV at ee
  obtain ⟨caps, hc, rfl⟩ := mpd ee
  refine thn (pe_lam (x := y) (List.mem_of_getElem? M.mem) M.tab hcode (by rw [M.inq, hi, hqu]) hdef (fun z hz hk => .inl (lamCk_free ck z hz hk)) pins s σ H (fun v H1 => ∃ f', v = .ref f' ∧ Same H H1 ∧ LamAt H1 none0 f' ⟨X.env.qual ++ "<lambda>", params, .expr body, scope⟩ (closL X.env scope.names [])) I fun f' H1 sm la => ⟨f', rfl, sm, la⟩) fun u s1 zq => ?_
  obtain ⟨v, H1, I1, rv, f', e, sm, la⟩ := zq
  subst e
  rw [hqu] at la
  obtain ⟨H2, I2, sm2, rp⟩ := clo_made ((M.tx j).trans htx) ck hfn hy I1 o sm la hc
  exact ⟨_, H2, I2, rv, q _ H2 (sm.trans sm2) rp⟩
theorem Rep.flattenC {K : Frag} {H : Hp} {O O' : Addr → Prop} {v : V} {d : D} (ho : ∀ a, O a → Old H a) (h : flatC d = true) (r : Rep K H O' v d) : Rep K H O v d := by
  have k : ∀ a o u, H a = some (.frz o u) → ¬ O a := fun a o u e z => by
    obtain ⟨w, e2, m⟩ := ho a z
    rw [e] at e2; cases e2; cases m
  cases r with
  | clo tx la e nd hc rx => exact .clo tx (la.of k) e nd (hc.of k) (Reps.flatten ho h rx)
  | fnK hk => exact .fnK hk
  | non => exact .non
  | bl b => exact .bl b
  | int i => exact .int i
  | str x => exact .str x
  | tup n h' r => exact Rep.flatten ho h (.tup n h' r)
  | tupK h' r => exact Rep.flatten ho h (.tupK h' r)
  | lst n h' r => exact Rep.flatten ho h (.lst n h' r)
  | lstK h' r => exact Rep.flatten ho h (.lstK h' r)
  | dct n h' e r => exact Rep.flatten ho h (.dct n h' e r)
  | dcf n h' e r => exact Rep.flatten ho h (.dcf n h' e r)
  | ins c n h' e r => exact Rep.flatten ho h (.ins c n h' e r)
theorem psv_retC {e : Expr} {pos : Pos} {f : FE} (he : PV X e f) : PSv X (.Return (some e) pos) (retCG f) := by
  obtain ⟨t, ht, hg⟩ := he
  refine ⟨_, ps_ret ht, fun H₀ H O σ ds hd out E o e h => ?_⟩
  unfold retCG at e
  obtain ⟨d, h1, e⟩ := bnd e
  split at e
  · rename_i hf
    cases e
    exact hg H₀ H O σ ds hd d _ o h1 fun v H' s r => h _ _ (o.same.trans s) (Rep.flattenC (fun a z => Old.mono (o.same.trans s) z) hf r) True.intro
  · cases e
end
theorem LamGood.mono {P : Program} {w : World} {K : Frag} {mg : Str → Option Value} {base : Heap} {j k m n : Nat} {F : List D → List D → Option Ret} (h : LamGood P w K mg base j m n F) (hj : j ≤ k) : LamGood P w K mg base k m n F :=
  fun A outer s H f caps us vs as r Q hr => h A outer s H f caps us vs as r Q (hr.mono hj)
end FL
namespace FL
open PySem PySem.Spec PyProof.Rows L2
section
variable {X : Cx} {tg : Expr}
end
section
variable {X : Cx}
end
end FL
namespace FL
open PySem PySem.Spec PyProof.Rows L2
open PySem.W (tabIn CodeHd)
section
variable {X : Cx}
end
section
variable {X : Cx} {E : XK} {C : Addr}
end
section
variable {X : Cx} {k j : Nat} {n : Nat} {F : List D → Option Ret} {x : Str} {p pos : Pos} {e : Expr} {es : List Expr} {g : FA}
theorem pvd_callC (C : Cal X.prog X.w X.K X.mg X.base x k n F) (hr : Room j X.A) (ha : PAn X (e :: es) g) (hj : k ≤ j := by decide)
    (hg : Gl X x := by rfl) (hdb : (x == ("__debug__" : Str)) = false := by decide) (he : starEach (e :: es) X.env = (false, eval e X.env) :: starEach es X.env := by rfl) (hpl : (backTo pos (starEach es X.env)).any (·.1) = false := by rfl) :
    PVd X (.Call (.Name x p) (e :: es) [] pos) (callV n F g) := by
  obtain ⟨f, fd, ps, Fn, hb, hk, hm⟩ := C.ex
  obtain ⟨t, ht, hf⟩ := ha
  refine ⟨_, pe_call (CX := CX0) (E := E0) Fn (hr.mono hj) hg hm hk hb .nil pass0 ht hdb he hpl, fun H₀ H O σ ds hd d Q o e q => ?_⟩
  unfold callV at e
  obtain ⟨l, h, e⟩ := bnd e
  split at e
  · rename_i hln
    obtain ⟨r, h2, e⟩ := bnd e
    refine hf H₀ H O σ ds hd l _ o h fun vs H1 s1 r1 => ?_
    have hl := r1.length
    refine ⟨by simp only [List.append_nil]; omega, l, r, by simpa using r1, h2, fun v H' s' ro => q v H' (s1.trans s') ?_⟩
    exact retV_ok ro e fun a ha => Old.mono s1 ha
  · cases e
end
end FL
namespace FL
open PySem PySem.Spec PyProof.Rows L2
section
variable {X : Cx} {E : XK} {C : Addr}
end
section
variable {X : Cx} {E : XK} {C : Addr}
end
end FL
namespace L2
open PySem PySem.Spec PyProof.Rows
section
variable {X : Cx}
end
end L2
namespace FL
open PySem PySem.Spec PyProof.Rows L2
section
variable {X : Cx} {E : XK} {C : Addr}
end
section
variable {X : Cx}
end
end FL
namespace L2
open PySem PySem.Spec PyProof.Rows
open Builtin Builtin.Str
section
variable {X : Cx}
end
end L2
namespace FL
open PySem PySem.Spec PyProof.Rows L2
section
variable {X : Cx}
section
variable {o e : Expr} {apos cpos : Pos} {f g : FE} {name : Str} {id : String}
end
end
end FL
namespace FL
open PySem PySem.Spec PyProof.Rows L2
section
variable {X : Cx} {E : XK} {C : Addr}
theorem pe_or {e : Expr} {t u : TE} (h1 : PE X e t) (h2 : PE X e u) : PE X e (fun σ H Q => t σ H Q ∨ u σ H Q) := fun pins s σ H Q I h => h.elim (h1 pins s σ H Q I) (h2 pins s σ H Q I)
section
variable {x : Str} {p pos : Pos} {e : Expr} {t k j : Nat} {G : List D → Option (List D)} {y : List Sl → Bool}
end
end
end FL
namespace L2
open PySem PySem.Spec PyProof.Rows
section
variable {prog : Program} {w : World} {A : Around} {E : Value → Shared → Prop} {s : Shared}
theorem isList_sameBut {h h' : Heap} {l it : Addr} {items : Array Value} (hl : h.IsList l items) (hs : Heap.SameBut it h h') (hne : l ≠ it) : h'.IsList l items := by
  obtain ⟨o, ho, r⟩ := hl
  exact ⟨o, (hs.2 l hne).trans ho, r⟩
theorem draw_list {it l : Addr} {items : Array Value} (hne : l ≠ it) : ∀ (n i : Nat) (s : Shared) (Q : List Value → Shared → Prop), s.heap.IsListIter it l i → s.heap.IsList l items → i + n ≤ items.size →
    (∀ h', h'.IsListIter it l (i + n) → Heap.SameBut it s.heap h' → Q ((items.toList.drop i).take n) { s with heap := h' }) → wpAny (model prog w) A (draw (.ref it) n) Q E s
  | 0, i, s, Q, hit, _, _, hQ => by
    show wpAny _ _ (pure []) Q E s
    exact wpAny_pure (by simpa using hQ s.heap hit (Heap.SameBut.refl ..))
  | n + 1, i, s, Q, hit, ht, hle, hQ => by
    have hlt : i < items.size := by omega
    show wpAny _ _ (pyNext (.ref it) >>= _) Q E s
    refine wpAny_bind (wpAny_pyNext_list_item hit ht (x := items[i]) (by simp [hlt]) fun h₁ hit₁ hs₁ => ?_)
    refine wpAny_bind (wpAny_holding (draw_list hne n (i + 1) _ _ hit₁ (isList_sameBut ht hs₁ hne) (by omega) fun h₂ hit₂ hs₂ => wpAny_pure ?_))
    have hd : items.toList.drop i = items[i] :: items.toList.drop (i + 1) := by simp [List.drop_eq_getElem_cons, hlt]
    have := hQ h₂ (by rw [show i + (n + 1) = i + 1 + n by omega]; exact hit₂) (hs₁.trans hs₂)
    rw [hd, List.take_succ_cons] at this
    exact this
theorem unpackItems_list {l : Addr} {items : Array Value} {Q : List Value → Shared → Prop} (hh : A.handled = none) (ht : s.heap.IsList l items)
    (hQ : ∀ h', Heap.ExtBut s.heap.objs.size s.heap h' → Q items.toList { s with heap := h' }) : wpAny (model prog w) A (unpackItems (.ref l) items.size none) Q E s := by
  have hlt : l ≠ s.heap.objs.size := by obtain ⟨o, ho, _⟩ := ht; exact Nat.ne_of_lt (Heap.lt_size ho)
  unfold unpackItems
  refine wpAny_bind ?_
  · unfold notIterableAtAll
    refine wpAny_bind (wpAny_specialOf ht.typeIs F.slot_list_iter.lookup ?_)
    refine wpAny_pure ?_
    simp only [Bool.false_eq_true, if_false]
    refine wpAny_bind (wpAny_holding (wpAny_pyIter_list ht ?_))
    refine wpAny_bind (wpAny_holding (draw_list hlt items.size 0 _ _ ⟨_, Heap.get?_push_size _ rfl, rfl, rfl⟩ (ht.push _) (by omega) fun h₁ hit₁ hs₁ => ?_))
    have hall : List.take items.size (List.drop 0 items.toList) = items.toList := by
      rw [List.drop_zero]; exact List.take_of_length_le (by simp)
    rw [hall]
    rw [if_neg (by simp)]
    have ht₁ : h₁.IsList l items := isList_sameBut (ht.push _) hs₁ hlt
    refine wpAny_bind (wpAny_holding (wpAny_pyNext_list_end hh hit₁ ht₁ (by simp) fun h₂ he₂ => ?_))
    simp only [Option.isSome_none, Bool.false_eq_true, if_false]
    refine wpAny_pure (hQ h₂ fun b o hb e => he₂ b o hb (hs₁.extBut b o hb (Heap.get?_push_of_some _ e)))
theorem assign_Tuple_list {env : Env} {elts : List Expr} {x1} {pos : Pos} {l : Addr} {items : Array Value} {Q : Unit → Shared → Prop} (hh : A.handled = none) (ht : s.heap.IsList l items)
    (hn : (assignEach elts env).length = items.size) (hstar : (assignEach elts env).findIdx? (·.1) = none)
    (h : ∀ h', Heap.ExtBut s.heap.objs.size s.heap h' → wpAny (model prog w) A (assignInOrder ((assignEach elts env).map (·.2)) items.toList) Q E { s with heap := h' }) :
    wpAny (model prog w) A (assign (.Tuple elts x1 pos) env (.ref l)) Q E s := by
  rw [arm_assign_Tuple]
  refine wpAny_bind (wpAny_standAt ?_)
  unfold unpack
  rw [hn, hstar]
  exact wpAny_bind (wpAny_holding (unpackItems_list hh ht h))
end
section
variable {X : Cx} {pos : Pos}
def gLst (K : PySem.W.Frag) (n : Nat) (t : TGs) : TG := fun v σ H Q => ∃ a xs, v = .ref a ∧ SqL K H a xs ∧ xs.length = n ∧ t xs σ H Q
theorem pg_lst {es : List Expr} {k : Nat} {t : TGs} {n : Nat} (hc : X.calm = true) (h : PGs X es t)
    (hn : (assignEach es X.env).length = n := by rfl) (hst : (assignEach es X.env).findIdx? (·.1) = none := by rfl) : PG X (.Tuple es k pos) (gLst X.K n t) := by
  intro pins s σ H v u Q I r hw
  obtain ⟨a, xs, e1, hq, hl, hw⟩ := hw
  subst e1
  cases r
  obtain ⟨its, rv, pl, hz⟩ := I.list hq
  refine assign_Tuple_list (I.ok.hd hc) pl.isList (by simp [hn, ← hl, rv.length]) hst fun h' hx => ?_
  have I1 : Inv X pins σ H { s with heap := h' } := I.kept (t' := s.toks) fun b o e => hx b o (Nat.ne_of_lt (Heap.lt_size e)) e
  exact h pins _ σ H xs _ Q I1 (by simpa using rv) hw
end
end L2
namespace FL
open PySem PySem.Spec PyProof.Rows L2
section
variable {X : Cx}
theorem pgv_lst {es : List Expr} {k : Nat} {pos : Pos} {h : List D → List Sl → Option (List Sl)} {n : Nat} (hc : X.calm = true) (hh : PGsv X es h)
    (hn : (assignEach es X.env).length = n := by rfl) (hst : (assignEach es X.env).findIdx? (·.1) = none := by rfl) : PGv X (.Tuple es k pos) (lstG n h) := by
  obtain ⟨t, ht, hf⟩ := hh
  refine ⟨_, pg_lst hc ht hn hst, fun H₀ H O σ ds hd v d ds' Q o r e q => ?_⟩
  cases d with
  | lst l =>
    simp only [lstG] at e
    split at e
    · rename_i hl
      obtain ⟨a, xs, rfl, hs, rs⟩ := WRep.seqL (.inl r)
      exact ⟨a, xs, rfl, hs, by rw [rs.length]; exact hl, hf H₀ H O σ ds hd xs l ds' Q o rs e q⟩
    · cases e
  | _ => cases e
end
end FL
namespace FL
open PySem PySem.Spec PyProof.Rows L2
section
variable {K : Frag} {H H' H₀ : Hp} {O O' : Addr → Prop}
abbrev orL (fs : List Addr) (O : Addr → Prop) : Addr → Prop := fun b => b ∈ fs ∨ O b
theorem Rep.moreL {v : V} {d : D} : ∀ {ps : List Addr}, (∀ p ∈ ps, H p = none) → Rep K H O v d → Rep K H (orL ps O) v d
  | [], _, h => h.less fun a z => z.elim (fun q => nomatch q) id
  | p :: ps, hp, h => ((Rep.moreL (ps := ps) (fun q hq => hp q (.tail _ hq)) h).more (p := p) (hp p (.head _))).less fun a z => z.elim (fun q => (List.mem_cons.mp q).elim .inl fun q => .inr (.inl q)) fun q => .inr (.inr q)
theorem Reps.moreL {v : List V} {d : List D} : ∀ {ps : List Addr}, (∀ p ∈ ps, H p = none) → Reps K H O v d → Reps K H (orL ps O) v d
  | [], _, h => h.less fun a z => z.elim (fun q => nomatch q) id
  | p :: ps, hp, h => ((Reps.moreL (ps := ps) (fun q hq => hp q (.tail _ hq)) h).more (p := p) (hp p (.head _))).less fun a z => z.elim (fun q => (List.mem_cons.mp q).elim .inl fun q => .inr (.inl q)) fun q => .inr (.inr q)
theorem RepO.moreL {v : V} {t : OT} {fs : List Addr} : ∀ {ps : List Addr}, (∀ p ∈ ps, H p = none) → RepO K H O v t fs → RepO K H (orL ps O) v t fs
  | [], _, h => h.less (fun a z => z.elim (fun q => nomatch q) id) fun b hb => .inr (h.owns b hb).1
  | p :: ps, hp, h => ((RepO.moreL (ps := ps) (fun q hq => hp q (.tail _ hq)) h).more (p := p) (hp p (.head _))).less (fun a z => z.elim (fun q => (List.mem_cons.mp q).elim .inl fun q => .inr (.inl q)) fun q => .inr (.inr q)) fun b hb => .inr (h.owns b hb).1
theorem Ok.moreL {σ : L2.St} {ds : List Sl} {hd : Hold} {fs : List Addr} (o : Ok K H₀ H O σ ds hd) (s : Same H H') (hn : ∀ b ∈ fs, H b = none) (hl : ∀ b ∈ fs, ∃ u : MutHO, H' b = some u.1) : Ok K H₀ H' (orL fs O) σ ds hd := by
  refine ⟨o.same.trans s, o.fresh, fun b hb => hb.elim (hl b) fun z => let ⟨xs, e⟩ := o.dom b z; ⟨xs, s _ _ e⟩, o.len, fun i sl e => ?_, o.apart, fun p hp => ?_, o.obs.tr (fun _ _ _ r _ => (r.moreL hn).mono s) (fun _ _ _ e => ⟨e, rfl⟩) fun _ _ oj ej => .inl ⟨oj, ej⟩⟩
  · cases sl with
    | no => exact slOk_no
    | ob r t => exact slOk_ob
    | exc t =>
      obtain ⟨a', C', ob', u', q1, q2, q3, q4⟩ := o.readX e
      rw [q1]
      exact ⟨C', ob', u', q2, s _ _ q3, q4⟩
    | fr l' =>
      obtain ⟨a', xs', q1, q2, q0, q3, q4⟩ := o.readF e
      rw [q1]
      exact ⟨fun z => z.elim (fun z => by rw [hn _ z] at q3; cases q3) q2, q0, xs', s _ _ q3, (q4.moreL hn).mono s⟩
    | v d =>
      obtain ⟨v, h1, h2⟩ := o.read e
      rw [h1]
      exact slOk_v ((h2.moreL hn).mono s)
    | own l' =>
      obtain ⟨b, ys, h1, h2, h3, h4⟩ := o.readO e
      rw [h1]
      exact ⟨.inr h2, ys, s _ _ h3, (h4.moreL hn).mono s⟩
  · have := o.hold p hp
    cases p with
    | rep v d => exact (Rep.moreL hn this).mono s
    | base B => exact fun b hb => ⟨.inr (this b hb).1, (this b hb).2⟩
    | root k a => exact True.intro
    | fz a' o' kvs' l' => exact ⟨fun z => z.elim (fun z => by have := this.2.1; rw [hn _ z] at this; cases this) this.1, s _ _ this.2.1, (Reps.moreL hn this.2.2).mono s⟩
theorem Ok.setOb {σ : L2.St} {ds : List Sl} {hd : Hold} {fs : List Addr} {i : Nat} {v : V} {t : OT} (o : Ok K H₀ H O σ ds hd) (s : Same H H') (r : RepO K H' (orL fs O) v t fs) (nd : fs.Nodup) (hn : ∀ b ∈ fs, H b = none) :
    Ok K H₀ H' (orL fs O) (σ.set i (some v)) (ds.set i (.ob none t)) hd := by
  have o1 : Ok K H₀ H' (orL fs O) σ ds hd := o.moreL s hn fun b hb => (r.owns b hb).2
  have own' : ∀ {j : Nat}, IsOwn (ds.set i (.ob none t)) j → IsOwn ds j ∧ j ≠ i := fun h => own_set (fun l => by intro z; cases z) h
  refine ⟨o1.same, fun j l a e1 e2 => ?_, o1.dom, by simpa using o1.len, fun j sl e => ?_, fun j k a hjk hj hk e1 e2 => ?_, o1.hold, ?_⟩
  · obtain ⟨⟨l', e'⟩, n1⟩ := own' ⟨l, e1⟩
    rw [List.getElem?_set_ne (Ne.symm n1)] at e2
    exact o1.fresh j l' a e' e2
  · by_cases hj : j = i
    · subst hj
      by_cases hl : j < ds.length
      · rw [List.getElem?_set_self hl] at e
        cases e
        exact slOk_ob
      · rw [List.getElem?_eq_none (by simpa using hl)] at e; cases e
    · rw [List.getElem?_set_ne (Ne.symm hj)] at e
      rw [List.getElem?_set_ne (Ne.symm hj)]
      exact o1.sl j sl e
  · obtain ⟨h1, n1⟩ := own' hj
    obtain ⟨h2, n2⟩ := own' hk
    rw [List.getElem?_set_ne (Ne.symm n1)] at e1
    rw [List.getElem?_set_ne (Ne.symm n2)] at e2
    exact o1.apart j k a hjk h1 h2 e1 e2
  · obtain ⟨F, hF⟩ := o.obs
    have ne : ∀ {j : Nat} {r' : Option Nat} {t' : OT}, ds[j]? = some (.ob r' t') → ∀ b ∈ F j, b ∉ fs := fun {j r' t'} e b hb z => by
      obtain ⟨w, _, q, _⟩ := hF j r' t' e
      obtain ⟨_, xs, ex⟩ := q.owns b hb
      rw [hn b z] at ex; cases ex
    refine ⟨fun j => if j = i then fs else F j, fun j r' t' e => ?_⟩
    by_cases hj : j = i
    · subst hj
      by_cases hl : j < ds.length
      · rw [List.getElem?_set_self hl] at e
        cases e
        refine ⟨v, by rw [List.getElem?_set_self (by rw [o.len]; exact hl)], by simpa using r, (fun k a z => by cases z), by simpa using nd, fun b hb => ?_⟩
        have hb : b ∈ fs := by simpa using hb
        refine ⟨o.same.free (hn b hb), fun k r2 t2 hk e2 z => ?_, fun k ok ek => ?_⟩
        · simp only [hk, if_false] at z
          rw [List.getElem?_set_ne (Ne.symm hk)] at e2
          exact ne e2 b z hb
        · obtain ⟨⟨l2, e2⟩, hk⟩ := own' ok
          rw [List.getElem?_set_ne (Ne.symm hk)] at ek
          obtain ⟨b', ys, q1, _, q3, _⟩ := o.readO e2
          rw [ek] at q1; cases q1
          rw [hn b hb] at q3; cases q3
      · rw [List.getElem?_eq_none (by simpa using hl)] at e; cases e
    · rw [List.getElem?_set_ne (Ne.symm hj)] at e
      obtain ⟨w, h1, h2, h3, h4, h5⟩ := hF j r' t' e
      refine ⟨w, by rw [List.getElem?_set_ne (Ne.symm hj)]; exact h1, by simp only [hj, if_false]; exact (h2.moreL hn).mono s, h3, by simpa [hj] using h4, fun b hb => ?_⟩
      have hb : b ∈ F j := by simpa [hj] using hb
      refine ⟨(h5 b hb).1, fun k r2 t2 hk e2 z => ?_, fun k ok ek => ?_⟩
      · by_cases hki : k = i
        · simp only [hki, if_true] at z
          exact ne e b hb z
        · simp only [hki, if_false] at z
          rw [List.getElem?_set_ne (Ne.symm hki)] at e2
          exact (h5 b hb).2.1 k r2 t2 hk e2 z
      · obtain ⟨ok', hk⟩ := own' ok
        rw [List.getElem?_set_ne (Ne.symm hk)] at ek
        exact (h5 b hb).2.2 k ok' ek
inductive Kid (H : Hp) (b : Addr) : List V → Prop
  | tup {xs : List V} (h : Rd H b (.tup xs)) : Kid H b xs
  | lst {xs : List V} (h : H b = some (.lst xs)) : Kid H b xs
  | dct {kvs : List (Key × V)} (h : H b = some (.dK kvs)) : Kid H b (kvs.map (·.2))
  | ins {C dx : Addr} {kvs : List (Str × V)} (h : H b = some (.ins C dx kvs)) : Kid H b (kvs.map (·.2))
noncomputable def PathV (H : Hp) : V → List Nat → V → Prop
  | v, [], w => w = v
  | v, k :: p, w => ∃ b xs x, v = .ref b ∧ Kid H b xs ∧ xs[k]? = some x ∧ PathV H x p w
theorem Kid.det {b : Addr} {xs ys : List V} (h : Kid H b xs) (g : Kid H b ys) : xs = ys := by
  have rd : ∀ {zs ws : List V}, Rd H b (.tup zs) → Rd H b (.tup ws) → zs = ws := fun h g => by
    rcases h with h | ⟨o, h⟩ <;> rcases g with g | ⟨o', g⟩ <;> rw [h] at g <;> cases g <;> rfl
  have no : ∀ {zs : List V} {u : HO}, Rd H b (.tup zs) → H b = some u → (∀ ws, u ≠ .tup ws) → (∀ o w, u ≠ .frz o w) → False := fun h g n1 n2 => by
    rcases h with h | ⟨o, h⟩ <;> rw [h] at g <;> cases g
    · exact n1 _ rfl
    · exact n2 _ _ rfl
  cases h with
  | tup h => cases g with
    | tup g => exact rd h g
    | lst g => exact (no h g (fun _ z => by cases z) (fun _ _ z => by cases z)).elim
    | dct g => exact (no h g (fun _ z => by cases z) (fun _ _ z => by cases z)).elim
    | ins g => exact (no h g (fun _ z => by cases z) (fun _ _ z => by cases z)).elim
  | lst h => cases g with
    | tup g => exact (no g h (fun _ z => by cases z) (fun _ _ z => by cases z)).elim
    | lst g => rw [h] at g; cases g; rfl
    | dct g => rw [h] at g; cases g
    | ins g => rw [h] at g; cases g
  | dct h => cases g with
    | tup g => exact (no g h (fun _ z => by cases z) (fun _ _ z => by cases z)).elim
    | lst g => rw [h] at g; cases g
    | dct g => rw [h] at g; cases g; rfl
    | ins g => rw [h] at g; cases g
  | ins h => cases g with
    | tup g => exact (no g h (fun _ z => by cases z) (fun _ _ z => by cases z)).elim
    | lst g => rw [h] at g; cases g
    | dct g => rw [h] at g; cases g
    | ins g => rw [h] at g; cases g; rfl
theorem pathV_det : ∀ {p : List Nat} {v x y : V}, PathV H v p x → PathV H v p y → x = y
  | [], v, x, y, h, g => h.trans g.symm
  | k :: p, v, x, y, ⟨b, xs, z, h1, h2, h3, h4⟩, ⟨b', xs', z', g1, g2, g3, g4⟩ => by
    rw [h1] at g1
    cases g1
    cases h2.det g2
    rw [h3] at g3
    cases g3
    exact pathV_det h4 g4
theorem RepsO.length : ∀ {xs : List V} {ts : List OT} {fs : List Addr}, RepsO K H O xs ts fs → xs.length = ts.length
  | _, _, _, .nil => rfl
  | _, _, _, .cons _ r => by simp [RepsO.length r]
theorem RepsO.pick : ∀ {xs : List V} {ts : List OT} {fs : List Addr} {k : Nat} {t : OT}, RepsO K H O xs ts fs → ts[k]? = some t → ∃ (x : V) (pre f post : List Addr), xs[k]? = some x ∧ fs = pre ++ (f ++ post) ∧ RepO K H O x t f ∧
    ∀ {H' : Hp} {O' : Addr → Prop} {g : OT → OT} {f' : List Addr}, RepO K H' O' x (g t) f' → (∀ y s e, RepO K H O y s e → (∀ b ∈ e, b ∈ pre ∨ b ∈ post) → RepO K H' O' y s e) → RepsO K H' O' xs (ts.modify k g) (pre ++ (f' ++ post))
  | _, _, _, 0, t, .cons (x := x) (fs := f) (gs := gs) h r, e => by
    simp only [List.getElem?_cons_zero, Option.some.injEq] at e
    subst e
    refine ⟨x, [], f, gs, rfl, rfl, h, fun {H' O' g f'} h' ho => ?_⟩
    have : ∀ {xs : List V} {ts : List OT} {gs' : List Addr}, RepsO K H O xs ts gs' → (∀ b ∈ gs', b ∈ gs) → RepsO K H' O' xs ts gs' := by
      intro xs ts gs' h
      induction xs generalizing ts gs' with
      | nil => intro _; cases h; exact .nil
      | cons y ys ih =>
        intro hb
        cases h with
        | cons h1 h2 => exact .cons (ho _ _ _ h1 fun b z => .inr (hb b (List.mem_append_left _ z))) (ih h2 fun b z => hb b (List.mem_append_right _ z))
    show RepsO K H' O' _ _ (f' ++ gs)
    exact .cons h' (this r fun _ z => z)
  | _, _, _, k + 1, t, .cons (x := x) (t := t0) (fs := f0) (gs := gs) h r, e => by
    obtain ⟨y, pre, f, post, h1, h2, h3, h4⟩ := RepsO.pick (k := k) (t := t) r (by simpa using e)
    refine ⟨y, f0 ++ pre, f, post, by simpa using h1, by rw [h2]; simp, h3, fun {H' O' g f'} h' ho => ?_⟩
    have q := h4 h' fun z s e' hz hb => ho z s e' hz fun b hb' => (hb b hb').elim (fun z => .inl (List.mem_append_right _ z)) .inr
    have := RepsO.cons (ho _ _ _ h fun b hb => .inl (List.mem_append_left _ hb)) q
    simpa [List.append_assoc] using this
theorem nodup_mid {pre f post : List Addr} (nd : (pre ++ (f ++ post)).Nodup) : f.Nodup ∧ (∀ b ∈ f, b ∉ pre ∧ b ∉ post) ∧ ∀ (f' : List Addr), f'.Nodup → (∀ b ∈ f', b ∈ f ∨ (b ∉ pre ∧ b ∉ post)) → (pre ++ (f' ++ post)).Nodup := by
  rw [List.nodup_append] at nd
  obtain ⟨n1, n2, n3⟩ := nd
  rw [List.nodup_append] at n2
  obtain ⟨n4, n5, n6⟩ := n2
  have ap : ∀ b ∈ f, b ∉ pre ∧ b ∉ post := fun b hb => ⟨fun z => n3 b z b (List.mem_append_left _ hb) rfl, fun z => n6 b hb b z rfl⟩
  refine ⟨n4, ap, fun f' hf hs => ?_⟩
  have ap' : ∀ b ∈ f', b ∉ pre ∧ b ∉ post := fun b hb => (hs b hb).elim (ap b) id
  rw [List.nodup_append]
  refine ⟨n1, ?_, fun a ha b hb e => ?_⟩
  · rw [List.nodup_append]
    exact ⟨hf, n5, fun a ha b hb e => (ap' a ha).2 (e ▸ hb)⟩
  · rcases List.mem_append.mp hb with z | z
    · exact (ap' b z).1 (e ▸ ha)
    · exact n3 a ha b (List.mem_append_right _ z) e
structure Chg (H H' : Hp) (O O' : Addr → Prop) (f : List Addr) (f' : List Addr) : Prop where
  keep : ∀ b u, ¬ O b → H b = some u → H' b = some u
  rest : ∀ b u, O b → b ∉ f → H b = some u → H' b = some u
  sub : ∀ b, O b → b ∉ f → O' b
  new : ∀ b, O' b → O b ∨ (b ∈ f' ∧ H b = none)
  fp : ∀ b ∈ f', b ∈ f ∨ H b = none
theorem Chg.rep {f f' : List Addr} (c : Chg H H' O O' f f') {v : V} {d : D} (r : Rep K H O v d) : Rep K H' O' v d := by
  have hn : ∀ p ∈ f'.filter (fun b => (H b).isNone), H p = none := fun p hp => by simpa using (List.mem_filter.mp hp).2
  have r1 := (r.moreL hn).keep (H' := H') fun b u hb e => c.keep b u (fun z => hb (.inr z)) e
  exact r1.less (O' := O') fun a z => (c.new a z).elim .inr fun q => .inl (List.mem_filter.mpr ⟨q.1, by rw [q.2]; rfl⟩)
theorem Chg.reps {f f' : List Addr} (c : Chg H H' O O' f f') {v : List V} {d : List D} (r : Reps K H O v d) : Reps K H' O' v d := by
  have hn : ∀ p ∈ f'.filter (fun b => (H b).isNone), H p = none := fun p hp => by simpa using (List.mem_filter.mp hp).2
  have r1 := (r.moreL hn).keep (H' := H') fun b u hb e => c.keep b u (fun z => hb (.inr z)) e
  exact r1.less (O' := O') fun a z => (c.new a z).elim .inr fun q => .inl (List.mem_filter.mpr ⟨q.1, by rw [q.2]; rfl⟩)
theorem Chg.repO {f f' : List Addr} (c : Chg H H' O O' f f') {v : V} {t : OT} {e : List Addr} (r : RepO K H O v t e) (he : ∀ b ∈ e, b ∉ f) : RepO K H' O' v t e := by
  have hn : ∀ p ∈ f'.filter (fun b => (H b).isNone), H p = none := fun p hp => by simpa using (List.mem_filter.mp hp).2
  have r1 := (r.moreL hn).keep (H' := H') (fun b u hb e => c.keep b u (fun z => hb (.inr z)) e) fun b hb u eb => c.rest b u (r.owns b hb).1 (he b hb) eb
  exact r1.less (O' := O') (fun a z => (c.new a z).elim .inr fun q => .inl (List.mem_filter.mpr ⟨q.1, by rw [q.2]; rfl⟩)) fun b hb => c.sub b (r.owns b hb).1 (he b hb)
theorem RepO.modAt : ∀ (p : List Nat) {v : V} {t u : OT} {fs : List Addr}, RepO K H O v t fs → fs.Nodup → subO p t = some u → ∃ w f, PathV H v p w ∧ RepO K H O w u f ∧ f.Nodup ∧ (∀ b ∈ f, b ∈ fs) ∧
    ∀ {H' : Hp} {O' : Addr → Prop} {u' : OT} {f' : List Addr}, Chg H H' O O' f f' → RepO K H' O' w u' f' → f'.Nodup → ∃ fs', RepO K H' O' v (putO u' p t) fs' ∧ fs'.Nodup ∧ (∀ b ∈ fs', b ∈ fs ∨ b ∈ f') ∧ ∀ b ∈ f', b ∈ fs'
  | [], v, t, u, fs, r, nd, e => by
    cases e
    exact ⟨v, fs, rfl, r, nd, fun _ h => h, fun {H' O' u' f'} c r' nd' => ⟨f', r', nd', fun b hb => .inr hb, fun b hb => hb⟩⟩
  | k :: p, v, t, u, fs, r, nd, e => by
    -- of the parts
    have core : ∀ {xs : List V} {ts : List OT} {gs : List Addr}, RepsO K H O xs ts gs → gs.Nodup → (ts[k]?).bind (subO p) = some u → ∃ x w f, xs[k]? = some x ∧ PathV H x p w ∧ RepO K H O w u f ∧ f.Nodup ∧ (∀ b ∈ f, b ∈ gs) ∧
        ∀ {H' : Hp} {O' : Addr → Prop} {u' : OT} {f' : List Addr}, Chg H H' O O' f f' → RepO K H' O' w u' f' → f'.Nodup → ∃ gs', RepsO K H' O' xs (ts.modify k (putO u' p)) gs' ∧ gs'.Nodup ∧ (∀ b ∈ gs', b ∈ gs ∨ b ∈ f') ∧ ∀ b ∈ f', b ∈ gs' := by
      intro xs ts gs rs nds es
      obtain ⟨t1, ht, es⟩ := bnd es
      obtain ⟨x, pre, f0, post, h1, rfl, h3, h4⟩ := rs.pick ht
      obtain ⟨nf, nfr, nre⟩ := nodup_mid nds
      obtain ⟨w, f, g1, g2, g3, g4, g5⟩ := RepO.modAt p h3 nf es
      have inn : ∀ b ∈ f, b ∈ pre ++ (f0 ++ post) := fun b hb => List.mem_append_right _ (List.mem_append_left _ (g4 b hb))
      refine ⟨x, w, f, h1, g1, g2, g3, inn, fun {H' O' u' f'} c r' nd' => ?_⟩
      obtain ⟨f1, q1, q2, q3, q4⟩ := g5 c r' nd'
      have old : ∀ b, b ∈ pre ++ (f0 ++ post) → H b ≠ none := fun b hb z => by
        obtain ⟨_, y, ey⟩ := rs.owns b hb
        rw [z] at ey; cases ey
      refine ⟨pre ++ (f1 ++ post), h4 (g := putO u' p) q1 fun y s e hy hb => c.repO hy fun b hb' z => ?_, nre f1 q2 fun b hb => ?_, fun b hb => ?_, fun b hb => List.mem_append_right _ (List.mem_append_left _ (q4 b hb))⟩
      · exact (hb b hb').elim (nfr b (g4 b z)).1 (nfr b (g4 b z)).2
      · rcases q3 b hb with z | z
        · exact .inl z
        · rcases c.fp b z with y | y
          · exact .inl (g4 b y)
          · exact .inr ⟨fun q => old b (List.mem_append_left _ q) y, fun q => old b (List.mem_append_right _ (List.mem_append_right _ q)) y⟩
      · rcases List.mem_append.mp hb with z | z
        · exact .inl (List.mem_append_left _ z)
        · rcases List.mem_append.mp z with z | z
          · exact (q3 b z).imp (fun z => List.mem_append_right _ (List.mem_append_left _ z)) id
          · exact .inl (List.mem_append_right _ (List.mem_append_right _ z))
    -- an object that has the address a0, and parts
    have head : ∀ {a0 : Addr} {gs gs' f f' : List Addr} {H' : Hp} {O' : Addr → Prop}, (a0 :: gs).Nodup → O a0 → H a0 ≠ none → Chg H H' O O' f f' → gs'.Nodup → (∀ b ∈ gs', b ∈ gs ∨ b ∈ f') → (∀ b ∈ f, b ∈ gs) → (a0 :: gs').Nodup ∧ (∀ b ∈ a0 :: gs', b ∈ a0 :: gs ∨ b ∈ f') ∧ a0 ∉ f := by
      intro a0 gs gs' f f' H' O' nd0 oa ha c ndg hg hf
      obtain ⟨n0, _⟩ := List.nodup_cons.mp nd0
      refine ⟨List.nodup_cons.mpr ⟨fun z => ?_, ndg⟩, fun b hb => ?_, fun z => n0 (hf a0 z)⟩
      · rcases hg a0 z with y | y
        · exact n0 y
        · exact (c.fp a0 y).elim (fun q => n0 (hf a0 q)) ha
      · rcases List.mem_cons.mp hb with rfl | z
        · exact .inl (.head _)
        · exact (hg b z).imp (fun y => .tail _ y) id
    cases r with
    | val r => simp [subO] at e
    | tup n h r =>
      obtain ⟨x, w, f, h1, g1, g2, g3, g4, g5⟩ := core r nd e
      refine ⟨w, f, ⟨_, _, x, rfl, .tup h, h1, g1⟩, g2, g3, g4, fun {H' O' u' f'} c r' nd' => ?_⟩
      obtain ⟨gs', q1, q2, q3, q4⟩ := g5 c r' nd'
      refine ⟨gs', ?_, q2, q3, q4⟩
      have kk : Keep O H H' := fun b u hb eb => c.keep b u hb eb
      exact .tup (fun z => (c.new _ z).elim n fun q => Rd.some h q.2) (kk.rd n h) q1
    | lst n h r =>
      obtain ⟨x, w, f, h1, g1, g2, g3, g4, g5⟩ := core r (List.nodup_cons.mp nd).2 e
      refine ⟨w, f, ⟨_, _, x, rfl, .lst h, h1, g1⟩, g2, g3, fun b hb => .tail _ (g4 b hb), fun {H' O' u' f'} c r' nd' => ?_⟩
      obtain ⟨gs', q1, q2, q3, q4⟩ := g5 c r' nd'
      obtain ⟨k1, k2, k3⟩ := head nd n (by rw [h]; simp) c q2 q3 g4
      exact ⟨_ :: gs', .lst (c.sub _ n k3) (c.rest _ _ n k3 h) q1, k1, k2, fun b hb => .tail _ (q4 b hb)⟩
    | dct n h he r =>
      obtain ⟨x, w, f, h1, g1, g2, g3, g4, g5⟩ := core r (List.nodup_cons.mp nd).2 e
      refine ⟨w, f, ⟨_, _, x, rfl, .dct h, h1, g1⟩, g2, g3, fun b hb => .tail _ (g4 b hb), fun {H' O' u' f'} c r' nd' => ?_⟩
      obtain ⟨gs', q1, q2, q3, q4⟩ := g5 c r' nd'
      obtain ⟨k1, k2, k3⟩ := head nd n (by rw [h]; simp) c q2 q3 g4
      exact ⟨_ :: gs', .dct (c.sub _ n k3) (c.rest _ _ n k3 h) he q1, k1, k2, fun b hb => .tail _ (q4 b hb)⟩
    | ins hc n h he r =>
      obtain ⟨x, w, f, h1, g1, g2, g3, g4, g5⟩ := core r (List.nodup_cons.mp nd).2 e
      refine ⟨w, f, ⟨_, _, x, rfl, .ins h, h1, g1⟩, g2, g3, fun b hb => .tail _ (g4 b hb), fun {H' O' u' f'} c r' nd' => ?_⟩
      obtain ⟨gs', q1, q2, q3, q4⟩ := g5 c r' nd'
      obtain ⟨k1, k2, k3⟩ := head nd n (by rw [h]; simp) c q2 q3 g4
      exact ⟨_ :: gs', .ins hc (c.sub _ n k3) (c.rest _ _ n k3 h) he q1, k1, k2, fun b hb => .tail _ (q4 b hb)⟩
theorem Ok.modAt {σ : L2.St} {ds : List Sl} {hd : Hold} {i : Nat} {r : Option Nat} {t u : OT} {p : List Nat} (o : Ok K H₀ H O σ ds hd) (e : ds[i]? = some (.ob r t)) (hs : subO p t = some u) :
    ∃ v w f, σ[i]? = some (some v) ∧ PathV H v p w ∧ RepO K H O w u f ∧ f.Nodup ∧ (∀ b ∈ f, H₀ b = none) ∧
      ∀ {H' : Hp} {O' : Addr → Prop} {u' : OT} {f' : List Addr}, Chg H H' O O' f f' → (∀ b ∈ f, O' b → ∃ y : MutHO, H' b = some y.1) → RepO K H' O' w u' f' → f'.Nodup → Ok K H₀ H' O' σ (ds.set i (.ob r (putO u' p t))) hd := by
  obtain ⟨F, hF⟩ := o.obs
  obtain ⟨v, h1, h2, h3, h4, h5⟩ := hF i r t e
  obtain ⟨w, f, g1, g2, g3, g4, g5⟩ := h2.modAt p h4 hs
  have hl : i < ds.length := (List.getElem?_eq_some_iff.mp e).1
  refine ⟨v, w, f, h1, g1, g2, g3, fun b hb => (h5 b (g4 b hb)).1, fun {H' O' u' f'} c hf r' nd' => ?_⟩
  obtain ⟨fs', q1, q2, q3, q4⟩ := g5 c r' nd'
  have own' : ∀ {j : Nat}, IsOwn (ds.set i (.ob r (putO u' p t))) j → IsOwn ds j ∧ j ≠ i := fun h => own_set (fun l => by intro z; cases z) h
  have nown : ∀ {j : Nat} {b : Addr}, IsOwn ds j → σ[j]? = some (some (.ref b)) → b ∉ f := fun {j b} oj ej z => (h5 b (g4 b z)).2.2 j oj ej
  have free0 : ∀ b, H b = none → H₀ b = none := fun b hb => o.same.free hb
  refine ⟨fun b x eb => ?_, fun j l b e1 e2 => ?_, fun b hb => ?_, by simpa using o.len, fun j sl es => ?_, fun j m b hjm hj hm e1 e2 => o.apart j m b hjm (own' hj).1 (own' hm).1 e1 e2, fun q hq => ?_, ?_⟩
  · have hb := o.same b x eb
    by_cases ob : O b
    · by_cases bf : b ∈ f
      · rw [(h5 b (g4 b bf)).1] at eb; cases eb
      · exact c.rest b x ob bf hb
    · exact c.keep b x ob hb
  · obtain ⟨⟨l', e'⟩, _⟩ := own' ⟨l, e1⟩
    exact o.fresh j l' b e' e2
  · rcases c.new b hb with z | z
    · by_cases bf : b ∈ f
      · exact hf b bf hb
      · obtain ⟨y, ey⟩ := o.dom b z
        exact ⟨y, c.rest b _ z bf ey⟩
    · exact (r'.owns b z.1).2
  · by_cases hj : j = i
    · subst hj
      rw [List.getElem?_set_self hl] at es
      cases es
      exact slOk_ob
    · rw [List.getElem?_set_ne (Ne.symm hj)] at es
      cases sl with
      | no => exact slOk_no
      | ob r t => exact slOk_ob
      | exc t =>
        obtain ⟨a', C', ob', x', q1, q2, q3, q4⟩ := o.readX es
        rw [q1]
        refine ⟨C', ob', x', q2, c.keep _ _ (fun z => ?_) q3, q4⟩
        obtain ⟨y, ey⟩ := o.dom _ z
        rw [q3] at ey
        have h2 := y.2
        rw [← Option.some.inj ey] at h2
        cases h2
      | fr l' =>
        obtain ⟨a', xs'', q1, q2, q0, q3, q4⟩ := o.readF es
        rw [q1]
        exact ⟨fun z => (c.new _ z).elim q2 (fun y => by rw [y.2] at q3; cases q3), q0, xs'', c.keep _ _ q2 q3, c.reps q4⟩
      | v d =>
        obtain ⟨v, q1, q2⟩ := o.read es
        rw [q1]
        exact slOk_v (c.rep q2)
      | own l'' =>
        obtain ⟨b, ys, q1, q2, q3, q4⟩ := o.readO es
        rw [q1]
        exact ⟨c.sub _ q2 (nown ⟨l'', es⟩ q1), ys, c.rest _ _ q2 (nown ⟨l'', es⟩ q1) q3, c.reps q4⟩
  · have := o.hold q hq
    cases q with
    | rep v d => exact c.rep this
    | base B => exact fun b hb => ⟨c.sub _ (this b hb).1 (fun z => (this b hb).2 (h5 b (g4 b z)).1), (this b hb).2⟩
    | root k a => exact True.intro
    | fz a' o' kvs' l' => exact ⟨fun z => (c.new _ z).elim this.1 (fun y => by have z := this.2.1; rw [y.2] at z; cases z), c.keep _ _ this.1 this.2.1, c.reps this.2.2⟩
  · refine ⟨fun j => if j = i then fs' else F j, fun j r2 t2 ej => ?_⟩
    have fsOld : ∀ b ∈ fs', b ∈ F i ∨ H b = none := fun b hb => (q3 b hb).elim .inl fun z => (c.fp b z).imp (g4 b) id
    by_cases hj : j = i
    · subst hj
      rw [List.getElem?_set_self hl] at ej
      cases ej
      refine ⟨v, h1, by simpa using q1, h3, by simpa using q2, fun b hb => ?_⟩
      have hb : b ∈ fs' := by simpa using hb
      rcases fsOld b hb with z | z
      · refine ⟨(h5 b z).1, fun m r3 t3 hm e3 y => ?_, fun m om em => (h5 b z).2.2 m (own' om).1 em⟩
        simp only [hm, if_false] at y
        rw [List.getElem?_set_ne (Ne.symm hm)] at e3
        exact (h5 b z).2.1 m r3 t3 hm e3 y
      · refine ⟨free0 b z, fun m r3 t3 hm e3 y => ?_, fun m om em => ?_⟩
        · simp only [hm, if_false] at y
          rw [List.getElem?_set_ne (Ne.symm hm)] at e3
          obtain ⟨_, _, w3, _⟩ := hF m r3 t3 e3
          obtain ⟨_, x3, ex3⟩ := w3.owns b y
          rw [z] at ex3; cases ex3
        · obtain ⟨⟨l3, e3⟩, _⟩ := own' om
          obtain ⟨b3, ys, y1, _, y3, _⟩ := o.readO e3
          rw [em] at y1; cases y1
          rw [z] at y3; cases y3
    · rw [List.getElem?_set_ne (Ne.symm hj)] at ej
      obtain ⟨w2, y1, y2, y3, y4, y5⟩ := hF j r2 t2 ej
      have apart : ∀ b ∈ F j, b ∉ f := fun b hb z => (h5 b (g4 b z)).2.1 j r2 t2 hj ej hb
      refine ⟨w2, y1, by simp only [hj, if_false]; exact c.repO y2 apart, y3, by simpa [hj] using y4, fun b hb => ?_⟩
      have hb : b ∈ F j := by simpa [hj] using hb
      refine ⟨(y5 b hb).1, fun m r3 t3 hm e3 z => ?_, fun m om em => (y5 b hb).2.2 m (own' om).1 em⟩
      by_cases hmi : m = i
      · simp only [hmi, if_true] at z
        rcases fsOld b z with x | x
        · exact (y5 b hb).2.1 i r t (fun z => hj z.symm) e x
        · obtain ⟨_, x3, ex3⟩ := y2.owns b hb
          rw [x] at ex3; cases ex3
      · simp only [hmi, if_false] at z
        rw [List.getElem?_set_ne (Ne.symm hmi)] at e3
        exact (y5 b hb).2.1 m r3 t3 hm e3 z
end
section
variable (X : Cx)
def PVo (e : Expr) (f : FO) : Prop := ∃ t, PE X e t ∧ ∀ H₀ H O σ ds hd T Q, Ok X.K H₀ H O σ ds hd → f ds = some T → (∀ v H' fs, Same H H' → RepO X.K H' (orL fs O) v T fs → fs.Nodup → (∀ b ∈ fs, H b = none) → Q v H') → t σ H Q
def PVp (e : Expr) (f : FP) : Prop := ∃ t, PE X e t ∧ ∀ H₀ H O σ ds hd q Q, Ok X.K H₀ H O σ ds hd → f ds = some q → (∀ r T v w fs, ds[q.1]? = some (.ob r T) → subO q.2.1 T = some q.2.2 → σ[q.1]? = some (some v) → PathV H v q.2.1 w → RepO X.K H O w q.2.2 fs → Q w H) → t σ H Q
end
section
variable {X : Cx}
theorem psv_setB {i : Nat} {x : Str} {e : Expr} {pos pos' : Pos} {f : FO} (hN : X.N.Nodup) (he : PVo X e f) (hi : X.N[i]? = some x := by rfl) (hx : Loc X.env.scope x := by first | exact Or.inl rfl | exact Or.inr rfl) (hs : swapsWith e (some (.Name x pos')) pos.line X.env = pure false := by rfl)
    (hf : X.fn x = true ∨ X.env.scope.names.lookup x = some .local := by first | exact .inl rfl | exact .inr rfl) : PSv X (.Assign [.Name x pos'] e pos) (setB i f) := by
  obtain ⟨t, ht, hg⟩ := he
  refine ⟨_, ps_set hN hi hx ht hs hf, fun H₀ H O σ ds hd out E o e h => ?_⟩
  unfold setB at e
  obtain ⟨T, h1, rfl⟩ := mpd e
  exact hg H₀ H O σ ds hd T _ o h1 fun v H' fs s r nd n => h _ _ _ (o.setOb s r nd n)
theorem pvp_var (i : Nat) {x : Str} {pos : Pos} (hN : X.N[i]? = some x := by rfl) (hv : Vis X.env.scope x := by first | exact Or.inl rfl | exact Or.inr (Or.inl rfl) | exact Or.inr (Or.inr rfl)) (hd : (x == ("__debug__" : Str)) = false := by decide)
    (hcd : (x == ("__classdict__" : Str)) = false := by decide) : PVp X (.Name x pos) (varP i) := by
  refine ⟨_, pe_var hN hv hd hcd, fun H₀ H O σ ds hd q Q o e h => ?_⟩
  unfold varP at e
  cases hs : ds[i]? with
  | none => rw [hs] at e; cases e
  | some s =>
    rw [hs] at e
    cases s with
    | ob r t =>
      cases e
      obtain ⟨F, hF⟩ := o.obs
      obtain ⟨v, h1, h2, _⟩ := hF i r t hs
      exact ⟨v, h1, h r t v v _ hs rfl h1 rfl h2⟩
    | _ => cases e
theorem Chg.ofUpd {H : Hp} {O : Addr → Prop} {a : Addr} {y : HO} {f f' : List Addr} (oa : O a) (ha : a ∈ f) (hf : ∀ b ∈ f', b ∈ f) : Chg H (upd H a y) O O f f' :=
  ⟨fun b u nb e => by have z : b ≠ a := fun z => nb (by rw [z]; exact oa); rw [L2.upd_ne z]; exact e, fun b u _ nb e => by have z : b ≠ a := fun z => nb (by rw [z]; exact ha); rw [L2.upd_ne z]; exact e, fun _ z _ => z, fun _ z => .inl z, fun b hb => .inl (hf b hb)⟩
section
variable {x : Str} {k j n : Nat} {F : List D → Option Ret} {p pos : Pos} {e : Expr} {es : List Expr} {g : FA}
end
mutual
theorem RepO.flatten {K : Frag} {H : Hp} {O O' : Addr → Prop} (ho : ∀ a, O a → Old H a) : ∀ {v : V} {t : OT} {fs : List Addr}, flatO t = true → RepO K H O' v t fs → (∀ b ∈ fs, O b) → RepO K H O v t fs
  | _, _, _, f, .val r, _ => .val (Rep.flatten ho (by simpa [flatO] using f) r)
  | _, _, _, f, .lst n h r, hb => .lst (hb _ (.head _)) h (RepsO.flatten ho (by simpa [flatO] using f) r fun b z => hb b (.tail _ z))
  | _, _, _, f, .dct n h e r, hb => .dct (hb _ (.head _)) h e (RepsO.flatten ho (by simpa [flatO] using f) r fun b z => hb b (.tail _ z))
  | _, _, _, f, .ins c n h e r, hb => .ins c (hb _ (.head _)) h e (RepsO.flatten ho (by simpa [flatO] using f) r fun b z => hb b (.tail _ z))
  | _, _, _, f, .tup (a := a) n h r, hb => .tup (fun z => by
      obtain ⟨u, e, m⟩ := ho a z
      rcases h with h | ⟨o, h⟩
      · rw [e] at h; cases h; cases m
      · rw [e] at h; cases h; cases m) h (RepsO.flatten ho (by simpa [flatO] using f) r hb)
theorem RepsO.flatten {K : Frag} {H : Hp} {O O' : Addr → Prop} (ho : ∀ a, O a → Old H a) : ∀ {v : List V} {t : List OT} {fs : List Addr}, flatOs t = true → RepsO K H O' v t fs → (∀ b ∈ fs, O b) → RepsO K H O v t fs
  | _, _, _, _, .nil, _ => .nil
  | _, _, _, f, .cons h r, hb => by
    simp only [flatOs, Bool.and_eq_true] at f
    exact .cons (RepO.flatten ho f.1 h fun b z => hb b (List.mem_append_left _ z)) (RepsO.flatten ho f.2 r fun b z => hb b (List.mem_append_right _ z))
end
end
end FL
namespace FL
open PySem PySem.Spec PyProof.Rows L2
section
variable {X : Cx}
end
end FL
namespace FL
open PySem PySem.Spec PyProof.Rows L2
section
variable {K : Frag} {H H' H₀ : Hp} {O O' : Addr → Prop}
theorem Kid.mono (s : Same H H') {b : Addr} {xs : List V} (h : Kid H b xs) : Kid H' b xs := by
  cases h with
  | tup h => exact .tup (Keep.rd (O := none0) (.of_same s) (fun z => z) h)
  | lst h => exact .lst (s _ _ h)
  | dct h => exact .dct (s _ _ h)
  | ins h => exact .ins (s _ _ h)
theorem pathV_mono (s : Same H H') : ∀ {p : List Nat} {v w : V}, PathV H v p w → PathV H' v p w
  | [], _, _, h => h
  | _ :: _, _, _, ⟨b, xs, x, h1, h2, h3, h4⟩ => ⟨b, xs, x, h1, h2.mono s, h3, pathV_mono s h4⟩
end
section
variable {X : Cx}
theorem RepsO.snoc {K : Frag} {H : Hp} {O : Addr → Prop} : ∀ {xs : List V} {ts : List OT} {fs : List Addr} {v : V} {d : D}, RepsO K H O xs ts fs → Rep K H O v d → RepsO K H O (xs ++ [v]) (ts ++ [.val d]) fs
  | _, _, _, _, _, .nil, r => .cons (fs := []) (gs := []) (.val r) .nil
  | _, _, _, _, _, .cons h t, r => .cons h (RepsO.snoc t r)
theorem Chg.repsO {K : Frag} {H H' : Hp} {O O' : Addr → Prop} {f f' : List Addr} (c : Chg H H' O O' f f') : ∀ {v : List V} {t : List OT} {e : List Addr}, RepsO K H O v t e → (∀ b ∈ e, b ∉ f) → RepsO K H' O' v t e
  | _, _, _, .nil, _ => .nil
  | _, _, _, .cons h r, he => .cons (c.repO h fun b z => he b (List.mem_append_left _ z)) (Chg.repsO c r fun b z => he b (List.mem_append_right _ z))
end
end FL
namespace FL
open PySem PySem.Spec PyProof.Rows L2
section
variable {K : Frag} {H H' H₀ : Hp} {O O' : Addr → Prop}
theorem RepO.frz {v : V} {t : OT} {fs : List Addr} (r : RepO K H O v t fs) (h : ∀ a, O' a → O a ∧ a ∉ fs) : Rep K H O' v (otD t) := r.val' h
theorem Ok.frz {σ : L2.St} {ds : List Sl} {hd : Hold} {i : Nat} {r : Option Nat} {T : OT} (o : Ok K H₀ H O σ ds hd) (e : ds[i]? = some (.ob r T)) : ∃ O', Ok K H₀ H O' σ (ds.set i (.v (otD T))) hd := by
  obtain ⟨F, hF⟩ := o.obs
  obtain ⟨v, h1, h2, h3, h4, h5⟩ := hF i r T e
  have hl : i < ds.length := (List.getElem?_eq_some_iff.mp e).1
  let O' : Addr → Prop := fun b => O b ∧ b ∉ F i
  have sub : ∀ b, O' b → O b := fun b hb => hb.1
  have own' : ∀ {j : Nat}, IsOwn (ds.set i (.v (otD T))) j → IsOwn ds j ∧ j ≠ i := fun h => own_set (fun l => by intro z; cases z) h
  refine ⟨O', o.same, fun j l' b e1 e2 => ?_, fun b hb => o.dom b (sub b hb), by simpa using o.len, fun j s es => ?_, fun j m b hjm hj hm e1 e2 => o.apart j m b hjm (own' hj).1 (own' hm).1 e1 e2, fun p hp => ?_, ?_⟩
  · obtain ⟨⟨l2, e2'⟩, _⟩ := own' ⟨l', e1⟩
    exact o.fresh j l2 b e2' e2
  · by_cases hj : j = i
    · subst hj
      rw [List.getElem?_set_self hl] at es
      cases es
      rw [h1]
      exact slOk_v (h2.frz fun a z => z)
    · rw [List.getElem?_set_ne (Ne.symm hj)] at es
      cases s with
      | no => exact slOk_no
      | ob r t => exact slOk_ob
      | exc t =>
        obtain ⟨a', C', ob', u', q1, q2, q3, q4⟩ := o.readX es
        rw [q1]
        exact ⟨C', ob', u', q2, q3, q4⟩
      | fr l' =>
        obtain ⟨a', xs', q1, q2, q0, q3, q4⟩ := o.readF es
        rw [q1]
        exact ⟨fun z => q2 (sub _ z), q0, xs', q3, q4.less sub⟩
      | v d =>
        obtain ⟨v, q1, q2⟩ := o.read es
        rw [q1]
        exact slOk_v (q2.less sub)
      | own l' =>
        obtain ⟨b, ys, q1, q2, q3, q4⟩ := o.readO es
        rw [q1]
        exact ⟨⟨q2, fun z => (h5 b z).2.2 j ⟨l', es⟩ q1⟩, ys, q3, q4.less sub⟩
  · have := o.hold p hp
    cases p with
    | rep v d => exact Rep.less sub this
    | base B => exact fun b hb => ⟨⟨(this b hb).1, fun z => (this b hb).2 (h5 b z).1⟩, (this b hb).2⟩
    | root k a => exact True.intro
    | fz a' o' kvs' l' => exact ⟨fun z => this.1 (sub _ z), this.2.1, Reps.less sub this.2.2⟩
  · refine ⟨F, fun j r' t' ej => ?_⟩
    obtain ⟨ej, hj⟩ := ob_set (fun r t => by intro z; cases z) ej
    obtain ⟨w, g1, g2, g3, g4, g5⟩ := hF j r' t' ej
    refine ⟨w, g1, g2.less sub fun b hb => ⟨(g2.owns b hb).1, fun z => (h5 b z).2.1 j r' t' hj ej hb⟩, g3, g4, fun b hb => ⟨(g5 b hb).1, fun m r2 t2 hm em => (g5 b hb).2.1 m r2 t2 hm (ob_set (fun r t => by intro z; cases z) em).1, fun m om em => (g5 b hb).2.2 m (own' om).1 em⟩⟩
end
section
variable {X : Cx}
end
section
variable {X : Cx} {m : Str} {k j n : Nat} {cs : List Nat} {F : Nat → OT → List D → Option OT} {oe e : Expr} {es : List Expr} {apos pos pos' : Pos} {f : FP} {g : FA}
end
end FL
namespace FL
open PySem PySem.Spec PyProof.Rows L2
section
variable {K : Frag} {H H' H₀ : Hp} {O O' : Addr → Prop}
theorem Ok.putN {σ : L2.St} {ds : List Sl} {hd : Hold} {i : Nat} {r : Option Nat} {T u u' : OT} {p : List Nat} {a : Addr} {v : V} (y : MutHO) (o : Ok K H₀ H O σ ds hd) (e : ds[i]? = some (.ob r T)) (hs : subO p T = some u) (hv : σ[i]? = some (some v)) (hp : PathV H v p (.ref a))
    (h : ∀ f, RepO K H O (.ref a) u f → f.Nodup → ∃ f', O a ∧ a ∈ f ∧ (∀ b ∈ f', b ∈ f) ∧ f'.Nodup ∧ RepO K (upd H a y.1) O (.ref a) u' f') : Ok K H₀ (upd H a y.1) O σ (ds.set i (.ob r (putO u' p T))) hd := by
  obtain ⟨v', w', f, y1, y2, y3, y4, y5, y6⟩ := o.modAt e hs
  rw [hv] at y1
  cases y1
  cases pathV_det hp y2
  obtain ⟨f', n, h1, h2, h3, h4⟩ := h f y3 y4
  refine y6 (f' := f') (.ofUpd n h1 h2) (fun b z _ => ?_) h4 h3
  by_cases z' : b = a
  · rw [z', upd_same]; exact ⟨y, rfl⟩
  · rw [upd_ne z']; exact (y3.owns b z).2
theorem keyD_rep {v : V} {d : D} {k : Key} (r : Rep K H O v d) (e : keyD d = some k) : v = kV k := by
  cases d <;> first | (cases e; done) | skip
  · cases e; cases r; rfl
  · cases e; cases r; rfl
  · cases e; cases r; rfl
theorem kdD_rep {v : V} {d : D} {p : List Key × List D} (r : Rep K H O v d) (e : kdD d = some p) : ∃ (a : Addr) (kvs : List (Key × V)), v = .ref a ∧ Rd H a (.dK kvs) ∧ kvs.map (·.1) = p.1 ∧ Reps K H O (kvs.map (·.2)) p.2 := by
  cases d <;> first | (cases e; done) | skip
  · cases e
    cases r with
    | @dct a kvs _ _ n hb ek rs => exact ⟨a, kvs, rfl, .inl hb, ek, rs⟩
  · cases e
    cases r with
    | @dcf a o kvs _ _ n hb ek rs => exact ⟨a, kvs, rfl, .inr ⟨o, hb⟩, ek, rs⟩
theorem valV_get : ∀ {kvs : List (Key × V)} {l : List D} {k : Key} {d : D}, Reps K H O (kvs.map (·.2)) l → getKD k (kvs.map (·.1)) l = some d → ∃ v, valV kvs k = some v ∧ Rep K H O v d
  | [], _, _, _, _, e => by simp [getKD] at e
  | (k', v) :: r, [], _, _, h, _ => by cases h
  | (k', v) :: r, d' :: l, k, d, .cons h t, e => by
    simp only [List.map_cons, getKD] at e
    by_cases z : k' = k
    · rw [if_pos z] at e
      cases e
      exact ⟨v, valV_pos z, h⟩
    · rw [if_neg z] at e
      obtain ⟨w, h1, h2⟩ := valV_get t e
      exact ⟨w, by simpa [valV, List.find?_cons, z] using h1, h2⟩
theorem putK_keys {kvs : List (Key × V)} {k : Key} {v : V} (h : hasK k (kvs.map (·.1)) = true) : putK kvs k v = kvs.map (fun kv => if kv.1 = k then (kv.1, v) else kv) := by
  unfold putK
  rw [if_pos]
  rw [hasK, List.any_map] at h
  exact h
theorem putK_new {kvs : List (Key × V)} {k : Key} {v : V} (h : ¬ hasK k (kvs.map (·.1)) = true) : putK kvs k v = kvs ++ [(k, v)] := by
  unfold putK
  rw [if_neg]
  rw [hasK, List.any_map] at h
  exact h
theorem putK_map1 (kvs : List (Key × V)) (k : Key) (v : V) : (kvs.map (fun kv => if kv.1 = k then (kv.1, v) else kv)).map (·.1) = kvs.map (·.1) := by
  rw [List.map_map]
  refine List.map_congr_left fun kv _ => ?_
  simp only [Function.comp]
  split <;> rfl
theorem RepsO.putTs {k : Key} {v : V} {d : D} (r : Rep K H O v d) : ∀ {kvs : List (Key × V)} {ts : List OT} {fs : List Addr}, RepsO K H O (kvs.map (·.2)) ts fs → ∃ fs' : List Addr, fs'.Sublist fs ∧ RepsO K H O ((kvs.map (fun kv => if kv.1 = k then (kv.1, v) else kv)).map (·.2)) (FL.putTs k (.val d) (kvs.map (·.1)) ts) fs'
  | [], _, _, .nil => ⟨[], .slnil, .nil⟩
  | (k', w) :: kvs, _, _, .cons (t := t) (ts := ts) (fs := fs) (gs := gs) h q => by
    obtain ⟨gs', h1, h2⟩ := RepsO.putTs r q
    by_cases z : k' = k
    · refine ⟨gs', h1.trans (List.sublist_append_right _ _), ?_⟩
      simp only [List.map_cons, z, if_true, FL.putTs]
      exact .cons (fs := []) (.val r) h2
    · refine ⟨fs ++ gs', h1.append_left _, ?_⟩
      simp only [List.map_cons, z, if_false, FL.putTs]
      exact .cons h h2
end
section
variable {X : Cx} {i : Nat}
theorem psv_dput {oe ke e : Expr} {pos pos' : Pos} {f : FP} {fk fv : FE} {j : Nat} (hr : Room j X.A) (ho : PVp X oe f) (hk : PV X ke fk) (he : PV X e fv) (hs : swapsWith e (some (.Subscript oe ke pos')) pos.line X.env = pure false := by rfl) :
    PSv X (.Assign [.Subscript oe ke pos'] e pos) (dputG f fk fv) := by
  obtain ⟨tp, hp, hf⟩ := ho
  obtain ⟨tk, pk, hk⟩ := hk
  obtain ⟨te, pe, he⟩ := he
  refine ⟨_, ps_dput (Nat.lt_of_le_of_lt (by omega) (hu100 hr)) hp pk pe hs, fun H₀ H O σ ds hd out E o e h => ?_⟩
  unfold dputG at e
  obtain ⟨d, h1, e⟩ := bnd e
  obtain ⟨q, h2, e⟩ := bnd e
  obtain ⟨y, h3, e⟩ := bnd e
  obtain ⟨k, h4, e⟩ := bnd e
  refine he H₀ H O σ ds hd d _ o h1 fun v H1 s1 r1 => ?_
  refine hf H₀ H1 O σ ds hd q _ (o.mono s1) h2 fun r T v0 w fs g1 g2 g3 g4 g5 => ?_
  refine hk H₀ H1 O σ ds hd y _ (o.mono s1) h3 fun yv H2 s2 r2 => ?_
  have o2 := (o.mono s1).mono s2
  cases hq : q.2.2 with
  | dct ks ts =>
    rw [hq] at e g2 g5
    simp only at e
    split at e
    · rename_i hl
      cases e
      cases g5 with
      | @dct a kvs _ _ fs' n hb ek rs =>
        have hb2 := s2 _ _ hb
        cases keyD_rep r2 h4
        have ln : kvs.length < sizeLine := by rw [← ek] at hl; simpa using hl
        refine ⟨a, _, rfl, DPut.k hb2 ln, ?_⟩
        have e' : putP q (putKT k (.val d) ks ts) ds = ds.set q.1 (.ob r (putO (putKT k (.val d) ks ts) q.2.1 T)) := by simp [putP, g1]
        rw [e'] at h
        refine h _ _ _ (Ok.putN ⟨.dK (putK kvs k v), rfl⟩ o2 g1 g2 g3 (pathV_mono s2 g4) fun f2 k1 k2 => ?_)
        cases k1 with
        | @dct _ kvs2 _ _ fs2 n2 hb3 ek2 rs2 =>
          rw [hb2] at hb3
          cases hb3
          obtain ⟨n3, n4⟩ := List.nodup_cons.mp k2
          have c : Chg H2 (upd H2 a (.dK (putK kvs k v))) O O [a] [a] := .ofUpd n (.head _) fun _ z => z
          have rs3 := c.repsO rs2 fun b z y => n3 (List.mem_singleton.mp y ▸ z)
          have rv := c.rep (r1.mono s2)
          unfold putKT
          by_cases hm : hasK k ks = true
          · rw [if_pos hm]
            have hm' : hasK k (kvs.map (·.1)) = true := by rw [ek]; exact hm
            obtain ⟨fs3, w1, w2⟩ := RepsO.putTs (k := k) rv rs3
            refine ⟨a :: fs3, n, .head _, fun b z => (List.mem_cons.mp z).elim (fun z => by rw [z]; exact .head _) fun z => .tail _ (w1.subset z), List.nodup_cons.mpr ⟨fun z => n3 (w1.subset z), w1.nodup n4⟩, ?_⟩
            refine .dct n upd_same ?_ ?_
            · rw [putK_keys hm', putK_map1, ek]
            · have z := congrArg (List.map (·.2)) (putK_keys (v := v) hm')
              rw [ek] at w2
              rw [← z] at w2
              exact w2
          · rw [if_neg hm]
            have hm' : ¬ hasK k (kvs.map (·.1)) = true := by rw [ek]; exact hm
            refine ⟨a :: fs2, n, .head _, fun b z => z, k2, ?_⟩
            refine .dct n upd_same ?_ ?_
            · rw [putK_new hm']; simp [ek]
            · have z : (putK kvs k v).map (·.2) = kvs.map (·.2) ++ [v] := by rw [putK_new hm']; simp
              rw [z]
              exact rs3.snoc rv
    · cases e
  | _ => rw [hq] at e; cases e
end
end FL
namespace L2
open PySem PySem.Spec PyProof.Rows
section
variable {X : Cx}
theorem Inv.freezeD {pins : List (Addr × Obj)} {σ : L2.St} {H : Hp} {s : Shared} {a : Addr} {kvs : List (Key × V)} (I : Inv X pins σ H s) (e : H a = some (.dK kvs)) : ∃ o, Inv X pins σ (upd H a (.frz o (.dK kvs))) s := by
  obtain ⟨z, hd, vs, rel, dd⟩ := dk_of I.hok e
  obtain ⟨o, es, ep, ho, r⟩ := id dd
  exact ⟨o, d_write (h' := s.heap) (t' := s.toks) (ob := .frz o (.dK kvs)) I (by rw [e]; trivial) ⟨rfl, fun _ _ => rfl⟩ ⟨o, ho⟩ ⟨ho, z, hd, vs, rel, dd⟩⟩
def sFrz (i : Nat) (t : TS) : TS := fun D σ H => ∃ a kvs, σ[i]? = some (some (.ref a)) ∧ H a = some (.dK kvs) ∧ ∀ o, t D σ (upd H a (.frz o (.dK kvs)))
theorem ps_frz {st : Stmt} {t : TS} {i : Nat} (h : PS X st t) : PS X st (sFrz i t) := by
  intro pins s σ H D I ⟨a, kvs, h1, h2, h3⟩
  obtain ⟨o, I'⟩ := I.freezeD h2
  exact h pins s σ _ D I' (h3 o)
end
section
variable {X : Cx}
end
end L2
namespace FL
open PySem PySem.Spec PyProof.Rows L2
section
variable {K : Frag} {H H' H₀ : Hp} {O O' : Addr → Prop}
theorem valsO_some : ∀ {ts : List OT} {l : List D}, valsO ts = some l → ts = l.map OT.val
  | [], _, e => by cases e; rfl
  | .val d :: r, l, e => by
    unfold valsO at e
    cases h : valsO r with
    | none => rw [h] at e; cases e
    | some m => rw [h] at e; cases e; rw [valsO_some h]; rfl
  | .lst _ :: _, _, e => by cases e
  | .tup _ :: _, _, e => by cases e
  | .dct _ _ :: _, _, e => by cases e
  | .ins _ _ :: _, _, e => by cases e
theorem RepsO.ofVals : ∀ {l : List D} {xs : List V} {fs : List Addr}, RepsO K H O xs (l.map OT.val) fs → fs = [] ∧ Reps K H O xs l
  | [], _, _, .nil => ⟨rfl, .nil⟩
  | d :: l, _, _, .cons (.val r) t => by
    obtain ⟨rfl, rs⟩ := RepsO.ofVals t
    exact ⟨rfl, .cons r rs⟩
theorem Ok.frzD {σ : L2.St} {ds : List Sl} {hd : Hold} {i : Nat} {r : Option Nat} {ks : List Key} {l : List D} (o : Ok K H₀ H O σ ds hd) (e : ds[i]? = some (.ob r (.dct ks (l.map OT.val)))) :
    ∃ a kvs, σ[i]? = some (some (.ref a)) ∧ H a = some (.dK kvs) ∧ ∀ ob, ∃ O', Ok K H₀ (upd H a (.frz ob (.dK kvs))) O' σ (ds.set i (.v (.dcf ks l))) hd := by
  obtain ⟨F, hF⟩ := o.obs
  obtain ⟨v, h1, h2, h3, h4, h5⟩ := hF i r _ e
  have hl : i < ds.length := (List.getElem?_eq_some_iff.mp e).1
  generalize hfi : F i = fi at h2 h4 h5
  cases h2 with
  | @dct a kvs _ _ fs n hb ek rs =>
    obtain ⟨rfl, rv⟩ := rs.ofVals
    refine ⟨a, kvs, h1, hb, fun ob => ?_⟩
    let O' : Addr → Prop := fun b => O b ∧ b ≠ a
    have sub : ∀ b, O' b → O b := fun b hb => hb.1
    have h0 : H₀ a = none := (h5 a (.head _)).1
    have kp : Keep O H (upd H a (.frz ob (.dK kvs))) := fun b u nb eb => by
      have z : b ≠ a := fun z => nb (by rw [z]; exact n)
      rw [L2.upd_ne z]; exact eb
    have ne : ∀ {b : Addr} {u : HO}, b ≠ a → H b = some u → upd H a (.frz ob (.dK kvs)) b = some u := fun z eb => by rw [L2.upd_ne z]; exact eb
    have own' : ∀ {j : Nat}, IsOwn (ds.set i (.v (.dcf ks l))) j → IsOwn ds j ∧ j ≠ i := fun h => own_set (fun l => by intro z; cases z) h
    have nown : ∀ {j : Nat} {b : Addr}, IsOwn ds j → σ[j]? = some (some (.ref b)) → b ≠ a := fun {j b} oj ej z => (h5 a (.head _)).2.2 j oj (by rw [← z]; exact ej)
    refine ⟨O', fun b u eb => ne (fun z => by rw [z, h0] at eb; cases eb) (o.same b u eb), fun j l' b e1 e2 => ?_, fun b hb => ?_, by simpa using o.len, fun j s es => ?_, fun j m b hjm hj hm e1 e2 => o.apart j m b hjm (own' hj).1 (own' hm).1 e1 e2, fun p hp => ?_, ?_⟩
    · obtain ⟨⟨l2, e2'⟩, _⟩ := own' ⟨l', e1⟩
      exact o.fresh j l2 b e2' e2
    · obtain ⟨u, eu⟩ := o.dom b hb.1
      exact ⟨u, ne hb.2 eu⟩
    · by_cases hj : j = i
      · subst hj
        rw [List.getElem?_set_self hl] at es
        cases es
        rw [h1]
        exact slOk_v (.dcf (fun z => z.2 rfl) upd_same ek ((rv.keep kp).less sub))
      · rw [List.getElem?_set_ne (Ne.symm hj)] at es
        cases s with
        | no => exact slOk_no
        | ob r t => exact slOk_ob
        | exc t =>
          obtain ⟨a', C', ob', u', q1, q2, q3, q4⟩ := o.readX es
          rw [q1]
          exact ⟨C', ob', u', q2, ne (fun z => by rw [z, hb] at q3; cases q3) q3, q4⟩
        | fr l' =>
          obtain ⟨a', xs', q1, q2, q0, q3, q4⟩ := o.readF es
          rw [q1]
          exact ⟨fun z => q2 (sub _ z), q0, xs', kp _ _ q2 q3, (q4.keep kp).less sub⟩
        | v d =>
          obtain ⟨v, q1, q2⟩ := o.read es
          rw [q1]
          exact slOk_v ((q2.keep kp).less sub)
        | own l' =>
          obtain ⟨b, ys, q1, q2, q3, q4⟩ := o.readO es
          rw [q1]
          have z := nown ⟨l', es⟩ q1
          exact ⟨⟨q2, z⟩, ys, ne z q3, (q4.keep kp).less sub⟩
    · have := o.hold p hp
      cases p with
      | rep v d => exact (Rep.keep kp this).less sub
      | base B => exact fun b hb => ⟨⟨(this b hb).1, fun z => (this b hb).2 (by rw [z]; exact h0)⟩, (this b hb).2⟩
      | root k a => exact True.intro
      | fz a' o' kvs' l' => exact ⟨fun z => this.1 (sub _ z), kp _ _ this.1 this.2.1, (Reps.keep kp this.2.2).less sub⟩
    · refine ⟨F, fun j r' t' ej => ?_⟩
      obtain ⟨ej, hj⟩ := ob_set (fun r t => by intro z; cases z) ej
      obtain ⟨w, g1, g2, g3, g4, g5⟩ := hF j r' t' ej
      have na : a ∉ F j := fun z => (h5 a (.head _)).2.1 j r' t' hj ej z
      refine ⟨w, g1, (g2.keep kp fun b hb u eb => ne (fun z => na (by rw [← z]; exact hb)) eb).less sub fun b hb => ⟨(g2.owns b hb).1, fun z => na (by rw [← z]; exact hb)⟩, g3, g4, fun b hb => ⟨(g5 b hb).1, fun m r2 t2 hm em => (g5 b hb).2.1 m r2 t2 hm (ob_set (fun r t => by intro z; cases z) em).1, fun m om em => (g5 b hb).2.2 m (own' om).1 em⟩⟩
end
section
variable {X : Cx}
theorem psv_frzD {i : Nat} {st : Stmt} {g : FS} (h : PSv X st g) : PSv X st (frzDG i g) := by
  obtain ⟨t, ht, hg⟩ := h
  refine ⟨_, ps_frz (i := i) ht, fun H₀ H O σ ds hd out E o e h => ?_⟩
  unfold frzDG at e
  cases hs : ds[i]? with
  | none => rw [hs] at e; cases e
  | some s =>
    rw [hs] at e
    cases s with
    | ob r T =>
      cases T with
      | dct ks ts =>
        simp only at e
        obtain ⟨l, hv, e⟩ := bnd e
        rw [valsO_some hv] at hs
        obtain ⟨a, kvs, h1, h2, h3⟩ := o.frzD hs
        refine ⟨a, kvs, h1, h2, fun ob => ?_⟩
        obtain ⟨O', o'⟩ := h3 ob
        exact hg H₀ _ O' σ _ hd out E o' e h
      | _ => cases e
    | _ => cases e
end
end FL
namespace FL
open PySem PySem.Spec PyProof.Rows L2
section
variable {K : Frag} {H H' H₀ : Hp} {O O' : Addr → Prop}
end
section
variable {X : Cx}
section
variable {t k j n m : Nat} {F : OT → List D → Option OT} {x : Str} {p pos : Pos} {e : Expr} {es : List Expr} {g : FA}
end
end
end FL
namespace FL
open PySem PySem.Spec PyProof.Rows L2
section
variable {X : Cx}
section
variable {m : Str} {k j n : Nat} {cs : List Nat} {F : Nat → OT → List D → Option OT} {oe e : Expr} {es : List Expr} {apos pos pos' : Pos} {f : FP} {g : FA}
end
end
end FL
namespace L2
open PySem PySem.Spec PyProof.Rows
section
variable {X : Cx}
end
end L2
namespace FL
open PySem PySem.Spec PyProof.Rows L2
section
variable {X : Cx}
end
end FL
namespace L2
open PySem PySem.Spec PyProof.Rows
section
variable {X : Cx}
end
end L2
namespace FL
open PySem PySem.Spec PyProof.Rows L2
section
variable {X : Cx}
end
end FL
namespace FL
open PySem PySem.Spec PyProof.Rows L2
section
variable {X : Cx}
end
end FL
namespace FL
open PySem PySem.Spec PyProof.Rows L2
abbrev LkF (K : Frag) (f : Addr) (oc : Value) (od : Option Addr) (nm q : Str) (st : Stmt) (dV kV dc pm : Value) (an : Option Addr) (cd ct : Value) (sl : Array (Option Value)) : Prop := K.lookup f = some ⟨oc, od, .func (PySem.W.fnOf nm q (defArgs st) (defBody st) (defScope st) dV kV dc pm an cd ct), sl⟩
structure FunD (K : Frag) (x qual : Str) (st : Stmt) (f : Addr) (fd : FuncData) (its : Array Value) : Prop where
  ex : ∃ (Tu : Addr) (ob : Obj) (n : Nat) (oc : Value) (od : Option Addr) (kV doc pm : Value) (an : Option Addr) (cdv ct : Value) (osl : Array (Option Value)),
    fd = PySem.W.fnOf x qual (defArgs st) (defBody st) (defScope st) (.ref Tu) kV doc pm an cdv ct ∧ K.lookup f = some ⟨oc, od, .func fd, osl⟩ ∧ PySem.W.codeIn K cdv qual = true ∧ K.lookup Tu = some ob ∧ ob.data = .seq its n
  kp : PySem.W.keepIn K (.ref f) = true
section
variable {P : Program} {w : World} {K : Frag} {mg : Str → Option Value} {base : Heap} {x qual : Str} {st : Stmt} {f : Addr} {fd : FuncData} {its : Array Value}
theorem FunD.binds {ps : List Str} {ds : List Value} (F : FunD K x qual st f fd its)
    (h : ∀ (Tu : Addr) (kV doc pm : Value) (an : Option Addr) (cdv ct : Value) (us : List Value), (us ++ ds).length = ps.length → ∃ k : Option (Array Value) → Sem (List (Str × Value)), bindArgs (PySem.W.fnOf x qual (defArgs st) (defBody st) (defScope st) (.ref Tu) kV doc pm an cdv ct) ⟨us, []⟩ = seqItems? (.ref Tu) >>= k ∧ k (some its) = pure (ps.zip (us ++ ds))) : Binds K fd ps ds := by
  obtain ⟨Tu, ob, n, oc, od, kV, doc, pm, an, cdv, ct, osl, rfl, lk, hcd, lt, hs⟩ := F.ex
  intro s us X hl
  obtain ⟨k, h1, h2⟩ := h Tu kV doc pm an cdv ct us hl
  exact PySem.W.binds_K X rfl lt hs h1 h2
theorem len0 {P : List Value → Prop} (h : P []) : ∀ us : List Value, us.length = 0 → P us := fun us hl => by cases us with | nil => exact h | cons _ _ => cases hl
theorem lenS {P : List Value → Prop} {n : Nat} (h : ∀ a us, us.length = n → P (a :: us)) : ∀ us : List Value, us.length = n + 1 → P us := fun us hl => by cases us with | nil => cases hl | cons a r => exact h a r (Nat.succ.inj hl)
theorem len1 {P : List Value → Prop} (h : ∀ a0, P [a0]) : ∀ us : List Value, us.length = 1 → P us := lenS fun a => len0 (P := fun us => P (a :: us)) (h a)
theorem len2 {P : List Value → Prop} (h : ∀ a0 a1, P [a0, a1]) : ∀ us : List Value, us.length = 2 → P us := lenS fun a => len1 (P := fun us => P (a :: us)) (h a)
theorem len3 {P : List Value → Prop} (h : ∀ a0 a1 a2, P [a0, a1, a2]) : ∀ us : List Value, us.length = 3 → P us := lenS fun a => len2 (P := fun us => P (a :: us)) (h a)
theorem len4 {P : List Value → Prop} (h : ∀ a0 a1 a2 a3, P [a0, a1, a2, a3]) : ∀ us : List Value, us.length = 4 → P us := lenS fun a => len3 (P := fun us => P (a :: us)) (h a)
theorem len5 {P : List Value → Prop} (h : ∀ a0 a1 a2 a3 a4, P [a0, a1, a2, a3, a4]) : ∀ us : List Value, us.length = 5 → P us := lenS fun a => len4 (P := fun us => P (a :: us)) (h a)
theorem len6 {P : List Value → Prop} (h : ∀ a0 a1 a2 a3 a4 a5, P [a0, a1, a2, a3, a4, a5]) : ∀ us : List Value, us.length = 6 → P us := lenS fun a => len5 (P := fun us => P (a :: us)) (h a)
def DefM (K : Frag) (x : Str) (st : Stmt) (f : Addr) : Prop := ∃ (oc : Value) (od : Option Addr) (kV dc pm : Value) (an : Option Addr) (cd ct : Value) (sl : Array (Option Value)), PySem.W.nsIn K mainGlobals x = some (some (.ref f)) ∧ LkF K f oc od x x st .none kV dc pm an cd ct sl ∧ PySem.W.codeIn K cd x = true ∧ PySem.W.keepIn K (.ref f) = true
def DefC (K : Frag) (C : Addr) (m q : Str) (st : Stmt) (f : Addr) : Prop := ∃ (oc : Value) (od : Option Addr) (kV dc pm : Value) (an : Option Addr) (cd ct : Value) (sl : Array (Option Value)), PySem.W.findIn K (.ref C) m = some (some (.ref f)) ∧ LkF K f oc od m q st .none kV dc pm an cd ct sl ∧ PySem.W.codeIn K cd q = true ∧ PySem.W.keepIn K (.ref f) = true ∧ PySem.W.isFn K (.ref f) = true
theorem DefM.get {x : Str} {st : Stmt} {f : Addr} (h : DefM K x st f) : ∃ fd, Fun K x x st f fd ∧ PySem.W.nsIn K mainGlobals x = some (some (.ref f)) ∧ PySem.W.keepIn K (.ref f) = true := by
  obtain ⟨_, _, _, _, _, _, _, _, _, a, l, c, k⟩ := h
  exact ⟨_, fun_mk l c k, a, k⟩
theorem cal_mk {k n : Nat} {x : Str} {f : Addr} {fd : FuncData} {ps : List Str} {F : List D → Option Ret} (G : FnOk P w K mg base CX0 k f fd ps (spF K n F)) (b : Binds K fd ps []) (h : PySem.W.keepIn K (.ref f) = true) (m : mg x = some (.ref f)) : Cal P w K mg base x k n F := ⟨f, _, _, G, b, h, m⟩
structure SysAt (P : Program) (w : World) (base : Heap) (K : Frag) (mg : Str → Option Value) : Prop where
  ex : ∃ h : Heap, K.In h ∧ h.Ns mainGlobals mg
def CN (K : Frag) (x : Str) (C : Addr) : Prop := PySem.W.nsIn K mainGlobals x = some (some (.ref C)) ∧ PySem.W.plainGet K C Str.empty = true ∧ PySem.W.hasDictIn K C = true ∧ PySem.W.plainOver K C = true ∧ PySem.W.findIn K (.ref C) "__setattr__" = some (some (.builtin "object.__setattr__"))
def XN (K : Frag) (A B : Addr) : Prop := PySem.W.isClsIn K B = true ∧ PySem.W.typeIn K (.ref B) = some (.type "type") ∧ PySem.W.subIn K (.ref A) (.ref B) = some false ∧ (Value.ref A == Value.ref B) = false
def XI (K : Frag) (x : Str) (C : Addr) : Prop := PySem.W.nsIn K mainGlobals x = some (some (.ref C)) ∧ PySem.W.findIn K (.ref C) "__getattribute__" = some (some (.builtin "BaseException.__getattribute__")) ∧ PySem.W.findIn K (.ref C) "__getattr__" = some none ∧ PySem.W.findIn K (.ref C) "__class__" = some (some (.builtin "object.__class__")) ∧ PySem.W.mroIn K C (.type "object") = some true ∧ PySem.W.mroIn K C (.type "BaseException") = some true
theorem DefM.cal {k n : Nat} {x : Str} {st : Stmt} {f : Addr} {ps : List Str} {F : List D → Option Ret} (d : DefM K x st f) (X : SysAt P w base K mg) (hf : ∀ {fd}, Fun K x x st f fd → FnOk P w K mg base CX0 k f fd ps (spF K n F))
    (hb : ∀ (kV doc pm : Value) (an : Option Addr) (cdv ct : Value) (us : List Value), us.length = ps.length → bindArgs (PySem.W.fnOf x x (defArgs st) (defBody st) (defScope st) .none kV doc pm an cdv ct) ⟨us, []⟩ = pure (ps.zip us) := by
      intro _ _ _ _ _ _; first | exact len0 rfl | exact len1 fun _ => rfl | exact len2 fun _ _ => rfl | exact len3 fun _ _ _ => rfl | exact len4 fun _ _ _ _ => rfl | exact len5 fun _ _ _ _ _ => rfl) : Cal P w K mg base x k n F := by
  obtain ⟨_, F1, a, c⟩ := d.get
  obtain ⟨_, X, G⟩ := X.ex
  exact cal_mk (hf F1) (F1.binds hb) c (PySem.W.mg_of X G a)
end
end FL
namespace FL
open PySem PySem.Spec PyProof.Rows L2
section
variable {X : Cx}
end
section
variable {X : Cx} {m : Str} {k j : Nat} {cs : List Nat} {F : Nat → List D → Option Ret} {o : Expr} {apos pos : Pos} {fo : FE}
end
end FL
namespace L2
open PySem PySem.Spec PyProof.Rows
section
variable {prog : Program} {w : World} {A : Around} {E : Value → Shared → Prop} {s : Shared}
end
section
variable {X : Cx}
end
end L2
namespace L2
open PySem PySem.Spec PyProof.Rows
section
variable {X : Cx}
end
section
variable {X : Cx}
end
end L2
namespace FL
open PySem PySem.Spec PyProof.Rows L2
section
variable {X : Cx}
end
end FL
namespace FL
open PySem PySem.Spec PyProof.Rows L2
section
variable {X : Cx}
section
variable {scope : Scope} {NY : List Str} {mp : List (Option Nat)} {tg iter elt : Expr} {ifs : List Expr} {pos : Pos} {fi : FA} {ga : D → List Sl → Option (List Sl)} {tt : FT} {fe : FE}
end
theorem PVo.n {e : Expr} {f : FO} (h : PVo X e f) : PVn X e (seeO f) := by
  obtain ⟨t, ht, hf⟩ := h
  refine ⟨t, ht, fun H₀ H O σ ds hd d Q o e q => ?_⟩
  unfold seeO at e
  obtain ⟨T, h1, rfl⟩ := mpd e
  exact hf H₀ H O σ ds hd T Q o h1 fun v H' fs s r nd hn => q v H' s (r.frz fun a z => z.elim)
end
end FL
namespace FL
open PySem PySem.Spec PyProof.Rows L2
section
variable {X : Cx}
end
end FL
namespace L2
open PySem PySem.Spec PyProof.Rows
section
variable {X : Cx}
theorem call_sorted64 : CallR X (.builtin "sorted") (fun xs H Q => ∃ (p : Addr) (ns : List Int), xs = [.ref p] ∧ SqL X.K H p (ns.map V.int) ∧ ns.length < 64 ∧ ∀ l, H l = none → Q (.ref l) (upd H l (.lst ((FL.srtI ns).map V.int)))) := by
  intro pins s σ H xs us Q I r h
  obtain ⟨p, ns, rfl, hq, h64, q⟩ := h
  obtain ⟨u, rfl, ru⟩ := vals1 r
  cases ru
  obtain ⟨its, rv, pl, hz⟩ := I.list hq
  have hi : IntsAre its ns := intsAre_of rv
  have hlen := rv.length
  refine sorted_ints pl.isList hi (by simp only [List.length_map] at hlen; omega) fun out ns' hI' hp hs => ?_
  have en : ns' = FL.srtI ns := FL.le_unique _ _ (hp.trans (FL.srtI_perm ns).symm) hs (FL.srtI_le ns)
  obtain ⟨e, he⟩ := sortedAll_at s.heap its out
  refine ⟨.ref (s.heap.objs.size + 1), _, Inv.laid (s := s) I (t' := s.toks) (fun b o z => sortedAll_old z) (Nat.le_succ _) (show ObjOk X.prog X.w _ (sortedAll s.heap its out) _ (.lst ((FL.srtI ns).map V.int)) from ⟨?_, out.toList, e, ?_, by simpa using he⟩), rfl, q _ (I.hok.fresh (Nat.le_succ _))⟩
  · have := (FL.srtI_perm ns).length_eq
    simp only [List.length_map] at hz ⊢
    omega
  · rw [← en]; exact vals_nums hI'
end
end L2
namespace FL
open PySem PySem.Spec PyProof.Rows L2
section
variable {X : Cx}
theorem pvf_sorted64 {e : Expr} {f : FE} {p pos : Pos} (hc : X.calm = true) (hm : X.mg "sorted" = none) (he : PVw X e f) (hg : Gl X "sorted" := by rfl) (hs : starEach [e] X.env = [(false, eval e X.env)] := by rfl) :
    PVf X (.Call (.Name "sorted" p) [e] [] pos) (srtA64 f) := by
  obtain ⟨te, pe, he⟩ := he
  refine ⟨_, pe_callB call_sorted64 hg hm (by decide +kernel) (pa_cons pe pa_nil hs) (by decide) (by decide) hs rfl, fun H₀ H O σ ds hd l Q o e q => ?_⟩
  unfold srtA64 at e
  obtain ⟨d, h1, e⟩ := bnd e
  refine he H₀ H O σ ds hd _ _ o h1 fun v H1 s1 r1 => ?_
  cases d <;> first | (cases e; done) | skip
  rename_i l'
  simp only at e
  obtain ⟨ns, hb, e⟩ := bnd e
  split at e
  · rename_i h64
    cases e
    obtain ⟨a1, xs, rfl, hq, rs⟩ := r1.seqL
    refine ⟨a1, ns, rfl, ?_, h64, fun p hp => ?_⟩
    · rw [← ints_rep rs hb]; exact hq
    · exact q p _ _ (s1.trans (same_upd hp _)) (s1.free hp) upd_same (reps_ints _)
  · cases e
end
end FL
namespace FL
open PySem PySem.Spec PyProof.Rows L2
section
variable {prog : Program} {w : World} {A : Around} {E : Value → Shared → Prop} {s : Shared}
end
section
variable {X : Cx} {tg : Expr}
end
end FL
namespace FL
open PySem PySem.Spec PyProof.Rows L2
section
variable {K : Frag} {H H' H₀ : Hp} {O O' : Addr → Prop}
end
section
variable {X : Cx}
end
section
variable {X : Cx}
section
variable {scope : Scope} {NY : List Str} {mp : List (Option Nat)} {tg iter elt : Expr} {pos : Pos} {fi : FA} {ga : D → List Sl → Option (List Sl)} {fe : FX} {i p : Nat}
end
end
section
variable {P : Program} {w : World} {K : Frag} {mg : Str → Option Value} {base : Heap}
end
end FL
namespace FL
open PySem PySem.Spec PyProof.Rows L2
open PySem.W (hideAll hideAll_get of_hideAll hideAll_none)
section
variable {M : Model} {A : Around} {E : Value → Shared → Prop} {s : Shared} {B : Heap} {l outer : List Env} {env : Env} {e L : Addr} {cls a0 fl : Value} {Q : Unit → Shared → Prop}
end
section
variable {X : Cx} {E : XK} {C : Addr}
end
section
variable {X : Cx} {E : XK} {C : Addr} {scope : Scope} {NY : List Str} {mp : List (Option Nat)} {tg iter elt : Expr} {pos : Pos} {fi : FA} {ga : D → List Sl → Option (List Sl)} {fe : FE} {x : List Sl → Bool}
end
section
variable {X : Cx}
end
end FL
namespace FL
open PySem PySem.Spec PyProof.Rows L2
section
variable {X : Cx} {E : XK} {C : Addr} {m : Str} {t k j n : Nat} {R : List D → Bool} {o e : Expr} {es : List Expr} {apos pos : Pos} {fo : FE} {g : FA}
end
end FL
namespace FL
open PySem PySem.Spec PyProof.Rows L2
section
variable {X : Cx} {E : XK} {C : Addr} {m : Str} {t k j n : Nat} {R : List D → Bool} {o e : Expr} {es : List Expr} {apos pos : Pos} {fo : FE} {g : FA}
end
section
variable {X : Cx} {scope : Scope} {NY : List Str} {mp : List (Option Nat)} {tg iter elt : Expr} {ifs : List Expr} {pos : Pos} {fi : FA} {ga : D → List Sl → Option (List Sl)} {tt : FT} {fe : FE}
end
end FL
namespace FL
open PySem PySem.Spec PyProof.Rows L2
section
variable {X : Cx}
theorem valV_none {K : Frag} {H : Hp} {O : Addr → Prop} : ∀ {kvs : List (Key × V)} {l : List D} {k : Key}, Reps K H O (kvs.map (·.2)) l → getKD k (kvs.map (·.1)) l = none → valV kvs k = none := by
  intro kvs
  induction kvs with
  | nil => intro l k _ _; rfl
  | cons p kvs ih =>
    intro l k r e
    cases r with
    | cons h t =>
      simp only [List.map_cons, getKD] at e
      split at e
      · cases e
      · rename_i hk
        have := ih t e
        simpa [valV, hk] using this
theorem pv_dget2 {oe ke ze : Expr} {apos pos : Pos} {fd fk fz : FE} {j : Nat} (hr : Room j X.A) (ho : PV X oe fd) (hk : PV X ke fk) (hz : PV X ze fz)
    (hb : attributeBase oe "get" X.env (eval oe X.env) = eval oe X.env := by rfl)
    (hf : ((backTo pos (starEach [ke, ze] X.env)).all (fun x => !x.1) && (backToKw pos (keywordEach [] X.env)).all (fun x => x.1.isSome) && decide (([ke, ze] : List Expr).length + ([] : List Keyword).length + (if ([] : List Keyword).isEmpty then 0 else 1) < 30)) = true := by rfl)
    (hl : (apos.endLine == pos.line) = true := by rfl) (ht : backTo pos (starEach [ke, ze] X.env) = [(false, eval ke X.env), (false, eval ze X.env)] := by rfl) : PV X (.Call (.Attribute oe "get" apos) [ke, ze] [] pos) (dget2G fd fk fz) := by
  obtain ⟨td, pd, hd'⟩ := ho
  obtain ⟨tk, pk, hk⟩ := hk
  obtain ⟨tz, pz, hz⟩ := hz
  refine ⟨_, pe_dget2 (Nat.lt_of_le_of_lt (by omega) (hu100 hr)) pd pk pz ⟨hb, hf, hl, ht⟩, fun H₀ H O σ ds hd d Q o e q => ?_⟩
  unfold dget2G at e
  obtain ⟨x, h1, e⟩ := bnd e
  obtain ⟨y, h3, e⟩ := bnd e
  obtain ⟨z, h4, e⟩ := bnd e
  obtain ⟨k, h5, e⟩ := bnd e
  obtain ⟨p, h6, rfl⟩ := mpd e
  refine hd' H₀ H O σ ds hd x _ o h1 fun v H1 s1 r1 => ?_
  obtain ⟨a, kvs, rfl, hb, ek, rs⟩ := kdD_rep r1 h6
  refine ⟨a, rfl, .inl ⟨kvs, hb⟩, ?_⟩
  refine hk H₀ H1 O σ ds hd y _ (o.mono s1) h3 fun yv H2 s2 r2 => ?_
  refine hz H₀ H2 O σ ds hd z _ ((o.mono s1).mono s2) h4 fun zv H3 s3 r3 => ?_
  obtain ⟨a', kvs', e', hb', ek', rs'⟩ := kdD_rep (r1.mono (s2.trans s3)) h6
  cases e'
  cases keyD_rep r2 h5
  refine ⟨valV kvs' k, .inl ⟨kvs', k, hb', rfl, rfl⟩, ?_⟩
  rw [← ek'] at q
  cases hg : getKD k (kvs'.map (·.1)) p.2 with
  | none =>
    rw [hg] at q
    rw [valV_none rs' hg]
    exact q zv H3 ((s1.trans s2).trans s3) r3
  | some d =>
    rw [hg] at q
    obtain ⟨w, h7, h8⟩ := valV_get rs' hg
    rw [h7]
    exact q w H3 ((s1.trans s2).trans s3) h8
theorem pvo_d1 {ke ve : Expr} {pos : Pos} {fk fv : FE} (hk : PV X ke fk) (hv : PV X ve fv) : PVo X (.Dict [some ke] [ve] pos) (dO1 fk fv) := by
  obtain ⟨tk, pk, hk⟩ := hk
  obtain ⟨tv, pv, hv⟩ := hv
  refine ⟨_, pe_disp (pps_cons pk pv pps_nil) rfl rfl (by simp) (by simp), fun H₀ H O σ ds hd T Q o e q => fun p hp => ?_⟩
  unfold dO1 at e
  obtain ⟨y, h1, e⟩ := bnd e
  obtain ⟨k, h2, e⟩ := bnd e
  obtain ⟨d, h3, e⟩ := bnd e
  split at e
  · rename_i hf
    cases e
    have o1 := o.mono (same_upd hp (HO.dK []))
    refine hk H₀ _ O σ ds hd y _ o1 h1 fun yv H1 s1 r1 => ?_
    refine hv H₀ H1 O σ ds hd d _ (o1.mono s1) h3 fun w H2 s2 r2 => ?_
    have e2 : H2 p = some (.dK []) := s2 _ _ (s1 _ _ upd_same)
    cases keyD_rep r1 h2
    refine ⟨e2, [(k, w)], rfl, by simp, ?_⟩
    have dom : ∀ a, orL [p] O a → Old H2 a := fun a z => z.elim (fun z => by rw [List.mem_singleton.mp z]; exact ⟨_, e2, rfl⟩) fun z => by
      obtain ⟨u, eu⟩ := ((o1.mono s1).mono s2).dom a z
      exact ⟨u.1, eu, u.2⟩
    have r3 : Rep X.K H2 (orL [p] O) w d := Rep.flatten dom hf r2
    have r4 : Rep X.K (upd H2 p (.dK (mergeK [] [(k, w)]))) (orL [p] O) w d := r3.keep fun b u nb eb => by
      rw [upd_ne (fun z => nb (.inl (by rw [z]; exact .head _)))]; exact eb
    have sm : Same H (upd H2 p (.dK (mergeK [] [(k, w)]))) := fun b u eb => by
      have hb : b ≠ p := fun z => by rw [z, hp] at eb; cases eb
      rw [upd_ne hb]
      exact s2 _ _ (s1 _ _ (by rw [upd_ne hb]; exact eb))
    exact q _ _ [p] sm (.dct (kvs := [(k, w)]) (.inl (.head _)) upd_same rfl (.cons (.val r4) .nil)) (by simp) fun b hb => by rw [List.mem_singleton.mp hb]; exact hp
  · cases e
theorem Rep.flattenZ {K : Frag} {H : Hp} {O O' : Addr → Prop} {v : V} {d : D} (ho : ∀ a, O a → Old H a) (h : flatZ d = true) (r : Rep K H O' v d) : Rep K H O v d := by
  cases r with
  | dcf n h' e r => exact .dcf (fun z => by obtain ⟨w, e2, m⟩ := ho _ z; rw [h'] at e2; cases e2; cases m) h' e (Reps.flatten ho h r)
  | clo tx la e nd hc rx => cases h
  | fnK hk => exact .fnK hk
  | non => exact .non
  | bl b => exact .bl b
  | int i => exact .int i
  | str x => exact .str x
  | tup n h' r => exact Rep.flatten ho h (.tup n h' r)
  | tupK h' r => exact Rep.flatten ho h (.tupK h' r)
  | lst n h' r => exact Rep.flatten ho h (.lst n h' r)
  | lstK h' r => exact Rep.flatten ho h (.lstK h' r)
  | dct n h' e r => exact Rep.flatten ho h (.dct n h' e r)
  | ins c n h' e r => exact Rep.flatten ho h (.ins c n h' e r)
theorem Reps.flattenZ {K : Frag} {H : Hp} {O O' : Addr → Prop} (ho : ∀ a, O a → Old H a) : ∀ {d : List D} {v : List V}, d.all flatZ = true → Reps K H O' v d → Reps K H O v d := by
  intro d
  induction d with
  | nil => intro v _ r; cases r; exact .nil
  | cons a l ih =>
    intro v h r
    simp only [List.all_cons, Bool.and_eq_true] at h
    cases r with
    | cons r t => exact .cons (Rep.flattenZ ho h.1 r) (ih h.2 t)
theorem psv_retC2 {e : Expr} {pos : Pos} {f : FE} (he : PV X e f) : PSv X (.Return (some e) pos) (retCG2 f) := by
  obtain ⟨t, ht, hg⟩ := he
  refine ⟨_, ps_ret ht, fun H₀ H O σ ds hd out E o e h => ?_⟩
  unfold retCG2 at e
  obtain ⟨d, h1, e⟩ := bnd e
  split at e
  · rename_i hf
    cases e
    refine hg H₀ H O σ ds hd d _ o h1 fun v H' s r => h _ _ (o.same.trans s) ?_ True.intro
    have ho : ∀ a, Old H₀ a → Old H' a := fun a z => Old.mono (o.same.trans s) z
    have k : ∀ a o u, H' a = some (.frz o u) → ¬ Old H₀ a := fun a o u e z => by
      obtain ⟨w, e2, m⟩ := ho a z
      rw [e] at e2; cases e2; cases m
    cases r with
    | clo tx la e9 nd hc rx => exact .clo tx (la.of k) e9 nd (hc.of k) (Reps.flattenZ ho hf rx)
    | fnK hk => exact .fnK hk
    | _ => cases hf
  · cases e
theorem PV.dC {e : Expr} {f : FE} (h : PV X e f) : PVd X e (flVC f) := by
  obtain ⟨t, ht, hf⟩ := h
  refine ⟨t, ht, fun H₀ H O σ ds hd d Q o e q => ?_⟩
  unfold flVC at e
  obtain ⟨dx, h1, e⟩ := bnd e
  split at e
  · rename_i hfl
    cases e
    exact hf H₀ H O σ ds hd _ _ o h1 fun v H' s r => q v H' s (Rep.flattenC (fun a z => Old.mono s z) hfl r)
  · cases e
theorem pv_callC0 {x : Str} {p pos : Pos} {k j : Nat} {F : List D → Option Ret} (C : Cal X.prog X.w X.K X.mg X.base x k 0 F) (hr : Room j X.A) (hj : k ≤ j := by decide) (hg : Gl X x := by rfl) (hdb : (x == ("__debug__" : Str)) = false := by decide) :
    PV X (.Call (.Name x p) [] [] pos) (callV 0 F nilA) := by
  obtain ⟨f, fd, ps, Fn, hb, hk, hm⟩ := C.ex
  refine ⟨_, pe_call0 (CX := CX0) (E := E0) Fn (hr.mono hj) hg hm hk hb .nil pass0 hdb, fun H₀ H O σ ds hd d Q o e q => ?_⟩
  unfold callV at e
  obtain ⟨l, h, e⟩ := bnd e
  cases h
  rw [if_pos (show ([] : List D).length = 0 from rfl)] at e
  obtain ⟨r, h2, e⟩ := bnd e
  refine ⟨rfl, [], r, .nil, h2, fun v H' s' ro => q v H' s' ?_⟩
  exact retV_ok ro e fun a ha => o.old ha
end
end FL
namespace FL
open PySem PySem.Spec PyProof.Rows L2
noncomputable def oi : Option Int → D
  | none => .non
  | some i => .int i
@[simp] theorem oi_none : oi none = .non := rfl
@[simp] theorem oi_some (i : Int) : oi (some i) = .int i := rfl
noncomputable def andK (r : Option D) : D → Option D := fun d => match d with | .bl true => r | .bl false => some (.bl false) | _ => none
noncomputable def orK (r : Option D) : D → Option D := fun d => match d with | .bl true => some (.bl true) | .bl false => r | _ => none
@[simp] theorem andK_bl (r : Option D) (b : Bool) : andK r (.bl b) = if b = true then r else some (.bl false) := by cases b <;> rfl
@[simp] theorem orK_bl (r : Option D) (b : Bool) : orK r (.bl b) = if b = true then some (.bl true) else r := by cases b <;> rfl
@[simp] theorem ite_andD (b c : Bool) : (if b = true then some (D.bl c) else some (D.bl false)) = some (.bl (b && c)) := by cases b <;> rfl
@[simp] theorem ite_orD (b c : Bool) : (if b = true then some (D.bl true) else some (D.bl c)) = some (.bl (b || c)) := by cases b <;> rfl
@[simp] theorem ite_andB (b c : Bool) : (if b = true then some c else some false) = some (b && c) := by cases b <;> rfl
@[simp] theorem ite_orB (b c : Bool) : (if b = true then some true else some c) = some (b || c) := by cases b <;> rfl
@[simp] theorem ite_andB' (p : Prop) [Decidable p] (c : Bool) : (if p then some c else some false) = some (decide p && c) := by by_cases h : p <;> simp [h]
@[simp] theorem ite_orB' (p : Prop) [Decidable p] (c : Bool) : (if p then some true else some c) = some (decide p || c) := by by_cases h : p <;> simp [h]
@[simp] theorem szl : sizeLine = 16777216 := sizeLine_eq
section
variable (ds : List Sl)
@[simp] theorem getV_eq (i : Nat) : getV i ds = match ds[i]? with | some (.v d) => some d | _ => none := rfl
@[simp] theorem getW_eq (i : Nat) : getW i ds = match ds[i]? with | some (.v d) => some d | some (.own l) => some (.lst l) | _ => none := rfl
@[simp] theorem konst_eq (d : D) : konst d ds = some d := rfl
@[simp] theorem bin2_eq (op : D → D → Option D) (fa fb : FE) : bin2 op fa fb ds = (fa ds).bind fun x => (fb ds).bind fun y => op x y := rfl
@[simp] theorem un1_eq (op : D → Option D) (f : FE) : un1 op f ds = (f ds).bind op := rfl
@[simp] theorem callB_eq (F : List D → Option D) (g : FA) : callB F g ds = (g ds).bind F := rfl
@[simp] theorem callV_eq (n : Nat) (F : List D → Option Ret) (g : FA) : callV n F g ds = (g ds).bind fun l => if l.length = n then (F l).bind retV else none := rfl
@[simp] theorem callF_eq (n : Nat) (F : List D → Option Ret) (g : FA) : callF n F g ds = (g ds).bind fun l => if l.length = n then (F l).bind retF else none := rfl
@[simp] theorem retV_val (d : D) : retV (.val d) = some d := rfl
@[simp] theorem retV_fresh (l : List D) : retV (.fresh l) = some (.lst l) := rfl
@[simp] theorem retF_val (d : D) : retF (.val d) = none := rfl
@[simp] theorem retF_fresh (l : List D) : retF (.fresh l) = some l := rfl
@[simp] theorem consA_eq (f : FE) (g : FA) : consA f g ds = (f ds).bind fun x => (g ds).map fun r => x :: r := rfl
@[simp] theorem nilA_eq : nilA ds = some [] := rfl
@[simp] theorem sized_eq (f : FA) : sized f ds = (f ds).bind fun l => if l.length ≤ sizeLine then some l else none := rfl
@[simp] theorem mkL_eq (f : FA) : mkL f ds = (f ds).map D.lst := rfl
@[simp] theorem mkT_eq (f : FA) : mkT f ds = (f ds).map D.tup := rfl
@[simp] theorem testB_eq (f : FE) : testB f ds = (f ds).bind isB := rfl
@[simp] theorem testT_eq (f : FE) : testT f ds = (f ds).bind truD := rfl
@[simp] theorem isB_bl (b : Bool) : isB (.bl b) = some b := rfl
@[simp] theorem andT_eq (c d : FT) : andT c d ds = (c ds).bind fun b => if b = true then d ds else some false := rfl
@[simp] theorem orT_eq (c d : FT) : orT c d ds = (c ds).bind fun b => if b = true then some true else d ds := rfl
@[simp] theorem notT_eq (c : FT) : notT c ds = (c ds).map not := rfl
@[simp] theorem andV_eq (f g : FE) : andV f g ds = (f ds).bind (andK (g ds)) := rfl
@[simp] theorem orV_eq (f g : FE) : orV f g ds = (f ds).bind (orK (g ds)) := rfl
@[simp] theorem notV_eq (f : FE) : notV f ds = (f ds).bind fun d => match d with | .bl b => some (.bl (!b)) | _ => none := rfl
@[simp] theorem ifV_eq (c : FT) (f g : FE) : ifV c f g ds = (c ds).bind fun b => if b = true then f ds else g ds := rfl
@[simp] theorem seqG_eq (f g : FS) : seqG f g ds = (f ds).bind fun o => match o with | .nx ds' => g ds' | o => some o := rfl
@[simp] theorem ifG_eq (c : FT) (f g : FS) : ifG c f g ds = (c ds).bind fun b => if b = true then f ds else g ds := rfl
@[simp] theorem setG_eq (i : Nat) (f : FE) : setG i f ds = (f ds).map fun d => .nx (ds.set i (.v d)) := rfl
@[simp] theorem setOG_eq (i : Nat) (f : FA) : setOG i f ds = (f ds).map fun l => .nx (ds.set i (.own l)) := rfl
@[simp] theorem retG_eq (f : FE) : retG f ds = (f ds).bind flatR := rfl
@[simp] theorem retOG_eq (f : FA) : retOG f ds = (f ds).bind flatF := rfl
@[simp] theorem retXG_eq (i : Nat) : retXG i ds = match ds[i]? with | some (.own l) => flatF l | _ => none := rfl
@[simp] theorem nextG_eq : nextG ds = some (.nx ds) := rfl
@[simp] theorem appG_eq (i : Nat) (fe : FE) : appG i fe ds = match ds[i]? with
  | some (.own l) => (fe ds).bind fun d => if l.length < sizeLine then some (.nx (ds.set i (.own (l ++ [d])))) else none
  | _ => none := rfl
@[simp] theorem extG_eq (i : Nat) (fe : FA) : extG i fe ds = match ds[i]? with
  | some (.own l) => (fe ds).bind fun d => if l.length + d.length ≤ sizeLine then some (.nx (ds.set i (.own (l ++ d)))) else none
  | _ => none := rfl
@[simp] theorem putG_eq (i : Nat) (fk fe : FE) : putG i fk fe ds = match ds[i]? with
  | some (.own l) => (fe ds).bind fun d => (fk ds).bind fun k => match k with
    | .int n => (ixN l.length n).map fun j => .nx (ds.set i (.own (l.set j d)))
    | _ => none
  | _ => none := rfl
@[simp] theorem clrG_eq (i : Nat) : clrG i ds = match ds[i]? with
  | some (.own l) => some (.nx (ds.set i (.own [])))
  | _ => none := rfl
@[simp] theorem asgG_eq (ga : D → List Sl → Option (List Sl)) (f : FE) : asgG ga f ds = (f ds).bind fun d => (ga d ds).map .nx := rfl
@[simp] theorem relS_eq (i : Nat) : relS i ds = match ds[i]? with | some (.own l) => ds.set i (.v (.lst l)) | _ => ds := rfl
@[simp] theorem viaA_eq (f : FE) (k : D → Option (List D)) : viaA f k ds = (f ds).bind k := rfl
@[simp] theorem asLT_lst (l : List D) : asLT (.lst l) = some l := rfl
@[simp] theorem asLT_tup (l : List D) : asLT (.tup l) = some l := rfl
@[simp] theorem catA_eq (fa fb : FE) : catA fa fb ds = (fa ds).bind fun x => (fb ds).bind fun y => match x, y with
  | .lst a, .lst b => if a.length + b.length ≤ sizeLine then some (a ++ b) else none
  | _, _ => none := rfl
@[simp] theorem sliA_eq (f : FE) (lo hi : List Sl → Option (Option Int)) : sliA f lo hi ds = (f ds).bind fun d => (lo ds).bind fun a => (hi ds).bind fun b => match d with
  | .lst l => some (cutD l a b)
  | _ => none := rfl
@[simp] theorem lisA_eq (f : FE) : lisA f ds = (f ds).bind asLT := rfl
@[simp] theorem noP_eq : noP ds = some none := rfl
@[simp] theorem soP_eq (f : FE) : soP f ds = (f ds).bind fun d => match d with | .int i => some (some i) | _ => none := rfl
@[simp] theorem forG_eq (fi : FA) (ga : D → List Sl → Option (List Sl)) (body : FS) : forG fi ga body ds = (fi ds).bind fun items => loopG ga body items ds := rfl
@[simp] theorem nameG_eq (i : Nat) (d : D) : nameG i d ds = some (ds.set i (.v d)) := rfl
@[simp] theorem tupG_eq (n : Nat) (h : List D → List Sl → Option (List Sl)) (l : List D) : tupG n h (.tup l) ds = if l.length = n then h l ds else none := rfl
@[simp] theorem tgCons_eq (g : D → List Sl → Option (List Sl)) (h : List D → List Sl → Option (List Sl)) (d : D) (r : List D) : tgCons g h (d :: r) ds = (g d ds).bind fun ds' => h r ds' := rfl
@[simp] theorem tgNil_eq : tgNil [] ds = some ds := rfl
@[simp] theorem isiG_eq (T : String) (f : FE) : isiG T f ds = (f ds).bind (isiD T) := rfl
@[simp] theorem chain_eq (op op' : D → D → Option D) (fa fb fc : FE) : chain op op' fa fb fc ds = (fa ds).bind fun x => (fb ds).bind fun y => (op x y).bind fun z => match z with
  | .bl true => (fc ds).bind fun w => op' y w
  | .bl false => some (.bl false)
  | _ => none := rfl
end
@[simp] theorem addD_int (i j : Int) : addD (.int i) (.int j) = some (.int (i + j)) := rfl
@[simp] theorem subD_int (i j : Int) : subD (.int i) (.int j) = some (.int (i - j)) := rfl
@[simp] theorem negD_int (i : Int) : negD (.int i) = some (.int (-i)) := rfl
@[simp] theorem ltD_int (i j : Int) : ltD (.int i) (.int j) = some (.bl (decide (i < j))) := rfl
@[simp] theorem leD_int (i j : Int) : leD (.int i) (.int j) = some (.bl (decide (i ≤ j))) := rfl
@[simp] theorem gtD_int (i j : Int) : gtD (.int i) (.int j) = some (.bl (decide (j < i))) := rfl
@[simp] theorem geD_int (i j : Int) : geD (.int i) (.int j) = some (.bl (decide (j ≤ i))) := rfl
@[simp] theorem modD_pos {j : Int} (i : Int) (h : 0 < j) : modD (.int i) (.int j) = some (.int (i % j)) := if_pos h
theorem divOk_small {j : Int} (h : 0 < j) (h2 : j < 1000000000) : divOk j := ⟨h, by
  have h3 : j.natAbs < 2 ^ 30 := by
    have : (2 : Nat) ^ 30 = 1073741824 := by decide
    omega
  have h4 : j.natAbs ≠ 0 := by omega
  have := (Nat.log2_lt h4).mpr h3
  omega⟩
@[simp] theorem fdivD_small {j : Int} (i : Int) (h : 0 < j) (h2 : j < 1000000000) : fdivD (.int i) (.int j) = some (.int (i / j)) := if_pos (divOk_small h h2)
theorem mulD_ok {i j : Int} (h : IntMulOk i j) : mulD (.int i) (.int j) = some (.int (i * j)) := if_pos h
theorem powD_ok {i j : Int} (h : CPowB i j) : powD (.int i) (.int j) = some (.int (i ^ j.toNat)) := if_pos h
theorem cpow_of {i j : Int} {n m : Nat} (h : i.natAbs < 2 ^ n) (h0 : 0 ≤ j) (h1 : j ≤ m) (h2 : n * m ≤ 134217728) : CPowB i j := by
  refine ⟨h0, ?_⟩
  have hb : Builtin.Int.intBits i ≤ n := intBits_le_iff.mpr h
  have h3 : (Builtin.Int.intBits i : Int) * j ≤ (n : Int) * (m : Int) := Int.mul_le_mul (by omega) h1 h0 (by omega)
  have h4 : ((n * m : Nat) : Int) ≤ 134217728 := by omega
  have e : ((n * m : Nat) : Int) = (n : Int) * (m : Int) := Int.natCast_mul n m
  have e2 : (2 : Int) ^ 27 = 134217728 := by decide
  rw [e2]
  omega
@[simp] theorem pow10 {j : Int} (h0 : 0 ≤ j) (h1 : j ≤ 1000) : powD (.int 10) (.int j) = some (.int (10 ^ j.toNat)) := powD_ok (cpow_of (n := 4) (m := 1000) (by decide) h0 h1 (by decide))
@[simp] theorem mxD_int (i j : Int) : mxD [.int i, .int j] = some (.int (max i j)) := by
  show some (D.int (if j > i then j else i)) = _
  congr 2
  split <;> omega
@[simp] theorem mnD_int (i j : Int) : mnD [.int i, .int j] = some (.int (min i j)) := by
  show some (D.int (if j < i then j else i)) = _
  congr 2
  split <;> omega
@[simp] theorem lenD_lst (l : List D) : lenD [.lst l] = some (.int l.length) := rfl
@[simp] theorem lenD_tup (l : List D) : lenD [.tup l] = some (.int l.length) := rfl
@[simp] theorem isD_non : isD .non .non = some (.bl true) := rfl
@[simp] theorem isD_int (i : Int) : isD (.int i) .non = some (.bl false) := rfl
@[simp] theorem isD_bl (i : Bool) : isD (.bl i) .non = some (.bl false) := rfl
@[simp] theorem isD_tup (i : List D) : isD (.tup i) .non = some (.bl false) := rfl
@[simp] theorem isD_lst (i : List D) : isD (.lst i) .non = some (.bl false) := rfl
@[simp] theorem isD_oi (o : Option Int) : isD (oi o) .non = some (.bl o.isNone) := by cases o <;> rfl
@[simp] theorem notD_non : notD .non .non = some (.bl false) := rfl
@[simp] theorem notD_int (i : Int) : notD (.int i) .non = some (.bl true) := rfl
@[simp] theorem notD_bl (i : Bool) : notD (.bl i) .non = some (.bl true) := rfl
@[simp] theorem notD_tup (i : List D) : notD (.tup i) .non = some (.bl true) := rfl
@[simp] theorem notD_lst (i : List D) : notD (.lst i) .non = some (.bl true) := rfl
@[simp] theorem notD_oi (o : Option Int) : notD (oi o) .non = some (.bl o.isSome) := by cases o <;> rfl
@[simp] theorem truD_bl (b : Bool) : truD (.bl b) = some b := rfl
@[simp] theorem truD_non : truD .non = some false := rfl
@[simp] theorem truD_lst (l : List D) : truD (.lst l) = some (!l.isEmpty) := rfl
@[simp] theorem truD_tup (l : List D) : truD (.tup l) = some (!l.isEmpty) := rfl
theorem ixN_pos {n : Nat} {i : Int} (h : 0 ≤ i) (h2 : i < n) : ixN n i = some i.toNat := by
  unfold ixN
  rw [if_pos h, if_pos h2]
theorem ixL_pos (l : List D) {i : Int} (h : 0 ≤ i) (h2 : i < l.length) : ixD (.lst l) (.int i) = l[i.toNat]? := by
  show atI l i = _
  unfold atI
  rw [ixN_pos h h2]
  rfl
theorem ixT_pos (l : List D) {i : Int} (h : 0 ≤ i) (h2 : i < l.length) : ixD (.tup l) (.int i) = l[i.toNat]? := by
  show atI l i = _
  unfold atI
  rw [ixN_pos h h2]
  rfl
@[simp] theorem ixT0 (a : D) (l : List D) : ixD (.tup (a :: l)) (.int 0) = some a := by
  rw [ixT_pos _ (by decide) (by rw [List.length_cons]; omega)]
  rfl
@[simp] theorem ixT1 (a b : D) (l : List D) : ixD (.tup (a :: b :: l)) (.int 1) = some b := by
  rw [ixT_pos _ (by decide) (by rw [List.length_cons, List.length_cons]; omega)]
  rfl
@[simp] theorem ixT2 (a b c : D) (l : List D) : ixD (.tup (a :: b :: c :: l)) (.int 2) = some c := by
  rw [ixT_pos _ (by decide) (by rw [List.length_cons, List.length_cons, List.length_cons]; omega)]
  rfl
@[simp] theorem ixL0 (a : D) (l : List D) : ixD (.lst (a :: l)) (.int 0) = some a := by
  rw [ixL_pos _ (by decide) (by rw [List.length_cons]; omega)]
  rfl
@[simp] theorem ixL1 (a b : D) (l : List D) : ixD (.lst (a :: b :: l)) (.int 1) = some b := by
  rw [ixL_pos _ (by decide) (by rw [List.length_cons, List.length_cons]; omega)]
  rfl
theorem ixL_last (l : List D) (a : D) : ixD (.lst (l ++ [a])) (.int (-1)) = some a := by
  show atI (l ++ [a]) (-1) = _
  unfold atI ixN
  rw [if_neg (by decide), if_pos (by rw [List.length_append, List.length_singleton]; omega), List.length_append, List.length_singleton]
  have e : (-1 + ((l.length + 1 : Nat) : Int)).toNat = l.length := by omega
  rw [e]
  simp
@[simp] theorem flat_non : flat .non = true := by simp [flat]
@[simp] theorem flat_bl (b : Bool) : flat (.bl b) = true := by simp [flat]
@[simp] theorem flat_int (i : Int) : flat (.int i) = true := by simp [flat]
@[simp] theorem flat_tup (l : List D) : flat (.tup l) = flats l := by simp [flat]
@[simp] theorem flats_nil : flats [] = true := by simp [flats]
@[simp] theorem flats_cons (d : D) (l : List D) : flats (d :: l) = (flat d && flats l) := by simp [flats]
@[simp] theorem flat_oi (o : Option Int) : flat (oi o) = true := by cases o <;> simp
theorem flatR_of {d : D} (h : flat d = true) : flatR d = some (.rt (.val d)) := if_pos h
@[simp] theorem flatR_non : flatR .non = some (.rt (.val .non)) := flatR_of (by simp)
@[simp] theorem flatR_bl (b : Bool) : flatR (.bl b) = some (.rt (.val (.bl b))) := flatR_of (by simp)
@[simp] theorem flatR_int (i : Int) : flatR (.int i) = some (.rt (.val (.int i))) := flatR_of (by simp)
@[simp] theorem flatR_tup (l : List D) (h : flats l = true) : flatR (.tup l) = some (.rt (.val (.tup l))) := flatR_of (by simpa using h)
@[simp] theorem flatF_of (l : List D) (h : flats l = true) : flatF l = some (.rt (.fresh l)) := if_pos h
@[simp] theorem shal_int (n : Nat) (i : Int) : shal n (.int i) = true := by simp [shal]
@[simp] theorem shal_non (n : Nat) : shal n .non = true := by simp [shal]
@[simp] theorem shal_oi (n : Nat) (o : Option Int) : shal n (oi o) = true := by cases o <;> simp
@[simp] theorem shal_tup (n : Nat) (l : List D) : shal n (.tup l) = shals n l := by simp [shal]
@[simp] theorem shal_lst (n : Nat) (l : List D) : shal n (.lst l) = shals n l := by simp [shal]
@[simp] theorem shals_nil (n : Nat) : shals n [] = true := by cases n <;> simp [shals]
@[simp] theorem shals_cons (n : Nat) (d : D) (l : List D) : shals (n + 1) (d :: l) = (shal n d && shals (n + 1) l) := by simp [shals]
theorem shals_all {n : Nat} {l : List D} (h : ∀ d ∈ l, shal n d = true) : shals (n + 1) l = true := by
  induction l with
  | nil => simp
  | cons d r ih =>
    rw [shals_cons, h d List.mem_cons_self, ih fun x hx => h x (List.mem_cons_of_mem _ hx)]
    rfl
theorem eqD_ok {x y : D} (h : shal 40 x = true) (h2 : shal 40 y = true) : eqD x y = some (.bl (eqvD x y)) := if_pos ⟨h, h2⟩
theorem neD_ok {x y : D} (h : shal 40 x = true) (h2 : shal 40 y = true) : neD x y = some (.bl (!eqvD x y)) := if_pos ⟨h, h2⟩
@[simp] theorem eqvD_int (i j : Int) : eqvD (.int i) (.int j) = decide (i = j) := by
  show (i == j) = _
  rw [Bool.eq_iff_iff]; simp
@[simp] theorem eqvD_non : eqvD .non .non = true := rfl
@[simp] theorem eqvD_non_int (j : Int) : eqvD .non (.int j) = false := rfl
@[simp] theorem eqvD_int_non (j : Int) : eqvD (.int j) .non = false := rfl
@[simp] theorem eqvD_oi (o p : Option Int) : eqvD (oi o) (oi p) = decide (o = p) := by cases o <;> cases p <;> simp
@[simp] theorem eqvD_tup (a b : List D) : eqvD (.tup a) (.tup b) = eqvs a b := by simp [eqvD, eqvs, toPy, PyData.eqv]
@[simp] theorem eqvD_lst (a b : List D) : eqvD (.lst a) (.lst b) = eqvs a b := by simp [eqvD, eqvs, toPy, PyData.eqv]
@[simp] theorem eqvs_nil : eqvs [] [] = true := by simp [eqvs, toPys, PyData.eqvAll]
@[simp] theorem eqvs_cons (x y : D) (a b : List D) : eqvs (x :: a) (y :: b) = (eqvD x y && eqvs a b) := by simp [eqvs, eqvD, toPys, PyData.eqvAll]
@[simp] theorem eqvs_nil_cons (y : D) (b : List D) : eqvs [] (y :: b) = false := by simp [eqvs, toPys, PyData.eqvAll]
@[simp] theorem eqvs_cons_nil (y : D) (b : List D) : eqvs (y :: b) [] = false := by simp [eqvs, toPys, PyData.eqvAll]
@[simp] theorem eqD_int (i j : Int) : eqD (.int i) (.int j) = some (.bl (decide (i = j))) := by rw [eqD_ok (by simp) (by simp)]; simp
@[simp] theorem neD_int (i j : Int) : neD (.int i) (.int j) = some (.bl (!decide (i = j))) := by rw [neD_ok (by simp) (by simp)]; simp
@[simp] theorem eqD_oi (i j : Option Int) : eqD (oi i) (oi j) = some (.bl (decide (i = j))) := by rw [eqD_ok (by simp) (by simp)]; simp
@[simp] theorem neD_oi (i j : Option Int) : neD (oi i) (oi j) = some (.bl (!decide (i = j))) := by rw [neD_ok (by simp) (by simp)]; simp
theorem eqvs_nil_r (l : List D) : eqvs l [] = l.isEmpty := by cases l <;> simp
theorem neD_nil {l : List D} (h : shals 40 l = true) : neD (.lst l) (.lst []) = some (.bl (!l.isEmpty)) := by rw [neD_ok (by simpa using h) (by simp), eqvD_lst, eqvs_nil_r]
theorem flats_ints (l : List Int) : flats (l.map D.int) = true := by
  induction l with
  | nil => simp
  | cons a r ih => simp [ih]
theorem kits : kitF "int" "int" = some true ∧ kitF "NoneType" "int" = some false ∧ kitF "bool" "int" = some true ∧ kitF "tuple" "int" = some false ∧ kitF "list" "int" = some false ∧ kitF "str" "int" = some false ∧
    kitF "bool" "bool" = some true ∧ kitF "int" "bool" = some false ∧ kitF "NoneType" "bool" = some false ∧ kitF "tuple" "tuple" = some true ∧ kitF "list" "tuple" = some false ∧ kitF "NoneType" "tuple" = some false ∧
    kitF "list" "list" = some true ∧ kitF "tuple" "list" = some false ∧ kitF "NoneType" "list" = some false := by
  refine ⟨?_, ?_, ?_, ?_, ?_, ?_, ?_, ?_, ?_, ?_, ?_, ?_, ?_, ?_, ?_⟩ <;> decide +kernel
@[simp] theorem isi_int_int (i : Int) : isiD "int" (.int i) = some (.bl true) := by simp [isiD, tyD, kits.1]
@[simp] theorem isi_bool_int (i : Int) : isiD "bool" (.int i) = some (.bl false) := by simp [isiD, tyD, kits.2.2.2.2.2.2.2.1]
@[simp] theorem isi_tup_tup (l : List D) : isiD "tuple" (.tup l) = some (.bl true) := by simp [isiD, tyD, kits.2.2.2.2.2.2.2.2.2.1]
@[simp] theorem isi_lst_lst (l : List D) : isiD "list" (.lst l) = some (.bl true) := by simp [isiD, tyD, kits.2.2.2.2.2.2.2.2.2.2.2.2.1]
@[simp] theorem bind_ite {α β : Type} {c : Prop} [Decidable c] (a b : Option α) (f : α → Option β) : (if c then a else b).bind f = if c then a.bind f else b.bind f := by split <;> rfl
@[simp] theorem map_ite {α β : Type} {c : Prop} [Decidable c] (a b : Option α) (f : α → β) : (if c then a else b).map f = if c then a.map f else b.map f := by split <;> rfl
theorem compG_ok {fi : FA} {mp : List (Option Nat)} {ga : D → List Sl → Option (List Sl)} {tt : FT} {fe : FE} {ds : List Sl} {items l : List D} (h : fi ds = some items) (hl : items.length ≤ sizeLine) (hc : compL ga tt fe (slotsD mp ds) items = some l) : compG fi mp ga tt fe ds = some l := by
  unfold compG
  rw [h]
  show (if items.length ≤ sizeLine then compL ga tt fe (slotsD mp ds) items else none) = _
  rw [if_pos hl]
  exact hc
@[simp] theorem ixL2 (a b c : D) (l : List D) : ixD (.lst (a :: b :: c :: l)) (.int 2) = some c := by
  rw [ixL_pos _ (by decide) (by rw [List.length_cons, List.length_cons, List.length_cons]; omega)]
  rfl
@[simp] theorem ixL3 (a b c d : D) (l : List D) : ixD (.lst (a :: b :: c :: d :: l)) (.int 3) = some d := by
  rw [ixL_pos _ (by decide) (by rw [List.length_cons, List.length_cons, List.length_cons, List.length_cons]; omega)]
  rfl
@[simp] theorem rng3_eq (fa fb fc : FE) (ds : List Sl) : rng3 fa fb fc ds = (fa ds).bind fun x => (fb ds).bind fun y => (fc ds).bind fun z => match x, y, z with
  | .int i, .int j, .int c => if okR3 i j c then some (range3D i c (steps3 i j c)) else none
  | _, _, _ => none := rfl
@[simp] theorem rng2_eq (fa fb : FE) (ds : List Sl) : rng2 fa fb ds = (fa ds).bind fun x => (fb ds).bind fun y => match x, y with
  | .int i, .int j => if okR i ∧ okR j then some (rangeD i (j - i).toNat) else none
  | _, _ => none := rfl
@[simp] theorem rng1_eq (f : FE) (ds : List Sl) : rng1 f ds = (f ds).bind fun d => match d with | .int j => if okR j then some (rangeD 0 j.toNat) else none | _ => none := rfl
theorem okR_small {j : Int} (h : -1000000000 ≤ j) (h2 : j ≤ 1000000000) : okR j := ⟨Int.le_trans (by decide) h, Int.lt_of_le_of_lt h2 (by decide)⟩
@[simp] theorem absD_int (i : Int) : absD [.int i] = some (.int (if i < 0 then -i else i)) := rfl
@[simp] theorem int1D_int (i : Int) : int1D [.int i] = some (.int i) := rfl
@[simp] theorem int1D_bl (b : Bool) : int1D [.bl b] = some (.int (if b then 1 else 0)) := rfl
@[simp] theorem augA_eq (i : Nat) (f : FE) (ds : List Sl) : augA i f ds = (getV i ds).bind fun x => (f ds).bind fun y => match x, y with
  | .int a, .int b => some (.nx (ds.set i (.v (.int (a + b)))))
  | _, _ => none := rfl
@[simp] theorem parG_eq (i j : Nat) (f : FA) (ds : List Sl) : parG i j f ds = (f ds).bind fun l => match l with
  | [a, b] => some (.nx ((ds.set i (.v a)).set j (.v b)))
  | _ => none := rfl
@[simp] theorem revA_eq (f : FE) (ds : List Sl) : revA f ds = (f ds).bind fun d => match d with
  | .lst l => some l.reverse
  | _ => none := rfl
theorem seq_nx {f g : FS} {ds ds' : List Sl} (h : f ds = some (.nx ds')) : seqG f g ds = g ds' := by simp [h]
theorem seq_rt {f g : FS} {ds : List Sl} {r : Ret} (h : f ds = some (.rt r)) : seqG f g ds = some (.rt r) := by simp [h]
theorem run_rt {g : FS} {n : Nat} {ds : List D} {r : Ret} (h : g (args n ds) = some (.rt r)) : runG g n ds = some r := by unfold runG; rw [h]
end FL
section
open PySem PyProof.Rows L2 FL
noncomputable def GP.ends_ahead.g : FS := (retG (andV (bin2 notD (getW 0) (konst .non)) (andV (bin2 notD (getW 1) (konst .non)) (bin2 leD (getW 0) (getW 1)))))
noncomputable def GP.ends_ahead.f : List D → Option Ret := runG GP.ends_ahead.g 2
noncomputable def GP.length.g : FS := (seqG (ifG (orT (testB (bin2 isD (bin2 ixD (getW 0) (konst (.int 0))) (konst .non))) (testB (bin2 isD (bin2 ixD (getW 0) (konst (.int 1))) (konst .non)))) (retG (konst .non)) nextG)
  (retG (bin2 subD (bin2 ixD (getW 0) (konst (.int 1))) (bin2 ixD (getW 0) (konst (.int 0))))))
noncomputable def GP.length.f : List D → Option Ret := runG GP.length.g 1
noncomputable def GP.later_low.g : FS := (seqG (ifG (testB (bin2 isD (getW 0) (konst .non))) (retG (getW 1)) nextG)
  (seqG (ifG (testB (bin2 isD (getW 1) (konst .non))) (retG (getW 0)) nextG)
  (retG (callB mxD (consA (getW 0) (consA (getW 1) nilA))))))
noncomputable def GP.later_low.f : List D → Option Ret := runG GP.later_low.g 2
noncomputable def GP.earlier_behind.g : FS := (seqG (ifG (testB (bin2 isD (getW 0) (konst .non))) (retG (getW 1)) nextG)
  (seqG (ifG (testB (bin2 isD (getW 1) (konst .non))) (retG (getW 0)) nextG)
  (retG (callB mnD (consA (getW 0) (consA (getW 1) nilA))))))
noncomputable def GP.earlier_behind.f : List D → Option Ret := runG GP.earlier_behind.g 2
noncomputable def GP.meet.g : FS := (seqG (setG 2 (callV 2 GP.later_low.f (consA (bin2 ixD (getW 0) (konst (.int 0))) (consA (bin2 ixD (getW 1) (konst (.int 0))) nilA))))
  (seqG (setG 3 (callV 2 GP.earlier_behind.f (consA (bin2 ixD (getW 0) (konst (.int 1))) (consA (bin2 ixD (getW 1) (konst (.int 1))) nilA))))
  (seqG (ifG (testT (callV 2 GP.ends_ahead.f (consA (getW 3) (consA (getW 2) nilA)))) (retG (konst .non)) nextG)
  (retG (mkT (sized (consA (getV 2) (consA (getV 3) nilA))))))))
noncomputable def GP.meet.f : List D → Option Ret := runG GP.meet.g 4
noncomputable def GP.knit.b1 : FS := (seqG (ifG (testB (bin2 isD (getW 4) (konst .non))) (fun ds => some (.ct ds)) nextG)
  (ifG (andT (testT (getW 1)) (andT (testB (bin2 eqD (bin2 ixD (bin2 ixD (getW 1) (un1 negD (konst (.int 1)))) (konst (.int 1))) (getW 2))) (testB (bin2 eqD (bin2 ixD (bin2 ixD (getW 1) (un1 negD (konst (.int 1)))) (konst (.int 2))) (getW 4))))) (putG 1 (un1 negD (konst (.int 1))) (mkT (sized (consA (bin2 ixD (bin2 ixD (getW 1) (un1 negD (konst (.int 1)))) (konst (.int 0))) (consA (getV 3) (consA (getV 4) nilA)))))) (appG 1 (mkT (sized (consA (getV 2) (consA (getV 3) (consA (getV 4) nilA))))))))
noncomputable def GP.knit.g : FS := (seqG (setOG 1 (sized nilA))
  (seqG (forG (viaA (getV 0) asLT) (tupG 3 (tgCons (nameG 2) (tgCons (nameG 3) (tgCons (nameG 4) tgNil)))) GP.knit.b1)
  (retXG 1)))
noncomputable def GP.knit.f : List D → Option Ret := runG GP.knit.g 5
noncomputable def GP.runs_of.b1 : FS := (seqG (ifG (testB (bin2 neD (getW 3) (getW 2))) (appG 1 (mkT (sized (consA (getV 2) (consA (getV 3) (consA (konst .non) nilA)))))) nextG)
  (seqG (appG 1 (mkT (sized (consA (getV 3) (consA (getV 4) (consA (getV 5) nilA))))))
  (setG 2 (getV 4))))
noncomputable def GP.runs_of.g : FS := (seqG (setOG 1 (sized nilA))
  (seqG (setG 2 (konst .non))
  (seqG (forG (viaA (getV 0) asLT) (tupG 3 (tgCons (nameG 3) (tgCons (nameG 4) (tgCons (nameG 5) tgNil)))) GP.runs_of.b1)
  (seqG (ifG (orT (testB (bin2 notD (getW 2) (konst .non))) (notT (testT (getW 0)))) (appG 1 (mkT (sized (consA (getV 2) (consA (konst .non) (consA (konst .non) nilA)))))) nextG)
  (retXG 1)))))
noncomputable def GP.runs_of.f : List D → Option Ret := runG GP.runs_of.g 6
noncomputable def GP.parts_in.b1 : FS := (seqG (setG 6 (callV 2 GP.meet.f (consA (mkT (sized (consA (getV 3) (consA (getV 4) nilA)))) (consA (getW 1) nilA))))
  (ifG (testB (bin2 notD (getW 6) (konst .non))) (appG 2 (mkT (sized (consA (bin2 ixD (getW 6) (konst (.int 0))) (consA (bin2 ixD (getW 6) (konst (.int 1))) (consA (getV 5) nilA)))))) nextG))
noncomputable def GP.parts_in.g : FS := (seqG (setOG 2 (sized nilA))
  (seqG (forG (viaA (getV 0) asLT) (tupG 3 (tgCons (nameG 3) (tgCons (nameG 4) (tgCons (nameG 5) tgNil)))) GP.parts_in.b1)
  (retXG 2)))
noncomputable def GP.parts_in.f : List D → Option Ret := runG GP.parts_in.g 7
noncomputable def GP.turned.g (Φ : Fun2) : FS := (retOG (callF 1 GP.knit.f (consA (mkL (compG (viaA (callV 1 GP.runs_of.f (consA (getW 0) nilA)) asLT) [none, none, none, some 1] (tupG 3 (tgCons (nameG 0) (tgCons (nameG 1) (tgCons (nameG 2) tgNil)))) (fun _ => some true) (mkT (sized (consA (getV 0) (consA (getV 1) (consA (callW Φ 3 (consA (getW 2) nilA)) nilA))))))) nilA)))
noncomputable def GP.turned.f (Φ : Fun2) : List D → Option Ret := runG (GP.turned.g Φ) 2
noncomputable def GP.holding.g (Φ : Fun2) : FS := (retOG (callF 2 (ncF (GP.turned.f Φ)) (lamA 4 0 [1] (consA (getW 0) nilA))))
noncomputable def GP.holding.f (Φ : Fun2) : List D → Option Ret := runG (GP.holding.g Φ) 2
noncomputable def GP.first_run.b1 (Φ : Fun2) : FS := (ifG (testB (bin2 isD (getW 7) (konst .non))) (appG 4 (mkT (sized (consA (getV 5) (consA (getV 6) nilA))))) (ifG (orT (testB (bin2 isD (getW 6) (konst .non))) (testB (bin2 geD (bin2 subD (getW 6) (getW 5)) (getW 2)))) (retDG (mkT (sized (consA (flV (getV 5)) (consA (getO 4) nilA))))) nextG))
noncomputable def GP.first_run.g (Φ : Fun2) : FS := (seqG (ifG (testB (bin2 ltD (getW 2) (konst (.int 1)))) (fun _ => none) nextG)
  (seqG (setOG 4 (sized nilA))
  (seqG (forG (viaA (callV 2 GP.parts_in.f (consA (callV 1 GP.runs_of.f (consA (callV 2 (GP.holding.f Φ) (consA (getW 0) (consA (getW 3) nilA))) nilA)) (consA (mkT (sized (consA (getV 1) (consA (konst .non) nilA)))) nilA))) asLT) (tupG 3 (tgCons (nameG 5) (tgCons (nameG 6) (tgCons (nameG 7) tgNil)))) (GP.first_run.b1 Φ))
  (retDG (mkT (sized (consA (flV (konst .non)) (consA (getO 4) nilA))))))))
noncomputable def GP.first_run.f (Φ : Fun2) : List D → Option Ret := runG (GP.first_run.g Φ) 8
noncomputable def GL.cell_at.g : FS := (seqG (ifG (testB (bin2 ltD (getW 1) (callB lenD (consA (getW 0) nilA)))) (retG (bin2 ixD (getW 0) (getW 1))) nextG)
  (retG (konst (.int 0))))
noncomputable def GL.cell_at.f : List D → Option Ret := runG GL.cell_at.g 2
noncomputable def GL.whole.g : FS := (retG (andV (isiG "int" (getW 0)) (notV (isiG "bool" (getW 0)))))
noncomputable def GL.whole.f : List D → Option Ret := runG GL.whole.g 1
noncomputable def GL.mixed.g : FS := (retG (bin2 modD (bin2 powD (bin2 modD (bin2 addD (bin2 mulD (getW 0) (bin2 powD (konst (.int 48271)) (konst (.int 9)))) (bin2 powD (konst (.int 7)) (konst (.int 60)))) (bin2 addD (bin2 powD (konst (.int 10)) (konst (.int 61))) (konst (.int 7)))) (konst (.int 2))) (bin2 addD (bin2 powD (konst (.int 10)) (konst (.int 60))) (konst (.int 9)))))
noncomputable def GL.mixed.f : List D → Option Ret := runG GL.mixed.g 1
noncomputable def GL.digits.b1 : FS := (seqG (ifG (testB (bin2 eqD (getW 0) (konst (.int 0)))) (seqG (setG 4 (callV 1 GL.mixed.f (consA (getW 4) nilA)))
  (setG 0 (bin2 addD (konst (.int 1)) (bin2 modD (bin2 fdivD (getW 4) (konst (.int 3))) (bin2 ixD (mkL (sized (consA (konst (.int 50)) (consA (bin2 powD (konst (.int 10)) (konst (.int 9))) (consA (bin2 powD (konst (.int 10)) (konst (.int 60))) nilA))))) (bin2 modD (getW 4) (konst (.int 3)))))))) nextG)
  (seqG (appG 3 (bin2 modD (getW 0) (getW 1)))
  (setG 0 (bin2 fdivD (getW 0) (getW 1)))))
noncomputable def GL.digits.g : FS := (seqG (setOG 3 (sized nilA))
  (seqG (setG 4 (callV 1 GL.mixed.f (consA (getW 0) nilA)))
  (seqG (forG (rng1 (getV 2)) (nameG 5) GL.digits.b1)
  (retXG 3))))
noncomputable def GL.digits.f : List D → Option Ret := runG GL.digits.g 6
noncomputable def GL.zig.g : FS := (retG (bin2 mulD (bin2 fdivD (bin2 addD (getW 0) (konst (.int 1))) (konst (.int 2))) (bin2 subD (konst (.int 1)) (bin2 mulD (konst (.int 2)) (bin2 modD (getW 0) (konst (.int 2)))))))
noncomputable def GL.zig.f : List D → Option Ret := runG GL.zig.g 1
noncomputable def GL.map4.b1 : FS := (seqG (setG 4 (bin2 fdivD (getW 3) (konst (.int 120))))
  (seqG (setG 5 (bin2 addD (getW 2) (bin2 ixD (mkL (sized (consA (konst (.int 0)) (consA (konst (.int 0)) (consA (bin2 addD (konst (.int 1)) (bin2 modD (getW 4) (konst (.int 9)))) (consA (bin2 modD (getW 4) (bin2 powD (konst (.int 10)) (konst (.int 60)))) nilA)))))) (bin2 modD (getW 3) (konst (.int 4))))))
  (seqG (ifG (testB (bin2 eqD (getW 1) (mkL (sized nilA)))) (seqG (setG 6 (bin2 mulD (konst (.int 9)) (bin2 powD (bin2 powD (konst (.int 10)) (konst (.int 62))) (konst (.int 8)))))
  (setG 5 (bin2 ixD (mkL (sized (consA (bin2 subD (bin2 modD (getW 4) (konst (.int 41))) (konst (.int 20))) (consA (bin2 modD (getW 4) (bin2 powD (konst (.int 10)) (konst (.int 60)))) (consA (bin2 addD (getW 6) (bin2 modD (getW 4) (bin2 powD (konst (.int 10)) (konst (.int 60))))) (consA (bin2 subD (konst (.int 1)) (getW 6)) nilA)))))) (bin2 modD (getW 3) (konst (.int 4)))))) nextG)
  (seqG (setG 7 (bin2 ixD (mkL (sized (consA (konst (.int 0)) (consA (konst (.int 1)) (consA (bin2 subD (bin2 modD (getW 4) (konst (.int 19))) (konst (.int 9))) (consA (bin2 subD (bin2 modD (bin2 mulD (getW 4) (konst (.int 48271))) (bin2 addD (bin2 powD (konst (.int 10)) (konst (.int 60))) (konst (.int 7)))) (bin2 powD (konst (.int 10)) (konst (.int 59)))) (consA (konst (.int 1)) nilA))))))) (bin2 modD (bin2 fdivD (getW 3) (konst (.int 4))) (konst (.int 5)))))
  (seqG (ifG (andT (testB (bin2 neD (getW 1) (mkL (sized nilA)))) (andT (testB (bin2 eqD (getW 5) (getW 2))) (testB (bin2 eqD (getW 7) (bin2 ixD (bin2 ixD (getW 1) (un1 negD (konst (.int 1)))) (konst (.int 2))))))) (setG 7 (bin2 addD (getW 7) (konst (.int 1)))) nextG)
  (seqG (setG 2 (bin2 addD (getW 5) (bin2 ixD (mkL (sized (consA (konst (.int 1)) (consA (bin2 addD (konst (.int 1)) (bin2 modD (bin2 fdivD (getW 4) (konst (.int 9))) (konst (.int 9)))) (consA (bin2 addD (konst (.int 1)) (bin2 modD (bin2 mulD (getW 4) (konst (.int 69621))) (bin2 addD (bin2 powD (konst (.int 10)) (konst (.int 60))) (konst (.int 9))))) nilA))))) (bin2 modD (bin2 fdivD (getW 3) (konst (.int 20))) (konst (.int 3))))))
  (appG 1 (mkT (sized (consA (getV 5) (consA (getV 2) (consA (getV 7) nilA))))))))))))
noncomputable def GL.map4.g : FS := (seqG (setOG 1 (sized nilA))
  (seqG (setG 2 (konst (.int 0)))
  (seqG (forG (viaA (getV 0) asLT) (nameG 3) GL.map4.b1)
  (seqG (ifG (andT (testB (bin2 neD (getW 1) (mkL (sized nilA)))) (testB (bin2 eqD (bin2 modD (bin2 fdivD (bin2 ixD (getW 0) (konst (.int 0))) (konst (.int 60))) (konst (.int 8))) (konst (.int 1))))) (putG 1 (konst (.int 0)) (mkT (sized (consA (konst .non) (consA (bin2 ixD (bin2 ixD (getW 1) (konst (.int 0))) (konst (.int 1))) (consA (bin2 ixD (bin2 ixD (getW 1) (konst (.int 0))) (konst (.int 2))) nilA)))))) nextG)
  (seqG (ifG (andT (testB (bin2 neD (getW 1) (mkL (sized nilA)))) (testB (bin2 eqD (bin2 modD (bin2 fdivD (bin2 ixD (getW 0) (un1 negD (konst (.int 1)))) (konst (.int 60))) (konst (.int 8))) (konst (.int 6))))) (putG 1 (un1 negD (konst (.int 1))) (mkT (sized (consA (bin2 ixD (bin2 ixD (getW 1) (un1 negD (konst (.int 1)))) (konst (.int 0))) (consA (konst .non) (consA (bin2 ixD (bin2 ixD (getW 1) (un1 negD (konst (.int 1)))) (konst (.int 2))) nilA)))))) nextG)
  (seqG (ifG (andT (testB (bin2 eqD (callB lenD (consA (getW 1) nilA)) (konst (.int 1)))) (testB (bin2 eqD (bin2 modD (bin2 fdivD (bin2 ixD (getW 0) (konst (.int 0))) (konst (.int 60))) (konst (.int 8))) (konst (.int 7))))) (putG 1 (konst (.int 0)) (mkT (sized (consA (konst .non) (consA (konst .non) (consA (bin2 ixD (bin2 ixD (getW 1) (konst (.int 0))) (konst (.int 2))) nilA)))))) nextG)
  (retXG 1)))))))
noncomputable def GL.map4.f : List D → Option Ret := runG GL.map4.g 8
noncomputable def GL.end2.g : FS := (seqG (setG 2 (bin2 fdivD (getW 1) (konst (.int 3))))
  (seqG (setG 3 (mkL (compG (viaA (getV 0) asLT) [none, none, none] (tupG 3 (tgCons (nameG 0) (tgCons (nameG 1) (tgCons (nameG 2) tgNil)))) (testB (bin2 notD (getW 0) (konst .non))) (getV 0))))
  (seqG (setG 3 (mkL (catA (getW 3) (mkL (compG (viaA (getV 0) asLT) [none, none, none] (tupG 3 (tgCons (nameG 0) (tgCons (nameG 1) (tgCons (nameG 2) tgNil)))) (testB (bin2 notD (getW 1) (konst .non))) (getV 1))))))
  (seqG (ifG (andT (testB (bin2 gtD (bin2 modD (getW 1) (konst (.int 3))) (konst (.int 0)))) (testB (bin2 neD (getW 3) (mkL (sized nilA))))) (retG (bin2 subD (bin2 addD (bin2 ixD (getW 3) (bin2 modD (getW 2) (callB lenD (consA (getW 3) nilA)))) (bin2 modD (bin2 fdivD (getW 2) (callB lenD (consA (getW 3) nilA))) (konst (.int 3)))) (konst (.int 1)))) nextG)
  (retG (bin2 ixD (mkL (sized (consA (bin2 subD (bin2 modD (getW 2) (konst (.int 81))) (konst (.int 40))) (consA (bin2 subD (bin2 modD (getW 2) (bin2 addD (bin2 mulD (konst (.int 2)) (bin2 powD (konst (.int 10)) (konst (.int 61)))) (konst (.int 1)))) (bin2 powD (konst (.int 10)) (konst (.int 61)))) nilA)))) (bin2 modD (bin2 fdivD (getW 2) (konst (.int 81))) (konst (.int 2)))))))))
noncomputable def GL.end2.f : List D → Option Ret := runG GL.end2.g 4
noncomputable def GL.rows.b1 : FS := (seqG (ifG (andT (testB (bin2 notD (getW 3) (konst .non))) (orT (testB (bin2 isD (getW 2) (konst .non))) (testB (bin2 ltD (getW 2) (getW 3))))) (appG 1 (mkT (sized (consA (getV 2) (consA (getV 3) (consA (konst .non) nilA)))))) nextG)
  (seqG (appG 1 (mkT (sized (consA (getV 3) (consA (getV 4) (consA (getV 5) nilA))))))
  (setG 2 (getV 4))))
noncomputable def GL.rows.g : FS := (seqG (setOG 1 (sized nilA))
  (seqG (setG 2 (konst .non))
  (seqG (forG (viaA (getV 0) asLT) (tupG 3 (tgCons (nameG 3) (tgCons (nameG 4) (tgCons (nameG 5) tgNil)))) GL.rows.b1)
  (seqG (ifG (orT (testB (bin2 eqD (getW 0) (mkL (sized nilA)))) (testB (bin2 notD (getW 2) (konst .non)))) (appG 1 (mkT (sized (consA (getV 2) (consA (konst .non) (consA (konst .non) nilA)))))) nextG)
  (retXG 1)))))
noncomputable def GL.rows.f : List D → Option Ret := runG GL.rows.g 6
noncomputable def GL.is_span.g : FS := (seqG (ifG (orT (notT (testT (isiG "tuple" (getW 0)))) (testB (bin2 neD (callB lenD (consA (getW 0) nilA)) (konst (.int 2))))) (retG (konst (.bl false))) nextG)
  (seqG (asgG (tupG 2 (tgCons (nameG 1) (tgCons (nameG 2) tgNil))) (getV 0))
  (seqG (ifG (orT (andT (testB (bin2 notD (getW 1) (konst .non))) (notT (testT (callV 1 GL.whole.f (consA (getW 1) nilA))))) (andT (testB (bin2 notD (getW 2) (konst .non))) (notT (testT (callV 1 GL.whole.f (consA (getW 2) nilA)))))) (retG (konst (.bl false))) nextG)
  (retG (orV (bin2 isD (getW 1) (konst .non)) (orV (bin2 isD (getW 2) (konst .non)) (bin2 ltD (getW 1) (getW 2))))))))
noncomputable def GL.is_span.f : List D → Option Ret := runG GL.is_span.g 3
noncomputable def GL.test.g : FS := (seqG (setG 2 (bin2 modD (getW 0) (konst (.int 9))))
  (seqG (ifG (testB (bin2 eqD (getW 2) (konst (.int 0)))) (retCG (cloV 6 0 [])) nextG)
  (seqG (ifG (testB (bin2 eqD (getW 2) (konst (.int 1)))) (retCG (cloV 6 1 [])) nextG)
  (seqG (ifG (testB (bin2 eqD (getW 2) (konst (.int 2)))) (retCG (cloV 6 2 [1])) nextG)
  (seqG (ifG (testB (bin2 eqD (getW 2) (konst (.int 3)))) (retCG (cloV 6 3 [1])) nextG)
  (seqG (ifG (testB (bin2 eqD (getW 2) (konst (.int 4)))) (retCG (cloV 6 4 [1])) nextG)
  (seqG (ifG (testB (bin2 eqD (getW 2) (konst (.int 5)))) (retCG (cloV 6 5 [1])) nextG)
  (seqG (ifG (testB (bin2 eqD (getW 2) (konst (.int 6)))) (retCG (cloV 6 6 [1])) nextG)
  (retCG (cloV 6 7 [2]))))))))))
noncomputable def GL.test.f : List D → Option Ret := runG GL.test.g 3
noncomputable def GL.times.g : FS := (seqG (setG 2 (bin2 fdivD (getW 1) (konst (.int 4))))
  (seqG (asgG (tupG 3 (tgCons (nameG 3) (tgCons (nameG 4) (tgCons (nameG 5) tgNil)))) (bin2 ixD (getW 0) (bin2 modD (getW 2) (callB lenD (consA (getW 0) nilA)))))
  (seqG (ifG (andT (testB (bin2 ltD (bin2 modD (getW 1) (konst (.int 4))) (konst (.int 2)))) (andT (testB (bin2 notD (getW 3) (konst .non))) (testB (bin2 notD (getW 4) (konst .non))))) (retG (callB mxD (consA (konst (.int 1)) (consA (bin2 subD (bin2 addD (bin2 subD (getW 4) (getW 3)) (bin2 modD (bin2 fdivD (getW 2) (callB lenD (consA (getW 0) nilA))) (konst (.int 3)))) (konst (.int 1))) nilA)))) nextG)
  (retG (bin2 ixD (mkL (sized (consA (bin2 addD (konst (.int 1)) (bin2 modD (getW 2) (konst (.int 12)))) (consA (bin2 addD (konst (.int 1)) (bin2 modD (getW 2) (bin2 powD (konst (.int 10)) (konst (.int 60))))) nilA)))) (bin2 modD (getW 1) (konst (.int 2))))))))
noncomputable def GL.times.f : List D → Option Ret := runG GL.times.g 6
end
namespace FL
open PySem PySem.Spec PyProof.Rows L2
abbrev Spn := Option Int × Option Int
noncomputable def spD (s : Spn) : D := .tup [oi s.1, oi s.2]
noncomputable def oS : Option Spn → D
  | none => .non
  | some s => spD s
noncomputable def hasS (s : Spn) (p : Int) : Bool := (match s.1 with | none => true | some a => decide (a ≤ p)) && (match s.2 with | none => true | some b => decide (p < b))
def okS (s : Spn) : Prop := ∀ a b, s.1 = some a → s.2 = some b → a < b
@[simp] theorem spD_0 (s : Spn) : ixD (spD s) (.int 0) = some (oi s.1) := ixT0 _ _
@[simp] theorem spD_1 (s : Spn) : ixD (spD s) (.int 1) = some (oi s.2) := ixT1 _ _ _
@[simp] theorem spD_isi (s : Spn) : isiD "tuple" (spD s) = some (.bl true) := by simp [spD]
@[simp] theorem spD_len (s : Spn) : lenD [spD s] = some (.int 2) := by simp [spD]
@[simp] theorem spD_isD (s : Spn) : isD (spD s) .non = some (.bl false) := rfl
@[simp] theorem spD_notD (s : Spn) : notD (spD s) .non = some (.bl true) := rfl
@[simp] theorem spD_asLT (s : Spn) : asLT (spD s) = some [oi s.1, oi s.2] := rfl
@[simp] theorem oS_isD (o : Option Spn) : isD (oS o) .non = some (.bl o.isNone) := by cases o <;> rfl
@[simp] theorem oS_notD (o : Option Spn) : notD (oS o) .non = some (.bl o.isSome) := by cases o <;> rfl
theorem length_eq (s : Spn) : GP.length.f [spD s] = some (.val (oi (match s.1, s.2 with | some a, some b => some (b - a) | _, _ => none))) := by
  obtain ⟨a, b⟩ := s
  unfold GP.length.f runG GP.length.g
  cases a <;> cases b <;> simp [args]
noncomputable def lateL : Option Int → Option Int → Option Int
  | none, b => b
  | a, none => a
  | some a, some b => some (max a b)
noncomputable def earlB : Option Int → Option Int → Option Int
  | none, b => b
  | a, none => a
  | some a, some b => some (min a b)
noncomputable def aheadE : Option Int → Option Int → Bool
  | some b, some l => decide (b ≤ l)
  | _, _ => false
theorem lateL_eq (a b : Option Int) : GP.later_low.f [oi a, oi b] = some (.val (oi (lateL a b))) := by
  unfold GP.later_low.f runG GP.later_low.g
  cases a <;> cases b <;> simp [args, lateL]
theorem earlB_eq (a b : Option Int) : GP.earlier_behind.f [oi a, oi b] = some (.val (oi (earlB a b))) := by
  unfold GP.earlier_behind.f runG GP.earlier_behind.g
  cases a <;> cases b <;> simp [args, earlB]
theorem aheadE_eq (a b : Option Int) : GP.ends_ahead.f [oi a, oi b] = some (.val (.bl (aheadE a b))) := by
  unfold GP.ends_ahead.f runG GP.ends_ahead.g
  cases a <;> cases b <;> simp [args, aheadE]
noncomputable def meetS (s t : Spn) : Option Spn := if aheadE (earlB s.2 t.2) (lateL s.1 t.1) = true then none else some (lateL s.1 t.1, earlB s.2 t.2)
theorem meet_eq (s t : Spn) : GP.meet.f [spD s, spD t] = some (.val (oS (meetS s t))) := by
  unfold GP.meet.f runG GP.meet.g
  cases h : aheadE (earlB s.2 t.2) (lateL s.1 t.1) <;> simp [args, lateL_eq, earlB_eq, aheadE_eq, h, meetS, oS, spD]
def HasS (s : Spn) (p : Int) : Prop := (∀ a, s.1 = some a → a ≤ p) ∧ (∀ b, s.2 = some b → p < b)
theorem hasS_iff (s : Spn) (p : Int) : hasS s p = true ↔ HasS s p := by
  obtain ⟨a, b⟩ := s
  cases a <;> cases b <;> simp [hasS, HasS]
end FL
namespace FL
open PySem PySem.Spec PyProof.Rows L2
open Builtin.Int (intBits)
noncomputable def cel (ns : List Int) (k : Nat) : Int := ns.getD k 0
theorem cell_eq0 (ns : List Int) {k : Int} (h : 0 ≤ k) : GL.cell_at.f [.lst (ns.map D.int), .int k] = some (.val (.int (ns.getD k.toNat 0))) := by
  unfold GL.cell_at.f runG GL.cell_at.g
  by_cases hk : k < (ns.length : Int)
  · have hl : k < ((ns.map D.int).length : Int) := by simpa using hk
    have e : (ns.map D.int)[k.toNat]? = some (.int (ns.getD k.toNat 0)) := by
      have : k.toNat < ns.length := by omega
      simp [this, List.getD]
    simp [args, hk, ixL_pos _ h hl, e]
  · have : ns.getD k.toNat 0 = 0 := by
      have : ns.length ≤ k.toNat := by omega
      simp [List.getD, List.getElem?_eq_none this]
    rw [this]
    simp [args, hk]
theorem cell_eq (ns : List Int) (k : Nat) : GL.cell_at.f [.lst (ns.map D.int), .int (k : Int)] = some (.val (.int (cel ns k))) := cell_eq0 ns (k := (k : Int)) (by omega)
theorem bits_ediv {a b : Int} {m : Nat} (hb : 0 ≤ b) (h : intBits a ≤ m) : intBits (a / b) ≤ m := by
  rw [← Int.fdiv_eq_ediv_of_nonneg _ hb]
  exact bits_fdiv h
theorem bits_nat {a : Int} {m : Nat} (h : a.natAbs < 2 ^ m) : intBits a ≤ m := intBits_le_iff.mpr h
theorem bits_cell {ns : List Int} (hb : ∀ c ∈ ns, intBits c ≤ 1048576) (k : Nat) : intBits (cel ns k) ≤ 1048576 := by
  show intBits (ns.getD k 0) ≤ 1048576
  by_cases h : k < ns.length
  · have : ns.getD k 0 = ns[k] := by simp [List.getD, h]
    rw [this]
    exact hb _ (List.getElem_mem h)
  · have : ns.getD k 0 = 0 := by simp [List.getD, List.getElem?_eq_none (Nat.le_of_not_lt h)]
    rw [this]
    decide
end FL
namespace FL
open PySem PySem.Spec PyProof.Rows L2
open Builtin.Int (intBits)
@[simp] theorem eqS_put_put : eqD (.str "put") (.str "put") = some (.bl true) := by kernel_rfl
@[simp] theorem neS_put_put : neD (.str "put") (.str "put") = some (.bl false) := by kernel_rfl
@[simp] theorem eqS_put_widen : eqD (.str "put") (.str "widen") = some (.bl false) := by kernel_rfl
@[simp] theorem neS_put_widen : neD (.str "put") (.str "widen") = some (.bl true) := by kernel_rfl
@[simp] theorem eqS_put_narrow : eqD (.str "put") (.str "narrow") = some (.bl false) := by kernel_rfl
@[simp] theorem neS_put_narrow : neD (.str "put") (.str "narrow") = some (.bl true) := by kernel_rfl
@[simp] theorem eqS_put_move : eqD (.str "put") (.str "move") = some (.bl false) := by kernel_rfl
@[simp] theorem neS_put_move : neD (.str "put") (.str "move") = some (.bl true) := by kernel_rfl
@[simp] theorem eqS_put_stretch : eqD (.str "put") (.str "stretch") = some (.bl false) := by kernel_rfl
@[simp] theorem neS_put_stretch : neD (.str "put") (.str "stretch") = some (.bl true) := by kernel_rfl
@[simp] theorem eqS_put_mirror : eqD (.str "put") (.str "mirror") = some (.bl false) := by kernel_rfl
@[simp] theorem neS_put_mirror : neD (.str "put") (.str "mirror") = some (.bl true) := by kernel_rfl
@[simp] theorem eqS_widen_put : eqD (.str "widen") (.str "put") = some (.bl false) := by kernel_rfl
@[simp] theorem neS_widen_put : neD (.str "widen") (.str "put") = some (.bl true) := by kernel_rfl
@[simp] theorem eqS_widen_widen : eqD (.str "widen") (.str "widen") = some (.bl true) := by kernel_rfl
@[simp] theorem neS_widen_widen : neD (.str "widen") (.str "widen") = some (.bl false) := by kernel_rfl
@[simp] theorem eqS_widen_narrow : eqD (.str "widen") (.str "narrow") = some (.bl false) := by kernel_rfl
@[simp] theorem neS_widen_narrow : neD (.str "widen") (.str "narrow") = some (.bl true) := by kernel_rfl
@[simp] theorem eqS_widen_move : eqD (.str "widen") (.str "move") = some (.bl false) := by kernel_rfl
@[simp] theorem neS_widen_move : neD (.str "widen") (.str "move") = some (.bl true) := by kernel_rfl
@[simp] theorem eqS_widen_stretch : eqD (.str "widen") (.str "stretch") = some (.bl false) := by kernel_rfl
@[simp] theorem neS_widen_stretch : neD (.str "widen") (.str "stretch") = some (.bl true) := by kernel_rfl
@[simp] theorem eqS_widen_mirror : eqD (.str "widen") (.str "mirror") = some (.bl false) := by kernel_rfl
@[simp] theorem neS_widen_mirror : neD (.str "widen") (.str "mirror") = some (.bl true) := by kernel_rfl
@[simp] theorem eqS_narrow_put : eqD (.str "narrow") (.str "put") = some (.bl false) := by kernel_rfl
@[simp] theorem neS_narrow_put : neD (.str "narrow") (.str "put") = some (.bl true) := by kernel_rfl
@[simp] theorem eqS_narrow_widen : eqD (.str "narrow") (.str "widen") = some (.bl false) := by kernel_rfl
@[simp] theorem neS_narrow_widen : neD (.str "narrow") (.str "widen") = some (.bl true) := by kernel_rfl
@[simp] theorem eqS_narrow_narrow : eqD (.str "narrow") (.str "narrow") = some (.bl true) := by kernel_rfl
@[simp] theorem neS_narrow_narrow : neD (.str "narrow") (.str "narrow") = some (.bl false) := by kernel_rfl
@[simp] theorem eqS_narrow_move : eqD (.str "narrow") (.str "move") = some (.bl false) := by kernel_rfl
@[simp] theorem neS_narrow_move : neD (.str "narrow") (.str "move") = some (.bl true) := by kernel_rfl
@[simp] theorem eqS_narrow_stretch : eqD (.str "narrow") (.str "stretch") = some (.bl false) := by kernel_rfl
@[simp] theorem neS_narrow_stretch : neD (.str "narrow") (.str "stretch") = some (.bl true) := by kernel_rfl
@[simp] theorem eqS_narrow_mirror : eqD (.str "narrow") (.str "mirror") = some (.bl false) := by kernel_rfl
@[simp] theorem neS_narrow_mirror : neD (.str "narrow") (.str "mirror") = some (.bl true) := by kernel_rfl
@[simp] theorem eqS_move_put : eqD (.str "move") (.str "put") = some (.bl false) := by kernel_rfl
@[simp] theorem neS_move_put : neD (.str "move") (.str "put") = some (.bl true) := by kernel_rfl
@[simp] theorem eqS_move_widen : eqD (.str "move") (.str "widen") = some (.bl false) := by kernel_rfl
@[simp] theorem neS_move_widen : neD (.str "move") (.str "widen") = some (.bl true) := by kernel_rfl
@[simp] theorem eqS_move_narrow : eqD (.str "move") (.str "narrow") = some (.bl false) := by kernel_rfl
@[simp] theorem neS_move_narrow : neD (.str "move") (.str "narrow") = some (.bl true) := by kernel_rfl
@[simp] theorem eqS_move_move : eqD (.str "move") (.str "move") = some (.bl true) := by kernel_rfl
@[simp] theorem neS_move_move : neD (.str "move") (.str "move") = some (.bl false) := by kernel_rfl
@[simp] theorem eqS_move_stretch : eqD (.str "move") (.str "stretch") = some (.bl false) := by kernel_rfl
@[simp] theorem neS_move_stretch : neD (.str "move") (.str "stretch") = some (.bl true) := by kernel_rfl
@[simp] theorem eqS_move_mirror : eqD (.str "move") (.str "mirror") = some (.bl false) := by kernel_rfl
@[simp] theorem neS_move_mirror : neD (.str "move") (.str "mirror") = some (.bl true) := by kernel_rfl
@[simp] theorem eqS_stretch_put : eqD (.str "stretch") (.str "put") = some (.bl false) := by kernel_rfl
@[simp] theorem neS_stretch_put : neD (.str "stretch") (.str "put") = some (.bl true) := by kernel_rfl
@[simp] theorem eqS_stretch_widen : eqD (.str "stretch") (.str "widen") = some (.bl false) := by kernel_rfl
@[simp] theorem neS_stretch_widen : neD (.str "stretch") (.str "widen") = some (.bl true) := by kernel_rfl
@[simp] theorem eqS_stretch_narrow : eqD (.str "stretch") (.str "narrow") = some (.bl false) := by kernel_rfl
@[simp] theorem neS_stretch_narrow : neD (.str "stretch") (.str "narrow") = some (.bl true) := by kernel_rfl
@[simp] theorem eqS_stretch_move : eqD (.str "stretch") (.str "move") = some (.bl false) := by kernel_rfl
@[simp] theorem neS_stretch_move : neD (.str "stretch") (.str "move") = some (.bl true) := by kernel_rfl
@[simp] theorem eqS_stretch_stretch : eqD (.str "stretch") (.str "stretch") = some (.bl true) := by kernel_rfl
@[simp] theorem neS_stretch_stretch : neD (.str "stretch") (.str "stretch") = some (.bl false) := by kernel_rfl
@[simp] theorem eqS_stretch_mirror : eqD (.str "stretch") (.str "mirror") = some (.bl false) := by kernel_rfl
@[simp] theorem neS_stretch_mirror : neD (.str "stretch") (.str "mirror") = some (.bl true) := by kernel_rfl
@[simp] theorem eqS_mirror_put : eqD (.str "mirror") (.str "put") = some (.bl false) := by kernel_rfl
@[simp] theorem neS_mirror_put : neD (.str "mirror") (.str "put") = some (.bl true) := by kernel_rfl
@[simp] theorem eqS_mirror_widen : eqD (.str "mirror") (.str "widen") = some (.bl false) := by kernel_rfl
@[simp] theorem neS_mirror_widen : neD (.str "mirror") (.str "widen") = some (.bl true) := by kernel_rfl
@[simp] theorem eqS_mirror_narrow : eqD (.str "mirror") (.str "narrow") = some (.bl false) := by kernel_rfl
@[simp] theorem neS_mirror_narrow : neD (.str "mirror") (.str "narrow") = some (.bl true) := by kernel_rfl
@[simp] theorem eqS_mirror_move : eqD (.str "mirror") (.str "move") = some (.bl false) := by kernel_rfl
@[simp] theorem neS_mirror_move : neD (.str "mirror") (.str "move") = some (.bl true) := by kernel_rfl
@[simp] theorem eqS_mirror_stretch : eqD (.str "mirror") (.str "stretch") = some (.bl false) := by kernel_rfl
@[simp] theorem neS_mirror_stretch : neD (.str "mirror") (.str "stretch") = some (.bl true) := by kernel_rfl
@[simp] theorem eqS_mirror_mirror : eqD (.str "mirror") (.str "mirror") = some (.bl true) := by kernel_rfl
@[simp] theorem neS_mirror_mirror : neD (.str "mirror") (.str "mirror") = some (.bl false) := by kernel_rfl
@[simp] theorem fldG_eq (ix : List (Nat × Nat)) (f : FE) (ds : List Sl) : fldG ix f ds = (f ds).bind (fldD ix) := rfl
@[simp] theorem fldD_ins (ix : List (Nat × Nat)) (t : Nat) (es : List D) : fldD ix (.ins t es) = (ix.lookup t).bind fun i => es[i]? := rfl
@[simp] theorem methV_eq (n : Nat) (cs : List Nat) (F : Nat → List D → Option Ret) (fo : FE) (g : FA) (ds : List Sl) : methV n cs F fo g ds = (fo ds).bind fun o => (g ds).bind fun l => (methR n cs F o l).bind retV := rfl
@[simp] theorem methF_eq (n : Nat) (cs : List Nat) (F : Nat → List D → Option Ret) (fo : FE) (g : FA) (ds : List Sl) : methF n cs F fo g ds = (fo ds).bind fun o => (g ds).bind fun l => (methR n cs F o l).bind retF := rfl
@[simp] theorem makeG_eq (t n : Nat) (G : List D → Option (List D)) (g : FA) (ds : List Sl) : makeG t n G g ds = (g ds).bind fun l => if l.length = n ∧ flats l = true then (G l).map (D.ins t) else none := rfl
@[simp] theorem retDG_eq (f : FE) (ds : List Sl) : retDG f ds = (f ds).map fun d => .rt (.val d) := rfl
end FL
namespace FL
open PySem PySem.Spec PyProof.Rows L2
abbrev Rw := Option Int × Option Int × Option Int
noncomputable def rwD (r : Rw) : D := .tup [oi r.1, oi r.2.1, oi r.2.2]
noncomputable def has3 (r : Rw) (p : Int) : Bool := hasS (r.1, r.2.1) p
def ok3 (r : Rw) : Prop := okS (r.1, r.2.1)
@[simp] theorem rwD_0 (r : Rw) : ixD (rwD r) (.int 0) = some (oi r.1) := ixT0 _ _
@[simp] theorem rwD_1 (r : Rw) : ixD (rwD r) (.int 1) = some (oi r.2.1) := ixT1 _ _ _
@[simp] theorem rwD_2 (r : Rw) : ixD (rwD r) (.int 2) = some (oi r.2.2) := ixT2 _ _ _ _
@[simp] theorem rwD_flat (r : Rw) : flat (rwD r) = true := by simp [rwD]
@[simp] theorem rwD_shal (r : Rw) (n : Nat) : shal (n + 1) (rwD r) = true := by simp [rwD]
@[simp] theorem rwD_tupG (h : List D → List Sl → Option (List Sl)) (r : Rw) (ds : List Sl) : tupG 3 h (rwD r) ds = h [oi r.1, oi r.2.1, oi r.2.2] ds := by simp [rwD]
@[simp] theorem rwD_eqv (r t : Rw) : eqvD (rwD r) (rwD t) = decide (r = t) := by
  obtain ⟨a, b, c⟩ := r
  obtain ⟨x, y, z⟩ := t
  rw [Bool.eq_iff_iff]
  simp [rwD]
theorem flats_rw (l : List Rw) : flats (l.map rwD) = true := by
  induction l with
  | nil => simp
  | cons a r ih => simp [ih]
theorem shals_rw (n : Nat) (l : List Rw) : shals (n + 2) (l.map rwD) = true := shals_all fun d hd => by obtain ⟨r, _, rfl⟩ := List.mem_map.mp hd; simp
theorem eqvs_rw : ∀ a b : List Rw, eqvs (a.map rwD) (b.map rwD) = decide (a = b)
  | [], [] => by simp
  | [], y :: b => by simp
  | x :: a, [] => by simp
  | x :: a, y :: b => by
    simp only [List.map_cons, eqvs_cons, rwD_eqv, eqvs_rw a b]
    rw [Bool.eq_iff_iff]
    simp
theorem eqD_rw (a b : List Rw) : eqD (.lst (a.map rwD)) (.lst (b.map rwD)) = some (.bl (decide (a = b))) := by rw [eqD_ok (by simpa using shals_rw 38 a) (by simpa using shals_rw 38 b), eqvD_lst, eqvs_rw]
theorem neD_rw (a b : List Rw) : neD (.lst (a.map rwD)) (.lst (b.map rwD)) = some (.bl (!decide (a = b))) := by rw [neD_ok (by simpa using shals_rw 38 a) (by simpa using shals_rw 38 b), eqvD_lst, eqvs_rw]
theorem eqD_rw_nil (a : List Rw) : eqD (.lst (a.map rwD)) (.lst []) = some (.bl a.isEmpty) := by
  have := eqD_rw a []
  simp only [List.map_nil] at this
  rw [this]
  cases a <;> simp
theorem neD_rw_nil (a : List Rw) : neD (.lst (a.map rwD)) (.lst []) = some (.bl (!a.isEmpty)) := by
  have := neD_rw a []
  simp only [List.map_nil] at this
  rw [this]
  cases a <;> simp
theorem ixN_last {n : Nat} (h : 0 < n) : ixN n (-1) = some (n - 1) := by
  unfold ixN
  rw [if_neg (by decide), if_pos (by omega)]
  congr 1
  omega
def ahead (a b : Rw) : Prop := ∃ x y, a.2.1 = some x ∧ b.1 = some y ∧ x ≤ y
structure Ord (rows : List Rw) : Prop where
  ok : ∀ r ∈ rows, ok3 r
  pw : rows.Pairwise ahead
def Tel (rows : List Rw) (p v : Int) : Prop := ∃ r ∈ rows, has3 r p = true ∧ r.2.2 = some v
noncomputable def knit1 (acc : List Rw) (r : Rw) : List Rw := match r.2.2 with
  | none => acc
  | some v => match acc with
    | [] => [r]
    | q :: t => if q.2.1 = r.1 ∧ q.2.2 = some v then (q.1, r.2.1, some v) :: t else r :: q :: t
noncomputable def knitF (rows : List Rw) : List Rw := (rows.foldl knit1 []).reverse
theorem knit_turn (acc : List Rw) (r : Rw) (R a b c : Sl) (hl : acc.length < 16777216) :
    GP.knit.b1 [R, .own (acc.map rwD).reverse, .v (oi r.1), .v (oi r.2.1), .v (oi r.2.2)] = some (.nx [R, .own ((knit1 acc r).map rwD).reverse, .v (oi r.1), .v (oi r.2.1), .v (oi r.2.2)]) ∨
    GP.knit.b1 [R, .own (acc.map rwD).reverse, .v (oi r.1), .v (oi r.2.1), .v (oi r.2.2)] = some (.ct [R, .own ((knit1 acc r).map rwD).reverse, .v (oi r.1), .v (oi r.2.1), .v (oi r.2.2)]) := by
  obtain ⟨lo, bh, v⟩ := r
  unfold GP.knit.b1
  cases v with
  | none => right; simp [knit1]
  | some v =>
    left
    cases acc with
    | nil =>
      have e : D.tup [oi lo, oi bh, .int v] = rwD (lo, bh, some v) := rfl
      simp [knit1, e]
    | cons q t =>
      have last : ixD (.lst ((t.map rwD).reverse ++ [rwD q])) (.int (-1)) = some (rwD q) := ixL_last _ _
      have le : ixN (t.length + 1) (-1) = some t.length := by rw [ixN_last (by omega)]; rfl
      have hl' : t.length + 1 < 16777216 := by simpa using hl
      have e2 : ∀ x : Option Int, eqD (oi x) (D.int v) = some (.bl (decide (x = some v))) := fun x => eqD_oi x (some v)
      by_cases h1 : q.2.1 = lo
      · by_cases h2 : q.2.2 = some v
        · have e : D.tup [oi q.1, oi bh, .int v] = rwD (q.1, bh, some v) := rfl
          simp [knit1, h1, h2, last, le, e2, e]
        · have e : D.tup [oi lo, oi bh, .int v] = rwD (lo, bh, some v) := rfl
          simp [knit1, h1, h2, last, le, e2, hl', e]
      · have e : D.tup [oi lo, oi bh, .int v] = rwD (lo, bh, some v) := rfl
        simp [knit1, h1, last, le, hl', e]
theorem knit1_len (acc : List Rw) (r : Rw) : (knit1 acc r).length ≤ acc.length + 1 := by
  unfold knit1
  split
  · omega
  · split
    · simp
    · split <;> simp
theorem knit_loop (R : Sl) : ∀ (rows acc : List Rw) (a b c : Sl), acc.length + rows.length < 16777216 →
    ∃ a' b' c', loopG (tupG 3 (tgCons (nameG 2) (tgCons (nameG 3) (tgCons (nameG 4) tgNil)))) GP.knit.b1 (rows.map rwD) [R, .own (acc.map rwD).reverse, a, b, c] = some (.nx [R, .own ((rows.foldl knit1 acc).map rwD).reverse, a', b', c'])
  | [], acc, a, b, c, _ => ⟨a, b, c, rfl⟩
  | r :: rows, acc, a, b, c, h => by
    simp only [List.length_cons] at h
    have hl := knit1_len acc r
    obtain ⟨a', b', c', ih⟩ := knit_loop R rows (knit1 acc r) (.v (oi r.1)) (.v (oi r.2.1)) (.v (oi r.2.2)) (by omega)
    refine ⟨a', b', c', ?_⟩
    rcases knit_turn acc r R a b c (by omega) with e | e <;> simp [loopG, e, ih]
theorem knit_eq (rows : List Rw) (h : rows.length < 16777216) : GP.knit.f [.lst (rows.map rwD)] = some (.fresh ((knitF rows).map rwD)) := by
  obtain ⟨a, b, c, e⟩ := knit_loop (.v (.lst (rows.map rwD))) rows [] .no .no .no (by simpa using h)
  simp only [List.reverse_nil, List.map_nil] at e
  unfold GP.knit.f runG GP.knit.g
  have fl := flats_rw (knitF rows)
  unfold knitF at fl ⊢
  rw [List.map_reverse] at fl ⊢
  simp [args, e, fl]
theorem knitF_len (rows : List Rw) : (knitF rows).length ≤ rows.length := by
  unfold knitF
  rw [List.length_reverse]
  have : ∀ (rows acc : List Rw), (rows.foldl knit1 acc).length ≤ acc.length + rows.length := by
    intro rows
    induction rows with
    | nil => intro acc; simp
    | cons r t ih =>
      intro acc
      have := ih (knit1 acc r)
      have := knit1_len acc r
      simp only [List.foldl_cons, List.length_cons]
      omega
  have := this rows []
  simpa using this
noncomputable def adjOk : List Rw → Prop
  | b :: a :: t => ¬ (a.2.1 = b.1 ∧ a.2.2 = b.2.2) ∧ adjOk (a :: t)
  | _ => True
structure KI (acc : List Rw) : Prop where
  ok : ∀ r ∈ acc, ok3 r
  pw : acc.Pairwise fun b a => ahead a b
  val : ∀ r ∈ acc, r.2.2 ≠ none
  adj : adjOk acc
theorem KI.nil : KI [] := ⟨(fun _ h => nomatch h), List.Pairwise.nil, (fun _ h => nomatch h), trivial⟩
theorem has3_iff (r : Rw) (p : Int) : has3 r p = true ↔ (∀ a, r.1 = some a → a ≤ p) ∧ (∀ b, r.2.1 = some b → p < b) := hasS_iff _ _
theorem knit1_step {acc : List Rw} {r : Rw} (k : KI acc) (ho : ok3 r) (ha : ∀ a ∈ acc, ahead a r) :
    KI (knit1 acc r) ∧ (∀ r', ahead r r' → (∀ a ∈ acc, ahead a r') → ∀ a ∈ knit1 acc r, ahead a r') ∧ ∀ p v, Tel (knit1 acc r) p v ↔ Tel acc p v ∨ (has3 r p = true ∧ r.2.2 = some v) := by
  obtain ⟨lo, bh, w⟩ := r
  cases w with
  | none =>
    refine ⟨k, fun r' _ h => h, fun p v => ⟨.inl, fun h => h.elim id fun z => by simp at z⟩⟩
  | some w =>
    cases acc with
    | nil =>
      refine ⟨⟨?_, ?_, ?_, trivial⟩, ?_, ?_⟩
      · intro x hx; simp [knit1] at hx; subst hx; exact ho
      · simp [knit1]
      · intro x hx; simp [knit1] at hx; subst hx; simp
      · intro r' h1 _ a h; simp [knit1] at h; subst h; exact h1
      · intro p v; simp [knit1, Tel]
    | cons q t =>
      obtain ⟨x, y, hx, hy, hxy⟩ := ha q List.mem_cons_self
      simp only at hy
      have pw := List.pairwise_cons.mp k.pw
      by_cases hm : q.2.1 = lo ∧ q.2.2 = some w
      · have e : knit1 (q :: t) (lo, bh, some w) = (q.1, bh, some w) :: t := by simp [knit1, hm.1, hm.2]
        rw [e]
        have exy : x = y := by
          have := hm.1
          rw [hx, hy] at this
          exact Option.some.inj this
        have hn : ∀ p, has3 (q.1, bh, some w) p = true ↔ has3 q p = true ∨ has3 (lo, bh, some w) p = true := by
          intro p
          rw [has3_iff, has3_iff, has3_iff]
          simp only
          constructor
          · rintro ⟨h1, h2⟩
            by_cases hp : p < x
            · exact .inl ⟨h1, fun b hb => by rw [hx] at hb; cases hb; exact hp⟩
            · exact .inr ⟨fun a h => by rw [hy] at h; cases h; omega, h2⟩
          · rintro (⟨h1, h2⟩ | ⟨h1, h2⟩)
            · refine ⟨h1, fun b hb => ?_⟩
              have := h2 x hx
              have := ho y b hy hb
              omega
            · refine ⟨fun a h => ?_, h2⟩
              have := k.ok q List.mem_cons_self a x h hx
              have := h1 y hy
              omega
        refine ⟨⟨?_, ?_, ?_, ?_⟩, ?_, ?_⟩
        · intro z hz
          rcases List.mem_cons.mp hz with rfl | hz
          · intro a b h1 h2
            have := k.ok q List.mem_cons_self a x h1 hx
            have := ho y b hy h2
            omega
          · exact k.ok z (List.mem_cons_of_mem _ hz)
        · refine List.pairwise_cons.mpr ⟨fun a h => ?_, pw.2⟩
          exact pw.1 a h
        · intro z hz
          rcases List.mem_cons.mp hz with rfl | hz
          · simp
          · exact k.val z (List.mem_cons_of_mem _ hz)
        · have ka := k.adj
          cases t with
          | nil => trivial
          | cons a t =>
            refine ⟨fun h => ka.1 ⟨h.1, ?_⟩, ka.2⟩
            rw [hm.2]
            exact h.2
        · intro r' h1 h2 a h
          rcases List.mem_cons.mp h with rfl | h
          · exact h1
          · exact h2 a (List.mem_cons_of_mem _ h)
        · intro p v
          constructor
          · rintro ⟨z, hz, h1, h2⟩
            rcases List.mem_cons.mp hz with rfl | hz
            · rcases (hn p).mp h1 with h3 | h3
              · exact .inl ⟨q, List.mem_cons_self, h3, hm.2.trans h2⟩
              · exact .inr ⟨h3, h2⟩
            · exact .inl ⟨z, List.mem_cons_of_mem _ hz, h1, h2⟩
          · rintro (⟨z, hz, h1, h2⟩ | ⟨h1, h2⟩)
            · rcases List.mem_cons.mp hz with rfl | hz
              · exact ⟨_, List.mem_cons_self, (hn p).mpr (.inl h1), by rw [hm.2] at h2; exact h2⟩
              · exact ⟨z, List.mem_cons_of_mem _ hz, h1, h2⟩
            · exact ⟨_, List.mem_cons_self, (hn p).mpr (.inr h1), h2⟩
      · have e : knit1 (q :: t) (lo, bh, some w) = (lo, bh, some w) :: q :: t := by simp only [knit1]; rw [if_neg hm]
        rw [e]
        refine ⟨⟨?_, List.pairwise_cons.mpr ⟨ha, k.pw⟩, ?_, hm, k.adj⟩, ?_, ?_⟩
        · intro z hz
          rcases List.mem_cons.mp hz with rfl | hz
          · exact ho
          · exact k.ok z hz
        · intro z hz
          rcases List.mem_cons.mp hz with rfl | hz
          · simp
          · exact k.val z hz
        · intro r' h1 h2 a h
          rcases List.mem_cons.mp h with rfl | h
          · exact h1
          · exact h2 a h
        · intro p v
          constructor
          · rintro ⟨z, hz, h1, h2⟩
            rcases List.mem_cons.mp hz with rfl | hz
            · exact .inr ⟨h1, h2⟩
            · exact .inl ⟨z, hz, h1, h2⟩
          · rintro (⟨z, hz, h1, h2⟩ | ⟨h1, h2⟩)
            · exact ⟨z, List.mem_cons_of_mem _ hz, h1, h2⟩
            · exact ⟨_, List.mem_cons_self, h1, h2⟩
theorem knit_fold : ∀ (rows acc : List Rw), KI acc → Ord rows → (∀ a ∈ acc, ∀ r ∈ rows, ahead a r) → KI (rows.foldl knit1 acc) ∧ ∀ p v, Tel (rows.foldl knit1 acc) p v ↔ Tel acc p v ∨ Tel rows p v
  | [], acc, k, _, _ => ⟨k, fun p v => ⟨.inl, fun h => h.elim id fun ⟨r, hr, _⟩ => nomatch hr⟩⟩
  | r :: rows, acc, k, o, h => by
    have pw := List.pairwise_cons.mp o.pw
    obtain ⟨k1, h1, t1⟩ := knit1_step k (o.ok r List.mem_cons_self) fun a ha => h a ha r List.mem_cons_self
    obtain ⟨k2, t2⟩ := knit_fold rows (knit1 acc r) k1 ⟨fun z hz => o.ok z (List.mem_cons_of_mem _ hz), pw.2⟩ fun a ha r' hr' => h1 r' (pw.1 r' hr') (fun b hb => h b hb r' (List.mem_cons_of_mem _ hr')) a ha
    refine ⟨k2, fun p v => ?_⟩
    show Tel (rows.foldl knit1 (knit1 acc r)) p v ↔ _
    rw [t2, t1]
    constructor
    · rintro ((h | ⟨h, e⟩) | ⟨z, hz, h⟩)
      · exact .inl h
      · exact .inr ⟨r, List.mem_cons_self, h, e⟩
      · exact .inr ⟨z, List.mem_cons_of_mem _ hz, h⟩
    · rintro (h' | ⟨z, hz, h'⟩)
      · exact .inl (.inl h')
      · rcases List.mem_cons.mp hz with rfl | hz
        · exact .inl (.inr h')
        · exact .inr ⟨z, hz, h'⟩
structure MapF (ps : List Rw) : Prop where
  ord : Ord ps
  val : ∀ r ∈ ps, r.2.2 ≠ none
  adj : ∀ (i : Nat) (a b : Rw), ps[i]? = some a → ps[i + 1]? = some b → ¬ (a.2.1 = b.1 ∧ a.2.2 = b.2.2)
theorem adjOk_get : ∀ {l : List Rw}, adjOk l → ∀ (i : Nat) (b a : Rw), l[i]? = some b → l[i + 1]? = some a → ¬ (a.2.1 = b.1 ∧ a.2.2 = b.2.2)
  | [], _, i, b, a, e, _ => by simp at e
  | [x], _, i, b, a, e, e2 => by simp at e2
  | x :: y :: t, h, 0, b, a, e, e2 => by
    simp at e e2
    subst e e2
    exact h.1
  | x :: y :: t, h, i + 1, b, a, e, e2 => adjOk_get h.2 i b a (by simpa using e) (by simpa using e2)
theorem KI.map {acc : List Rw} (k : KI acc) : MapF acc.reverse := by
  refine ⟨⟨fun r hr => k.ok r (List.mem_reverse.mp hr), List.pairwise_reverse.mpr k.pw⟩, fun r hr => k.val r (List.mem_reverse.mp hr), fun i a b h1 h2 => ?_⟩
  have l2 := (List.getElem?_eq_some_iff.mp h2).1
  rw [List.length_reverse] at l2
  rw [List.getElem?_reverse (by omega)] at h1 h2
  refine adjOk_get k.adj (acc.length - 1 - (i + 1)) b a h2 ?_
  rw [← h1]
  congr 1
  omega
theorem tel_reverse {l : List Rw} {p v : Int} : Tel l.reverse p v ↔ Tel l p v := ⟨fun ⟨r, h, q⟩ => ⟨r, List.mem_reverse.mp h, q⟩, fun ⟨r, h, q⟩ => ⟨r, List.mem_reverse.mpr h, q⟩⟩
theorem knitF_map {rows : List Rw} (o : Ord rows) : MapF (knitF rows) := (knit_fold rows [] KI.nil o (fun _ h => nomatch h)).1.map
theorem knitF_tel {rows : List Rw} (o : Ord rows) (p v : Int) : Tel (knitF rows) p v ↔ Tel rows p v := by
  unfold knitF
  rw [tel_reverse, (knit_fold rows [] KI.nil o (fun _ h => nomatch h)).2]
  exact ⟨fun h => h.elim (fun ⟨r, hr, _⟩ => nomatch hr) id, .inr⟩
noncomputable def valL (rows : List Rw) (p : Int) : Option Int := rows.foldl (fun t r => if has3 r p = true then r.2.2 else t) none
theorem ahead_no {a b : Rw} {p : Int} (h : ahead a b) (h1 : has3 a p = true) (h2 : has3 b p = true) : False := by
  obtain ⟨x, y, hx, hy, hxy⟩ := h
  rw [has3_iff] at h1 h2
  have := h1.2 x hx
  have := h2.1 y hy
  omega
theorem valL_none {rows : List Rw} {p : Int} (h : ∀ r ∈ rows, has3 r p = false) (t : Option Int) : rows.foldl (fun t r => if has3 r p = true then r.2.2 else t) t = t := by
  induction rows generalizing t with
  | nil => rfl
  | cons r rows ih =>
    rw [List.foldl_cons, h r List.mem_cons_self]
    exact ih (fun z hz => h z (List.mem_cons_of_mem _ hz)) _
theorem valL_tel {rows : List Rw} (o : Ord rows) (p v : Int) : valL rows p = some v ↔ Tel rows p v := by
  have key : ∀ (rows : List Rw), Ord rows → ∀ t : Option Int, rows.foldl (fun t r => if has3 r p = true then r.2.2 else t) t = (match rows.find? (fun r => has3 r p) with | some r => r.2.2 | none => t) := by
    intro rows
    induction rows with
    | nil => intro _ t; rfl
    | cons r rows ih =>
      intro o t
      have pw := List.pairwise_cons.mp o.pw
      rw [List.foldl_cons]
      cases h : has3 r p with
      | true =>
        rw [List.find?_cons_of_pos (by exact h)]
        simp only [if_true]
        exact valL_none (fun z hz => by
          cases hz' : has3 z p with
          | false => rfl
          | true => exact (ahead_no (pw.1 z hz) h hz').elim) _
      | false =>
        rw [List.find?_cons_of_neg (by simpa using h)]
        simp only [Bool.false_eq_true, if_false]
        exact ih ⟨fun z hz => o.ok z (List.mem_cons_of_mem _ hz), pw.2⟩ t
  unfold valL
  rw [key rows o none]
  constructor
  · intro h
    cases hf : rows.find? (fun r => has3 r p) with
    | none => rw [hf] at h; cases h
    | some r =>
      rw [hf] at h
      exact ⟨r, List.mem_of_find?_eq_some hf, by simpa using List.find?_some hf, h⟩
  · rintro ⟨r, hr, h1, h2⟩
    cases hf : rows.find? (fun r => has3 r p) with
    | none =>
      have := List.find?_eq_none.mp hf r hr
      exact (this h1).elim
    | some r' =>
      have h3 : has3 r' p = true := by simpa using List.find?_some hf
      have hm := List.mem_of_find?_eq_some hf
      have : r' = r := by
        by_cases e : r' = r
        · exact e
        · exfalso
          have pw := o.pw
          rcases List.mem_iff_getElem.mp hr with ⟨i, hi, rfl⟩
          rcases List.mem_iff_getElem.mp hm with ⟨j, hj, rfl⟩
          rcases Nat.lt_trichotomy i j with hlt | hlt | hlt
          · exact ahead_no (List.pairwise_iff_getElem.mp pw i j hi hj hlt) h1 h3
          · subst hlt; exact e rfl
          · exact ahead_no (List.pairwise_iff_getElem.mp pw j i hj hi hlt) h3 h1
      rw [this]
      exact h2
theorem valL_same {a b : List Rw} (oa : Ord a) (ob : Ord b) {p : Int} (h : ∀ v, Tel a p v ↔ Tel b p v) : valL a p = valL b p := by
  cases ha : valL a p with
  | some v => exact ((valL_tel ob p v).mpr ((h v).mp ((valL_tel oa p v).mp ha))).symm
  | none =>
    cases hb : valL b p with
    | none => rfl
    | some v =>
      have := (valL_tel oa p v).mpr ((h v).mpr ((valL_tel ob p v).mp hb))
      rw [ha] at this
      cases this
end FL
namespace FL
open PySem PySem.Spec PyProof.Rows L2
open Builtin.Int (intBits)
structure Drawn (rows : List Rw) (s : Int) : Prop where
  ord : Ord rows
  fin : ∀ r ∈ rows, ∃ lo bh, r.1 = some lo ∧ r.2.1 = some bh ∧ bh ≤ s
theorem Drawn.snoc {rows : List Rw} {s lo bh : Int} {v : Option Int} (h : Drawn rows s) (h1 : s ≤ lo) (h2 : lo < bh) : Drawn (rows ++ [(some lo, some bh, v)]) bh := by
  refine ⟨⟨fun r hr => ?_, ?_⟩, fun r hr => ?_⟩
  · rcases List.mem_append.mp hr with hr | hr
    · exact h.ord.ok r hr
    · have : r = (some lo, some bh, v) := by simpa using hr
      subst this
      intro a b e1 e2
      cases e1; cases e2; exact h2
  · refine List.pairwise_append.mpr ⟨h.ord.pw, List.pairwise_singleton _ _, fun a ha b hb => ?_⟩
    have : b = (some lo, some bh, v) := by simpa using hb
    subst this
    obtain ⟨x, y, e1, e2, e3⟩ := h.fin a ha
    exact ⟨y, lo, e2, rfl, by omega⟩
  · rcases List.mem_append.mp hr with hr | hr
    · obtain ⟨x, y, e1, e2, e3⟩ := h.fin r hr
      exact ⟨x, y, e1, e2, by omega⟩
    · have : r = (some lo, some bh, v) := by simpa using hr
      subst this
      exact ⟨lo, bh, rfl, rfl, Int.le_refl _⟩
theorem ints_at (ns : List Int) {k : Int} (h0 : 0 ≤ k) (h1 : k < ns.length) : ixD (.lst (ns.map D.int)) (.int k) = some (.int (cel ns k.toNat)) := by
  have h3 : k.toNat < ns.length := by omega
  rw [ixL_pos _ h0 (by simpa using h1)]
  simp [h3, cel, List.getD]
theorem ord_first {r : Rw} {t : List Rw} (h : Ord (r :: t)) : Ord ((none, r.2) :: t) := by
  have pw := List.pairwise_cons.mp h.pw
  refine ⟨fun z hz => ?_, List.pairwise_cons.mpr ⟨pw.1, pw.2⟩⟩
  rcases List.mem_cons.mp hz with rfl | hz
  · intro a b e1 _; cases e1
  · exact h.ok z (List.mem_cons_of_mem _ hz)
theorem ord_last {r : Rw} {t : List Rw} (h : Ord (t ++ [r])) : Ord (t ++ [(r.1, none, r.2.2)]) := by
  have pw := List.pairwise_append.mp h.pw
  refine ⟨fun z hz => ?_, List.pairwise_append.mpr ⟨pw.1, List.pairwise_singleton _ _, fun a ha b hb => ?_⟩⟩
  · rcases List.mem_append.mp hz with hz | hz
    · exact h.ok z (List.mem_append_left _ hz)
    · have : z = (r.1, none, r.2.2) := by simpa using hz
      subst this
      intro a b _ e2; cases e2
  · have : b = (r.1, none, r.2.2) := by simpa using hb
    subst this
    exact pw.2.2 a ha r (by simp)
theorem ixN0 {n : Nat} (h : 0 < n) : ixN n 0 = some 0 := by
  rw [ixN_pos (by decide) (by omega)]; rfl
theorem set_self {α : Type} {l : List α} {i : Nat} {x : α} (h : l[i]? = some x) : l.set i x = l := by
  obtain ⟨hi, rfl⟩ := List.getElem?_eq_some_iff.mp h
  exact List.set_getElem_self hi
theorem open_lo (i : Nat) (T : FT) (ds : List Sl) (rows : List Rw) (t : Bool) (o : Ord rows) (hi : ds[i]? = some (.own (rows.map rwD))) (hT : T ds = some t) : ∃ rows' : List Rw, Ord rows' ∧ rows'.length = rows.length ∧ (rows' = rows ∨ ∃ r r', rows = r :: r' ∧ rows' = (none, r.2) :: r') ∧
      (ifG (andT (testB (bin2 neD (getW i) (mkL (sized nilA)))) T) (putG i (konst (.int 0)) (mkT (sized (consA (konst .non) (consA (bin2 ixD (bin2 ixD (getW i) (konst (.int 0))) (konst (.int 1))) (consA (bin2 ixD (bin2 ixD (getW i) (konst (.int 0))) (konst (.int 2))) nilA)))))) nextG) ds = some (.nx (ds.set i (.own (rows'.map rwD)))) := by
  have ne := neD_rw_nil rows
  cases t with
  | true =>
    cases rows with
    | nil =>
      simp at ne hi
      exact ⟨[], o, rfl, .inl rfl, by simp [hi, ne, set_self hi]⟩
    | cons r t =>
      have e0 : D.tup [.non, oi r.2.1, oi r.2.2] = rwD (none, r.2) := rfl
      have le : ixN (t.length + 1) 0 = some 0 := ixN0 (by omega)
      refine ⟨(none, r.2) :: t, ord_first o, by simp, .inr ⟨r, t, rfl, rfl⟩, ?_⟩
      simp at ne hi
      simp [hi, ne, hT, le, e0]
  | false => exact ⟨rows, o, rfl, .inl rfl, by simp [hi, ne, hT, set_self hi]⟩
theorem open_hi (i : Nat) (T : FT) (ds : List Sl) (rows : List Rw) (t : Bool) (o : Ord rows) (hi : ds[i]? = some (.own (rows.map rwD))) (hT : T ds = some t) : ∃ rows' : List Rw, Ord rows' ∧ rows'.length = rows.length ∧ (rows' = rows ∨ ∃ r r', rows = r' ++ [r] ∧ rows' = r' ++ [(r.1, none, r.2.2)]) ∧
      (ifG (andT (testB (bin2 neD (getW i) (mkL (sized nilA)))) T) (putG i (un1 negD (konst (.int 1))) (mkT (sized (consA (bin2 ixD (bin2 ixD (getW i) (un1 negD (konst (.int 1)))) (konst (.int 0))) (consA (konst .non) (consA (bin2 ixD (bin2 ixD (getW i) (un1 negD (konst (.int 1)))) (konst (.int 2))) nilA)))))) nextG) ds = some (.nx (ds.set i (.own (rows'.map rwD)))) := by
  have ne := neD_rw_nil rows
  cases t with
  | true =>
    rcases List.eq_nil_or_concat rows with rfl | ⟨t, r, rfl⟩
    · simp at ne hi
      exact ⟨[], o, rfl, .inl rfl, by simp [hi, ne, set_self hi]⟩
    · rw [List.concat_eq_append] at o ne hi ⊢
      have last : ixD (.lst (t.map rwD ++ [rwD r])) (.int (-1)) = some (rwD r) := ixL_last _ _
      have le : ixN (t.length + 1) (-1) = some t.length := by rw [ixN_last (by omega)]; rfl
      have e0 : D.tup [oi r.1, .non, oi r.2.2] = rwD (r.1, none, r.2.2) := rfl
      have ie : (t ++ [r]).isEmpty = false := by simp
      refine ⟨t ++ [(r.1, none, r.2.2)], ord_last o, by simp, .inr ⟨r, t, rfl, rfl⟩, ?_⟩
      rw [ie] at ne
      simp at ne hi
      simp [hi, ne, hT, last, le, e0]
  | false => exact ⟨rows, o, rfl, .inl rfl, by simp [hi, ne, hT, set_self hi]⟩
theorem whole_int (i : Int) : GL.whole.f [.int i] = some (.val (.bl true)) := by
  unfold GL.whole.f runG GL.whole.g
  simp [args]
end FL
namespace FL
open PySem PySem.Spec PyProof.Rows L2
open Builtin.Int (intBits)
theorem mul_small {i j : Int} (h : 0 ≤ j) (h2 : j ≤ 1000) : mulD (.int i) (.int j) = some (.int (i * j)) := mulD_ok (.of_right (bits_nat (Nat.lt_of_le_of_lt (show j.natAbs ≤ 1000 by omega) (by decide))))
@[simp] theorem methR_ins (n : Nat) (cs : List Nat) (F : Nat → List D → Option Ret) (t : Nat) (es l : List D) : methR n cs F (.ins t es) l = if t ∈ cs ∧ l.length = n then F t (.ins t es :: l) else none := rfl
end FL
namespace FL
open PySem PySem.Spec PyProof.Rows L2
open Builtin.Int (intBits)
end FL
namespace FL
open PySem PySem.Spec PyProof.Rows L2
end FL
namespace FL
open PySem PySem.Spec PyProof.Rows L2
noncomputable def part1 (s : Spn) (r : Rw) : Option Rw := (meetS (r.1, r.2.1) s).map fun u => (u.1, u.2, r.2.2)
noncomputable def partsF (ps : List Rw) (s : Spn) : List Rw := ps.filterMap (part1 s)
theorem parts_loop (R : Sl) (s : Spn) : ∀ (ps acc : List Rw) (a b c d : Sl), acc.length + ps.length < 16777216 → ∃ a' b' c' d', loopG (tupG 3 (tgCons (nameG 3) (tgCons (nameG 4) (tgCons (nameG 5) tgNil)))) GP.parts_in.b1 (ps.map rwD) [R, .v (spD s), .own (acc.map rwD), a, b, c, d] = some (.nx [R, .v (spD s), .own ((acc ++ partsF ps s).map rwD), a', b', c', d'])
  | [], acc, a, b, c, d, _ => ⟨a, b, c, d, by simp [partsF, loopG]⟩
  | r :: ps, acc, a, b, c, d, h => by
    simp only [List.length_cons] at h
    have me : GP.meet.f [.tup [oi r.1, oi r.2.1], spD s] = some (.val (oS (meetS (r.1, r.2.1) s))) := meet_eq (r.1, r.2.1) s
    cases hm : meetS (r.1, r.2.1) s with
    | none =>
      rw [hm] at me
      obtain ⟨a', b', c', d', ih⟩ := parts_loop R s ps acc (.v (oi r.1)) (.v (oi r.2.1)) (.v (oi r.2.2)) (.v .non) (by omega)
      refine ⟨a', b', c', d', ?_⟩
      have turn : GP.parts_in.b1 [R, .v (spD s), .own (acc.map rwD), .v (oi r.1), .v (oi r.2.1), .v (oi r.2.2), d] = some (.nx [R, .v (spD s), .own (acc.map rwD), .v (oi r.1), .v (oi r.2.1), .v (oi r.2.2), .v .non]) := by simp [GP.parts_in.b1, me, oS]
      have e : partsF (r :: ps) s = partsF ps s := by simp [partsF, part1, hm]
      rw [e]
      simp [loopG, turn, ih]
    | some u =>
      rw [hm] at me
      obtain ⟨a', b', c', d', ih⟩ := parts_loop R s ps (acc ++ [(u.1, u.2, r.2.2)]) (.v (oi r.1)) (.v (oi r.2.1)) (.v (oi r.2.2)) (.v (spD u)) (by simp; omega)
      refine ⟨a', b', c', d', ?_⟩
      have z : acc.length < 16777216 := by omega
      have e0 : D.tup [oi u.1, oi u.2, oi r.2.2] = rwD (u.1, u.2, r.2.2) := rfl
      have turn : GP.parts_in.b1 [R, .v (spD s), .own (acc.map rwD), .v (oi r.1), .v (oi r.2.1), .v (oi r.2.2), d] = some (.nx [R, .v (spD s), .own (acc.map rwD ++ [rwD (u.1, u.2, r.2.2)]), .v (oi r.1), .v (oi r.2.1), .v (oi r.2.2), .v (spD u)]) := by simp [GP.parts_in.b1, me, oS, z, e0]
      have e : partsF (r :: ps) s = (u.1, u.2, r.2.2) :: partsF ps s := by simp [partsF, part1, hm]
      rw [e]
      simp only [List.map_append, List.map_cons, List.map_nil, List.append_assoc, List.cons_append, List.nil_append] at ih ⊢
      simp [loopG, turn, ih]
theorem parts_len (ps : List Rw) (s : Spn) : (partsF ps s).length ≤ ps.length := List.length_filterMap_le _ _
theorem parts_eq (ps : List Rw) (s : Spn) (h : ps.length < 16777216) : GP.parts_in.f [.lst (ps.map rwD), spD s] = some (.fresh ((partsF ps s).map rwD)) := by
  obtain ⟨a, b, c, d, e⟩ := parts_loop (.v (.lst (ps.map rwD))) s ps [] .no .no .no .no (by simpa using h)
  simp only [List.map_nil, List.nil_append] at e
  unfold GP.parts_in.f runG GP.parts_in.g
  simp [args, e, flats_rw]
theorem MapF.nil : MapF [] := ⟨⟨(fun _ h => nomatch h), List.Pairwise.nil⟩, (fun _ h => nomatch h), (fun i a b h _ => by simp at h)⟩
end FL
namespace FL
open PySem PySem.Spec PyProof.Rows L2
theorem valL_find {rows : List Rw} (o : Ord rows) (p : Int) : valL rows p = (match rows.find? (fun r => has3 r p) with | some r => r.2.2 | none => none) := by
  cases hf : rows.find? (fun r => has3 r p) with
  | none =>
    cases hv : valL rows p with
    | none => rfl
    | some v =>
      obtain ⟨r, hr, h1, _⟩ := (valL_tel o p v).mp hv
      exact (List.find?_eq_none.mp hf r hr h1).elim
  | some r =>
    have hm := List.mem_of_find?_eq_some hf
    have h3 : has3 r p = true := by simpa using List.find?_some hf
    cases hw : r.2.2 with
    | some v => exact ((valL_tel o p v).mpr ⟨r, hm, h3, hw⟩).trans hw.symm
    | none =>
      cases hv : valL rows p with
      | none => exact hw.symm
      | some v =>
        obtain ⟨r', hr', h1, h2⟩ := (valL_tel o p v).mp hv
        have : r' = r := by
          by_cases e : r' = r
          · exact e
          · exfalso
            rcases List.mem_iff_getElem.mp hr' with ⟨i, hi, rfl⟩
            rcases List.mem_iff_getElem.mp hm with ⟨j, hj, rfl⟩
            rcases Nat.lt_trichotomy i j with hlt | hlt | hlt
            · exact ahead_no (List.pairwise_iff_getElem.mp o.pw i j hi hj hlt) h1 h3
            · subst hlt; exact e rfl
            · exact ahead_no (List.pairwise_iff_getElem.mp o.pw j i hj hi hlt) h3 h1
        rw [this, hw] at h2
        cases h2
noncomputable def runsR (here : Option Int) (b : Bool) : List Rw → List Rw
  | [] => if here ≠ none ∨ b = true then [(here, none, none)] else []
  | r :: t => (if r.1 ≠ here then [(here, r.1, none)] else []) ++ r :: runsR r.2.1 false t
noncomputable def runsF (ps : List Rw) : List Rw := runsR none true ps
noncomputable def runsB (here : Option Int) : List Rw → List Rw
  | [] => []
  | r :: t => (if r.1 ≠ here then [(here, r.1, none)] else []) ++ r :: runsB r.2.1 t
noncomputable def lastB (here : Option Int) : List Rw → Option Int
  | [] => here
  | r :: t => lastB r.2.1 t
theorem runsR_eq : ∀ (ps : List Rw) (here : Option Int) (b : Bool), runsR here b ps = runsB here ps ++ (if lastB here ps ≠ none ∨ (b = true ∧ ps = []) then [(lastB here ps, none, none)] else [])
  | [], here, b => by simp [runsR, runsB, lastB]
  | r :: t, here, b => by
    rw [runsR, runsR_eq t]
    simp [runsB, lastB]
theorem runsB_len : ∀ (ps : List Rw) (here : Option Int), (runsB here ps).length ≤ 2 * ps.length
  | [], here => by simp [runsB]
  | r :: t, here => by
    have := runsB_len t r.2.1
    rw [runsB]
    split <;> simp <;> omega
theorem runs_loop (R : Sl) : ∀ (ps acc : List Rw) (here : Option Int) (a b c : Sl), acc.length + 2 * ps.length < 16777216 → ∃ a' b' c', loopG (tupG 3 (tgCons (nameG 3) (tgCons (nameG 4) (tgCons (nameG 5) tgNil)))) GP.runs_of.b1 (ps.map rwD) [R, .own (acc.map rwD), .v (oi here), a, b, c] = some (.nx [R, .own ((acc ++ runsB here ps).map rwD), .v (oi (lastB here ps)), a', b', c'])
  | [], acc, here, a, b, c, _ => ⟨a, b, c, by simp [runsB, lastB, loopG]⟩
  | r :: ps, acc, here, a, b, c, h => by
    simp only [List.length_cons] at h
    have e0 : D.tup [oi here, oi r.1, .non] = rwD (here, r.1, none) := rfl
    have e1 : D.tup [oi r.1, oi r.2.1, oi r.2.2] = rwD r := rfl
    have z1 : acc.length < 16777216 := by omega
    have z2 : acc.length + 1 < 16777216 := by omega
    by_cases hr : r.1 = here
    · subst hr
      obtain ⟨a', b', c', ih⟩ := runs_loop R ps (acc ++ [r]) r.2.1 (.v (oi r.1)) (.v (oi r.2.1)) (.v (oi r.2.2)) (by simp; omega)
      refine ⟨a', b', c', ?_⟩
      simp only [List.map_append, List.map_cons, List.map_nil, List.append_assoc, List.cons_append, List.nil_append] at ih
      have turn : GP.runs_of.b1 [R, .own (acc.map rwD), .v (oi r.1), .v (oi r.1), .v (oi r.2.1), .v (oi r.2.2)] = some (.nx [R, .own (acc.map rwD ++ [rwD r]), .v (oi r.2.1), .v (oi r.1), .v (oi r.2.1), .v (oi r.2.2)]) := by simp [GP.runs_of.b1, z1, e1]
      simp [loopG, turn, ih, runsB, lastB]
    · obtain ⟨a', b', c', ih⟩ := runs_loop R ps (acc ++ [(here, r.1, none), r]) r.2.1 (.v (oi r.1)) (.v (oi r.2.1)) (.v (oi r.2.2)) (by simp; omega)
      refine ⟨a', b', c', ?_⟩
      simp only [List.map_append, List.map_cons, List.map_nil, List.append_assoc, List.cons_append, List.nil_append] at ih
      have turn : GP.runs_of.b1 [R, .own (acc.map rwD), .v (oi here), .v (oi r.1), .v (oi r.2.1), .v (oi r.2.2)] = some (.nx [R, .own (acc.map rwD ++ [rwD (here, r.1, none), rwD r]), .v (oi r.2.1), .v (oi r.1), .v (oi r.2.1), .v (oi r.2.2)]) := by simp [GP.runs_of.b1, z1, z2, e0, e1, hr]
      simp [loopG, turn, ih, runsB, lastB, hr]
theorem runs_eq (ps : List Rw) (h : ps.length ≤ 1000000) : GP.runs_of.f [.lst (ps.map rwD)] = some (.fresh ((runsF ps).map rwD)) := by
  obtain ⟨a, b, c, e⟩ := runs_loop (.v (.lst (ps.map rwD))) ps [] none .no .no .no (by simp; omega)
  have hl := runsB_len ps none
  have z : (runsB none ps).length < 16777216 := by omega
  simp only [List.map_nil, List.nil_append, oi_none] at e
  have fl := flats_rw (runsF ps)
  unfold runsF at fl ⊢
  rw [runsR_eq] at fl ⊢
  unfold GP.runs_of.f runG GP.runs_of.g
  have e0 : D.tup [oi (lastB none ps), .non, .non] = rwD (lastB none ps, none, none) := rfl
  cases hb : lastB none ps with
  | some x =>
    rw [hb] at e e0 fl
    simp at fl e0
    simp [args, e, z, e0, fl]
  | none =>
    rw [hb] at e e0 fl
    cases ps with
    | nil =>
      simp [runsB] at e fl
      simp [args, e, runsB, rwD]
    | cons r t =>
      simp at fl
      simp only [List.map_cons, oi_none] at e
      simp [args, e, fl]
noncomputable def befo (p : Int) : Option Int → Bool
  | some a => decide (p < a)
  | none => false
noncomputable def inso (p : Int) : Option Int → Bool
  | some b => decide (p < b)
  | none => true
noncomputable def lookF (p : Int) (here : Option Int) : List Rw → Rw
  | [] => (here, none, none)
  | r :: t => if befo p r.1 = true then (here, r.1, none)
    else if inso p r.2.1 = true then r else lookF p r.2.1 t
theorem look_runs (p : Int) : ∀ (ps : List Rw) (here : Option Int) (b : Bool), Ord ps → (∀ r, ps.head? = some r → r.1 = none → here = none) → (∀ h, here = some h → h ≤ p) → (here ≠ none ∨ b = true) → (runsR here b ps).find? (fun r => has3 r p) = some (lookF p here ps)
  | [], here, b, _, _, h, hb => by
    have : has3 (here, none, none) p = true := by
      rw [has3_iff]
      exact ⟨h, fun b e => by cases e⟩
    simp [runsR, hb, lookF, this]
  | r :: t, here, b, o, hN, h, hb => by
    obtain ⟨lo, bh, w⟩ := r
    have pw := List.pairwise_cons.mp o.pw
    rw [runsR, lookF]
    simp only
    by_cases h1 : befo p lo = true
    · rw [if_pos h1]
      cases lo with
      | none => simp [befo] at h1
      | some a =>
        have hp : p < a := by simpa [befo] using h1
        have hne : (some a : Option Int) ≠ here := fun e => by
          have := h a e.symm
          omega
        have hg : has3 (here, some a, none) p = true := by
          rw [has3_iff]
          exact ⟨h, fun b e => by cases e; exact hp⟩
        rw [if_pos hne]
        simp [hg]
    · rw [if_neg h1]
      have hlo : ∀ a, lo = some a → a ≤ p := fun a e => by
        subst e
        have : ¬ p < a := by simpa [befo] using h1
        omega
      have skip : (if lo ≠ here then [((here, lo, none) : Rw)] else []).find? (fun r => has3 r p) = none := by
        split
        · rename_i hne
          have : has3 (here, lo, none) p = false := by
            rw [Bool.eq_false_iff]
            intro z
            rw [has3_iff] at z
            cases lo with
            | none =>
              cases here with
              | none => exact hne rfl
              | some x =>
                have := hN _ rfl rfl
                cases this
            | some a =>
              have := z.2 a rfl
              have := hlo a rfl
              omega
          simp [this]
        · rfl
      rw [List.find?_append, skip]
      simp only [Option.none_or]
      by_cases h2 : inso p bh = true
      · rw [if_pos h2]
        have : has3 (lo, bh, w) p = true := by
          rw [has3_iff]
          refine ⟨hlo, fun b e => ?_⟩
          simp only at e
          subst e
          simpa [inso] using h2
        rw [List.find?_cons_of_pos (by exact this)]
      · rw [if_neg h2]
        cases bh with
        | none => simp [inso] at h2
        | some b =>
          have hp : b ≤ p := by
            have : ¬ p < b := by simpa [inso] using h2
            omega
          have : has3 (lo, some b, w) p = false := by
            rw [Bool.eq_false_iff]
            intro z
            rw [has3_iff] at z
            have := z.2 b rfl
            omega
          rw [List.find?_cons_of_neg (by simpa using this)]
          exact look_runs p t (some b) false ⟨fun z hz => o.ok z (List.mem_cons_of_mem _ hz), pw.2⟩ (fun r' e e' => by
            obtain ⟨x, y, _, hy, _⟩ := pw.1 r' (List.mem_of_mem_head? e)
            rw [e'] at hy
            cases hy) (fun x e => by cases e; exact hp) (.inl (by simp))
theorem look_all {ps : List Rw} (o : Ord ps) (p : Int) : (runsF ps).find? (fun r => has3 r p) = some (lookF p none ps) := look_runs p ps none true o (fun _ _ _ => rfl) (fun h e => by cases e) (.inr rfl)
theorem look_val (p : Int) : ∀ (ps : List Rw) (here : Option Int), Ord ps → (lookF p here ps).2.2 = (match ps.find? (fun r => has3 r p) with | some r => r.2.2 | none => none)
  | [], here, _ => rfl
  | r :: t, here, o => by
    have pw := List.pairwise_cons.mp o.pw
    obtain ⟨lo, bh, w⟩ := r
    rw [lookF]
    simp only
    by_cases h1 : befo p lo = true
    · rw [if_pos h1]
      cases lo with
      | none => simp [befo] at h1
      | some a =>
        have hp : p < a := by simpa [befo] using h1
        have : ((some a, bh, w) :: t).find? (fun r => has3 r p) = none := by
          rw [List.find?_eq_none]
          intro z hz hh
          rw [has3_iff] at hh
          rcases List.mem_cons.mp hz with rfl | hz
          · have := hh.1 a rfl
            omega
          · obtain ⟨x, y, hx, hy, hxy⟩ := pw.1 z hz
            have := hh.1 y hy
            have := o.ok _ List.mem_cons_self a x rfl hx
            omega
        rw [this]
    · rw [if_neg h1]
      have hlo : ∀ a, lo = some a → a ≤ p := fun a e => by
        subst e
        have : ¬ p < a := by simpa [befo] using h1
        omega
      by_cases h2 : inso p bh = true
      · rw [if_pos h2]
        have : has3 (lo, bh, w) p = true := by
          rw [has3_iff]
          refine ⟨hlo, fun b e => ?_⟩
          simp only at e
          subst e
          simpa [inso] using h2
        rw [List.find?_cons_of_pos (by exact this)]
      · rw [if_neg h2]
        have : has3 (lo, bh, w) p = false := by
          rw [Bool.eq_false_iff]
          intro z
          rw [has3_iff] at z
          cases bh with
          | none => simp [inso] at h2
          | some b =>
            have := z.2 b rfl
            have : ¬ p < b := by simpa [inso] using h2
            omega
        rw [List.find?_cons_of_neg (by simpa using this)]
        exact look_val p t bh ⟨fun z hz => o.ok z (List.mem_cons_of_mem _ hz), pw.2⟩
theorem runsF_len (ps : List Rw) : (runsF ps).length ≤ 2 * ps.length + 1 := by
  unfold runsF
  rw [runsR_eq]
  have := runsB_len ps none
  split <;> simp <;> omega
end FL
namespace FL
open PySem PySem.Spec PyProof.Rows L2
open Builtin.Int (intBits)
end FL
namespace FL
open PySem PySem.Spec PyProof.Rows L2
end FL
namespace FL
open PySem PySem.Spec PyProof.Rows L2
theorem compL_filt {α : Type} {ga : D → List Sl → Option (List Sl)} {tt : FT} {fe : FE} {s0 : List Sl} (f : α → D) (p : α → Bool) (h : α → D) : ∀ (xs : List α), (∀ x ∈ xs, ∃ ds1, ga (f x) s0 = some ds1 ∧ tt ds1 = some (p x) ∧ (p x = true → fe ds1 = some (h x))) → compL ga tt fe s0 (xs.map f) = some ((xs.filter p).map h)
  | [], _ => rfl
  | x :: xs, H => by
    obtain ⟨ds1, e1, e2, e3⟩ := H x List.mem_cons_self
    have ih := compL_filt (ga := ga) (tt := tt) (fe := fe) (s0 := s0) f p h xs fun y hy => H y (List.mem_cons_of_mem _ hy)
    cases hp : p x with
    | true => simp [compL, e1, e2, e3 hp, ih, hp]
    | false => simp [compL, e1, e2, ih, hp]
theorem flats_spn (l : List Spn) : flats (l.map spD) = true := by
  induction l with
  | nil => simp
  | cons a r ih => simp [ih, spD]
end FL
namespace FL
open PySem PySem.Spec PyProof.Rows L2
noncomputable def Til : Option Int → List Rw → Prop
  | _, [] => False
  | here, r :: rs => r.1 = here ∧ (∀ h x, here = some h → r.2.1 = some x → h < x) ∧ (r.2.1 = none → rs = []) ∧ ∀ x, r.2.1 = some x → Til (some x) rs
theorem til_runs : ∀ (ps : List Rw) (here : Option Int) (b : Bool), Ord ps → (∀ r, ps.head? = some r → (r.1 = none → here = none) ∧ ∀ h l, here = some h → r.1 = some l → h ≤ l) → (here ≠ none ∨ b = true) → Til here (runsR here b ps)
  | [], here, b, _, _, hb => by
    unfold runsR
    rw [if_pos hb]
    exact ⟨rfl, (fun _ _ _ e => nomatch e), fun _ => rfl, (fun _ e => nomatch e)⟩
  | r :: t, here, b, o, hh, hb => by
    obtain ⟨hn, hs⟩ := hh r rfl
    have pw := List.pairwise_cons.mp o.pw
    have o' : Ord t := ⟨fun z hz => o.ok z (List.mem_cons_of_mem _ hz), pw.2⟩
    have ok := o.ok r List.mem_cons_self
    have core : Til r.1 (r :: runsR r.2.1 false t) := by
      refine ⟨rfl, fun h x e1 e2 => ok h x e1 e2, fun e => ?_, fun x e => ?_⟩
      · cases t with
        | nil => rw [e]; simp [runsR]
        | cons r' t' =>
          obtain ⟨x, y, h1, _⟩ := pw.1 r' List.mem_cons_self
          rw [e] at h1
          cases h1
      · rw [e]
        refine til_runs t (some x) false o' (fun r' hr' => ?_) (.inl (by simp))
        obtain ⟨x', y, h1, h2, h3⟩ := pw.1 r' (List.mem_of_mem_head? hr')
        rw [e] at h1
        cases h1
        rw [h2]
        exact ⟨(fun z => nomatch z), fun h l e1 e2 => by cases e1; cases e2; exact h3⟩
    unfold runsR
    by_cases he : r.1 = here
    · simp only [ne_eq, he, not_true_eq_false, if_false, List.nil_append]
      rw [← he]
      exact core
    · simp only [ne_eq, he, not_false_eq_true, if_true, List.cons_append, List.nil_append]
      refine ⟨rfl, fun h x e1 e2 => ?_, fun e => ?_, fun x e => ?_⟩
      · have := hs h x e1 e2
        have : x ≠ h := fun z => he (by rw [show r.1 = some x from e2, e1, z])
        omega
      · have e' : r.1 = none := e
        exact (he (by rw [e', hn e'])).elim
      · have e' : r.1 = some x := e
        rw [e'] at core
        exact core
theorem til_runsF {ps : List Rw} (o : Ord ps) : Til none (runsF ps) := til_runs ps none true o (fun r _ => ⟨fun _ => rfl, (fun h l e1 => nomatch e1)⟩) (.inr rfl)
noncomputable def befB (p : Int) (r : Rw) : Bool := match r.2.1 with | none => true | some x => decide (p < x)
theorem til_find (p : Int) : ∀ (rs : List Rw) (here : Option Int), Til here rs → (∀ h, here = some h → h ≤ p) → rs.find? (fun r => has3 r p) = rs.find? (befB p)
  | [], _, h, _ => h.elim
  | r :: rs, here, h, hp => by
    obtain ⟨h1, h2, h3, h4⟩ := h
    have e : has3 r p = befB p r := by
      unfold has3 hasS befB
      rw [h1]
      cases hr : here with
      | none => cases r.2.1 <;> simp
      | some x => have := hp x hr; cases r.2.1 <;> simp [this]
    rw [List.find?_cons, List.find?_cons, e]
    cases hb : befB p r with
    | true => rfl
    | false =>
      simp only
      cases hx : r.2.1 with
      | none => unfold befB at hb; rw [hx] at hb; cases hb
      | some x =>
        unfold befB at hb
        rw [hx] at hb
        simp at hb
        exact til_find p rs (some x) (h4 x hx) fun h e => by cases e; exact hb
noncomputable def atB (p : Int) (rs : List Rw) : Option Int := match rs.find? (befB p) with | some r => r.2.2 | none => none
theorem atB_val {ps : List Rw} (o : Ord ps) (p : Int) : atB p (runsF ps) = valL ps p := by
  unfold atB
  rw [← til_find p _ none (til_runsF o) (fun h e => nomatch e), look_all o p]
  simp only
  rw [look_val p ps none o, valL_find o]
theorem atB_hd {p : Int} {r : Rw} {rs : List Rw} (h : befB p r = true) : atB p (r :: rs) = r.2.2 := by
  unfold atB
  rw [List.find?_cons, h]
theorem atB_tl {p : Int} {r : Rw} {rs : List Rw} (h : befB p r = false) : atB p (r :: rs) = atB p rs := by
  unfold atB
  rw [List.find?_cons, h]
end FL
namespace FL
open PySem PySem.Spec PyProof.Rows L2
theorem ix_rw {A : List Rw} {i : Nat} {a : Rw} (h : A[i]? = some a) : ixD (.lst (A.map rwD)) (.int (i : Int)) = some (rwD a) := by
  have hi := (List.getElem?_eq_some_iff.mp h).1
  rw [ixL_pos _ (by omega) (by simp; omega), Int.toNat_natCast, List.getElem?_map, h]
  rfl
theorem map_tail {r : Rw} {t : List Rw} (m : MapF (r :: t)) : MapF t :=
  ⟨⟨fun z hz => m.ord.ok z (List.mem_cons_of_mem _ hz), (List.pairwise_cons.mp m.ord.pw).2⟩, fun z hz => m.val z (List.mem_cons_of_mem _ hz), fun i a b h1 h2 => m.adj (i + 1) a b (by simpa using h1) (by simpa using h2)⟩
theorem later {r z : Rw} {t : List Rw} (o : Ord (r :: t)) (hz : z ∈ t) {p : Int} (hp : has3 z p = true) : ∃ x y, r.2.1 = some x ∧ z.1 = some y ∧ x ≤ y ∧ y ≤ p := by
  obtain ⟨x, y, h1, h2, h3⟩ := (List.pairwise_cons.mp o.pw).1 z hz
  refine ⟨x, y, h1, h2, h3, ?_⟩
  unfold has3 hasS at hp
  simp only [h2, Bool.and_eq_true, decide_eq_true_eq] at hp
  exact hp.1
end FL
namespace FL
open PySem PySem.Spec PyProof.Rows L2
end FL
namespace FL
open PySem PySem.Spec PyProof.Rows L2
end FL
namespace FL
open PySem PySem.Spec PyProof.Rows L2
open Builtin.Int (intBits)
structure DrawM (rows : List Rw) (s : Int) : Prop where
  map : MapF rows
  fin : ∀ r ∈ rows, ∃ lo bh, r.1 = some lo ∧ r.2.1 = some bh ∧ bh ≤ s
  last : ∀ r, rows.getLast? = some r → r.2.1 = some s
theorem DrawM.nil (s : Int) : DrawM [] s := ⟨MapF.nil, (fun _ h => nomatch h), fun r h => by simp at h⟩
theorem DrawM.snoc {rows : List Rw} {s lo bh v : Int} (h : DrawM rows s) (h1 : s ≤ lo) (h2 : lo < bh) (h3 : ∀ r, rows.getLast? = some r → lo = s → r.2.2 ≠ some v) : DrawM (rows ++ [(some lo, some bh, some v)]) bh := by
  have d : Drawn rows s := ⟨h.map.ord, h.fin⟩
  have d2 := d.snoc (v := some v) h1 h2
  refine ⟨⟨d2.ord, fun r hr => ?_, fun i a b e1 e2 => ?_⟩, d2.fin, fun r hr => ?_⟩
  · rcases List.mem_append.mp hr with hr | hr
    · exact h.map.val r hr
    · have : r = (some lo, some bh, some v) := by simpa using hr
      subst this
      simp
  · by_cases hi : i + 1 < rows.length
    · rw [List.getElem?_append_left (by omega)] at e1
      rw [List.getElem?_append_left hi] at e2
      exact h.map.adj i a b e1 e2
    · have l2 := (List.getElem?_eq_some_iff.mp e2).1
      simp only [List.length_append, List.length_cons, List.length_nil] at l2
      have hi2 : i + 1 = rows.length := by omega
      rw [List.getElem?_append_left (by omega)] at e1
      rw [List.getElem?_append_right (by omega), hi2] at e2
      simp at e2
      subst e2
      have hl : rows.getLast? = some a := by
        rw [List.getLast?_eq_getElem?, ← e1]
        congr 1
        omega
      have := h.last a hl
      rintro ⟨q1, q2⟩
      rw [this] at q1
      simp at q1
      exact h3 a hl q1.symm q2
  · simp at hr
    subst hr
    rfl
theorem map_first {r : Rw} {t : List Rw} (m : MapF (r :: t)) : MapF ((none, r.2) :: t) := by
  refine ⟨ord_first m.ord, fun z hz => ?_, fun i a b e1 e2 => ?_⟩
  · rcases List.mem_cons.mp hz with rfl | hz
    · exact m.val r List.mem_cons_self
    · exact m.val z (List.mem_cons_of_mem _ hz)
  · cases i with
    | zero =>
      simp at e1
      subst e1
      exact m.adj 0 r b rfl (by simpa using e2)
    | succ i => exact m.adj (i + 1) a b (by simpa using e1) (by simpa using e2)
theorem map_last {r : Rw} {t : List Rw} (m : MapF (t ++ [r])) : MapF (t ++ [(r.1, none, r.2.2)]) := by
  refine ⟨ord_last m.ord, fun z hz => ?_, fun i a b e1 e2 => ?_⟩
  · rcases List.mem_append.mp hz with hz | hz
    · exact m.val z (List.mem_append_left _ hz)
    · have : z = (r.1, none, r.2.2) := by simpa using hz
      subst this
      exact m.val r (by simp)
  · have l2 := (List.getElem?_eq_some_iff.mp e2).1
    simp only [List.length_append, List.length_cons, List.length_nil] at l2
    rw [List.getElem?_append_left (by omega)] at e1
    by_cases hi : i + 1 < t.length
    · rw [List.getElem?_append_left hi] at e2
      exact m.adj i a b (by rw [List.getElem?_append_left (by omega)]; exact e1) (by rw [List.getElem?_append_left hi]; exact e2)
    · have hi2 : i + 1 = t.length := by omega
      rw [List.getElem?_append_right (by omega), hi2] at e2
      simp at e2
      subst e2
      exact m.adj i a r (by rw [List.getElem?_append_left (by omega)]; exact e1) (by rw [List.getElem?_append_right (by omega), hi2]; simp)
end FL
namespace FL
open PySem PySem.Spec PyProof.Rows L2
open Builtin.Int (intBits)
theorem loop_range {ga : D → List Sl → Option (List Sl)} {body : FS} (P : Nat → List Sl → Prop) (N : Nat) (H : ∀ k, k < N → ∀ ds, P k ds → ∃ ds1 ds2, ga (.int (k : Int)) ds = some ds1 ∧ body ds1 = some (.nx ds2) ∧ P (k + 1) ds2) :
    ∀ n k ds, k + n = N → P k ds → ∃ ds', loopG ga body ((List.range' k n).map fun (j : Nat) => D.int (0 + (j : Int))) ds = some (.nx ds') ∧ P N ds'
  | 0, k, ds, h, hp => ⟨ds, rfl, by have : k = N := by omega
                                    subst this; exact hp⟩
  | n + 1, k, ds, h, hp => by
    obtain ⟨ds1, ds2, e1, e2, h2⟩ := H k (by omega) ds hp
    obtain ⟨ds', e, h'⟩ := loop_range P N H n (k + 1) ds2 (by omega) h2
    refine ⟨ds', ?_, h'⟩
    rw [List.range'_succ, List.map_cons, loopG]
    have : (0 + (k : Int)) = (k : Int) := by omega
    rw [this, e1, Option.bind_some, e2, Option.bind_some]
    exact e
@[simp] theorem notD_rw (r : Rw) : notD (rwD r) .non = some (.bl true) := rfl
end FL
section
open PySem PyProof.Rows L2 FL
end
namespace FL
open PySem PySem.Spec PyProof.Rows L2
open Builtin.Int (intBits)
end FL
namespace FL
open PySem PySem.Spec PyProof.Rows L2
open Builtin.Int (intBits)
@[simp] theorem sltW_eq (f : FE) (lo hi : List Sl → Option (Option Int)) (ds : List Sl) : sltW f lo hi ds = (f ds).bind fun d => (lo ds).bind fun a => (hi ds).bind fun b => match d with
  | .tup l => some (.tup (cutD l a b))
  | _ => none := rfl
end FL
namespace FL
open PySem PySem.Spec PyProof.Rows L2
open Builtin.Int (intBits)
theorem cells_cut (ns : List Int) (hb : ∀ c ∈ ns, intBits c ≤ 1048576) (a b : Nat) : ∃ cs : List Int, cs.length ≤ ns.length ∧ cs.length ≤ b - a ∧ (∀ c ∈ cs, intBits c ≤ 1048576) ∧ cutD (ns.map D.int) (some (a : Int)) (some (b : Int)) = cs.map D.int := by
  refine ⟨(ns.drop (min a ns.length)).take (min b ns.length - min a ns.length), by simp; omega, by simp; omega, fun c hc => hb c (List.mem_of_mem_drop (List.mem_of_mem_take hc)), ?_⟩
  have e1 : HT.sIx (ns.map D.int).length 0 (some (a : Int)) = min a ns.length := by simp [HT.sIx]; omega
  have e2 : HT.sIx (ns.map D.int).length (ns.map D.int).length (some (b : Int)) = min b ns.length := by simp [HT.sIx]; omega
  unfold cutD
  rw [e1, e2, List.map_take, List.map_drop]
end FL
namespace FL
open PySem PySem.Spec PyProof.Rows L2
theorem til_lowJ : ∀ {rs : List Rw} {x : Int}, Til (some x) rs → ∀ r ∈ rs, ∃ y, r.1 = some y ∧ x ≤ y
  | [], _, h, _, _ => h.elim
  | r0 :: rs, x, ⟨h1, h2, h3, h4⟩, r, hr => by
    rcases List.mem_cons.mp hr with rfl | hr
    · exact ⟨x, h1, Int.le_refl _⟩
    · cases e : r0.2.1 with
      | none => rw [h3 e] at hr; cases hr
      | some z =>
        obtain ⟨y, e1, e2⟩ := til_lowJ (h4 z e) r hr
        have := h2 x z rfl e
        exact ⟨y, e1, by omega⟩
theorem til_ord : ∀ {rs : List Rw} {here : Option Int}, Til here rs → Ord rs
  | [], _, h => h.elim
  | r :: rs, here, ⟨h1, h2, h3, h4⟩ => by
    have ok : ok3 r := fun a b e1 e2 => h2 a b (h1.symm.trans e1) e2
    cases e : r.2.1 with
    | none =>
      rw [h3 e]
      exact ⟨fun z hz => by rw [List.mem_singleton.mp hz]; exact ok, List.pairwise_singleton _ _⟩
    | some x =>
      have o := til_ord (h4 x e)
      refine ⟨fun z hz => (List.mem_cons.mp hz).elim (fun e => e ▸ ok) (o.ok z), List.pairwise_cons.mpr ⟨fun z hz => ?_, o.pw⟩⟩
      obtain ⟨y, e1, e2⟩ := til_lowJ (h4 x e) z hz
      exact ⟨x, y, e, e1, e2⟩
theorem til_ex (p : Int) : ∀ {rs : List Rw} {here : Option Int}, Til here rs → ∃ r, rs.find? (befB p) = some r
  | [], _, h => h.elim
  | r :: rs, here, ⟨h1, h2, h3, h4⟩ => by
    rw [List.find?_cons]
    cases hb : befB p r with
    | true => exact ⟨r, rfl⟩
    | false =>
      cases e : r.2.1 with
      | none => unfold befB at hb; rw [e] at hb; cases hb
      | some x => exact til_ex p (h4 x e)
theorem til_valJ {rs : List Rw} (h : Til none rs) (p : Int) : valL rs p = atB p rs := by
  rw [valL_find (til_ord h), til_find p rs none h (fun _ e => nomatch e)]
  rfl
noncomputable def mapR (W : Option Int → Option Int) (rs : List Rw) : List Rw := rs.map fun r => (r.1, r.2.1, W r.2.2)
theorem til_map (W : Option Int → Option Int) : ∀ {rs : List Rw} {here : Option Int}, Til here rs → Til here (mapR W rs)
  | [], _, h => h
  | r :: rs, here, ⟨h1, h2, h3, h4⟩ => ⟨h1, h2, fun e => by rw [h3 e]; rfl, fun x e => til_map W (h4 x e)⟩
theorem atB_map (W : Option Int → Option Int) {rs : List Rw} {p : Int} (h : ∃ r, rs.find? (befB p) = some r) : atB p (mapR W rs) = W (atB p rs) := by
  obtain ⟨r, hr⟩ := h
  have e : (mapR W rs).find? (befB p) = some (r.1, r.2.1, W r.2.2) := by
    unfold mapR
    rw [List.find?_map]
    have : (befB p ∘ fun r : Rw => ((r.1, r.2.1, W r.2.2) : Rw)) = befB p := rfl
    rw [this, hr]
    rfl
  unfold atB
  rw [hr, e]
noncomputable def turnF (W : Option Int → Option Int) (ps : List Rw) : List Rw := knitF (mapR W (runsF ps))
theorem turn_mapF (W : Option Int → Option Int) {ps : List Rw} (o : Ord ps) : MapF (turnF W ps) := knitF_map (til_ord (til_map W (til_runsF o)))
theorem turn_at (W : Option Int → Option Int) {ps : List Rw} (o : Ord ps) (p : Int) : valL (turnF W ps) p = W (valL ps p) := by
  have t := til_map W (til_runsF o)
  rw [show valL (turnF W ps) p = valL (mapR W (runsF ps)) p from valL_same (turn_mapF W o).ord (til_ord t) fun v => knitF_tel (til_ord t) p v, til_valJ t, atB_map W (til_ex p (til_runsF o)), atB_val o]
theorem turn_len (W : Option Int → Option Int) (ps : List Rw) : (turnF W ps).length ≤ 2 * ps.length + 1 := Nat.le_trans (knitF_len _) (by unfold mapR; rw [List.length_map]; exact runsF_len ps)
theorem noclo_oi (o : Option Int) : noclo (oi o) = true := by cases o <;> simp [noclo]
theorem noclos_rw : ∀ l : List Rw, noclos (l.map rwD) = true
  | [] => rfl
  | r :: l => by simp [noclos, noclo, rwD, noclo_oi, noclos_rw l]
theorem turned_comp {Φ : Fun2} {c : D} {W : Option Int → Option Int} (hW : ∀ v, Φ c [oi v] = some (.val (oi (W v)))) (s0 : List Sl) (x y z : Sl) (hs : s0 = [x, y, z, .v c]) : ∀ rs : List Rw,
    compL (tupG 3 (tgCons (nameG 0) (tgCons (nameG 1) (tgCons (nameG 2) tgNil)))) (fun _ => some true) (mkT (sized (consA (getV 0) (consA (getV 1) (consA (callW Φ 3 (consA (getW 2) nilA)) nilA))))) s0 (rs.map rwD) = some ((mapR W rs).map rwD)
  | [] => by simp [compL, mapR]
  | r :: rs => by
    have ih := turned_comp hW s0 x y z hs rs
    subst hs
    have hw := hW r.2.2
    rw [List.map_cons, compL]
    have e1 : tupG 3 (tgCons (nameG 0) (tgCons (nameG 1) (tgCons (nameG 2) tgNil))) (rwD r) [x, y, z, .v c] = some [.v (oi r.1), .v (oi r.2.1), .v (oi r.2.2), .v c] := by
      simp [rwD]
    have e2 : mkT (sized (consA (getV 0) (consA (getV 1) (consA (callW Φ 3 (consA (getW 2) nilA)) nilA)))) [.v (oi r.1), .v (oi r.2.1), .v (oi r.2.2), .v c] = some (rwD (r.1, r.2.1, W r.2.2)) := by
      simp [callW, hw, rwD, retV]
    rw [e1]
    simp only [Option.bind_some, if_true, e2, ih, Option.map_some]
    rfl
theorem turned_eq {Φ : Fun2} {c : D} {W : Option Int → Option Int} (hW : ∀ v, Φ c [oi v] = some (.val (oi (W v)))) {ps : List Rw} (hl : ps.length ≤ 100000) : GP.turned.f Φ [.lst (ps.map rwD), c] = some (.fresh ((turnF W ps).map rwD)) := by
  have h1 := runs_eq ps (by omega)
  have hln := runsF_len ps
  have h2 := knit_eq (mapR W (runsF ps)) (by unfold mapR; rw [List.length_map]; omega)
  have fl := flats_rw (turnF W ps)
  have comp : compG (viaA (callV 1 GP.runs_of.f (consA (getW 0) nilA)) asLT) [none, none, none, some 1] (tupG 3 (tgCons (nameG 0) (tgCons (nameG 1) (tgCons (nameG 2) tgNil)))) (fun _ => some true) (mkT (sized (consA (getV 0) (consA (getV 1) (consA (callW Φ 3 (consA (getW 2) nilA)) nilA))))) [.v (.lst (ps.map rwD)), .v c] = some ((mapR W (runsF ps)).map rwD) := by
    refine compG_ok (items := (runsF ps).map rwD) (by simp [h1, retV]) (by simp; omega) ?_
    exact turned_comp hW _ .no .no .no rfl _
  unfold turnF at fl ⊢
  generalize knitF (mapR W (runsF ps)) = T at *
  generalize (mapR W (runsF ps)).map rwD = M at *
  unfold GP.turned.f runG GP.turned.g
  simp [args, comp, h2, fl]
theorem turned_nc {Φ : Fun2} {c : D} {W : Option Int → Option Int} (hW : ∀ v, Φ c [oi v] = some (.val (oi (W v)))) {ps : List Rw} (hl : ps.length ≤ 100000) : ncF (GP.turned.f Φ) [.lst (ps.map rwD), c] = some (.fresh ((turnF W ps).map rwD)) := by
  unfold ncF
  rw [turned_eq hW hl]
  simp [ncR, noclos_rw]
end FL
namespace FL
open PySem PySem.Spec PyProof.Rows L2
abbrev Ch := Int × Option Int
def Per (g : Int → Option Int) (T : Int) : Prop := ∀ p, g (p + T) = g p
theorem Per.nat {g : Int → Option Int} {T : Int} (h : Per g T) (p : Int) : ∀ j : Nat, g (p + (j : Int) * T) = g p
  | 0 => by simp
  | j + 1 => by
    have e : p + ((j + 1 : Nat) : Int) * T = (p + (j : Int) * T) + T := by rw [Int.natCast_add, Int.add_mul]; simp; omega
    rw [e, h, h.nat p j]
theorem Per.int {g : Int → Option Int} {T : Int} (h : Per g T) (p j : Int) : g (p + j * T) = g p := by
  by_cases hj : 0 ≤ j
  · obtain ⟨n, rfl⟩ := Int.eq_ofNat_of_zero_le hj
    exact h.nat p n
  · obtain ⟨n, hn⟩ := Int.eq_ofNat_of_zero_le (show 0 ≤ -j by omega)
    have e := h.nat (p + j * T) n
    rw [← hn, Int.neg_mul] at e
    rw [← e]
    congr 1
    omega
section
variable {g : Int → Option Int} {T : Int} {C : List Ch}
end
end FL
namespace FL
open PySem PySem.Spec PyProof.Rows L2
noncomputable def AdjV : List Rw → Prop
  | r :: s :: t => r.2.2 ≠ s.2.2 ∧ AdjV (s :: t)
  | _ => True
theorem AdjV.tail {r : Rw} {t : List Rw} (h : AdjV (r :: t)) : AdjV t := by
  cases t with
  | nil => trivial
  | cons s t => exact h.2
theorem runs_adj : ∀ (ps : List Rw) (here : Option Int) (b : Bool), MapF ps → AdjV (runsR here b ps)
  | [], here, b, _ => by unfold runsR; split <;> trivial
  | r :: t, here, b, m => by
    have hv := m.val r List.mem_cons_self
    have ih := runs_adj t r.2.1 false (map_tail m)
    have core : AdjV (r :: runsR r.2.1 false t) := by
      cases t with
      | nil =>
        unfold runsR
        split
        · exact ⟨hv, trivial⟩
        · trivial
      | cons s t' =>
        unfold runsR at ih ⊢
        by_cases e : s.1 = r.2.1
        · simp only [ne_eq, e, not_true_eq_false, if_false, List.nil_append] at ih ⊢
          exact ⟨fun z => m.adj 0 r s rfl rfl ⟨e.symm, z⟩, ih⟩
        · simp only [ne_eq, e, not_false_eq_true, if_true, List.cons_append, List.nil_append] at ih ⊢
          exact ⟨hv, ih⟩
    unfold runsR
    by_cases e : r.1 = here
    · simp only [ne_eq, e, not_true_eq_false, if_false, List.nil_append]
      exact core
    · simp only [ne_eq, e, not_false_eq_true, if_true, List.cons_append, List.nil_append]
      exact ⟨fun z => hv z.symm, core⟩
section
variable {T : Int}
end
theorem til_low {p : Int} : ∀ {rs : List Rw} {x : Int}, Til (some x) rs → ∀ {r : Rw}, r ∈ rs → has3 r p = true → x ≤ p
  | [], _, h, _, _, _ => h.elim
  | q :: rs, x, ⟨h1, h2, h3, h4⟩, r, hr, hp => by
    rcases List.mem_cons.mp hr with rfl | hr
    · exact ((has3_iff r p).mp hp).1 x h1
    · cases hq : q.2.1 with
      | none => rw [h3 hq] at hr; cases hr
      | some y =>
        have a := til_low (h4 y hq) hr hp
        have b := h2 x y rfl hq
        omega
theorem til_val {p : Int} : ∀ {rs : List Rw} {here : Option Int}, Til here rs → ∀ {r : Rw}, r ∈ rs → has3 r p = true → atB p rs = r.2.2
  | [], _, h, _, _, _ => h.elim
  | q :: rs, here, ⟨h1, h2, h3, h4⟩, r, hr, hp => by
    rcases List.mem_cons.mp hr with rfl | hr
    · refine atB_hd ?_
      have := ((has3_iff r p).mp hp).2
      unfold befB
      cases hx : r.2.1 with
      | none => rfl
      | some x => simpa using this x hx
    · cases hq : q.2.1 with
      | none => rw [h3 hq] at hr; cases hr
      | some y =>
        have a := til_low (h4 y hq) hr hp
        rw [atB_tl (by unfold befB; rw [hq]; simp; exact a)]
        exact til_val (h4 y hq) hr hp
end FL
namespace FL
open PySem PySem.Spec PyProof.Rows L2
def LongF (U : Int → Bool) (n p : Int) : Prop := ∀ q, p ≤ q → q < p + n → U q = true
noncomputable def frF (n : Int) : List Spn → List Rw → Option Int × List Spn
  | acc, [] => (none, acc)
  | acc, r :: rs => match r.2.2 with
    | none => frF n (acc ++ [(r.1, r.2.1)]) rs
    | some _ => match r.2.1 with
      | none => (r.1, acc)
      | some x => match r.1 with
        | some a => if n ≤ x - a then (some a, acc) else frF n acc rs
        | none => (none, acc)
noncomputable def foundD (o : Option Int × List Spn) : D := .tup [oi o.1, .lst (o.2.map spD)]
theorem fr_loop {Φ : Fun2} (P S C : Sl) (n : Int) : ∀ (rows : List Rw) (acc : List Spn) (a b c : Sl), (∀ r ∈ rows, ∃ y, r.1 = some y) → acc.length + rows.length < 16777216 →
    (∃ y pp, frF n acc rows = (some y, pp) ∧ loopG (tupG 3 (tgCons (nameG 5) (tgCons (nameG 6) (tgCons (nameG 7) tgNil)))) (GP.first_run.b1 Φ) (rows.map rwD) [P, S, .v (.int n), C, .own (acc.map spD), a, b, c] = some (.rt (.val (foundD (some y, pp))))) ∨
    (∃ pp a' b' c', frF n acc rows = (none, pp) ∧ loopG (tupG 3 (tgCons (nameG 5) (tgCons (nameG 6) (tgCons (nameG 7) tgNil)))) (GP.first_run.b1 Φ) (rows.map rwD) [P, S, .v (.int n), C, .own (acc.map spD), a, b, c] = some (.nx [P, S, .v (.int n), C, .own (pp.map spD), a', b', c']))
  | [], acc, a, b, c, _, _ => .inr ⟨acc, a, b, c, rfl, by simp [loopG]⟩
  | r :: rows, acc, a, b, c, hl, hz => by
    simp only [List.length_cons] at hz
    have hl' : ∀ r ∈ rows, ∃ y, r.1 = some y := fun z hz => hl z (List.mem_cons_of_mem _ hz)
    obtain ⟨y, ey⟩ := hl r List.mem_cons_self
    have st : tupG 3 (tgCons (nameG 5) (tgCons (nameG 6) (tgCons (nameG 7) tgNil))) (rwD r) [P, S, .v (.int n), C, .own (acc.map spD), a, b, c] = some [P, S, .v (.int n), C, .own (acc.map spD), .v (.int y), .v (oi r.2.1), .v (oi r.2.2)] := by simp [ey]
    have fl := flats_spn acc
    cases hv : r.2.2 with
    | none =>
      have turn : GP.first_run.b1 Φ [P, S, .v (.int n), C, .own (acc.map spD), .v (.int y), .v (oi r.2.1), .v .non] = some (.nx [P, S, .v (.int n), C, .own ((acc ++ [(r.1, r.2.1)]).map spD), .v (.int y), .v (oi r.2.1), .v .non]) := by
        have e0 : D.tup [.int y, oi r.2.1] = spD (r.1, r.2.1) := by rw [ey]; rfl
        have hs : acc.length < 16777216 := by omega
        simp [GP.first_run.b1, e0, hs]
      have ih := fr_loop (Φ := Φ) P S C n rows (acc ++ [(r.1, r.2.1)]) (.v (.int y)) (.v (oi r.2.1)) (.v .non) hl' (by simp; omega)
      have e1 : frF n acc (r :: rows) = frF n (acc ++ [(r.1, r.2.1)]) rows := by rw [frF, hv]
      rw [e1, List.map_cons, loopG, st]
      simp only [hv, show oi none = D.non from rfl, Option.bind_some, turn]
      exact ih
    | some v =>
      cases hx : r.2.1 with
      | none =>
        left
        refine ⟨y, acc, by rw [frF, hv, hx]; simp [ey], ?_⟩
        have turn : GP.first_run.b1 Φ [P, S, .v (.int n), C, .own (acc.map spD), .v (.int y), .v .non, .v (.int v)] = some (.rt (.val (foundD (some y, acc)))) := by
          simp [GP.first_run.b1, getO, fl, foundD, retDG, flV]
        rw [List.map_cons, loopG, st]
        simp only [hv, hx, oi, Option.bind_some, turn]
      | some x =>
        by_cases h : n ≤ x - y
        · left
          refine ⟨y, acc, by rw [frF, hv, hx, ey]; simp [h], ?_⟩
          have turn : GP.first_run.b1 Φ [P, S, .v (.int n), C, .own (acc.map spD), .v (.int y), .v (.int x), .v (.int v)] = some (.rt (.val (foundD (some y, acc)))) := by
            simp [GP.first_run.b1, getO, fl, foundD, retDG, flV, h]
          rw [List.map_cons, loopG, st]
          simp only [hv, hx, oi, Option.bind_some, turn]
        · have turn : GP.first_run.b1 Φ [P, S, .v (.int n), C, .own (acc.map spD), .v (.int y), .v (.int x), .v (.int v)] = some (.nx [P, S, .v (.int n), C, .own (acc.map spD), .v (.int y), .v (.int x), .v (.int v)]) := by
            simp [GP.first_run.b1, h]
          have ih := fr_loop (Φ := Φ) P S C n rows acc (.v (.int y)) (.v (.int x)) (.v (.int v)) hl' (by omega)
          have e1 : frF n acc (r :: rows) = frF n acc rows := by rw [frF, hv, hx, ey]; simp [h]
          rw [e1, List.map_cons, loopG, st]
          simp only [hv, hx, oi, Option.bind_some, turn]
          exact ih
theorem part_on {s : Int} {r : Rw} (h : ∀ x, r.2.1 = some x → s < x) (hl : ∀ a, r.1 = some a → a ≤ s) : part1 (some s, none) r = some (some s, r.2.1, r.2.2) := by
  unfold part1 meetS
  have e : lateL r.1 (some s) = some s := by
    cases hr : r.1 with
    | none => rfl
    | some a => have := hl a hr; simp [lateL]; omega
  cases hr : r.2.1 with
  | none => simp [e, earlB, aheadE]
  | some x =>
    have := h x hr
    simp [e, earlB, aheadE, show ¬ x ≤ s by omega]
theorem part_off {s x : Int} {r : Rw} (h : r.2.1 = some x) (hx : x ≤ s) : part1 (some s, none) r = none := by
  unfold part1 meetS
  rw [h]
  cases hr : r.1 with
  | none => simp [earlB, lateL, aheadE, hx]
  | some a => simp [earlB, lateL, aheadE, show x ≤ max a s by omega]
theorem part_keep {s a : Int} {r : Rw} (ha : r.1 = some a) (h : s ≤ a) (hx : ∀ x, r.2.1 = some x → a < x) : part1 (some s, none) r = some r := by
  unfold part1 meetS
  obtain ⟨r1, r2, r3⟩ := r
  simp only at ha hx ⊢
  subst ha
  have e : max a s = a := by omega
  cases r2 with
  | none => simp [earlB, lateL, aheadE, e]
  | some x =>
    have := hx x rfl
    simp [earlB, lateL, aheadE, e, show ¬ x ≤ a by omega]
theorem parts_keep {s : Int} : ∀ {rs : List Rw} {a : Int}, Til (some a) rs → s ≤ a → partsF rs (some s, none) = rs
  | [], _, h, _ => h.elim
  | r :: rs, a, ⟨h1, h2, h3, h4⟩, hs => by
    unfold partsF
    rw [List.filterMap_cons_some (part_keep h1 hs fun x e => h2 a x rfl e)]
    cases e : r.2.1 with
    | none => rw [h3 e]; rfl
    | some x =>
      have := h2 a x rfl e
      have ih := parts_keep (s := s) (h4 x e) (by omega)
      unfold partsF at ih
      rw [ih]
theorem parts_from {s : Int} : ∀ {rs : List Rw} {here : Option Int}, Til here rs → (∀ h, here = some h → h ≤ s) → AdjV rs →
    Til (some s) (partsF rs (some s, none)) ∧ AdjV (partsF rs (some s, none)) ∧ ∀ p, s ≤ p → atB p (partsF rs (some s, none)) = atB p rs
  | [], _, h, _, _ => h.elim
  | r :: rs, here, ⟨h1, h2, h3, h4⟩, hh, ha => by
    by_cases hc : ∃ x, r.2.1 = some x ∧ x ≤ s
    · obtain ⟨x, e, hx⟩ := hc
      have ih := parts_from (s := s) (h4 x e) (fun h e => by cases e; exact hx) ha.tail
      have e1 : partsF (r :: rs) (some s, none) = partsF rs (some s, none) := by
        unfold partsF
        rw [List.filterMap_cons_none (part_off e hx)]
      rw [e1]
      refine ⟨ih.1, ih.2.1, fun p hp => ?_⟩
      rw [ih.2.2 p hp, atB_tl (by unfold befB; rw [e]; simp; omega)]
    · have hx : ∀ x, r.2.1 = some x → s < x := fun x e => by
        rcases Int.lt_or_le s x with z | z
        · exact z
        · exact absurd ⟨x, e, z⟩ hc
      have hk : partsF rs (some s, none) = rs := by
        cases e : r.2.1 with
        | none => rw [h3 e]; rfl
        | some x => exact parts_keep (h4 x e) (Int.le_of_lt (hx x e))
      have e1 : partsF (r :: rs) (some s, none) = (some s, r.2.1, r.2.2) :: rs := by
        have hk' := hk
        unfold partsF at hk' ⊢
        rw [List.filterMap_cons_some (part_on hx fun a e => hh a (h1 ▸ e)), hk']
      rw [e1]
      refine ⟨⟨rfl, fun h x e1 e2 => by cases e1; exact hx x e2, h3, h4⟩, ?_, fun p hp => ?_⟩
      · cases rs with
        | nil => trivial
        | cons z t => exact ⟨ha.1, ha.2⟩
      · by_cases hb : befB p r = true
        · rw [atB_hd hb, atB_hd (show befB p (some s, r.2.1, r.2.2) = true from hb)]
        · have hb : befB p r = false := by simpa using hb
          rw [atB_tl hb, atB_tl (show befB p (some s, r.2.1, r.2.2) = false from hb)]
structure FrOk (U : Int → Bool) (n s : Int) (acc : List Spn) (o : Option Int × List Spn) : Prop where
  yes : ∀ y, o.1 = some y → s ≤ y ∧ LongF U n y ∧ (∀ p, s ≤ p → p < y → ¬ LongF U n p) ∧ (y = s → o.2 = acc)
  no : o.1 = none → ∀ p, s ≤ p → ¬ LongF U n p
theorem FrOk.same {U V : Int → Bool} {n s : Int} {a : List Spn} {o : Option Int × List Spn} (h : FrOk U n s a o) (e : ∀ p, s ≤ p → U p = V p) : FrOk V n s a o := by
  have lf : ∀ p, s ≤ p → (LongF U n p ↔ LongF V n p) := fun p hp => ⟨fun h q q1 q2 => by rw [← e q (by omega)]; exact h q q1 q2, fun h q q1 q2 => by rw [e q (by omega)]; exact h q q1 q2⟩
  refine ⟨fun y z => ?_, fun z p hp k => h.no z p hp ((lf p hp).mpr k)⟩
  obtain ⟨a1, a2, a3, a4⟩ := h.yes y z
  exact ⟨a1, (lf y a1).mp a2, fun p p1 p2 k => a3 p p1 p2 ((lf p p1).mpr k), a4⟩
end FL
namespace FL
open PySem PySem.Spec PyProof.Rows L2
open Builtin.Int (intBits)
end FL
namespace FL
open PySem PySem.Spec PyProof.Rows L2
theorem if_not {t : FT} {f g : FS} {ds : List Sl} (h : t ds = some false) : ifG t f g ds = g ds := by simp [h]
end FL
namespace FL
open PySem PySem.Spec PyProof.Rows L2
open Builtin.Int (intBits)
end FL
namespace FL
open PySem PySem.Spec PyProof.Rows L2
open Builtin.Int (intBits)
end FL
namespace FL
open PySem PySem.Spec PyProof.Rows L2
open Builtin.Int (intBits)
end FL
namespace FL
open PySem PySem.Spec PyProof.Rows L2
open Builtin.Int (intBits)
def First (g h : Int → Option Int) (p : Int) : Prop := 0 ≤ p ∧ g p ≠ h p ∧ ∀ q, 0 ≤ q → q < p → g q = h q
theorem First.symm {g h : Int → Option Int} {p : Int} (a : First g h p) : First h g p := ⟨a.1, fun z => a.2.1 z.symm, fun q q0 q1 => (a.2.2 q q0 q1).symm⟩
section
variable {g h : Int → Option Int} {L M : Int} {C D : List Ch}
end
end FL
namespace FL
open PySem PySem.Spec PyProof.Rows L2
open Builtin.Int (intBits)
end FL
namespace FL
open PySem PySem.Spec PyProof.Rows L2
open Builtin.Int (intBits)
section
variable {g h : Int → Option Int} {L M : Int} {C D : List Ch}
end
end FL
namespace FL
open PySem PySem.Spec PyProof.Rows L2
open Builtin.Int (intBits)
noncomputable def hWF (T : Option Int → Bool) : Option Int → Option Int := fun v => if T v = true then some 1 else none
theorem holding_eq {Φ : Fun2} {c : D} {T : Option Int → Bool} (hH : ∀ v, Φ (.clo 4 0 [c]) [oi v] = some (.val (oi (hWF T v)))) {ps : List Rw} (hl : ps.length ≤ 100000) : GP.holding.f Φ [.lst (ps.map rwD), c] = some (.fresh ((turnF (hWF T) ps).map rwD)) := by
  have h := turned_nc (W := hWF T) hH hl
  have fl := flats_rw (turnF (hWF T) ps)
  unfold GP.holding.f runG GP.holding.g
  generalize (turnF (hWF T) ps).map rwD = Q at *
  generalize ps.map rwD = P at *
  simp [args, lamA, capsA, h, retF, fl]
theorem first_run_rows {Φ : Fun2} {c : D} {T : Option Int → Bool} (hH : ∀ v, Φ (.clo 4 0 [c]) [oi v] = some (.val (oi (hWF T v)))) {ps : List Rw} (o : Ord ps) (hl : ps.length ≤ 100000) {n : Int} (hn : 1 ≤ n) (s : Int) :
    ∃ R : List Rw, Til (some s) R ∧ AdjV R ∧ (∀ r ∈ R, r.2.2 = none ∨ r.2.2 = some 1) ∧ (∀ p, s ≤ p → atB p R = hWF T (valL ps p)) ∧ R = partsF (runsF (turnF (hWF T) ps)) (some s, none) ∧ GP.first_run.f Φ [.lst (ps.map rwD), .int s, .int n, c] = some (.val (foundD (frF n [] R))) := by
  have e1 := holding_eq hH hl
  have mQ := turn_mapF (hWF T) o
  have lQ := turn_len (hWF T) ps
  have vQ := turn_at (hWF T) o
  generalize hQ : turnF (hWF T) ps = Q at e1 mQ lQ vQ
  have e2 : GP.runs_of.f [.lst (Q.map rwD)] = some (.fresh ((runsF Q).map rwD)) := runs_eq Q (by omega)
  have lR := runsF_len Q
  have e3 : GP.parts_in.f [.lst ((runsF Q).map rwD), .tup [.int s, .non]] = some (.fresh ((partsF (runsF Q) (some s, none)).map rwD)) := parts_eq (runsF Q) (some s, none) (by omega)
  have lP := parts_len (runsF Q) (some s, none)
  obtain ⟨t1, a1, v1⟩ := parts_from (s := s) (til_runsF mQ.ord) (fun h e => nomatch e) (runs_adj Q none true mQ)
  have vR : ∀ p, s ≤ p → atB p (partsF (runsF Q) (some s, none)) = hWF T (valL ps p) := fun p hp => by rw [v1 p hp, atB_val mQ.ord, vQ]
  clear v1
  generalize hR : partsF (runsF Q) (some s, none) = R at *
  have low := til_lowJ t1
  have hv : ∀ r ∈ R, r.2.2 = none ∨ r.2.2 = some 1 := fun r hr => by
    obtain ⟨y, y1, y2⟩ := low r hr
    have hp : has3 r y = true := (has3_iff r y).mpr ⟨fun a e => by rw [y1] at e; cases e; exact Int.le_refl _, fun b e => (til_ord t1).ok r hr y b y1 e⟩
    have := til_val t1 hr hp
    rw [vR y y2] at this
    rw [← this]
    unfold hWF
    split
    · exact .inr rfl
    · exact .inl rfl
  refine ⟨R, t1, a1, hv, vR, rfl, ?_⟩
  have hn' : ¬ n < 1 := by omega
  have lo : ∀ r ∈ R, ∃ y, r.1 = some y := fun r hr => let ⟨y, y1, _⟩ := low r hr; ⟨y, y1⟩
  have zl : (R.map rwD).length ≤ 16777216 := by rw [List.length_map]; omega
  rcases fr_loop (Φ := Φ) (.v (.lst (ps.map rwD))) (.v (.int s)) (.v c) n R [] .no .no .no lo (by simp; omega) with ⟨y, pp, h1, h2⟩ | ⟨pp, a', b', c', h1, h2⟩
  · rw [h1]
    simp only [List.map_nil] at h2
    refine run_rt ?_
    unfold GP.first_run.g
    generalize R.map rwD = RL at *
    generalize (runsF Q).map rwD = QL at *
    generalize Q.map rwD = PL at *
    generalize ps.map rwD = SL at *
    simp [args, hn', e1, e2, e3, h2, zl]
  · rw [h1]
    simp only [List.map_nil] at h2
    have fl := flats_spn pp
    refine run_rt ?_
    unfold GP.first_run.g
    generalize R.map rwD = RL at *
    generalize (runsF Q).map rwD = QL at *
    generalize Q.map rwD = PL at *
    generalize ps.map rwD = SL at *
    simp [args, hn', e1, e2, e3, h2, zl, flV, getO, fl, retDG, foundD]
end FL
namespace FL
open PySem PySem.Spec PyProof.Rows L2
open Builtin.Int (intBits)
end FL
namespace FL
open PySem PySem.Spec PyProof.Rows L2
open Builtin.Int (intBits)
theorem rows_loop (R : Sl) : ∀ (ps acc : List Rw) (here : Option Int) (a b c : Sl), acc.length + 2 * ps.length < 16777216 → Ord ps → (∀ r, ps.head? = some r → (r.1 = none → here = none) ∧ ∀ h l, here = some h → r.1 = some l → h ≤ l) →
    ∃ a' b' c', loopG (tupG 3 (tgCons (nameG 3) (tgCons (nameG 4) (tgCons (nameG 5) tgNil)))) GL.rows.b1 (ps.map rwD) [R, .own (acc.map rwD), .v (oi here), a, b, c] = some (.nx [R, .own ((acc ++ runsB here ps).map rwD), .v (oi (lastB here ps)), a', b', c'])
  | [], acc, here, a, b, c, _, _, _ => ⟨a, b, c, by simp [runsB, lastB, loopG]⟩
  | r :: ps, acc, here, a, b, c, h, o, hh => by
    simp only [List.length_cons] at h
    have e0 : D.tup [oi here, oi r.1, .non] = rwD (here, r.1, none) := rfl
    have e1 : D.tup [oi r.1, oi r.2.1, oi r.2.2] = rwD r := rfl
    have z1 : acc.length < 16777216 := by omega
    have z2 : acc.length + 1 < 16777216 := by omega
    obtain ⟨hn, hs⟩ := hh r rfl
    have pw := List.pairwise_cons.mp o.pw
    have o' : Ord ps := ⟨fun z hz => o.ok z (List.mem_cons_of_mem _ hz), pw.2⟩
    have nx : ∀ r', ps.head? = some r' → (r'.1 = none → r.2.1 = none) ∧ ∀ h l, r.2.1 = some h → r'.1 = some l → h ≤ l := by
      intro r' hr'
      obtain ⟨x, y, h1, h2, h3⟩ := pw.1 r' (List.mem_of_mem_head? hr')
      rw [h1, h2]
      exact ⟨(fun z => nomatch z), fun h l e1 e2 => by cases e1; cases e2; exact h3⟩
    have tst : ∀ a4 a5 : Sl, (andT (testB (bin2 notD (getW 3) (konst .non))) (orT (testB (bin2 isD (getW 2) (konst .non))) (testB (bin2 ltD (getW 2) (getW 3))))) [R, .own (acc.map rwD), .v (oi here), .v (oi r.1), a4, a5] = some (decide (r.1 ≠ here)) := by
      intro a4 a5
      cases h1 : r.1 with
      | none => rw [hn h1]; simp
      | some l =>
        cases h2 : here with
        | none => simp
        | some h =>
          have := hs h l h2 h1
          by_cases hlt : h < l
          · have : ¬ l = h := by omega
            simp [hlt, this]
          · have : l = h := by omega
            simp [this]
    by_cases hr : r.1 = here
    · obtain ⟨a', b', c', ih⟩ := rows_loop R ps (acc ++ [r]) r.2.1 (.v (oi r.1)) (.v (oi r.2.1)) (.v (oi r.2.2)) (by simp; omega) o' nx
      refine ⟨a', b', c', ?_⟩
      simp only [List.map_append, List.map_cons, List.map_nil, List.append_assoc, List.cons_append, List.nil_append] at ih
      have turn : GL.rows.b1 [R, .own (acc.map rwD), .v (oi here), .v (oi r.1), .v (oi r.2.1), .v (oi r.2.2)] = some (.nx [R, .own (acc.map rwD ++ [rwD r]), .v (oi r.2.1), .v (oi r.1), .v (oi r.2.1), .v (oi r.2.2)]) := by
        unfold GL.rows.b1
        rw [seq_nx (ds' := [R, .own (acc.map rwD), .v (oi here), .v (oi r.1), .v (oi r.2.1), .v (oi r.2.2)]) (by rw [ifG_eq, tst]; simp [hr])]
        simp [z1, e1]
      rw [hr] at turn ih
      simp [loopG, turn, ih, runsB, lastB, hr]
    · obtain ⟨a', b', c', ih⟩ := rows_loop R ps (acc ++ [(here, r.1, none), r]) r.2.1 (.v (oi r.1)) (.v (oi r.2.1)) (.v (oi r.2.2)) (by simp; omega) o' nx
      refine ⟨a', b', c', ?_⟩
      simp only [List.map_append, List.map_cons, List.map_nil, List.append_assoc, List.cons_append, List.nil_append] at ih
      have turn : GL.rows.b1 [R, .own (acc.map rwD), .v (oi here), .v (oi r.1), .v (oi r.2.1), .v (oi r.2.2)] = some (.nx [R, .own (acc.map rwD ++ [rwD (here, r.1, none), rwD r]), .v (oi r.2.1), .v (oi r.1), .v (oi r.2.1), .v (oi r.2.2)]) := by
        unfold GL.rows.b1
        rw [seq_nx (ds' := [R, .own (acc.map rwD ++ [rwD (here, r.1, none)]), .v (oi here), .v (oi r.1), .v (oi r.2.1), .v (oi r.2.2)]) (by rw [ifG_eq, tst]; simp [hr, z1, e0])]
        simp [z1, z2, e1]
      simp [loopG, turn, ih, runsB, lastB, hr]
theorem rows_eq (ps : List Rw) (o : Ord ps) (h : ps.length ≤ 1000000) : GL.rows.f [.lst (ps.map rwD)] = some (.fresh ((runsF ps).map rwD)) := by
  obtain ⟨a, b, c, e⟩ := rows_loop (.v (.lst (ps.map rwD))) ps [] none .no .no .no (by simp; omega) o (fun r _ => ⟨fun _ => rfl, (fun h l e1 => nomatch e1)⟩)
  have hl := runsB_len ps none
  have z : (runsB none ps).length < 16777216 := by omega
  simp only [List.map_nil, List.nil_append, oi_none] at e
  have fl := flats_rw (runsF ps)
  have en := eqD_rw_nil ps
  unfold runsF at fl ⊢
  rw [runsR_eq] at fl ⊢
  unfold GL.rows.f runG GL.rows.g
  have e0 : D.tup [oi (lastB none ps), .non, .non] = rwD (lastB none ps, none, none) := rfl
  cases hb : lastB none ps with
  | some x =>
    rw [hb] at e e0 fl
    simp at fl e0
    cases hp : ps.isEmpty <;> (rw [hp] at en; simp [args, e, z, e0, fl, en])
  | none =>
    rw [hb] at e e0 fl
    cases ps with
    | nil =>
      simp [runsB] at e fl en
      simp [args, e, runsB, rwD, en]
    | cons r t =>
      simp at fl en
      simp only [List.map_cons, oi_none] at e
      simp [args, e, fl, en]
theorem is_span_eq (s : Spn) (h : okS s) : GL.is_span.f [spD s] = some (.val (.bl true)) := by
  obtain ⟨a, b⟩ := s
  have e : tupG 2 (tgCons (nameG 1) (tgCons (nameG 2) tgNil)) (spD (a, b)) [.v (spD (a, b)), .no, .no] = some [.v (spD (a, b)), .v (oi a), .v (oi b)] := by simp [spD]
  unfold GL.is_span.f runG GL.is_span.g
  cases a with
  | none => cases b <;> simp [args, e, whole_int]
  | some x =>
    cases b with
    | none => simp [args, e, whole_int]
    | some y =>
      have := h x y rfl rfl
      simp [args, e, whole_int, this]
end FL
namespace FL
open PySem PySem.Spec PyProof.Rows L2
open Builtin.Int (intBits)
theorem ixL4 (a b c d e : D) (l : List D) : ixD (.lst (a :: b :: c :: d :: e :: l)) (.int 4) = some e := by
  rw [ixL_pos _ (by decide) (by simp; omega)]
  rfl
theorem pow1062 : powD (.int (10 ^ 62)) (.int 8) = some (.int ((10 ^ 62) ^ 8)) := powD_ok (cpow_of (n := 210) (m := 8) (by decide) (by decide) (by decide) (by decide))
theorem map4_turn (C : Sl) (rows : List Rw) (h' c : Int) (hc : intBits c ≤ 1048576) (hz : rows.length < 16777216) (x4 x5 x6 x7 : Sl) : ∃ (lo bh v : Int) (y4 y6 : Sl), (rows ≠ [] → h' ≤ lo) ∧ lo < bh ∧
    GL.map4.b1 [C, .own (rows.map rwD), .v (.int h'), .v (.int c), x4, x5, x6, x7] = some (.nx [C, .own ((rows ++ [(some lo, some bh, some v)]).map rwD), .v (.int bh), .v (.int c), y4, .v (.int lo), y6, .v (.int v)]) := by
  have p1 : powD (.int 10) (.int 60) = some (.int (10 ^ 60)) := pow10 (by decide) (by decide)
  have p2 : powD (.int 10) (.int 59) = some (.int (10 ^ 59)) := pow10 (by decide) (by decide)
  have p3 : powD (.int 10) (.int 62) = some (.int (10 ^ 62)) := pow10 (by decide) (by decide)
  have m0 : IntMulOk 9 ((10 ^ 62) ^ 8) := .of_left (bits_nat (by decide))
  have m1 : IntMulOk (c / 120) 48271 := mulOk_of_bits (bits_ediv (by decide) hc) (bits_nat (m := 200) (by decide)) (by decide)
  have m2 : IntMulOk (c / 120) 69621 := mulOk_of_bits (bits_ediv (by decide) hc) (bits_nat (m := 200) (by decide)) (by decide)
  have q1 : (0 : Int) < 10 ^ 60 := by decide
  have q2 : (0 : Int) < 10 ^ 60 + 7 := by decide
  have q3 : (0 : Int) < 10 ^ 60 + 9 := by decide
  obtain ⟨lo0, hlo0, e2⟩ : ∃ lo0 : Int, h' ≤ lo0 ∧ (setG 5 (bin2 addD (getW 2) (bin2 ixD (mkL (sized (consA (konst (.int 0)) (consA (konst (.int 0)) (consA (bin2 addD (konst (.int 1)) (bin2 modD (getW 4) (konst (.int 9)))) (consA (bin2 modD (getW 4) (bin2 powD (konst (.int 10)) (konst (.int 60)))) nilA)))))) (bin2 modD (getW 3) (konst (.int 4)))))) [C, .own (rows.map rwD), .v (.int h'), .v (.int c), .v (.int (c / 120)), x5, x6, x7] = some (.nx [C, .own (rows.map rwD), .v (.int h'), .v (.int c), .v (.int (c / 120)), .v (.int lo0), x6, x7]) := by
    rcases (by omega : c % 4 = 0 ∨ c % 4 = 1 ∨ c % 4 = 2 ∨ c % 4 = 3) with h | h | h | h
    · exact ⟨h' + 0, by omega, by simp [-Int.reducePow, -Nat.reducePow, h, p1, q1]⟩
    · exact ⟨h' + 0, by omega, by simp [-Int.reducePow, -Nat.reducePow, h, p1, q1]⟩
    · exact ⟨h' + (1 + c / 120 % 9), by omega, by simp [-Int.reducePow, -Nat.reducePow, h, p1, q1]⟩
    · refine ⟨h' + c / 120 % 10 ^ 60, ?_, by simp [-Int.reducePow, -Nat.reducePow, h, p1, q1]⟩
      have := Int.emod_nonneg (c / 120) (show (10 : Int) ^ 60 ≠ 0 by decide)
      omega
  obtain ⟨lo, y6, hlo, e3⟩ : ∃ (lo : Int) (y6 : Sl), (rows ≠ [] → h' ≤ lo) ∧ (ifG (testB (bin2 eqD (getW 1) (mkL (sized nilA)))) (seqG (setG 6 (bin2 mulD (konst (.int 9)) (bin2 powD (bin2 powD (konst (.int 10)) (konst (.int 62))) (konst (.int 8)))))
  (setG 5 (bin2 ixD (mkL (sized (consA (bin2 subD (bin2 modD (getW 4) (konst (.int 41))) (konst (.int 20))) (consA (bin2 modD (getW 4) (bin2 powD (konst (.int 10)) (konst (.int 60)))) (consA (bin2 addD (getW 6) (bin2 modD (getW 4) (bin2 powD (konst (.int 10)) (konst (.int 60))))) (consA (bin2 subD (konst (.int 1)) (getW 6)) nilA)))))) (bin2 modD (getW 3) (konst (.int 4)))))) nextG) [C, .own (rows.map rwD), .v (.int h'), .v (.int c), .v (.int (c / 120)), .v (.int lo0), x6, x7] = some (.nx [C, .own (rows.map rwD), .v (.int h'), .v (.int c), .v (.int (c / 120)), .v (.int lo), y6, x7]) := by
    have en := eqD_rw_nil rows
    cases rows with
    | cons r t =>
      simp at en
      exact ⟨lo0, x6, fun _ => hlo0, by simp [en]⟩
    | nil =>
      simp at en
      have e6 := mulD_ok m0
      generalize hF : (9 : Int) * (10 ^ 62) ^ 8 = F at e6
      have e7 : (setG 6 (bin2 mulD (konst (.int 9)) (bin2 powD (bin2 powD (konst (.int 10)) (konst (.int 62))) (konst (.int 8))))) [C, .own [], .v (.int h'), .v (.int c), .v (.int (c / 120)), .v (.int lo0), x6, x7] = some (.nx [C, .own [], .v (.int h'), .v (.int c), .v (.int (c / 120)), .v (.int lo0), .v (.int F), x7]) := by
        simp [-Int.reducePow, -Nat.reducePow, p3, pow1062, e6]
      have hT : (testB (bin2 eqD (getW 1) (mkL (sized nilA)))) [C, .own [], .v (.int h'), .v (.int c), .v (.int (c / 120)), .v (.int lo0), x6, x7] = some true := by simp [en]
      rcases (by omega : c % 4 = 0 ∨ c % 4 = 1 ∨ c % 4 = 2 ∨ c % 4 = 3) with h | h | h | h
      · exact ⟨c / 120 % 41 - 20, .v (.int F), fun z => (z rfl).elim, by simp only [List.map_nil, ifG_eq, hT, Option.bind_some, if_true]; rw [seq_nx e7]; simp [-Int.reducePow, -Nat.reducePow, h, p1, q1]⟩
      · exact ⟨c / 120 % 10 ^ 60, .v (.int F), fun z => (z rfl).elim, by simp only [List.map_nil, ifG_eq, hT, Option.bind_some, if_true]; rw [seq_nx e7]; simp [-Int.reducePow, -Nat.reducePow, h, p1, q1]⟩
      · exact ⟨F + c / 120 % 10 ^ 60, .v (.int F), fun z => (z rfl).elim, by simp only [List.map_nil, ifG_eq, hT, Option.bind_some, if_true]; rw [seq_nx e7]; simp [-Int.reducePow, -Nat.reducePow, h, p1, q1]⟩
      · exact ⟨1 - F, .v (.int F), fun z => (z rfl).elim, by simp only [List.map_nil, ifG_eq, hT, Option.bind_some, if_true]; rw [seq_nx e7]; simp [-Int.reducePow, -Nat.reducePow, h, p1, q1]⟩
  obtain ⟨v0, e4⟩ : ∃ v0 : Int, (setG 7 (bin2 ixD (mkL (sized (consA (konst (.int 0)) (consA (konst (.int 1)) (consA (bin2 subD (bin2 modD (getW 4) (konst (.int 19))) (konst (.int 9))) (consA (bin2 subD (bin2 modD (bin2 mulD (getW 4) (konst (.int 48271))) (bin2 addD (bin2 powD (konst (.int 10)) (konst (.int 60))) (konst (.int 7)))) (bin2 powD (konst (.int 10)) (konst (.int 59)))) (consA (konst (.int 1)) nilA))))))) (bin2 modD (bin2 fdivD (getW 3) (konst (.int 4))) (konst (.int 5))))) [C, .own (rows.map rwD), .v (.int h'), .v (.int c), .v (.int (c / 120)), .v (.int lo), y6, x7] = some (.nx [C, .own (rows.map rwD), .v (.int h'), .v (.int c), .v (.int (c / 120)), .v (.int lo), y6, .v (.int v0)]) := by
    rcases (by omega : c / 4 % 5 = 0 ∨ c / 4 % 5 = 1 ∨ c / 4 % 5 = 2 ∨ c / 4 % 5 = 3 ∨ c / 4 % 5 = 4) with h | h | h | h | h
    · exact ⟨0, by simp [-Int.reducePow, -Nat.reducePow, h, p1, p2, mulD_ok m1, q2]⟩
    · exact ⟨1, by simp [-Int.reducePow, -Nat.reducePow, h, p1, p2, mulD_ok m1, q2]⟩
    · exact ⟨c / 120 % 19 - 9, by simp [-Int.reducePow, -Nat.reducePow, h, p1, p2, mulD_ok m1, q2]⟩
    · exact ⟨c / 120 * 48271 % (10 ^ 60 + 7) - 10 ^ 59, by simp [-Int.reducePow, -Nat.reducePow, h, p1, p2, mulD_ok m1, q2]⟩
    · exact ⟨1, by simp [-Int.reducePow, -Nat.reducePow, h, p1, p2, mulD_ok m1, q2, ixL4]⟩
  obtain ⟨v, e5⟩ : ∃ v : Int, (ifG (andT (testB (bin2 neD (getW 1) (mkL (sized nilA)))) (andT (testB (bin2 eqD (getW 5) (getW 2))) (testB (bin2 eqD (getW 7) (bin2 ixD (bin2 ixD (getW 1) (un1 negD (konst (.int 1)))) (konst (.int 2))))))) (setG 7 (bin2 addD (getW 7) (konst (.int 1)))) nextG) [C, .own (rows.map rwD), .v (.int h'), .v (.int c), .v (.int (c / 120)), .v (.int lo), y6, .v (.int v0)] = some (.nx [C, .own (rows.map rwD), .v (.int h'), .v (.int c), .v (.int (c / 120)), .v (.int lo), y6, .v (.int v)]) := by
    have ne := neD_rw_nil rows
    rcases List.eq_nil_or_concat rows with rfl | ⟨t, r, rfl⟩
    · simp at ne
      exact ⟨v0, by simp [ne]⟩
    · rw [List.concat_eq_append] at *
      have last : ixD (.lst (t.map rwD ++ [rwD r])) (.int (-1)) = some (rwD r) := ixL_last _ _
      have ie : (t ++ [r]).isEmpty = false := by simp
      rw [ie] at ne
      simp at ne
      have eqv : ∀ x : Option Int, eqD (.int v0) (oi x) = some (.bl (decide (x = some v0))) := fun x => by rw [show D.int v0 = oi (some v0) from rfl, eqD_oi, decide_eq_decide.mpr eq_comm]
      by_cases hl : lo = h'
      · by_cases hv : r.2.2 = some v0
        · exact ⟨v0 + 1, by simp [ne, last, hl, eqv, hv]⟩
        · exact ⟨v0, by simp [ne, last, hl, eqv, hv]⟩
      · exact ⟨v0, by simp [ne, last, hl]⟩
  obtain ⟨bh, hbh, e6⟩ : ∃ bh : Int, lo < bh ∧ (setG 2 (bin2 addD (getW 5) (bin2 ixD (mkL (sized (consA (konst (.int 1)) (consA (bin2 addD (konst (.int 1)) (bin2 modD (bin2 fdivD (getW 4) (konst (.int 9))) (konst (.int 9)))) (consA (bin2 addD (konst (.int 1)) (bin2 modD (bin2 mulD (getW 4) (konst (.int 69621))) (bin2 addD (bin2 powD (konst (.int 10)) (konst (.int 60))) (konst (.int 9))))) nilA))))) (bin2 modD (bin2 fdivD (getW 3) (konst (.int 20))) (konst (.int 3)))))) [C, .own (rows.map rwD), .v (.int h'), .v (.int c), .v (.int (c / 120)), .v (.int lo), y6, .v (.int v)] = some (.nx [C, .own (rows.map rwD), .v (.int bh), .v (.int c), .v (.int (c / 120)), .v (.int lo), y6, .v (.int v)]) := by
    rcases (by omega : c / 20 % 3 = 0 ∨ c / 20 % 3 = 1 ∨ c / 20 % 3 = 2) with h | h | h
    · exact ⟨lo + 1, by omega, by simp [-Int.reducePow, -Nat.reducePow, h, p1, mulD_ok m2, q3]⟩
    · exact ⟨lo + (1 + c / 120 / 9 % 9), by omega, by simp [-Int.reducePow, -Nat.reducePow, h, p1, mulD_ok m2, q3]⟩
    · refine ⟨lo + (1 + c / 120 * 69621 % (10 ^ 60 + 9)), ?_, by simp [-Int.reducePow, -Nat.reducePow, h, p1, mulD_ok m2, q3]⟩
      have := Int.emod_nonneg (c / 120 * 69621) (show (10 : Int) ^ 60 + 9 ≠ 0 by decide)
      omega
  refine ⟨lo, bh, v, .v (.int (c / 120)), y6, hlo, hbh, ?_⟩
  have e0 : D.tup [.int lo, .int bh, .int v] = rwD (some lo, some bh, some v) := rfl
  unfold GL.map4.b1
  rw [seq_nx (ds' := [C, .own (rows.map rwD), .v (.int h'), .v (.int c), .v (.int (c / 120)), x5, x6, x7]) (by simp), seq_nx e2, seq_nx e3, seq_nx e4, seq_nx e5, seq_nx e6]
  simp [hz, e0]
theorem map4_loop (C : Sl) : ∀ (cs : List Int) (rows : List Rw) (h' : Int) (x3 x4 x5 x6 x7 : Sl), (∀ c ∈ cs, intBits c ≤ 1048576) → rows.length + cs.length < 16777216 → Drawn rows h' → ∃ (rows' : List Rw) (h'' : Int) (y3 y4 y5 y6 y7 : Sl), Drawn rows' h'' ∧ rows'.length = rows.length + cs.length ∧
    loopG (nameG 3) GL.map4.b1 (cs.map D.int) [C, .own (rows.map rwD), .v (.int h'), x3, x4, x5, x6, x7] = some (.nx [C, .own (rows'.map rwD), .v (.int h''), y3, y4, y5, y6, y7])
  | [], rows, h', x3, x4, x5, x6, x7, _, _, d => ⟨rows, h', x3, x4, x5, x6, x7, d, rfl, rfl⟩
  | c :: cs, rows, h', x3, x4, x5, x6, x7, hb, hz, d => by
    simp only [List.length_cons] at hz
    obtain ⟨lo, bh, v, y4, y6, h1, h2, turn⟩ := map4_turn C rows h' c (hb c List.mem_cons_self) (by omega) x4 x5 x6 x7
    have d' : Drawn rows lo := by
      cases rows with
      | nil => exact ⟨⟨(fun _ h => nomatch h), List.Pairwise.nil⟩, (fun _ h => nomatch h)⟩
      | cons r t =>
        refine ⟨d.ord, fun r hr => ?_⟩
        obtain ⟨a, b, e1, e2, e3⟩ := d.fin r hr
        exact ⟨a, b, e1, e2, Int.le_trans e3 (h1 (by simp))⟩
    obtain ⟨rows', h'', y3, y4', y5, y6', y7, d2, l2, e⟩ := map4_loop C cs (rows ++ [(some lo, some bh, some v)]) bh (.v (.int c)) y4 (.v (.int lo)) y6 (.v (.int v)) (fun x hx => hb x (List.mem_cons_of_mem _ hx)) (by simp; omega) (d'.snoc (Int.le_refl _) h2)
    refine ⟨rows', h'', y3, y4', y5, y6', y7, d2, by simp at l2; simp only [List.length_cons]; omega, ?_⟩
    simp only [List.map_cons, loopG, nameG, Option.bind_some, List.set_cons_succ, List.set_cons_zero, turn]
    exact e
theorem map4_ex (cs : List Int) (hb : ∀ c ∈ cs, intBits c ≤ 1048576) (hl : cs.length ≤ 1000) : ∃ rows : List Rw, Ord rows ∧ rows.length = cs.length ∧ GL.map4.f [.lst (cs.map D.int)] = some (.fresh (rows.map rwD)) := by
  obtain ⟨rows, h', y3, y4, y5, y6, y7, hd, hn, e⟩ := map4_loop (.v (.lst (cs.map D.int))) cs [] 0 .no .no .no .no .no hb (by simp; omega) ⟨⟨(fun _ h => nomatch h), List.Pairwise.nil⟩, (fun _ h => nomatch h)⟩
  simp only [List.length_nil, List.map_nil, Nat.zero_add] at hn e
  rcases List.eq_nil_or_concat cs with hcs | ⟨ct, cl, hcs⟩
  · subst hcs
    have : rows = [] := List.eq_nil_of_length_eq_zero (by simpa using hn)
    subst this
    have ne := neD_rw_nil []
    simp at ne
    refine ⟨[], hd.ord, rfl, run_rt ?_⟩
    unfold GL.map4.g
    simp only [List.map_nil] at e
    simp [args, e, ne]
  · rw [List.concat_eq_append] at hcs
    have hpos : 0 < cs.length := by rw [hcs]; simp
    obtain ⟨c0, hc0⟩ : ∃ c0, ixD (.lst (cs.map D.int)) (.int 0) = some (.int c0) := by
      cases hcc : cs with
      | nil => rw [hcc] at hpos; simp at hpos
      | cons a t => exact ⟨a, by simp⟩
    have hcl : ixD (.lst (cs.map D.int)) (.int (-1)) = some (.int cl) := by
      rw [hcs, List.map_append]
      exact ixL_last _ _
    obtain ⟨r1, o1, l1, _, e1⟩ := open_lo 1 (testB (bin2 eqD (bin2 modD (bin2 fdivD (bin2 ixD (getW 0) (konst (.int 0))) (konst (.int 60))) (konst (.int 8))) (konst (.int 1)))) [.v (.lst (cs.map D.int)), .own (rows.map rwD), .v (.int h'), y3, y4, y5, y6, y7] rows (decide (c0 / 60 % 8 = 1)) hd.ord rfl (by simp [hc0])
    obtain ⟨r2, o2, l2, _, e2⟩ := open_hi 1 (testB (bin2 eqD (bin2 modD (bin2 fdivD (bin2 ixD (getW 0) (un1 negD (konst (.int 1)))) (konst (.int 60))) (konst (.int 8))) (konst (.int 6)))) [.v (.lst (cs.map D.int)), .own (r1.map rwD), .v (.int h'), y3, y4, y5, y6, y7] r1 (decide (cl / 60 % 8 = 6)) o1 rfl (by simp [hcl])
    simp only [List.set_cons_succ, List.set_cons_zero] at e1 e2
    obtain ⟨r3, o3, l3, e3⟩ : ∃ r3 : List Rw, Ord r3 ∧ r3.length = r2.length ∧ (ifG (andT (testB (bin2 eqD (callB lenD (consA (getW 1) nilA)) (konst (.int 1)))) (testB (bin2 eqD (bin2 modD (bin2 fdivD (bin2 ixD (getW 0) (konst (.int 0))) (konst (.int 60))) (konst (.int 8))) (konst (.int 7))))) (putG 1 (konst (.int 0)) (mkT (sized (consA (konst .non) (consA (konst .non) (consA (bin2 ixD (bin2 ixD (getW 1) (konst (.int 0))) (konst (.int 2))) nilA)))))) nextG) [.v (.lst (cs.map D.int)), .own (r2.map rwD), .v (.int h'), y3, y4, y5, y6, y7] = some (.nx [.v (.lst (cs.map D.int)), .own (r3.map rwD), .v (.int h'), y3, y4, y5, y6, y7]) := by
      by_cases h1 : r2.length = 1
      · obtain ⟨r, rfl⟩ := List.length_eq_one_iff.mp h1
        by_cases h7 : c0 / 60 % 8 = 7
        · have e0 : D.tup [.non, .non, oi r.2.2] = rwD (none, none, r.2.2) := rfl
          have ix : ixN 1 0 = some 0 := ixN0 (by decide)
          refine ⟨[(none, none, r.2.2)], ⟨fun z hz => ?_, List.pairwise_singleton _ _⟩, rfl, by simp [hc0, h7, e0, ix]⟩
          have : z = (none, none, r.2.2) := by simpa using hz
          subst this
          exact fun x y e1 _ => nomatch e1
        · exact ⟨[r], o2, rfl, by simp [hc0, h7]⟩
      · have h1' : ¬ (r2.length : Int) = 1 := by omega
        exact ⟨r2, o2, rfl, by simp [h1']⟩
    refine ⟨r3, o3, by omega, run_rt ?_⟩
    unfold GL.map4.g
    rw [seq_nx (ds' := [.v (.lst (cs.map D.int)), .own [], .no, .no, .no, .no, .no, .no]) (by simp [args]), seq_nx (ds' := [.v (.lst (cs.map D.int)), .own [], .v (.int 0), .no, .no, .no, .no, .no]) (by simp),
      seq_nx (ds' := [.v (.lst (cs.map D.int)), .own (rows.map rwD), .v (.int h'), y3, y4, y5, y6, y7]) (by simp [e]), seq_nx e1, seq_nx e2, seq_nx e3]
    simp [flats_rw]
theorem end2_ex (ps : List Rw) (c : Int) (hl : ps.length ≤ 100000) : ∃ e : Int, GL.end2.f [.lst (ps.map rwD), .int c] = some (.val (.int e)) := by
  have p1 : powD (.int 10) (.int 61) = some (.int (10 ^ 61)) := pow10 (by decide) (by decide)
  have m1 : IntMulOk 2 (10 ^ 61) := .of_left (bits_nat (by decide))
  have q1 : (0 : Int) < 2 * 10 ^ 61 + 1 := by decide
  have lowI : ∀ l : List Rw, (∀ r ∈ l, r.1.isSome = true) → l.map (fun r => oi r.1) = (l.map fun r => r.1.getD 0).map D.int := by
    intro l hl
    rw [List.map_map]
    refine List.map_congr_left fun r hr => ?_
    have := hl r hr
    cases h : r.1 with
    | none => rw [h] at this; cases this
    | some x => simp [h]
  have behI : ∀ l : List Rw, (∀ r ∈ l, r.2.1.isSome = true) → l.map (fun r => oi r.2.1) = (l.map fun r => r.2.1.getD 0).map D.int := by
    intro l hl
    rw [List.map_map]
    refine List.map_congr_left fun r hr => ?_
    have := hl r hr
    cases h : r.2.1 with
    | none => rw [h] at this; cases this
    | some x => simp [h]
  have k1 : ∀ A B C : Sl, ∃ L : List Int, L.length ≤ ps.length ∧ (compG (viaA (getV 0) asLT) [none, none, none] (tupG 3 (tgCons (nameG 0) (tgCons (nameG 1) (tgCons (nameG 2) tgNil)))) (testB (bin2 notD (getW 0) (konst .non))) (getV 0)) [.v (.lst (ps.map rwD)), A, B, C] = some (L.map D.int) := by
    intro A B C
    refine ⟨(ps.filter fun r => r.1.isSome).map fun r => r.1.getD 0, by simpa using List.length_filter_le _ ps, compG_ok (items := ps.map rwD) (by simp) (by simp; omega) ?_⟩
    rw [compL_filt rwD (fun r => r.1.isSome) (fun r => oi r.1), lowI _ fun r hr => (List.mem_filter.mp hr).2]
    exact fun r _ => ⟨_, by simp [slotsD]; rfl, by simp, fun _ => by simp⟩
  have k2 : ∀ A B C : Sl, ∃ L : List Int, L.length ≤ ps.length ∧ (compG (viaA (getV 0) asLT) [none, none, none] (tupG 3 (tgCons (nameG 0) (tgCons (nameG 1) (tgCons (nameG 2) tgNil)))) (testB (bin2 notD (getW 1) (konst .non))) (getV 1)) [.v (.lst (ps.map rwD)), A, B, C] = some (L.map D.int) := by
    intro A B C
    refine ⟨(ps.filter fun r => r.2.1.isSome).map fun r => r.2.1.getD 0, by simpa using List.length_filter_le _ ps, compG_ok (items := ps.map rwD) (by simp) (by simp; omega) ?_⟩
    rw [compL_filt rwD (fun r => r.2.1.isSome) (fun r => oi r.2.1), behI _ fun r hr => (List.mem_filter.mp hr).2]
    exact fun r _ => ⟨_, by simp [slotsD]; rfl, by simp, fun _ => by simp⟩
  obtain ⟨L1, n1, c1⟩ := k1 (.v (.int c)) (.v (.int (c / 3))) .no
  obtain ⟨L2, n2, c2⟩ := k2 (.v (.int c)) (.v (.int (c / 3))) (.v (.lst (L1.map D.int)))
  have z : L1.length + L2.length ≤ 16777216 := by omega
  have zl : (L1 ++ L2).length ≤ 200000 := by simp; omega
  have dflt : ∃ e : Int, (retG (bin2 ixD (mkL (sized (consA (bin2 subD (bin2 modD (getW 2) (konst (.int 81))) (konst (.int 40))) (consA (bin2 subD (bin2 modD (getW 2) (bin2 addD (bin2 mulD (konst (.int 2)) (bin2 powD (konst (.int 10)) (konst (.int 61)))) (konst (.int 1)))) (bin2 powD (konst (.int 10)) (konst (.int 61)))) nilA)))) (bin2 modD (bin2 fdivD (getW 2) (konst (.int 81))) (konst (.int 2))))) [.v (.lst (ps.map rwD)), .v (.int c), .v (.int (c / 3)), .v (.lst ((L1 ++ L2).map D.int))] = some (.rt (.val (.int e))) := by
    rcases (by omega : c / 3 / 81 % 2 = 0 ∨ c / 3 / 81 % 2 = 1) with h | h
    · exact ⟨c / 3 % 81 - 40, by simp [-Int.reducePow, -Nat.reducePow, h, p1, mulD_ok m1, q1]⟩
    · exact ⟨c / 3 % (2 * 10 ^ 61 + 1) - 10 ^ 61, by simp [-Int.reducePow, -Nat.reducePow, h, p1, mulD_ok m1, q1]⟩
  obtain ⟨e0, hd⟩ := dflt
  obtain ⟨t, ht⟩ : ∃ t : Out, (∃ e : Int, t = .rt (.val (.int e))) ∧ (seqG (ifG (andT (testB (bin2 gtD (bin2 modD (getW 1) (konst (.int 3))) (konst (.int 0)))) (testB (bin2 neD (getW 3) (mkL (sized nilA))))) (retG (bin2 subD (bin2 addD (bin2 ixD (getW 3) (bin2 modD (getW 2) (callB lenD (consA (getW 3) nilA)))) (bin2 modD (bin2 fdivD (getW 2) (callB lenD (consA (getW 3) nilA))) (konst (.int 3)))) (konst (.int 1)))) nextG) (retG (bin2 ixD (mkL (sized (consA (bin2 subD (bin2 modD (getW 2) (konst (.int 81))) (konst (.int 40))) (consA (bin2 subD (bin2 modD (getW 2) (bin2 addD (bin2 mulD (konst (.int 2)) (bin2 powD (konst (.int 10)) (konst (.int 61)))) (konst (.int 1)))) (bin2 powD (konst (.int 10)) (konst (.int 61)))) nilA)))) (bin2 modD (bin2 fdivD (getW 2) (konst (.int 81))) (konst (.int 2)))))) [.v (.lst (ps.map rwD)), .v (.int c), .v (.int (c / 3)), .v (.lst ((L1 ++ L2).map D.int))] = some t := by
    generalize L1 ++ L2 = L at hd zl ⊢
    have nn : neD (.lst (L.map D.int)) (.lst []) = some (.bl (!L.isEmpty)) := by rw [neD_nil (shals_all fun d hd => by obtain ⟨i, _, rfl⟩ := List.mem_map.mp hd; simp), List.isEmpty_map]
    by_cases h1 : 0 < c % 3
    · cases hL : L with
      | nil =>
        rw [hL] at nn hd
        simp at nn hd
        refine ⟨_, ⟨e0, rfl⟩, ?_⟩
        rw [seq_nx (ds' := [.v (.lst (ps.map rwD)), .v (.int c), .v (.int (c / 3)), .v (.lst [])]) (by simp [h1, nn])]
        simpa using hd
      | cons x t =>
        have hpos : (0 : Int) < L.length := by rw [hL]; simp
        have md := modD_pos (c / 3) hpos
        have fd := fdivD_small (c / 3) hpos (by omega)
        have ie := ints_at L (k := c / 3 % (L.length : Int)) (Int.emod_nonneg _ (by omega)) (Int.emod_lt_of_pos _ hpos)
        have lz : L.isEmpty = false := by rw [hL]; rfl
        rw [lz] at nn
        rw [← hL]
        refine ⟨_, ⟨cel L (c / 3 % (L.length : Int)).toNat + c / 3 / (L.length : Int) % 3 - 1, rfl⟩, seq_rt ?_⟩
        simp [h1, nn, md, fd, ie]
    · refine ⟨_, ⟨e0, rfl⟩, ?_⟩
      rw [seq_nx (ds' := [.v (.lst (ps.map rwD)), .v (.int c), .v (.int (c / 3)), .v (.lst (L.map D.int))]) (by simp [h1])]
      exact hd
  obtain ⟨⟨e, rfl⟩, ht⟩ := ht
  refine ⟨e, run_rt ?_⟩
  unfold GL.end2.g
  rw [seq_nx (ds' := [.v (.lst (ps.map rwD)), .v (.int c), .v (.int (c / 3)), .no]) (by simp [args]), seq_nx (ds' := [.v (.lst (ps.map rwD)), .v (.int c), .v (.int (c / 3)), .v (.lst (L1.map D.int))]) (by simp [c1]),
    seq_nx (ds' := [.v (.lst (ps.map rwD)), .v (.int c), .v (.int (c / 3)), .v (.lst ((L1 ++ L2).map D.int))]) (by simp [c2, z])]
  exact ht
end FL
namespace FL
open PySem PySem.Spec PyProof.Rows L2
open Builtin.Int (intBits)
end FL
section
open PySem PyProof.Rows L2 FL
noncomputable def K63.lam__law_any_test_0 : FE := (dget2G (getV 1) (getV 0) (konst (.bl false)))
noncomputable def K63.lam__law_test_0 : FE := (bin2 isD (getW 0) (konst .non))
noncomputable def K63.lam__law_test_1 : FE := (bin2 notD (getW 0) (konst .non))
noncomputable def K63.lam__law_test_2 : FE := (bin2 eqD (getW 0) (getW 1))
noncomputable def K63.lam__law_test_3 : FE := (bin2 neD (getW 0) (getW 1))
noncomputable def K63.lam__law_test_4 : FE := (andV (bin2 notD (getW 0) (konst .non)) (bin2 eqD (bin2 modD (getW 0) (konst (.int 2))) (bin2 modD (getW 1) (konst (.int 2)))))
noncomputable def K63.lam__law_test_5 : FE := (orV (bin2 isD (getW 0) (konst .non)) (bin2 eqD (bin2 modD (getW 0) (konst (.int 2))) (bin2 modD (getW 1) (konst (.int 2)))))
noncomputable def K63.lam__law_test_6 : FE := (andV (bin2 notD (getW 0) (konst .non)) (bin2 geD (getW 0) (getW 1)))
noncomputable def K63.lam__law_test_7 : FE := (bin2 eqD (getW 1) (konst (.int 7)))
noncomputable def K63.Phi0 : Fun2 := phiOf [((5, 0), lamF 1 K63.lam__law_any_test_0), ((6, 0), lamF 1 K63.lam__law_test_0), ((6, 1), lamF 1 K63.lam__law_test_1), ((6, 2), lamF 1 K63.lam__law_test_2), ((6, 3), lamF 1 K63.lam__law_test_3), ((6, 4), lamF 1 K63.lam__law_test_4), ((6, 5), lamF 1 K63.lam__law_test_5), ((6, 6), lamF 1 K63.lam__law_test_6), ((6, 7), lamF 1 K63.lam__law_test_7)]
noncomputable def K63.lam_holding_0 : FE := (ifV (testT (callW K63.Phi0 1 (consA (getW 0) nilA))) (konst (.int 1)) (konst .non))
noncomputable def K63.Phi : Fun2 := phiOf [((5, 0), lamF 1 K63.lam__law_any_test_0), ((6, 0), lamF 1 K63.lam__law_test_0), ((6, 1), lamF 1 K63.lam__law_test_1), ((6, 2), lamF 1 K63.lam__law_test_2), ((6, 3), lamF 1 K63.lam__law_test_3), ((6, 4), lamF 1 K63.lam__law_test_4), ((6, 5), lamF 1 K63.lam__law_test_5), ((6, 6), lamF 1 K63.lam__law_test_6), ((6, 7), lamF 1 K63.lam__law_test_7), ((4, 0), lamF 1 K63.lam_holding_0)]
noncomputable def K63.L_far.g : FS := (retG (bin2 mulD (bin2 powD (bin2 powD (konst (.int 10)) (konst (.int 50))) (konst (.int 9))) (bin2 powD (konst (.int 10)) (konst (.int 49)))))
noncomputable def K63.L_far.f : List D → Option Ret := runG K63.L_far.g 0
noncomputable def K63.L_any_map.b1 : FS := (seqG (asgG (lstG 2 (tgCons (nameG 9) (tgCons (nameG 10) tgNil))) (mkL (sliA (getW 5) (soP (bin2 mulD (konst (.int 2)) (getW 8))) (soP (bin2 addD (bin2 mulD (konst (.int 2)) (getW 8)) (konst (.int 2)))))))
  (ifG (andT (testB (bin2 neD (getW 7) (mkL (sized nilA)))) (andT (testB (bin2 eqD (getW 9) (bin2 ixD (bin2 ixD (getW 7) (un1 negD (konst (.int 1)))) (konst (.int 1))))) (testB (bin2 eqD (bin2 ixD (getW 6) (getW 8)) (bin2 ixD (bin2 ixD (getW 7) (un1 negD (konst (.int 1)))) (konst (.int 2))))))) (putG 7 (un1 negD (konst (.int 1))) (mkT (sized (consA (bin2 ixD (bin2 ixD (getW 7) (un1 negD (konst (.int 1)))) (konst (.int 0))) (consA (getV 10) (consA (bin2 ixD (getW 6) (getW 8)) nilA)))))) (ifG (testB (bin2 ltD (getW 9) (getW 10))) (appG 7 (mkT (sized (consA (getV 9) (consA (getV 10) (consA (bin2 ixD (getW 6) (getW 8)) nilA)))))) nextG)))
noncomputable def K63.L_any_map.g : FS := (seqG (setG 4 (callV 0 K63.L_far.f nilA))
  (seqG (setG 5 (mkL (srtA64 (mkL (compG (viaA (callV 3 GL.digits.f (consA (getW 2) (consA (bin2 addD (bin2 mulD (konst (.int 2)) (getW 4)) (konst (.int 1))) (consA (bin2 mulD (konst (.int 2)) (getW 0)) nilA)))) asLT) [none] (nameG 0) (fun _ => some true) (callV 1 GL.zig.f (consA (getW 0) nilA)))))))
  (seqG (setG 6 (mkL (compG (viaA (callV 3 GL.digits.f (consA (getW 3) (consA (bin2 addD (bin2 mulD (konst (.int 2)) (getW 4)) (konst (.int 1))) (consA (getW 0) nilA)))) asLT) [none] (nameG 0) (fun _ => some true) (callV 1 GL.zig.f (consA (getW 0) nilA)))))
  (seqG (setOG 7 (sized nilA))
  (seqG (forG (rng1 (getV 0)) (nameG 8) K63.L_any_map.b1)
  (seqG (ifG (andT (testB (bin2 neD (getW 7) (mkL (sized nilA)))) (testB (bin2 eqD (bin2 modD (getW 1) (konst (.int 2))) (konst (.int 1))))) (putG 7 (konst (.int 0)) (mkT (sized (consA (konst .non) (consA (bin2 ixD (bin2 ixD (getW 7) (konst (.int 0))) (konst (.int 1))) (consA (bin2 ixD (bin2 ixD (getW 7) (konst (.int 0))) (konst (.int 2))) nilA)))))) nextG)
  (seqG (ifG (andT (testB (bin2 neD (getW 7) (mkL (sized nilA)))) (testB (bin2 eqD (bin2 modD (bin2 fdivD (getW 1) (konst (.int 2))) (konst (.int 2))) (konst (.int 1))))) (putG 7 (un1 negD (konst (.int 1))) (mkT (sized (consA (bin2 ixD (bin2 ixD (getW 7) (un1 negD (konst (.int 1)))) (konst (.int 0))) (consA (konst .non) (consA (bin2 ixD (bin2 ixD (getW 7) (un1 negD (konst (.int 1)))) (konst (.int 2))) nilA)))))) nextG)
  (retXG 7))))))))
noncomputable def K63.L_any_map.f : List D → Option Ret := runG K63.L_any_map.g 11
noncomputable def K63.L_any_test.b1 : FS := (dputG (varP 3) (bin2 ixD (bin2 ixD (getW 0) (getW 4)) (konst (.int 2))) (bin2 eqD (bin2 ixD (getW 2) (bin2 addD (getW 4) (konst (.int 1)))) (konst (.int 1))))
noncomputable def K63.L_any_test.g : FS := (seqG (setG 2 (callV 3 GL.digits.f (consA (getW 1) (consA (konst (.int 2)) (consA (bin2 addD (callB lenD (consA (getW 0) nilA)) (konst (.int 1))) nilA)))))
  (seqG (setB 3 (dO1 (konst .non) (bin2 eqD (bin2 ixD (getW 2) (konst (.int 0))) (konst (.int 1)))))
  (seqG (forG (rng1 (callB lenD (consA (getW 0) nilA))) (nameG 4) K63.L_any_test.b1)
  (frzDG 3 (retCG2 (cloV 5 0 [3]))))))
noncomputable def K63.L_any_test.f : List D → Option Ret := runG K63.L_any_test.g 5
noncomputable def K63.L_all.b1 : FS := (ifG (andT (orT (testB (bin2 isD (getW 2) (konst .non))) (orT (testB (bin2 isD (getW 5) (konst .non))) (testB (bin2 ltD (getW 5) (getW 2))))) (orT (testB (bin2 isD (getW 6) (konst .non))) (testB (bin2 ltD (getW 1) (getW 6))))) (ifG (testB (bin2 neD (callW K63.Phi 3 (consA (getW 7) nilA)) (getW 4))) (retG (konst (.bl false))) nextG) nextG)
noncomputable def K63.L_all.g : FS := (seqG (forG (viaA (getV 0) asLT) (tupG 3 (tgCons (nameG 5) (tgCons (nameG 6) (tgCons (nameG 7) tgNil)))) K63.L_all.b1)
  (retG (konst (.bl true))))
noncomputable def K63.L_all.f : List D → Option Ret := runG K63.L_all.g 8
noncomputable def K63.L_told.b1 : FS := (seqG (ifG (orT (testB (bin2 isD (getW 6) (konst .non))) (orT (notT (testT (callV 1 GL.is_span.f (consA (getW 7) nilA)))) (testB (bin2 isD (bin2 ixD (getW 7) (konst (.int 0))) (konst .non))))) (retG (konst (.bl false))) nextG)
  (seqG (ifG (orT (testB (bin2 ltD (bin2 ixD (getW 7) (konst (.int 0))) (getW 6))) (orT (testB (bin2 geD (bin2 ixD (getW 7) (konst (.int 0))) (bin2 addD (getW 6) (getW 2)))) (notT (testT (callV 5 K63.L_all.f (consA (getW 0) (consA (bin2 ixD (getW 7) (konst (.int 0))) (consA (bin2 ixD (getW 7) (konst (.int 1))) (consA (getW 3) (consA (konst (.bl false)) nilA)))))))))) (retG (konst (.bl false))) nextG)
  (setG 6 (bin2 ixD (getW 7) (konst (.int 1))))))
noncomputable def K63.L_told.g : FS := (seqG (setG 6 (getV 1))
  (seqG (forG (viaA (getV 5) asLT) (nameG 7) K63.L_told.b1)
  (seqG (ifG (testB (bin2 isD (getW 4) (konst .non))) (retG (bin2 isD (getW 6) (konst .non))) nextG)
  (seqG (ifG (orT (testB (bin2 isD (getW 6) (konst .non))) (orT (notT (testT (callV 1 GL.whole.f (consA (getW 4) nilA)))) (testB (bin2 neD (getW 4) (getW 6))))) (retG (konst (.bl false))) nextG)
  (retG (callV 5 K63.L_all.f (consA (getW 0) (consA (getW 4) (consA (bin2 addD (getW 4) (getW 2)) (consA (getW 3) (consA (konst (.bl true)) nilA)))))))))))
noncomputable def K63.L_told.f : List D → Option Ret := runG K63.L_told.g 8
noncomputable def K63.L_any.g : FS := (seqG (setG 1 (bin2 fdivD (callV 2 GL.cell_at.f (consA (getW 0) (consA (konst (.int 3)) nilA))) (konst (.int 2))))
  (seqG (setG 2 (callV 0 K63.L_far.f nilA))
  (seqG (setOG 3 (callF 4 K63.L_any_map.f (consA (bin2 modD (getW 1) (konst (.int 31))) (consA (bin2 fdivD (getW 1) (konst (.int 31))) (consA (callV 2 GL.cell_at.f (consA (getW 0) (consA (konst (.int 4)) nilA))) (consA (callV 2 GL.cell_at.f (consA (getW 0) (consA (konst (.int 5)) nilA))) nilA))))))
  (seqG (setG 4 (callV 1 GL.zig.f (consA (bin2 modD (callV 2 GL.cell_at.f (consA (getW 0) (consA (konst (.int 0)) nilA))) (bin2 addD (bin2 mulD (konst (.int 2)) (getW 2)) (konst (.int 1)))) nilA)))
  (retDG (mkT (sized (consA (getO 3) (consA (flV (getV 4)) (consA (flV (bin2 addD (konst (.int 1)) (bin2 modD (callV 2 GL.cell_at.f (consA (getW 0) (consA (konst (.int 1)) nilA))) (getW 2)))) (consA (callV 2 K63.L_any_test.f (consA (getW 3) (consA (callV 2 GL.cell_at.f (consA (getW 0) (consA (konst (.int 6)) nilA))) nilA))) nilA)))))))))))
noncomputable def K63.L_any.f : List D → Option Ret := runG K63.L_any.g 5
noncomputable def K63.L_drawn.g : FS := (seqG (setOG 1 (callF 1 GL.map4.f (consA (mkL (sliA (getW 0) (soP (konst (.int 4))) (soP (konst (.int 44))))) nilA)))
  (seqG (setG 2 (callV 1 GL.rows.f (consA (getW 1) nilA)))
  (seqG (setG 3 (bin2 ixD (bin2 ixD (getW 2) (bin2 modD (callV 2 GL.cell_at.f (consA (getW 0) (consA (konst (.int 2)) nilA))) (callB lenD (consA (getW 2) nilA)))) (konst (.int 2))))
  (seqG (ifG (testB (bin2 isD (getW 3) (konst .non))) (setG 3 (konst (.int 1))) nextG)
  (seqG (setG 4 (callV 2 GL.times.f (consA (getW 2) (consA (callV 2 GL.cell_at.f (consA (getW 0) (consA (konst (.int 1)) nilA))) nilA))))
  (seqG (setG 5 (callV 2 GL.test.f (consA (bin2 fdivD (callV 2 GL.cell_at.f (consA (getW 0) (consA (konst (.int 3)) nilA))) (konst (.int 2))) (consA (getW 3) nilA))))
  (retDG (mkT (sized (consA (getO 1) (consA (flV (callV 2 GL.end2.f (consA (getW 1) (consA (callV 2 GL.cell_at.f (consA (getW 0) (consA (konst (.int 0)) nilA))) nilA)))) (consA (flV (getV 4)) (consA (flVC (getV 5)) nilA)))))))))))))
noncomputable def K63.L_drawn.f : List D → Option Ret := runG K63.L_drawn.g 6
noncomputable def K63.law.g : FS := (seqG (ifG (testB (bin2 eqD (bin2 modD (callV 2 GL.cell_at.f (consA (getW 0) (consA (konst (.int 3)) nilA))) (konst (.int 2))) (konst (.int 1)))) (asgG (tupG 4 (tgCons (nameG 1) (tgCons (nameG 2) (tgCons (nameG 3) (tgCons (nameG 4) tgNil))))) (callV 1 K63.L_any.f (consA (getW 0) nilA))) (asgG (tupG 4 (tgCons (nameG 1) (tgCons (nameG 2) (tgCons (nameG 3) (tgCons (nameG 4) tgNil))))) (callV 1 K63.L_drawn.f (consA (getW 0) nilA))))
  (seqG (setG 5 (mkL (lisA (getW 1))))
  (seqG (setG 6 (callV 4 (GP.first_run.f K63.Phi) (consA (getW 5) (consA (getW 2) (consA (getW 3) (consA (getW 4) nilA))))))
  (seqG (ifG (orT (notT (testT (isiG "tuple" (getW 6)))) (orT (testB (bin2 neD (callB lenD (consA (getW 6) nilA)) (konst (.int 2)))) (notT (testT (isiG "list" (bin2 ixD (getW 6) (konst (.int 1)))))))) (retG (konst (.bl false))) nextG)
  (seqG (ifG (orT (testB (bin2 gtD (callB lenD (consA (bin2 ixD (getW 6) (konst (.int 1))) nilA)) (bin2 addD (bin2 mulD (konst (.int 2)) (callB lenD (consA (getW 1) nilA))) (konst (.int 2))))) (testB (bin2 neD (getW 5) (getW 1)))) (retG (konst (.bl false))) nextG)
  (retG (callV 6 K63.L_told.f (consA (callV 1 GL.rows.f (consA (getW 1) nilA)) (consA (getW 2) (consA (getW 3) (consA (getW 4) (consA (bin2 ixD (getW 6) (konst (.int 0))) (consA (bin2 ixD (getW 6) (konst (.int 1))) nilA)))))))))))))
noncomputable def K63.law.f : List D → Option Ret := runG K63.law.g 7
end
namespace K63
open PySem PyProof.Rows L2 FL
noncomputable def top (i : Nat) : Stmt := PySem.Challenge.pw_spanmap_k63_whole_first_run.main.body.getD i (.Pass ⟨0, 0, 0, 0⟩)
structure Glb (K : Frag) (mg : Str → Option Value) : Prop where
  b_bool : mg "bool" = none
  b_int : mg "int" = none
  b_isinstance : mg "isinstance" = none
  b_len : mg "len" = none
  b_list : mg "list" = none
  b_max : mg "max" = none
  b_min : mg "min" = none
  b_range : mg "range" = none
  b_sorted : mg "sorted" = none
  b_tuple : mg "tuple" = none
section
variable {P : Program} {w : World} {K : Frag} {mg : Str → Option Value} {base : Heap}
theorem sc_later_low : FnScope ["one", "other"] ["one", "other"] (defScope (top 6)) := ⟨rfl, rfl, rfl, by decide +kernel, rfl, by decide +kernel, by decide +kernel⟩
theorem fok_later_low {f : Addr} {fd : FuncData} (Fn : Fun K "later_low" "later_low" (top 6) f fd) (T : Glb K mg)  : FnOk P w K mg base CX0 1 f fd ["one", "other"] (spF K 2 GP.later_low.f) := by
  have nd := sc_later_low.nd
  refine fun_ok (k := 0) (g := GP.later_low.g) Fn sc_later_low (fun cdv A outer s H E hr => ?_) (fun ds r hl e => does_run e)
  exact (pssv_cons (psv_if (pt_is (PVw.n (pw_var 0)) (PV.n pv_non)) (pssv_one (psv_ret (pw_var 1))) pssv_nil)
    (pssv_cons (psv_if (pt_is (PVw.n (pw_var 1)) (PV.n pv_non)) (pssv_one (psv_ret (pw_var 0))) pssv_nil)
    (pssv_one (psv_ret (PV.w (pv_max2 rfl T.b_max (pav_cons (pw_var 0) (pav_cons (pw_var 1) pav_nil))))))))
theorem sc_earlier_behind : FnScope ["one", "other"] ["one", "other"] (defScope (top 7)) := ⟨rfl, rfl, rfl, by decide +kernel, rfl, by decide +kernel, by decide +kernel⟩
theorem fok_earlier_behind {f : Addr} {fd : FuncData} (Fn : Fun K "earlier_behind" "earlier_behind" (top 7) f fd) (T : Glb K mg)  : FnOk P w K mg base CX0 1 f fd ["one", "other"] (spF K 2 GP.earlier_behind.f) := by
  have nd := sc_earlier_behind.nd
  refine fun_ok (k := 0) (g := GP.earlier_behind.g) Fn sc_earlier_behind (fun cdv A outer s H E hr => ?_) (fun ds r hl e => does_run e)
  exact (pssv_cons (psv_if (pt_is (PVw.n (pw_var 0)) (PV.n pv_non)) (pssv_one (psv_ret (pw_var 1))) pssv_nil)
    (pssv_cons (psv_if (pt_is (PVw.n (pw_var 1)) (PV.n pv_non)) (pssv_one (psv_ret (pw_var 0))) pssv_nil)
    (pssv_one (psv_ret (PV.w (pv_min2 rfl T.b_min (pav_cons (pw_var 0) (pav_cons (pw_var 1) pav_nil))))))))
theorem sc_ends_ahead : FnScope ["behind", "low"] ["behind", "low"] (defScope (top 5)) := ⟨rfl, rfl, rfl, by decide +kernel, rfl, by decide +kernel, by decide +kernel⟩
theorem fok_ends_ahead {f : Addr} {fd : FuncData} (Fn : Fun K "ends_ahead" "ends_ahead" (top 5) f fd) (T : Glb K mg)  : FnOk P w K mg base CX0 1 f fd ["behind", "low"] (spF K 2 GP.ends_ahead.f) := by
  have nd := sc_ends_ahead.nd
  refine fun_ok (k := 0) (g := GP.ends_ahead.g) Fn sc_ends_ahead (fun cdv A outer s H E hr => ?_) (fun ds r hl e => does_run e)
  exact (pssv_one (psv_ret (PV.w (pv_and (pv_isnot (PVw.n (pw_var 0)) (PV.n pv_non)) (pv_and (pv_isnot (PVw.n (pw_var 1)) (PV.n pv_non)) (pv_one (pv_le (pw_var 0) (pw_var 1))))))))
theorem sc_meet : FnScope ["one", "other", "low", "behind"] ["one", "other"] (defScope (top 4)) := ⟨rfl, rfl, rfl, by decide +kernel, rfl, by decide +kernel, by decide +kernel⟩
theorem fok_meet {f : Addr} {fd : FuncData} (Fn : Fun K "meet" "meet" (top 4) f fd) (T : Glb K mg) (C_later_low : Cal P w K mg base "later_low" 1 2 GP.later_low.f) (C_earlier_behind : Cal P w K mg base "earlier_behind" 1 2 GP.earlier_behind.f) (C_ends_ahead : Cal P w K mg base "ends_ahead" 1 2 GP.ends_ahead.f) : FnOk P w K mg base CX0 2 f fd ["one", "other"] (spF K 2 GP.meet.f) := by
  have nd := sc_meet.nd
  refine fun_ok (k := 1) (g := GP.meet.g) Fn sc_meet (fun cdv A outer s H E hr => ?_) (fun ds r hl e => does_run e)
  exact (pssv_cons (psv_set (i := 2) nd (pv_callC C_later_low hr (pan_cons (PV.n (pv_ix (pw_var 0) (PV.w pv_int))) (pan_cons (PV.n (pv_ix (pw_var 1) (PV.w pv_int))) pan_nil))))
    (pssv_cons (psv_set (i := 3) nd (pv_callC C_earlier_behind hr (pan_cons (PV.n (pv_ix (pw_var 0) (PV.w pv_int))) (pan_cons (PV.n (pv_ix (pw_var 1) (PV.w pv_int))) pan_nil))))
    (pssv_cons (psv_if (PVn.t (PV.n (pv_callC C_ends_ahead hr (pan_cons (PVw.n (pw_var 3)) (pan_cons (PVw.n (pw_var 2)) pan_nil))))) (pssv_one (psv_ret (PV.w pv_non))) pssv_nil)
    (pssv_one (psv_ret (PV.w (pv_tup (pas_cons (pv_var 2) (pas_cons (pv_var 3) pas_nil)))))))))
theorem sc_knit : FnScope ["rows", "pieces", "low", "behind", "value"] ["rows"] (defScope (top 9)) := ⟨rfl, rfl, rfl, by decide +kernel, rfl, by decide +kernel, by decide +kernel⟩
theorem fok_knit {f : Addr} {fd : FuncData} (Fn : Fun K "knit" "knit" (top 9) f fd) (T : Glb K mg)  : FnOk P w K mg base CX0 1 f fd ["rows"] (spF K 1 GP.knit.f) := by
  have nd := sc_knit.nd
  refine fun_ok (k := 0) (g := GP.knit.g) Fn sc_knit (fun cdv A outer s H E hr => ?_) (fun ds r hl e => does_run e)
  exact (pssv_cons (psv_setO (i := 1) nd (pvf_lst pas_nil))
    (pssv_cons (psv_for PassesOwn.never rfl (piv_seq (pv_var 0)) (pgv_tup (n := 3) rfl (pgsv_cons (pgv_name (i := 2) nd) (pgsv_cons (pgv_name (i := 3) nd) (pgsv_cons (pgv_name (i := 4) nd) pgsv_nil)))) (pssv_cons (psv_if (pt_is (PVw.n (pw_var 4)) (PV.n pv_non)) (pssv_one psv_continue) pssv_nil)
    (pssv_one (psv_if (PWv.t (pwv_and (PVn.t (PVw.n (pw_var 1))) (pwv_and (pt_eq hr (PV.n (pv_ix (PV.w (pv_ix (pw_var 1) (PV.w (pv_neg pv_int)))) (PV.w pv_int))) (PVw.n (pw_var 2))) (pwv_and1 (pt_eq hr (PV.n (pv_ix (PV.w (pv_ix (pw_var 1) (PV.w (pv_neg pv_int)))) (PV.w pv_int))) (PVw.n (pw_var 4))))))) (pssv_one (psv_put (i := 1) (pv_tup (pas_cons (pv_ix (PV.w (pv_ix (pw_var 1) (PV.w (pv_neg pv_int)))) (PV.w pv_int)) (pas_cons (pv_var 3) (pas_cons (pv_var 4) pas_nil)))) (pv_neg pv_int))) (pssv_one (psv_app (i := 1) (pv_tup (pas_cons (pv_var 2) (pas_cons (pv_var 3) (pas_cons (pv_var 4) pas_nil))))))))))
    (pssv_one (psv_retX 1))))
theorem sc_parts_in : FnScope ["pieces", "within", "parts", "low", "behind", "value", "common"] ["pieces", "within"] (defScope (top 10)) := ⟨rfl, rfl, rfl, by decide +kernel, rfl, by decide +kernel, by decide +kernel⟩
theorem fok_parts_in {f : Addr} {fd : FuncData} (Fn : Fun K "parts_in" "parts_in" (top 10) f fd) (T : Glb K mg) (C_meet : Cal P w K mg base "meet" 2 2 GP.meet.f) : FnOk P w K mg base CX0 3 f fd ["pieces", "within"] (spF K 2 GP.parts_in.f) := by
  have nd := sc_parts_in.nd
  refine fun_ok (k := 2) (g := GP.parts_in.g) Fn sc_parts_in (fun cdv A outer s H E hr => ?_) (fun ds r hl e => does_run e)
  exact (pssv_cons (psv_setO (i := 2) nd (pvf_lst pas_nil))
    (pssv_cons (psv_for PassesOwn.never rfl (piv_seq (pv_var 0)) (pgv_tup (n := 3) rfl (pgsv_cons (pgv_name (i := 3) nd) (pgsv_cons (pgv_name (i := 4) nd) (pgsv_cons (pgv_name (i := 5) nd) pgsv_nil)))) (pssv_cons (psv_set (i := 6) nd (pv_callC C_meet hr (pan_cons (PV.n (pv_tup (pas_cons (pv_var 3) (pas_cons (pv_var 4) pas_nil)))) (pan_cons (PVw.n (pw_var 1)) pan_nil))))
    (pssv_one (psv_if (pt_isnot (PVw.n (pw_var 6)) (PV.n pv_non)) (pssv_one (psv_app (i := 2) (pv_tup (pas_cons (pv_ix (pw_var 6) (PV.w pv_int)) (pas_cons (pv_ix (pw_var 6) (PV.w pv_int)) (pas_cons (pv_var 5) pas_nil)))))) pssv_nil))))
    (pssv_one (psv_retX 2))))
theorem sc_runs_of : FnScope ["pieces", "runs", "here", "low", "behind", "value"] ["pieces"] (defScope (top 11)) := ⟨rfl, rfl, rfl, by decide +kernel, rfl, by decide +kernel, by decide +kernel⟩
theorem fok_runs_of {f : Addr} {fd : FuncData} (Fn : Fun K "runs_of" "runs_of" (top 11) f fd) (T : Glb K mg)  : FnOk P w K mg base CX0 1 f fd ["pieces"] (spF K 1 GP.runs_of.f) := by
  have nd := sc_runs_of.nd
  refine fun_ok (k := 0) (g := GP.runs_of.g) Fn sc_runs_of (fun cdv A outer s H E hr => ?_) (fun ds r hl e => does_run e)
  exact (pssv_cons (psv_setO (i := 1) nd (pvf_lst pas_nil))
    (pssv_cons (psv_set (i := 2) nd pv_non)
    (pssv_cons (psv_for PassesOwn.never rfl (piv_seq (pv_var 0)) (pgv_tup (n := 3) rfl (pgsv_cons (pgv_name (i := 3) nd) (pgsv_cons (pgv_name (i := 4) nd) (pgsv_cons (pgv_name (i := 5) nd) pgsv_nil)))) (pssv_cons (psv_if (pt_ne hr (PVw.n (pw_var 3)) (PVw.n (pw_var 2))) (pssv_one (psv_app (i := 1) (pv_tup (pas_cons (pv_var 2) (pas_cons (pv_var 3) (pas_cons pv_non pas_nil)))))) pssv_nil)
    (pssv_cons (psv_app (i := 1) (pv_tup (pas_cons (pv_var 3) (pas_cons (pv_var 4) (pas_cons (pv_var 5) pas_nil)))))
    (pssv_one (psv_set (i := 2) nd (pv_var 4))))))
    (pssv_cons (psv_if (PWv.t (pwv_or (pt_isnot (PVw.n (pw_var 2)) (PV.n pv_non)) (pwv_or1 (ptv_not (PVn.t (PVw.n (pw_var 0))))))) (pssv_one (psv_app (i := 1) (pv_tup (pas_cons (pv_var 2) (pas_cons pv_non (pas_cons pv_non pas_nil)))))) pssv_nil)
    (pssv_one (psv_retX 1))))))
theorem lamg__law_any_test_0 {f mc mp : Addr} (T : Glb K mg) (M : Mkr K "_law_any_test" 5 (top 26) f mc mp)   : LamGood P w K mg base 1 5 0 (lamF 1 K63.lam__law_any_test_0) := by
  refine lam_good (k := 0) (ps := ["_law_value"]) (t := (laT "_law_any_test" (stE (stN 3 (defBody (top 26)))))) ((M.tx 0).trans (by kernel_rfl)) (lam_scope (by kernel_rfl)) rfl ?_ ?_
  · intro fd h1 h2 h3 us hl
    cases fd
    cases h1
    cases h2
    cases h3
    exact match us, hl with | [_], _ => rfl
  · intro f' cd cl A outer s H hr
    exact (PV.n (pv_dget2 hr (pv_var 1) (pv_var 0) pv_bl))
theorem lamg__law_test_0 {f mc mp : Addr} (T : Glb K mg) (M : Mkr K "_law_test" 6 (top 30) f mc mp)   : LamGood P w K mg base 1 6 0 (lamF 1 K63.lam__law_test_0) := by
  refine lam_good (k := 0) (ps := ["_law_value"]) (t := (laT "_law_test" (stE (stN 0 (stB (stN 1 (defBody (top 30)))))))) ((M.tx 0).trans (by kernel_rfl)) (lam_scope (by kernel_rfl)) rfl ?_ ?_
  · intro fd h1 h2 h3 us hl
    cases fd
    cases h1
    cases h2
    cases h3
    exact match us, hl with | [_], _ => rfl
  · intro f' cd cl A outer s H hr
    exact (PV.n (pv_is (PVw.n (pw_var 0)) (PV.n pv_non)))
theorem lamg__law_test_1 {f mc mp : Addr} (T : Glb K mg) (M : Mkr K "_law_test" 6 (top 30) f mc mp)   : LamGood P w K mg base 1 6 1 (lamF 1 K63.lam__law_test_1) := by
  refine lam_good (k := 0) (ps := ["_law_value"]) (t := (laT "_law_test" (stE (stN 0 (stB (stN 2 (defBody (top 30)))))))) ((M.tx 1).trans (by kernel_rfl)) (lam_scope (by kernel_rfl)) rfl ?_ ?_
  · intro fd h1 h2 h3 us hl
    cases fd
    cases h1
    cases h2
    cases h3
    exact match us, hl with | [_], _ => rfl
  · intro f' cd cl A outer s H hr
    exact (PV.n (pv_isnot (PVw.n (pw_var 0)) (PV.n pv_non)))
theorem lamg__law_test_2 {f mc mp : Addr} (T : Glb K mg) (M : Mkr K "_law_test" 6 (top 30) f mc mp)   : LamGood P w K mg base 1 6 2 (lamF 1 K63.lam__law_test_2) := by
  refine lam_good (k := 0) (ps := ["_law_value"]) (t := (laT "_law_test" (stE (stN 0 (stB (stN 3 (defBody (top 30)))))))) ((M.tx 2).trans (by kernel_rfl)) (lam_scope (by kernel_rfl)) rfl ?_ ?_
  · intro fd h1 h2 h3 us hl
    cases fd
    cases h1
    cases h2
    cases h3
    exact match us, hl with | [_], _ => rfl
  · intro f' cd cl A outer s H hr
    exact (PV.n (pv_eq hr (PVw.n (pw_var 0)) (PVw.n (pw_var 1))))
theorem lamg__law_test_3 {f mc mp : Addr} (T : Glb K mg) (M : Mkr K "_law_test" 6 (top 30) f mc mp)   : LamGood P w K mg base 1 6 3 (lamF 1 K63.lam__law_test_3) := by
  refine lam_good (k := 0) (ps := ["_law_value"]) (t := (laT "_law_test" (stE (stN 0 (stB (stN 4 (defBody (top 30)))))))) ((M.tx 3).trans (by kernel_rfl)) (lam_scope (by kernel_rfl)) rfl ?_ ?_
  · intro fd h1 h2 h3 us hl
    cases fd
    cases h1
    cases h2
    cases h3
    exact match us, hl with | [_], _ => rfl
  · intro f' cd cl A outer s H hr
    exact (PV.n (pv_ne hr (PVw.n (pw_var 0)) (PVw.n (pw_var 1))))
theorem lamg__law_test_4 {f mc mp : Addr} (T : Glb K mg) (M : Mkr K "_law_test" 6 (top 30) f mc mp)   : LamGood P w K mg base 1 6 4 (lamF 1 K63.lam__law_test_4) := by
  refine lam_good (k := 0) (ps := ["_law_value"]) (t := (laT "_law_test" (stE (stN 0 (stB (stN 5 (defBody (top 30)))))))) ((M.tx 4).trans (by kernel_rfl)) (lam_scope (by kernel_rfl)) rfl ?_ ?_
  · intro fd h1 h2 h3 us hl
    cases fd
    cases h1
    cases h2
    cases h3
    exact match us, hl with | [_], _ => rfl
  · intro f' cd cl A outer s H hr
    exact (PV.n (pv_and (pv_isnot (PVw.n (pw_var 0)) (PV.n pv_non)) (pv_one (pv_eq hr (PV.n (pv_modI (pw_var 0) (PV.w pv_int))) (PV.n (pv_modI (pw_var 1) (PV.w pv_int)))))))
theorem lamg__law_test_5 {f mc mp : Addr} (T : Glb K mg) (M : Mkr K "_law_test" 6 (top 30) f mc mp)   : LamGood P w K mg base 1 6 5 (lamF 1 K63.lam__law_test_5) := by
  refine lam_good (k := 0) (ps := ["_law_value"]) (t := (laT "_law_test" (stE (stN 0 (stB (stN 6 (defBody (top 30)))))))) ((M.tx 5).trans (by kernel_rfl)) (lam_scope (by kernel_rfl)) rfl ?_ ?_
  · intro fd h1 h2 h3 us hl
    cases fd
    cases h1
    cases h2
    cases h3
    exact match us, hl with | [_], _ => rfl
  · intro f' cd cl A outer s H hr
    exact (PV.n (pv_or (pv_is (PVw.n (pw_var 0)) (PV.n pv_non)) (pv_one (pv_eq hr (PV.n (pv_modI (pw_var 0) (PV.w pv_int))) (PV.n (pv_modI (pw_var 1) (PV.w pv_int)))))))
theorem lamg__law_test_6 {f mc mp : Addr} (T : Glb K mg) (M : Mkr K "_law_test" 6 (top 30) f mc mp)   : LamGood P w K mg base 1 6 6 (lamF 1 K63.lam__law_test_6) := by
  refine lam_good (k := 0) (ps := ["_law_value"]) (t := (laT "_law_test" (stE (stN 0 (stB (stN 7 (defBody (top 30)))))))) ((M.tx 6).trans (by kernel_rfl)) (lam_scope (by kernel_rfl)) rfl ?_ ?_
  · intro fd h1 h2 h3 us hl
    cases fd
    cases h1
    cases h2
    cases h3
    exact match us, hl with | [_], _ => rfl
  · intro f' cd cl A outer s H hr
    exact (PV.n (pv_and (pv_isnot (PVw.n (pw_var 0)) (PV.n pv_non)) (pv_one (pv_ge (pw_var 0) (pw_var 1)))))
theorem lamg__law_test_7 {f mc mp : Addr} (T : Glb K mg) (M : Mkr K "_law_test" 6 (top 30) f mc mp)   : LamGood P w K mg base 1 6 7 (lamF 1 K63.lam__law_test_7) := by
  refine lam_good (k := 0) (ps := ["_law_value"]) (t := (laT "_law_test" (stE (stN 8 (defBody (top 30)))))) ((M.tx 7).trans (by kernel_rfl)) (lam_scope (by kernel_rfl)) rfl ?_ ?_
  · intro fd h1 h2 h3 us hl
    cases fd
    cases h1
    cases h2
    cases h3
    exact match us, hl with | [_], _ => rfl
  · intro f' cd cl A outer s H hr
    exact (PV.n (pv_eq hr (PVw.n (pw_var 1)) (PV.n pv_int)))
theorem lamg_holding_0 {f mc mp : Addr} (T : Glb K mg) (M : Mkr K "holding" 4 (top 16) f mc mp) (CO : CloOk P w K mg base 1 K63.Phi0)  : LamGood P w K mg base 2 4 0 (lamF 1 K63.lam_holding_0) := by
  refine lam_good (k := 1) (ps := ["value"]) (t := (laT "holding" (exA 1 (stE (stN 0 (defBody (top 16))))))) ((M.tx 0).trans (by kernel_rfl)) (lam_scope (by kernel_rfl)) rfl ?_ ?_
  · intro fd h1 h2 h3 us hl
    cases fd
    cases h1
    cases h2
    cases h3
    exact match us, hl with | [_], _ => rfl
  · intro f' cd cl A outer s H hr
    exact (PV.n (pv_if (PVn.t (PV.n (pv_callW (i := 1) CO hr (pan_cons (PVw.n (pw_var 0)) pan_nil)))) pv_int pv_non))
theorem clo_ok0 (T : Glb K mg)  {f_holding mc_holding mp_holding : Addr} (M_holding : Mkr K "holding" 4 (top 16) f_holding mc_holding mp_holding) {f__law_any_test mc__law_any_test mp__law_any_test : Addr} (M__law_any_test : Mkr K "_law_any_test" 5 (top 26) f__law_any_test mc__law_any_test mp__law_any_test) {f__law_test mc__law_test mp__law_test : Addr} (M__law_test : Mkr K "_law_test" 6 (top 30) f__law_test mc__law_test mp__law_test)  : CloOk P w K mg base 1 K63.Phi0 := by
  refine clo_of (fun p hp => ?_) fun p hp hm => ?_
  · rcases List.mem_cons.mp hp with rfl | hp
    · exact (lamg__law_any_test_0 T M__law_any_test  )
    rcases List.mem_cons.mp hp with rfl | hp
    · exact (lamg__law_test_0 T M__law_test  )
    rcases List.mem_cons.mp hp with rfl | hp
    · exact (lamg__law_test_1 T M__law_test  )
    rcases List.mem_cons.mp hp with rfl | hp
    · exact (lamg__law_test_2 T M__law_test  )
    rcases List.mem_cons.mp hp with rfl | hp
    · exact (lamg__law_test_3 T M__law_test  )
    rcases List.mem_cons.mp hp with rfl | hp
    · exact (lamg__law_test_4 T M__law_test  )
    rcases List.mem_cons.mp hp with rfl | hp
    · exact (lamg__law_test_5 T M__law_test  )
    rcases List.mem_cons.mp hp with rfl | hp
    · exact (lamg__law_test_6 T M__law_test  )
    rcases List.mem_cons.mp hp with rfl | hp
    · exact (lamg__law_test_7 T M__law_test  )
    cases hp
  · rcases List.mem_cons.mp hp with rfl | hp
    · exact absurd (show (5 : Nat) = 1000 from hm) (by decide)
    rcases List.mem_cons.mp hp with rfl | hp
    · exact absurd (show (6 : Nat) = 1000 from hm) (by decide)
    rcases List.mem_cons.mp hp with rfl | hp
    · exact absurd (show (6 : Nat) = 1000 from hm) (by decide)
    rcases List.mem_cons.mp hp with rfl | hp
    · exact absurd (show (6 : Nat) = 1000 from hm) (by decide)
    rcases List.mem_cons.mp hp with rfl | hp
    · exact absurd (show (6 : Nat) = 1000 from hm) (by decide)
    rcases List.mem_cons.mp hp with rfl | hp
    · exact absurd (show (6 : Nat) = 1000 from hm) (by decide)
    rcases List.mem_cons.mp hp with rfl | hp
    · exact absurd (show (6 : Nat) = 1000 from hm) (by decide)
    rcases List.mem_cons.mp hp with rfl | hp
    · exact absurd (show (6 : Nat) = 1000 from hm) (by decide)
    rcases List.mem_cons.mp hp with rfl | hp
    · exact absurd (show (6 : Nat) = 1000 from hm) (by decide)
    cases hp
theorem clo_ok (T : Glb K mg) (CO : CloOk P w K mg base 1 K63.Phi0) {f_holding mc_holding mp_holding : Addr} (M_holding : Mkr K "holding" 4 (top 16) f_holding mc_holding mp_holding) {f__law_any_test mc__law_any_test mp__law_any_test : Addr} (M__law_any_test : Mkr K "_law_any_test" 5 (top 26) f__law_any_test mc__law_any_test mp__law_any_test) {f__law_test mc__law_test mp__law_test : Addr} (M__law_test : Mkr K "_law_test" 6 (top 30) f__law_test mc__law_test mp__law_test)  : CloOk P w K mg base 2 K63.Phi := by
  refine clo_of (fun p hp => ?_) fun p hp hm => ?_
  · rcases List.mem_cons.mp hp with rfl | hp
    · exact (LamGood.mono (lamg__law_any_test_0 T M__law_any_test  ) (by decide))
    rcases List.mem_cons.mp hp with rfl | hp
    · exact (LamGood.mono (lamg__law_test_0 T M__law_test  ) (by decide))
    rcases List.mem_cons.mp hp with rfl | hp
    · exact (LamGood.mono (lamg__law_test_1 T M__law_test  ) (by decide))
    rcases List.mem_cons.mp hp with rfl | hp
    · exact (LamGood.mono (lamg__law_test_2 T M__law_test  ) (by decide))
    rcases List.mem_cons.mp hp with rfl | hp
    · exact (LamGood.mono (lamg__law_test_3 T M__law_test  ) (by decide))
    rcases List.mem_cons.mp hp with rfl | hp
    · exact (LamGood.mono (lamg__law_test_4 T M__law_test  ) (by decide))
    rcases List.mem_cons.mp hp with rfl | hp
    · exact (LamGood.mono (lamg__law_test_5 T M__law_test  ) (by decide))
    rcases List.mem_cons.mp hp with rfl | hp
    · exact (LamGood.mono (lamg__law_test_6 T M__law_test  ) (by decide))
    rcases List.mem_cons.mp hp with rfl | hp
    · exact (LamGood.mono (lamg__law_test_7 T M__law_test  ) (by decide))
    rcases List.mem_cons.mp hp with rfl | hp
    · exact (lamg_holding_0 T M_holding CO )
    cases hp
  · rcases List.mem_cons.mp hp with rfl | hp
    · exact absurd (show (5 : Nat) = 1000 from hm) (by decide)
    rcases List.mem_cons.mp hp with rfl | hp
    · exact absurd (show (6 : Nat) = 1000 from hm) (by decide)
    rcases List.mem_cons.mp hp with rfl | hp
    · exact absurd (show (6 : Nat) = 1000 from hm) (by decide)
    rcases List.mem_cons.mp hp with rfl | hp
    · exact absurd (show (6 : Nat) = 1000 from hm) (by decide)
    rcases List.mem_cons.mp hp with rfl | hp
    · exact absurd (show (6 : Nat) = 1000 from hm) (by decide)
    rcases List.mem_cons.mp hp with rfl | hp
    · exact absurd (show (6 : Nat) = 1000 from hm) (by decide)
    rcases List.mem_cons.mp hp with rfl | hp
    · exact absurd (show (6 : Nat) = 1000 from hm) (by decide)
    rcases List.mem_cons.mp hp with rfl | hp
    · exact absurd (show (6 : Nat) = 1000 from hm) (by decide)
    rcases List.mem_cons.mp hp with rfl | hp
    · exact absurd (show (6 : Nat) = 1000 from hm) (by decide)
    rcases List.mem_cons.mp hp with rfl | hp
    · exact absurd (show (4 : Nat) = 1000 from hm) (by decide)
    cases hp
theorem sc_turned : FnScope ["pieces", "way"] ["pieces", "way"] (defScope (top 13)) := ⟨rfl, rfl, rfl, by decide +kernel, rfl, by decide +kernel, by decide +kernel⟩
theorem fok_turned {f : Addr} {fd : FuncData} (Fn : Fun K "turned" "turned" (top 13) f fd) (T : Glb K mg) (C_knit : Cal P w K mg base "knit" 1 1 GP.knit.f) (C_runs_of : Cal P w K mg base "runs_of" 1 1 GP.runs_of.f) (CO : CloOk P w K mg base 2 K63.Phi) : FnOk P w K mg base CX0 3 f fd ["pieces", "way"] (spF K 2 (GP.turned.f K63.Phi)) := by
  have nd := sc_turned.nd
  have nI0 : (["low", "behind", "value", "way"] : List Str).Nodup := by decide +kernel
  refine fun_ok (k := 2) (g := (GP.turned.g K63.Phi)) Fn sc_turned (fun cdv A outer s H E hr => ?_) (fun ds r hl e => does_run e)
  exact (pssv_one (psv_retF (pvf_callC C_knit hr (pan_cons (PV.n (PVf.s (pvf_comp (NY := ["low", "behind", "value", "way"]) (mp := [none, none, none, some 1]) (comp_scope (by kernel_rfl)) rfl (piv_seq (pv_callC C_runs_of hr (pan_cons (PVw.n (pw_var 0)) pan_nil))) (fun c => (pgv_tup (n := 3) rfl (pgsv_cons (pgv_name (i := 0) nI0) (pgsv_cons (pgv_name (i := 1) nI0) (pgsv_cons (pgv_name (i := 2) nI0) pgsv_nil))))) (fun c => pfv_nil) (fun c => (pv_tup (pas_cons (pv_var 0) (pas_cons (pv_var 1) (pas_cons (pv_callW (i := 3) CO hr (pan_cons (PVw.n (pw_var 2)) pan_nil)) pas_nil)))))))) pan_nil))))
theorem sc_holding : FnScope ["pieces", "test"] ["pieces", "test"] (defScope (top 16)) := ⟨rfl, rfl, rfl, by decide +kernel, rfl, by decide +kernel, by decide +kernel⟩
theorem fok_holding {f : Addr} {fd : FuncData} (Fn : Fun K "holding" "holding" (top 16) f fd) (T : Glb K mg) (C_turned : Cal P w K mg base "turned" 3 2 (GP.turned.f K63.Phi)) {mc mp : Addr} (M : Mkr K "holding" 4 (top 16) f mc mp) : FnOk P w K mg base CX0 4 f fd ["pieces", "test"] (spF K 2 (GP.holding.f K63.Phi)) := by
  have nd := sc_holding.nd
  refine fun_okM (k := 3) (g := (GP.holding.g K63.Phi)) Fn sc_holding M (fun A outer s H E hr => ?_) (fun ds r hl e => does_run e)
  exact (pssv_one (psv_retF (pvf_callL (t := laT "holding" (exA 1 (stE (stN 0 (defBody (top 16)))))) (j := 0) (is := [1]) C_turned hr M (pal_cons (PVw.n (pw_var 0)) (pal_lamM (is := [1]) M (by kernel_rfl))) (by kernel_rfl) (by kernel_rfl))))
theorem sc_first_run : FnScope ["pieces", "start", "many", "test", "paper", "low", "behind", "held"] ["pieces", "start", "many", "test"] (defScope (top 15)) := ⟨rfl, rfl, rfl, by decide +kernel, rfl, by decide +kernel, by decide +kernel⟩
theorem fok_first_run {f : Addr} {fd : FuncData} (Fn : Fun K "first_run" "first_run" (top 15) f fd) (T : Glb K mg) (C_parts_in : Cal P w K mg base "parts_in" 3 2 GP.parts_in.f) (C_runs_of : Cal P w K mg base "runs_of" 1 1 GP.runs_of.f) (C_holding : Cal P w K mg base "holding" 4 2 (GP.holding.f K63.Phi)) : FnOk P w K mg base CX0 5 f fd ["pieces", "start", "many", "test"] (spF K 4 (GP.first_run.f K63.Phi)) := by
  have nd := sc_first_run.nd
  refine fun_ok (k := 4) (g := (GP.first_run.g K63.Phi)) Fn sc_first_run (fun cdv A outer s H E hr => ?_) (fun ds r hl e => does_run e)
  exact (pssv_cons (psv_if (pt_lt (pw_var 2) (PV.w pv_int)) (pssv_one psv_never) pssv_nil)
    (pssv_cons (psv_setO (i := 4) nd (pvf_lst pas_nil))
    (pssv_cons (psv_for PassesOwn.never rfl (piv_seq (pv_callC C_parts_in hr (pan_cons (PV.n (pv_callC C_runs_of hr (pan_cons (PV.n (pv_callC C_holding hr (pan_cons (PVw.n (pw_var 0)) (pan_cons (PVw.n (pw_var 3)) pan_nil)))) pan_nil))) (pan_cons (PV.n (pv_tup (pas_cons (pv_var 1) (pas_cons pv_non pas_nil)))) pan_nil)))) (pgv_tup (n := 3) rfl (pgsv_cons (pgv_name (i := 5) nd) (pgsv_cons (pgv_name (i := 6) nd) (pgsv_cons (pgv_name (i := 7) nd) pgsv_nil)))) (pssv_one (psv_if (pt_is (PVw.n (pw_var 7)) (PV.n pv_non)) (pssv_one (psv_app (i := 4) (pv_tup (pas_cons (pv_var 5) (pas_cons (pv_var 6) pas_nil))))) (pssv_one (psv_if (PWv.t (pwv_or (pt_is (PVw.n (pw_var 6)) (PV.n pv_non)) (pwv_or1 (pt_ge (PV.w (pv_subI (pw_var 6) (pw_var 5))) (pw_var 2))))) (pssv_one (psv_retE (pve_tup (pae_cons (PVd.e (PV.d (pv_var 5))) (pae_cons (pve_own 4) pae_nil))))) pssv_nil)))))
    (pssv_one (psv_retE (pve_tup (pae_cons (PVd.e (PV.d pv_non)) (pae_cons (pve_own 4) pae_nil))))))))
theorem sc__law_whole : FnScope ["_law_found"] ["_law_found"] (defScope (top 18)) := ⟨rfl, rfl, rfl, by decide +kernel, rfl, by decide +kernel, by decide +kernel⟩
theorem fok__law_whole {f : Addr} {fd : FuncData} (Fn : Fun K "_law_whole" "_law_whole" (top 18) f fd) (T : Glb K mg)  : FnOk P w K mg base CX0 1 f fd ["_law_found"] (spF K 1 GL.whole.f) := by
  have nd := sc__law_whole.nd
  refine fun_ok (k := 0) (g := GL.whole.g) Fn sc__law_whole (fun cdv A outer s H E hr => ?_) (fun ds r hl e => does_run e)
  exact (pssv_one (psv_ret (PV.w (pv_and (pv_isi T.b_isinstance T.b_int (by decide +kernel) (pw_var 0)) (pv_one (pv_not (pv_isi T.b_isinstance T.b_bool (by decide +kernel) (pw_var 0))))))))
theorem sc__law_cell_at : FnScope ["_law_script", "_law_k"] ["_law_script", "_law_k"] (defScope (top 19)) := ⟨rfl, rfl, rfl, by decide +kernel, rfl, by decide +kernel, by decide +kernel⟩
theorem fok__law_cell_at {f : Addr} {fd : FuncData} (Fn : Fun K "_law_cell_at" "_law_cell_at" (top 19) f fd) (T : Glb K mg)  : FnOk P w K mg base CX0 1 f fd ["_law_script", "_law_k"] (spF K 2 GL.cell_at.f) := by
  have nd := sc__law_cell_at.nd
  refine fun_ok (k := 0) (g := GL.cell_at.g) Fn sc__law_cell_at (fun cdv A outer s H E hr => ?_) (fun ds r hl e => does_run e)
  exact (pssv_cons (psv_if (pt_lt (pw_var 1) (PV.w (pv_len T.b_len (pav_cons (pw_var 0) pav_nil)))) (pssv_one (psv_ret (PV.w (pv_ix (pw_var 0) (pw_var 1))))) pssv_nil)
    (pssv_one (psv_ret (PV.w pv_int))))
theorem sc__law_map : FnScope ["_law_cells", "_law_pieces", "_law_behind", "_law_cell", "_law_rest", "_law_low", "_law_far_here", "_law_value"] ["_law_cells"] (defScope (top 20)) := ⟨rfl, rfl, rfl, by decide +kernel, rfl, by decide +kernel, by decide +kernel⟩
theorem fok__law_map {f : Addr} {fd : FuncData} (Fn : Fun K "_law_map" "_law_map" (top 20) f fd) (T : Glb K mg)  : FnOk P w K mg base CX0 1 f fd ["_law_cells"] (spF K 1 GL.map4.f) := by
  have nd := sc__law_map.nd
  refine fun_ok (k := 0) (g := GL.map4.g) Fn sc__law_map (fun cdv A outer s H E hr => ?_) (fun ds r hl e => does_run e)
  exact (pssv_cons (psv_setO (i := 1) nd (pvf_lst pas_nil))
    (pssv_cons (psv_set (i := 2) nd pv_int)
    (pssv_cons (psv_for PassesOwn.never rfl (piv_seq (pv_var 0)) (pgv_name (i := 3) nd) (pssv_cons (psv_set (i := 4) nd (pv_divI (pw_var 3) (PV.w pv_int)))
    (pssv_cons (psv_set (i := 5) nd (pv_addI (pw_var 2) (PV.w (pv_ix (PV.w (PVf.s (pvf_lst (pas_cons pv_int (pas_cons pv_int (pas_cons (pv_addI (PV.w pv_int) (PV.w (pv_modI (pw_var 4) (PV.w pv_int)))) (pas_cons (pv_modI (pw_var 4) (PV.w (pv_powI (PV.w pv_int) (PV.w pv_int)))) pas_nil))))))) (PV.w (pv_modI (pw_var 3) (PV.w pv_int)))))))
    (pssv_cons (psv_if (pt_eq hr (PVw.n (pw_var 1)) (PV.n (PVf.s (pvf_lst pas_nil)))) (pssv_cons (psv_set (i := 6) nd (pv_mulI (PV.w pv_int) (PV.w (pv_powI (PV.w (pv_powI (PV.w pv_int) (PV.w pv_int))) (PV.w pv_int)))))
    (pssv_one (psv_set (i := 5) nd (pv_ix (PV.w (PVf.s (pvf_lst (pas_cons (pv_subI (PV.w (pv_modI (pw_var 4) (PV.w pv_int))) (PV.w pv_int)) (pas_cons (pv_modI (pw_var 4) (PV.w (pv_powI (PV.w pv_int) (PV.w pv_int)))) (pas_cons (pv_addI (pw_var 6) (PV.w (pv_modI (pw_var 4) (PV.w (pv_powI (PV.w pv_int) (PV.w pv_int)))))) (pas_cons (pv_subI (PV.w pv_int) (pw_var 6)) pas_nil))))))) (PV.w (pv_modI (pw_var 3) (PV.w pv_int))))))) pssv_nil)
    (pssv_cons (psv_set (i := 7) nd (pv_ix (PV.w (PVf.s (pvf_lst (pas_cons pv_int (pas_cons pv_int (pas_cons (pv_subI (PV.w (pv_modI (pw_var 4) (PV.w pv_int))) (PV.w pv_int)) (pas_cons (pv_subI (PV.w (pv_modI (PV.w (pv_mulI (pw_var 4) (PV.w pv_int))) (PV.w (pv_addI (PV.w (pv_powI (PV.w pv_int) (PV.w pv_int))) (PV.w pv_int))))) (PV.w (pv_powI (PV.w pv_int) (PV.w pv_int)))) (pas_cons pv_int pas_nil)))))))) (PV.w (pv_modI (PV.w (pv_divI (pw_var 3) (PV.w pv_int))) (PV.w pv_int)))))
    (pssv_cons (psv_if (PWv.t (pwv_and (pt_ne hr (PVw.n (pw_var 1)) (PV.n (PVf.s (pvf_lst pas_nil)))) (pwv_and (pt_eq hr (PVw.n (pw_var 5)) (PVw.n (pw_var 2))) (pwv_and1 (pt_eq hr (PVw.n (pw_var 7)) (PV.n (pv_ix (PV.w (pv_ix (pw_var 1) (PV.w (pv_neg pv_int)))) (PV.w pv_int)))))))) (pssv_one (psv_set (i := 7) nd (pv_addI (pw_var 7) (PV.w pv_int)))) pssv_nil)
    (pssv_cons (psv_set (i := 2) nd (pv_addI (pw_var 5) (PV.w (pv_ix (PV.w (PVf.s (pvf_lst (pas_cons pv_int (pas_cons (pv_addI (PV.w pv_int) (PV.w (pv_modI (PV.w (pv_divI (pw_var 4) (PV.w pv_int))) (PV.w pv_int)))) (pas_cons (pv_addI (PV.w pv_int) (PV.w (pv_modI (PV.w (pv_mulI (pw_var 4) (PV.w pv_int))) (PV.w (pv_addI (PV.w (pv_powI (PV.w pv_int) (PV.w pv_int))) (PV.w pv_int)))))) pas_nil)))))) (PV.w (pv_modI (PV.w (pv_divI (pw_var 3) (PV.w pv_int))) (PV.w pv_int)))))))
    (pssv_one (psv_app (i := 1) (pv_tup (pas_cons (pv_var 5) (pas_cons (pv_var 2) (pas_cons (pv_var 7) pas_nil)))))))))))))
    (pssv_cons (psv_if (PWv.t (pwv_and (pt_ne hr (PVw.n (pw_var 1)) (PV.n (PVf.s (pvf_lst pas_nil)))) (pwv_and1 (pt_eq hr (PV.n (pv_modI (PV.w (pv_divI (PV.w (pv_ix (pw_var 0) (PV.w pv_int))) (PV.w pv_int))) (PV.w pv_int))) (PV.n pv_int))))) (pssv_one (psv_put (i := 1) (pv_tup (pas_cons pv_non (pas_cons (pv_ix (PV.w (pv_ix (pw_var 1) (PV.w pv_int))) (PV.w pv_int)) (pas_cons (pv_ix (PV.w (pv_ix (pw_var 1) (PV.w pv_int))) (PV.w pv_int)) pas_nil)))) pv_int)) pssv_nil)
    (pssv_cons (psv_if (PWv.t (pwv_and (pt_ne hr (PVw.n (pw_var 1)) (PV.n (PVf.s (pvf_lst pas_nil)))) (pwv_and1 (pt_eq hr (PV.n (pv_modI (PV.w (pv_divI (PV.w (pv_ix (pw_var 0) (PV.w (pv_neg pv_int)))) (PV.w pv_int))) (PV.w pv_int))) (PV.n pv_int))))) (pssv_one (psv_put (i := 1) (pv_tup (pas_cons (pv_ix (PV.w (pv_ix (pw_var 1) (PV.w (pv_neg pv_int)))) (PV.w pv_int)) (pas_cons pv_non (pas_cons (pv_ix (PV.w (pv_ix (pw_var 1) (PV.w (pv_neg pv_int)))) (PV.w pv_int)) pas_nil)))) (pv_neg pv_int))) pssv_nil)
    (pssv_cons (psv_if (PWv.t (pwv_and (pt_eq hr (PV.n (pv_len T.b_len (pav_cons (pw_var 1) pav_nil))) (PV.n pv_int)) (pwv_and1 (pt_eq hr (PV.n (pv_modI (PV.w (pv_divI (PV.w (pv_ix (pw_var 0) (PV.w pv_int))) (PV.w pv_int))) (PV.w pv_int))) (PV.n pv_int))))) (pssv_one (psv_put (i := 1) (pv_tup (pas_cons pv_non (pas_cons pv_non (pas_cons (pv_ix (PV.w (pv_ix (pw_var 1) (PV.w pv_int))) (PV.w pv_int)) pas_nil)))) pv_int)) pssv_nil)
    (pssv_one (psv_retX 1))))))))
theorem sc__law_mixed : FnScope ["_law_cell"] ["_law_cell"] (defScope (top 21)) := ⟨rfl, rfl, rfl, by decide +kernel, rfl, by decide +kernel, by decide +kernel⟩
theorem fok__law_mixed {f : Addr} {fd : FuncData} (Fn : Fun K "_law_mixed" "_law_mixed" (top 21) f fd) (T : Glb K mg)  : FnOk P w K mg base CX0 1 f fd ["_law_cell"] (spF K 1 GL.mixed.f) := by
  have nd := sc__law_mixed.nd
  refine fun_ok (k := 0) (g := GL.mixed.g) Fn sc__law_mixed (fun cdv A outer s H E hr => ?_) (fun ds r hl e => does_run e)
  exact (pssv_one (psv_ret (PV.w (pv_modI (PV.w (pv_powI (PV.w (pv_modI (PV.w (pv_addI (PV.w (pv_mulI (pw_var 0) (PV.w (pv_powI (PV.w pv_int) (PV.w pv_int))))) (PV.w (pv_powI (PV.w pv_int) (PV.w pv_int))))) (PV.w (pv_addI (PV.w (pv_powI (PV.w pv_int) (PV.w pv_int))) (PV.w pv_int))))) (PV.w pv_int))) (PV.w (pv_addI (PV.w (pv_powI (PV.w pv_int) (PV.w pv_int))) (PV.w pv_int)))))))
theorem sc__law_digits : FnScope ["_law_number", "_law_base", "_law_many", "_law_found", "_law_rest", "_law_k"] ["_law_number", "_law_base", "_law_many"] (defScope (top 22)) := ⟨rfl, rfl, rfl, by decide +kernel, rfl, by decide +kernel, by decide +kernel⟩
theorem fok__law_digits {f : Addr} {fd : FuncData} (Fn : Fun K "_law_digits" "_law_digits" (top 22) f fd) (T : Glb K mg) (C__law_mixed : Cal P w K mg base "_law_mixed" 1 1 GL.mixed.f) : FnOk P w K mg base CX0 2 f fd ["_law_number", "_law_base", "_law_many"] (spF K 3 GL.digits.f) := by
  have nd := sc__law_digits.nd
  refine fun_ok (k := 1) (g := GL.digits.g) Fn sc__law_digits (fun cdv A outer s H E hr => ?_) (fun ds r hl e => does_run e)
  exact (pssv_cons (psv_setO (i := 3) nd (pvf_lst pas_nil))
    (pssv_cons (psv_set (i := 4) nd (pv_callC C__law_mixed hr (pan_cons (PVw.n (pw_var 0)) pan_nil)))
    (pssv_cons (psv_for PassesOwn.never rfl (piv_range1 T.b_range (pv_var 2)) (pgv_name (i := 5) nd) (pssv_cons (psv_if (pt_eq hr (PVw.n (pw_var 0)) (PV.n pv_int)) (pssv_cons (psv_set (i := 4) nd (pv_callC C__law_mixed hr (pan_cons (PVw.n (pw_var 4)) pan_nil)))
    (pssv_one (psv_set (i := 0) nd (pv_addI (PV.w pv_int) (PV.w (pv_modI (PV.w (pv_divI (pw_var 4) (PV.w pv_int))) (PV.w (pv_ix (PV.w (PVf.s (pvf_lst (pas_cons pv_int (pas_cons (pv_powI (PV.w pv_int) (PV.w pv_int)) (pas_cons (pv_powI (PV.w pv_int) (PV.w pv_int)) pas_nil)))))) (PV.w (pv_modI (pw_var 4) (PV.w pv_int))))))))))) pssv_nil)
    (pssv_cons (psv_app (i := 3) (pv_modI (pw_var 0) (pw_var 1)))
    (pssv_one (psv_set (i := 0) nd (pv_divI (pw_var 0) (pw_var 1)))))))
    (pssv_one (psv_retX 3)))))
theorem sc__law_zig : FnScope ["_law_number"] ["_law_number"] (defScope (top 23)) := ⟨rfl, rfl, rfl, by decide +kernel, rfl, by decide +kernel, by decide +kernel⟩
theorem fok__law_zig {f : Addr} {fd : FuncData} (Fn : Fun K "_law_zig" "_law_zig" (top 23) f fd) (T : Glb K mg)  : FnOk P w K mg base CX0 1 f fd ["_law_number"] (spF K 1 GL.zig.f) := by
  have nd := sc__law_zig.nd
  refine fun_ok (k := 0) (g := GL.zig.g) Fn sc__law_zig (fun cdv A outer s H E hr => ?_) (fun ds r hl e => does_run e)
  exact (pssv_one (psv_ret (PV.w (pv_mulI (PV.w (pv_divI (PV.w (pv_addI (pw_var 0) (PV.w pv_int))) (PV.w pv_int))) (PV.w (pv_subI (PV.w pv_int) (PV.w (pv_mulI (PV.w pv_int) (PV.w (pv_modI (pw_var 0) (PV.w pv_int)))))))))))
theorem sc__law_far : FnScope [] [] (defScope (top 24)) := ⟨rfl, rfl, rfl, by decide +kernel, rfl, by decide +kernel, by decide +kernel⟩
theorem fok__law_far {f : Addr} {fd : FuncData} (Fn : Fun K "_law_far" "_law_far" (top 24) f fd) (T : Glb K mg)  : FnOk P w K mg base CX0 1 f fd [] (spF K 0 K63.L_far.f) := by
  have nd := sc__law_far.nd
  refine fun_ok (k := 0) (g := K63.L_far.g) Fn sc__law_far (fun cdv A outer s H E hr => ?_) (fun ds r hl e => does_run e)
  exact (pssv_one (psv_ret (PV.w (pv_mulI (PV.w (pv_powI (PV.w (pv_powI (PV.w pv_int) (PV.w pv_int))) (PV.w pv_int))) (PV.w (pv_powI (PV.w pv_int) (PV.w pv_int)))))))
theorem sc__law_any_map : FnScope ["_law_many", "_law_turn", "_law_ends_cell", "_law_values_cell", "_law_far_here", "_law_ends", "_law_values", "_law_pieces", "_law_k", "_law_low", "_law_behind"] ["_law_many", "_law_turn", "_law_ends_cell", "_law_values_cell"] (defScope (top 25)) := ⟨rfl, rfl, rfl, by decide +kernel, rfl, by decide +kernel, by decide +kernel⟩
theorem fok__law_any_map {f : Addr} {fd : FuncData} (Fn : Fun K "_law_any_map" "_law_any_map" (top 25) f fd) (T : Glb K mg) (C__law_far : Cal P w K mg base "_law_far" 1 0 K63.L_far.f) (C__law_zig : Cal P w K mg base "_law_zig" 1 1 GL.zig.f) (C__law_digits : Cal P w K mg base "_law_digits" 2 3 GL.digits.f) : FnOk P w K mg base CX0 3 f fd ["_law_many", "_law_turn", "_law_ends_cell", "_law_values_cell"] (spF K 4 K63.L_any_map.f) := by
  have nd := sc__law_any_map.nd
  have nI0 : (["_law_one"] : List Str).Nodup := by decide +kernel
  have nI1 : (["_law_one"] : List Str).Nodup := by decide +kernel
  refine fun_ok (k := 2) (g := K63.L_any_map.g) Fn sc__law_any_map (fun cdv A outer s H E hr => ?_) (fun ds r hl e => does_run e)
  exact (pssv_cons (psv_set (i := 4) nd (pv_callC0 C__law_far hr))
    (pssv_cons (psv_set (i := 5) nd (PVf.s (pvf_sorted64 rfl T.b_sorted (PV.w (PVf.s (pvf_comp (NY := ["_law_one"]) (mp := [none]) (comp_scope (by kernel_rfl)) rfl (piv_seq (pv_callC C__law_digits hr (pan_cons (PVw.n (pw_var 2)) (pan_cons (PV.n (pv_addI (PV.w (pv_mulI (PV.w pv_int) (pw_var 4))) (PV.w pv_int))) (pan_cons (PV.n (pv_mulI (PV.w pv_int) (pw_var 0))) pan_nil))))) (fun c => (pgv_name (i := 0) nI0)) (fun c => pfv_nil) (fun c => (pv_callC C__law_zig hr (pan_cons (PVw.n (pw_var 0)) pan_nil)))))))))
    (pssv_cons (psv_compV (i := 6) nd (NY := ["_law_one"]) (mp := [none]) (comp_scope (by kernel_rfl)) rfl (piv_seq (pv_callC C__law_digits hr (pan_cons (PVw.n (pw_var 3)) (pan_cons (PV.n (pv_addI (PV.w (pv_mulI (PV.w pv_int) (pw_var 4))) (PV.w pv_int))) (pan_cons (PVw.n (pw_var 0)) pan_nil))))) (fun c => (pgv_name (i := 0) nI1)) (fun c => pfv_nil) (fun c => (pv_callC C__law_zig hr (pan_cons (PVw.n (pw_var 0)) pan_nil))))
    (pssv_cons (psv_setO (i := 7) nd (pvf_lst pas_nil))
    (pssv_cons (psv_for PassesOwn.never rfl (piv_range1 T.b_range (pv_var 0)) (pgv_name (i := 8) nd) (pssv_cons (psv_asg (PVf.s (pvf_slice (pw_var 5) (pov_so (PV.w (pv_mulI (PV.w pv_int) (pw_var 8)))) (pov_so (PV.w (pv_addI (PV.w (pv_mulI (PV.w pv_int) (pw_var 8))) (PV.w pv_int)))))) (pgv_lst (n := 2) rfl (pgsv_cons (pgv_name (i := 9) nd) (pgsv_cons (pgv_name (i := 10) nd) pgsv_nil))))
    (pssv_one (psv_if (PWv.t (pwv_and (pt_ne hr (PVw.n (pw_var 7)) (PV.n (PVf.s (pvf_lst pas_nil)))) (pwv_and (pt_eq hr (PVw.n (pw_var 9)) (PV.n (pv_ix (PV.w (pv_ix (pw_var 7) (PV.w (pv_neg pv_int)))) (PV.w pv_int)))) (pwv_and1 (pt_eq hr (PV.n (pv_ix (pw_var 6) (pw_var 8))) (PV.n (pv_ix (PV.w (pv_ix (pw_var 7) (PV.w (pv_neg pv_int)))) (PV.w pv_int)))))))) (pssv_one (psv_put (i := 7) (pv_tup (pas_cons (pv_ix (PV.w (pv_ix (pw_var 7) (PV.w (pv_neg pv_int)))) (PV.w pv_int)) (pas_cons (pv_var 10) (pas_cons (pv_ix (pw_var 6) (pw_var 8)) pas_nil)))) (pv_neg pv_int))) (pssv_one (psv_if (pt_lt (pw_var 9) (pw_var 10)) (pssv_one (psv_app (i := 7) (pv_tup (pas_cons (pv_var 9) (pas_cons (pv_var 10) (pas_cons (pv_ix (pw_var 6) (pw_var 8)) pas_nil)))))) pssv_nil))))))
    (pssv_cons (psv_if (PWv.t (pwv_and (pt_ne hr (PVw.n (pw_var 7)) (PV.n (PVf.s (pvf_lst pas_nil)))) (pwv_and1 (pt_eq hr (PV.n (pv_modI (pw_var 1) (PV.w pv_int))) (PV.n pv_int))))) (pssv_one (psv_put (i := 7) (pv_tup (pas_cons pv_non (pas_cons (pv_ix (PV.w (pv_ix (pw_var 7) (PV.w pv_int))) (PV.w pv_int)) (pas_cons (pv_ix (PV.w (pv_ix (pw_var 7) (PV.w pv_int))) (PV.w pv_int)) pas_nil)))) pv_int)) pssv_nil)
    (pssv_cons (psv_if (PWv.t (pwv_and (pt_ne hr (PVw.n (pw_var 7)) (PV.n (PVf.s (pvf_lst pas_nil)))) (pwv_and1 (pt_eq hr (PV.n (pv_modI (PV.w (pv_divI (pw_var 1) (PV.w pv_int))) (PV.w pv_int))) (PV.n pv_int))))) (pssv_one (psv_put (i := 7) (pv_tup (pas_cons (pv_ix (PV.w (pv_ix (pw_var 7) (PV.w (pv_neg pv_int)))) (PV.w pv_int)) (pas_cons pv_non (pas_cons (pv_ix (PV.w (pv_ix (pw_var 7) (PV.w (pv_neg pv_int)))) (PV.w pv_int)) pas_nil)))) (pv_neg pv_int))) pssv_nil)
    (pssv_one (psv_retX 7)))))))))
theorem sc__law_any_test : FnScope ["_law_pieces", "_law_cell", "_law_bits", "_law_table", "_law_k"] ["_law_pieces", "_law_cell"] (defScope (top 26)) := ⟨rfl, rfl, rfl, by decide +kernel, rfl, by decide +kernel, by decide +kernel⟩
theorem fok__law_any_test {f : Addr} {fd : FuncData} (Fn : Fun K "_law_any_test" "_law_any_test" (top 26) f fd) (T : Glb K mg) (C__law_digits : Cal P w K mg base "_law_digits" 2 3 GL.digits.f) {mc mp : Addr} (M : Mkr K "_law_any_test" 5 (top 26) f mc mp) : FnOk P w K mg base CX0 3 f fd ["_law_pieces", "_law_cell"] (spF K 2 K63.L_any_test.f) := by
  have nd := sc__law_any_test.nd
  refine fun_okD (k := 2) (g := K63.L_any_test.g) Fn sc__law_any_test M (fun A outer s H E hr => ?_) (fun ds r hl e => does_run e)
  exact (psdv_cons (psv_set (i := 2) nd (pv_callC C__law_digits hr (pan_cons (PVw.n (pw_var 1)) (pan_cons (PV.n pv_int) (pan_cons (PV.n (pv_addI (PV.w (pv_len T.b_len (pav_cons (pw_var 0) pav_nil))) (PV.w pv_int))) pan_nil)))))
    (psdv_cons (psv_setB (i := 3) nd (pvo_d1 pv_non (pv_eq hr (PV.n (pv_ix (pw_var 2) (PV.w pv_int))) (PV.n pv_int))))
    (psdv_cons (psv_for PassesOwn.never rfl (piv_range1 T.b_range (pv_len T.b_len (pav_cons (pw_var 0) pav_nil))) (pgv_name (i := 4) nd) (pssv_one (psv_dput hr (pvp_var 3) (pv_ix (PV.w (pv_ix (pw_var 0) (pw_var 4))) (PV.w pv_int)) (pv_eq hr (PV.n (pv_ix (pw_var 2) (PV.w (pv_addI (pw_var 4) (PV.w pv_int))))) (PV.n pv_int)))))
    (psdv_dead (pssv_one (psv_frzD (i := 3) (psv_retC2 (pv_lamD (j := 0) (is := [3]) M young_cx (by kernel_rfl) (by kernel_rfl)))))))))
theorem sc__law_end : FnScope ["_law_pieces", "_law_cell", "_law_rest", "_law_ends"] ["_law_pieces", "_law_cell"] (defScope (top 27)) := ⟨rfl, rfl, rfl, by decide +kernel, rfl, by decide +kernel, by decide +kernel⟩
theorem fok__law_end {f : Addr} {fd : FuncData} (Fn : Fun K "_law_end" "_law_end" (top 27) f fd) (T : Glb K mg)  : FnOk P w K mg base CX0 1 f fd ["_law_pieces", "_law_cell"] (spF K 2 GL.end2.f) := by
  have nd := sc__law_end.nd
  have nI0 : (["_law_low", "_law_behind", "_law_value"] : List Str).Nodup := by decide +kernel
  have nI1 : (["_law_low", "_law_behind", "_law_value"] : List Str).Nodup := by decide +kernel
  refine fun_ok (k := 0) (g := GL.end2.g) Fn sc__law_end (fun cdv A outer s H E hr => ?_) (fun ds r hl e => does_run e)
  exact (pssv_cons (psv_set (i := 2) nd (pv_divI (pw_var 1) (PV.w pv_int)))
    (pssv_cons (psv_compV (i := 3) nd (NY := ["_law_low", "_law_behind", "_law_value"]) (mp := [none, none, none]) (comp_scope (by kernel_rfl)) rfl (piv_seq (pv_var 0)) (fun c => (pgv_tup (n := 3) rfl (pgsv_cons (pgv_name (i := 0) nI0) (pgsv_cons (pgv_name (i := 1) nI0) (pgsv_cons (pgv_name (i := 2) nI0) pgsv_nil))))) (fun c => (pfv_one (pt_isnot (PVw.n (pw_var 0)) (PV.n pv_non)))) (fun c => (pv_var 0)))
    (pssv_cons (psv_set (i := 3) nd (PVf.s (pvf_cat (pw_var 3) (PV.w (PVf.s (pvf_comp (NY := ["_law_low", "_law_behind", "_law_value"]) (mp := [none, none, none]) (comp_scope (by kernel_rfl)) rfl (piv_seq (pv_var 0)) (fun c => (pgv_tup (n := 3) rfl (pgsv_cons (pgv_name (i := 0) nI1) (pgsv_cons (pgv_name (i := 1) nI1) (pgsv_cons (pgv_name (i := 2) nI1) pgsv_nil))))) (fun c => (pfv_one (pt_isnot (PVw.n (pw_var 1)) (PV.n pv_non)))) (fun c => (pv_var 1))))))))
    (pssv_cons (psv_if (PWv.t (pwv_and (pt_gt (PV.w (pv_modI (pw_var 1) (PV.w pv_int))) (PV.w pv_int)) (pwv_and1 (pt_ne hr (PVw.n (pw_var 3)) (PV.n (PVf.s (pvf_lst pas_nil))))))) (pssv_one (psv_ret (PV.w (pv_subI (PV.w (pv_addI (PV.w (pv_ix (pw_var 3) (PV.w (pv_modI (pw_var 2) (PV.w (pv_len T.b_len (pav_cons (pw_var 3) pav_nil))))))) (PV.w (pv_modI (PV.w (pv_divI (pw_var 2) (PV.w (pv_len T.b_len (pav_cons (pw_var 3) pav_nil))))) (PV.w pv_int))))) (PV.w pv_int))))) pssv_nil)
    (pssv_one (psv_ret (PV.w (pv_ix (PV.w (PVf.s (pvf_lst (pas_cons (pv_subI (PV.w (pv_modI (pw_var 2) (PV.w pv_int))) (PV.w pv_int)) (pas_cons (pv_subI (PV.w (pv_modI (pw_var 2) (PV.w (pv_addI (PV.w (pv_mulI (PV.w pv_int) (PV.w (pv_powI (PV.w pv_int) (PV.w pv_int))))) (PV.w pv_int))))) (PV.w (pv_powI (PV.w pv_int) (PV.w pv_int)))) pas_nil))))) (PV.w (pv_modI (PV.w (pv_divI (pw_var 2) (PV.w pv_int))) (PV.w pv_int)))))))))))
theorem sc__law_rows : FnScope ["_law_pieces", "_law_rows_here", "_law_here", "_law_low", "_law_behind", "_law_value"] ["_law_pieces"] (defScope (top 28)) := ⟨rfl, rfl, rfl, by decide +kernel, rfl, by decide +kernel, by decide +kernel⟩
theorem fok__law_rows {f : Addr} {fd : FuncData} (Fn : Fun K "_law_rows" "_law_rows" (top 28) f fd) (T : Glb K mg)  : FnOk P w K mg base CX0 1 f fd ["_law_pieces"] (spF K 1 GL.rows.f) := by
  have nd := sc__law_rows.nd
  refine fun_ok (k := 0) (g := GL.rows.g) Fn sc__law_rows (fun cdv A outer s H E hr => ?_) (fun ds r hl e => does_run e)
  exact (pssv_cons (psv_setO (i := 1) nd (pvf_lst pas_nil))
    (pssv_cons (psv_set (i := 2) nd pv_non)
    (pssv_cons (psv_for PassesOwn.never rfl (piv_seq (pv_var 0)) (pgv_tup (n := 3) rfl (pgsv_cons (pgv_name (i := 3) nd) (pgsv_cons (pgv_name (i := 4) nd) (pgsv_cons (pgv_name (i := 5) nd) pgsv_nil)))) (pssv_cons (psv_if (PWv.t (pwv_and (pt_isnot (PVw.n (pw_var 3)) (PV.n pv_non)) (pwv_and1 (PWv.t (pwv_or (pt_is (PVw.n (pw_var 2)) (PV.n pv_non)) (pwv_or1 (pt_lt (pw_var 2) (pw_var 3)))))))) (pssv_one (psv_app (i := 1) (pv_tup (pas_cons (pv_var 2) (pas_cons (pv_var 3) (pas_cons pv_non pas_nil)))))) pssv_nil)
    (pssv_cons (psv_app (i := 1) (pv_tup (pas_cons (pv_var 3) (pas_cons (pv_var 4) (pas_cons (pv_var 5) pas_nil)))))
    (pssv_one (psv_set (i := 2) nd (pv_var 4))))))
    (pssv_cons (psv_if (PWv.t (pwv_or (pt_eq hr (PVw.n (pw_var 0)) (PV.n (PVf.s (pvf_lst pas_nil)))) (pwv_or1 (pt_isnot (PVw.n (pw_var 2)) (PV.n pv_non))))) (pssv_one (psv_app (i := 1) (pv_tup (pas_cons (pv_var 2) (pas_cons pv_non (pas_cons pv_non pas_nil)))))) pssv_nil)
    (pssv_one (psv_retX 1))))))
theorem sc__law_is_span : FnScope ["_law_one", "_law_low", "_law_behind"] ["_law_one"] (defScope (top 29)) := ⟨rfl, rfl, rfl, by decide +kernel, rfl, by decide +kernel, by decide +kernel⟩
theorem fok__law_is_span {f : Addr} {fd : FuncData} (Fn : Fun K "_law_is_span" "_law_is_span" (top 29) f fd) (T : Glb K mg) (C__law_whole : Cal P w K mg base "_law_whole" 1 1 GL.whole.f) : FnOk P w K mg base CX0 2 f fd ["_law_one"] (spF K 1 GL.is_span.f) := by
  have nd := sc__law_is_span.nd
  refine fun_ok (k := 1) (g := GL.is_span.g) Fn sc__law_is_span (fun cdv A outer s H E hr => ?_) (fun ds r hl e => does_run e)
  exact (pssv_cons (psv_if (PWv.t (pwv_or (ptv_not (PVn.t (PV.n (pv_isi T.b_isinstance T.b_tuple (by decide +kernel) (pw_var 0))))) (pwv_or1 (pt_ne hr (PV.n (pv_len T.b_len (pav_cons (pw_var 0) pav_nil))) (PV.n pv_int))))) (pssv_one (psv_ret (PV.w pv_bl))) pssv_nil)
    (pssv_cons (psv_asg (pv_var 0) (pgv_tup (n := 2) rfl (pgsv_cons (pgv_name (i := 1) nd) (pgsv_cons (pgv_name (i := 2) nd) pgsv_nil))))
    (pssv_cons (psv_if (PWv.t (pwv_or (PWv.t (pwv_and (pt_isnot (PVw.n (pw_var 1)) (PV.n pv_non)) (pwv_and1 (ptv_not (PVn.t (PV.n (pv_callC C__law_whole hr (pan_cons (PVw.n (pw_var 1)) pan_nil)))))))) (pwv_or1 (PWv.t (pwv_and (pt_isnot (PVw.n (pw_var 2)) (PV.n pv_non)) (pwv_and1 (ptv_not (PVn.t (PV.n (pv_callC C__law_whole hr (pan_cons (PVw.n (pw_var 2)) pan_nil))))))))))) (pssv_one (psv_ret (PV.w pv_bl))) pssv_nil)
    (pssv_one (psv_ret (PV.w (pv_or (pv_is (PVw.n (pw_var 1)) (PV.n pv_non)) (pv_or (pv_is (PVw.n (pw_var 2)) (PV.n pv_non)) (pv_one (pv_lt (pw_var 1) (pw_var 2)))))))))))
theorem sc__law_test : FnScope ["_law_cell", "_law_mark", "_law_way"] ["_law_cell", "_law_mark"] (defScope (top 30)) := ⟨rfl, rfl, rfl, by decide +kernel, rfl, by decide +kernel, by decide +kernel⟩
theorem fok__law_test {f : Addr} {fd : FuncData} (Fn : Fun K "_law_test" "_law_test" (top 30) f fd) (T : Glb K mg) {mc mp : Addr} (M : Mkr K "_law_test" 6 (top 30) f mc mp) : FnOk P w K mg base CX0 1 f fd ["_law_cell", "_law_mark"] (spF K 2 GL.test.f) := by
  have nd := sc__law_test.nd
  refine fun_okD (k := 0) (g := GL.test.g) Fn sc__law_test M (fun A outer s H E hr => ?_) (fun ds r hl e => does_run e)
  exact (psdv_cons (psv_set (i := 2) nd (pv_modI (pw_var 0) (PV.w pv_int)))
    (psdv_dead (pssv_cons (psv_if (pt_eq hr (PVw.n (pw_var 2)) (PV.n pv_int)) (pssv_one (psv_retC (pv_lamD (j := 0) (is := []) M young_cx (by kernel_rfl) (by kernel_rfl)))) pssv_nil)
    (pssv_cons (psv_if (pt_eq hr (PVw.n (pw_var 2)) (PV.n pv_int)) (pssv_one (psv_retC (pv_lamD (j := 1) (is := []) M young_cx (by kernel_rfl) (by kernel_rfl)))) pssv_nil)
    (pssv_cons (psv_if (pt_eq hr (PVw.n (pw_var 2)) (PV.n pv_int)) (pssv_one (psv_retC (pv_lamD (j := 2) (is := [1]) M young_cx (by kernel_rfl) (by kernel_rfl)))) pssv_nil)
    (pssv_cons (psv_if (pt_eq hr (PVw.n (pw_var 2)) (PV.n pv_int)) (pssv_one (psv_retC (pv_lamD (j := 3) (is := [1]) M young_cx (by kernel_rfl) (by kernel_rfl)))) pssv_nil)
    (pssv_cons (psv_if (pt_eq hr (PVw.n (pw_var 2)) (PV.n pv_int)) (pssv_one (psv_retC (pv_lamD (j := 4) (is := [1]) M young_cx (by kernel_rfl) (by kernel_rfl)))) pssv_nil)
    (pssv_cons (psv_if (pt_eq hr (PVw.n (pw_var 2)) (PV.n pv_int)) (pssv_one (psv_retC (pv_lamD (j := 5) (is := [1]) M young_cx (by kernel_rfl) (by kernel_rfl)))) pssv_nil)
    (pssv_cons (psv_if (pt_eq hr (PVw.n (pw_var 2)) (PV.n pv_int)) (pssv_one (psv_retC (pv_lamD (j := 6) (is := [1]) M young_cx (by kernel_rfl) (by kernel_rfl)))) pssv_nil)
    (pssv_one (psv_retC (pv_lamD (j := 7) (is := [2]) M young_cx (by kernel_rfl) (by kernel_rfl)))))))))))))
theorem sc__law_all : FnScope ["_law_rows_here", "_law_low", "_law_behind", "_law_test_here", "_law_due", "_law_first", "_law_last", "_law_value"] ["_law_rows_here", "_law_low", "_law_behind", "_law_test_here", "_law_due"] (defScope (top 31)) := ⟨rfl, rfl, rfl, by decide +kernel, rfl, by decide +kernel, by decide +kernel⟩
theorem fok__law_all {f : Addr} {fd : FuncData} (Fn : Fun K "_law_all" "_law_all" (top 31) f fd) (T : Glb K mg) (CO : CloOk P w K mg base 2 K63.Phi) : FnOk P w K mg base CX0 3 f fd ["_law_rows_here", "_law_low", "_law_behind", "_law_test_here", "_law_due"] (spF K 5 K63.L_all.f) := by
  have nd := sc__law_all.nd
  refine fun_ok (k := 2) (g := K63.L_all.g) Fn sc__law_all (fun cdv A outer s H E hr => ?_) (fun ds r hl e => does_run e)
  exact (pssv_cons (psv_for PassesOwn.never rfl (piv_seq (pv_var 0)) (pgv_tup (n := 3) rfl (pgsv_cons (pgv_name (i := 5) nd) (pgsv_cons (pgv_name (i := 6) nd) (pgsv_cons (pgv_name (i := 7) nd) pgsv_nil)))) (pssv_one (psv_if (PWv.t (pwv_and (PWv.t (pwv_or (pt_is (PVw.n (pw_var 2)) (PV.n pv_non)) (pwv_or (pt_is (PVw.n (pw_var 5)) (PV.n pv_non)) (pwv_or1 (pt_lt (pw_var 5) (pw_var 2)))))) (pwv_and1 (PWv.t (pwv_or (pt_is (PVw.n (pw_var 6)) (PV.n pv_non)) (pwv_or1 (pt_lt (pw_var 1) (pw_var 6)))))))) (pssv_one (psv_if (pt_ne hr (PV.n (pv_callW (i := 3) CO hr (pan_cons (PVw.n (pw_var 7)) pan_nil))) (PVw.n (pw_var 4))) (pssv_one (psv_ret (PV.w pv_bl))) pssv_nil)) pssv_nil)))
    (pssv_one (psv_ret (PV.w pv_bl))))
theorem sc__law_times : FnScope ["_law_rows_here", "_law_cell", "_law_rest", "_law_first", "_law_last", "_law_value"] ["_law_rows_here", "_law_cell"] (defScope (top 32)) := ⟨rfl, rfl, rfl, by decide +kernel, rfl, by decide +kernel, by decide +kernel⟩
theorem fok__law_times {f : Addr} {fd : FuncData} (Fn : Fun K "_law_times" "_law_times" (top 32) f fd) (T : Glb K mg)  : FnOk P w K mg base CX0 1 f fd ["_law_rows_here", "_law_cell"] (spF K 2 GL.times.f) := by
  have nd := sc__law_times.nd
  refine fun_ok (k := 0) (g := GL.times.g) Fn sc__law_times (fun cdv A outer s H E hr => ?_) (fun ds r hl e => does_run e)
  exact (pssv_cons (psv_set (i := 2) nd (pv_divI (pw_var 1) (PV.w pv_int)))
    (pssv_cons (psv_asg (pv_ix (pw_var 0) (PV.w (pv_modI (pw_var 2) (PV.w (pv_len T.b_len (pav_cons (pw_var 0) pav_nil)))))) (pgv_tup (n := 3) rfl (pgsv_cons (pgv_name (i := 3) nd) (pgsv_cons (pgv_name (i := 4) nd) (pgsv_cons (pgv_name (i := 5) nd) pgsv_nil)))))
    (pssv_cons (psv_if (PWv.t (pwv_and (pt_lt (PV.w (pv_modI (pw_var 1) (PV.w pv_int))) (PV.w pv_int)) (pwv_and (pt_isnot (PVw.n (pw_var 3)) (PV.n pv_non)) (pwv_and1 (pt_isnot (PVw.n (pw_var 4)) (PV.n pv_non)))))) (pssv_one (psv_ret (PV.w (pv_max2 rfl T.b_max (pav_cons (PV.w pv_int) (pav_cons (PV.w (pv_subI (PV.w (pv_addI (PV.w (pv_subI (pw_var 4) (pw_var 3))) (PV.w (pv_modI (PV.w (pv_divI (pw_var 2) (PV.w (pv_len T.b_len (pav_cons (pw_var 0) pav_nil))))) (PV.w pv_int))))) (PV.w pv_int))) pav_nil)))))) pssv_nil)
    (pssv_one (psv_ret (PV.w (pv_ix (PV.w (PVf.s (pvf_lst (pas_cons (pv_addI (PV.w pv_int) (PV.w (pv_modI (pw_var 2) (PV.w pv_int)))) (pas_cons (pv_addI (PV.w pv_int) (PV.w (pv_modI (pw_var 2) (PV.w (pv_powI (PV.w pv_int) (PV.w pv_int)))))) pas_nil))))) (PV.w (pv_modI (pw_var 1) (PV.w pv_int))))))))))
theorem sc__law_told : FnScope ["_law_rows_here", "_law_start", "_law_many", "_law_test_here", "_law_found", "_law_paper", "_law_here", "_law_one"] ["_law_rows_here", "_law_start", "_law_many", "_law_test_here", "_law_found", "_law_paper"] (defScope (top 33)) := ⟨rfl, rfl, rfl, by decide +kernel, rfl, by decide +kernel, by decide +kernel⟩
theorem fok__law_told {f : Addr} {fd : FuncData} (Fn : Fun K "_law_told" "_law_told" (top 33) f fd) (T : Glb K mg) (C__law_all : Cal P w K mg base "_law_all" 3 5 K63.L_all.f) (C__law_whole : Cal P w K mg base "_law_whole" 1 1 GL.whole.f) (C__law_is_span : Cal P w K mg base "_law_is_span" 2 1 GL.is_span.f) : FnOk P w K mg base CX0 4 f fd ["_law_rows_here", "_law_start", "_law_many", "_law_test_here", "_law_found", "_law_paper"] (spF K 6 K63.L_told.f) := by
  have nd := sc__law_told.nd
  refine fun_ok (k := 3) (g := K63.L_told.g) Fn sc__law_told (fun cdv A outer s H E hr => ?_) (fun ds r hl e => does_run e)
  exact (pssv_cons (psv_set (i := 6) nd (pv_var 1))
    (pssv_cons (psv_for PassesOwn.never rfl (piv_seq (pv_var 5)) (pgv_name (i := 7) nd) (pssv_cons (psv_if (PWv.t (pwv_or (pt_is (PVw.n (pw_var 6)) (PV.n pv_non)) (pwv_or (ptv_not (PVn.t (PV.n (pv_callC C__law_is_span hr (pan_cons (PVw.n (pw_var 7)) pan_nil))))) (pwv_or1 (pt_is (PV.n (pv_ix (pw_var 7) (PV.w pv_int))) (PV.n pv_non)))))) (pssv_one (psv_ret (PV.w pv_bl))) pssv_nil)
    (pssv_cons (psv_if (PWv.t (pwv_or (pt_lt (PV.w (pv_ix (pw_var 7) (PV.w pv_int))) (pw_var 6)) (pwv_or (pt_ge (PV.w (pv_ix (pw_var 7) (PV.w pv_int))) (PV.w (pv_addI (pw_var 6) (pw_var 2)))) (pwv_or1 (ptv_not (PVn.t (PV.n (pv_callC C__law_all hr (pan_cons (PVw.n (pw_var 0)) (pan_cons (PV.n (pv_ix (pw_var 7) (PV.w pv_int))) (pan_cons (PV.n (pv_ix (pw_var 7) (PV.w pv_int))) (pan_cons (PVw.n (pw_var 3)) (pan_cons (PV.n pv_bl) pan_nil))))))))))))) (pssv_one (psv_ret (PV.w pv_bl))) pssv_nil)
    (pssv_one (psv_set (i := 6) nd (pv_ix (pw_var 7) (PV.w pv_int)))))))
    (pssv_cons (psv_if (pt_is (PVw.n (pw_var 4)) (PV.n pv_non)) (pssv_one (psv_ret (PV.w (pv_is (PVw.n (pw_var 6)) (PV.n pv_non))))) pssv_nil)
    (pssv_cons (psv_if (PWv.t (pwv_or (pt_is (PVw.n (pw_var 6)) (PV.n pv_non)) (pwv_or (ptv_not (PVn.t (PV.n (pv_callC C__law_whole hr (pan_cons (PVw.n (pw_var 4)) pan_nil))))) (pwv_or1 (pt_ne hr (PVw.n (pw_var 4)) (PVw.n (pw_var 6))))))) (pssv_one (psv_ret (PV.w pv_bl))) pssv_nil)
    (pssv_one (psv_ret (PV.w (pv_callC C__law_all hr (pan_cons (PVw.n (pw_var 0)) (pan_cons (PVw.n (pw_var 4)) (pan_cons (PV.n (pv_addI (pw_var 4) (pw_var 2))) (pan_cons (PVw.n (pw_var 3)) (pan_cons (PV.n pv_bl) pan_nil)))))))))))))
theorem sc__law_any : FnScope ["_law_script", "_law_head", "_law_far_here", "_law_pieces", "_law_start"] ["_law_script"] (defScope (top 34)) := ⟨rfl, rfl, rfl, by decide +kernel, rfl, by decide +kernel, by decide +kernel⟩
theorem fok__law_any {f : Addr} {fd : FuncData} (Fn : Fun K "_law_any" "_law_any" (top 34) f fd) (T : Glb K mg) (C__law_far : Cal P w K mg base "_law_far" 1 0 K63.L_far.f) (C__law_any_map : Cal P w K mg base "_law_any_map" 3 4 K63.L_any_map.f) (C__law_zig : Cal P w K mg base "_law_zig" 1 1 GL.zig.f) (C__law_cell_at : Cal P w K mg base "_law_cell_at" 1 2 GL.cell_at.f) (C__law_any_test : Cal P w K mg base "_law_any_test" 3 2 K63.L_any_test.f) : FnOk P w K mg base CX0 4 f fd ["_law_script"] (spF K 1 K63.L_any.f) := by
  have nd := sc__law_any.nd
  refine fun_ok (k := 3) (g := K63.L_any.g) Fn sc__law_any (fun cdv A outer s H E hr => ?_) (fun ds r hl e => does_run e)
  exact (pssv_cons (psv_set (i := 1) nd (pv_divI (PV.w (pv_callC C__law_cell_at hr (pan_cons (PVw.n (pw_var 0)) (pan_cons (PV.n pv_int) pan_nil)))) (PV.w pv_int)))
    (pssv_cons (psv_set (i := 2) nd (pv_callC0 C__law_far hr))
    (pssv_cons (psv_setO (i := 3) nd (pvf_callC C__law_any_map hr (pan_cons (PV.n (pv_modI (pw_var 1) (PV.w pv_int))) (pan_cons (PV.n (pv_divI (pw_var 1) (PV.w pv_int))) (pan_cons (PV.n (pv_callC C__law_cell_at hr (pan_cons (PVw.n (pw_var 0)) (pan_cons (PV.n pv_int) pan_nil)))) (pan_cons (PV.n (pv_callC C__law_cell_at hr (pan_cons (PVw.n (pw_var 0)) (pan_cons (PV.n pv_int) pan_nil)))) pan_nil))))))
    (pssv_cons (psv_set (i := 4) nd (pv_callC C__law_zig hr (pan_cons (PV.n (pv_modI (PV.w (pv_callC C__law_cell_at hr (pan_cons (PVw.n (pw_var 0)) (pan_cons (PV.n pv_int) pan_nil)))) (PV.w (pv_addI (PV.w (pv_mulI (PV.w pv_int) (pw_var 2))) (PV.w pv_int))))) pan_nil)))
    (pssv_one (psv_retE (pve_tup (pae_cons (pve_own 3) (pae_cons (PVd.e (PV.d (pv_var 4))) (pae_cons (PVd.e (PV.d (pv_addI (PV.w pv_int) (PV.w (pv_modI (PV.w (pv_callC C__law_cell_at hr (pan_cons (PVw.n (pw_var 0)) (pan_cons (PV.n pv_int) pan_nil)))) (pw_var 2)))))) (pae_cons (PVd.e (pvd_callC C__law_any_test hr (pan_cons (PVw.n (pw_var 3)) (pan_cons (PV.n (pv_callC C__law_cell_at hr (pan_cons (PVw.n (pw_var 0)) (pan_cons (PV.n pv_int) pan_nil)))) pan_nil)))) pae_nil)))))))))))
theorem sc__law_drawn : FnScope ["_law_script", "_law_pieces", "_law_rows_here", "_law_mark", "_law_many", "_law_test_here"] ["_law_script"] (defScope (top 35)) := ⟨rfl, rfl, rfl, by decide +kernel, rfl, by decide +kernel, by decide +kernel⟩
theorem fok__law_drawn {f : Addr} {fd : FuncData} (Fn : Fun K "_law_drawn" "_law_drawn" (top 35) f fd) (T : Glb K mg) (C__law_map : Cal P w K mg base "_law_map" 1 1 GL.map4.f) (C__law_rows : Cal P w K mg base "_law_rows" 1 1 GL.rows.f) (C__law_times : Cal P w K mg base "_law_times" 1 2 GL.times.f) (C__law_test : Cal P w K mg base "_law_test" 1 2 GL.test.f) (C__law_cell_at : Cal P w K mg base "_law_cell_at" 1 2 GL.cell_at.f) (C__law_end : Cal P w K mg base "_law_end" 1 2 GL.end2.f) : FnOk P w K mg base CX0 2 f fd ["_law_script"] (spF K 1 K63.L_drawn.f) := by
  have nd := sc__law_drawn.nd
  refine fun_ok (k := 1) (g := K63.L_drawn.g) Fn sc__law_drawn (fun cdv A outer s H E hr => ?_) (fun ds r hl e => does_run e)
  exact (pssv_cons (psv_setO (i := 1) nd (pvf_callC C__law_map hr (pan_cons (PV.n (PVf.s (pvf_slice (pw_var 0) (pov_so (PV.w pv_int)) (pov_so (PV.w pv_int))))) pan_nil)))
    (pssv_cons (psv_set (i := 2) nd (pv_callC C__law_rows hr (pan_cons (PVw.n (pw_var 1)) pan_nil)))
    (pssv_cons (psv_set (i := 3) nd (pv_ix (PV.w (pv_ix (pw_var 2) (PV.w (pv_modI (PV.w (pv_callC C__law_cell_at hr (pan_cons (PVw.n (pw_var 0)) (pan_cons (PV.n pv_int) pan_nil)))) (PV.w (pv_len T.b_len (pav_cons (pw_var 2) pav_nil))))))) (PV.w pv_int)))
    (pssv_cons (psv_if (pt_is (PVw.n (pw_var 3)) (PV.n pv_non)) (pssv_one (psv_set (i := 3) nd pv_int)) pssv_nil)
    (pssv_cons (psv_set (i := 4) nd (pv_callC C__law_times hr (pan_cons (PVw.n (pw_var 2)) (pan_cons (PV.n (pv_callC C__law_cell_at hr (pan_cons (PVw.n (pw_var 0)) (pan_cons (PV.n pv_int) pan_nil)))) pan_nil))))
    (pssv_cons (psv_set (i := 5) nd (pv_callC C__law_test hr (pan_cons (PV.n (pv_divI (PV.w (pv_callC C__law_cell_at hr (pan_cons (PVw.n (pw_var 0)) (pan_cons (PV.n pv_int) pan_nil)))) (PV.w pv_int))) (pan_cons (PVw.n (pw_var 3)) pan_nil))))
    (pssv_one (psv_retE (pve_tup (pae_cons (pve_own 1) (pae_cons (PVd.e (PV.d (pv_callC C__law_end hr (pan_cons (PVw.n (pw_var 1)) (pan_cons (PV.n (pv_callC C__law_cell_at hr (pan_cons (PVw.n (pw_var 0)) (pan_cons (PV.n pv_int) pan_nil)))) pan_nil))))) (pae_cons (PVd.e (PV.d (pv_var 4))) (pae_cons (PVd.e (PV.dC (pv_var 5))) pae_nil)))))))))))))
theorem sc_law : FnScope ["_law_script", "_law_pieces", "_law_start", "_law_many", "_law_test_here", "_law_handed", "_law_told_here"] ["_law_script"] (defScope (top 36)) := ⟨rfl, rfl, rfl, by decide +kernel, rfl, by decide +kernel, by decide +kernel⟩
theorem fok_law {f : Addr} {fd : FuncData} (Fn : Fun K "law" "law" (top 36) f fd) (T : Glb K mg) (C_first_run : Cal P w K mg base "first_run" 5 4 (GP.first_run.f K63.Phi)) (C__law_told : Cal P w K mg base "_law_told" 4 6 K63.L_told.f) (C__law_any : Cal P w K mg base "_law_any" 4 1 K63.L_any.f) (C__law_drawn : Cal P w K mg base "_law_drawn" 2 1 K63.L_drawn.f) (C__law_rows : Cal P w K mg base "_law_rows" 1 1 GL.rows.f) (C__law_cell_at : Cal P w K mg base "_law_cell_at" 1 2 GL.cell_at.f) : FnOk P w K mg base CX0 6 f fd ["_law_script"] (spF K 1 K63.law.f) := by
  have nd := sc_law.nd
  refine fun_ok (k := 5) (g := K63.law.g) Fn sc_law (fun cdv A outer s H E hr => ?_) (fun ds r hl e => does_run e)
  exact (pssv_cons (psv_if (pt_eq hr (PV.n (pv_modI (PV.w (pv_callC C__law_cell_at hr (pan_cons (PVw.n (pw_var 0)) (pan_cons (PV.n pv_int) pan_nil)))) (PV.w pv_int))) (PV.n pv_int)) (pssv_one (psv_asg (pv_callC C__law_any hr (pan_cons (PVw.n (pw_var 0)) pan_nil)) (pgv_tup (n := 4) rfl (pgsv_cons (pgv_name (i := 1) nd) (pgsv_cons (pgv_name (i := 2) nd) (pgsv_cons (pgv_name (i := 3) nd) (pgsv_cons (pgv_name (i := 4) nd) pgsv_nil))))))) (pssv_one (psv_asg (pv_callC C__law_drawn hr (pan_cons (PVw.n (pw_var 0)) pan_nil)) (pgv_tup (n := 4) rfl (pgsv_cons (pgv_name (i := 1) nd) (pgsv_cons (pgv_name (i := 2) nd) (pgsv_cons (pgv_name (i := 3) nd) (pgsv_cons (pgv_name (i := 4) nd) pgsv_nil))))))))
    (pssv_cons (psv_set (i := 5) nd (PVf.s (pvf_list T.b_list (pw_var 1))))
    (pssv_cons (psv_set (i := 6) nd (pv_callC C_first_run hr (pan_cons (PVw.n (pw_var 5)) (pan_cons (PVw.n (pw_var 2)) (pan_cons (PVw.n (pw_var 3)) (pan_cons (PVw.n (pw_var 4)) pan_nil))))))
    (pssv_cons (psv_if (PWv.t (pwv_or (ptv_not (PVn.t (PV.n (pv_isi T.b_isinstance T.b_tuple (by decide +kernel) (pw_var 6))))) (pwv_or (pt_ne hr (PV.n (pv_len T.b_len (pav_cons (pw_var 6) pav_nil))) (PV.n pv_int)) (pwv_or1 (ptv_not (PVn.t (PV.n (pv_isi T.b_isinstance T.b_list (by decide +kernel) (PV.w (pv_ix (pw_var 6) (PV.w pv_int))))))))))) (pssv_one (psv_ret (PV.w pv_bl))) pssv_nil)
    (pssv_cons (psv_if (PWv.t (pwv_or (pt_gt (PV.w (pv_len T.b_len (pav_cons (PV.w (pv_ix (pw_var 6) (PV.w pv_int))) pav_nil))) (PV.w (pv_addI (PV.w (pv_mulI (PV.w pv_int) (PV.w (pv_len T.b_len (pav_cons (pw_var 1) pav_nil))))) (PV.w pv_int)))) (pwv_or1 (pt_ne hr (PVw.n (pw_var 5)) (PVw.n (pw_var 1)))))) (pssv_one (psv_ret (PV.w pv_bl))) pssv_nil)
    (pssv_one (psv_ret (PV.w (pv_callC C__law_told hr (pan_cons (PV.n (pv_callC C__law_rows hr (pan_cons (PVw.n (pw_var 1)) pan_nil))) (pan_cons (PVw.n (pw_var 2)) (pan_cons (PVw.n (pw_var 3)) (pan_cons (PVw.n (pw_var 4)) (pan_cons (PV.n (pv_ix (pw_var 6) (PV.w pv_int))) (pan_cons (PV.n (pv_ix (pw_var 6) (PV.w pv_int))) pan_nil)))))))))))))))
end
end K63
namespace K63
open PySem PyProof.Rows L2 FL
open Builtin.Int (intBits)
theorem far_eq : ∃ F : Int, F = (10 ^ 50) ^ 9 * 10 ^ 49 ∧ K63.L_far.f [] = some (.val (.int F)) := by
  have p1 : powD (.int 10) (.int 50) = some (.int (10 ^ 50)) := pow10 (by decide) (by decide)
  have p2 : powD (.int (10 ^ 50)) (.int 9) = some (.int ((10 ^ 50) ^ 9)) := powD_ok (cpow_of (n := 170) (m := 9) (by decide) (by decide) (by decide) (by decide))
  have p3 : powD (.int 10) (.int 49) = some (.int (10 ^ 49)) := pow10 (by decide) (by decide)
  have mu : mulD (.int ((10 ^ 50) ^ 9)) (.int (10 ^ 49)) = some (.int ((10 ^ 50) ^ 9 * 10 ^ 49)) := mulD_ok (mulOk_of_bits (show intBits ((10 ^ 50) ^ 9) ≤ 1600 from bits_nat (by decide +kernel)) (show intBits (10 ^ 49) ≤ 200 from bits_nat (by decide +kernel)) (by decide))
  refine ⟨_, rfl, ?_⟩
  unfold K63.L_far.f runG K63.L_far.g
  generalize (10 : Int) ^ 49 = A at *
  generalize (10 : Int) ^ 50 = B at *
  generalize B ^ 9 = C at *
  simp [args, p1, p2, p3, mu]
theorem ix3_2 (x y z : D) : ixD (.lst [x, y, z]) (.int 2) = some z := by rw [ixL_pos _ (by decide) (by simp)]; rfl
theorem mixed_ex (c : Int) (hc : intBits c ≤ 1048576) : ∃ m : Int, 0 ≤ m ∧ m < 10 ^ 61 ∧ GL.mixed.f [.int c] = some (.val (.int m)) := by
  have p1 : powD (.int 48271) (.int 9) = some (.int (48271 ^ 9)) := powD_ok (cpow_of (n := 16) (m := 9) (by decide) (by decide) (by decide) (by decide))
  have p2 : powD (.int 7) (.int 60) = some (.int (7 ^ 60)) := powD_ok (cpow_of (n := 3) (m := 60) (by decide) (by decide) (by decide) (by decide))
  have p3 : powD (.int 10) (.int 61) = some (.int (10 ^ 61)) := pow10 (by decide) (by decide)
  have p4 : powD (.int 10) (.int 60) = some (.int (10 ^ 60)) := pow10 (by decide) (by decide)
  have mu : mulD (.int c) (.int (48271 ^ 9)) = some (.int (c * 48271 ^ 9)) := mulD_ok (mulOk_of_bits hc (show intBits (48271 ^ 9) ≤ 160 from bits_nat (by decide)) (by decide))
  have q1 : (0 : Int) < 10 ^ 61 + 7 := by decide
  have q2 : (0 : Int) < 10 ^ 60 + 9 := by decide
  have m1 : ∀ x, modD (.int x) (.int (10 ^ 61 + 7)) = some (.int (x % (10 ^ 61 + 7))) := fun x => modD_pos x q1
  have m2 : ∀ x, modD (.int x) (.int (10 ^ 60 + 9)) = some (.int (x % (10 ^ 60 + 9))) := fun x => modD_pos x q2
  obtain ⟨y, hy0, hy1, ey⟩ : ∃ y : Int, 0 ≤ y ∧ y < 10 ^ 61 + 7 ∧ y = (c * 48271 ^ 9 + 7 ^ 60) % (10 ^ 61 + 7) := ⟨_, Int.emod_nonneg _ (Int.ne_of_gt q1), Int.emod_lt_of_pos _ q1, rfl⟩
  have p5 : powD (.int y) (.int 2) = some (.int (y ^ 2)) := powD_ok (cpow_of (n := 210) (m := 2) (by
    have : (10 : Nat) ^ 61 + 7 < 2 ^ 210 := by decide +kernel
    have e : ((10 ^ 61 : Nat) : Int) = 10 ^ 61 := Int.natCast_pow 10 61
    generalize (10 : Int) ^ 61 = A at *
    generalize (10 : Nat) ^ 61 = B at *
    generalize 2 ^ 210 = C at *
    omega) (by decide) (by decide) (by decide))
  have lt : (10 : Int) ^ 60 + 9 < 10 ^ 61 := by decide
  refine ⟨y ^ 2 % (10 ^ 60 + 9), Int.emod_nonneg _ (Int.ne_of_gt q2), Int.lt_trans (Int.emod_lt_of_pos _ q2) lt, ?_⟩
  unfold GL.mixed.f runG GL.mixed.g
  generalize (10 : Int) ^ 61 = A at *
  generalize (10 : Int) ^ 60 = B at *
  generalize (48271 : Int) ^ 9 = C at *
  generalize (7 : Int) ^ 60 = E at *
  simp [args, p1, p2, p3, p4, mu, m1, m2, ← ey, p5]
theorem bits_61 {x : Int} (h0 : 0 ≤ x) (h1 : x < 10 ^ 61) : intBits x ≤ 1048576 := by
  refine Nat.le_trans (bits_nat (m := 210) ?_) (by decide)
  have : (10 : Nat) ^ 61 < 2 ^ 210 := by decide +kernel
  have e : ((10 ^ 61 : Nat) : Int) = 10 ^ 61 := Int.natCast_pow 10 61
  generalize (10 : Int) ^ 61 = A at *
  generalize (10 : Nat) ^ 61 = B at *
  generalize 2 ^ 210 = C at *
  omega
theorem dig_turn {B : Int} (hB : divOk B) (N : Sl) (acc : List Int) (c r : Int) (r0 : 0 ≤ r) (r1 : r < 10 ^ 61) (hz : acc.length < 1000) (x5 : Sl) : ∃ c' r' : Int, (0 ≤ r' ∧ r' < 10 ^ 61) ∧ ∃ x : Int, 0 ≤ x ∧ x < B ∧
    GL.digits.b1 [.v (.int c), .v (.int B), N, .own (acc.map D.int), .v (.int r), x5] = some (.nx [.v (.int c'), .v (.int B), N, .own ((acc ++ [x]).map D.int), .v (.int r'), x5]) := by
  have hl : (acc.map D.int).length < 16777216 := by rw [List.length_map]; omega
  have fd : ∀ x, fdivD (.int x) (.int B) = some (.int (x / B)) := fun x => if_pos hB
  have md : ∀ x, modD (.int x) (.int B) = some (.int (x % B)) := fun x => modD_pos x hB.1
  obtain ⟨m, m0, m1, em⟩ := mixed_ex r (bits_61 r0 r1)
  have p9 : powD (.int 10) (.int 9) = some (.int (10 ^ 9)) := pow10 (by decide) (by decide)
  have p60 : powD (.int 10) (.int 60) = some (.int (10 ^ 60)) := pow10 (by decide) (by decide)
  have q9 : ∀ x, modD (.int x) (.int (10 ^ 9)) = some (.int (x % 10 ^ 9)) := fun x => modD_pos x (by decide)
  have q60 : ∀ x, modD (.int x) (.int (10 ^ 60)) = some (.int (x % 10 ^ 60)) := fun x => modD_pos x (by decide)
  have x0 : ∀ a b c : D, ixD (.lst [a, b, c]) (.int 0) = some a := fun a b c => by rw [ixL_pos _ (by decide) (by simp)]; rfl
  have x1 : ∀ a b c : D, ixD (.lst [a, b, c]) (.int 1) = some b := fun a b c => by rw [ixL_pos _ (by decide) (by simp)]; rfl
  by_cases h : c = 0
  · obtain ⟨z, ez⟩ : ∃ z : Int, modD (.int (m / 3)) ((fun k : Int => if k = 0 then D.int 50 else if k = 1 then .int (10 ^ 9) else .int (10 ^ 60)) (m % 3)) = some (.int z) := by
      have : m % 3 = 0 ∨ m % 3 = 1 ∨ m % 3 = 2 := by omega
      rcases this with e | e | e <;> rw [e] <;> simp only [] <;> simp
    refine ⟨(1 + z) / B, m, ⟨m0, m1⟩, (1 + z) % B, Int.emod_nonneg _ (Int.ne_of_gt hB.1), Int.emod_lt_of_pos _ hB.1, ?_⟩
    subst h
    rw [List.map_append]
    have : m % 3 = 0 ∨ m % 3 = 1 ∨ m % 3 = 2 := by omega
    unfold GL.digits.b1
    generalize (10 : Int) ^ 60 = A at *
    generalize acc.map D.int = AL at *
    rcases this with e | e | e <;> rw [e] at ez <;> simp at ez <;> simp [em, e, p9, p60, x0, x1, ix3_2, ez, fd, md, hl]
  · refine ⟨c / B, r, ⟨r0, r1⟩, c % B, Int.emod_nonneg _ (Int.ne_of_gt hB.1), Int.emod_lt_of_pos _ hB.1, ?_⟩
    rw [List.map_append]
    unfold GL.digits.b1
    generalize acc.map D.int = AL at *
    simp [h, fd, md, hl]
theorem dig_loop {B : Int} (hB : divOk B) (N : Sl) : ∀ (items : List D) (acc : List Int) (c r : Int) (x5 : Sl), acc.length + items.length ≤ 1000 → 0 ≤ r → r < 10 ^ 61 → (∀ x ∈ acc, 0 ≤ x ∧ x < B) → ∃ (acc' : List Int) (y0 y4 y5 : Sl), acc'.length = acc.length + items.length ∧ (∀ x ∈ acc', 0 ≤ x ∧ x < B) ∧
    loopG (nameG 5) GL.digits.b1 items [.v (.int c), .v (.int B), N, .own (acc.map D.int), .v (.int r), x5] = some (.nx [y0, .v (.int B), N, .own (acc'.map D.int), y4, y5])
  | [], acc, c, r, x5, _, _, _, h => ⟨acc, _, _, _, rfl, h, rfl⟩
  | d :: items, acc, c, r, x5, hl, r0, r1, h => by
    simp only [List.length_cons] at hl
    obtain ⟨c', r', ⟨a0, a1⟩, x, b0, b1, e⟩ := dig_turn hB N acc c r r0 r1 (by omega) (.v d)
    obtain ⟨acc', y0, y4, y5, l, h', e'⟩ := dig_loop hB N items (acc ++ [x]) c' r' (.v d) (by simp; omega) a0 a1 (fun z hz => by
      rcases List.mem_append.mp hz with hz | hz
      · exact h z hz
      · rw [List.mem_singleton.mp hz]; exact ⟨b0, b1⟩)
    refine ⟨acc', y0, y4, y5, by simp at l ⊢; omega, h', ?_⟩
    simp only [loopG, nameG_eq, Option.bind_some, List.set_cons_succ, List.set_cons_zero, e]
    exact e'
theorem digits_ex (c B : Int) (hc : intBits c ≤ 1048576) (hB : divOk B) (n : Nat) (hn : n ≤ 100) : ∃ ds : List Int, ds.length = n ∧ (∀ x ∈ ds, 0 ≤ x ∧ x < B) ∧ GL.digits.f [.int c, .int B, .int (n : Int)] = some (.fresh (ds.map D.int)) := by
  obtain ⟨m, m0, m1, em⟩ := mixed_ex c hc
  obtain ⟨acc, y0, y4, y5, l, h, e⟩ := dig_loop hB (.v (.int (n : Int))) (rangeD 0 n) [] c m .no (by simp [rangeD]; omega) m0 m1 (fun _ h => nomatch h)
  have ok : okR (n : Int) := okR_small (by omega) (by omega)
  have fl := flats_ints acc
  refine ⟨acc, by simpa [rangeD] using l, h, ?_⟩
  unfold GL.digits.f runG GL.digits.g
  simp only [List.map_nil] at e
  generalize acc.map D.int = AL at *
  simp [args, em, ok, e, fl, flatF]
theorem zig_ex {x : Int} (hb : intBits x ≤ 1048576) : ∃ y : Int, GL.zig.f [.int x] = some (.val (.int y)) := by
  have m1 := mul_small (i := 2) (j := x % 2) (by omega) (by omega)
  have m2 : mulD (.int ((x + 1) / 2)) (.int (1 - 2 * (x % 2))) = some (.int ((x + 1) / 2 * (1 - 2 * (x % 2)))) := mulD_ok (.of_right (Nat.le_trans (bits_nat (m := 2) (by omega)) (by decide)))
  exact ⟨_, by unfold GL.zig.f runG GL.zig.g; simp [args, m1, m2]; rfl⟩
theorem cut_nat (E : List D) (a b : Nat) (ha : a ≤ E.length) (hb : b ≤ E.length) : FL.cutD E (some (a : Int)) (some (b : Int)) = (E.drop a).take (b - a) := by
  have e1 : HT.sIx E.length 0 (some (a : Int)) = a := by simp [HT.sIx, show ¬ ((a : Int) < 0) by omega]; omega
  have e2 : HT.sIx E.length E.length (some (b : Int)) = b := by simp [HT.sIx, show ¬ ((b : Int) < 0) by omega]; omega
  unfold FL.cutD
  rw [e1, e2]
theorem cut2 (E : List Int) (k : Nat) (h : 2 * k + 2 ≤ E.length) : FL.cutD (E.map D.int) (some (2 * (k : Int))) (some (2 * (k : Int) + 2)) = [.int (E[2 * k]), .int (E[2 * k + 1])] := by
  have := cut_nat (E.map D.int) (2 * k) (2 * k + 2) (by simp; omega) (by simp; omega)
  rw [show ((2 * k : Nat) : Int) = 2 * (k : Int) by omega, show ((2 * k + 2 : Nat) : Int) = 2 * (k : Int) + 2 by omega] at this
  rw [this, List.drop_eq_getElem_cons (by simp; omega), List.drop_eq_getElem_cons (by simp; omega), show 2 * k + 2 - 2 * k = 2 by omega]
  simp
/-- the pieces so far -/
def AM (E : List Int) (rows : List Rw) (k : Nat) : Prop := rows.length ≤ k ∧ (rows = [] ∨ ∃ rows0 s0 lo s v, DrawM rows0 s0 ∧ s0 ≤ lo ∧ lo < s ∧ (∀ r, rows0.getLast? = some r → lo = s0 → r.2.2 ≠ some v) ∧ rows = rows0 ++ [(some lo, some s, some v)] ∧ ∀ j x, 2 * k ≤ j → E[j]? = some x → s ≤ x)
theorem AM.map {E : List Int} {rows : List Rw} {k : Nat} (h : AM E rows k) : MapF rows := by
  rcases h.2 with rfl | ⟨rows0, s0, lo, s, v, d, h1, h2, h3, rfl, _⟩
  · exact MapF.nil
  · exact (d.snoc h1 h2 h3).map
theorem am_turn {E : List Int} (so : E.Pairwise (· ≤ ·)) {vals : List Int} {k : Nat} (hk : 2 * k + 2 ≤ E.length) (hv : k < vals.length) (hk2 : k < 1000) {rows : List Rw} (h : AM E rows k) (A0 A1 A2 A3 A4 x9 x10 : Sl) : ∃ rows' y9 y10, AM E rows' (k + 1) ∧
    K63.L_any_map.b1 [A0, A1, A2, A3, A4, .v (.lst (E.map D.int)), .v (.lst (vals.map D.int)), .own (rows.map rwD), .v (.int (k : Int)), x9, x10] = some (.nx [A0, A1, A2, A3, A4, .v (.lst (E.map D.int)), .v (.lst (vals.map D.int)), .own (rows'.map rwD), .v (.int (k : Int)), y9, y10]) := by
  have c2 := cut2 E k hk
  have m2 := mul_small (i := 2) (j := (k : Int)) (by omega) (by omega)
  have iv := ints_at vals (k := (k : Int)) (by omega) (by omega)
  generalize cel vals (k : Int).toNat = v at iv
  have ab : E[2 * k] ≤ E[2 * k + 1] := List.pairwise_iff_getElem.mp so (2 * k) (2 * k + 1) (by omega) (by omega) (by omega)
  have up : ∀ j x, 2 * (k + 1) ≤ j → E[j]? = some x → E[2 * k + 1] ≤ x := fun j x hj e => by
    obtain ⟨hj', rfl⟩ := List.getElem?_eq_some_iff.mp e
    exact List.pairwise_iff_getElem.mp so (2 * k + 1) j (by omega) hj' (by omega)
  have lo' : ∀ {s : Int}, (∀ j x, 2 * k ≤ j → E[j]? = some x → s ≤ x) → s ≤ E[2 * k] := fun {s} hs => hs (2 * k) _ (Nat.le_refl _) (List.getElem?_eq_getElem (by omega))
  generalize E[2 * k] = a at *
  generalize E[2 * k + 1] = b at *
  have ne := neD_rw_nil rows
  obtain ⟨hl, h⟩ := h
  have zl : (rows.map rwD).length < 16777216 := by rw [List.length_map]; omega
  have e0 : D.tup [.int a, .int b, .int v] = rwD (some a, some b, some v) := rfl
  unfold K63.L_any_map.b1
  rw [seq_nx (ds' := [A0, A1, A2, A3, A4, .v (.lst (E.map D.int)), .v (.lst (vals.map D.int)), .own (rows.map rwD), .v (.int (k : Int)), .v (.int a), .v (.int b)]) (by
    generalize E.map D.int = EL at *
    generalize rows.map rwD = RL at *
    simp [m2, c2, lstG])]
  generalize E.map D.int = EL at *
  generalize vals.map D.int = VL at *
  rcases h with rfl | ⟨rows0, s0, lo, s, w, d, h1, h2, h3, rfl, h4⟩
  · by_cases hab : a < b
    · refine ⟨[(some a, some b, some v)], .v (.int a), .v (.int b), ⟨by simp, .inr ⟨[], a, a, b, v, DrawM.nil a, Int.le_refl _, hab, (fun r h => by simp at h), rfl, up⟩⟩, ?_⟩
      simp at ne
      simp [ne, hab, iv, e0]
    · refine ⟨[], .v (.int a), .v (.int b), ⟨by simp, .inl rfl⟩, ?_⟩
      simp at ne
      simp [ne, hab]
  · have sa := lo' h4
    have ie : (rows0 ++ [(some lo, some s, some w)]).isEmpty = false := by simp
    rw [ie] at ne
    rw [List.map_append, List.map_cons, List.map_nil] at ne zl
    have last : ixD (.lst (rows0.map rwD ++ [rwD (some lo, some s, some w)])) (.int (-1)) = some (rwD (some lo, some s, some w)) := ixL_last _ _
    have le : ixN (rows0.length + 1) (-1) = some rows0.length := by rw [ixN_last (by omega)]; rfl
    have w0 : ixD (rwD (some lo, some s, some w)) (.int 0) = some (.int lo) := by simp [rwD]
    have w1 : ixD (rwD (some lo, some s, some w)) (.int 1) = some (.int s) := by simp [rwD]
    have w2 : ixD (rwD (some lo, some s, some w)) (.int 2) = some (.int w) := by simp [rwD]
    have e2 : D.tup [.int lo, .int b, .int v] = rwD (some lo, some b, some v) := rfl
    by_cases hm : a = s ∧ v = w
    · obtain ⟨rfl, rfl⟩ := hm
      refine ⟨rows0 ++ [(some lo, some b, some v)], .v (.int a), .v (.int b), ⟨by simp at hl ⊢; omega, .inr ⟨rows0, s0, lo, b, v, d, h1, by omega, h3, rfl, up⟩⟩, ?_⟩
      rw [List.map_append, List.map_append, List.map_cons, List.map_nil, List.map_cons, List.map_nil]
      generalize rwD (some lo, some a, some v) = R1 at *
      simp at ne
      simp [ne, last, w0, w1, w2, iv, le, e2]
    · have t1 : (andT (testB (bin2 neD (getW 7) (mkL (sized nilA)))) (andT (testB (bin2 eqD (getW 9) (bin2 ixD (bin2 ixD (getW 7) (un1 negD (konst (.int 1)))) (konst (.int 1))))) (testB (bin2 eqD (bin2 ixD (getW 6) (getW 8)) (bin2 ixD (bin2 ixD (getW 7) (un1 negD (konst (.int 1)))) (konst (.int 2))))))) [A0, A1, A2, A3, A4, .v (.lst EL), .v (.lst VL), .own (rows0.map rwD ++ [rwD (some lo, some s, some w)]), .v (.int (k : Int)), .v (.int a), .v (.int b)] = some false := by
        generalize rwD (some lo, some s, some w) = R1 at *
        generalize rows0.map rwD = R0 at *
        by_cases q : a = s
        · have q2 : ¬ v = w := fun z => hm ⟨q, z⟩
          simp [ne, last, w1, w2, iv, q, q2]
        · simp [ne, last, w1, q]
      rw [List.map_append, List.map_cons, List.map_nil]
      rw [if_not t1]
      by_cases hab : a < b
      · refine ⟨(rows0 ++ [(some lo, some s, some w)]) ++ [(some a, some b, some v)], .v (.int a), .v (.int b), ⟨by simp at hl ⊢; omega, .inr ⟨_, s, a, b, v, d.snoc h1 h2 h3, sa, hab, (fun r hr e => ?_), rfl, up⟩⟩, ?_⟩
        · simp at hr
          subst hr
          exact fun z => hm ⟨e, by cases z; rfl⟩
        · rw [List.map_append, List.map_append]
          simp only [List.map_cons, List.map_nil]
          generalize rwD (some lo, some s, some w) = R1 at *
          simp at zl
          simp [hab, iv, e0, zl]
      · refine ⟨rows0 ++ [(some lo, some s, some w)], .v (.int a), .v (.int b), ⟨by simp at hl ⊢; omega, .inr ⟨rows0, s0, lo, s, w, d, h1, h2, h3, rfl, fun j x hj e => h4 j x (by omega) e⟩⟩, ?_⟩
        rw [List.map_append, List.map_cons, List.map_nil]
        simp [hab]
theorem zigs_ex (ds : List Int) {B : Int} (hB : intBits B ≤ 2000) (h : ∀ x ∈ ds, 0 ≤ x ∧ x < B) : ∃ es : List Int, es.length = ds.length ∧ compL (nameG 0) (fun _ => some true) (callV 1 GL.zig.f (consA (getW 0) nilA)) [.no] (ds.map D.int) = some (es.map D.int) := by
  induction ds with
  | nil => exact ⟨[], rfl, rfl⟩
  | cons x ds ih =>
    obtain ⟨es, l, e⟩ := ih fun z hz => h z (List.mem_cons_of_mem _ hz)
    obtain ⟨h0, h1⟩ := h x List.mem_cons_self
    obtain ⟨y, ey⟩ := zig_ex (x := x) (by
      have : intBits x ≤ intBits B := by
        have := intBits_le_iff.mp (Nat.le_refl (intBits B))
        refine bits_nat ?_
        omega
      omega)
    refine ⟨y :: es, by simp [l], ?_⟩
    rw [List.map_cons, compL]
    simp [ey, e]
theorem ints_of (ns : List Int) : intsD (ns.map D.int) = some ns := by
  induction ns with
  | nil => rfl
  | cons a r ih => simp [intsD, ih]
theorem any_map_ex (n : Nat) (hn : n ≤ 30) (t c1 c2 : Int) (h1 : intBits c1 ≤ 1048576) (h2 : intBits c2 ≤ 1048576) : ∃ ps : List Rw, MapF ps ∧ ps.length ≤ 30 ∧ K63.L_any_map.f [.int (n : Int), .int t, .int c1, .int c2] = some (.fresh (ps.map rwD)) := by
  have sz : sizeLine = 16777216 := rfl
  obtain ⟨F, hF, eF⟩ := far_eq
  have hB : divOk (2 * F + 1) := by rw [hF]; exact ⟨by decide, by decide +kernel⟩
  have bB : intBits (2 * F + 1) ≤ 2000 := by rw [hF]; exact bits_nat (by decide +kernel)
  have mF : mulD (.int 2) (.int F) = some (.int (2 * F)) := mulD_ok (.of_left (bits_nat (Nat.lt_of_lt_of_le (show (2 : Int).natAbs < 2 ^ 2 by decide) (by decide))))
  have mn := mul_small (i := 2) (j := (n : Int)) (by omega) (by omega)
  obtain ⟨d1, l1, b1, e1⟩ := digits_ex c1 (2 * F + 1) h1 hB (2 * n) (by omega)
  obtain ⟨d2, l2, b2, e2⟩ := digits_ex c2 (2 * F + 1) h2 hB n (by omega)
  rw [show ((2 * n : Nat) : Int) = 2 * (n : Int) by omega] at e1
  obtain ⟨g1, k1, z1⟩ := zigs_ex d1 bB b1
  obtain ⟨g2, k2, z2⟩ := zigs_ex d2 bB b2
  have pm := srtI_perm g1
  have so := srtI_le g1
  have lE : (srtI g1).length = 2 * n := by rw [pm.length_eq]; omega
  have sr : ∀ ds, (mkL (compG (viaA (callV 3 GL.digits.f (consA (getW 2) (consA (bin2 addD (bin2 mulD (konst (.int 2)) (getW 4)) (konst (.int 1))) (consA (bin2 mulD (konst (.int 2)) (getW 0)) nilA)))) asLT) [none] (nameG 0) (fun _ => some true) (callV 1 GL.zig.f (consA (getW 0) nilA)))) ([.v (.int (n : Int)), .v (.int t), .v (.int c1), .v (.int c2), .v (.int F)] ++ ds) = some (.lst (g1.map D.int)) := fun ds => by
    have := compG_ok (fi := viaA (callV 3 GL.digits.f (consA (getW 2) (consA (bin2 addD (bin2 mulD (konst (.int 2)) (getW 4)) (konst (.int 1))) (consA (bin2 mulD (konst (.int 2)) (getW 0)) nilA)))) asLT) (mp := [none]) (ds := [.v (.int (n : Int)), .v (.int t), .v (.int c1), .v (.int c2), .v (.int F)] ++ ds) (items := d1.map D.int) (by
      generalize d1.map D.int = DL at *
      simp [mF, mn, e1, retV]) (by simp; omega) z1
    rw [mkL_eq, this]; rfl
  have cv : ∀ ds, compG (viaA (callV 3 GL.digits.f (consA (getW 3) (consA (bin2 addD (bin2 mulD (konst (.int 2)) (getW 4)) (konst (.int 1))) (consA (getW 0) nilA)))) asLT) [none] (nameG 0) (fun _ => some true) (callV 1 GL.zig.f (consA (getW 0) nilA)) ([.v (.int (n : Int)), .v (.int t), .v (.int c1), .v (.int c2), .v (.int F)] ++ ds) = some (g2.map D.int) := fun ds =>
    compG_ok (items := d2.map D.int) (by
      generalize d2.map D.int = DL at *
      simp [mF, e2, retV]) (by simp; omega) z2
  have is := ints_of g1
  have g64 : g1.length < 64 := by omega
  obtain ⟨ds', el, rows, x8, x9, x10, am, rfl⟩ := loop_range (ga := nameG 8) (body := K63.L_any_map.b1) (fun k ds => ∃ rows x8 x9 x10, AM (srtI g1) rows k ∧ ds = [.v (.int (n : Int)), .v (.int t), .v (.int c1), .v (.int c2), .v (.int F), .v (.lst ((srtI g1).map D.int)), .v (.lst (g2.map D.int)), .own (rows.map rwD), x8, x9, x10]) n (by
    rintro k hk _ ⟨rows, x8, x9, x10, am, rfl⟩
    obtain ⟨rows', y9, y10, am', e⟩ := am_turn so (vals := g2) (k := k) (by omega) (by omega) (by omega) am (.v (.int (n : Int))) (.v (.int t)) (.v (.int c1)) (.v (.int c2)) (.v (.int F)) x9 x10
    exact ⟨_, _, rfl, e, rows', _, y9, y10, am', rfl⟩) n 0 [.v (.int (n : Int)), .v (.int t), .v (.int c1), .v (.int c2), .v (.int F), .v (.lst ((srtI g1).map D.int)), .v (.lst (g2.map D.int)), .own [], .no, .no, .no] (by omega) ⟨[], .no, .no, .no, ⟨by simp, .inl rfl⟩, rfl⟩
  have ok : okR (n : Int) := okR_small (by omega) (by omega)
  have rg : (List.range' 0 n).map (fun (j : Nat) => D.int (0 + (j : Int))) = rangeD 0 n := by rw [rangeD, List.range_eq_range']
  rw [rg] at el
  have mm := am.map
  obtain ⟨rows1, o1, r1, q1, w1⟩ := open_lo 7 (testB (bin2 eqD (bin2 modD (getW 1) (konst (.int 2))) (konst (.int 1)))) [.v (.int (n : Int)), .v (.int t), .v (.int c1), .v (.int c2), .v (.int F), .v (.lst ((srtI g1).map D.int)), .v (.lst (g2.map D.int)), .own (rows.map rwD), x8, x9, x10] rows (decide (t % 2 = 1)) mm.ord rfl (by simp)
  have m1' : MapF rows1 := by
    rcases q1 with rfl | ⟨r, t, rfl, rfl⟩
    · exact mm
    · exact map_first mm
  obtain ⟨rows2, o2, r2, q2, w2⟩ := open_hi 7 (testB (bin2 eqD (bin2 modD (bin2 fdivD (getW 1) (konst (.int 2))) (konst (.int 2))) (konst (.int 1)))) [.v (.int (n : Int)), .v (.int t), .v (.int c1), .v (.int c2), .v (.int F), .v (.lst ((srtI g1).map D.int)), .v (.lst (g2.map D.int)), .own (rows1.map rwD), x8, x9, x10] rows1 (decide (t / 2 % 2 = 1)) o1 rfl (by simp)
  have m2' : MapF rows2 := by
    rcases q2 with rfl | ⟨r, t, rfl, rfl⟩
    · exact m1'
    · exact map_last m1'
  have fl := flats_rw rows2
  refine ⟨rows2, m2', by have := am.1; omega, ?_⟩
  unfold K63.L_any_map.f
  refine run_rt ?_
  unfold K63.L_any_map.g
  have ar : args 11 [.int (n : Int), .int t, .int c1, .int c2] = [.v (.int (n : Int)), .v (.int t), .v (.int c1), .v (.int c2), .no, .no, .no, .no, .no, .no, .no] := by simp [args]
  rw [ar]
  rw [seq_nx (ds' := [.v (.int (n : Int)), .v (.int t), .v (.int c1), .v (.int c2), .v (.int F), .no, .no, .no, .no, .no, .no]) (by
    simp [eF])]
  have sr1 := sr [.no, .no, .no, .no, .no, .no]
  simp only [List.cons_append, List.nil_append] at sr1
  rw [seq_nx (ds' := [.v (.int (n : Int)), .v (.int t), .v (.int c1), .v (.int c2), .v (.int F), .v (.lst ((srtI g1).map D.int)), .no, .no, .no, .no, .no]) (by
    rw [setG_eq, mkL_eq]
    unfold srtA64
    rw [sr1]
    simp [is, g64])]
  have cv1 := cv [.v (.lst ((srtI g1).map D.int)), .no, .no, .no, .no, .no]
  simp only [List.cons_append, List.nil_append] at cv1
  rw [seq_nx (ds' := [.v (.int (n : Int)), .v (.int t), .v (.int c1), .v (.int c2), .v (.int F), .v (.lst ((srtI g1).map D.int)), .v (.lst (g2.map D.int)), .no, .no, .no, .no]) (by
    rw [setG_eq, mkL_eq, cv1]; rfl)]
  generalize (srtI g1).map D.int = EL at *
  generalize g2.map D.int = VL at *
  rw [seq_nx (ds' := [.v (.int (n : Int)), .v (.int t), .v (.int c1), .v (.int c2), .v (.int F), .v (.lst EL), .v (.lst VL), .own [], .no, .no, .no]) (by simp)]
  rw [seq_nx (ds' := [.v (.int (n : Int)), .v (.int t), .v (.int c1), .v (.int c2), .v (.int F), .v (.lst EL), .v (.lst VL), .own (rows.map rwD), x8, x9, x10]) (by
    simp [ok, el])]
  simp only [List.set_cons_succ, List.set_cons_zero] at w1 w2
  rw [seq_nx w1, seq_nx w2]
  simp [retXG, flatF, fl]
theorem hold_of {c : D} {T : Option Int → Bool} (h0 : ∀ v, K63.Phi0 c [oi v] = some (.val (.bl (T v)))) (v : Option Int) : K63.Phi (.clo 4 0 [c]) [oi v] = some (.val (oi (hWF T v))) := by
  have e : K63.Phi (.clo 4 0 [c]) [oi v] = lamF 1 K63.lam_holding_0 [c] [oi v] := rfl
  have h := h0 v
  rw [e]
  unfold lamF lamR K63.lam_holding_0
  cases hT : T v <;> rw [hT] at h <;> simp [callW, h, hT, hWF, retV, flat]
theorem test_ex (cell w : Int) : ∃ (c : D) (T : Option Int → Bool), (∀ v, K63.Phi0 c [oi v] = some (.val (.bl (T v)))) ∧ (∀ v, K63.Phi c [oi v] = K63.Phi0 c [oi v]) ∧ flatC c = true ∧ GL.test.f [.int cell, .int w] = some (.val c) := by
  have q0 : eqD .non (.int w) = some (.bl false) := (eqD_oi none (some w)).trans (by simp)
  have q1 : neD .non (.int w) = some (.bl true) := (neD_oi none (some w)).trans (by simp)
  have h : cell % 9 = 0 ∨ cell % 9 = 1 ∨ cell % 9 = 2 ∨ cell % 9 = 3 ∨ cell % 9 = 4 ∨ cell % 9 = 5 ∨ cell % 9 = 6 ∨ cell % 9 = 7 ∨ cell % 9 = 8 := by omega
  unfold GL.test.f runG GL.test.g
  rcases h with h | h | h | h | h | h | h | h | h
  · refine ⟨.clo 6 0 [], Option.isNone, fun v => ?_, fun _ => rfl, by simp [flatC, flats, flat], by simp [args, cloV, capsA, retCG, flatC, flats, flat, h]⟩
    show lamF 1 K63.lam__law_test_0 [] [oi v] = _
    unfold lamF lamR K63.lam__law_test_0
    cases v <;> simp [flat]
  · refine ⟨.clo 6 1 [], Option.isSome, fun v => ?_, fun _ => rfl, by simp [flatC, flats, flat], by simp [args, cloV, capsA, retCG, flatC, flats, flat, h]⟩
    show lamF 1 K63.lam__law_test_1 [] [oi v] = _
    unfold lamF lamR K63.lam__law_test_1
    cases v <;> simp [flat]
  · refine ⟨.clo 6 2 [.int w], fun v => decide (v = some w), fun v => ?_, fun _ => rfl, by simp [flatC, flats, flat], by simp [args, cloV, capsA, retCG, flatC, flats, flat, h]⟩
    show lamF 1 K63.lam__law_test_2 [.int w] [oi v] = _
    unfold lamF lamR K63.lam__law_test_2
    cases v <;> simp [flat, q0]
  · refine ⟨.clo 6 3 [.int w], fun v => !decide (v = some w), fun v => ?_, fun _ => rfl, by simp [flatC, flats, flat], by simp [args, cloV, capsA, retCG, flatC, flats, flat, h]⟩
    show lamF 1 K63.lam__law_test_3 [.int w] [oi v] = _
    unfold lamF lamR K63.lam__law_test_3
    cases v <;> simp [flat, q1]
  · refine ⟨.clo 6 4 [.int w], fun v => match v with | none => false | some x => decide (x % 2 = w % 2), fun v => ?_, fun _ => rfl, by simp [flatC, flats, flat], by simp [args, cloV, capsA, retCG, flatC, flats, flat, h]⟩
    show lamF 1 K63.lam__law_test_4 [.int w] [oi v] = _
    unfold lamF lamR K63.lam__law_test_4
    cases v <;> simp [flat]
  · refine ⟨.clo 6 5 [.int w], fun v => match v with | none => true | some x => decide (x % 2 = w % 2), fun v => ?_, fun _ => rfl, by simp [flatC, flats, flat], by simp [args, cloV, capsA, retCG, flatC, flats, flat, h]⟩
    show lamF 1 K63.lam__law_test_5 [.int w] [oi v] = _
    unfold lamF lamR K63.lam__law_test_5
    cases v <;> simp [flat]
  · refine ⟨.clo 6 6 [.int w], fun v => match v with | none => false | some x => decide (w ≤ x), fun v => ?_, fun _ => rfl, by simp [flatC, flats, flat], by simp [args, cloV, capsA, retCG, flatC, flats, flat, h]⟩
    show lamF 1 K63.lam__law_test_6 [.int w] [oi v] = _
    unfold lamF lamR K63.lam__law_test_6
    cases v <;> simp [flat]
  · refine ⟨.clo 6 7 [.int 7], fun _ => true, fun v => ?_, fun _ => rfl, by simp [flatC, flats, flat], by simp [args, cloV, capsA, retCG, flatC, flats, flat, h]⟩
    show lamF 1 K63.lam__law_test_7 [.int 7] [oi v] = _
    unfold lamF lamR K63.lam__law_test_7
    cases v <;> simp [flat]
  · refine ⟨.clo 6 7 [.int 8], fun _ => false, fun v => ?_, fun _ => rfl, by simp [flatC, flats, flat], by simp [args, cloV, capsA, retCG, flatC, flats, flat, h]⟩
    show lamF 1 K63.lam__law_test_7 [.int 8] [oi v] = _
    unfold lamF lamR K63.lam__law_test_7
    cases v <;> simp [flat]
theorem tm64_ex (R : List Rw) (hne : R ≠ []) (hl : R.length ≤ 100000) (c : Int) : ∃ n : Int, 1 ≤ n ∧ GL.times.f [.lst (R.map rwD), .int c] = some (.val (.int n)) := by
  have hl0 : (0 : Int) < (R.length : Int) := by
    have := List.length_pos_iff.mpr hne
    omega
  have i0 := Int.emod_nonneg (c / 4) (Int.ne_of_gt hl0)
  have i1 := Int.emod_lt_of_pos (c / 4) hl0
  obtain ⟨r, er⟩ : ∃ r, ixD (.lst (R.map rwD)) (.int (c / 4 % (R.length : Int))) = some (rwD r) := by
    rw [ixL_pos _ i0 (by simpa using i1)]
    have : (c / 4 % (R.length : Int)).toNat < R.length := by omega
    exact ⟨R[(c / 4 % (R.length : Int)).toNat], by rw [List.getElem?_map, List.getElem?_eq_getElem this]; rfl⟩
  have m1 := modD_pos (c / 4) hl0
  have f1 := fdivD_small (c / 4) hl0 (by omega)
  have p60 : powD (.int 10) (.int 60) = some (.int (10 ^ 60)) := pow10 (by decide) (by decide)
  have m60 : ∀ x, modD (.int x) (.int (10 ^ 60)) = some (.int (x % 10 ^ 60)) := fun x => modD_pos x (by decide)
  have n60 : ∀ x : Int, 0 ≤ x % 10 ^ 60 := fun x => Int.emod_nonneg _ (by decide)
  have hlen : lenD [.lst (R.map rwD)] = some (.int (R.length : Int)) := by simp
  have last : ∃ n : Int, 1 ≤ n ∧ ixD (.lst [.int (1 + c / 4 % 12), .int (1 + c / 4 % 10 ^ 60)]) (.int (c % 2)) = some (.int n) := by
    have : c % 2 = 0 ∨ c % 2 = 1 := by omega
    rcases this with h | h <;> rw [h]
    · exact ⟨1 + c / 4 % 12, by omega, by rw [ixL_pos _ (by decide) (by simp)]; rfl⟩
    · exact ⟨1 + c / 4 % 10 ^ 60, by have := n60 (c / 4); omega, by rw [ixL_pos _ (by decide) (by simp)]; rfl⟩
  obtain ⟨n, hn, en⟩ := last
  unfold GL.times.f runG GL.times.g
  generalize (R.length : Int) = L at *
  generalize R.map rwD = RL at *
  generalize (10 : Int) ^ 60 = A at *
  by_cases hc : c % 4 < 2
  · obtain ⟨a, b, v⟩ := r
    cases a with
    | none => exact ⟨n, hn, by simp [args, er, m1, f1, p60, m60, hlen, en, hc, rwD]⟩
    | some a =>
      cases b with
      | none => exact ⟨n, hn, by simp [args, er, m1, f1, p60, m60, hlen, en, hc, rwD]⟩
      | some b => exact ⟨max 1 (b - a + c / 4 / L % 3 - 1), by omega, by simp [args, er, m1, f1, p60, m60, hlen, en, hc, rwD]⟩
  · exact ⟨n, hn, by simp [args, er, m1, f1, p60, m60, hlen, en, hc, rwD]⟩
theorem put_bl (k : Key) (b : Bool) : ∀ (ks : List Key) (bs : List Bool), ks.length = bs.length → ∃ (ks' : List Key) (bs' : List Bool), ks'.length = bs'.length ∧ ks'.length ≤ ks.length + 1 ∧
    putKT k (.val (.bl b)) ks (bs.map fun b => OT.val (.bl b)) = .dct ks' (bs'.map fun b => OT.val (.bl b)) := by
  have key : ∀ (ks : List Key) (bs : List Bool), ks.length = bs.length → ∃ bs' : List Bool, bs'.length = bs.length ∧ putTs k (.val (.bl b)) ks (bs.map fun b => OT.val (.bl b)) = bs'.map fun b => OT.val (.bl b) := by
    intro ks
    induction ks with
    | nil =>
      intro bs h
      cases bs with
      | nil => exact ⟨[], rfl, rfl⟩
      | cons a r => cases h
    | cons k' ks ih =>
      intro bs h
      cases bs with
      | nil => cases h
      | cons a r =>
        obtain ⟨bs', l, e⟩ := ih r (by simpa using h)
        by_cases hk : k' = k
        · exact ⟨b :: bs', by simp [l], by simp [putTs, hk, e]⟩
        · exact ⟨a :: bs', by simp [l], by simp [putTs, hk, e]⟩
  intro ks bs h
  unfold putKT
  split
  · obtain ⟨bs', l, e⟩ := key ks bs h
    exact ⟨ks, bs', by omega, by omega, by rw [e]⟩
  · exact ⟨ks ++ [k], bs ++ [b], by simp [h], by simp, by simp⟩
theorem keyD_oi (v : Option Int) : keyD (oi v) = some (.inl v) := by cases v <;> rfl
theorem vals_bl (bs : List Bool) : valsO (bs.map fun b => OT.val (.bl b)) = some (bs.map D.bl) := by
  induction bs with
  | nil => rfl
  | cons a r ih => simp [valsO, ih]
theorem getKD_bl (k : Key) : ∀ (ks : List Key) (bs : List Bool), ∃ b, (getKD k ks (bs.map D.bl)).getD (.bl false) = .bl b := by
  intro ks
  induction ks with
  | nil => intro bs; exact ⟨false, rfl⟩
  | cons k' ks ih =>
    intro bs
    cases bs with
    | nil => exact ⟨false, rfl⟩
    | cons a r =>
      by_cases h : k' = k
      · exact ⟨a, by simp [getKD, h]⟩
      · obtain ⟨b, e⟩ := ih r
        exact ⟨b, by simp [getKD, h, e]⟩
theorem any_test_ex {ps : List Rw} (hl : ps.length ≤ 30) (c : Int) (hc : intBits c ≤ 1048576) : ∃ (f : D) (T : Option Int → Bool), (∀ v, K63.Phi0 f [oi v] = some (.val (.bl (T v)))) ∧ (∀ v, K63.Phi f [oi v] = K63.Phi0 f [oi v]) ∧
    K63.L_any_test.f [.lst (ps.map rwD), .int c] = some (.val f) := by
  obtain ⟨ds, ld, bd, ed⟩ := digits_ex c 2 hc ⟨by decide, by decide⟩ (ps.length + 1) (by omega)
  have ixb : ∀ j : Nat, j < ds.length → ∃ b : Bool, bin2 eqD (fun _ => ixD (.lst (ds.map D.int)) (.int (j : Int))) (konst (.int 1)) [] = some (.bl b) := fun j hj => by
    rw [ixL_pos _ (by omega) (by simp; omega), Int.toNat_natCast, List.getElem?_map, List.getElem?_eq_getElem hj]
    exact ⟨decide (ds[j] = 1), by simp⟩
  have b0 : ∃ b : Bool, ∀ dd : List Sl, dd[2]? = some (.v (.lst (ds.map D.int))) → bin2 eqD (bin2 ixD (getW 2) (konst (.int 0))) (konst (.int 1)) dd = some (.bl b) := by
    obtain ⟨b, e⟩ := ixb 0 (by omega)
    refine ⟨b, fun dd h => ?_⟩
    generalize ds.map D.int = DL at *
    simp [h] at e ⊢
    exact e
  obtain ⟨b0, e0⟩ := b0
  have lp := loop_range (ga := nameG 4) (body := K63.L_any_test.b1) (fun k dd => ∃ (ks : List Key) (bs : List Bool) (x4 : Sl), ks.length = bs.length ∧ ks.length ≤ k + 1 ∧ dd = [.v (.lst (ps.map rwD)), .v (.int c), .v (.lst (ds.map D.int)), .ob none (.dct ks (bs.map fun b => OT.val (.bl b))), x4]) ps.length (by
    rintro k hk _ ⟨ks, bs, x4, h1, h2, rfl⟩
    obtain ⟨b, e⟩ := ixb (k + 1) (by omega)
    obtain ⟨ks', bs', h3, h4, e'⟩ := put_bl (.inl ps[k].2.2) b ks bs h1
    refine ⟨_, _, rfl, ?_, ks', bs', .v (.int (k : Int)), h3, by omega, rfl⟩
    have ir : ixD (.lst (ps.map rwD)) (.int (k : Int)) = some (rwD ps[k]) := ix_rw (List.getElem?_eq_getElem hk)
    have kk := keyD_oi ps[k].2.2
    have z : ks.length < 16777216 := by omega
    simp only [Int.natCast_add, Int.cast_ofNat_Int] at e
    unfold K63.L_any_test.b1
    generalize ds.map D.int = DL at *
    generalize ps.map rwD = PL at *
    generalize (bs.map fun b => OT.val (.bl b)) = BL at *
    generalize (bs'.map fun b => OT.val (.bl b)) = BL' at *
    simp at e
    simp [dputG, ir, e, kk, varP, z, e', putP, putO]) ps.length 0 [.v (.lst (ps.map rwD)), .v (.int c), .v (.lst (ds.map D.int)), .ob none (.dct [.inl none] [.val (.bl b0)]), .no] (by omega) ⟨[.inl none], [b0], .no, rfl, by simp, rfl⟩
  obtain ⟨_, el, ks, bs, x4, h1, h2, rfl⟩ := lp
  obtain ⟨T, hT⟩ : ∃ T : Option Int → Bool, ∀ v, (getKD (.inl v) ks (bs.map D.bl)).getD (.bl false) = .bl (T v) := ⟨fun v => Classical.choose (getKD_bl (.inl v) ks bs), fun v => Classical.choose_spec (getKD_bl (.inl v) ks bs)⟩
  refine ⟨.clo 5 0 [.dcf ks (bs.map D.bl)], T, fun v => ?_, fun v => rfl, ?_⟩
  · have hb := hT v
    show lamF 1 K63.lam__law_any_test_0 [.dcf ks (bs.map D.bl)] [oi v] = _
    unfold lamF lamR K63.lam__law_any_test_0 dget2G
    simp [keyD_oi, kdD, hb, flat]
  · have rg : (List.range' 0 ps.length).map (fun (j : Nat) => D.int (0 + (j : Int))) = rangeD 0 ps.length := by rw [rangeD, List.range_eq_range']
    rw [rg] at el
    have ok : okR (ps.length : Int) := okR_small (by omega) (by omega)
    have fb : flats (bs.map D.bl) = true := by
      clear el h1 hT
      induction bs with
      | nil => rfl
      | cons a r ih => simp [flats, flat]; simpa using ih
    have vb := vals_bl bs
    simp only [Int.natCast_add, Int.cast_ofNat_Int] at ed
    unfold K63.L_any_test.f
    refine run_rt ?_
    unfold K63.L_any_test.g
    have ar : args 5 [.lst (ps.map rwD), .int c] = [.v (.lst (ps.map rwD)), .v (.int c), .no, .no, .no] := by simp [args]
    rw [ar]
    have lz : ((ps.map rwD).length : Int) = (ps.length : Int) := by simp
    rw [seq_nx (ds' := [.v (.lst (ps.map rwD)), .v (.int c), .v (.lst (ds.map D.int)), .no, .no]) (by
      generalize ds.map D.int = DL at *
      generalize ps.map rwD = PL at *
      simp [lz, ed])]
    have e0' := e0 [.v (.lst (ps.map rwD)), .v (.int c), .v (.lst (ds.map D.int)), .no, .no] rfl
    rw [seq_nx (ds' := [.v (.lst (ps.map rwD)), .v (.int c), .v (.lst (ds.map D.int)), .ob none (.dct [.inl none] [.val (.bl b0)]), .no]) (by
      unfold setB dO1
      rw [e0']
      simp [keyD, flat])]
    rw [seq_nx (ds' := [.v (.lst (ps.map rwD)), .v (.int c), .v (.lst (ds.map D.int)), .ob none (.dct ks (bs.map fun b => OT.val (.bl b))), x4]) (by
      generalize ds.map D.int = DL at *
      generalize hPL : ps.map rwD = PL at *
      have ok' : okR (PL.length : Int) := by rw [lz]; exact ok
      have lz' : (PL.length : Int).toNat = ps.length := by omega
      simp [ok', lz', el])]
    generalize ds.map D.int = DL at *
    generalize ps.map rwD = PL at *
    simp [frzDG, vb, retCG2, cloV, capsA, flatC2, flatZ, fb]
theorem ovl {ps : List Rw} (o : Ord ps) {g : Rw} (hg : g ∈ runsF ps) {lo : Int} {bh : Option Int} (h1 : ∀ a b, g.1 = some a → bh = some b → a < b) (h2 : ∀ x, g.2.1 = some x → lo < x) (h3 : ∀ b, bh = some b → lo < b) :
    ∃ q, lo ≤ q ∧ (∀ b, bh = some b → q < b) ∧ valL ps q = g.2.2 := by
  have t := til_runsF o
  have ok := (til_ord t).ok g hg
  have fin : ∀ q, lo ≤ q → (∀ b, bh = some b → q < b) → (∀ a, g.1 = some a → a ≤ q) → (∀ b, g.2.1 = some b → q < b) → ∃ q, lo ≤ q ∧ (∀ b, bh = some b → q < b) ∧ valL ps q = g.2.2 := fun q a1 a2 a3 a4 => by
    refine ⟨q, a1, a2, ?_⟩
    rw [← atB_val o]
    exact til_val t hg ((has3_iff g q).mpr ⟨a3, a4⟩)
  cases e : g.1 with
  | none => exact fin lo (Int.le_refl _) h3 (fun a z => by rw [e] at z; cases z) h2
  | some a =>
    refine fin (max lo a) (Int.le_max_left _ _) (fun b z => ?_) (fun a' z => by rw [e] at z; cases z; exact Int.le_max_right _ _) fun b z => ?_
    · have := h1 a b e z; have := h3 b z; omega
    · have := h2 b z; have := ok a b e z; omega
theorem all_turn {c : D} {T : Option Int → Bool} (hT : ∀ v, K63.Phi c [oi v] = some (.val (.bl (T v)))) (A0 : Sl) (lo : Int) (bh : Option Int) (due : Bool) (r : Rw) (h : (∀ a b, r.1 = some a → bh = some b → a < b) → (∀ x, r.2.1 = some x → lo < x) → T r.2.2 = due) :
    K63.L_all.b1 [A0, .v (.int lo), .v (oi bh), .v c, .v (.bl due), .v (oi r.1), .v (oi r.2.1), .v (oi r.2.2)] = some (.nx [A0, .v (.int lo), .v (oi bh), .v c, .v (.bl due), .v (oi r.1), .v (oi r.2.1), .v (oi r.2.2)]) := by
  have hv := hT r.2.2
  have cw : ∀ a b d : Sl, callW K63.Phi 3 (consA (getW 7) nilA) [A0, a, b, .v c, d, .v (oi r.1), .v (oi r.2.1), .v (oi r.2.2)] = some (.bl (T r.2.2)) := fun a b d => by simp [callW, hv, retV, flat]
  have ne : ∀ b : Bool, neD (.bl b) (.bl b) = some (.bl false) := fun b => by cases b <;> rfl
  unfold K63.L_all.b1
  generalize callW K63.Phi 3 (consA (getW 7) nilA) = CW at *
  generalize T r.2.2 = tv at *
  obtain ⟨a, x, v⟩ := r
  simp only at h cw ⊢
  by_cases g1 : ∀ y b, a = some y → bh = some b → y < b
  · by_cases g2 : ∀ y, x = some y → lo < y
    · have := h g1 g2
      subst this
      have t1 : orT (testB (bin2 isD (getW 2) (konst .non))) (orT (testB (bin2 isD (getW 5) (konst .non))) (testB (bin2 ltD (getW 5) (getW 2)))) [A0, .v (.int lo), .v (oi bh), .v c, .v (.bl tv), .v (oi a), .v (oi x), .v (oi v)] = some true := by
        cases bh with
        | none => simp
        | some b => cases a with
          | none => simp
          | some y => simp [g1 y b rfl rfl]
      have t2 : orT (testB (bin2 isD (getW 6) (konst .non))) (testB (bin2 ltD (getW 1) (getW 6))) [A0, .v (.int lo), .v (oi bh), .v c, .v (.bl tv), .v (oi a), .v (oi x), .v (oi v)] = some true := by
        cases x with
        | none => simp
        | some y => simp [g2 y rfl]
      generalize orT (testB (bin2 isD (getW 2) (konst .non))) (orT (testB (bin2 isD (getW 5) (konst .non))) (testB (bin2 ltD (getW 5) (getW 2)))) = T1 at *
      generalize orT (testB (bin2 isD (getW 6) (konst .non))) (testB (bin2 ltD (getW 1) (getW 6))) = T2 at *
      simp [t1, t2, cw, ne]
    · obtain ⟨y, rfl, hy⟩ : ∃ y, x = some y ∧ ¬ lo < y := by
        cases x with
        | none => exact (g2 fun _ e => nomatch e).elim
        | some y => exact ⟨y, rfl, fun z => g2 fun _ e => by cases e; exact z⟩
      have t2 : orT (testB (bin2 isD (getW 6) (konst .non))) (testB (bin2 ltD (getW 1) (getW 6))) [A0, .v (.int lo), .v (oi bh), .v c, .v (.bl due), .v (oi a), .v (.int y), .v (oi v)] = some false := by simp [hy]
      have t1 : ∃ b, orT (testB (bin2 isD (getW 2) (konst .non))) (orT (testB (bin2 isD (getW 5) (konst .non))) (testB (bin2 ltD (getW 5) (getW 2)))) [A0, .v (.int lo), .v (oi bh), .v c, .v (.bl due), .v (oi a), .v (.int y), .v (oi v)] = some b := by
        cases bh with
        | none => exact ⟨true, by simp⟩
        | some b => cases a with
          | none => exact ⟨true, by simp⟩
          | some y => exact ⟨decide (y < b), by simp⟩
      obtain ⟨b, t1⟩ := t1
      simp only [oi_some]
      generalize orT (testB (bin2 isD (getW 2) (konst .non))) (orT (testB (bin2 isD (getW 5) (konst .non))) (testB (bin2 ltD (getW 5) (getW 2)))) = T1 at *
      generalize orT (testB (bin2 isD (getW 6) (konst .non))) (testB (bin2 ltD (getW 1) (getW 6))) = T2 at *
      cases b <;> simp [t1, t2]
  · obtain ⟨y, b, rfl, rfl, hy⟩ : ∃ y b, a = some y ∧ bh = some b ∧ ¬ y < b := by
      cases a with
      | none => exact (g1 fun _ _ e => nomatch e).elim
      | some y => cases bh with
        | none => exact (g1 fun _ _ _ e => nomatch e).elim
        | some b => exact ⟨y, b, rfl, rfl, fun z => g1 fun _ _ e1 e2 => by cases e1; cases e2; exact z⟩
    have t1 : orT (testB (bin2 isD (getW 2) (konst .non))) (orT (testB (bin2 isD (getW 5) (konst .non))) (testB (bin2 ltD (getW 5) (getW 2)))) [A0, .v (.int lo), .v (.int b), .v c, .v (.bl due), .v (.int y), .v (oi x), .v (oi v)] = some false := by simp [hy]
    simp only [oi_some]
    generalize orT (testB (bin2 isD (getW 2) (konst .non))) (orT (testB (bin2 isD (getW 5) (konst .non))) (testB (bin2 ltD (getW 5) (getW 2)))) = T1 at *
    simp [t1]
theorem all_true {c : D} {T : Option Int → Bool} (hT : ∀ v, K63.Phi c [oi v] = some (.val (.bl (T v)))) {R : List Rw} (lo : Int) (bh : Option Int) (due : Bool) (h : ∀ r ∈ R, (∀ a b, r.1 = some a → bh = some b → a < b) → (∀ x, r.2.1 = some x → lo < x) → T r.2.2 = due) :
    K63.L_all.f [.lst (R.map rwD), .int lo, oi bh, c, .bl due] = some (.val (.bl true)) := by
  have lp : ∀ (R : List Rw) (A0 x5 x6 x7 : Sl), (∀ r ∈ R, (∀ a b, r.1 = some a → bh = some b → a < b) → (∀ x, r.2.1 = some x → lo < x) → T r.2.2 = due) → ∃ y5 y6 y7, loopG (tupG 3 (tgCons (nameG 5) (tgCons (nameG 6) (tgCons (nameG 7) tgNil)))) K63.L_all.b1 (R.map rwD) [A0, .v (.int lo), .v (oi bh), .v c, .v (.bl due), x5, x6, x7] = some (.nx [A0, .v (.int lo), .v (oi bh), .v c, .v (.bl due), y5, y6, y7]) := by
    intro R
    induction R with
    | nil => intro A0 x5 x6 x7 _; exact ⟨x5, x6, x7, rfl⟩
    | cons r t ih =>
      intro A0 x5 x6 x7 h
      obtain ⟨y5, y6, y7, e⟩ := ih A0 (.v (oi r.1)) (.v (oi r.2.1)) (.v (oi r.2.2)) fun q hq => h q (.tail _ hq)
      refine ⟨y5, y6, y7, ?_⟩
      have tr := all_turn hT A0 lo bh due r (h r (.head _))
      rw [List.map_cons, loopG]
      have tg : tupG 3 (tgCons (nameG 5) (tgCons (nameG 6) (tgCons (nameG 7) tgNil))) (rwD r) [A0, .v (.int lo), .v (oi bh), .v c, .v (.bl due), x5, x6, x7] = some [A0, .v (.int lo), .v (oi bh), .v c, .v (.bl due), .v (oi r.1), .v (oi r.2.1), .v (oi r.2.2)] := by simp [rwD, tupG, tgCons, tgNil, nameG]
      rw [tg]
      simp only [Option.bind_some]
      rw [tr]
      simpa using e
  obtain ⟨y5, y6, y7, e⟩ := lp R (.v (.lst (R.map rwD))) .no .no .no h
  unfold K63.L_all.f
  refine run_rt ?_
  unfold K63.L_all.g
  generalize R.map rwD = RL at *
  simp [args, e]
theorem told_turn {R c : D} {n h a : Int} {b : Option Int} (hs : okS (some a, b)) (h1 : h ≤ a) (h2 : a < h + n) (ha : K63.L_all.f [R, .int a, oi b, c, .bl false] = some (.val (.bl true))) (A1 A4 A5 : Sl) :
    K63.L_told.b1 [.v R, A1, .v (.int n), .v c, A4, A5, .v (.int h), .v (spD (some a, b))] = some (.nx [.v R, A1, .v (.int n), .v c, A4, A5, .v (oi b), .v (spD (some a, b))]) := by
  have is := is_span_eq (some a, b) hs
  have i0 : ixD (spD (some a, b)) (.int 0) = some (.int a) := by simp
  have i1 : ixD (spD (some a, b)) (.int 1) = some (oi b) := by simp
  have l1 : ¬ a < h := by omega
  have l2 : ¬ h + n ≤ a := by omega
  unfold K63.L_told.b1
  generalize spD (some a, b) = SD at *
  simp [is, i0, i1, l1, l2, ha]
theorem told_loop {ps : List Rw} (o : Ord ps) {c : D} {T : Option Int → Bool} (hT : ∀ v, K63.Phi c [oi v] = some (.val (.bl (T v)))) {n : Int} (hn : 1 ≤ n) (A1 A4 A5 : Sl) :
    ∀ (R : List Rw) (p h : Int) (acc : List Spn) (x7 : Sl), Til (some p) R → AdjV R → (∀ r ∈ R, r.2.2 = none ∨ r.2.2 = some 1) → (∀ q, p ≤ q → atB q R = hWF T (valL ps q)) → h ≤ p → p < h + n → (h = p ∨ ∀ r, R.head? = some r → r.2.2 = none) →
    ∃ (pap : List Spn) (y7 : Sl), (frF n acc R).2 = acc ++ pap ∧ loopG (nameG 7) K63.L_told.b1 (pap.map spD) [.v (.lst ((runsF ps).map rwD)), A1, .v (.int n), .v c, A4, A5, .v (.int h), x7] = some (.nx [.v (.lst ((runsF ps).map rwD)), A1, .v (.int n), .v c, A4, A5, .v (oi (frF n acc R).1), y7]) ∧
      ∀ y, (frF n acc R).1 = some y → ∀ q, y ≤ q → q < y + n → T (valL ps q) = true := by
  intro R
  induction R with
  | nil => intro p h acc x7 t; exact t.elim
  | cons r rs ih =>
    intro p h acc x7 ⟨t1, t2, t3, t4⟩ ad hv hU hp hpn hc
    have here : ∀ q, p ≤ q → (∀ x, r.2.1 = some x → q < x) → hWF T (valL ps q) = r.2.2 := fun q hq hx => by
      rw [← hU q hq]
      exact atB_hd (by
        unfold befB
        cases e : r.2.1 with
        | none => rfl
        | some x => simpa using hx x e)
    have there : ∀ x, r.2.1 = some x → ∀ q, x ≤ q → atB q rs = hWF T (valL ps q) := fun x e q hq => by
      have := t2 p x rfl e
      rw [← hU q (by omega)]
      exact (atB_tl (by unfold befB; rw [e]; simpa using hq)).symm
    have hv' : ∀ z ∈ rs, z.2.2 = none ∨ z.2.2 = some 1 := fun z hz => hv z (.tail _ hz)
    cases hr : r.2.2 with
    | none =>
      have e1 : frF n acc (r :: rs) = frF n (acc ++ [(r.1, r.2.1)]) rs := by rw [frF, hr]
      have al : K63.L_all.f [.lst ((runsF ps).map rwD), .int p, oi r.2.1, c, .bl false] = some (.val (.bl true)) := all_true hT p r.2.1 false fun g hg g1 g2 => by
        obtain ⟨q, q1, q2, q3⟩ := ovl o hg (lo := p) (bh := r.2.1) g1 g2 fun b e => t2 p b rfl e
        have := here q q1 q2
        rw [hr, q3] at this
        unfold hWF at this
        split at this
        · cases this
        · rename_i z; simpa using z
      have tr := told_turn (R := .lst ((runsF ps).map rwD)) (c := c) (n := n) (h := h) (a := p) (b := r.2.1) (fun a b e1 e2 => by cases e1; exact t2 p b rfl e2) hp hpn al A1 A4 A5
      cases hx : r.2.1 with
      | none =>
        have := t3 hx
        subst this
        refine ⟨[(some p, none)], .v (spD (some p, none)), by rw [e1, frF, t1, hx], ?_, by rw [e1, frF]; intro y e; cases e⟩
        rw [e1, frF]
        rw [hx] at tr
        simp only [List.map_cons, List.map_nil, loopG, nameG, Option.bind_some, List.set_cons_succ, List.set_cons_zero]
        rw [tr]
        rfl
      | some x =>
        obtain ⟨pap, y7, q1, q2, q3⟩ := ih x x (acc ++ [(r.1, r.2.1)]) (.v (spD (some p, some x))) (t4 x hx) ad.tail hv' (there x hx) (Int.le_refl _) (by omega) (.inl rfl)
        refine ⟨(some p, some x) :: pap, y7, by rw [e1, q1, t1, hx]; simp, ?_, by rw [e1]; exact q3⟩
        rw [e1]
        rw [hx] at tr
        simp only [List.map_cons, loopG, nameG, Option.bind_some, List.set_cons_succ, List.set_cons_zero]
        rw [tr]
        simpa using q2
    | some w =>
      have w1 : w = 1 := by
        rcases hv r (.head _) with z | z
        · rw [hr] at z; cases z
        · rw [hr] at z; cases z; rfl
      have hh : h = p := hc.elim id fun z => by rw [z r rfl] at hr; cases hr
      subst hh
      have yes : ∀ q, h ≤ q → (∀ x, r.2.1 = some x → q < x) → T (valL ps q) = true := fun q a b => by
        have := here q a b
        rw [hr] at this
        unfold hWF at this
        split at this
        · assumption
        · cases this
      cases hx : r.2.1 with
      | none =>
        have e1 : frF n acc (r :: rs) = (some h, acc) := by rw [frF, hr, hx, t1]
        rw [e1]
        exact ⟨[], x7, by simp, rfl, fun y e q a _ => by cases e; exact yes q a fun x z => by rw [hx] at z; cases z⟩
      | some x =>
        by_cases hl : n ≤ x - h
        · have e1 : frF n acc (r :: rs) = (some h, acc) := by rw [frF, hr, hx, t1]; simp [hl]
          rw [e1]
          exact ⟨[], x7, by simp, rfl, fun y e q a b => by cases e; exact yes q a fun x' z => by rw [hx] at z; cases z; omega⟩
        · have e1 : frF n acc (r :: rs) = frF n acc rs := by rw [frF, hr, hx, t1]; simp [hl]
          rw [e1]
          have hpx := t2 h x rfl hx
          refine ih x h acc x7 (t4 x hx) ad.tail hv' (there x hx) (by omega) (by omega) (.inr fun s hs => ?_)
          cases rs with
          | nil => cases hs
          | cons s' rs' =>
            cases hs
            rcases hv s (.tail _ (.head _)) with z | z
            · exact z
            · exact (ad.1 (by rw [hr, z, w1])).elim
theorem told63_eq {ps : List Rw} (o : Ord ps) {c : D} {T : Option Int → Bool} (hT : ∀ v, K63.Phi c [oi v] = some (.val (.bl (T v)))) {n : Int} (hn : 1 ≤ n) {s : Int} {R : List Rw} (t : Til (some s) R) (ad : AdjV R) (hv : ∀ r ∈ R, r.2.2 = none ∨ r.2.2 = some 1) (hU : ∀ q, s ≤ q → atB q R = hWF T (valL ps q)) :
    K63.L_told.f [.lst ((runsF ps).map rwD), .int s, .int n, c, oi (frF n [] R).1, .lst ((frF n [] R).2.map spD)] = some (.val (.bl true)) := by
  obtain ⟨pap, y7, q1, q2, q3⟩ := told_loop o hT hn (.v (.int s)) (.v (oi (frF n [] R).1)) (.v (.lst ((frF n [] R).2.map spD))) R s s [] .no t ad hv hU (Int.le_refl _) (by omega) (.inl rfl)
  simp only [List.nil_append] at q1
  rw [q1] at q2 ⊢
  have al : ∀ y, (frF n [] R).1 = some y → K63.L_all.f [.lst ((runsF ps).map rwD), .int y, .int (y + n), c, .bl true] = some (.val (.bl true)) := fun y e => by
    have := all_true hT (R := runsF ps) y (some (y + n)) true fun g hg g1 g2 => by
      obtain ⟨q, a1, a2, a3⟩ := ovl o hg (lo := y) (bh := some (y + n)) g1 g2 fun b e => by cases e; omega
      rw [← a3]
      exact q3 y e q a1 (a2 _ rfl)
    simpa using this
  unfold K63.L_told.f
  refine run_rt ?_
  unfold K63.L_told.g
  generalize hF : (frF n [] R).1 = F at *
  generalize pap.map spD = PL at *
  generalize (runsF ps).map rwD = RL at *
  cases F with
  | none =>
    simp only [oi_none] at q2
    simp [args, q2]
  | some y =>
    have a := al y rfl
    simp only [oi_some] at q2
    have wh : GL.whole.f [.int y] = some (.val (.bl true)) := whole_int y
    simp [args, q2, a, wh]
noncomputable def nons (R : List Rw) : Nat := (R.filter fun r => r.2.2.isNone).length
theorem pap_len (n : Int) : ∀ (R : List Rw) (acc : List Spn), (frF n acc R).2.length ≤ acc.length + nons R := by
  intro R
  induction R with
  | nil => intro acc; simp [frF, nons]
  | cons r rs ih =>
    intro acc
    unfold frF nons
    cases hr : r.2.2 with
    | none =>
      have := ih (acc ++ [(r.1, r.2.1)])
      simp [nons, hr] at this ⊢
      omega
    | some w =>
      have := ih acc
      have h0 : acc.length ≤ acc.length + nons rs := Nat.le_add_right _ _
      simp [nons, hr] at this h0 ⊢
      cases r.2.1 with
      | none => simp
      | some x =>
        cases r.1 with
        | none => simp
        | some a =>
          simp only
          split
          · simp
          · exact this
theorem parts_nons (s : Spn) : ∀ R : List Rw, nons (partsF R s) ≤ nons R := by
  intro R
  induction R with
  | nil => exact Nat.le_refl _
  | cons r rs ih =>
    unfold partsF nons at *
    rw [List.filterMap_cons]
    cases h : part1 s r with
    | none =>
      simp only
      cases hr : r.2.2 <;> simp [hr] <;> omega
    | some q =>
      have hq : q.2.2 = r.2.2 := by
        unfold part1 at h
        cases hm : meetS (r.1, r.2.1) s with
        | none => rw [hm] at h; cases h
        | some u => rw [hm] at h; cases h; rfl
      cases hr : r.2.2 <;> simp [hr, hq] <;> omega
theorem runs_nons {Q : List Rw} (h : ∀ r ∈ Q, r.2.2 ≠ none) : nons (runsF Q) ≤ Q.length + 1 := by
  have key : ∀ (Q : List Rw) (here : Option Int), (∀ r ∈ Q, r.2.2 ≠ none) → nons (runsB here Q) ≤ Q.length := by
    intro Q
    induction Q with
    | nil => intro here _; exact Nat.le_refl _
    | cons r t ih =>
      intro here h
      have := ih r.2.1 fun q hq => h q (.tail _ hq)
      obtain ⟨v, hv⟩ : ∃ v, r.2.2 = some v := by
        cases e : r.2.2 with
        | none => exact (h r (.head _) e).elim
        | some v => exact ⟨v, rfl⟩
      unfold nons at *
      unfold runsB
      split <;> simp [hv] <;> omega
  have := key Q none h
  unfold runsF
  rw [runsR_eq]
  unfold nons at *
  rw [List.filter_append, List.length_append]
  have : ∀ (p : Prop) [Decidable p] (x : Rw), ((if p then [x] else []).filter fun r => r.2.2.isNone).length ≤ 1 := fun p _ x => by
    split
    · exact Nat.le_trans (List.length_filter_le _ _) (by simp)
    · simp
  exact Nat.add_le_add ‹_› (this _ _)
def Drawn63 (f : List D → Option Ret) (N : D) : Prop := ∃ (ps : List Rw) (s n : Int) (c : D) (T : Option Int → Bool), Ord ps ∧ ps.length ≤ 1000 ∧ 1 ≤ n ∧ (∀ v, K63.Phi0 c [oi v] = some (.val (.bl (T v)))) ∧ (∀ v, K63.Phi c [oi v] = K63.Phi0 c [oi v]) ∧ f [N] = some (.val (.tup [.lst (ps.map rwD), .int s, .int n, c]))
theorem any_ex (ns : List Int) (hb : ∀ c ∈ ns, intBits c ≤ 1048576) : Drawn63 K63.L_any.f (.lst (ns.map D.int)) := by
  have c0 : GL.cell_at.f [.lst (ns.map D.int), .int 0] = some (.val (.int (cel ns 0))) := cell_eq ns 0
  have c1 : GL.cell_at.f [.lst (ns.map D.int), .int 1] = some (.val (.int (cel ns 1))) := cell_eq ns 1
  have c3 : GL.cell_at.f [.lst (ns.map D.int), .int 3] = some (.val (.int (cel ns 3))) := cell_eq ns 3
  have c4 : GL.cell_at.f [.lst (ns.map D.int), .int 4] = some (.val (.int (cel ns 4))) := cell_eq ns 4
  have c5 : GL.cell_at.f [.lst (ns.map D.int), .int 5] = some (.val (.int (cel ns 5))) := cell_eq ns 5
  have c6 : GL.cell_at.f [.lst (ns.map D.int), .int 6] = some (.val (.int (cel ns 6))) := cell_eq ns 6
  have b4 := bits_cell hb 4
  have b5 := bits_cell hb 5
  have b6 := bits_cell hb 6
  generalize cel ns 0 = k0 at *
  generalize cel ns 1 = k1 at *
  generalize cel ns 3 = k3 at *
  generalize cel ns 4 = k4 at *
  generalize cel ns 5 = k5 at *
  generalize cel ns 6 = k6 at *
  obtain ⟨F, hF, eF⟩ := far_eq
  have F0 : 0 < F := by rw [hF]; decide +kernel
  obtain ⟨m, hm, m30⟩ : ∃ m : Nat, k3 / 2 % 31 = (m : Int) ∧ m ≤ 30 := ⟨(k3 / 2 % 31).toNat, by omega, by omega⟩
  obtain ⟨ps, mp, lp, em⟩ := any_map_ex m m30 (k3 / 2 / 31) k4 k5 b4 b5
  obtain ⟨c, T, t0, t1, et⟩ := any_test_ex (ps := ps) lp k6 b6
  have mF : mulD (.int 2) (.int F) = some (.int (2 * F)) := mulD_ok (.of_left (bits_nat (Nat.lt_of_lt_of_le (show (2 : Int).natAbs < 2 ^ 2 by decide) (by decide))))
  have md : modD (.int k0) (.int (2 * F + 1)) = some (.int (k0 % (2 * F + 1))) := modD_pos k0 (by omega)
  have md1 : modD (.int k1) (.int F) = some (.int (k1 % F)) := modD_pos k1 F0
  have bB : intBits (2 * F + 1) ≤ 2000 := by rw [hF]; exact bits_nat (by decide +kernel)
  obtain ⟨s, es⟩ := zig_ex (x := k0 % (2 * F + 1)) (by
    have h0 := Int.emod_nonneg k0 (show 2 * F + 1 ≠ 0 by omega)
    have h1 := Int.emod_lt_of_pos k0 (show 0 < 2 * F + 1 by omega)
    have : intBits (k0 % (2 * F + 1)) ≤ intBits (2 * F + 1) := by
      have := intBits_le_iff.mp (Nat.le_refl (intBits (2 * F + 1)))
      refine bits_nat ?_
      omega
    omega)
  have h1 := Int.emod_nonneg k1 (show F ≠ 0 by omega)
  refine ⟨ps, s, 1 + k1 % F, c, T, mp.ord, by omega, by omega, t0, t1, ?_⟩
  have fl := flats_rw ps
  unfold K63.L_any.f
  refine run_rt ?_
  unfold K63.L_any.g
  generalize ns.map D.int = N at *
  generalize ps.map rwD = P at *
  simp [args, c0, c1, c3, c4, c5, c6, eF, hm, em, et, mF, md, md1, es, retF, fl, getO, flV, flat, retDG]
theorem drawn63_ex (ns : List Int) (hb : ∀ c ∈ ns, intBits c ≤ 1048576) : Drawn63 K63.L_drawn.f (.lst (ns.map D.int)) := by
  have c0 : GL.cell_at.f [.lst (ns.map D.int), .int 0] = some (.val (.int (cel ns 0))) := cell_eq ns 0
  have c1 : GL.cell_at.f [.lst (ns.map D.int), .int 1] = some (.val (.int (cel ns 1))) := cell_eq ns 1
  have c2 : GL.cell_at.f [.lst (ns.map D.int), .int 2] = some (.val (.int (cel ns 2))) := cell_eq ns 2
  have c3 : GL.cell_at.f [.lst (ns.map D.int), .int 3] = some (.val (.int (cel ns 3))) := cell_eq ns 3
  generalize cel ns 0 = k0 at *
  generalize cel ns 1 = k1 at *
  generalize cel ns 2 = k2 at *
  generalize cel ns 3 = k3 at *
  obtain ⟨cs, _, csl, csb, cse'⟩ := cells_cut ns hb 4 44
  have cse : cutD (ns.map D.int) (some 4) (some 44) = cs.map D.int := cse'
  clear cse'
  obtain ⟨ps, po, pl, pe⟩ := map4_ex cs csb (by omega)
  have re := rows_eq ps po (by omega)
  have rl := runsF_len ps
  have rn : runsF ps ≠ [] := fun z => by
    have := til_runsF po
    rw [z] at this
    exact this
  have frn := flats_rw (runsF ps)
  generalize runsF ps = R at re rl rn frn
  obtain ⟨st, es⟩ := end2_ex ps k0 (by omega)
  obtain ⟨n, hn, en⟩ := tm64_ex R rn (by omega) k1
  have hl0 : (0 : Int) < (R.length : Int) := by
    have := List.length_pos_iff.mpr rn
    omega
  have i0 := Int.emod_nonneg k2 (Int.ne_of_gt hl0)
  have i1 := Int.emod_lt_of_pos k2 hl0
  obtain ⟨r, er⟩ : ∃ r, ixD (.lst (R.map rwD)) (.int (k2 % (R.length : Int))) = some (rwD r) := by
    rw [ixL_pos _ i0 (by simpa using i1)]
    have : (k2 % (R.length : Int)).toNat < R.length := by omega
    exact ⟨R[(k2 % (R.length : Int)).toNat], by rw [List.getElem?_map, List.getElem?_eq_getElem this]; rfl⟩
  have rm := modD_pos k2 hl0
  have rlen : lenD [.lst (R.map rwD)] = some (.int (R.length : Int)) := by simp
  have r2 : ixD (rwD r) (.int 2) = some (oi r.2.2) := by simp [rwD]
  obtain ⟨mk, hmk⟩ : ∃ mk : Int, mk = r.2.2.getD 1 := ⟨_, rfl⟩
  obtain ⟨c, T, t0, t1, fc, ec⟩ := test_ex (k3 / 2) mk
  refine ⟨ps, st, n, c, T, po, by omega, hn, t0, t1, ?_⟩
  have fl := flats_rw ps
  unfold K63.L_drawn.f
  refine run_rt ?_
  unfold K63.L_drawn.g
  have ar : args 6 [.lst (ns.map D.int)] = [.v (.lst (ns.map D.int)), .no, .no, .no, .no, .no] := by simp [args]
  rw [ar]
  generalize ns.map D.int = N at *
  generalize cs.map D.int = CL at *
  generalize ps.map rwD = P at *
  generalize hRL : R.map rwD = RL at *
  generalize (R.length : Int) = rL at *
  rw [seq_nx (ds' := [.v (.lst N), .own P, .no, .no, .no, .no]) (by simp [soP, cse, pe, retF]),
    seq_nx (ds' := [.v (.lst N), .own P, .v (.lst RL), .no, .no, .no]) (by simp [re]),
    seq_nx (ds' := [.v (.lst N), .own P, .v (.lst RL), .v (oi r.2.2), .no, .no]) (by simp only [setG_eq, bin2_eq, getW_eq, konst_eq, callV_eq, callB_eq, consA_eq, nilA_eq, List.getElem?_cons_succ, List.getElem?_cons_zero, Option.bind_some, Option.map_some, List.length_cons, List.length_nil, if_true, c2, retV_val, rlen, rm, er, r2, List.set_cons_succ, List.set_cons_zero]),
    seq_nx (ds' := [.v (.lst N), .own P, .v (.lst RL), .v (.int mk), .no, .no]) (by
      cases hv : r.2.2 with
      | none => rw [hv] at hmk; simp [hmk]
      | some w => rw [hv] at hmk; simp [hmk]),
    seq_nx (ds' := [.v (.lst N), .own P, .v (.lst RL), .v (.int mk), .v (.int n), .no]) (by simp [c1, en]),
    seq_nx (ds' := [.v (.lst N), .own P, .v (.lst RL), .v (.int mk), .v (.int n), .v c]) (by simp [c3, ec])]
  simp [getO, flV, flVC, fc, fl, flat, retDG, c0, es]
theorem run_law (ns : List Int) (hl : ns.length ≤ 63) (hb : ∀ c ∈ ns, intBits c ≤ 1048576) : K63.law.f [.lst (ns.map D.int)] = some (.val (.bl true)) := by
  have c3 : GL.cell_at.f [.lst (ns.map D.int), .int 3] = some (.val (.int (cel ns 3))) := cell_eq ns 3
  generalize cel ns 3 = k3 at *
  obtain ⟨ps, s, n, c, T, po, lp, hn, t0, t1, e1⟩ : ∃ (ps : List Rw) (s n : Int) (c : D) (T : Option Int → Bool), Ord ps ∧ ps.length ≤ 1000 ∧ 1 ≤ n ∧ (∀ v, K63.Phi0 c [oi v] = some (.val (.bl (T v)))) ∧ (∀ v, K63.Phi c [oi v] = K63.Phi0 c [oi v]) ∧
      (ifG (testB (bin2 eqD (bin2 modD (callV 2 GL.cell_at.f (consA (getW 0) (consA (konst (.int 3)) nilA))) (konst (.int 2))) (konst (.int 1)))) (asgG (tupG 4 (tgCons (nameG 1) (tgCons (nameG 2) (tgCons (nameG 3) (tgCons (nameG 4) tgNil))))) (callV 1 K63.L_any.f (consA (getW 0) nilA))) (asgG (tupG 4 (tgCons (nameG 1) (tgCons (nameG 2) (tgCons (nameG 3) (tgCons (nameG 4) tgNil))))) (callV 1 K63.L_drawn.f (consA (getW 0) nilA))))
        [.v (.lst (ns.map D.int)), .no, .no, .no, .no, .no, .no] = some (.nx [.v (.lst (ns.map D.int)), .v (.lst (ps.map rwD)), .v (.int s), .v (.int n), .v c, .no, .no]) := by
    by_cases h : k3 % 2 = 1
    · obtain ⟨ps, s, n, c, T, po, lp, hn, t0, t1, e⟩ := any_ex ns hb
      refine ⟨ps, s, n, c, T, po, lp, hn, t0, t1, ?_⟩
      generalize ns.map D.int = N at *
      generalize ps.map rwD = P at *
      simp [c3, h, asgG, e, tupG, tgCons, tgNil, nameG]
    · obtain ⟨ps, s, n, c, T, po, lp, hn, t0, t1, e⟩ := drawn63_ex ns hb
      refine ⟨ps, s, n, c, T, po, lp, hn, t0, t1, ?_⟩
      generalize ns.map D.int = N at *
      generalize ps.map rwD = P at *
      simp [c3, h, asgG, e, tupG, tgCons, tgNil, nameG]
  have hT : ∀ v, K63.Phi c [oi v] = some (.val (.bl (T v))) := fun v => by rw [t1]; exact t0 v
  obtain ⟨R, tR, aR, vR, uR, eR, eF⟩ := first_run_rows (hold_of t0) po (show ps.length ≤ 100000 by omega) hn s
  have td := told63_eq po hT hn tR aR vR uR
  have mQ := turn_mapF (hWF T) po
  have lQ := turn_len (hWF T) ps
  have pl : (frF n [] R).2.length ≤ 2 * ps.length + 2 := by
    have h1 := pap_len n R []
    have h2 := parts_nons (some s, none) (runsF (turnF (hWF T) ps))
    have h3 := runs_nons mQ.val
    rw [← eR] at h2
    simp only [List.length_nil] at h1
    omega
  have re := rows_eq ps po (by omega)
  have ne := neD_rw ps ps
  simp only [decide_true, Bool.not_true] at ne
  have z0 : (ps.map rwD).length ≤ 16777216 := by simp; omega
  have lpz : ((ps.map rwD).length : Int) = (ps.length : Int) := by simp
  have lpp : (((frF n [] R).2.map spD).length : Int) = ((frF n [] R).2.length : Int) := by simp
  have m2 : mulD (.int 2) (.int (ps.length : Int)) = some (.int (2 * (ps.length : Int))) := mulD_ok (.of_left (bits_nat (by decide)))
  have gt : ¬ (2 * (ps.length : Int) + 2 < ((frF n [] R).2.length : Int)) := by omega
  have ef : foundD (frF n [] R) = .tup [oi (frF n [] R).1, .lst ((frF n [] R).2.map spD)] := rfl
  rw [ef] at eF
  unfold K63.law.f
  refine run_rt ?_
  unfold K63.law.g
  have ar : args 7 [.lst (ns.map D.int)] = [.v (.lst (ns.map D.int)), .no, .no, .no, .no, .no, .no] := by simp [args]
  rw [ar, seq_nx e1]
  generalize ns.map D.int = N at *
  generalize (ps.length : Int) = pL at *
  generalize ps.map rwD = P at *
  generalize (runsF ps).map rwD = RL at *
  generalize ((frF n [] R).2.length : Int) = qL at *
  generalize (frF n [] R).2.map spD = PP at *
  generalize oi (frF n [] R).1 = F1 at *
  rw [seq_nx (ds' := [.v (.lst N), .v (.lst P), .v (.int s), .v (.int n), .v c, .v (.lst P), .no]) (by simp [z0]),
    seq_nx (ds' := [.v (.lst N), .v (.lst P), .v (.int s), .v (.int n), .v c, .v (.lst P), .v (.tup [F1, .lst PP])]) (by simp [eF])]
  simp [lpz, lpp, m2, gt, ne, re, td]
end K63
namespace K63
open PySem PyProof.Rows L2 FL
set_option maxHeartbeats 0 in
theorem all_mk {l : PySem.W.OpenLaw} {w : World} {K : PySem.W.Frag} {h : Heap} {mg : Str → Option Value} {fa : Addr} (X : K.In h) (G : h.Ns mainGlobals mg) (hfa : mg "law" = some (.ref fa))
    {f0 f1 f2 f3 f4 f5 f6 f7 f9 f10 f11 f12 f13 f14 f15 f16 f17 f19 f20 f21 f23 f24 f25 f26 f27 : Addr}
    {mc8 mq8 : Addr} {mo8 : Value} {md8 : Option Addr} {mv8 : Array Value} {ms8 : Array (Option Value)}
    {mc18 mq18 : Addr} {mo18 : Value} {md18 : Option Addr} {mv18 : Array Value} {ms18 : Array (Option Value)}
    {mc22 mq22 : Addr} {mo22 : Value} {md22 : Option Addr} {mv22 : Array Value} {ms22 : Array (Option Value)}
    {f8 f18 f22 f28 : Addr} {od8 an8 od18 an18 od22 an22 od28 an28 : Option Addr} {sl8 sl18 sl22 sl28 : Array (Option Value)} {oc8 kV8 dc8 pm8 cd8 ct8 oc18 kV18 dc18 pm18 cd18 ct18 oc22 kV22 dc22 pm22 cd22 ct22 oc28 kV28 dc28 pm28 cd28 ct28 : Value}
    (d0 : DefM K "later_low" (top 6) f0)
    (d1 : DefM K "earlier_behind" (top 7) f1)
    (d2 : DefM K "ends_ahead" (top 5) f2)
    (d3 : DefM K "meet" (top 4) f3)
    (d4 : DefM K "knit" (top 9) f4)
    (d5 : DefM K "parts_in" (top 10) f5)
    (d6 : DefM K "runs_of" (top 11) f6)
    (d7 : DefM K "turned" (top 13) f7)
    (a8 : PySem.W.nsIn K mainGlobals "holding" = some (some (.ref f8))) (l8 : LkF K f8 oc8 od8 "holding" "holding" (top 16) .none kV8 dc8 pm8 an8 cd8 ct8 sl8) (c8 : PySem.W.codeIn K cd8 "holding" = true) (k8 : PySem.W.keepIn K (.ref f8) = true)
    (mt8 : cd8 = .ref mc8) (ml8 : K.lookup mc8 = some ⟨mo8, md8, .fields mv8, ms8⟩) (mp8 : (mv8[11]? : Option Value) = some (.ref mq8))
    (d9 : DefM K "first_run" (top 15) f9)
    (d10 : DefM K "_law_whole" (top 18) f10)
    (d11 : DefM K "_law_cell_at" (top 19) f11)
    (d12 : DefM K "_law_map" (top 20) f12)
    (d13 : DefM K "_law_mixed" (top 21) f13)
    (d14 : DefM K "_law_digits" (top 22) f14)
    (d15 : DefM K "_law_zig" (top 23) f15)
    (d16 : DefM K "_law_far" (top 24) f16)
    (d17 : DefM K "_law_any_map" (top 25) f17)
    (a18 : PySem.W.nsIn K mainGlobals "_law_any_test" = some (some (.ref f18))) (l18 : LkF K f18 oc18 od18 "_law_any_test" "_law_any_test" (top 26) .none kV18 dc18 pm18 an18 cd18 ct18 sl18) (c18 : PySem.W.codeIn K cd18 "_law_any_test" = true) (k18 : PySem.W.keepIn K (.ref f18) = true)
    (mt18 : cd18 = .ref mc18) (ml18 : K.lookup mc18 = some ⟨mo18, md18, .fields mv18, ms18⟩) (mp18 : (mv18[11]? : Option Value) = some (.ref mq18))
    (d19 : DefM K "_law_end" (top 27) f19)
    (d20 : DefM K "_law_rows" (top 28) f20)
    (d21 : DefM K "_law_is_span" (top 29) f21)
    (a22 : PySem.W.nsIn K mainGlobals "_law_test" = some (some (.ref f22))) (l22 : LkF K f22 oc22 od22 "_law_test" "_law_test" (top 30) .none kV22 dc22 pm22 an22 cd22 ct22 sl22) (c22 : PySem.W.codeIn K cd22 "_law_test" = true) (k22 : PySem.W.keepIn K (.ref f22) = true)
    (mt22 : cd22 = .ref mc22) (ml22 : K.lookup mc22 = some ⟨mo22, md22, .fields mv22, ms22⟩) (mp22 : (mv22[11]? : Option Value) = some (.ref mq22))
    (d23 : DefM K "_law_all" (top 31) f23)
    (d24 : DefM K "_law_times" (top 32) f24)
    (d25 : DefM K "_law_told" (top 33) f25)
    (d26 : DefM K "_law_any" (top 34) f26)
    (d27 : DefM K "_law_drawn" (top 35) f27)
    (a28 : PySem.W.nsIn K mainGlobals "law" = some (some (.ref f28))) (l28 : LkF K f28 oc28 od28 "law" "law" (top 36) .none kV28 dc28 pm28 an28 cd28 ct28 sl28) (c28 : PySem.W.codeIn K cd28 "law" = true) (k28 : PySem.W.keepIn K (.ref f28) = true)
    (z0 : PySem.W.nsIn K mainGlobals "bool" = some none)
    (z1 : PySem.W.nsIn K mainGlobals "int" = some none)
    (z2 : PySem.W.nsIn K mainGlobals "isinstance" = some none)
    (z3 : PySem.W.nsIn K mainGlobals "len" = some none)
    (z4 : PySem.W.nsIn K mainGlobals "list" = some none)
    (z5 : PySem.W.nsIn K mainGlobals "max" = some none)
    (z6 : PySem.W.nsIn K mainGlobals "min" = some none)
    (z7 : PySem.W.nsIn K mainGlobals "range" = some none)
    (z8 : PySem.W.nsIn K mainGlobals "sorted" = some none)
    (z9 : PySem.W.nsIn K mainGlobals "tuple" = some none) :
    ∃ fd : FuncData, (∀ (s : Shared) (v : Value), BindsTo s fd ⟨[v], []⟩ [("_law_script", v)]) ∧ ∀ base : Heap, K.In base → base.Ns mainGlobals mg → FnOk l.prog w K mg base CX0 6 fa fd ["_law_script"] (spLawB K 63) := by
  have e := hfa.symm.trans (PySem.W.mg_of X G a28)
  cases e
  have T : Glb K mg := ⟨PySem.W.mg_none_of X G z0, PySem.W.mg_none_of X G z1, PySem.W.mg_none_of X G z2, PySem.W.mg_none_of X G z3, PySem.W.mg_none_of X G z4, PySem.W.mg_none_of X G z5, PySem.W.mg_none_of X G z6, PySem.W.mg_none_of X G z7, PySem.W.mg_none_of X G z8, PySem.W.mg_none_of X G z9⟩
  have F8 := fun_mk (st := (top 16)) l8 c8 k8
  have M_holding : Mkr K "holding" 4 (top 16) _ mc8 mq8 := mkr_mk rfl a8 l8 mt8 ml8 mp8
  have b8 := F8.binds (ps := ["pieces", "test"]) fun _ _ _ _ _ _ => len2 fun _ _ => rfl
  have F18 := fun_mk (st := (top 26)) l18 c18 k18
  have M__law_any_test : Mkr K "_law_any_test" 5 (top 26) _ mc18 mq18 := mkr_mk rfl a18 l18 mt18 ml18 mp18
  have b18 := F18.binds (ps := ["_law_pieces", "_law_cell"]) fun _ _ _ _ _ _ => len2 fun _ _ => rfl
  have F22 := fun_mk (st := (top 30)) l22 c22 k22
  have M__law_test : Mkr K "_law_test" 6 (top 30) _ mc22 mq22 := mkr_mk rfl a22 l22 mt22 ml22 mp22
  have b22 := F22.binds (ps := ["_law_cell", "_law_mark"]) fun _ _ _ _ _ _ => len2 fun _ _ => rfl
  have F28 := fun_mk (st := (top 36)) l28 c28 k28
  refine ⟨PySem.W.fnOf "law" "law" (defArgs (top 36)) (defBody (top 36)) (defScope (top 36)) .none kV28 dc28 pm28 an28 cd28 ct28, fun s v => .of_eq rfl, fun base _ _ => ?_⟩
  have S : SysAt l.prog w base K mg := ⟨h, X, G⟩
  have C_later_low := d0.cal S fun F => fok_later_low F T
  have C_earlier_behind := d1.cal S fun F => fok_earlier_behind F T
  have C_ends_ahead := d2.cal S fun F => fok_ends_ahead F T
  have C_meet := d3.cal S fun F => fok_meet F T C_later_low C_earlier_behind C_ends_ahead
  have C_knit := d4.cal S fun F => fok_knit F T
  have C_parts_in := d5.cal S fun F => fok_parts_in F T C_meet
  have C_runs_of := d6.cal S fun F => fok_runs_of F T
  have CO0 := clo_ok0 (P := l.prog) (w := w) (base := base) T M_holding M__law_any_test M__law_test
  have CO := clo_ok (P := l.prog) (w := w) (base := base) T CO0 M_holding M__law_any_test M__law_test
  have C_turned := d7.cal S fun F => fok_turned F T C_knit C_runs_of CO
  have G8 := fok_holding F8 T C_turned M_holding
  have C_holding := cal_mk G8 b8 k8 (PySem.W.mg_of X G a8)
  have C_first_run := d9.cal S fun F => fok_first_run F T C_parts_in C_runs_of C_holding
  have C__law_whole := d10.cal S fun F => fok__law_whole F T
  have C__law_cell_at := d11.cal S fun F => fok__law_cell_at F T
  have C__law_map := d12.cal S fun F => fok__law_map F T
  have C__law_mixed := d13.cal S fun F => fok__law_mixed F T
  have C__law_digits := d14.cal S fun F => fok__law_digits F T C__law_mixed
  have C__law_zig := d15.cal S fun F => fok__law_zig F T
  have C__law_far := d16.cal S fun F => fok__law_far F T
  have C__law_any_map := d17.cal S fun F => fok__law_any_map F T C__law_far C__law_zig C__law_digits
  have G18 := fok__law_any_test F18 T C__law_digits M__law_any_test
  have C__law_any_test := cal_mk G18 b18 k18 (PySem.W.mg_of X G a18)
  have C__law_end := d19.cal S fun F => fok__law_end F T
  have C__law_rows := d20.cal S fun F => fok__law_rows F T
  have C__law_is_span := d21.cal S fun F => fok__law_is_span F T C__law_whole
  have G22 := fok__law_test (P := l.prog) (w := w) (base := base) F22 T M__law_test
  have C__law_test := cal_mk G22 b22 k22 (PySem.W.mg_of X G a22)
  have C__law_all := d23.cal S fun F => fok__law_all F T CO
  have C__law_times := d24.cal S fun F => fok__law_times F T
  have C__law_told := d25.cal (hb := fun _ _ _ _ _ _ => len6 fun _ _ _ _ _ _ => rfl) S fun F => fok__law_told F T C__law_all C__law_whole C__law_is_span
  have C__law_any := d26.cal S fun F => fok__law_any F T C__law_far C__law_any_map C__law_zig C__law_cell_at C__law_any_test
  have C__law_drawn := d27.cal S fun F => fok__law_drawn F T C__law_map C__law_rows C__law_times C__law_test C__law_cell_at C__law_end
  exact law_ofB (F := K63.law.f) (fok_law F28 T C_first_run C__law_told C__law_any C__law_drawn C__law_rows C__law_cell_at) run_law
end K63
namespace PySem.W.Fast
def tw8416864171855115934:=0
def tw3690501166723067458:=0
def tw6986727789744271748:=0
def tw4152741234716023546:=0
def tw11082899736841737802:=0
def tw6733117257819267060:=0
def tw10693356012272189349:=0
def tw6675290819301696294:=0
def tw11409046177641375487:=0
def tw3045731507934178648:=0
def tw16986278754894526907:=0
def tw4815449536309775821:=0
def tw10495852697707557479:=0
def tw13102938766920299879:=0
def tw12296604980959722164:=0
def tw4351358058206913215:=0
def tw9415435468935589117:=0
def tw659753019939450236:=0
def tw6868560198777301786:=0
def tw11960980057921920860:=0
def tw13443153183117288449:=0
def tw11185315978455131917:=0
def tw7282010636880176136:=0
def tw17037990215761445630:=0
def tw2446058138104138307:=0
def tw5899291636276273962:=0
def tw2618871116874326979:=0
def tw5190323651395800981:=0
def tw2525977579439970818:=0
def tw14825161575826703726:=0
def tw10045585582144835578:=0
def tw9110275774484470619:=0
def tw3526878049779440931:=0
def tw7059025854028228855:=0
def tw9766230440364805757:=0
def tw18159988498895161938:=0
def tw12533400296475041106:=0
def tw9488536146586127128:=0
def tw15786686747076211188:=0
def tw7657368644792801144:=0
def tw16578086344177811049:=0
def tw12956113598851854358:=0
def tw9807247055651344471:=0
def tw11903190366555555216:=0
def tw17200841884479080188:=0
def tw15398656839627613169:=0
def tw7485467217310075472:=0
def tw8791630529007352686:=0
def tw1427352166382045112:=0
def tw12971015622631066542:=0
def tw16725792680504457614:=0
def tw3509923973561608385:=0
def tw9993561084907552207:=0
def tw11280249751124390333:=0
def tw521876698616853562:=0
def tw1619767769058928017:=0
def tw6293048813878365475:=0
def tw3031114429420889483:=0
def tw13800927789686251787:=0
def tw1226313403778822456:=0
def tw5381892189281953594:=0
def tw16673294077796337882:=0
def tw577603214217472043:=0
def tw16326196005398264892:=0
def tw14245322555423691288:=0
def tw10440027616874900055:=0
def tw7120101788514265100:=0
def tw16488053415195482178:=0
def tw16851627780768524459:=0
def tw796591570128325902:=0
def tw5949537969674738851:=0
def tw10076228450627815431:=0
def tw5410000385193292710:=0
def tw11794546307446207149:=0
def tw8005859468776654931:=0
def tw16583681583138084002:=0
def tw4613295353260055911:=0
def tw12553996063018781:=0
def tw8774581777765461285:=0
def tw9975621616176227742:=0
def tw15844488673627368363:=0
def tw7198306075054653852:=0
def tw11778392475051003364:=0
def tw5693080939174828311:=0
def tw1866548925190219165:=0
def tw15226593374515634073:=0
def tw1646004602041901164:=0
def tw3408431727424818615:=0
def tw500426233402925833:=0
def tw17766798923308408233:=0
def tw7000433275940751401:=0
def tw17500930979460204777:=0
def tw8079960890768464749:=0
def tw838985051238111372:=0
def tw3223639334006777122:=0
def tw4233007818365795239:=0
def tw9233198900675951236:=0
def tw11103324468988755606:=0
def tw4297637805862811473:=0
def tw17856824358806310804:=0
def tw13101451154583248376:=0
def tw4552712386372506886:=0
def tw11038448299847128390:=0
def tw13069603618441869376:=0
def tw4537575531588335299:=0
def tw2927396228165039974:=0
def tw3826854949999517350:=0
def tw8654405602778031587:=0
def tw2340318874019923937:=0
def tw14121160813055492211:=0
def tw2969995991046947822:=0
def tw18403895905316272953:=0
def tw10464663529612471922:=0
def tw17392877587995961097:=0
def tw12738303485962241181:=0
def tw5370225961043215033:=0
def tw11985070654148156884:=0
def tw15796270172484577696:=0
def tw1932306741225391672:=0
def tw11112743307180157498:=0
def tw17336799285226947373:=0
def tw16893414202518571292:=0
def tw10966451107262727265:=0
def tw17735217472511906612:=0
def tw11932905812468514721:=0
def tw9795096147239890092:=0
def tw11527265989691254923:=0
def tw8220728802610826282:=0
def tw6000266817777973622:=0
def tw180138721306102462:=0
def tw4276382419057925921:=0
def tw18314133656740318074:=0
def tw6457463557505683101:=0
def tw7333214866826785670:=0
end PySem.W.Fast
open PySem PySem.W PyProof.Rows
set_option maxRecDepth 100000 in
set_option maxHeartbeats 0 in
theorem PySem.Challenge.cw_spanmap_k63_whole_first_run_holds : PySem.Challenge.rw_spanmap_k63_whole_first_run.Holds := by
  w_on; o_law; k_head; (case hw => w_witness2)
  k_fill
  refine' FL.walkB (l := PySem.Challenge.rw_spanmap_k63_whole_first_run) (k := 6) rfl rfl ⟨rfl, by decide, by decide⟩ (fun w h Y => PySem.W.km_in_of Y) (fun w => by kernel_rfl) ?T ?F
  case T =>
    intro w
    dsimp only [L2.makers]
    repeat (first
      | exact FL.TabL.nil
      | (apply FL.tabL_no; k_is)
      | (apply FL.tabL_yes; k_is; k_is; exact rfl; k_is; exact rfl; kernel_rfl))
    all_goals decide
  case F =>
    intro w mg fa h KX G hmg
    refine' K63.all_mk KX G hmg ..
    all_goals first | ((first | unfold FL.DefM | unfold FL.DefC); iterate 9 (apply Exists.intro); repeat' (first | (unfold FL.LkF; k_is) | k_is | apply And.intro)) | ((first | unfold FL.CN | unfold FL.XN | unfold FL.XI); repeat' (first | k_is | apply And.intro | decide)) | (unfold L2.NoAttr; k_is) | (unfold FL.LkF; k_is) | k_is | k_exc | decide | exact rfl | skip
#print axioms PySem.Challenge.cw_spanmap_k63_whole_first_run_holds
